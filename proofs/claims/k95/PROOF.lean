import PyProof.Rows.All
import Wide.All
import OpenK.AllK
import Wide.FinOn
import HandS.ForMost
import HandS.AnyAll
import HandS.Nested
import HandS.GenOver
import PyProof.GenQ
import HandS.SortOrd
import HandS.NamedTupSort
import HandS.TupSets
import KE.KSortTupAny
import HandS.SetBool
import HandS.SortInts
import KE.KTupSum
import HandS.TupLen
import HandS.IsInst
import HandS.Deep
import HandS.TupAny
import HandS.Star
import HandS.Wide
import HandS.Remove
import HandS.SetFor
import HandS.EndTab
import HandS.Lambda
import HandS.Conv
import HandS.Zip
import HandS.ExcOwn
import HandS.ExcIs
import HandS.WordsExc
import HandS.HotCalls
import KE.DataFind
import HandS.Style
import HandS.Codes
import HandS.Iter
import HandS.FStr
import HandS.StrMore
import HandS.RaiseMore
import KE.GoesMore
import KE.GoesEnum
import HandS.Strs
import HandS.Comp
import PyProof.CallFns
import PyProof.ReprRoads
import PyProof.ReprLen
import PySem.Challenge.RW_layfaces_k95_stacks_written_and_read
set_option Elab.async false
set_option linter.all false
set_option maxRecDepth 100000
set_option maxHeartbeats 2000000
/-! all(..), any(..) of a generator expression whose element is any expression of the layer (calls among them). -/
namespace GxA
open PySem PySem.Spec PyProof.Rows L2 GxR GenW

/-- the generator expression's own environment -/
abbrev gE (X : Cx) (sc : Scope) (cd : Value) (C : Addr) : Env := genEnv sc (cloFrom X.env.cells sc.names []) C cd builtinsNs X.env
/-- its context: it runs over the frames of X -/
def gcx (X : Cx) (N : List Str) (sc : Scope) (cd : Value) (C : Addr) (A : Around) (s : Shared) (H : Hp) (fp : List Addr) (pn : List (Addr × Obj)) : Cx where
  prog := X.prog
  w := X.w
  K := X.K
  mg := X.mg
  base := X.base
  A := A.deeper (gE X sc cd C)
  N := N
  s_0 := s
  H_0 := H
  env := gE X sc cd C
  outer := X.stack
  stack := gE X sc cd C :: X.stack
  ex := fp
  fn := fun _ => false
  calm := true
  pn := pn
  xe := fun _ _ => False

theorem over_loopG {A : Around} {elt : Expr} {gs : List Comprehension} {sc : Scope} {p : Pos} {it acc : Value} {env : Env} : A.over (.compLoop (.GeneratorExp elt gs sc p) 0 it acc env) [] = A.deeper env := by
  obtain ⟨a1, a2, a3, a4, a5⟩ := A
  simp [Around.over, Around.deeper, marksOver, frameCount, unitsOf, envsOf, guardsOf, pushEnvs, pushGuards, Code.envs, Code.env?, Code.isFrame, Code.guards, Code.isGuard, Code.weight, Code.frames, Code.isCreation, Code.isCaller, Code.cUnits]
theorem over_startG {A : Around} {elt : Expr} {gs : List Comprehension} {sc : Scope} {p : Pos} {it acc : Value} {env : Env} : A.over (.compStart (.GeneratorExp elt gs sc p) 0 it acc env) [] = A.deeper env := by
  obtain ⟨a1, a2, a3, a4, a5⟩ := A
  simp [Around.over, Around.deeper, marksOver, frameCount, unitsOf, envsOf, guardsOf, pushEnvs, pushGuards, Code.envs, Code.env?, Code.isFrame, Code.guards, Code.isGuard, Code.weight, Code.frames, Code.isCreation, Code.isCaller, Code.cUnits]

/-- the consumer has only looked at a truth -/
structure Still (g : Nat) (s s' : Shared) : Prop where
  heap : s'.heap = s.heap
  os : s'.os = s.os
  bare : AllBare s'.gens
  sz : g < s'.gens.size
theorem inv_still {X : Cx} {pins : List (Addr × Obj)} {σ : L2.St} {H : Hp} {s s' : Shared} {g : Nat} (I : Inv X pins σ H s) (z : Still g s s') : Inv X pins σ H s' :=
  I.call' (ch := []) z.os (by rw [z.heap]; exact Un.refl) (by rw [z.heap]; exact I.hok) z.bare fun b hb => absurd hb (by simp)

def gY (X' : Cx) (g : Nat) (all : Bool) (Q : VK) : Protocol := fun _ _ v s kap =>
  ∃ (b : Bool) (pins : List (Addr × Obj)) (σ : L2.St) (H : Hp), v = .bool b ∧ Inv X' pins σ H s ∧ g < s.gens.size ∧ (b ≠ all → Q (.bl b) H) ∧ (b = all → ∀ s', Still g s s' → kap (.send .none) s')
def gP (X' : Cx) (all : Bool) (Q : VK) : Nat → Shared → Shared → Prop := fun _ _ s =>
  ∃ (pins : List (Addr × Obj)) (σ : L2.St) (H : Hp), Inv X' pins σ H s ∧ Q (.bl all) H
abbrev gR (X' : Cx) (all : Bool) (Q : VK) : GenEnd := fun n s₀ r s₁ => r = .ok .next ∧ gP X' all Q n s₀ s₁

/-- what is to be shown of the walk: W by the turn and how many turns are left -/
def gW (all : Bool) (J : It) (σc : L2.St) (te : TE) (Q : VK) (W : Nat → Nat → Hp → Prop) : Prop := ∀ i m H3, W i m H3 →
  (J.stop i H3 ∧ Q (.bl all) H3) ∨ ∃ m', m = m' + 1 ∧ J.go i H3 ∧ ∀ x H4, J.yld i H3 x H4 → te (some x :: σc) H4 fun v H5 => ∃ b : Bool, v = .bl b ∧ (b = all → W (i + 1) m' H5) ∧ (b ≠ all → Q (.bl b) H5)

section
variable {X : Cx} {N : List Str} {sc : Scope} {cd : Value} {C : Addr} {A : Around} {s2 : Shared} {H1 : Hp} {fp : List Addr} {pn : List (Addr × Obj)} {g : Nat} {all : Bool} {Q : VK} {J : It} {it : Addr} {tn : Nat → Heap → Prop} {x : Str} {px gpos : Pos} {elt iter : Expr} {te : TE} {W : Nat → Nat → Hp → Prop} {σc : L2.St}

theorem seg_loopG (T : Turn X.prog X.w X.K (.Name x px) J fp it tn) (hx : sc.names.lookup x = some .local) (hco : sc.isCoroutine = false) (hnd : N.Nodup) (hN : N[0]? = some x)
    (hel : PE (gcx X N sc cd C A s2 H1 fp pn) elt te) (hW : gW all J σc te Q W) :
    ∀ (m i : Nat) (s₀ s : Shared) (H : Hp) (y : Option V), W i m H → Inv (gcx X N sc cd C A s2 H1 fp pn) [] (y :: σc) H s → (∀ b ∈ fp, FpOk (gcx X N sc cd C A s2 H1 fp pn) [] H b) → tn i s.heap → g < s.gens.size →
      Seg (model X.prog X.w) A (gR (gcx X N sc cd C A s2 H1 fp pn) all Q) (gY (gcx X N sc cd C A s2 H1 fp pn) g all Q) m s₀
        (.compLoop (.GeneratorExp elt [⟨.Name x px, iter, [], 0⟩] sc gpos) 0 (.ref it) .none (gE X sc cd C))
        ((model X.prog X.w).den (.compLoop (.GeneratorExp elt [⟨.Name x px, iter, [], 0⟩] sc gpos) 0 (.ref it) .none (gE X sc cd C))) [] s := by
  have stopped : ∀ (m i : Nat) (s₀ s : Shared) (H : Hp) (y : Option V), J.stop i H → Q (.bl all) H → Inv (gcx X N sc cd C A s2 H1 fp pn) [] (y :: σc) H s → (∀ b ∈ fp, FpOk (gcx X N sc cd C A s2 H1 fp pn) [] H b) → tn i s.heap →
      Seg (model X.prog X.w) A (gR (gcx X N sc cd C A s2 H1 fp pn) all Q) (gY (gcx X N sc cd C A s2 H1 fp pn) g all Q) m s₀
        (.compLoop (.GeneratorExp elt [⟨.Name x px, iter, [], 0⟩] sc gpos) 0 (.ref it) .none (gE X sc cd C))
        ((model X.prog X.w).den (.compLoop (.GeneratorExp elt [⟨.Name x px, iter, [], 0⟩] sc gpos) 0 (.ref it) .none (gE X sc cd C))) [] s := by
    intro m i s₀ s H y hs hq I hf st
    show Seg _ A _ _ _ s₀ _ ((compTurn (.GeneratorExp elt [⟨.Name x px, iter, [], 0⟩] sc gpos) 0 (.ref it) .none (gE X sc cd C)).onRaise (leaving (gE X sc cd C))) [] s
    rw [compTurn_gen, Sem.onRaise_eq_wrap]
    refine seg_bind_wrap (wpAny_standAt ?_)
    refine seg_bind_wrap ?_
    rw [over_loopG]
    refine wpAny_mono (T.done (gcx X N sc cd C A s2 H1 fp pn) rfl rfl rfl rfl i [] s _ H (fun _ _ => False) I hf st hs) (fun r s1 hr => ?_) fun _ _ e => e.elim
    obtain ⟨rfl, I1⟩ := hr
    exact seg_end (.ok .next) ⟨rfl, [], _, H, I1, hq⟩
  intro m
  induction m with
  | zero =>
    intro i s₀ s H y w I hf st hg
    rcases hW i 0 H w with ⟨hs, hq⟩ | ⟨m', e, _⟩
    · exact stopped 0 i s₀ s H y hs hq I hf st
    · exact absurd e (by omega)
  | succ m ih =>
    intro i s₀ s H y w I hf st hg
    rcases hW i (m + 1) H w with ⟨hs, hq⟩ | ⟨m', e, hgo, hturn⟩
    · exact stopped (m + 1) i s₀ s H y hs hq I hf st
    have em : m' = m := by omega
    subst em
    show Seg _ A _ _ _ s₀ _ ((compTurn (.GeneratorExp elt [⟨.Name x px, iter, [], 0⟩] sc gpos) 0 (.ref it) .none (gE X sc cd C)).onRaise (leaving (gE X sc cd C))) [] s
    rw [compTurn_gen, Sem.onRaise_eq_wrap]
    refine seg_bind_wrap (wpAny_standAt ?_)
    refine seg_bind_wrap ?_
    rw [over_loopG]
    refine wpAny_gsz (n := g + 1) hg (wpAny_mono (T.item (gcx X N sc cd C A s2 H1 fp pn) rfl rfl rfl rfl i [] s _ H (fun _ _ => False) I hf st hgo) (fun r s1 hr hg1 => ?_) fun _ _ e => e.elim)
    obtain ⟨u, rfl, hr⟩ := hr
    refine seg_bind_wrap ?_
    rw [over_loopG]
    refine wpAny_gsz (n := g + 1) hg1 (wpAny_mono hr (fun _ s3 h3 hg3 => ?_) fun _ _ e => e.elim)
    obtain ⟨v, H4, I3, rv, hy, st3, hfn⟩ := h3
    have hf3 : ∀ b ∈ fp, FpOk (gcx X N sc cd C A s2 H1 fp pn) [] H4 b := fun b hb => let ⟨_, z⟩ := hf b hb; ⟨hfn b hb, z⟩
    refine seg_bind_wrap (wpAny_assign_Name ?_)
    rw [over_loopG]
    refine wpAny_gsz (n := g + 1) hg3 ?_
    refine store_ok2 (X := gcx X N sc cd C A s2 H1 fp pn) (i := 0) I3 hnd hN (.inl hx) rv (fun s4 I4 hsame hg4 => ?_) (.inr hx)
    obtain ⟨c, sb, hc⟩ := hsame
    have st4 : tn (i + 1) s4.heap := T.keep _ _ _ st3 fun b hb o e => (sb.2 b fun z => by
      obtain ⟨_, f1, _, _, f4, _⟩ := hf3 b hb
      rcases hc with hc | hc
      · exact f1 (z.trans hc)
      · exact f4 x c hc z.symm).trans e
    refine seg_bind_wrap (wpAny_pure ?_)
    simp only [if_true]
    have hyo : ∀ v, yieldOut (gE X sc cd C) v = yieldValue v := fun v => by
      unfold yieldOut
      rw [show (gE X sc cd C).scope.isCoroutine = false from hco]
      rfl
    simp only [hyo]
    rw [Sem.bind_eq_wrap', Sem.bind_eq_wrap', Sem.wrap_wrap, Sem.wrap_wrap]
    refine seg_wrap ?_
    rw [over_loopG]
    have I4' : Inv (gcx X N sc cd C A s2 H1 fp pn) ([] ++ pinsAt fp s4.heap) (some v :: σc) H4 s4 := Inv.pinned I4 hf3 (T.obj _ _ st4)
    refine wpAny_gsz (n := g + 1) hg4 (wpAny_mono (hel.run _ s4 (some v :: σc) H4 _ I4' (hturn v H4 hy)) (fun yv s5 h5 hg5 => ?_) fun _ _ e => e.elim)
    obtain ⟨v5, H5, I5, r5, b, rfl, hb1, hb2⟩ := h5
    obtain rfl : yv = Value.bool b := r5
    refine seg_at (seg_yield rfl rfl rfl ⟨b, _, _, H5, rfl, I5, hg5, hb2, fun hb s6 z => ?_⟩)
    have I6 := inv_still I5 z
    have pinK : ∀ b ∈ fp, ∀ o, s4.heap.get? b = some o → s6.heap.get? b = some o ∧ H5 b = none := fun b hb o e => by
      have q := I6.pin (b, o) (List.mem_append_right _ (List.mem_append_right _ (mem_pinsAt hb e)))
      exact ⟨q.1, q.2.1⟩
    refine seg_again rfl (ih (i + 1) s6 s6 H5 (some v) (hb1 hb) (I6.pins_of fun p hp => absurd hp (by simp)) (fun b hb => ?_) (T.keep _ _ _ st4 fun b hb o e => (pinK b hb o e).1) z.sz)
    obtain ⟨_, f1⟩ := hf3 b hb
    obtain ⟨o, ho, _⟩ := T.obj _ _ st4 b hb
    exact ⟨(pinK b hb o ho).2, f1⟩

theorem seg_startG (T : Turn X.prog X.w X.K (.Name x px) J fp it tn) (hx : sc.names.lookup x = some .local) (hco : sc.isCoroutine = false) (hnd : N.Nodup) (hN : N[0]? = some x)
    (hel : PE (gcx X N sc cd C A s2 H1 fp pn) elt te) (hW : gW all J σc te Q W) (m i : Nat) (s₀ s : Shared) (H : Hp) (y : Option V) (w : W i m H) (I : Inv (gcx X N sc cd C A s2 H1 fp pn) [] (y :: σc) H s)
    (hf : ∀ b ∈ fp, FpOk (gcx X N sc cd C A s2 H1 fp pn) [] H b) (st : tn i s.heap) (hg : g < s.gens.size) :
      Seg (model X.prog X.w) A (gR (gcx X N sc cd C A s2 H1 fp pn) all Q) (gY (gcx X N sc cd C A s2 H1 fp pn) g all Q) m s₀
        (.compStart (.GeneratorExp elt [⟨.Name x px, iter, [], 0⟩] sc gpos) 0 (.ref it) .none (gE X sc cd C))
        ((model X.prog X.w).den (.compStart (.GeneratorExp elt [⟨.Name x px, iter, [], 0⟩] sc gpos) 0 (.ref it) .none (gE X sc cd C))) [] s := by
  have loop := seg_loopG (iter := iter) (gpos := gpos) (g := g) T hx hco hnd hN hel hW m i s₀ s H y w I hf st hg
  show Seg _ A _ _ _ s₀ _ ((compStart (.GeneratorExp elt [⟨.Name x px, iter, [], 0⟩] sc gpos) 0 (.ref it) .none (gE X sc cd C)).onRaise (leaving (gE X sc cd C))) [] s
  unfold compStart
  rw [Sem.onRaise_eq_wrap]
  show Seg _ A _ _ _ s₀ _ ((ask >>= _).wrap _ _ _ _) [] s
  refine seg_bind_wrap (wpAny_askSetting ?_)
  split
  · exact seg_again rfl loop
  · refine seg_bind_wrap (wpAny_rule ?_)
    show Seg _ A _ _ _ s₀ _ ((standAt iter.pos >>= _).wrap _ _ _ _) [] s
    exact seg_bind_wrap (wpAny_standAt (seg_bind_wrap (T.self _ i s _ _ st (seg_again rfl loop))))
end
end GxA

set_option maxHeartbeats 2000000
namespace GxA
open PySem PySem.Spec PyProof.Rows L2 GxR GenW

/-- the generator at a sleeps, m turns are left -/
def Ready (X' : Cx) (P : Program) (w : World) (A : Around) (a : Addr) (g : Nat) (all : Bool) (Q : VK) (m : Nat) (s : Shared) : Prop :=
  s.heap.IsGen a g ∧ s.heap.NoLimit ∧ AllBare s.gens ∧ ∃ gs, s.gens[g]? = some gs ∧ ∀ s', Still g s s' → gs.Goes (model P w) A.in1 (gR X' all Q) (gY X' g all Q) m (.send .none) s'
/-- the walk is over -/
def Over (X' : Cx) (Q : VK) (v : Bool) (s : Shared) : Prop := ∃ (pins : List (Addr × Obj)) (σ : L2.St) (H : Hp), Inv X' pins σ H s ∧ Q (.bl v) H

theorem gens_lt {gens : Array GenState} {g : Nat} {gs : GenState} (h : gens[g]? = some gs) : g < gens.size := by
  rcases Nat.lt_or_ge g gens.size with z | z
  · exact z
  · rw [Array.getElem?_eq_none z] at h
    cases h
theorem bare_set {s : Shared} {g : Nat} {x : GenState} (h : AllBare s.gens) (hx : x.bare = true) : AllBare (s.setGen g x).gens := by
  intro y hy
  unfold Shared.setGen at hy
  rcases Array.mem_or_eq_of_mem_setIfInBounds hy with z | z
  · exact h y z
  · rw [z]
    exact hx

section
variable {X' : Cx} {A : Around} {a : Addr} {g : Nat} {all : Bool} {Q : VK} {go : Obj}
theorem next_G (hA : A.handled = none) (hd : A.depth < recursionLimit) (hp : (a, go) ∈ X'.pn) (hgo : ∀ h : Heap, h.get? a = some go → h.IsGen a g) {m : Nat} {s : Shared} {E : Value → Shared → Prop} (r : Ready X' X'.prog X'.w A a g all Q m s) :
    wpAny (model X'.prog X'.w) A (pyNext (.ref a)) (fun o s' => (o = none ∧ Over X' Q all s') ∨ ∃ b : Bool, o = some (.bool b) ∧ ((b ≠ all ∧ Over X' Q b s') ∨ (b = all ∧ ∃ m', m = m' + 1 ∧ Ready X' X'.prog X'.w A a g all Q m' s'))) E s := by
  obtain ⟨hg, hl, hb, gs, hgs, goes⟩ := r
  have hlt := gens_lt hgs
  have z0 : Still g s (s.setGen g .running) := ⟨rfl, rfl, bare_set hb rfl, by rw [setGen_size]; exact hlt⟩
  refine wpAny_pyNext_genexpQ (P := gP X' all Q) (Y := gY X' g all Q) (n := m) hA hl hd hg hgs (goes _ z0) (fun v s₁ gs' hbare hv => ?_) (fun s₁ hp1 h' hk => ?_)
  · obtain ⟨b, pins, σ, H, rfl, I, hsz, q1, q2⟩ := hv
    have J : Inv X' pins σ H (s₁.setGen g gs') := inv_still (g := g) I ⟨rfl, rfl, bare_set I.bare hbare, by rw [setGen_size]; exact hsz⟩
    refine .inr ⟨b, rfl, ?_⟩
    by_cases hb1 : b = all
    · refine .inr ⟨hb1, ?_⟩
      cases m with
      | zero => exact (q2 hb1 _ ⟨rfl, rfl, I.bare, hsz⟩).elim
      | succ m' =>
        refine ⟨m', rfl, hgo _ (J.pin (a, go) (List.mem_append_left _ hp)).1, J.nolimit, J.bare, gs', ?_, fun s' z => q2 hb1 s' ⟨z.heap, z.os, z.bare, z.sz⟩⟩
        simp [Shared.setGen, hsz]
    · exact .inl ⟨hb1, pins, σ, H, J, q1 hb1⟩
  · obtain ⟨pins, σ, H, I, q⟩ := hp1
    refine .inl ⟨rfl, pins, σ, H, ?_, q⟩
    exact I.call' (s' := { s₁.setGen g .finished with heap := h' }) (ch := []) rfl (Un.kept hk) (I.hok.kept hk) (bare_set I.bare rfl) fun b hb => absurd hb (by simp)

theorem all_G (hA : A.handled = none) (hd : A.depth < recursionLimit) (hp : (a, go) ∈ X'.pn) (hgo : ∀ h : Heap, h.get? a = some go → h.IsGen a g) {R : Result → Shared → Prop} (hR : ∀ b s', Over X' Q b s' → R (.ok (.ret (.bool b))) s') :
    ∀ (m : Nat) (s : Shared), Ready X' X'.prog X'.w A.in1 a g true Q m s → codeAny (model X'.prog X'.w) A (.builtin "all.loop" ⟨[.ref a], []⟩) R s := by
  intro m
  induction m with
  | zero =>
    intro s r
    refine codeAny_builtin F.entry_all_loop ?_
    rw [Around.under_plainId F.plain_all_loop _]
    show wpAny _ A.in1 (pyNext (.ref a) >>= _) _ _ s
    refine wpAny_bind (wpAny_mono (next_G (A := A.in1) hA hd hp hgo r) (fun o s' h => ?_) fun _ _ e => e)
    rcases h with ⟨rfl, ov⟩ | ⟨b, rfl, ⟨hb, ov⟩ | ⟨_, m', e, _⟩⟩
    · exact wpAny_bind (wpAny_rule (wpAny_pure (hR true s' ov)))
    · refine wpAny_bind (wpAny_holding (wpAny_truthy_bool ?_))
      refine wpAny_bind (wpAny_letGo ?_)
      cases b with
      | true => exact absurd rfl hb
      | false =>
        simp only [Bool.false_eq_true, if_false]
        exact wpAny_bind (wpAny_rule (wpAny_pure (hR false s' ov)))
    · exact absurd e (by omega)
  | succ m ih =>
    intro s r
    refine codeAny_builtin F.entry_all_loop ?_
    rw [Around.under_plainId F.plain_all_loop _]
    show wpAny _ A.in1 (pyNext (.ref a) >>= _) _ _ s
    refine wpAny_bind (wpAny_mono (next_G (A := A.in1) hA hd hp hgo r) (fun o s' h => ?_) fun _ _ e => e)
    rcases h with ⟨rfl, ov⟩ | ⟨b, rfl, ⟨hb, ov⟩ | ⟨hb, m', e, rd⟩⟩
    · exact wpAny_bind (wpAny_rule (wpAny_pure (hR true s' ov)))
    · refine wpAny_bind (wpAny_holding (wpAny_truthy_bool ?_))
      refine wpAny_bind (wpAny_letGo ?_)
      cases b with
      | true => exact absurd rfl hb
      | false =>
        simp only [Bool.false_eq_true, if_false]
        exact wpAny_bind (wpAny_rule (wpAny_pure (hR false s' ov)))
    · subst hb
      have em : m' = m := by omega
      subst em
      refine wpAny_bind (wpAny_holding (wpAny_truthy_bool ?_))
      refine wpAny_bind (wpAny_letGo ?_)
      simp only [if_true]
      exact wpAny_pure ⟨plainId_quiet F.plain_all_loop _, ih s' rd⟩

theorem any_G (hA : A.handled = none) (hd : A.depth < recursionLimit) (hp : (a, go) ∈ X'.pn) (hgo : ∀ h : Heap, h.get? a = some go → h.IsGen a g) {R : Result → Shared → Prop} (hR : ∀ b s', Over X' Q b s' → R (.ok (.ret (.bool b))) s') :
    ∀ (m : Nat) (s : Shared), Ready X' X'.prog X'.w A.in1 a g false Q m s → codeAny (model X'.prog X'.w) A (.builtin "any.loop" ⟨[.ref a], []⟩) R s := by
  intro m
  induction m with
  | zero =>
    intro s r
    refine codeAny_builtin F.entry_any_loop ?_
    rw [Around.under_plainId F.plain_any_loop _]
    show wpAny _ A.in1 (pyNext (.ref a) >>= _) _ _ s
    refine wpAny_bind (wpAny_mono (next_G (A := A.in1) hA hd hp hgo r) (fun o s' h => ?_) fun _ _ e => e)
    rcases h with ⟨rfl, ov⟩ | ⟨b, rfl, ⟨hb, ov⟩ | ⟨_, m', e, _⟩⟩
    · exact wpAny_bind (wpAny_rule (wpAny_pure (hR false s' ov)))
    · refine wpAny_bind (wpAny_holding (wpAny_truthy_bool ?_))
      refine wpAny_bind (wpAny_letGo ?_)
      cases b with
      | false => exact absurd rfl hb
      | true =>
        simp only [if_true]
        exact wpAny_bind (wpAny_rule (wpAny_pure (hR true s' ov)))
    · exact absurd e (by omega)
  | succ m ih =>
    intro s r
    refine codeAny_builtin F.entry_any_loop ?_
    rw [Around.under_plainId F.plain_any_loop _]
    show wpAny _ A.in1 (pyNext (.ref a) >>= _) _ _ s
    refine wpAny_bind (wpAny_mono (next_G (A := A.in1) hA hd hp hgo r) (fun o s' h => ?_) fun _ _ e => e)
    rcases h with ⟨rfl, ov⟩ | ⟨b, rfl, ⟨hb, ov⟩ | ⟨hb, m', e, rd⟩⟩
    · exact wpAny_bind (wpAny_rule (wpAny_pure (hR false s' ov)))
    · refine wpAny_bind (wpAny_holding (wpAny_truthy_bool ?_))
      refine wpAny_bind (wpAny_letGo ?_)
      cases b with
      | false => exact absurd rfl hb
      | true =>
        simp only [if_true]
        exact wpAny_bind (wpAny_rule (wpAny_pure (hR true s' ov)))
    · subst hb
      have em : m' = m := by omega
      subst em
      refine wpAny_bind (wpAny_holding (wpAny_truthy_bool ?_))
      refine wpAny_bind (wpAny_letGo ?_)
      simp only [Bool.false_eq_true, if_false]
      exact wpAny_pure ⟨plainId_quiet F.plain_any_loop _, ih s' rd⟩
end

/-- the captured names: the place of each in the def's own slots -/
def CapsOk (X : Cx) (sc : Scope) : List Nat → List Str → Prop
  | [], [] => True
  | i :: is, y :: ys => (X.N[i]? = some y ∧ (X.env.scope.names.lookup y = some .cell ∨ X.env.scope.names.lookup y = some .free) ∧ sc.names.lookup y = some .free) ∧ CapsOk X sc is ys
  | _, _ => False
theorem CapsOk.get {X : Cx} {sc : Scope} : ∀ {is : List Nat} {ys : List Str} {j : Nat} {y : Str}, CapsOk X sc is ys → ys[j]? = some y →
    ∃ i, is[j]? = some i ∧ X.N[i]? = some y ∧ (X.env.scope.names.lookup y = some .cell ∨ X.env.scope.names.lookup y = some .free) ∧ sc.names.lookup y = some .free
  | [], [], _, _, _, e => by simp at e
  | i :: is, y' :: ys, 0, y, h, e => by
    have e' : y' = y := by simpa using e
    subst e'
    exact ⟨i, rfl, h.1⟩
  | i :: is, y' :: ys, j + 1, y, h, e => by
    obtain ⟨i', z⟩ := CapsOk.get (j := j) (y := y) h.2 (by simpa using e)
    exact ⟨i', by simpa using z⟩
  | [], _ :: _, _, _, h, _ => h.elim
  | _ :: _, [], _, _, h, _ => h.elim
theorem CapsOk.len {X : Cx} {sc : Scope} : ∀ {is : List Nat} {ys : List Str}, CapsOk X sc is ys → is.length = ys.length
  | [], [], _ => rfl
  | i :: is, y :: ys, h => by
    rw [List.length_cons, List.length_cons, CapsOk.len h.2]
  | [], _ :: _, h => h.elim
  | _ :: _, [], h => h.elim

/-- the captured slots -/
def capV (caps : List Nat) (σ : L2.St) : L2.St := caps.map fun j => (σ[j]?).getD none

section
variable {X : Cx} {pins : List (Addr × Obj)} {σ : L2.St} {H : Hp} {s : Shared}
/-- the generator's context begins -/
theorem inv_beginG {xs : List Str} {x : Str} {sc : Scope} {caps : List Nat} {cd : Value} {C a : Addr} {A : Around} {s2 s5 : Shared} {H1 H2 : Hp} {fp : List Addr} {go : Obj} {mC : Str → Option Value}
    (I1 : Inv X pins σ H1 s2) (I5 : Inv X pins σ H2 s5) (S : GenS X.env sc x) (hc : CapsOk X sc caps xs) (hA : A.handled = none) (hfr : A.frames = some X.stack)
    (hfp : ∀ b ∈ fp, FpOk X pins H1 b) (hfp2 : ∀ b ∈ fp, H2 b = none ∧ b < s2.heap.objs.size)
    (un : Un (frs X.stack) fp H1 H2 s2.heap s5.heap) (hC : s2.heap.objs.size ≤ C) (hns : s5.heap.Ns C mC) (hHC : H2 C = none) (hCf : C ∉ frs X.stack)
    (ha : s5.heap.get? a = some go) (hHa : H2 a = none) (haC : a ≠ C) (haf : a ∉ frs X.stack) (hgo : ∀ v, go.data ≠ .cell v) :
    Inv (gcx X (x :: xs) sc cd C A s2 H1 fp [(a, go)]) [] (none :: capV caps σ) H2 s5 := by
  have cm : ∀ y c, (cloFrom X.env.cells sc.names []).lookup y = some c → X.env.cells.lookup y = some c := fun y c e => NdefX.clo_cm S.free e
  have stk_lt : ∀ b ∈ frs X.stack, b < s2.heap.objs.size := fun b hb => by
    obtain ⟨_, o, ho, _⟩ := I1.stack.mem hb
    exact Heap.lt_size ho
  have cellLt : ∀ y c, X.env.cells.lookup y = some c → c < s2.heap.objs.size := fun y c e => by
    obtain ⟨v, q⟩ := I1.cell y c e
    exact q.lt
  refine ⟨⟨I1.ok.mod, S.kind, I1.ok.glob, rfl, hC, fun y z c e1 e2 => I1.ok.inj y z c (cm y c e1) (cm z c e2), fun y hy => ?_, fun y c hf _ => Bool.noConfusion hf, fun _ => hA, ?_, .inr ⟨rfl, rfl⟩, fun b hb => ⟨?_, fun y c e z => ?_⟩, I1.bs, Nat.le_trans I1.ok.bsz I1.sz, fun b o e hb => ?_, fun b hb hb2 => ?_, I1.stack, I1.stkFree⟩,
    ?_, I5.bare, un, ⟨mC, hns, fun j y v e1 e2 e3 => ?_⟩, fun y c e => I5.cell y c (cm y c e), hHC, fun y c e => I5.freeC y c (cm y c e), fun p hp => ?_, I5.hok, ?_⟩
  · have hy' : sc.names.lookup y = some .cell ∨ sc.names.lookup y = some .free := hy
    rcases hy' with q | q
    · exact absurd rfl (S.cell _ (PySem.mem_of_lookup q))
    · have hm := PySem.mem_of_lookup q
      obtain ⟨c, e⟩ := S.free _ hm rfl
      exact ⟨c, NdefX.clo_has S.free hm e⟩
  · show A.frames.map (gE X sc cd C :: ·) = some (gE X sc cd C :: X.stack)
    rw [hfr]
    rfl
  · show b ≠ C
    exact Nat.ne_of_lt (Nat.lt_of_lt_of_le (hfp2 b hb).2 hC)
  · obtain ⟨_, _, _, _, f4, _⟩ := hfp b hb
    exact f4 y c (cm y c e) z
  · have q := (hfp b hb).2.2.2.1
    rcases q with q | q
    · exact I1.ok.noex b o e q
    · have h1 := (I1.ok.bs b o e).1
      exact absurd (Nat.lt_of_lt_of_le (Heap.lt_size h1) q) (Nat.lt_irrefl _)
  · obtain ⟨_, f1, f2, _⟩ := hfp b hb
    rcases List.mem_cons.mp (I1.stkSub b hb2) with z | z
    · exact f1 z
    · exact f2 z
  · show s5.os = s2.os
    rw [I5.os, I1.os]
  · cases j with
    | zero =>
      have e2' : (none : Option V) = some v := by simpa using e2
      cases e2'
    | succ j =>
      have e1' : xs[j]? = some y := by
        have q : (x :: xs)[j + 1]? = some y := e1
        simpa using q
      obtain ⟨i, hi, hN, hk, hfree⟩ := hc.get e1'
      have hσ : σ[i]? = some (some v) := by
        have q : (capV caps σ)[j]? = some (some v) := by simpa using e2
        unfold capV at q
        rw [List.getElem?_map, hi] at q
        have q' : (σ[i]?).getD none = some v := by simpa using q
        cases z : σ[i]? with
        | none => rw [z] at q'; cases q'
        | some o => rw [z] at q'; exact congrArg some q'
      obtain ⟨m, hm, hl⟩ := I5.loc
      obtain ⟨u, ru, lk⟩ := hl i y v hN hσ (hk.elim (fun z => .inr (.inl z)) fun z => .inr (.inr z))
      refine ⟨u, ru, .inr ⟨.inr hfree, ?_⟩⟩
      rcases lk with ⟨z, _⟩ | ⟨_, c, e, ic⟩
      · have z' : X.env.scope.names.lookup y = some .local := z
        rcases hk with q | q <;> (rw [z'] at q; cases q)
      · exact ⟨c, NdefX.clo_has S.free (PySem.mem_of_lookup hfree) e, ic⟩
  · have hp' : p = (a, go) := by
      have q : p ∈ [(a, go)] ++ ([] : List (Addr × Obj)) := hp
      simpa using q
    subst hp'
    exact ⟨ha, hHa, haC, haf, hgo⟩
  · show (none :: capV caps σ).length = (x :: xs).length
    unfold capV
    rw [List.length_cons, List.length_cons, List.length_map, hc.len]
end
end GxA

set_option maxHeartbeats 2000000
namespace GxA
open PySem PySem.Spec PyProof.Rows L2 GxR GenW

/-- the reading of all(.. for x in ..), any(.. for x in ..) -/
def tGx (all : Bool) (P : Addr) (caps : List Nat) (wi : TI) (te : TE) : TE := fun σ H Q => wi σ H fun J H1 => TabG H1 P ∧ ∀ H2, Tabbed P H1 H2 →
  ∃ W : Nat → Nat → Hp → Prop, (∃ m, W 0 m H2) ∧ gW all J (capV caps σ) te Q W

section
variable {X : Cx} {pins : List (Addr × Obj)} {σ : L2.St} {H : Hp} {s : Shared}
theorem gen_make {all : Bool} {c P : Addr} {elt iter : Expr} {x : Str} {xs : List Str} {caps : List Nat} {px gpos : Pos} {sc : Scope} {wi : TI} {te : TE} {k : Nat} {Q : VK} {Q' : Value → Shared → Prop}
    (hr : Room (k + 1) X.A) (TB : TabB X.base X.mg c P) (hcode : X.env.code = .ref c) (S : GenS X.env sc x) (hcap : CapsOk X sc caps xs) (hnd : (x :: xs).Nodup) (hi : PI X (.Name x px) iter wi)
    (hel : ∀ (cd : Value) (C : Addr) (A : Around) (s2 : Shared) (H1 : Hp) (fp : List Addr) (pn : List (Addr × Obj)), Room k (A.deeper (gE X sc cd C)) → PE (gcx X (x :: xs) sc cd C A s2 H1 fp pn) elt te)
    (hs : ∀ v, genFold iter X.env v = pure v) (I : Inv X pins σ H s) (h : tGx all P caps wi te σ H Q)
    (hQ : ∀ (X' : Cx) (a : Addr) (g m : Nat) (go : Obj) (s5 : Shared), X'.prog = X.prog → X'.w = X.w → (a, go) ∈ X'.pn → (∀ h : Heap, h.get? a = some go → h.IsGen a g) → Ready X' X.prog X.w X.A.in1 a g all Q m s5 →
      (∀ b s', Over X' Q b s' → ∃ v H', Inv X pins σ H' s' ∧ RelV v (.bool b) ∧ Q v H') → Q' (.ref a) s5) :
    wpAny (model X.prog X.w) X.A (eval (.GeneratorExp elt [⟨.Name x px, iter, [], 0⟩] sc gpos) X.env) Q' X.xe s := by
  have hdep : X.A.depth < recursionLimit := hr.depth
  refine wpAny_GeneratorExp_make S.co (closure_ok S.free) S.cell S.dot S.kind hdep ?_ hs
  refine wpAny_mono (hi.run pins s σ H _ I h) (fun xv s1 h1 => wpAny_mono h1 (fun itv s2 h2 => ?_) fun _ _ e => e) fun _ _ e => e
  obtain ⟨it, fp, tn, J, H1, rfl, I1, T, t0, hfp, ⟨ps, hP, ht⟩, hW⟩ := h2
  refine ⟨I1.nolimit, ?_⟩
  have hPs : s2.heap.get? P = some { cls := .none, data := .fields ps } := I1.hok P _ hP
  have cdh : PySem.W.CodeHd s2.heap c P := TB.code.keeps fun b u e => I1.bk b u e
  have hPlt : P < s2.heap.objs.size := Heap.lt_size hPs
  have main : ∀ (code : Value) (h3 : Heap) (tk : Nat) (ps' : Array Value), Heap.ExtBut P s2.heap h3 → s2.heap.objs.size ≤ h3.objs.size → h3.get? P = some { cls := .none, data := .fields ps' } → (∃ more, ps' = ps ++ more) → TriplesOk ps'.toList →
      wpAny (model X.prog X.w) X.A (builtinsFor X.env.globals X.env.builtins) (fun bi s₄ =>
        ∀ h', h'.Ns s₄.heap.objs.size (fun y => if y = ".0" then some (Value.ref it) else none) → Heap.SameBut s₄.heap.objs.size (s₄.heap.push { cls := .type "frame", data := .dict #[] }) h' →
          Q' (.ref h'.objs.size) { s₄ with
            gens := s₄.gens.push (.fresh (.compStart (.GeneratorExp elt [⟨.Name x px, iter, [], 0⟩] sc gpos) 0 (.ref it) .none (genEnv sc (cloFrom X.env.cells sc.names []) s₄.heap.objs.size code bi X.env))),
            toks := s₄.toks + 1 + 1 + 1,
            heap := h'.push { cls := .type "generator", data := .fields #[.int s₄.gens.size 0, .str "<genexpr>" (s₄.toks + 1), .str (X.env.qual ++ "<genexpr>") (s₄.toks + 1 + 1)] } }) X.xe { s2 with heap := h3, toks := tk } := by
    intro code h3 tk ps' hx hsz hP3 hmore ht3
    obtain ⟨bm, ob, e1, e2, e3, e4, e5, e6, e7, e8⟩ := TB.bm
    have keep3 : ∀ b u, b ≠ P → s2.heap.get? b = some u → h3.get? b = some u := fun b u hb e => hx b u hb e
    refine wpAny_builtinsFor (m := X.mg) (by rw [I1.ok.glob]; exact (I1.mod.glob.keeps I1.bk).extBut hx TB.gP) e1 e2 (keep3 _ _ e4 (I1.bk _ _ e5)) e6 e7 e8 ?_
    intro h' hns hsame
    obtain ⟨more, em⟩ := hmore
    -- names for the new things
    generalize hgo : ({ cls := .type "generator", data := .fields #[.int s2.gens.size 0, .str "<genexpr>" (tk + 1), .str (X.env.qual ++ "<genexpr>") (tk + 1 + 1)] } : Obj) = go
    have szh' : h'.objs.size = h3.objs.size + 1 := by rw [hsame.1, Heap.size_push]
    have keep' : ∀ b o, h3.get? b = some o → h'.get? b = some o := fun b o e => hsame.extBut b o (Nat.ne_of_lt (Heap.lt_size e)) (Heap.get?_push_of_some _ e)
    have keep5 : ∀ b o, h3.get? b = some o → (h'.push go).get? b = some o := fun b o e => Heap.get?_push_of_some _ (keep' b o e)
    have k25 : ∀ b o, b ≠ P → s2.heap.get? b = some o → (h'.push go).get? b = some o := fun b o hb e => keep5 b o (keep3 b o hb e)
    have hP5 : (h'.push go).get? P = some { cls := .none, data := .fields (ps ++ more) } := by
      rw [← em]
      exact keep5 P _ hP3
    have hgoat : (h'.push go).get? h'.objs.size = some go := by
      rw [← hgo]
      exact Heap.get?_push_size _ rfl
    have bare5 : AllBare (s2.gens.push (.fresh (.compStart (.GeneratorExp elt [⟨.Name x px, iter, [], 0⟩] sc gpos) 0 (.ref it) .none (gE X sc code h3.objs.size)))) := I1.bare.push rfl
    have I5 := inv_tab (P := P) (more := more) (h' := h'.push go) (g' := s2.gens.push (.fresh (.compStart (.GeneratorExp elt [⟨.Name x px, iter, [], 0⟩] sc gpos) 0 (.ref it) .none (gE X sc code h3.objs.size)))) (d' := s2.drawn) (t' := tk + 1 + 1 + 1) I1 hP k25 hP5 bare5
    have nP : ∀ b, H1 b = none → b ≠ P := fun b e z => by
      rw [z, hP] at e
      cases e
    have at2 : ∀ b, b ≠ P → upd H1 P (.tbl (ps ++ more)) b = H1 b := fun b hb => upd_ne hb
    have hT2 : Tabbed P H1 (upd H1 P (.tbl (ps ++ more))) := ⟨⟨ps ++ more, upd_same, by rw [← em]; exact ht3⟩, fun b hb => upd_ne hb⟩
    obtain ⟨W, ⟨m, w0⟩, hgW⟩ := hW _ hT2
    have un : Un (frs X.stack) fp H1 (upd H1 P (.tbl (ps ++ more))) s2.heap (h'.push go) := by
      refine ⟨fun b o e n _ _ => k25 b o (nP b n) e, fun b o e n _ _ => ⟨o.slots, k25 b o (nP b n) e⟩, fun b o e n _ => by rw [at2 b (nP b n)]; exact n, fun b o e _ => ?_, fun b zs e => ?_, fun b o u e => ?_, fun b qs e => ?_⟩
      · by_cases hb : b = P
        · rw [hb]
          exact ⟨_, hP5⟩
        · exact ⟨o, k25 b o hb e⟩
      · rw [at2 b fun z => by rw [z, hP] at e; cases e]
        exact e
      · rw [at2 b fun z => by rw [z, hP] at e; cases e]
        exact e
      · by_cases hb : b = P
        · rw [hb, hP] at e
          cases e
          rw [hb, upd_same]
          exact ⟨more, rfl⟩
        · rw [at2 b hb, e]
          exact ⟨#[], by simp⟩
    have young : ∀ b, s2.heap.objs.size ≤ b → H1 b = none ∧ b ∉ frs X.stack := fun b hb => ⟨I1.hok.fresh hb, fun hm => by
      obtain ⟨_, o, ho, _⟩ := I1.stack.mem hm
      exact absurd (Nat.lt_of_lt_of_le (Heap.lt_size ho) hb) (Nat.lt_irrefl _)⟩
    have y3 := young h3.objs.size hsz
    have y5 := young h'.objs.size (by rw [szh']; exact Nat.le_succ_of_le hsz)
    have hfp2 : ∀ b ∈ fp, upd H1 P (.tbl (ps ++ more)) b = none ∧ b < s2.heap.objs.size := fun b hb => by
      have n := (hfp b hb).1
      obtain ⟨o, ho, _⟩ := T.obj _ _ t0 b hb
      exact ⟨by rw [at2 b (nP b n)]; exact n, Heap.lt_size ho⟩
    have hA3 : X.A.in1.in1.handled = none := hr.hd
    have hfr3 : X.A.in1.in1.frames = some X.stack := I1.ok.frames
    have hroom : Room k (X.A.in1.in1.deeper (gE X sc code h3.objs.size)) := ⟨hr.hd, by have := hr.dp; show X.A.depth + 1 + 3 * k + 5 < _; omega, by have := hr.un; show X.A.units + 1 + 1 + 3 + 16 * k + 200 < _; omega⟩
    have hel' := hel code h3.objs.size X.A.in1.in1 s2 H1 fp [(h'.objs.size, go)] hroom
    have neC : h'.objs.size ≠ h3.objs.size := by
      rw [szh']
      exact Nat.succ_ne_self _
    have J5 : Inv (gcx X (x :: xs) sc code h3.objs.size X.A.in1.in1 s2 H1 fp [(h'.objs.size, go)]) [] (none :: capV caps σ) (upd H1 P (.tbl (ps ++ more)))
        { s2 with heap := h'.push go, gens := s2.gens.push (.fresh (.compStart (.GeneratorExp elt [⟨.Name x px, iter, [], 0⟩] sc gpos) 0 (.ref it) .none (gE X sc code h3.objs.size))), drawn := s2.drawn, toks := tk + 1 + 1 + 1 } :=
      inv_beginG (s5 := { s2 with heap := h'.push go, gens := s2.gens.push (.fresh (.compStart (.GeneratorExp elt [⟨.Name x px, iter, [], 0⟩] sc gpos) 0 (.ref it) .none (gE X sc code h3.objs.size))), drawn := s2.drawn, toks := tk + 1 + 1 + 1 })
        I1 I5 S hcap hA3 hfr3 hfp hfp2 un hsz (hns.push go) (by rw [at2 _ (nP _ y3.1)]; exact y3.1) y3.2 hgoat (by rw [at2 _ (nP _ y5.1)]; exact y5.1) neC y5.2 (fun v q => by rw [← hgo] at q; cases q)
    have tn5 : tn 0 (h'.push go) := T.keep _ _ _ t0 fun b hb o e => k25 b o (nP b (hfp b hb).1) e
    have fpG : ∀ b ∈ fp, FpOk (gcx X (x :: xs) sc code h3.objs.size X.A.in1.in1 s2 H1 fp [(h'.objs.size, go)]) [] (upd H1 P (.tbl (ps ++ more))) b := fun b hb => by
      obtain ⟨f0, f1, f2, f3, f4, f5⟩ := hfp b hb
      have lt := (hfp2 b hb).2
      refine ⟨(hfp2 b hb).1, Nat.ne_of_lt (Nat.lt_of_lt_of_le lt hsz), fun hm => ?_, .inl hb, fun y c e => f4 y c (NdefX.clo_cm S.free e), fun p hp z => ?_⟩
      · rcases List.mem_cons.mp (I1.stkSub b hm) with z | z
        · exact f1 z
        · exact f2 z
      · have hp' : p = (h'.objs.size, go) := by
          have q : p ∈ [(h'.objs.size, go)] ++ ([] : List (Addr × Obj)) := hp
          simpa using q
        subst hp'
        have z' : h'.objs.size = b := z
        rw [← z', szh'] at lt
        exact absurd (Nat.lt_of_lt_of_le lt (Nat.le_succ_of_le hsz)) (Nat.lt_irrefl _)
    refine hQ (gcx X (x :: xs) sc code h3.objs.size X.A.in1.in1 s2 H1 fp [(h'.objs.size, go)]) h'.objs.size s2.gens.size m go _ rfl rfl List.mem_cons_self (fun h e => ⟨go, _, _, e, by rw [← hgo], by rw [← hgo], by rw [← hgo]⟩) ?_ (fun b s' ov => ?_)
    · refine ⟨⟨go, _, _, ?_, by rw [← hgo], by rw [← hgo], by rw [← hgo]⟩, ?_, bare5, _, Array.getElem?_push_size .., fun s' z => ⟨rfl, ?_⟩⟩
      · exact hgoat
      · exact J5.nolimit
      · have z' : Still s2.gens.size { s2 with heap := h'.push go, gens := s2.gens.push (.fresh (.compStart (.GeneratorExp elt [⟨.Name x px, iter, [], 0⟩] sc gpos) 0 (.ref it) .none (gE X sc code h3.objs.size))), drawn := s2.drawn, toks := tk + 1 + 1 + 1 } s' :=
          ⟨z.heap, z.os, z.bare, z.sz⟩
        have J6 := inv_still J5 z'
        refine seg_startG (J := J) (W := W) (te := te) (x := x) (σc := capV caps σ) T S.loc S.co hnd rfl hel' hgW m 0 s' s' _ none w0 J6 fpG ?_ z.sz
        rw [z'.heap]
        exact tn5
    · obtain ⟨pins', σ', H', J', q⟩ := ov
      refine ⟨.bl b, H', ?_, rfl, q⟩
      refine I1.call' (ch := fp) (by rw [J'.os]; rfl) J'.base J'.hok J'.bare fun b hb => ?_
      obtain ⟨f0, f1, f2, f3, f4, f5⟩ := hfp b hb
      exact ⟨f3, f1, f4, f5⟩
  cases hf : codeAmong gpos ps.toList with
  | none =>
    refine wpAny_genexprCodeX hcode (cdh.code hPs ht) (cdh.tab hPs) hf fun c' h' tk hx hge hlt hco' _ htab' _ => ?_
    obtain ⟨o1, vs, f1, tf, fl, tg, inF, tx, tt, op, _, _, _, _, _, _, _, _, _, htr, _⟩ := hco'
    exact main _ h' tk _ hx (Nat.le_trans hge (Nat.le_of_lt hlt)) htab'.2 ⟨_, rfl⟩ htr
  | some cv =>
    refine wpAny_genexprCode_hit hcode (cdh.code hPs ht) hf ?_
    exact main cv s2.heap s2.toks ps (Heap.ExtBut.refl _ _) (Nat.le_refl _) hPs ⟨#[], by simp⟩ ht

theorem pe_allG {c P : Addr} {elt iter : Expr} {x : Str} {xs : List Str} {caps : List Nat} {px p pos gpos : Pos} {sc : Scope} {wi : TI} {te : TE} {k : Nat}
    (hr : Room (k + 1) X.A) (hg : Gl X "all") (hm : X.mg "all" = none) (TB : TabB X.base X.mg c P) (hcode : X.env.code = .ref c) (S : GenS X.env sc x) (hcap : CapsOk X sc caps xs) (hnd : (x :: xs).Nodup) (hi : PI X (.Name x px) iter wi)
    (hel : ∀ (cd : Value) (C : Addr) (A : Around) (s2 : Shared) (H1 : Hp) (fp : List Addr) (pn : List (Addr × Obj)), Room k (A.deeper (gE X sc cd C)) → PE (gcx X (x :: xs) sc cd C A s2 H1 fp pn) elt te)
    (hs : ∀ v, genFold iter X.env v = pure v) (hb : bootBuiltins "all" = some (.builtin "all") := by decide +kernel)
    (he : starEach [.GeneratorExp elt [⟨.Name x px, iter, [], 0⟩] sc gpos] X.env = (false, eval (.GeneratorExp elt [⟨.Name x px, iter, [], 0⟩] sc gpos) X.env) :: starEach [] X.env := by rfl) :
    PE X (.Call (.Name "all" p) [.GeneratorExp elt [⟨.Name x px, iter, [], 0⟩] sc gpos] [] pos) (tGx true P caps wi te) := by
  refine ⟨fun pins s σ H Q I h => ?_⟩
  refine wpAny_Call_Name_kw (ld_blt I hg hm hb ?_)
  refine PyProof.Rows.callWith_builtin1 ?_ he (by rfl)
  rw [he]
  show wpAny _ _ (spliced ((false, eval (.GeneratorExp elt [⟨.Name x px, iter, [], 0⟩] sc gpos) X.env) :: backTo pos (starEach [] X.env))) _ _ s
  refine Calls.spliced_cons (gen_make hr TB hcode S hcap hnd hi hel hs I h fun X' a g m go s5 e1 e2 hp hgo rd hfin => ?_)
  refine Calls.spliced_nil ?_
  have hd : X.A.depth < recursionLimit := hr.depth
  refine call_function_tree F.kind_all F.plain_all F.entry_all (F.args_all1 _) ?_
  unfold Builtin.«all»
  refine wpAny_bind (m := oneArg "all" _) (wpAny_pure ?_)
  refine wpAny_bind (wpAny_pyIter_gen rd.1 ?_)
  rw [← e1, ← e2] at rd ⊢
  exact wpAny_pure ⟨plainId_quiet F.plain_all_loop _, all_G (A := X.A) hr.hd hd hp hgo (fun b s' ov => hfin b s' ov) m s5 rd⟩
theorem pe_anyG {c P : Addr} {elt iter : Expr} {x : Str} {xs : List Str} {caps : List Nat} {px p pos gpos : Pos} {sc : Scope} {wi : TI} {te : TE} {k : Nat}
    (hr : Room (k + 1) X.A) (hg : Gl X "any") (hm : X.mg "any" = none) (TB : TabB X.base X.mg c P) (hcode : X.env.code = .ref c) (S : GenS X.env sc x) (hcap : CapsOk X sc caps xs) (hnd : (x :: xs).Nodup) (hi : PI X (.Name x px) iter wi)
    (hel : ∀ (cd : Value) (C : Addr) (A : Around) (s2 : Shared) (H1 : Hp) (fp : List Addr) (pn : List (Addr × Obj)), Room k (A.deeper (gE X sc cd C)) → PE (gcx X (x :: xs) sc cd C A s2 H1 fp pn) elt te)
    (hs : ∀ v, genFold iter X.env v = pure v) (hb : bootBuiltins "any" = some (.builtin "any") := by decide +kernel)
    (he : starEach [.GeneratorExp elt [⟨.Name x px, iter, [], 0⟩] sc gpos] X.env = (false, eval (.GeneratorExp elt [⟨.Name x px, iter, [], 0⟩] sc gpos) X.env) :: starEach [] X.env := by rfl) :
    PE X (.Call (.Name "any" p) [.GeneratorExp elt [⟨.Name x px, iter, [], 0⟩] sc gpos] [] pos) (tGx false P caps wi te) := by
  refine ⟨fun pins s σ H Q I h => ?_⟩
  refine wpAny_Call_Name_kw (ld_blt I hg hm hb ?_)
  refine PyProof.Rows.callWith_builtin1 ?_ he (by rfl)
  rw [he]
  show wpAny _ _ (spliced ((false, eval (.GeneratorExp elt [⟨.Name x px, iter, [], 0⟩] sc gpos) X.env) :: backTo pos (starEach [] X.env))) _ _ s
  refine Calls.spliced_cons (gen_make hr TB hcode S hcap hnd hi hel hs I h fun X' a g m go s5 e1 e2 hp hgo rd hfin => ?_)
  refine Calls.spliced_nil ?_
  have hd : X.A.depth < recursionLimit := hr.depth
  refine call_function_tree F.kind_any F.plain_any F.entry_any (F.args_any1 _) ?_
  unfold Builtin.«any»
  refine wpAny_bind (m := oneArg "any" _) (wpAny_pure ?_)
  refine wpAny_bind (wpAny_pyIter_gen rd.1 ?_)
  rw [← e1, ← e2] at rd ⊢
  exact wpAny_pure ⟨plainId_quiet F.plain_any_loop _, any_G (A := X.A) hr.hd hd hp hgo (fun b s' ov => hfin b s' ov) m s5 rd⟩
end
end GxA

set_option maxHeartbeats 2000000
/-! sorted of lists, and of sets, of tuples of ints: any number, any lengths. -/
namespace SrT
open PySem PySem.Spec PyProof.Rows L2 PySem.W
/-- v is a tuple of the ints ns -/
def IsI (h : Heap) (v : Value) (ns : List Int) : Prop := ∃ (a : Addr) (items : Array Value), v = .ref a ∧ IsTup h a items ∧ IntsAre items.toList ns
theorem IsI.keeps {h h' : Heap} {v : Value} {ns : List Int} (x : IsI h v ns) (k : ∀ b o, v = .ref b → h.get? b = some o → h'.get? b = some o) : IsI h' v ns := by
  obtain ⟨a, items, e, ⟨o, ho, r⟩, i⟩ := x
  exact ⟨a, items, e, ⟨o, k _ _ e ho, r⟩, i⟩
theorem IsI.type {M : Model} {h : Heap} {v : Value} {ns : List Int} (x : IsI h v ns) : Looks M h (typeOf v) (.type "tuple") := by
  obtain ⟨a, items, rfl, ⟨o, ho, hc, n, hd⟩, i⟩ := x
  have q : Looks M h (typeOf (.ref a)) o.cls := (Looks.ld ho).andThen .now
  rw [hc] at q
  exact q
theorem IsI.inj {h : Heap} {v : Value} {ns ms : List Int} (x : IsI h v ns) (y : IsI h v ms) : ns = ms := by
  obtain ⟨a, items, rfl, ⟨o, ho, hc, n, hd⟩, i⟩ := x
  obtain ⟨a', items', e, ⟨o', ho', hc', n', hd'⟩, i'⟩ := y
  cases e
  rw [ho] at ho'
  cases ho'
  rw [hd] at hd'
  cases hd'
  have e1 := i.numsOf
  have e2 := i'.numsOf
  exact e1.symm.trans e2
section
variable {prog : Program} {w : World} {A : Around} {E : Value → Shared → Prop} {s : Shared}
theorem lex_run {b : Bool} {Q : Bool → Shared → Prop} : ∀ (vs us : List Value) (ns ms : List Int) (i : Nat) (fin : Bool), IntsAre vs ns → IntsAre us ms → fin = decide (ns.length < ms.length) → Q (HT.lexLt ns ms) s → KatLex prog w A b fin Q (vs.zip us) i s
  | [], us, ns, ms, i, fin, h1, h2, hf, h => by
    cases h1
    cases h2 with
    | nil =>
      rw [hf]
      exact kat_nil h
    | cons n t h2 =>
      rw [hf]
      exact kat_nil h
  | v :: vs, [], ns, ms, i, fin, h1, h2, hf, h => by
    cases h2
    cases h1 with
    | cons n t h1 =>
      rw [hf]
      exact kat_nil h
  | v :: vs, u :: us, ns, ms, i, fin, h1, h2, hf, h => by
    cases h1 with
    | cons n t h1 =>
      cases h2 with
      | cons m t2 h2 =>
        rename_i ns ms
        rw [List.zip_cons_cons]
        refine kat_cons (wpAny_eqBool_int ?_)
        refine kat_go (fun e => kat_yes ?_) (fun e => kat_no ?_)
        · have hnm : n = m := by simpa using e
          subst hnm
          rw [HT.lexLt_cons, if_pos rfl] at h
          refine lex_run vs us ns ms (i + 1) fin h1 h2 ?_ h
          rw [hf, List.length_cons, List.length_cons]
          simp
        · have hnm : ¬ n = m := by simpa using e
          rw [HT.lexLt_cons, if_neg hnm] at h
          exact oneLt_any_int h
theorem lt_tuples {b : Bool} {v u : Value} {ns ms : List Int} {Q : Bool → Shared → Prop} (hv : IsI s.heap v ns) (hw : IsI s.heap u ms) (h : Q (HT.lexLt ns ms) s) : wpAny (model prog w) A (keyLt' (tuples' b) v u) Q E s := by
  obtain ⟨a, items, rfl, ⟨o, ho, hc, n, hd⟩, i⟩ := hv
  obtain ⟨a', items', rfl, ⟨o', ho', hc', n', hd'⟩, i'⟩ := hw
  refine kat_lt ho hd ho' hd' (lex_run _ _ ns ms 0 _ i i' ?_ h)
  rw [← i.length, ← i'.length, Array.length_toList, Array.length_toList]
theorem rich_lt {v u : Value} {ns ms : List Int} {Q : Value → Shared → Prop} (hu : A.units < cLine) (hv : IsI s.heap v ns) (hw : IsI s.heap u ms) (h : Q (.bool (HT.lexLt ns ms)) s) : wpAny (model prog w) A (richCompare .Lt v u) Q E s := by
  obtain ⟨a, items, rfl, t, i⟩ := hv
  obtain ⟨a', items', rfl, t', i'⟩ := hw
  exact (HT.lt_tupInts t t' i i' hu h : wpAny (model prog w) A (compareOp .Lt (.ref a) (.ref a')) Q E s)
theorem lt_general {v u : Value} {ns ms : List Int} {Q : Bool → Shared → Prop} (hu : A.units < cLine) (hv : IsI s.heap v ns) (hw : IsI s.heap u ms) (h : Q (HT.lexLt ns ms) s) : wpAny (model prog w) A (keyLt' general' v u) Q E s := by
  show wpAny (model prog w) A (oneLt' false v u) Q E s
  rw [oneLt'_eq]
  simp only [Bool.false_eq_true, if_false]
  exact wpAny_bind (rich_lt hu hv hw (wpAny_truthy_bool h))
theorem lt_one {v u : Value} {ns ms : List Int} {Q : Bool → Shared → Prop} (hu : A.units < cLine) (hv : IsI s.heap v ns) (hw : IsI s.heap u ms) (h : Q (HT.lexLt ns ms) s) : wpAny (model prog w) A (keyLt' oneType' v u) Q E s := by
  obtain ⟨a, items, rfl, ⟨⟨cls, dd, data, sl⟩, ho, hc, n, hd⟩, i⟩ := hv
  obtain ⟨a', items', rfl, ⟨⟨cls', dd', data', sl'⟩, ho', hc', n', hd'⟩, i'⟩ := hw
  simp only at hc hd hc' hd'
  subst hc hd hc' hd'
  rw [keyLt'_oneType, oneLt'_eq]
  simp only [if_true]
  refine wpAny_bind (wpAny_cRoomFor hu ?_)
  refine wpAny_bind (wpAny_callSpecialIfBound?_slot (T := "tuple") (name := Str.ofString "__lt__") ⟨_, ho, rfl⟩ PySem.F.slot_tuple_lt ?_)
  refine call_meets PySem.F.slot_tuple_lt ⟨_, ho, rfl⟩ PySem.F.entry_tuple_lt (PySem.F.args_tuple_lt_2 _ _) (HT.tuple_lt_ints a a' items items' n n' dd dd' sl sl' ns ms i i') ⟨ho, ho', ?_⟩
  exact wpAny_truthy_bool h
/-- the first items -/
theorem firsts_run : ∀ (vs : List Value) (k : Value → List Int) {Q : List (Option Value) → Shared → Prop}, (∀ v ∈ vs, IsI s.heap v (k v)) →
    (∀ fs : List (Option Value), Paired (fun (v : Value) (f : Option Value) => match k v with | [] => f = none | x :: _ => ∃ t, f = some (Value.int x t)) vs fs → Q fs s) → wpAny (model prog w) A (vs.mapM firstOfTuple') Q E s
  | [], k, Q, _, h => by
    rw [List.mapM_nil]
    exact wpAny_pure (h [] .nil)
  | v :: vs, k, Q, hv, h => by
    rw [List.mapM_cons]
    refine wpAny_bind ?_
    have hv0 := hv v List.mem_cons_self
    have ht : Looks (model prog w) s.heap (typeOf v) (.type "tuple") := hv0.type
    obtain ⟨a, items, e, ⟨o, ho, hc, n, hd⟩, i⟩ := hv0
    rw [kas_first_eq]
    refine wpAny_bind (ht.here ?_)
    rw [if_neg (by decide +kernel)]
    rw [e]
    refine wpAny_bind (listItems_at ho hd (wpAny_pure ?_))
    refine wpAny_bind (firsts_run vs k (fun u hu => hv u (List.mem_cons_of_mem _ hu)) fun fs hp => wpAny_pure (h _ (.cons ?_ hp)))
    have ei : items[0]? = items.toList[0]? := by rw [Array.getElem?_toList]
    rw [ei]
    cases hk : k v with
    | nil =>
      rw [hk] at i
      generalize items.toList = l at i
      cases i
      rfl
    | cons x r =>
      rw [hk] at i
      generalize items.toList = l at i
      cases i with
      | cons n t i => exact ⟨t, rfl⟩
theorem some_of : ∀ {vs : List Value} {k : Value → List Int} {fs : List (Option Value)}, Paired (fun (v : Value) (f : Option Value) => match k v with | [] => f = none | x :: _ => ∃ t, f = some (Value.int x t)) vs fs →
    (fs.all (·.isSome)) = true → ∃ gs : List Value, fs = gs.map some ∧ ∀ g ∈ gs, ∃ x t, g = Value.int x t
  | _, _, _, .nil, _ => ⟨[], rfl, fun g hg => absurd hg (by simp)⟩
  | v :: vs, k, f :: fs, .cons r p, h => by
    rw [List.all_cons, Bool.and_eq_true] at h
    obtain ⟨gs, e, hg⟩ := some_of p h.2
    cases hk : k v with
    | nil =>
      simp only [hk] at r
      rw [r] at h
      exact absurd h.1 (by simp)
    | cons x y =>
      simp only [hk] at r
      obtain ⟨t, r⟩ := r
      refine ⟨Value.int x t :: gs, by rw [r, e]; rfl, fun g hg' => ?_⟩
      rcases List.mem_cons.mp hg' with z | z
      · exact ⟨x, t, z⟩
      · exact hg g z
/-- the kind that the sort picks -/
def kindT (l : List (List Int)) : SortKind := if l.all (fun k => !k.isEmpty) = true then tuples' true else if (l.head?.elim true (·.isEmpty)) = true then oneType' else general'
theorem kindT_one (l : List (List Int)) : kindT l = general' ∨ kindT l = oneType' ∨ ∃ b, kindT l = tuples' b := by
  unfold kindT
  split
  · exact .inr (.inr ⟨true, rfl⟩)
  · split
    · exact .inr (.inl rfl)
    · exact .inl rfl
theorem all_some : ∀ {vs : List Value} {k : Value → List Int} {fs : List (Option Value)}, Paired (fun (v : Value) (f : Option Value) => match k v with | [] => f = none | x :: _ => ∃ t, f = some (Value.int x t)) vs fs →
    fs.all (·.isSome) = (vs.map k).all (fun k => !k.isEmpty)
  | _, _, _, .nil => rfl
  | v :: vs, k, f :: fs, .cons r p => by
    rw [List.all_cons, List.map_cons, List.all_cons, all_some p]
    cases hk : k v with
    | nil =>
      simp only [hk] at r
      rw [r]
      rfl
    | cons x y =>
      simp only [hk] at r
      obtain ⟨t, r⟩ := r
      rw [r]
      rfl
theorem kind_run {vs : List Value} {k : Value → List Int} {Q : SortKind → Shared → Prop} (h2 : 2 ≤ vs.length) (hv : ∀ v ∈ vs, IsI s.heap v (k v)) (h : Q (kindT (vs.map k)) s) :
    wpAny (model prog w) A (keyKind' vs.toArray) Q E s := by
  rw [keyKind'_eq, List.mapM_toArray, map_eq_pure_bind]
  refine wpAny_bind (wpAny_bind (firsts_run vs k hv fun fs hp => wpAny_pure ?_))
  have hal := all_some hp
  have tr : ∀ (T : Value) (l : List Value) (R : Option Value → Shared → Prop) (hT : (T == T) = true), 0 < l.length → R (some T) s → wpAny (model prog w) A (match ((l.map fun _ => T).toArray)[0]? with
      | some t => pure (if ((l.map fun _ => T).toArray.all (· == t)) = true then some t else none)
      | none => pure none) R E s := by
    intro T l R hT hl hR
    match l, hl with
    | y :: l, _ =>
      have h0 : ((List.map (fun _ => T) (y :: l)).toArray)[0]? = some T := by simp
      rw [h0]
      have h1 : ((List.map (fun _ => T) (y :: l)).toArray.all (· == T)) = true := by
        simp only [List.all_toArray, List.all_map, List.all_eq_true]
        intro _ _
        exact hT
      simp only [h1, if_true]
      exact wpAny_pure hR
  by_cases ha : fs.all (·.isSome) = true
  · rw [if_pos (show fs.toArray.all (·.isSome) = true by simpa using ha)]
    refine wpAny_bind (wpAny_rule ?_)
    obtain ⟨gs, e, hg⟩ := some_of hp ha
    have hfm : (fs.toArray.filterMap id) = gs.toArray := by rw [e]; simp
    have hgl : 0 < gs.length := by
      have q := Paired.length hp
      rw [e, List.length_map] at q
      omega
    rw [hfm, oneTypeOnly'_eq, List.mapM_toArray, map_eq_pure_bind]
    refine wpAny_bind (wpAny_bind (wpAny_bind (kas_mapM (r := Value.type "int") _ (fun v hv' Q' hq => ?_) (wpAny_pure ?_))))
    · obtain ⟨x, t, rfl⟩ := hg v hv'
      exact wpAny_pure hq
    · refine tr (.type "int") gs _ (by rfl) hgl ?_
      refine wpAny_pure ?_
      have e1 : kindT (vs.map k) = tuples' true := by
        unfold kindT
        rw [if_pos (by rw [← hal]; exact ha)]
      rw [e1] at h
      have e2 : ((some (Value.type "int")).any fun x => x != Value.type "tuple") = true := by decide +kernel
      rw [e2]
      exact h
  · rw [if_neg (show ¬ fs.toArray.all (·.isSome) = true by simpa using ha)]
    have hne : ¬ (vs.map k).all (fun k => !k.isEmpty) = true := by
      rw [← hal]
      exact ha
    match vs, fs, hp, h2 with
    | v :: vs, f :: fs, .cons r p, h2 =>
      have hk1 : kindT ((v :: vs).map k) = if (k v).isEmpty = true then oneType' else general' := by
        unfold kindT
        rw [if_neg hne]
        rfl
      rw [hk1] at h
      cases hk : k v with
      | nil =>
        simp only [hk] at r
        rw [hk, if_pos (show ([] : List Int).isEmpty = true from rfl)] at h
        have e0 : ((f :: fs).toArray[0]?.bind id).isSome = false := by
          rw [r]
          rfl
        rw [if_neg (by rw [e0]; exact Bool.false_ne_true), oneTypeOnly'_eq, List.mapM_toArray, map_eq_pure_bind]
        refine wpAny_bind (wpAny_bind (wpAny_bind (kas_mapM (r := Value.type "tuple") _ (fun v hv' Q' hq => (hv v hv').type.here hq) (wpAny_pure ?_))))
        refine tr (.type "tuple") (v :: vs) _ (by rfl) (by simp) ?_
        exact wpAny_pure h
      | cons x y =>
        simp only [hk] at r
        obtain ⟨t, r⟩ := r
        rw [hk, if_neg (by simp)] at h
        have e0 : ((f :: fs).toArray[0]?.bind id).isSome = true := by
          rw [r]
          rfl
        rw [if_pos e0]
        exact wpAny_pure h
end
end SrT

set_option maxHeartbeats 2000000
namespace SrT
open PySem PySem.Spec PyProof.Rows L2 PySem.W
/-! ### the order -/
abbrev lex := HT.lexLt
theorem lex_tot : ∀ xs ys : List Int, lex xs ys = false → lex ys xs = false → xs = ys
  | [], [], _, _ => rfl
  | [], _ :: _, h, _ => by cases h
  | _ :: _, [], _, h => by cases h
  | x :: xs, y :: ys, h1, h2 => by
    have a1 : (if x = y then lex xs ys else decide (x < y)) = false := h1
    have a2 : (if y = x then lex ys xs else decide (y < x)) = false := h2
    by_cases e : x = y
    · subst e
      rw [if_pos rfl] at a1 a2
      rw [lex_tot xs ys a1 a2]
    · rw [if_neg e] at a1
      rw [if_neg (Ne.symm e)] at a2
      have b1 := of_decide_eq_false a1
      have b2 := of_decide_eq_false a2
      omega
theorem lex_irrefl : ∀ xs : List Int, lex xs xs = false
  | [] => rfl
  | x :: xs => by
    show (if x = x then lex xs xs else decide (x < x)) = false
    rw [if_pos rfl]
    exact lex_irrefl xs
/-- a ≤ b -/
abbrev le (a b : List Int) : Bool := !lex b a
theorem le_trans' (a b c : List Int) (h1 : le a b = true) (h2 : le b c = true) : le a c = true := by
  have a1 : lex b a = false := by simpa [le] using h1
  have a2 : lex c b = false := by simpa [le] using h2
  have := (NtL.swo_lexL (fun x : List Int => x)).tr a b c a1 a2
  simpa [le] using this
theorem le_total' (a b : List Int) : (le a b || le b a) = true := by
  cases h : lex b a with
  | false => simp [le, h]
  | true =>
    have := NtL.lex_asym b a h
    simp [le, h, this]
def sortL (l : List (List Int)) : List (List Int) := l.mergeSort le
theorem sortL_perm (l : List (List Int)) : (sortL l).Perm l := List.mergeSort_perm l le
theorem sortL_pw (l : List (List Int)) : (sortL l).Pairwise (fun a b => le a b = true) := List.pairwise_mergeSort le_trans' le_total' l
theorem sorted_eq {l m : List (List Int)} (p : l.Perm m) (hl : l.Pairwise (fun a b => le a b = true)) (hm : m.Pairwise (fun a b => le a b = true)) : l = m := by
  refine List.Perm.eq_of_pairwise (fun a b _ _ h1 h2 => ?_) hl hm p
  exact lex_tot a b (by simpa [le] using h2) (by simpa [le] using h1)
theorem eq_sortL {l m : List (List Int)} (p : l.Perm m) (hl : l.Pairwise (fun a b => le a b = true)) : l = sortL m :=
  sorted_eq (p.trans (sortL_perm m).symm) hl (sortL_pw m)

/-! ### values -/
/-- what an int tuple's value holds -/
noncomputable def keyV (h : Heap) (v : Value) : List Int := by
  classical
  exact if e : ∃ ns, IsI h v ns then e.choose else []
theorem keyV_of {h : Heap} {v : Value} {ns : List Int} (x : IsI h v ns) : keyV h v = ns := by
  have e : ∃ ns, IsI h v ns := ⟨ns, x⟩
  unfold keyV
  rw [dif_pos e]
  exact e.choose_spec.inj x
theorem isI_key {h : Heap} {v : Value} (e : ∃ ns, IsI h v ns) : IsI h v (keyV h v) := by
  obtain ⟨ns, x⟩ := e
  rw [keyV_of x]
  exact x
section
variable {prog : Program} {w : World} {A : Around} {E : Value → Shared → Prop} {s : Shared}
theorem cmp_of {κ : SortKind} (hκ : κ = general' ∨ κ = oneType' ∨ (∃ b, κ = tuples' b)) {vs : List Value} {k : Value → List Int} (hu : A.units < cLine) (hv : ∀ v ∈ vs, IsI s.heap v (k v)) :
    SrtO.Cmp prog w A s κ (fun p => p.1 ∈ vs) (SrtO.lt2 fun v u => lex (k v) (k u)) := by
  intro p q hp hq
  rcases hκ with rfl | rfl | ⟨b, rfl⟩
  · exact lt_general (Q := fun r s' => s' = s ∧ r = lex (k p.1) (k q.1)) (E := fun _ _ => False) hu (hv p.1 hp) (hv q.1 hq) ⟨rfl, rfl⟩
  · exact lt_one (Q := fun r s' => s' = s ∧ r = lex (k p.1) (k q.1)) (E := fun _ _ => False) hu (hv p.1 hp) (hv q.1 hq) ⟨rfl, rfl⟩
  · exact lt_tuples (Q := fun r s' => s' = s ∧ r = lex (k p.1) (k q.1)) (E := fun _ _ => False) (hv p.1 hp) (hv q.1 hq) ⟨rfl, rfl⟩
theorem ti_sortable {a : Addr} {vs : List Value} {k : Value → List Int} (h2 : 2 ≤ vs.length) (hu : A.units < cLine) (hv : ∀ v ∈ vs, IsI s.heap v (k v)) (ha : ∀ v ∈ vs, v ≠ .ref a) :
    SrtO.SortableO prog w A s a vs fun v u => lex (k v) (k u) := by
  intro h' keep
  have hv' : ∀ v ∈ vs, IsI h' v (k v) := fun v hm => (hv v hm).keeps fun b o e g => keep b o (fun z => ha v hm (by rw [e, z])) g
  exact ⟨kindT (vs.map k), fun Q E hq => kind_run (s := { s with heap := h' }) h2 hv' hq, cmp_of (s := { s with heap := h' }) (kindT_one _) hu hv'⟩
end
section
variable {X : Cx} {pins : List (Addr × Obj)} {σ : L2.St} {H : Hp} {s : Shared}
theorem isI_of (I : Inv X pins σ H s) {x : V} {u : Value} {ns : List Int} (h : TupI X.K H x ns) (r : RelV x u) : IsI s.heap u ns := by
  obtain ⟨t, rfl, hs⟩ := h
  cases r
  obtain ⟨its, rv, p, _⟩ := I.tuple hs
  exact ⟨t, its.toArray, rfl, p, by simpa using intsAre_of rv⟩
theorem keys_of (I : Inv X pins σ H s) : ∀ {xs : List V} {us : List Value} {fss : List (List Int)}, Vals xs us → Paired (TupI X.K H) xs fss → us.map (keyV s.heap) = fss ∧ ∀ u ∈ us, IsI s.heap u (keyV s.heap u)
  | _, _, _, .nil, .nil => ⟨rfl, fun u hu => absurd hu (by simp)⟩
  | _, _, _, .cons r t, .cons h q => by
    obtain ⟨e, f⟩ := keys_of I t q
    have hI := isI_of I h r
    refine ⟨by rw [List.map_cons, e, keyV_of hI], fun u hu => ?_⟩
    rcases List.mem_cons.mp hu with z | z
    · rw [z]
      exact isI_key ⟨_, hI⟩
    · exact f u z
theorem mem_refs (I : Inv X pins σ H s) {xs : List V} {us : List Value} {fss : List (List Int)} (r : Vals xs us) (q : Paired (TupI X.K H) xs fss) : ∀ x ∈ xs, ∃ a, x = V.ref a := by
  induction q generalizing us with
  | nil => intro x hx; exact absurd hx (by simp)
  | cons h q ih =>
    cases r with
    | cons _ t =>
      intro x hx
      rcases List.mem_cons.mp hx with z | z
      · obtain ⟨a, e, _⟩ := h
        exact ⟨a, z.trans e⟩
      · exact ih t x z
theorem paired_of {K : PySem.W.Frag} : ∀ {ys : List V} (g : V → List Int), (∀ y ∈ ys, TupI K H y (g y)) → Paired (TupI K H) ys (ys.map g)
  | [], _, _ => .nil
  | y :: ys, g, h => .cons (h y List.mem_cons_self) (paired_of g fun z hz => h z (List.mem_cons_of_mem _ hz))
theorem paired_mem {α β : Type} {F : α → β → Prop} : ∀ {xs : List α} {fs : List β}, Paired F xs fs → ∀ x ∈ xs, ∃ f ∈ fs, F x f
  | _, _, .nil, x, hx => absurd hx (by simp)
  | _, _, .cons h q, x, hx => by
    rcases List.mem_cons.mp hx with z | z
    · subst z
      exact ⟨_, List.mem_cons_self, h⟩
    · obtain ⟨f, hf, r⟩ := paired_mem q x z
      exact ⟨f, List.mem_cons_of_mem _ hf, r⟩
/-- sorted(xs) of tuples of ints -/
def rSortL (K : PySem.W.Frag) : List V → Hp → VK → Prop := fun vs H Q => ∃ (a : Addr) (xs : List V) (fss : List (List Int)), vs = [V.ref a] ∧ SqL K H a xs ∧ Paired (TupI K H) xs fss ∧
  ∀ (ys : List V) (p : Addr), Paired (TupI K H) ys (sortL fss) → (∀ y ∈ ys, y ∈ xs) → H p = none → Q (.ref p) (upd H p (.lst ys))
theorem cr_sortL (hu : X.A.units + 64 < cLine) : CallR X (.builtin "sorted") (rSortL X.K) := by
  intro pins s σ H vs us Q I r h
  obtain ⟨a, xs, fss, rfl, hs, hp, q⟩ := h
  obtain ⟨its, rv, hl, hz⟩ := I.list hs
  rw [Vals.ref1 r]
  obtain ⟨ek, hk⟩ := keys_of I rv hp
  obtain ⟨e1, e2⟩ := bkV_refs rv (mem_refs I rv hp)
  have hlen : its.length ≤ sizeLine := by
    rw [← rv.length]
    exact hz
  refine SrtO.sorted_ord (ltv := fun v u => lex (keyV s.heap v) (keyV s.heap u)) (NtL.swo_lexL (keyV s.heap)) hl.isList hlen (fun h2 h₁ b hb keep => ?_) fun out hs' hst => ?_
  · refine ti_sortable (s := { s with heap := h₁ }) (k := keyV s.heap) h2 (by show X.A.units + 1 + 1 < cLine; omega) (fun v hm => ?_) fun v hm z => ?_
    · exact (hk v hm).keeps fun c o _ e => (keep c o e).2
    · obtain ⟨c, items, e, ⟨o, ho, _⟩, _⟩ := hk v hm
      have z' : Value.ref c = Value.ref b := e.symm.trans z
      injection z' with z'
      exact (keep c o ho).1 z'
  · have hpm : out.Perm its := hst.perm
    have h3 : ∀ u ∈ out, ∃ c, u = Value.ref c := fun u hu => e2 u (hpm.mem_iff.mp hu)
    have hpx : (out.map bkV).Perm xs := by
      rw [e1]
      exact hpm.map bkV
    have hl2 : (out.map bkV).length ≤ sizeLine := by
      rw [hpx.length_eq]
      exact hz
    obtain ⟨ep, he'⟩ := PyProof.Rows.sortedAll_at s.heap its out.toArray
    refine ⟨.ref _, upd H (s.heap.objs.size + 1) (.lst (out.map bkV)), I.laid (t' := s.toks) (fun _ _ => PyProof.Rows.sortedAll_old) (Nat.le_succ _) ⟨hl2, out, ep, bkV_vals h3, by simpa using he'⟩, rfl, q _ _ ?_ (fun y hy => hpx.mem_iff.mp hy) (I.hok.fresh (Nat.le_succ _))⟩
    have es : out.map (keyV s.heap) = sortL fss := by
      refine eq_sortL ?_ ?_
      · rw [← ek]
        exact hpm.map _
      · refine List.pairwise_map.mpr (List.Pairwise.imp (fun {u v} huv => ?_) hs')
        show (!lex (keyV s.heap v) (keyV s.heap u)) = true
        rw [show lex (keyV s.heap v) (keyV s.heap u) = false from huv]
        rfl
    rw [← es]
    clear es hpx hl2 he' hst hs'
    have all : ∀ l : List Value, (∀ u ∈ l, u ∈ its) → Paired (TupI X.K H) (l.map bkV) (l.map (keyV s.heap)) := by
      intro l
      induction l with
      | nil => intro _; exact .nil
      | cons u l ih =>
        intro hl'
        refine .cons ?_ (ih fun v hv => hl' v (List.mem_cons_of_mem _ hv))
        have hm := hl' u List.mem_cons_self
        obtain ⟨c, rfl⟩ := e2 u hm
        have hx : V.ref c ∈ xs := by
          rw [e1]
          exact List.mem_map.mpr ⟨_, hm, rfl⟩
        obtain ⟨f, _, hf⟩ := paired_mem hp _ hx
        have : keyV s.heap (.ref c) = f := keyV_of (isI_of I hf rfl)
        rw [this]
        exact hf
    exact all out fun u hu => hpm.mem_iff.mp hu
end
end SrT

set_option maxHeartbeats 2000000
namespace SrT
open PySem PySem.Spec PyProof.Rows L2 PySem.W
section
variable {P : Program} {w : World} {A : Around} {E : Value → Shared → Prop} {s : Shared}
theorem isI_T {h : Heap} {k : List Int} {b : Addr} (x : IsT P w h k b) : IsI h (.ref b) k := by
  obtain ⟨a, items, e, t, i⟩ := tupInts_of (P := P) (w := w) x
  exact ⟨a, items, e, t, i⟩
theorem sort_call {a : Addr} {vs : List Value} {n : Nat} {k : Value → List Int} {Q : Value → Shared → Prop} (ho : s.heap.get? a = some (seqObj "list" vs.toArray n)) (hz : vs.length ≤ sizeLine) (hu : A.units + 1 < cLine) (hv : ∀ v ∈ vs, IsI s.heap v (k v))
    (h : ∀ out : List Value, out.Pairwise (fun u v => lex (k v) (k u) = false) → out.Perm vs → Q .none { s with heap := sortedHeap s.heap a vs out.toArray }) :
    wpAny (model P w) A (call (.builtin "list.sort") [.ref a]) Q E s := by
  refine wpAny_call_entry slot_list_sort ⟨_, ho, rfl⟩ entry_list_sort (SrtO.list_sort_ord (A := A.in1) (ltv := fun v u => lex (k v) (k u)) (NtL.swo_lexL k) ho hz (fun h2 => ti_sortable h2 hu hv fun v hm z => ?_) fun out hs hb => ⟨_, rfl, h out hs hb.perm⟩) (args_list_sort _)
  obtain ⟨c, items, e, ⟨o, ho2, hc, _⟩, _⟩ := hv v hm
  have z' : Value.ref c = Value.ref a := e.symm.trans z
  injection z' with z'
  rw [z', ho] at ho2
  cases ho2
  exact absurd (Value.type.inj hc) (by decide)
theorem sorted_setS {a : Addr} {L : List (Addr × List Int)} {es : Array (Int × Value)} {ep : Nat} {t : SetTable} {Q : Value → Shared → Prop} (R : SetTR P w s.heap a L es ep t) (hh : A.handled = none) (hu : A.units + 2 < cLine)
    (hQ : ∀ (s' : Shared) (p : Addr) (out : List Value) (c : Nat), (∀ b o, s.heap.get? b = some o → s'.heap.get? b = some o) → s'.gens = s.gens → s'.os = s.os → s.heap.objs.size ≤ p →
      s'.heap.get? p = some (seqObj "list" out.toArray c) → out.Perm (L.map fun q => Value.ref q.1) → out.Pairwise (fun u v => lex (keyV s.heap v) (keyV s.heap u) = false) → Q (.ref p) s') :
    wpAny (model P w) A (call (.builtin "sorted") [.ref a]) Q E s := by
  obtain ⟨o, ho, hex, hd⟩ := R.ob
  have few := R.few
  have size := R.size
  refine Calls.call_function_entry kind_sorted plain_sorted entry_sorted (args_sorted1 _) ?_
  unfold Builtin.«sorted»
  refine wpAny_bind (m := checkCount "sorted" 1 1 _) (wpAny_pure ?_)
  refine wpAny_bind (collect_set (A := A.in1) hh ⟨o, ho, hex.1, hd⟩ R.fits (by unfold scanBound; omega) R.tab.ris R.led fun s1 vs kp hz gens os pm => ?_)
  have rows : es.toList.map (·.2) = L.map fun q => Value.ref q.1 := by
    rw [R.rows]
    unfold L2.rowsOf
    rw [List.map_map] <;> rfl
  rw [rows] at pm
  have lv : vs.length ≤ sizeLine := by
    rw [pm.length_eq, List.length_map, sizeLine_eq]
    omega
  refine wpAny_bind (wpAny_newList ?_ lv)
  have hoL : (s1.heap.push (seqObj "list" vs.toArray 0)).get? s1.heap.objs.size = some (seqObj "list" vs.toArray 0) := Heap.get?_push_size _ rfl
  have ki : ∀ v ∈ vs, IsI (s1.heap.push (seqObj "list" vs.toArray 0)) v (keyV s.heap v) := fun v hv => by
    obtain ⟨q, hq, e⟩ := List.mem_map.mp (pm.mem_iff.mp hv)
    have hi := isI_T (R.tup q hq)
    rw [← e]
    rw [keyV_of hi]
    exact hi.keeps fun b u _ g => Heap.get?_push_of_some _ (kp b u g)
  refine wpAny_bind (wpAny_holding (sort_call (s := { s1 with heap := s1.heap.push (seqObj "list" vs.toArray 0) }) (A := A.in1) hoL lv (by show A.units + 1 + 1 < cLine; omega) ki fun out pw pe => ?_))
  obtain ⟨c, hc⟩ := sortedHeap_at (vs := vs) (out := out.toArray) hoL
  refine wpAny_pure ⟨_, rfl, hQ _ s1.heap.objs.size out c (fun b u e => ?_) gens os hz hc (pe.trans pm) pw⟩
  have q := kp b u e
  have lt := Heap.lt_size q
  show (sortedHeap (s1.heap.push (seqObj "list" vs.toArray 0)) s1.heap.objs.size vs out.toArray).get? b = some u
  rw [sortedHeap_old (Nat.ne_of_lt lt) (by rw [size_push']; exact Nat.lt_succ_of_lt lt)]
  exact Heap.get?_push_of_some _ q
end
section
variable {X : Cx} {pins : List (Addr × Obj)} {σ : L2.St} {H : Hp} {s : Shared}
/-- sorted(a set of tuples of ints) -/
def rSortS (K : PySem.W.Frag) (P : Program) (w : World) : List V → Hp → VK → Prop := fun vs H Q => ∃ (a : Addr) (L : List (Addr × List Int)), vs = [V.ref a] ∧ H a = some (SetTO P w a L) ∧ (∀ p ∈ L, SqT K H p.1 (p.2.map V.int)) ∧
  ∀ (ys : List V) (gss : List (List Int)) (p : Addr), Paired (TupI K H) ys gss → gss.Pairwise (fun x y => lex x y = true) → (∀ z, z ∈ gss ↔ z ∈ L.map (·.2)) → ys.length < 64 → H p = none → Q (.ref p) (upd H p (.lst ys))
theorem cr_sortS (hc : X.calm = true) (hu : X.A.units + 64 < cLine) : CallR X (.builtin "sorted") (rSortS X.K X.prog X.w) := by
  intro pins s σ H vs us Q I r h
  obtain ⟨a, L, rfl, ha, hL, q⟩ := h
  rw [Vals.ref1 r]
  have hT : ∀ p ∈ L, IsT X.prog X.w s.heap p.2 p.1 := fun p hp => Inv.isT I (hL p hp)
  obtain ⟨es, ep, t, R⟩ := SetT0.full (P := X.prog) (w := X.w) (show SetT0 X.prog X.w s.heap a L from (I.hok a _ ha).1) hT
  refine sorted_setS R (I.ok.hd hc) (by omega) fun s' p out c kp gens os hz hc' pm pw => ?_
  have refs : ∀ u ∈ out, ∃ c, u = Value.ref c := fun u hu => by
    obtain ⟨z, hz, e⟩ := List.mem_map.mp (pm.mem_iff.mp hu)
    exact ⟨z.1, e.symm⟩
  have hlen : out.length < 64 := by
    rw [pm.length_eq, List.length_map]
    exact R.few
  have kk : ∀ z ∈ L, keyV s.heap (.ref z.1) = z.2 := fun z hz => keyV_of (isI_T (hT z hz))
  have J : Inv X pins σ (upd H p (.lst (out.map bkV))) s' := by
    obtain ⟨hh, g, d, tk, oo⟩ := s'
    have e1 : g = s.gens := gens
    have e2 : oo = s.os := os
    subst e1 e2
    have J0 := I.laid (a := p) (o := .lst (out.map bkV)) (h' := hh) (t' := tk) kp hz ⟨by rw [List.length_map]; exact Nat.le_of_lt (Nat.lt_trans hlen (by rw [sizeLine_eq]; decide)), out, c, bkV_vals refs, hc'⟩
    exact J0.call' (s' := ⟨hh, s.gens, d, tk, s.os⟩) (ch := []) rfl Un.refl J0.hok J0.bare fun b hb => absurd hb (by simp)
  refine ⟨.ref p, upd H p (.lst (out.map bkV)), J, rfl, q (out.map bkV) (out.map (keyV s.heap)) p ?_ ?_ (fun z => ?_) (by rw [List.length_map]; exact hlen) (I.hok.fresh hz)⟩
  · have all : ∀ l : List Value, (∀ u ∈ l, u ∈ out) → Paired (TupI X.K H) (l.map bkV) (l.map (keyV s.heap)) := by
      intro l
      induction l with
      | nil => intro _; exact .nil
      | cons u l ih =>
        intro hl'
        refine .cons ?_ (ih fun v hv => hl' v (List.mem_cons_of_mem _ hv))
        obtain ⟨z, hz, e⟩ := List.mem_map.mp (pm.mem_iff.mp (hl' u List.mem_cons_self))
        rw [← e, kk z hz]
        exact ⟨z.1, rfl, hL z hz⟩
    exact all out fun u hu => hu
  · have nd : (out.map (keyV s.heap)).Nodup := by
      have e : (L.map fun q => Value.ref q.1).map (keyV s.heap) = L.map (·.2) := by
        rw [List.map_map]
        exact List.map_congr_left fun z hz => kk z hz
      have pm2 := pm.map (keyV s.heap)
      rw [e] at pm2
      exact pm2.nodup_iff.mpr R.nd
    have pw2 : (out.map (keyV s.heap)).Pairwise (fun x y => lex y x = false) := List.pairwise_map.mpr pw
    refine List.Pairwise.imp₂ (fun x y h1 h2 => ?_) pw2 nd
    cases e : lex x y with
    | true => rfl
    | false => exact absurd (lex_tot x y e h1) h2
  · have e : (L.map fun q => Value.ref q.1).map (keyV s.heap) = L.map (·.2) := by
      rw [List.map_map]
      exact List.map_congr_left fun z hz => kk z hz
    have pm2 := pm.map (keyV s.heap)
    rw [e] at pm2
    exact pm2.mem_iff
end
end SrT

set_option maxHeartbeats 2000000
/-! {elt for .. in .. if .. for .. in .. if ..}, elt a tuple of ints; one loop of a comprehension, said once for all clauses. -/
namespace SrT
open PySem PySem.Spec PyProof.Rows L2 PySem.W
section
variable {P : Program} {w : World} {A : Around} {E : Value → Shared → Prop} {s : Shared}
theorem setT_type {a : Addr} {L : List (Addr × List Int)} {es : Array (Int × Value)} {ep : Nat} {t : SetTable} (R : SetTR P w s.heap a L es ep t) : s.TypeIs (.ref a) "set" := by
  obtain ⟨o, ho, hex, _⟩ := R.ob
  exact ⟨o, ho, hex.1⟩
/-- set.add of a tuple of ints, raw -/
theorem addT_raw {a x : Addr} {L : List (Addr × List Int)} {es : Array (Int × Value)} {ep : Nat} {t : SetTable} {k : List Int} {Q : Value → Shared → Prop} (R : SetTR P w s.heap a L es ep t) (hx : IsT P w s.heap k x) (hu : A.units + 1 < cLine) (hfew : L.length + 1 < 64)
    (hQ : ∀ h' tk L' es' ep' t', Heap.SameBut a s.heap h' → SetTR P w h' a L' es' ep' t' → (k ∈ L.map (·.2) → L' = L) → (k ∉ L.map (·.2) → L'.Perm ((x, k) :: L)) → Q .none { s with heap := h', toks := tk }) :
    wpAny (model P w) A (call (.builtin "set.add") [.ref a, .ref x]) Q E s := by
  refine wpAny_call_entry F.slot_set_add (setT_type R) F.entry_set_add ?_ (F.args_set_add_2 _ _)
  unfold Builtin.«set.add» Builtin.Frozenset.oneOther
  simp only [List.isEmpty_nil, bind_assoc]
  unfold Builtin.Frozenset.addrOf setAdd
  refine wpAny_bind (wpAny_pure ?_)
  try dsimp only
  refine wpAny_bind (wpAny_pure ?_)
  try dsimp only
  refine wpAny_bind ?_
  refine wpAny_holding ?_
  refine wpAny_bind (wpAny_pyHash_tuple (A := A.in1) hu hx ?_)
  refine add_at (A := A.in1) (s := { s with toks := s.toks + (k.length + 1) }) R hx hu hfew fun b h' L' es' ep' t' sb r c1 c2 => ?_
  show wpAny _ _ (ret Value.none) _ _ _
  exact wpAny_pure ⟨_, rfl, hQ h' _ L' es' ep' t' sb r c1 c2⟩
end
section
variable {X : Cx} {pins : List (Addr × Obj)} {σ : L2.St} {H : Hp} {s : Shared}
/-- what a set has got by one more -/
def Grown (L : List (Addr × List Int)) (x : Addr) (k : List Int) (L' : List (Addr × List Int)) : Prop := (k ∈ L.map (·.2) → L' = L) ∧ (k ∉ L.map (·.2) → L'.Perm ((x, k) :: L))
theorem addT_ok {E : Value → Shared → Prop} {D x : Addr} {L : List (Addr × List Int)} {k : List Int} {Q : Value → Shared → Prop} (I : Inv X pins σ H s) (hD : H D = some (SetTO X.prog X.w D L)) (hL : ∀ p ∈ L, SqT X.K H p.1 (p.2.map V.int)) (hx : SqT X.K H x (k.map V.int)) (hf : L.length + 1 < 64) (hu : X.A.units + 1 < cLine)
    (h : ∀ L' s', Grown L x k L' → Inv X pins σ (upd H D (SetTO X.prog X.w D L')) s' → Q .none s') : wpAny (model X.prog X.w) X.A (call (.builtin "set.add") [.ref D, .ref x]) Q E s := by
  obtain ⟨es, ep, t, R⟩ := SetT0.full (P := X.prog) (w := X.w) (show SetT0 X.prog X.w s.heap D L from (I.hok D _ hD).1) fun p hp => Inv.isT I (hL p hp)
  refine addT_raw R (Inv.isT I hx) hu hf fun h' tk L' es' ep' t' sb R' c1 c2 => ?_
  have he : ∃ u, h'.get? D = some u := by
    obtain ⟨o, ho, _⟩ := R'.ob
    exact ⟨o, ho⟩
  exact h L' _ ⟨c1, c2⟩ (I.write (e := D) (t' := tk) (by rw [hD]; trivial) (.inl rfl) (fun b u hb hu => (sb.2 b hb).trans hu) he (setTO_new R'.t0))
end
/-! ### one loop of a comprehension -/
/-- a turn: the store, the tests, what is done behind them -/
def turnOf (e : Expr) (d : Nat) (it acc : Value) (env : Env) (p : Pos) (tg : Expr) (ifs : List Expr) (act : Sem PUnit) : Sem PySem.Fin := do
  standAt p
  match ← pyNext it with
  | none => pure (.done .next)
  | some v =>
    letOwnedTupleGo tg it v
    assign tg env v
    let mut ok := true
    for c in ifs do
      if ok then ok ← isTrue c env (eval c env)
    if ok then
      act
    again (.compLoop e d it acc env)
abbrev TD := L2.St → Hp → (Hp → Prop) → Prop
/-- what is to be shown of the walk -/
def tWk (J : It) (σ : L2.St) (vs : List Nat) (g : TG) (tt : TT) (ta : TD) (Qd : Hp → Prop) (W : Nat → Nat → Hp → Prop) : Prop := ∀ i m H, W i m H →
  (J.stop i H ∧ Qd H) ∨ (J.go i H ∧ ∃ Nx : Hp → Prop, (∀ H', Nx H' → ∃ m', m' < m ∧ W (i + 1) m' H') ∧ ∀ x H', J.yld i H x H' → g x (wipe σ vs) H' fun σ2 H2 => wipe σ2 vs = wipe σ vs ∧ tt σ2 H2 fun b H3 => if b = true then ta σ2 H3 Nx else Nx H3)
theorem loopG {Y : Cx} {e : Expr} {d : Nat} {it : Addr} {acc : Value} {p : Pos} {tg : Expr} {ifs : List Expr} {act : Sem PUnit} {J : It} {fp : List Addr} {tn : Nat → Heap → Prop} {g : TG} {tt : TT} {ta : TD} {vs va : List Nat} {pins : List (Addr × Obj)} {σ : L2.St} {R : Result → Shared → Prop} {Qd : Hp → Prop} {W : Nat → Nat → Hp → Prop} {m0 : Nat} {H0 : Hp} {s0 : Shared}
    (hc : Y.calm = true) (hx : Y.xe = fun _ _ => False) (hq : Code.quiet (.compLoop e d (.ref it) acc Y.env) = true) (hden : (model Y.prog Y.w).den (.compLoop e d (.ref it) acc Y.env) = (compTurn e d (.ref it) acc Y.env).onRaise (fun x => do noteFrame x Y.env; theTreesLotGoes x)) (hun : Y.A.under (.compLoop e d (.ref it) acc Y.env) = Y.A)
    (heq : compTurn e d (.ref it) acc Y.env = turnOf e d (.ref it) acc Y.env p tg ifs act)
    (T : Turn Y.prog Y.w Y.K tg J fp it tn) (pg : PG Y tg g) (pt : PTs Y ifs tt)
    (ha : ∀ (p2 : List (Addr × Obj)) (s : Shared) (σ2 : L2.St) (H : Hp) (Nx : Hp → Prop), Inv Y (pins ++ p2) σ2 H s → ta σ2 H Nx → wpAny (model Y.prog Y.w) Y.A act (fun _ s' => ∃ H', Inv Y (pins ++ p2) (wipe σ2 va) H' s' ∧ Nx H') (fun _ _ => False) s)
    (hva : ∀ i ∈ va, i ∈ vs) (turn : tWk J σ vs g tt ta Qd W) (hR : ∀ s' H', Inv Y pins (wipe σ vs) H' s' → Qd H' → R (.ok .next) s') (hf : ∀ H', (∀ b ∈ fp, H' b = none) → ∀ b ∈ fp, FpOk Y pins H' b)
    (I0 : Inv Y pins (wipe σ vs) H0 s0) (st0 : tn 0 s0.heap) (n0 : ∀ b ∈ fp, H0 b = none) (w0 : W 0 m0 H0) : codeAny (model Y.prog Y.w) Y.A (.compLoop e d (.ref it) acc Y.env) R s0 := by
  refine codeAny_loop hq (fun n s' => ∃ i H', Inv Y pins (wipe σ vs) H' s' ∧ tn i s'.heap ∧ (∀ b ∈ fp, H' b = none) ∧ W i n H') (fun n s hI => ?_) m0 ⟨0, H0, I0, st0, n0, w0⟩
  obtain ⟨i, H, I, st, nf, w⟩ := hI
  rw [hden, hun]
  refine wpAny_noted ?_
  rw [heq]
  unfold turnOf
  refine wpAny_bind (wpAny_standAt (wpAny_bind ?_))
  rcases turn i n H w with ⟨stop, qq⟩ | ⟨go, Nx, hNx, step⟩
  · refine thnF (T.done Y rfl rfl rfl hc i pins s _ H (fun _ _ => False) I (hf H nf) st stop) fun r s6 hr => ?_
    obtain ⟨hr, I6⟩ := hr
    subst hr
    exact wpAny_pure (hR s6 H I6 qq)
  · refine thnF (T.item Y rfl rfl rfl hc i pins s _ H (fun _ _ => False) I (hf H nf) st go) fun r s6 hr => ?_
    obtain ⟨u, hr, h6⟩ := hr
    subst hr
    refine wpAny_bind (thnF h6 fun _ s7 h7 => ?_)
    obtain ⟨x, H7, I7, r7, y7, st7, n7⟩ := h7
    have J7 := I7.pinned (hf H7 n7) (T.obj _ _ st7)
    have gp := pg.run _ s7 _ H7 x u _ J7 r7 (step x H7 y7)
    rw [hx] at gp
    refine wpAny_bind (thnF gp fun _ s8 h8 => ?_)
    obtain ⟨σ8, H8, I8, hw8, q8⟩ := h8
    have gt := pt.run _ s8 σ8 H8 _ I8 q8
    rw [hx] at gt
    refine wpAny_bind (thnF gt fun b s9 h9 => ?_)
    obtain ⟨H9, I9, q9⟩ := h9
    have fin : ∀ {σ9 : L2.St} {s' : Shared} {H' : Hp}, Inv Y (pins ++ pinsAt fp s7.heap) σ9 H' s' → (wipe σ vs).length = σ9.length → (∀ (j : Nat) v, (wipe σ vs)[j]? = some (some v) → σ9[j]? = some (some v)) → Nx H' →
        ∃ m, m < n ∧ ∃ i H', Inv Y pins (wipe σ vs) H' s' ∧ tn i s'.heap ∧ (∀ b ∈ fp, H' b = none) ∧ W i m H' := by
      intro σ9 s' H' I' hl hk nx
      obtain ⟨m', hm, w'⟩ := hNx H' nx
      have at7 : ∀ b ∈ fp, ∀ o, s7.heap.get? b = some o → s'.heap.get? b = some o ∧ H' b = none := fun b hb o e0 =>
        have z := I'.pin (b, o) (List.mem_append_right _ (List.mem_append_right _ (mem_pinsAt hb e0)))
        ⟨z.1, z.2.1⟩
      refine ⟨m', hm, i + 1, H', I'.unpinned.weak hl hk, T.keep _ _ _ st7 fun b hb o e0 => (at7 b hb o e0).1, fun b hb => ?_, w'⟩
      obtain ⟨o, e0, _⟩ := T.obj _ _ st7 b hb
      exact (at7 b hb o e0).2
    have len8 : (wipe σ vs).length = σ8.length := by rw [← hw8, wipe_length]
    cases b with
    | false =>
      simp only [Bool.false_eq_true, if_false] at q9 ⊢
      exact wpAny_pure ⟨rfl, fin I9 len8 (fun j v e0 => by rw [← hw8] at e0; exact (wipe_some e0).1) q9⟩
    | true =>
      simp only [if_true] at q9 ⊢
      refine wpAny_bind (thnF (ha _ s9 σ8 H9 Nx I9 q9) fun _ s10 h10 => ?_)
      obtain ⟨H10, I10, nx⟩ := h10
      refine wpAny_pure ⟨rfl, fin I10 (len8.trans (wipe_length σ8 va).symm) (fun j v e0 => ?_) nx⟩
      rw [← hw8] at e0
      obtain ⟨e1, e2⟩ := wipe_some e0
      rw [wipe_out fun z => e2 (hva j z)]
      exact e1
end SrT

set_option maxHeartbeats 2000000
namespace SrT
open PySem PySem.Spec PyProof.Rows L2 PySem.W
section
variable {elt t0 i0 t1 i1 : Expr} {c0 c1 : List Expr} {sc : Scope} {pos : Pos}
abbrev sc2 (elt t0 i0 t1 i1 : Expr) (c0 c1 : List Expr) (sc : Scope) (pos : Pos) : Expr := .SetComp elt [⟨t0, i0, c0, 0⟩, ⟨t1, i1, c1, 0⟩] sc pos
def actOut (elt t0 i0 t1 i1 : Expr) (c0 c1 : List Expr) (sc : Scope) (pos : Pos) (acc : Value) (env : Env) : Sem PUnit := do
  let x ← eval i1 env
  standAt i1.pos
  let x ← foldedSetIterable i1 env x
  let _ ← runOwn (.compStart (sc2 elt t0 i0 t1 i1 c0 c1 sc pos) 1 (← holding [x] (pyIter x)) acc env) env
def actIn (elt : Expr) (acc : Value) (env : Env) : Sem PUnit := do
  let v ← eval elt env
  standAt elt.pos
  let _ ← call (.builtin "set.add") [acc, v]
theorem turn_out (it acc : Value) (env : Env) : compTurn (sc2 elt t0 i0 t1 i1 c0 c1 sc pos) 0 it acc env = turnOf (sc2 elt t0 i0 t1 i1 c0 c1 sc pos) 0 it acc env i0.pos t0 c0 (actOut elt t0 i0 t1 i1 c0 c1 sc pos acc env) := by
  have e : compTurn (sc2 elt t0 i0 t1 i1 c0 c1 sc pos) 0 it acc env = (do
      standAt i0.pos
      match ← pyNext it with
      | none => pure (.done .next)
      | some v =>
        letOwnedTupleGo t0 it v
        assign t0 env v
        let mut ok := true
        for c in c0 do
          if ok then ok ← isTrue c env (eval c env)
        if ok then
          let x ← eval i1 env
          standAt i1.pos
          let x ← foldedSetIterable i1 env x
          let _ ← runOwn (.compStart (sc2 elt t0 i0 t1 i1 c0 c1 sc pos) 1 (← holding [x] (pyIter x)) acc env) env
        again (.compLoop (sc2 elt t0 i0 t1 i1 c0 c1 sc pos) 0 it acc env)) := by rfl
  rw [e]
  unfold turnOf actOut
  refine bind_congr fun _ => bind_congr fun r => ?_
  cases r with
  | none => rfl
  | some v =>
    refine bind_congr fun _ => bind_congr fun _ => bind_congr fun ok => ?_
    cases ok <;> simp only [Bool.false_eq_true, if_false, if_true, bind_assoc, pure_bind]
theorem turn_in (it acc : Value) (env : Env) : compTurn (sc2 elt t0 i0 t1 i1 c0 c1 sc pos) 1 it acc env = turnOf (sc2 elt t0 i0 t1 i1 c0 c1 sc pos) 1 it acc env i1.pos t1 c1 (actIn elt acc env) := by rfl
theorem start_in {prog : Program} {w : World} {A : Around} {R : Result → Shared → Prop} {s : Shared} {it acc : Value} {env : Env} (h0 : codeAny (model prog w) A (.compLoop (sc2 elt t0 i0 t1 i1 c0 c1 sc pos) 1 it acc env) R s)
    (h : wpAny (model prog w) A (pyIter it) (fun it' s' => codeAny (model prog w) A (.compLoop (sc2 elt t0 i0 t1 i1 c0 c1 sc pos) 1 it' acc env) R s') (notedBy (model prog w) A env fun x s' => R (.error x) s') s) :
    codeAny (model prog w) A (.compStart (sc2 elt t0 i0 t1 i1 c0 c1 sc pos) 1 it acc env) R s := by
  refine codeAny_of_tree ?_
  show wpAny _ _ ((compStart (sc2 elt t0 i0 t1 i1 c0 c1 sc pos) 1 it acc env).onRaise (fun x => do noteFrame x env; standAt theWindowsPlace)) _ _ s
  refine wpAny_notedAt ?_
  unfold compStart
  show wpAny _ _ (ask >>= _) _ _ s
  refine wpAny_bind (wpAny_askSetting (wpAny_ite ?_))
  split
  · first
      | exact wpAny_bind (wpAny_pure (wpAny_pure (And.intro rfl h0)))
      | exact wpAny_pure (And.intro rfl h0)
  · first
      | exact wpAny_bind (wpAny_rule (wpAny_bind (wpAny_standAt (wpAny_bind (wpAny_mono h (fun it' s' h' => wpAny_pure (And.intro rfl h')) fun _ _ x => x)))))
      | (refine wpAny_bind (wpAny_rule ?_); show wpAny _ _ (standAt i1.pos >>= _) _ _ s; exact wpAny_bind (wpAny_standAt (wpAny_bind (wpAny_mono h (fun it' s' h' => wpAny_pure (And.intro rfl h')) fun _ _ x => x))))
end
section
variable {X : Cx}
/-- one more into the set at D -/
def tAdd (K : PySem.W.Frag) (P : Program) (w : World) (D : Addr) (te : TE) : TD := fun σ H Nx => te σ H fun y H4 => ∃ (x : Addr) (k : List Int) (L : List (Addr × List Int)), y = .ref x ∧ SqT K H4 x (k.map V.int) ∧ H4 D = some (SetTO P w D L) ∧ (∀ p ∈ L, SqT K H4 p.1 (p.2.map V.int)) ∧ L.length + 1 < 64 ∧ ∀ L', Grown L x k L' → Nx (upd H4 D (SetTO P w D L'))
/-- the second clause's own walk -/
def tInner (wi1 : TI) (g1 : TG) (tt1 : TT) (ta : TD) (vs1 : List Nat) : TD := fun σ2 H Nx => wi1 σ2 H fun J1 H4 => ∃ W1 : Nat → Nat → Hp → Prop, (∃ m, W1 0 m H4) ∧ tWk J1 σ2 vs1 g1 tt1 ta Nx W1
def tSc2 (K : PySem.W.Frag) (P : Program) (w : World) (wi : TI) (g : TG) (tt : TT) (wi1 : TI) (g1 : TG) (tt1 : TT) (te : TE) (vs vs1 : List Nat) : TE := fun σ H Q => wi σ H fun J H1 => ∀ D, H1 D = none → ∃ W : Nat → Nat → Hp → Prop, (∃ m, W 0 m (upd H1 D (SetTO P w D []))) ∧
  tWk J σ vs g tt (tInner wi1 g1 tt1 (tAdd K P w D te) vs1) (fun H' => Q (.ref D) H') W
theorem act_in {Y : Cx} {elt : Expr} {D : Addr} {te : TE} {pins : List (Addr × Obj)} {σ : L2.St} {H : Hp} {s : Shared} {Nx : Hp → Prop} (hu : Y.A.units + 1 < cLine) (hx : Y.xe = fun _ _ => False) (pe : PE Y elt te) (I : Inv Y pins σ H s) (h : tAdd Y.K Y.prog Y.w D te σ H Nx) :
    wpAny (model Y.prog Y.w) Y.A (actIn elt (.ref D) Y.env) (fun _ s' => ∃ H', Inv Y pins (wipe σ []) H' s' ∧ Nx H') (fun _ _ => False) s := by
  unfold actIn
  have z := pe.run pins s σ H _ I h
  rw [hx] at z
  refine wpAny_bind (thnF z fun u s1 h1 => ?_)
  obtain ⟨yv, H1, I1, r1, x, k, L, ey, hxT, hD, hL, hf, nx⟩ := h1
  subst ey
  cases r1
  refine wpAny_bind (wpAny_standAt (wpAny_bind (addT_ok I1 hD hL hxT hf hu fun L' s2 gr I2 => wpAny_pure ?_)))
  exact ⟨_, I2, nx L' gr⟩
theorem act_out {Y : Cx} {elt tg iter tg1 iter1 : Expr} {ifs ifs1 : List Expr} {sc : Scope} {pos : Pos} {D : Addr} {wi1 : TI} {g1 : TG} {tt1 : TT} {te : TE} {vs1 : List Nat} {pins : List (Addr × Obj)} {σ2 : L2.St} {H : Hp} {s : Shared} {Nx : Hp → Prop} (hc : Y.calm = true) (hu : Y.A.units + 1 < cLine) (hx : Y.xe = fun _ _ => False)
    (pi1 : PI Y tg1 iter1 wi1) (pg1 : PG Y tg1 g1) (pt1 : PTs Y ifs1 tt1) (pe : PE Y elt te) (hs1 : ∀ env x, foldedSetIterable iter1 env x = pure x) (I : Inv Y pins σ2 H s) (h : tInner wi1 g1 tt1 (tAdd Y.K Y.prog Y.w D te) vs1 σ2 H Nx) :
    wpAny (model Y.prog Y.w) Y.A (actOut elt tg iter tg1 iter1 ifs ifs1 sc pos (.ref D) Y.env) (fun _ s' => ∃ H', Inv Y pins (wipe σ2 vs1) H' s' ∧ Nx H') (fun _ _ => False) s := by
  unfold actOut
  have z := pi1.run pins s σ2 H _ I h
  rw [hx] at z
  refine wpAny_bind (thnF z fun xv s1 h1 => wpAny_bind (wpAny_standAt (wpAny_bind (wpAny_of_eq (hs1 Y.env xv) (wpAny_bind (wpAny_holding (thnF h1 fun itv s2 h2 => ?_)))))))
  obtain ⟨it1, fp1, tn1, J1, H2, e1, I2, T1, st2, f2, W1, ⟨m1, w1⟩, turn1⟩ := h2
  subst e1
  refine wpAny_bind (wpAny_runOwn ?_)
  rw [Around.mark_none]
  have I2' : Inv Y pins (wipe σ2 vs1) H2 s2 := I2.weak (wipe_length _ _) (fun j v e => (wipe_some e).1)
  have loop : ∀ (R : Result → Shared → Prop), (∀ s' H', Inv Y pins (wipe σ2 vs1) H' s' → Nx H' → R (.ok .next) s') → codeAny (model Y.prog Y.w) Y.A (.compLoop (sc2 elt tg iter tg1 iter1 ifs ifs1 sc pos) 1 (.ref it1) (.ref D) Y.env) R s2 := fun R hR =>
    loopG (va := []) (vs := vs1) (σ := σ2) (ta := tAdd Y.K Y.prog Y.w D te) (act := actIn elt (.ref D) Y.env) hc hx rfl rfl rfl (turn_in _ _ _) T1 pg1 pt1 (fun p2 s σ3 H Nx' I' h' => act_in hu hx pe I' h') (fun i hi => nomatch hi) turn1 hR (fun H' hn b hb => ⟨hn b hb, (f2 b hb).2⟩) I2' st2 (fun b hb => (f2 b hb).1) w1
  have lp := loop (fun r s' => match r with
    | .ok f => wpAny (model Y.prog Y.w) Y.A (pure PUnit.unit) (fun _ s' => ∃ H', Inv Y pins (wipe σ2 vs1) H' s' ∧ Nx H') (fun _ _ => False) s'
    | .error e => False) (fun s' H' I' n' => wpAny_pure ⟨H', I', n'⟩)
  refine codeAny_mono (start_in lp (T1.self Y.A 0 _ _ _ st2 lp)) fun r s' hr => ?_
  cases r with
  | ok f => exact hr
  | error e => exact hr.elim
end
end SrT

set_option maxHeartbeats 2000000
namespace SrT
open PySem PySem.Spec PyProof.Rows L2 PySem.W
section
variable {X : Cx}
theorem pe_sc2 {elt tg iter tg1 iter1 : Expr} {ifs ifs1 : List Expr} {scope : Scope} {own : List (Str × Nat)} {vs1 : List Nat} {pos : Pos} {wi wi1 : TI} {g g1 : TG} {tt tt1 : TT} {te : TE} (hu : X.A.units + 1 < cLine) (hc : X.calm = true) (hN : X.N.Nodup) (hi : PI X tg iter wi) (ok : BlkOk X.N X.env.scope scope own) (hv : ∀ i ∈ vs1, i ∈ own.map (·.2))
    (hg : ∀ (s : Shared) (H : Hp) (C : Addr) (cl : List (Str × Addr)) (fp : List Addr), PG (X.blk s H scope (compEnvC scope cl C X.env) fp) tg g) (ht : ∀ (s : Shared) (H : Hp) (C : Addr) (cl : List (Str × Addr)) (fp : List Addr), PTs (X.blk s H scope (compEnvC scope cl C X.env) fp) ifs tt)
    (hi1 : ∀ (s : Shared) (H : Hp) (C : Addr) (cl : List (Str × Addr)) (fp : List Addr), PI (X.blk s H scope (compEnvC scope cl C X.env) fp) tg1 iter1 wi1) (hg1 : ∀ (s : Shared) (H : Hp) (C : Addr) (cl : List (Str × Addr)) (fp : List Addr), PG (X.blk s H scope (compEnvC scope cl C X.env) fp) tg1 g1)
    (ht1 : ∀ (s : Shared) (H : Hp) (C : Addr) (cl : List (Str × Addr)) (fp : List Addr), PTs (X.blk s H scope (compEnvC scope cl C X.env) fp) ifs1 tt1) (he : ∀ (s : Shared) (H : Hp) (C : Addr) (cl : List (Str × Addr)) (fp : List Addr), PE (X.blk s H scope (compEnvC scope cl C X.env) fp) elt te)
    (hs : ∀ x, foldedSetIterable iter X.env x = pure x := by intro _; rfl) (hs1 : ∀ env x, foldedSetIterable iter1 env x = pure x := by intro _ _; rfl) :
    PE X (sc2 elt tg iter tg1 iter1 ifs ifs1 scope pos) (tSc2 X.K X.prog X.w wi g tt wi1 g1 tt1 te (own.map (·.2)) vs1) := by
  refine ⟨fun pins s σ H Q I h => ?_⟩
  show wpAny _ _ (comprehension (sc2 elt tg iter tg1 iter1 ifs ifs1 scope pos) scope X.env (firstIterPos _ pos) (newSet (.type "set")) _ (firstIter _ X.env) none) _ _ s
  have fr : ∀ y ∈ scope.names, y.2 = .free → ∃ c, X.env.cells.lookup y.1 = some c := by
    intro y hy e
    rcases ok.free y hy e with k | k
    · exact I.ok.has _ (.inl k)
    · exact I.ok.has _ (.inr k)
  refine wpAny_comprehension_free (use := none) rfl hs (closure_ok fr) ok.kind (fun y hy e => by rw [ok.uniq y hy, e]) (thn (hi.run pins s σ H _ I h) fun xv s1 hx => thn hx fun itv s2 h2 => ?_)
  obtain ⟨it, fp, tn, J, H2, e, I2, T, st2, f2, q⟩ := h2
  subst e
  refine PpSet.newSet_ok (newEnv_comp ?_)
  generalize hD : s2.heap.objs.size = D
  obtain ⟨W, ⟨m0, w0⟩, turn⟩ := q D (I2.hok.fresh (Nat.le_of_eq hD))
  generalize hob : ({ cls := .type "set", dict := none, data := .set #[] 0 (.fresh 0 0 (!X.w.params.followText "set-order")) } : Obj) = ob
  generalize hs3 : ({ s2 with heap := s2.heap.push ob } : Shared) = s3
  have hp3 : s3.heap = s2.heap.push ob := by rw [← hs3]
  have I3 : Inv X pins σ (upd H2 D (SetTO X.prog X.w D [])) s3 := by
    rw [← hs3]
    refine I2.laid (t' := s2.toks) (fun b o e => Heap.get?_push_of_some _ e) (Nat.le_of_eq hD) ?_
    rw [← hD]
    exact setTO_new (SetTR.t0 (setTR_fresh (P := X.prog) (w := X.w) (by rw [← hob]; exact Heap.get?_push_size _ rfl)))
  have lt : ∀ b ∈ fp, b < s2.heap.objs.size := by
    intro b hb
    obtain ⟨o, e, _⟩ := T.obj _ _ st2 b hb
    exact Heap.lt_size e
  have f3 : ∀ b ∈ fp, FpOk X pins (upd H2 D (SetTO X.prog X.w D [])) b ∧ b < s3.heap.objs.size := by
    intro b hb
    have hlt := lt b hb
    refine ⟨⟨?_, (f2 b hb).2⟩, by rw [hp3, Heap.size_push]; exact Nat.lt_succ_of_lt hlt⟩
    rw [upd_ne (by rw [← hD]; exact Nat.ne_of_lt hlt)]
    exact (f2 b hb).1
  have I4 := block_start I3 ok hN f3
  show codeAny _ _ (.compStart (sc2 elt tg iter tg1 iter1 ifs ifs1 scope pos) 0 (.ref it) (.ref D) (compEnvC scope (cellsFrom (s3.heap.objs.size + 1) scope.names (cloFrom X.env.cells scope.names [])) s3.heap.objs.size X.env)) (compPost (model X.prog X.w) X.A X.xe none _ (.ref D) s3.heap.objs.size) { s3 with heap := pushCells (s3.heap.push { cls := .type "dict", data := .dict #[] }) scope.names }
  generalize hcl : cellsFrom (s3.heap.objs.size + 1) scope.names (cloFrom X.env.cells scope.names []) = cl at I4 ⊢
  generalize hH3 : upd H2 D (SetTO X.prog X.w D []) = H3 at *
  have pg := hg s3 H3 s3.heap.objs.size cl fp
  have pt := ht s3 H3 s3.heap.objs.size cl fp
  have pe := he s3 H3 s3.heap.objs.size cl fp
  have pi1 := hi1 s3 H3 s3.heap.objs.size cl fp
  have pg1 := hg1 s3 H3 s3.heap.objs.size cl fp
  have pt1 := ht1 s3 H3 s3.heap.objs.size cl fp
  generalize hs4 : ({ s3 with heap := pushCells (s3.heap.push { cls := .type "dict", data := .dict #[] }) scope.names } : Shared) = s4 at I4 ⊢
  have st4 : tn 0 s4.heap := T.keep _ _ _ st2 fun b _ o e => by
    rw [← hs4]
    refine pushCells_keeps _ _ _ _ (Heap.get?_push_of_some _ ?_)
    rw [hp3]
    exact Heap.get?_push_of_some _ e
  have cL : (compEnvC scope cl s3.heap.objs.size X.env).locals = s3.heap.objs.size := rfl
  generalize hce : compEnvC scope cl s3.heap.objs.size X.env = ce at I4 pg pt pe pi1 pg1 pt1 cL ⊢
  have fps : ∀ H', (∀ b ∈ fp, H' b = none) → ∀ b ∈ fp, FpOk (X.blk s3 H3 scope ce fp) [] H' b := fun H' hn b hb =>
    ⟨hn b hb, (I4.ok.exf b hb).1, I4.ok.exfs b hb, .inl hb, fun x c e => (I4.ok.exf b hb).2 x c e, fun p hp => absurd (show p ∈ ([] : List (Addr × Obj)) ++ [] from hp) (by simp)⟩
  have loop := loopG (Y := X.blk s3 H3 scope ce fp) (e := sc2 elt tg iter tg1 iter1 ifs ifs1 scope pos) (d := 0) (it := it) (acc := .ref D) (va := vs1) (R := compPost (model X.prog X.w) X.A X.xe none (fun v s' => ∃ x H', Inv X pins σ H' s' ∧ RelV x v ∧ Q x H') (.ref D) s3.heap.objs.size)
    hc rfl rfl rfl rfl (turn_out _ _ _) T pg pt (fun p2 s' σ2 H' Nx I' h' => act_out (Y := X.blk s3 H3 scope ce fp) hc hu rfl pi1 pg1 pt1 pe hs1 I' h') hv turn (fun s' H' I' qq => ?_) fps I4 st4 (fun b hb => (f3 b hb).1.1) w0
  · exact PpSet.codeAny_compStart_set loop (T.self X.A 0 _ _ _ st4 loop)
  · have I7 : Inv X pins σ H' s' := I3.call' (ch := fp) I'.os I'.base I'.hok I'.bare fun b hb => ⟨(f3 b hb).1.2.2.2.1, (f3 b hb).1.2.1, (f3 b hb).1.2.2.2.2.1, (f3 b hb).1.2.2.2.2.2⟩
    have nC : H' s3.heap.objs.size = none := by
      have z : H' ce.locals = none := I'.free
      rw [cL] at z
      exact z
    obtain ⟨m, hn, _⟩ := I'.loc
    have hn : s'.heap.Ns ce.locals m := hn
    rw [cL] at hn
    obtain ⟨f0, f1, f2, f3, f4, f5⟩ := I3.fpOk (Nat.le_refl _) nC
    exact ⟨m, hn, fun h'' sb => ⟨.ref D, H', I7.turned (t' := s'.toks) (fun b o hb e => (sb.2 b hb).trans e) f0 f1 f3 f4 f5, rfl, qq⟩⟩
end
end SrT

set_option maxHeartbeats 2000000
namespace SrT
open PySem PySem.Spec PyProof.Rows L2 PySem.W
section
variable {P : Program} {w : World} {A : Around} {E : Value → Shared → Prop} {s : Shared}
/-- sorted(t), t a tuple of ints -/
theorem sorted_tupleI {t : Addr} {vs : List Value} {ns : List Int} {Q : Value → Shared → Prop} (ht : IsTup s.heap t vs.toArray) (hi : IntsAre vs ns) (hz : vs.length ≤ sizeLine)
    (hQ : ∀ (h1 h' : Heap) (out : List Value) (c : Nat), (∀ b o, s.heap.get? b = some o → h1.get? b = some o) → (∀ b o, h1.get? b = some o → h'.get? b = some o) → h'.get? h1.objs.size = some (seqObj "list" out.toArray c) → SrtO.Srtd SrtO.ltIv out → SrtO.Stb SrtO.ltIv out vs → Q (.ref h1.objs.size) { s with heap := h' }) :
    wpAny (model P w) A (call (.builtin "sorted") [.ref t]) Q E s := by
  obtain ⟨o, ho, hc, n, hd⟩ := id ht
  refine Calls.call_function_entry kind_sorted plain_sorted entry_sorted (args_sorted1 _) ?_
  unfold Builtin.«sorted»
  refine wpAny_bind (m := checkCount "sorted" 1 1 _) (wpAny_pure ?_)
  refine wpAny_bind (wpAny_collect_seq (A := A.in1) t (.inr rfl) ho hc hd (fun h1 kp => ?_) (by simpa using hz))
  rw [List.toList_toArray]
  refine wpAny_bind (wpAny_newList ?_ hz)
  have hoL : (h1.push (seqObj "list" vs.toArray 0)).get? h1.objs.size = some (seqObj "list" vs.toArray 0) := Heap.get?_push_size _ rfl
  refine wpAny_bind (wpAny_holding (wpAny_call_entry slot_list_sort ⟨_, hoL, rfl⟩ entry_list_sort (SrtO.list_sort_ord (s := { s with heap := h1.push (seqObj "list" vs.toArray 0) }) SrtO.swo_int hoL hz (fun h2 => SrtO.ints_sortable hi h2) fun out hs hb => ⟨_, rfl, ?_⟩) (args_list_sort _)))
  obtain ⟨c, hc2⟩ := sortedHeap_at (vs := vs) (out := out.toArray) hoL
  refine wpAny_pure ⟨_, rfl, hQ h1 _ out c kp (fun b u q => ?_) hc2 hs hb⟩
  have lt := Heap.lt_size q
  show (sortedHeap (h1.push (seqObj "list" vs.toArray 0)) h1.objs.size vs out.toArray).get? b = some u
  rw [sortedHeap_old (Nat.ne_of_lt lt) (by rw [size_push']; exact Nat.lt_succ_of_lt lt)]
  exact Heap.get?_push_of_some _ q
end
section
variable {X : Cx} {pins : List (Addr × Obj)} {σ : L2.St} {H : Hp} {s : Shared}
/-- sorted(t) of a tuple of ints -/
def rSortTI (K : PySem.W.Frag) : List V → Hp → VK → Prop := fun vs H Q => ∃ (a : Addr) (ns : List Int), vs = [V.ref a] ∧ SqT K H a (ns.map V.int) ∧ ∀ (ns' : List Int) (p : Addr), ns'.Perm ns → ns'.Pairwise (· ≤ ·) → H p = none → Q (.ref p) (upd H p (.lst (ns'.map V.int)))
theorem cr_sortTI : CallR X (.builtin "sorted") (rSortTI X.K) := by
  intro pins s σ H vs us Q I r h
  obtain ⟨a, ns, rfl, hs, q⟩ := h
  obtain ⟨its, rv, hl, hz⟩ := I.tuple hs
  rw [Vals.ref1 r]
  have hi := rv.ints
  refine sorted_tupleI hl hi (by rw [← rv.length]; exact hz) fun h1 h' out c kp kp2 hat hs' hb => ?_
  obtain ⟨k1, k2, k3⟩ := SrtO.ints_out hi hs' hb
  have I1 : Inv X pins σ H { s with heap := h1 } := I.kept (t' := s.toks) kp
  have hlen : ((out.map SrtO.iv).map V.int).length ≤ sizeLine := by
    rw [List.length_map, k2.length_eq]
    rw [List.length_map] at hz
    exact hz
  exact ⟨.ref _, upd H h1.objs.size (.lst ((out.map SrtO.iv).map V.int)), I1.laid (t' := s.toks) kp2 (Nat.le_refl _) ⟨hlen, out, c, vals_of_ints k1, hat⟩, rfl, q _ _ k2 k3 (I1.hok.fresh (Nat.le_refl _))⟩
end
end SrT

set_option maxHeartbeats 1000000
namespace SrT
open PySem PySem.Spec PyProof.Rows L2 PySem.W
section
variable {X : Cx}
/-- sum(a tuple of ints) -/
def rSumT (K : PySem.W.Frag) : List V → Hp → VK → Prop := fun vs H Q => ∃ (a : Addr) (ns : List Int), vs = [V.ref a] ∧ SqT K H a (ns.map V.int) ∧ Q (.int ns.sum) H
theorem cr_sumT (hc : X.calm = true) : CallR X (.builtin "sum") (rSumT X.K) := by
  intro pins s σ H vs us Q I r h
  obtain ⟨a, ns, rfl, hs, q⟩ := h
  obtain ⟨its, rv, ht, _⟩ := I.tuple hs
  rw [Vals.ref1 r]
  have hi := rv.ints
  obtain ⟨xs, hx⟩ := hi.allInts.items
  have hn : numsOf its.toArray.toList = ns := by
    rw [show its.toArray.toList = its from rfl, hi.numsOf]
  rw [hx] at ht hn
  rw [nums_intItems] at hn
  refine ktm_sumG (I.ok.hd hc) ht fun h' tk t' hk => ?_
  rw [preSum_eq, List.take_of_length_le (by simp), hn]
  exact ⟨.int ns.sum, H, I.kept hk, ⟨_, rfl⟩, q⟩
theorem vals_int_eq : ∀ {zs : List V} {ns : List Int} {us : List Value}, Vals zs us → Vals (ns.map V.int) us → zs = ns.map V.int
  | _, [], _, r, .nil => by cases r; rfl
  | _, n :: ns, _, r, .cons q t => by
    cases r with
    | cons r t' =>
      obtain ⟨tk, rfl⟩ := q
      rw [List.map_cons, vals_int_eq t' t]
      rename_i x _
      cases x with
      | int m =>
        obtain ⟨t2, e⟩ := r
        injection e with e1 e2
        rw [e1]
      | _ => first | (obtain ⟨t2, e⟩ := r; cases e) | cases r
/-- an own tuple of the heap is what is told of it -/
def KnT (K : PySem.W.Frag) (H : Hp) : Prop := ∀ t zs (ns : List Int), H t = some (.tup zs) → SqT K H t (ns.map V.int) → zs = ns.map V.int
theorem Inv.knT {pins : List (Addr × Obj)} {σ : L2.St} {H : Hp} {s : Shared} (I : Inv X pins σ H s) : KnT X.K H := by
  intro t zs ns h1 h2
  obtain ⟨us, r1, p1, _⟩ := I.tuple (show SqT X.K H t zs from .inl (.inl h1))
  obtain ⟨us2, r2, p2, _⟩ := I.tuple h2
  obtain ⟨o, ho, _, n, hd⟩ := p1
  obtain ⟨o2, ho2, _, n2, hd2⟩ := p2
  rw [ho] at ho2
  cases ho2
  rw [hd] at hd2
  injection hd2 with e1 e2
  have e3 : us = us2 := by simpa using e1
  subst e3
  exact vals_int_eq r1 r2
/-- what is known behind any expression -/
def tKn (K : PySem.W.Frag) (te : TE) : TE := fun σ H Q => te σ H fun v H1 => KnT K H1 → Q v H1
theorem pe_kn {e : Expr} {te : TE} (h : PE X e te) : PE X e (tKn X.K te) := by
  refine ⟨fun pins s σ H Q I q => thn (h.run pins s σ H _ I q) fun v s1 ⟨x, H1, I1, r1, q1⟩ => ⟨x, H1, I1, r1, q1 (Inv.knT I1)⟩⟩
/-- a list of own tuples of ints -/
def TupH (H : Hp) (x : V) (ns : List Int) : Prop := ∃ t, x = .ref t ∧ H t = some (.tup (ns.map V.int))
def OwnT (H : Hp) (x : V) : Prop := ∃ t zs, x = .ref t ∧ H t = some (.tup zs)
theorem TupH.tup {K : PySem.W.Frag} {H : Hp} {x : V} {ns : List Int} (h : TupH H x ns) : TupI K H x ns := let ⟨t, e, h⟩ := h; ⟨t, e, .inl (.inl h)⟩
theorem TupH.own {H : Hp} {x : V} {ns : List Int} (h : TupH H x ns) : OwnT H x := let ⟨t, e, h⟩ := h; ⟨t, _, e, h⟩
theorem tupH_of {K : PySem.W.Frag} {H : Hp} (kn : KnT K H) {x : V} {ns : List Int} (h : OwnT H x) (h2 : TupI K H x ns) : TupH H x ns := by
  obtain ⟨t, zs, rfl, h1⟩ := h
  obtain ⟨t2, e, h3⟩ := h2
  cases e
  exact ⟨t, rfl, by rw [← kn t zs ns h1 h3]; exact h1⟩
theorem tupsH_of {K : PySem.W.Frag} {H : Hp} (kn : KnT K H) : ∀ {xs : List V} {fss : List (List Int)}, (∀ x ∈ xs, OwnT H x) → Paired (TupI K H) xs fss → Paired (TupH H) xs fss
  | _, _, _, .nil => .nil
  | _, _, h, .cons r t => .cons (tupH_of kn (h _ List.mem_cons_self) r) (tupsH_of kn (fun x hx => h x (List.mem_cons_of_mem _ hx)) t)
end
end SrT

namespace Lf
open PySem PySem.Spec PyProof.Rows L2 GxR GxA SrT
/-! ### a def whose code object is told -/
structure FunC (K : PySem.W.Frag) (x : Str) (st : Stmt) (f : Addr) (fd : FuncData) (c : Addr) : Prop where
  ex : ∃ (oc : Value) (od : Option Addr) (kV doc pm : Value) (an : Option Addr) (ct : Value) (osl : Array (Option Value)),
    fd = PySem.W.fnOf x x (defArgs st) (defBody st) (defScope st) .none kV doc pm an (.ref c) ct ∧ K.lookup f = some ⟨oc, od, .func fd, osl⟩ ∧ PySem.W.codeIn K (.ref c) x = true
  kp : PySem.W.keepIn K (.ref f) = true
/-- a def of the top: where it stands, how it is called -/
structure Def (K : PySem.W.Frag) (mg : Str → Option Value) (x : Str) (st : Stmt) (ps : List Str) (f : Addr) (fd : FuncData) (c : Addr) : Prop where
  F : FunC K x st f fd c
  b : Binds K fd ps []
  g : mg x = some (.ref f)
section
variable {P : Program} {w : World} {K : PySem.W.Frag} {mg : Str → Option Value} {base : Heap}
theorem Def.ok {x : Str} {st : Stmt} {f c : Addr} {fd : FuncData} {N ps : List Str} {k : Nat} {sp : Sp} (D : Def K mg x st ps f fd c) (S : FnScope N ps (defScope st)) (len : ∀ vs H Q E, sp vs H Q E → vs.length = ps.length)
    (hbody : ∀ (A : Around) (outer : List Env) (s : Shared) (H : Hp) (vs : List V) (Q : VK) (E : XK), Room k (A.deeper (envOfC x (defScope st) s.heap.objs.size f (.ref c))) → sp vs H Q E →
      ∃ t, PSs (cxOf CX0 P w K mg base N x (defScope st) f (.ref c) A outer s H E).nox (defBody st) t ∧ t { nx := fun _ H' => Q .non H', rt := Q } (start N vs) H) : FnOk P w K mg base CX0 (k + 1) f fd ps sp := by
  obtain ⟨oc, od, kV, doc, pm, an, ct, osl, rfl, lk, hcd⟩ := D.F.ex
  refine fn_of lk hcd S len fun A outer s H vs Q E hr hsp => ?_
  obtain ⟨t, h, q⟩ := hbody A outer s H vs Q E hr hsp
  exact ⟨t, h.nox, q⟩
end
/-- a call of such a def -/
theorem pcl {X : Cx} {x : Str} {st : Stmt} {ps : List Str} {f c : Addr} {fd : FuncData} {k : Nat} {sp : Sp} {e : Expr} {es : List Expr} {t : TA} {p pos : Pos} (D : Def X.K X.mg x st ps f fd c) (G : FnOk X.prog X.w X.K X.mg X.base CX0 k f fd ps sp) (hr : Room k X.A) (ha : PA X (e :: es) t)
    (hg : Gl X x := by rfl) (hdb : (x == ("__debug__" : Str)) = false := by decide) (he : starEach (e :: es) X.env = (false, eval e X.env) :: starEach es X.env := by rfl) (hpl : (backTo pos (starEach es X.env)).any (·.1) = false := by rfl) :
    PE X (.Call (.Name x p) (e :: es) [] pos) (tCall sp [] E0 t) := pe_call G hr hg D.g D.F.kp D.b .nil pass0 ha hdb he hpl
/-! ### the tables of the generator expressions and of the lambdas, and what is kept -/
structure Tbs where
  gen : List Addr
  lam : List (Addr × Str)
  apart : ∀ p ∈ lam, p.1 ∉ gen
  one : ∀ p ∈ lam, ∀ q ∈ lam, p.1 = q.1 → p.2 = q.2
instance : Membership Addr Tbs := ⟨fun Ps P => P ∈ Ps.gen⟩
structure Tb (Ps : Tbs) (H : Hp) : Prop where
  gen : ∀ P, P ∈ Ps → TabG H P
  lam : LamX.Tabs Ps.lam H
structure Ext (Ps : Tbs) (H H' : Hp) : Prop where
  tb : Tb Ps H'
  old : ∀ b o, H b = some o → (∀ q, o ≠ .tbl q) → H' b = some o
  there : ∀ b o, H b = some o → ∃ o', H' b = some o'
section
variable {Ps : Tbs} {H H1 H2 H' : Hp} {K : PySem.W.Frag}
theorem Ext.refl (h : Tb Ps H) : Ext Ps H H := ⟨h, fun _ _ e _ => e, fun _ o e => ⟨o, e⟩⟩
theorem Ext.trans (a : Ext Ps H H1) (b : Ext Ps H1 H2) : Ext Ps H H2 := ⟨b.tb, fun c o e n => b.old c o (a.old c o e n) n, fun c o e => let ⟨o', e'⟩ := a.there c o e; b.there c o' e'⟩
theorem Ext.free (e : Ext Ps H H') {l : Addr} (h : H' l = none) : H l = none := by
  cases q : H l with
  | none => rfl
  | some o =>
    obtain ⟨o', z⟩ := e.there l o q
    rw [z] at h
    cases h
/-- a lambda's table stays one where its own cell and the code objects do -/
theorem tabS_keep {P : Addr} {q : Str} (t : LamX.TabS H P q) (h1 : ∀ ps, H P = some (.tbl ps) → H' P = some (.tbl ps)) (h2 : ∀ c, H c = some (LamX.CodeO c q) → H' c = some (LamX.CodeO c q)) : LamX.TabS H' P q := by
  obtain ⟨ps, a1, a2, a3⟩ := t
  refine ⟨ps, h1 ps a1, a2, fun p' cv hc => ?_⟩
  obtain ⟨c, e1, e2⟩ := a3 p' cv hc
  exact ⟨c, e1, h2 c e2⟩
theorem Ext.of_tabbed {P : Addr} (h : Tb Ps H) (hP : P ∈ Ps) (z : Tabbed P H H') : Ext Ps H H' := by
  obtain ⟨ps0, e0, _⟩ := h.gen P hP
  have nb : ∀ b o, H b = some o → (∀ q, o ≠ .tbl q) → b ≠ P := fun b o e n q => by
    rw [q, e0] at e
    cases e
    exact n _ rfl
  refine ⟨⟨fun Q hQ => ?_, fun p hp => tabS_keep (h.lam p hp) (fun ps e => ?_) fun c e => ?_⟩, fun b o e n => ?_, fun b o e => ?_⟩
  · by_cases e : Q = P
    · rw [e]
      exact z.1
    · obtain ⟨ps, h1, h2⟩ := h.gen Q hQ
      exact ⟨ps, by rw [z.2 Q e]; exact h1, h2⟩
  · rw [z.2 p.1 fun q => Ps.apart p hp (q ▸ hP)]
    exact e
  · rw [z.2 c (nb c _ e fun q y => by cases y)]
    exact e
  · rw [z.2 b (nb b o e n)]
    exact e
  · by_cases eb : b = P
    · obtain ⟨ps, h1, _⟩ := z.1
      rw [eb]
      exact ⟨_, h1⟩
    · exact ⟨o, by rw [z.2 b eb]; exact e⟩
theorem Tb.new {p : Addr} {o : HO} (h : Tb Ps H) (n : H p = none) : Tb Ps (upd H p o) := by
  refine ⟨fun Q hQ => ?_, fun q hq => tabS_keep (h.lam q hq) (fun ps e => ?_) fun c e => ?_⟩
  · obtain ⟨ps, h1, h2⟩ := h.gen Q hQ
    exact ⟨ps, by rw [upd_ne (ne_of_none h1 n)]; exact h1, h2⟩
  · rw [upd_ne (ne_of_none e n)]
    exact e
  · rw [upd_ne (ne_of_none e n)]
    exact e
/-- a heap of that many objects -/
theorem heap_of_size : ∀ n : Nat, ∃ h : Heap, h.objs.size = n
  | 0 => ⟨⟨#[], {}⟩, rfl⟩
  | n + 1 => by
    obtain ⟨h, e⟩ := heap_of_size n
    exact ⟨h.push { cls := .none, data := .fields #[] }, by rw [Heap.size_push, e]⟩
/-- what is true only of sets is no code object -/
theorem ext_ne_code {p : Addr} {q : Str} {f : Heap → Prop} (hf : ∀ h oc vs, f h → h.get? p = some oc → oc.data = .fields vs → False) : HO.ext f ≠ LamX.CodeO p q := fun z => by
  unfold LamX.CodeO at z
  obtain ⟨h, e⟩ := heap_of_size p
  have hz := HO.ext.inj z
  have g : (h.push { cls := .none, data := .fields #[.none, .str q 0] }).get? p = some { cls := .none, data := .fields #[.none, .str q 0] } := by
    rw [← e]
    exact Heap.get?_push_size _ rfl
  have hh : f (h.push { cls := .none, data := .fields #[.none, .str q 0] }) := by
    rw [hz]
    exact ⟨_, _, _, g, rfl, rfl⟩
  exact hf _ _ _ hh g rfl
/-- an object that is neither a table nor a code object is written -/
theorem Tb.put {p : Addr} {o o' : HO} (h : Tb Ps H) (hp : H p = some o) (ho : ∀ q, o ≠ .tbl q) (hx : ∀ q, o ≠ LamX.CodeO p q) : Tb Ps (upd H p o') := by
  have n1 : ∀ Q ps, H Q = some (.tbl ps) → Q ≠ p := fun Q ps e z => by
    rw [z, hp] at e
    cases e
    exact ho _ rfl
  refine ⟨fun Q hQ => ?_, fun q hq => tabS_keep (h.lam q hq) (fun ps e => ?_) fun c e => ?_⟩
  · obtain ⟨ps, h1, h2⟩ := h.gen Q hQ
    exact ⟨ps, by rw [upd_ne (n1 Q ps h1)]; exact h1, h2⟩
  · rw [upd_ne (n1 _ ps e)]
    exact e
  · have ne : c ≠ p := fun z => by
      rw [z] at e
      exact hx _ (Option.some.inj (hp.symm.trans e))
    rw [upd_ne ne]
    exact e
theorem Ext.new {p : Addr} {o : HO} (h : Tb Ps H) (n : H p = none) : Ext Ps H (upd H p o) := by
  refine ⟨h.new n, fun b u e _ => ?_, fun b u e => ⟨u, ?_⟩⟩
  · rw [upd_ne (ne_of_none e n)]
    exact e
  · rw [upd_ne (ne_of_none e n)]
    exact e
theorem Ext.sqL (e : Ext Ps H H') {a : Addr} {xs : List V} (h : SqL K H a xs) : SqL K H' a xs := by
  rcases h with (h | ⟨o, h⟩) | h
  · exact .inl (.inl (e.old _ _ h (fun q z => by cases z)))
  · exact .inl (.inr ⟨o, e.old _ _ h (fun q z => by cases z)⟩)
  · exact .inr h
theorem Ext.sqT (e : Ext Ps H H') {a : Addr} {xs : List V} (h : SqT K H a xs) : SqT K H' a xs := by
  rcases h with (h | ⟨o, h⟩) | h
  · exact .inl (.inl (e.old _ _ h (fun q z => by cases z)))
  · exact .inl (.inr ⟨o, e.old _ _ h (fun q z => by cases z)⟩)
  · exact .inr h
theorem Ext.lst (e : Ext Ps H H') {a : Addr} {xs : List V} (h : H a = some (.lst xs)) : H' a = some (.lst xs) := e.old _ _ h (fun q z => by cases z)
theorem Ext.tupI (e : Ext Ps H H') {x : V} {ns : List Int} (h : TupI K H x ns) : TupI K H' x ns := let ⟨t, e1, e2⟩ := h; ⟨t, e1, e.sqT e2⟩
theorem Ext.tups (e : Ext Ps H H') {xs : List V} {fss : List (List Int)} (h : Paired (TupI K H) xs fss) : Paired (TupI K H') xs fss := L2.Paired.mapP h fun _ _ z => e.tupI z
/-- an object that is ours is written -/
theorem Ext.write {p : Addr} {o o' : HO} (e : Ext Ps H H') (n : H p = none) (hp : H' p = some o) (ho : ∀ q, o ≠ .tbl q) (hx : ∀ q, o ≠ LamX.CodeO p q := by intro q z; unfold LamX.CodeO at z; cases z) : Ext Ps H (upd H' p o') := by
  refine ⟨e.tb.put hp ho hx, fun b u q nt => ?_, fun b u q => ?_⟩
  · rw [upd_ne (ne_of_none q n)]
    exact e.old _ _ q nt
  · rw [upd_ne (ne_of_none q n)]
    exact e.there _ _ q
end
theorem paired_get {α β : Type} {F : α → β → Prop} : ∀ {xs : List α} {fs : List β} {i : Nat} {x : α}, Paired F xs fs → xs[i]? = some x → ∃ f, fs[i]? = some f ∧ F x f
  | _, _, _, _, .nil, e => by simp at e
  | _, _, 0, x, .cons r _, e => by
    have e' := Option.some.inj e
    subst e'
    exact ⟨_, rfl, r⟩
  | _, _, i + 1, x, .cons _ t, e => by
    obtain ⟨f, h1, h2⟩ := paired_get (i := i) (x := x) t (by simpa using e)
    exact ⟨f, by simpa using h1, h2⟩
theorem paired_get' {α β : Type} {F : α → β → Prop} : ∀ {xs : List α} {fs : List β} {i : Nat} {f : β}, Paired F xs fs → fs[i]? = some f → ∃ x, xs[i]? = some x ∧ F x f
  | _, _, _, _, .nil, e => by simp at e
  | _, _, 0, x, .cons r _, e => by
    have e' := Option.some.inj e
    subst e'
    exact ⟨_, rfl, r⟩
  | _, _, i + 1, x, .cons _ t, e => by
    obtain ⟨f, h1, h2⟩ := paired_get' (i := i) (f := x) t (by simpa using e)
    exact ⟨f, by simpa using h1, h2⟩
/-! ### gW for the three kinds of walks -/
section
variable {K : PySem.W.Frag} {all : Bool} {σc : L2.St} {te : TE} {Q : VK}
/-- over a sequence of n things that stands still; Pv: what is kept, by the turn -/
theorem gW_seq {J : It} {n : Nat} {H0 : Hp} (Pv : Nat → Hp → Prop) (h0 : Pv 0 H0) (hstop : ∀ H, Pv n H → J.stop n H ∧ Q (.bl all) H)
    (hgo : ∀ i H, i < n → Pv i H → J.go i H ∧ ∀ x H4, J.yld i H x H4 → te (some x :: σc) H4 fun v H5 => ∃ b : Bool, v = .bl b ∧ (b = all → Pv (i + 1) H5) ∧ (b ≠ all → Q (.bl b) H5)) :
    ∃ W : Nat → Nat → Hp → Prop, (∃ m, W 0 m H0) ∧ gW all J σc te Q W := by
  refine ⟨fun i m H => i + m = n ∧ Pv i H, ⟨n, by omega, h0⟩, ?_⟩
  rintro i m H ⟨e, p⟩
  by_cases hi : i < n
  · obtain ⟨g1, g2⟩ := hgo i H hi p
    refine .inr ⟨m - 1, by omega, g1, fun x H4 hy => ?_⟩
    have q := g2 x H4 hy
    have en : i + 1 + (m - 1) = n := by omega
    have ee : (fun (v : V) (H5 : Hp) => ∃ b : Bool, v = .bl b ∧ (b = all → (i + 1 + (m - 1) = n ∧ Pv (i + 1) H5)) ∧ (b ≠ all → Q (.bl b) H5)) = (fun (v : V) (H5 : Hp) => ∃ b : Bool, v = .bl b ∧ (b = all → Pv (i + 1) H5) ∧ (b ≠ all → Q (.bl b) H5)) := by
      funext v H5
      simp only [en, true_and]
    show te (some x :: σc) H4 (fun (v : V) (H5 : Hp) => ∃ b : Bool, v = .bl b ∧ (b = all → (i + 1 + (m - 1) = n ∧ Pv (i + 1) H5)) ∧ (b ≠ all → Q (.bl b) H5))
    rw [ee]
    exact q
  · have ei : i = n := by omega
    subst ei
    exact .inl (hstop H p)
theorem gW_tup {a : Addr} {xs : List V} {H0 : Hp} (Pv : Nat → Hp → Prop) (h0 : Pv 0 H0) (hl : ∀ i H, Pv i H → SqT K H a xs) (hstop : ∀ H, Pv xs.length H → Q (.bl all) H)
    (hgo : ∀ i H x, xs[i]? = some x → Pv i H → te (some x :: σc) H fun v H5 => ∃ b : Bool, v = .bl b ∧ (b = all → Pv (i + 1) H5) ∧ (b ≠ all → Q (.bl b) H5)) :
    ∃ W : Nat → Nat → Hp → Prop, (∃ m, W 0 m H0) ∧ gW all (Itt K a) σc te Q W := by
  refine gW_seq (n := xs.length) Pv h0 (fun H p => ⟨⟨xs, hl _ H p, Nat.le_refl _⟩, hstop H p⟩) fun i H hi p => ⟨⟨xs, xs[i], hl i H p, List.getElem?_eq_getElem hi⟩, fun x H4 hy => ?_⟩
  obtain ⟨rfl, hy⟩ := hy
  exact hgo i H4 x (hy xs (hl i H4 p)) p
theorem gW_lst {a : Addr} {xs : List V} {H0 : Hp} (Pv : Nat → Hp → Prop) (h0 : Pv 0 H0) (hl : ∀ i H, Pv i H → SqL K H a xs) (hstop : ∀ H, Pv xs.length H → Q (.bl all) H)
    (hgo : ∀ i H x, xs[i]? = some x → Pv i H → te (some x :: σc) H fun v H5 => ∃ b : Bool, v = .bl b ∧ (b = all → Pv (i + 1) H5) ∧ (b ≠ all → Q (.bl b) H5)) :
    ∃ W : Nat → Nat → Hp → Prop, (∃ m, W 0 m H0) ∧ gW all (Itl K a) σc te Q W := by
  refine gW_seq (n := xs.length) Pv h0 (fun H p => ⟨⟨xs, hl _ H p, Nat.le_refl _⟩, hstop H p⟩) fun i H hi p => ⟨⟨xs, xs[i], hl i H p, List.getElem?_eq_getElem hi⟩, fun x H4 hy => ?_⟩
  obtain ⟨rfl, hy⟩ := hy
  exact hgo i H4 x (hy xs (hl i H4 p)) p
theorem gW_rng {lo : Int} {n : Nat} {H0 : Hp} (Pv : Nat → Hp → Prop) (h0 : Pv 0 H0) (hstop : ∀ H, Pv n H → Q (.bl all) H)
    (hgo : ∀ (i : Nat) H, i < n → Pv i H → te (some (.int (lo + i)) :: σc) H fun v H5 => ∃ b : Bool, v = .bl b ∧ (b = all → Pv (i + 1) H5) ∧ (b ≠ all → Q (.bl b) H5)) :
    ∃ W : Nat → Nat → Hp → Prop, (∃ m, W 0 m H0) ∧ gW all (Itr lo n) σc te Q W := by
  refine gW_seq (n := n) Pv h0 (fun H p => ⟨Nat.le_refl n, hstop H p⟩) fun i H hi p => ⟨hi, fun x H4 hy => ?_⟩
  obtain ⟨rfl, rfl⟩ := hy
  exact hgo i H4 hi p
end
/-- the scope of a generator expression over the def's own -/
def genC (dsc sc : Scope) : Bool := sc.names.all fun y => match y.2 with
  | .cell => false
  | .free => (match dsc.names.lookup y.1 with | some .cell => true | _ => false)
  | _ => true
theorem genS {q : Str} {dsc sc : Scope} {n f : Addr} {cd : Value} {x : Str} (h1 : sc.kind = .function) (h2 : sc.isCoroutine = false) (h3 : genC dsc sc = true) (h4 : sc.names.lookup (".0" : Str) = some NameKind.local) (h5 : sc.names.lookup x = some .local) :
    GenS (envOfC q dsc n f cd) sc x := by
  refine ⟨h1, h2, fun y hy e => ?_, h4, h5, fun y hy e => ?_⟩
  · have z := List.all_eq_true.mp h3 y hy
    simp only [e] at z
    cases z
  · have z := List.all_eq_true.mp h3 y hy
    simp only [e] at z
    split at z
    · rename_i hc
      exact cell_has hc
    · cases z
end Lf

namespace Lf
open PySem
/-! ### the text -/
def topS (i : Nat) : Stmt := PySem.Challenge.pw_layfaces_k95_stacks_written_and_read.main.body.getD i (.Pass ⟨0, 0, 0, 0⟩)
end Lf

set_option maxHeartbeats 1000000
namespace Lf
open PySem PySem.Spec PyProof.Rows L2 GxR GxA SrT
abbrev sWithin : Stmt := topS 16
abbrev sBelow : Stmt := topS 17
abbrev sRises : Stmt := topS 18
abbrev sRising : Stmt := topS 19
theorem scWithin : FnScope ["thing", "least", "most"] ["thing", "least", "most"] (defScope sWithin) := ⟨rfl, rfl, rfl, by decide +kernel, rfl, by decide +kernel, by decide +kernel⟩
theorem scBelow : FnScope ["thing", "many"] ["thing", "many"] (defScope sBelow) := ⟨rfl, rfl, rfl, by decide +kernel, rfl, by decide +kernel, by decide +kernel⟩
theorem scRises : FnScope ["things"] ["things"] (defScope sRises) := ⟨rfl, rfl, rfl, by decide +kernel, rfl, by decide +kernel, by decide +kernel⟩
theorem scRising : FnScope ["thing", "many"] ["thing", "many"] (defScope sRising) := ⟨rfl, rfl, rfl, by decide +kernel, rfl, by decide +kernel, by decide +kernel⟩
section
variable {P : Program} {w : World} {K : PySem.W.Frag} {mg : Str → Option Value} {base : Heap} {Ps : Tbs}
/-! ### is_within -/
def spWithin : Sp := fun vs H Q _ => ∃ i lo hi : Int, vs = [.int i, .int lo, .int hi] ∧ lo ≤ i ∧ i ≤ hi ∧ Q (.bl true) H
theorem ok_within {f c : Addr} {fd : FuncData} {k : Nat} (D : Def K mg "is_within" sWithin ["thing", "least", "most"] f fd c) (mi : mg "isinstance" = none) (mn : mg "int" = none) (mb : mg "bool" = none) : FnOk P w K mg base CX0 (k + 1) f fd ["thing", "least", "most"] spWithin := by
  refine D.ok scWithin (fun vs H Q E h => ?_) (fun A outer s H vs Q E hr h => ?_)
  · obtain ⟨i, lo, hi, rfl, _⟩ := h
    rfl
  · obtain ⟨i, lo, hi, rfl, h1, h2, q⟩ := h
    refine ⟨_, pss_cons (ps_if (PW.pt (pw_or (pt_not (pt_val (pe_callB call_isi (by rfl) mi (by decide +kernel) (pa_cons (pv 0) (pa_cons (pe_bltn (v := .ty "int") (by rfl) mn (by decide +kernel) rfl) pa_nil)))))
        (pw_or1 (pt_val (pe_callB call_isi (by rfl) mi (by decide +kernel) (pa_cons (pv 0) (pa_cons (pe_bltn (v := .ty "bool") (by rfl) mb (by decide +kernel) rfl) pa_nil))))))) (pss_one (ps_ret pe_bl)) pss_nil)
      (pss_one (ps_ret (pe_chain op_le op_le (pv 1) (pv 0) (pv 2)))), ?_⟩
    refine ⟨.int i, rfl, .int i, .ty "int", .type "int", .type "int", true, rfl, .ty _, .base (.int i), kit_ty (by decide +kernel), true, rfl, iteF ?_⟩
    refine ⟨.int i, rfl, .int i, .ty "bool", .type "int", .type "bool", false, rfl, .ty _, .base (.int i), kit_ty (by decide +kernel), false, rfl, iteF ?_⟩
    refine ⟨.int lo, rfl, .int i, rfl, lo, i, rfl, rfl, _, rfl, ?_⟩
    rw [if_pos (decide_eq_true h1)]
    refine ⟨.int hi, rfl, i, hi, rfl, rfl, ?_⟩
    show Q (.bl (decide (i ≤ hi))) H
    rw [decide_eq_true h2]
    exact q
/-! ### all_below -/
def spBelow (K : PySem.W.Frag) (Ps : Tbs) : Sp := fun vs H Q _ => ∃ (a : Addr) (ns : List Int) (m : Int), vs = [.ref a, .int m] ∧ SqT K H a (ns.map V.int) ∧ (∀ i ∈ ns, 0 ≤ i ∧ i < m) ∧ Tb Ps H ∧ ∀ H', Ext Ps H H' → Q (.bl true) H'
theorem ty_tup {H : Hp} {a : Addr} {xs : List V} (h : SqT K H a xs) : TyX K H (.ref a) (.type "tuple") := by
  rcases h with (h | ⟨o, h⟩) | ⟨o, _, _, h, h2, _⟩
  · exact .base (.tup h)
  · exact .fTuple h
  · exact .kTuple h h2
theorem ok_below {f c fW cW PT : Addr} {fd fdW : FuncData} {k : Nat} (D : Def K mg "all_below" sBelow ["thing", "many"] f fd c) (DW : Def K mg "is_within" sWithin ["thing", "least", "most"] fW fdW cW) (TB : TabB base mg c PT) (hP : PT ∈ Ps)
    (mi : mg "isinstance" = none) (mn : mg "int" = none) (mb : mg "bool" = none) (mt : mg "tuple" = none) (ma : mg "all" = none) : FnOk P w K mg base CX0 (k + 3) f fd ["thing", "many"] (spBelow K Ps) := by
  have GW : FnOk P w K mg base CX0 (k + 1) fW fdW ["thing", "least", "most"] spWithin := ok_within DW mi mn mb
  refine D.ok (k := k + 2) scBelow (fun vs H Q E h => ?_) (fun A outer s H vs Q E hr h => ?_)
  · obtain ⟨a, ns, m, rfl, _⟩ := h
    rfl
  · obtain ⟨a, ns, m, rfl, hS, hb, ht, q⟩ := h
    refine ⟨_, pss_one (ps_ret (pe_and (pe_callB call_isi (by rfl) mi (by decide +kernel) (pa_cons (pv 0) (pa_cons (pe_bltn (v := .ty "tuple") (by rfl) mt (by decide +kernel) rfl) pa_nil)))
      (pe_one (pe_allG (k := k + 1) (caps := [1]) (xs := ["many"]) hr (by rfl) ma TB rfl (genS rfl rfl (by decide +kernel) rfl rfl) ⟨⟨rfl, .inl rfl, rfl⟩, trivial⟩ (by decide +kernel) (pi_tup (pv 0))
        (fun _ _ _ _ _ _ _ hr' => pcl DW GW hr' (pa_cons (pv 0) (pa_cons pe_int (pa_cons (pe_op op_sub (pv 1) pe_int) pa_nil)))) (fun _ => rfl))))), ?_⟩
    refine ⟨.ref a, rfl, .ref a, .ty "tuple", .type "tuple", .type "tuple", true, rfl, .ty _, ty_tup hS, kit_ty (by decide +kernel), true, rfl, iteT ?_⟩
    refine ⟨.ref a, rfl, a, rfl, ⟨_, hS⟩, ht.gen PT hP, fun H2 hT2 => ?_⟩
    have e2 := Ext.of_tabbed ht hP hT2
    refine gW_tup (xs := ns.map V.int) (fun _ H3 => H3 = H2) rfl (fun i H3 e => by rw [e]; exact e2.sqT hS) (fun H3 e => by rw [e]; exact q _ e2) fun i H3 x hx e => ?_
    subst e
    rw [List.getElem?_map] at hx
    obtain ⟨y, hy, rfl⟩ := Option.map_eq_some_iff.mp hx
    have hyb := hb y (List.mem_of_getElem? hy)
    exact ⟨.int y, rfl, .int m, rfl, m, 1, rfl, rfl, y, 0, m - 1, rfl, hyb.1, by omega, true, rfl, fun _ => rfl, fun z => absurd rfl z⟩
/-! ### rises -/
/-- the things of xs rise -/
def Rise (K : PySem.W.Frag) (H : Hp) (xs : List V) : Prop := (∃ ns : List Int, xs = ns.map V.int ∧ ns.Pairwise (· < ·)) ∨ ∃ fss, Paired (TupI K H) xs fss ∧ fss.Pairwise fun x y => lex x y = true
def spRises (K : PySem.W.Frag) (Ps : Tbs) : Sp := fun vs H Q _ => ∃ (a : Addr) (xs : List V), vs = [.ref a] ∧ SqT K H a xs ∧ Rise K H xs ∧ xs.length ≤ 1000 ∧ Tb Ps H ∧ ∀ H', Ext Ps H H' → Q (.bl true) H'
theorem ok_rises {f c PT : Addr} {fd : FuncData} {k : Nat} (D : Def K mg "rises" sRises ["things"] f fd c) (TB : TabB base mg c PT) (hP : PT ∈ Ps) (ma : mg "all" = none) (mr : mg "range" = none) (ml : mg "len" = none) :
    FnOk P w K mg base CX0 (k + 2) f fd ["things"] (spRises K Ps) := by
  refine D.ok (k := k + 1) scRises (fun vs H Q E h => ?_) (fun A outer s H vs Q E hr h => ?_)
  · obtain ⟨a, xs, rfl, _⟩ := h
    rfl
  · obtain ⟨a, xs, rfl, hS, hR, hl, ht, q⟩ := h
    refine ⟨_, pss_one (ps_ret (pe_allG (k := k) (caps := [0]) (xs := ["things"]) hr (by rfl) ma TB rfl (genS rfl rfl (by decide +kernel) rfl rfl) ⟨⟨rfl, .inl rfl, rfl⟩, trivial⟩ (by decide +kernel)
      (pi_range1 (by rfl) mr (pa_cons (pe_op op_sub (pe_callB call_len_seq (by rfl) ml PySem.boot_len (pa_cons (pv 0) pa_nil)) pe_int) pa_nil))
        (fun _ _ _ _ _ _ _ hr' => pe_cmpR (OpR.or op_lt (show OpR _ _ (rLtT K) from op_ltT hr'.units0)) (pe_ix (show IxR _ (rIxT K) from ix_tup) (pv 1) (pv 0) (fun _ _ => rfl)) (pe_ix (show IxR _ (rIxT K) from ix_tup) (pv 1) (pe_op op_add (pv 0) pe_int) (fun _ _ => rfl)) (nomark _)) (fun _ => rfl))), ?_⟩
    refine ⟨.ref a, rfl, a, xs, rfl, .inr hS, (xs.length : Int), 1, rfl, rfl, (xs.length : Int) - 1, rfl, by omega, by omega, ht.gen PT hP, fun H2 hT2 => ?_⟩
    have e2 := Ext.of_tabbed ht hP hT2
    refine gW_rng (fun _ H3 => H3 = H2) rfl (fun H3 e => by rw [e]; exact q _ e2) fun i H3 hi e => ?_
    subst e
    have h1 : i < xs.length := by omega
    have h2 : i + 1 < xs.length := by omega
    refine ⟨.ref a, rfl, .int (0 + i), rfl, a, xs, 0 + i, xs[i], rfl, rfl, e2.sqT hS, ?_, .ref a, rfl, .int (0 + i), rfl, 0 + i, 1, rfl, rfl, a, xs, 0 + i + 1, xs[i + 1], rfl, rfl, e2.sqT hS, ?_, ?_⟩
    · rw [Int.zero_add]
      exact atI_nat (List.getElem?_eq_getElem h1)
    · have : (0 + (i : Int) + 1) = ((i + 1 : Nat) : Int) := by omega
      rw [this]
      exact atI_nat (List.getElem?_eq_getElem h2)
    · rcases hR with ⟨ns, rfl, hp⟩ | ⟨fss, hp, hr2⟩
      · have g1 : i < ns.length := by simpa using h1
        have g2 : i + 1 < ns.length := by simpa using h2
        refine .inl ⟨ns[i], ns[i + 1], by simp, by simp, true, ?_, fun _ => rfl, fun z => absurd rfl z⟩
        exact congrArg V.bl (decide_eq_true (List.pairwise_iff_getElem.mp hp i (i + 1) g1 g2 (by omega)))
      · have hlen := Paired.length hp
        obtain ⟨f1, k1, ⟨t1, z1, s1⟩⟩ := paired_get hp (List.getElem?_eq_getElem h1)
        obtain ⟨f2, k2, ⟨t2, z2, s2⟩⟩ := paired_get hp (List.getElem?_eq_getElem h2)
        refine .inr ⟨t1, t2, f1, f2, z1, z2, e2.sqT s1, e2.sqT s2, true, ?_, fun _ => rfl, fun z => absurd rfl z⟩
        obtain ⟨g1, k1⟩ := List.getElem?_eq_some_iff.mp k1
        obtain ⟨g2, k2⟩ := List.getElem?_eq_some_iff.mp k2
        have := List.pairwise_iff_getElem.mp hr2 i (i + 1) g1 g2 (by omega)
        rw [k1, k2] at this
        exact congrArg V.bl this
end
end Lf

set_option maxHeartbeats 1000000
namespace Lf
open PySem PySem.Spec PyProof.Rows L2 GxR GxA SrT
section
variable {P : Program} {w : World} {K : PySem.W.Frag} {mg : Str → Option Value} {base : Heap} {Ps : Tbs}
/-! ### is_rising -/
def spRising (K : PySem.W.Frag) (Ps : Tbs) : Sp := fun vs H Q _ => ∃ (a : Addr) (ns : List Int) (m : Int), vs = [.ref a, .int m] ∧ SqT K H a (ns.map V.int) ∧ (∀ i ∈ ns, 0 ≤ i ∧ i < m) ∧ ns.Pairwise (· < ·) ∧ ns.length ≤ 1000 ∧ Tb Ps H ∧ ∀ H', Ext Ps H H' → Q (.bl true) H'
theorem ok_rising {f c fB cB fR cR : Addr} {fd fdB fdR : FuncData} {k : Nat} (D : Def K mg "is_rising" sRising ["thing", "many"] f fd c) (DB : Def K mg "all_below" sBelow ["thing", "many"] fB fdB cB) (DR : Def K mg "rises" sRises ["things"] fR fdR cR)
    (GB : FnOk P w K mg base CX0 (k + 3) fB fdB ["thing", "many"] (spBelow K Ps)) (GR : FnOk P w K mg base CX0 (k + 3) fR fdR ["things"] (spRises K Ps)) : FnOk P w K mg base CX0 (k + 4) f fd ["thing", "many"] (spRising K Ps) := by
  refine D.ok (k := k + 3) scRising (fun vs H Q E h => ?_) (fun A outer s H vs Q E hr h => ?_)
  · obtain ⟨a, ns, m, rfl, _⟩ := h
    rfl
  · obtain ⟨a, ns, m, rfl, hS, hb, hp, hl, ht, q⟩ := h
    refine ⟨_, pss_one (ps_ret (pe_and (pcl DB GB hr (pa_cons (pv 0) (pa_cons (pv 1) pa_nil))) (pe_one (pcl DR GR hr (pa_cons (pv 0) pa_nil))))), ?_⟩
    refine ⟨.ref a, rfl, .int m, rfl, a, ns, m, rfl, hS, hb, ht, fun H1 e1 => ⟨true, rfl, iteT ?_⟩⟩
    exact ⟨.ref a, rfl, a, _, rfl, e1.sqT hS, .inl ⟨ns, rfl, hp⟩, by rw [List.length_map]; exact hl, e1.tb, fun H2 e2 => q _ (e1.trans e2)⟩
/-! ### has_all -/
theorem inV_ints (x : Int) (ns : List Int) : inV (.int x) (ns.map V.int) = decide (x ∈ ns) := by
  unfold inV
  rw [List.any_map, Bool.eq_iff_iff, List.any_eq_true, decide_eq_true_eq]
  constructor
  · rintro ⟨y, hy, e⟩
    have : y = x := by simpa [eqV] using e
    exact this ▸ hy
  · intro h
    exact ⟨x, h, by simp [eqV]⟩
theorem flat_ints (ns : List Int) : (ns.map V.int).all flatV = true := by
  rw [List.all_map, List.all_eq_true]
  intro _ _
  rfl
/-- the face has all the points -/
def hasAll (face pts : List Int) : Bool := pts.all fun p => decide (p ∈ face)
def spHasAll (K : PySem.W.Frag) (Ps : Tbs) : Sp := fun vs H Q _ => ∃ (x y : V) (fc pts : List Int), vs = [x, y] ∧ TupI K H x fc ∧ TupI K H y pts ∧ Tb Ps H ∧ ∀ H', Ext Ps H H' → Q (.bl (hasAll fc pts)) H'
theorem hasAll_stop {fc pts : List Int} {i : Nat} {y : Int} (hy : pts[i]? = some y) (h : decide (y ∈ fc) = false) : hasAll fc pts = false := by
  unfold hasAll
  rw [List.all_eq_false]
  exact ⟨y, List.mem_of_getElem? hy, by rw [h]; simp⟩
/-! ### in_some -/
def inSome (pts : List Int) (fss : List (List Int)) : Bool := fss.any fun fc => hasAll fc pts
def spInSome (K : PySem.W.Frag) (Ps : Tbs) : Sp := fun vs H Q _ => ∃ (x : V) (l : Addr) (xs : List V) (pts : List Int) (fss : List (List Int)), vs = [x, .ref l] ∧ TupI K H x pts ∧ SqL K H l xs ∧ Paired (TupI K H) xs fss ∧ Tb Ps H ∧ ∀ H', Ext Ps H H' → Q (.bl (inSome pts fss)) H'
def spInSomeT (K : PySem.W.Frag) (Ps : Tbs) : Sp := fun vs H Q _ => ∃ (x : V) (l : Addr) (xs : List V) (pts : List Int) (fss : List (List Int)), vs = [x, .ref l] ∧ TupI K H x pts ∧ SqT K H l xs ∧ Paired (TupI K H) xs fss ∧ Tb Ps H ∧ ∀ H', Ext Ps H H' → Q (.bl (inSome pts fss)) H'
end
end Lf

set_option maxHeartbeats 1000000
namespace Lf
open PySem PySem.Spec PyProof.Rows L2 GxR GxA SrT
/-! ### a list that grows: what holds between two turns -/
structure Stb (K : PySem.W.Frag) (Ps : Tbs) {β : Type} (F : Hp → V → β → Prop) : Prop where
  ext : ∀ H H' x b, Ext Ps H H' → F H x b → F H' x b
  put : ∀ H D l l' x b, H D = some (.lst l) → F H x b → F (upd H D (.lst l')) x b
def FI : Hp → V → Int → Prop := fun _ x b => x = .int b
theorem stbI {K : PySem.W.Frag} {Ps : Tbs} : Stb K Ps FI := ⟨fun _ _ _ _ _ h => h, fun _ _ _ _ _ _ _ h => h⟩
theorem tupI_put {K : PySem.W.Frag} {H : Hp} {D : Addr} {l l' : List V} {x : V} {b : List Int} (hD : H D = some (.lst l)) (h : TupI K H x b) : TupI K (upd H D (.lst l')) x b := by
  obtain ⟨t, e, hs⟩ := h
  refine ⟨t, e, ?_⟩
  rcases hs with (h | ⟨o, h⟩) | h
  · exact .inl (.inl (by rw [upd_ne (ne_of h hD (by intro z; cases z))]; exact h))
  · exact .inl (.inr ⟨o, by rw [upd_ne (ne_of h hD (by intro z; cases z))]; exact h⟩)
  · exact .inr h
theorem stbT {K : PySem.W.Frag} {Ps : Tbs} : Stb K Ps (TupI K) := ⟨fun _ _ _ _ e h => e.tupI h, fun _ _ _ _ _ _ hD h => tupI_put hD h⟩
structure CP (Ps : Tbs) {β : Type} (F : Hp → V → β → Prop) (H0 : Hp) (D : Addr) (out : List β) (n : Nat) (H : Hp) : Prop where
  ext : Ext Ps H0 H
  at_ : ∃ ys, H D = some (.lst ys) ∧ Paired (F H) ys out ∧ ys.length ≤ n
section
variable {K : PySem.W.Frag} {Ps : Tbs} {β : Type} {F : Hp → V → β → Prop} {H0 H H' : Hp} {D : Addr} {out : List β} {n : Nat}
theorem CP.start (ht : Tb Ps H0) (hD : H0 D = none) : CP Ps F H0 D [] 0 (upd H0 D (.lst [])) := ⟨Ext.new ht hD, [], upd_same, .nil, Nat.le_refl _⟩
theorem CP.mono (h : CP Ps F H0 D out n H) {m : Nat} (hm : n ≤ m) : CP Ps F H0 D out m H := ⟨h.ext, let ⟨ys, a, b, c⟩ := h.at_; ⟨ys, a, b, Nat.le_trans c hm⟩⟩
theorem CP.skip (S : Stb K Ps F) (h : CP Ps F H0 D out n H) (e : Ext Ps H H') : CP Ps F H0 D out n H' := by
  obtain ⟨ys, h1, h2, h3⟩ := h.at_
  exact ⟨h.ext.trans e, ys, e.lst h1, L2.Paired.mapP h2 fun _ _ z => S.ext _ _ _ _ e z, h3⟩
theorem paired_snoc {α γ : Type} {G : α → γ → Prop} {a : α} {c : γ} : ∀ {xs : List α} {ys : List γ}, Paired G xs ys → G a c → Paired G (xs ++ [a]) (ys ++ [c])
  | _, _, .nil, h => .cons h .nil
  | _, _, .cons r t, h => .cons r (paired_snoc t h)
theorem CP.put (S : Stb K Ps F) (hD : H0 D = none) (hn : n ≤ 1000) {y : V} {z : β} (h : CP Ps F H0 D out n H) (hF : F H y z) :
    ∃ acc, H D = some (.lst acc) ∧ acc.length < sizeLine ∧ CP Ps F H0 D (out ++ [z]) (n + 1) (upd H D (.lst (acc ++ [y]))) := by
  obtain ⟨ys, h1, h2, h3⟩ := h.at_
  refine ⟨ys, h1, small1000 (Nat.le_trans h3 hn), ⟨h.ext.write hD h1 (fun q z => by cases z), ys ++ [y], upd_same, ?_, ?_⟩⟩
  · refine paired_snoc (L2.Paired.mapP h2 fun _ _ z => S.put _ _ _ _ _ _ h1 z) (S.put _ _ _ _ _ _ h1 hF)
  · rw [List.length_append]
    exact Nat.add_le_add_right h3 1
end
theorem paired_ints {H : Hp} : ∀ {ys : List V} {ns : List Int}, Paired (FI H) ys ns → ys = ns.map V.int
  | _, _, .nil => rfl
  | _, _, .cons r t => by
    rw [List.map_cons, ← paired_ints t, show _ = V.int _ from r]
theorem ints_paired {H : Hp} : ∀ (ns : List Int), Paired (FI H) (ns.map V.int) ns
  | [] => .nil
  | _ :: ns => .cons rfl (ints_paired ns)
theorem map_int {ns : List Int} {i : Nat} {x : V} (h : (ns.map V.int)[i]? = some x) : ∃ y, ns[i]? = some y ∧ x = .int y := by
  rw [List.getElem?_map] at h
  obtain ⟨y, hy, e⟩ := Option.map_eq_some_iff.mp h
  exact ⟨y, hy, e.symm⟩
theorem filt_take {α : Type} (p : α → Bool) {l : List α} {i : Nat} {y : α} (h : l[i]? = some y) : (l.take (i + 1)).filter p = (l.take i).filter p ++ (if p y = true then [y] else []) := by
  rw [List.take_add_one, h, List.filter_append]
  cases hp : p y <;> simp [hp]

section
variable {P : Program} {w : World} {K : PySem.W.Frag} {mg : Str → Option Value} {base : Heap} {Ps : Tbs}
/-! ### less -/
def lessL (fc pts : List Int) : List Int := fc.filter fun p => !decide (p ∈ pts)
def spLess (K : PySem.W.Frag) (Ps : Tbs) : Sp := fun vs H Q _ => ∃ (x y : V) (fc pts : List Int), vs = [x, y] ∧ TupI K H x fc ∧ TupI K H y pts ∧ fc.length ≤ 100 ∧ Tb Ps H ∧ ∀ v H', Ext Ps H H' → TupI K H' v (lessL fc pts) → Q v H'
end
end Lf

set_option maxHeartbeats 1000000
namespace Lf
open PySem PySem.Spec PyProof.Rows L2 GxR GxA SrT
section
variable {P : Program} {w : World} {K : PySem.W.Frag} {mg : Str → Option Value} {base : Heap} {Ps : Tbs}
/-! ### parts_in -/
def grow (l : List (List Int)) (p : Int) : List (List Int) := l ++ l.map (· ++ [p])
def subsL (fc : List Int) : List (List Int) := fc.foldl grow [[]]
theorem foldl_len : ∀ (fc : List Int) (l : List (List Int)), (fc.foldl grow l).length = l.length * 2 ^ fc.length
  | [], l => by simp
  | p :: fc, l => by
    rw [List.foldl_cons, foldl_len fc]
    unfold grow
    rw [List.length_append, List.length_map, List.length_cons, Nat.pow_succ, ← Nat.two_mul, Nat.mul_comm 2, Nat.mul_assoc, Nat.mul_comm 2]
theorem subs_take {fc : List Int} {i : Nat} {y : Int} (h : fc[i]? = some y) : subsL (fc.take (i + 1)) = grow (subsL (fc.take i)) y := by
  unfold subsL
  rw [List.take_add_one, h]
  show ((fc.take i) ++ [y]).foldl grow [[]] = _
  rw [List.foldl_append]
  rfl
theorem subs_len (fc : List Int) : (subsL fc).length = 2 ^ fc.length := by
  unfold subsL
  rw [foldl_len]
  simp
theorem subs_le {fc : List Int} (h : fc.length ≤ 4) (i : Nat) : (subsL (fc.take i)).length ≤ 16 := by
  rw [subs_len]
  have h1 : (fc.take i).length ≤ 4 := by
    rw [List.length_take]
    omega
  calc 2 ^ (fc.take i).length ≤ 2 ^ 4 := Nat.pow_le_pow_right (by omega) h1
    _ = 16 := rfl
theorem mem_fold : ∀ (fc : List Int) (L : List (List Int)) (g : List Int), g ∈ fc.foldl grow L ↔ ∃ a ∈ L, ∃ s : List Int, s.Sublist fc ∧ g = a ++ s
  | [], L, g => by
    constructor
    · intro h
      exact ⟨g, h, [], .slnil, by simp⟩
    · rintro ⟨a, ha, s, hs, rfl⟩
      rw [List.sublist_nil.mp hs, List.append_nil]
      exact ha
  | p :: fc, L, g => by
    rw [List.foldl_cons, mem_fold fc]
    unfold grow
    constructor
    · rintro ⟨a, ha, s, hs, rfl⟩
      rcases List.mem_append.mp ha with h | h
      · exact ⟨a, h, s, hs.cons p, rfl⟩
      · obtain ⟨b, hb, rfl⟩ := List.mem_map.mp h
        exact ⟨b, hb, p :: s, hs.cons_cons p, by simp⟩
    · rintro ⟨a, ha, s, hs, rfl⟩
      rcases List.sublist_cons_iff.mp hs with h | ⟨r, rfl, h⟩
      · exact ⟨a, List.mem_append_left _ ha, s, h, rfl⟩
      · exact ⟨a ++ [p], List.mem_append_right _ (List.mem_map.mpr ⟨a, ha, rfl⟩), r, h, by simp⟩
theorem mem_subs {fc g : List Int} : g ∈ subsL fc ↔ g.Sublist fc := by
  unfold subsL
  rw [mem_fold]
  constructor
  · rintro ⟨a, ha, s, hs, rfl⟩
    rw [List.mem_singleton.mp ha]
    exact hs
  · intro h
    exact ⟨[], List.mem_singleton.mpr rfl, g, h, rfl⟩
theorem yes_ {σ : L2.St} {H : Hp} {Q : Bool → Hp → Prop} (h : Q true H) : tYes σ H Q := h
def spParts (K : PySem.W.Frag) (Ps : Tbs) : Sp := fun vs H Q _ => ∃ (x : V) (fc : List Int), vs = [x] ∧ TupI K H x fc ∧ fc.length ≤ 4 ∧ Tb Ps H ∧ ∀ l ys H', Ext Ps H H' → H l = none → H' l = some (.lst ys) → Paired (TupI K H') ys (sortL (subsL fc)) → Q (.ref l) H'
/-- the same, the parts as new tuples of their own -/
def spPartsH (K : PySem.W.Frag) (Ps : Tbs) : Sp := fun vs H Q _ => ∃ (x : V) (fc : List Int), vs = [x] ∧ TupI K H x fc ∧ fc.length ≤ 4 ∧ Tb Ps H ∧ ∀ l ys H', Ext Ps H H' → H l = none → H' l = some (.lst ys) → Paired (TupH H') ys (sortL (subsL fc)) → Q (.ref l) H'
theorem own_ext {H H' : Hp} {x : V} (e : Ext Ps H H') (h : OwnT H x) : OwnT H' x := let ⟨t, zs, h1, h2⟩ := h; ⟨t, zs, h1, e.old _ _ h2 (fun q z => by cases z)⟩
theorem tupH_ext {H H' : Hp} {x : V} {ns : List Int} (e : Ext Ps H H') (h : TupH H x ns) : TupH H' x ns := let ⟨t, h1, h2⟩ := h; ⟨t, h1, e.old _ _ h2 (fun q z => by cases z)⟩
theorem own_all {H : Hp} : ∀ {xs : List V} {fss : List (List Int)}, Paired (TupH H) xs fss → ∀ x ∈ xs, OwnT H x
  | _, _, .nil, x, h => nomatch h
  | _, _, .cons r t, x, h => by
    rcases List.mem_cons.mp h with e | h
    · rw [e]
      exact r.own
    · exact own_all t x h
theorem paired_app {α γ : Type} {G : α → γ → Prop} : ∀ {xs us : List α} {ys ws : List γ}, Paired G xs ys → Paired G us ws → Paired G (xs ++ us) (ys ++ ws)
  | _, _, _, _, .nil, h => h
  | _, _, _, _, .cons r t, h => .cons r (paired_app t h)
theorem stbH {K : PySem.W.Frag} {Ps : Tbs} : Stb K Ps TupH := ⟨fun _ _ _ _ e h => tupH_ext e h, fun H D l l' x b hD h => let ⟨t, h1, h2⟩ := h; ⟨t, h1, by rw [upd_ne (ne_of h2 hD (by intro z; cases z))]; exact h2⟩⟩
end
end Lf

set_option maxHeartbeats 1000000
namespace Lf
open PySem PySem.Spec PyProof.Rows L2 GxR GxA SrT
/-- a list of tuples of ints -/
def LstT (K : PySem.W.Frag) (H : Hp) (v : V) (fss : List (List Int)) : Prop := ∃ (l : Addr) (xs : List V), v = .ref l ∧ SqL K H l xs ∧ Paired (TupI K H) xs fss
/-- a stack -/
def Stk (K : PySem.W.Frag) (H : Hp) (v : V) (n k : Int) (fss : List (List Int)) : Prop := ∃ (a fa : Addr) (xs : List V), v = .ref a ∧ SqT K H a [.int n, .int k, .ref fa] ∧ SqT K H fa xs ∧ Paired (TupI K H) xs fss
structure StkOk (n k : Int) (fss : List (List Int)) : Prop where
  n1 : 1 ≤ n
  n8 : n ≤ 8
  k0 : 0 ≤ k
  kn : k ≤ n
  k4 : k ≤ 4
  l1 : 1 ≤ fss.length
  l70 : fss.length ≤ 70
  len : ∀ f ∈ fss, (f.length : Int) = k
  ris : ∀ f ∈ fss, f.Pairwise (· < ·)
  bel : ∀ f ∈ fss, ∀ i ∈ f, 0 ≤ i ∧ i < n
  srt : fss.Pairwise fun x y => lex x y = true
structure LotOk (m : Nat) (ns : List Int) : Prop where
  bel : ∀ i ∈ ns, 0 ≤ i ∧ i < (m : Int)
  ris : ns.Pairwise (· < ·)
  len : ns.length ≤ 100
theorem StkOk.len4 {n k : Int} {fss : List (List Int)} (S : StkOk n k fss) : ∀ f ∈ fss, f.length ≤ 4 := fun f hf => by
  have h1 := S.len f hf
  have h2 := S.k4
  omega
def facesAt (fss : List (List Int)) (ns : List Int) : List (List Int) := ns.map fun i => fss.getD i.toNat []
section
variable {P : Program} {w : World} {K : PySem.W.Frag} {mg : Str → Option Value} {base : Heap} {Ps : Tbs} {H H' : Hp}
theorem Ext.lstT (e : Ext Ps H H') {v : V} {fss : List (List Int)} (h : LstT K H v fss) : LstT K H' v fss := let ⟨l, xs, h1, h2, h3⟩ := h; ⟨l, xs, h1, e.sqL h2, e.tups h3⟩
theorem Ext.stk (e : Ext Ps H H') {v : V} {n k : Int} {fss : List (List Int)} (h : Stk K H v n k fss) : Stk K H' v n k fss := let ⟨a, fa, xs, h1, h2, h3, h4⟩ := h; ⟨a, fa, xs, h1, e.sqT h2, e.sqT h3, e.tups h4⟩
theorem at2 {n k : Int} {fa : Addr} : atI [V.int n, .int k, .ref fa] 2 = some (.ref fa) := atI_nat (j := 2) rfl
/-- the item at an int place -/
theorem atI_int {xs : List V} {i : Int} {x : V} (h0 : 0 ≤ i) (h : xs[i.toNat]? = some x) : atI xs i = some x := by
  have e : i = (i.toNat : Int) := (Int.toNat_of_nonneg h0).symm
  rw [e]
  exact atI_nat h
/-! ### faces_at -/
def spFacesAt (K : PySem.W.Frag) (Ps : Tbs) : Sp := fun vs H Q _ => ∃ (x y : V) (n k : Int) (fss : List (List Int)) (ns : List Int), vs = [x, y] ∧ Stk K H x n k fss ∧ TupI K H y ns ∧ (∀ i ∈ ns, 0 ≤ i ∧ i < (fss.length : Int)) ∧ ns.length ≤ 100 ∧ Tb Ps H ∧
  ∀ v H', Ext Ps H H' → LstT K H' v (facesAt fss ns) → Q v H'
def spFacesAtF (K : PySem.W.Frag) (Ps : Tbs) : Sp := fun vs H Q _ => ∃ (x y : V) (n k : Int) (fss : List (List Int)) (ns : List Int), vs = [x, y] ∧ Stk K H x n k fss ∧ TupI K H y ns ∧ (∀ i ∈ ns, 0 ≤ i ∧ i < (fss.length : Int)) ∧ ns.length ≤ 100 ∧ Tb Ps H ∧
  ∀ (l : Addr) (ys : List V) (H' : Hp), Ext Ps H H' → H l = none → H' l = some (.lst ys) → Paired (TupI K H') ys (facesAt fss ns) → Q (.ref l) H'
/-! ### brought_on -/
def brOn (laid : List (List Int)) (fc : List Int) : List Int := fc.filter fun p => inSome (lessL fc [p]) laid
def spBrOn (K : PySem.W.Frag) (Ps : Tbs) : Sp := fun vs H Q _ => ∃ (x y : V) (laid : List (List Int)) (fc : List Int), vs = [x, y] ∧ LstT K H x laid ∧ TupI K H y fc ∧ fc.length ≤ 100 ∧ Tb Ps H ∧ ∀ v H', Ext Ps H H' → TupI K H' v (brOn laid fc) → Q v H'
/-! ### lies_on -/
def liesOn (laid : List (List Int)) (fc : List Int) : Bool := !inSome (brOn laid fc) laid
def spLies (K : PySem.W.Frag) (Ps : Tbs) : Sp := fun vs H Q _ => ∃ (x y : V) (laid : List (List Int)) (fc : List Int), vs = [x, y] ∧ LstT K H x laid ∧ TupI K H y fc ∧ fc.length ≤ 100 ∧ Tb Ps H ∧ ∀ H', Ext Ps H H' → Q (.bl (liesOn laid fc)) H'
end
end Lf

set_option maxHeartbeats 1000000
namespace Lf
open PySem PySem.Spec PyProof.Rows L2 GxR GxA SrT
/-- len of a list or a tuple -/
def rLenS (K : PySem.W.Frag) : List V → Hp → VK → Prop := fun xs H Q => ∃ p ys, xs = [.ref p] ∧ (SqL K H p ys ∨ SqT K H p ys) ∧ Q (.int ys.length) H
theorem call_lenS {X : Cx} {K : PySem.W.Frag} (e : X.K = K) : CallR X (.builtin "len") (rLenS K) := by
  subst e
  exact call_len_seq
abbrev sIsStack : Stmt := topS 24
abbrev sAreFaces : Stmt := topS 25
abbrev sNeedStack : Stmt := topS 26
theorem scIsStack : FnScope ["thing", "n", "k", "faces"] ["thing"] (defScope sIsStack) := ⟨rfl, rfl, rfl, by decide +kernel, rfl, by decide +kernel, by decide +kernel⟩
theorem scAreFaces : FnScope ["n", "k", "thing"] ["n", "k", "thing"] (defScope sAreFaces) := ⟨rfl, rfl, rfl, by decide +kernel, rfl, by decide +kernel, by decide +kernel⟩
theorem scNeedStack : FnScope ["stack"] ["stack"] (defScope sNeedStack) := ⟨rfl, rfl, rfl, by decide +kernel, rfl, by decide +kernel, by decide +kernel⟩
section
variable {P : Program} {w : World} {K : PySem.W.Frag} {mg : Str → Option Value} {base : Heap} {Ps : Tbs} {H H' : Hp}
/-! ### need_within -/
def spNeedWithin : Sp := fun vs H Q _ => ∃ i lo hi : Int, vs = [.int i, .int lo, .int hi] ∧ lo ≤ i ∧ i ≤ hi ∧ Q .non H
/-! ### are_faces -/
def spAreFaces (K : PySem.W.Frag) (Ps : Tbs) : Sp := fun vs H Q _ => ∃ (n k : Int) (fa : Addr) (xs : List V) (fss : List (List Int)), vs = [.int n, .int k, .ref fa] ∧ SqT K H fa xs ∧ Paired (TupI K H) xs fss ∧ StkOk n k fss ∧ Tb Ps H ∧ ∀ H', Ext Ps H H' → Q (.bl true) H'
theorem ok_areFaces {f c fR cR fS cS PT : Addr} {fd fdR fdS : FuncData} {k : Nat} {t70 : Tok} (D : Def K mg "are_faces" sAreFaces ["n", "k", "thing"] f fd c) (DR : Def K mg "is_rising" sRising ["thing", "many"] fR fdR cR) (GR : FnOk P w K mg base CX0 k fR fdR ["thing", "many"] (spRising K Ps))
    (DS : Def K mg "rises" sRises ["things"] fS fdS cS) (GS : FnOk P w K mg base CX0 (k + 1) fS fdS ["things"] (spRises K Ps)) (TB : TabB base mg c PT) (hP : PT ∈ Ps)
    (mi : mg "isinstance" = none) (mt : mg "tuple" = none) (ml : mg "len" = none) (ma : mg "all" = none) (m70 : mg "MOST_FACES" = some (.int 70 t70)) : FnOk P w K mg base CX0 (k + 2) f fd ["n", "k", "thing"] (spAreFaces K Ps) := by
  refine D.ok (k := k + 1) scAreFaces (fun vs H Q E h => ?_) (fun A outer s H vs Q E hr h => ?_)
  · obtain ⟨n, kk, fa, xs, fss, rfl, _⟩ := h
    rfl
  · obtain ⟨n, kk, fa, xs, fss, rfl, hF, hp, S, ht, q⟩ := h
    have hlen := Paired.length hp
    have l1 := S.l1
    have l70 := S.l70
    refine ⟨_, pss_cons (ps_if (PW.pt (pw_or (pt_not (pt_val (pe_callB call_isi (by rfl) mi (by decide +kernel) (pa_cons (pv 2) (pa_cons (pe_bltn (v := .ty "tuple") (by rfl) mt (by decide +kernel) rfl) pa_nil)))))
        (pw_or1 (pt_not (pt_chain op_le op_le pe_int (pe_callB call_len_seq (by rfl) ml PySem.boot_len (pa_cons (pv 2) pa_nil)) (pe_glob rfl m70 (v := .int 70) ⟨_, rfl⟩)))))) (pss_one (ps_ret pe_bl)) pss_nil)
      (pss_one (ps_ret (pe_and (pe_allG (k := k) (caps := [0, 1]) (xs := ["n", "k"]) hr (by rfl) ma TB rfl (genS rfl rfl (by decide +kernel) rfl rfl) ⟨⟨rfl, .inl rfl, rfl⟩, ⟨rfl, .inl rfl, rfl⟩, trivial⟩ (by decide +kernel) (pi_tup (pv 2))
        (fun _ _ _ _ _ _ _ hr' => pe_and (pcl DR GR hr' (pa_cons (pv 0) (pa_cons (pv 1) pa_nil))) (pe_one (pe_cmpR op_eq (pe_callB (call_lenS (K := K) rfl) (by rfl) ml PySem.boot_len (pa_cons (pv 0) pa_nil)) (pv 2) (nomark _)))) (fun _ => rfl))
        (pe_one (pcl DS GS hr (pa_cons (pv 2) pa_nil)))))), ?_⟩
    refine ⟨.ref fa, rfl, .ref fa, .ty "tuple", .type "tuple", .type "tuple", true, rfl, .ty _, ty_tup hF, kit_ty (by decide +kernel), true, rfl, iteF ?_⟩
    refine ⟨.ref fa, rfl, fa, xs, rfl, .inr hF, 1, (xs.length : Int), rfl, rfl, true, ?_, iteT ?_⟩
    · exact congrArg V.bl (decide_eq_true (by omega))
    refine ⟨(xs.length : Int), 70, rfl, rfl, true, ?_, iteF ?_⟩
    · exact congrArg V.bl (decide_eq_true (by omega))
    refine ⟨.ref fa, rfl, fa, rfl, ⟨_, hF⟩, ht.gen PT hP, fun H2 hT2 => ?_⟩
    have e2 := Ext.of_tabbed ht hP hT2
    refine gW_tup (xs := xs) (fun _ H3 => Ext Ps H H3) e2 (fun i H3 e => e.sqT hF) (fun H3 e => ⟨true, rfl, iteT ?_⟩) fun i H3 x hx e => ?_
    · exact ⟨.ref fa, rfl, fa, xs, rfl, e.sqT hF, .inr ⟨fss, e.tups hp, S.srt⟩, by omega, e.tb, fun H4 e4 => q _ (e.trans e4)⟩
    · obtain ⟨fc, hf, b, rfl, hI⟩ := paired_get hp hx
      have hm := List.mem_of_getElem? hf
      have h4 := S.len4 fc hm
      refine ⟨.ref b, rfl, .int n, rfl, b, fc, n, rfl, e.sqT hI, S.bel fc hm, S.ris fc hm, by omega, e.tb, fun H4 e4 => ⟨true, rfl, iteT ?_⟩⟩
      refine ⟨.ref b, rfl, b, _, rfl, .inr (e4.sqT (e.sqT hI)), .int kk, rfl, rfl, true, ?_, fun _ => e.trans e4, fun z => absurd rfl z⟩
      rw [List.length_map, S.len fc hm]
      exact congrArg V.bl (decide_eq_true rfl)
/-! ### is_stack -/
def spIsStack (K : PySem.W.Frag) (Ps : Tbs) : Sp := fun vs H Q _ => ∃ (x : V) (n k : Int) (fss : List (List Int)), vs = [x] ∧ Stk K H x n k fss ∧ StkOk n k fss ∧ Tb Ps H ∧ ∀ H', Ext Ps H H' → Q (.bl true) H'
theorem ok_isStack {f c fW cW fA cA : Addr} {fd fdW fdA : FuncData} {k : Nat} {t8 t4 : Tok} (D : Def K mg "is_stack" sIsStack ["thing"] f fd c) (DW : Def K mg "is_within" sWithin ["thing", "least", "most"] fW fdW cW) (GW : FnOk P w K mg base CX0 k fW fdW ["thing", "least", "most"] spWithin)
    (DA : Def K mg "are_faces" sAreFaces ["n", "k", "thing"] fA fdA cA) (GA : FnOk P w K mg base CX0 k fA fdA ["n", "k", "thing"] (spAreFaces K Ps))
    (mi : mg "isinstance" = none) (mt : mg "tuple" = none) (ml : mg "len" = none) (mm : mg "min" = none) (m8 : mg "MOST_POINTS" = some (.int 8 t8)) (m4 : mg "MOST_IN_FACE" = some (.int 4 t4)) : FnOk P w K mg base CX0 (k + 1) f fd ["thing"] (spIsStack K Ps) := by
  refine D.ok (k := k) scIsStack (fun vs H Q E h => ?_) (fun A outer s H vs Q E hr h => ?_)
  · obtain ⟨x, n, kk, fss, rfl, _⟩ := h
    rfl
  · obtain ⟨_, n, kk, fss, rfl, ⟨a, fa, xs, rfl, h1, h2, h3⟩, S, ht, q⟩ := h
    have n1 := S.n1
    have n8 := S.n8
    have k0 := S.k0
    have kn := S.kn
    have k4 := S.k4
    refine ⟨_, pss_cons (ps_if (PW.pt (pw_or (pt_not (pt_val (pe_callB call_isi (by rfl) mi (by decide +kernel) (pa_cons (pv 0) (pa_cons (pe_bltn (v := .ty "tuple") (by rfl) mt (by decide +kernel) rfl) pa_nil)))))
        (pw_or1 (pt_cmpR op_ne (pe_callB (call_lenS (K := K) rfl) (by rfl) ml PySem.boot_len (pa_cons (pv 0) pa_nil)) pe_int (nomark _))))) (pss_one (ps_ret pe_bl)) pss_nil)
      (pss_cons (ps_asg (pv 0) (pg_tup (by rfl) (pgs_cons (pg_name (i := 1) scIsStack.nd rfl (.inl rfl)) (pgs_cons (pg_name (i := 2) scIsStack.nd rfl (.inl rfl)) (pgs_cons (pg_name (i := 3) scIsStack.nd rfl (.inl rfl)) pgs_nil)))))
      (pss_cons (ps_if (PW.pt (pw_or (pt_not (pt_val (pcl DW GW hr (pa_cons (pv 1) (pa_cons pe_int (pa_cons (pe_glob rfl m8 (v := .int 8) ⟨_, rfl⟩) pa_nil))))))
        (pw_or1 (pt_not (pt_val (pcl DW GW hr (pa_cons (pv 2) (pa_cons pe_int (pa_cons (pe_callB (call_min2 rfl) (by rfl) mm (by decide +kernel) (pa_cons (pv 1) (pa_cons (pe_glob rfl m4 (v := .int 4) ⟨_, rfl⟩) pa_nil))) pa_nil))))))))) (pss_one (ps_ret pe_bl)) pss_nil)
      (pss_one (ps_ret (pcl DA GA hr (pa_cons (pv 1) (pa_cons (pv 2) (pa_cons (pv 3) pa_nil)))))))), ?_⟩
    refine ⟨.ref a, rfl, .ref a, .ty "tuple", .type "tuple", .type "tuple", true, rfl, .ty _, ty_tup h1, kit_ty (by decide +kernel), true, rfl, iteF ?_⟩
    refine ⟨.ref a, rfl, a, _, rfl, .inr h1, rfl, false, ?_, iteF ?_⟩
    · exact congrArg V.bl (by simp)
    refine ⟨.ref a, rfl, a, _, rfl, h1, rfl, _, _, rfl, _, _, rfl, _, _, rfl, rfl, ?_⟩
    refine ⟨.int n, rfl, n, 1, 8, rfl, n1, n8, true, rfl, iteF ?_⟩
    refine ⟨.int kk, rfl, .int n, rfl, n, 4, rfl, kk, 0, _, rfl, k0, ?_, true, rfl, iteF ?_⟩
    · split <;> omega
    exact ⟨.int n, rfl, .int kk, rfl, .ref fa, rfl, n, kk, fa, xs, fss, rfl, h2, h3, S, ht, q⟩
/-! ### need_stack, need_face, need_lot, need_face_beside -/
def spNeedStack (K : PySem.W.Frag) (Ps : Tbs) : Sp := fun vs H Q _ => ∃ (x : V) (n k : Int) (fss : List (List Int)), vs = [x] ∧ Stk K H x n k fss ∧ StkOk n k fss ∧ Tb Ps H ∧ ∀ H', Ext Ps H H' → Q .non H'
theorem ok_needStack {f c fS cS : Addr} {fd fdS : FuncData} {k : Nat} (D : Def K mg "need_stack" sNeedStack ["stack"] f fd c) (DS : Def K mg "is_stack" sIsStack ["thing"] fS fdS cS) (GS : FnOk P w K mg base CX0 k fS fdS ["thing"] (spIsStack K Ps)) : FnOk P w K mg base CX0 (k + 1) f fd ["stack"] (spNeedStack K Ps) := by
  refine D.ok (k := k) scNeedStack (fun vs H Q E h => ?_) (fun A outer s H vs Q E hr h => ?_)
  · obtain ⟨x, n, kk, fss, rfl, _⟩ := h
    rfl
  · obtain ⟨x, n, kk, fss, rfl, hS, S, ht, q⟩ := h
    refine ⟨_, pss_one (ps_if (pt_not (pt_val (pcl DS GS hr (pa_cons (pv 0) pa_nil)))) (pss_one ps_never) pss_nil), ?_⟩
    exact ⟨x, rfl, x, n, kk, fss, rfl, hS, S, ht, fun H1 e1 => ⟨true, rfl, iteF (q _ e1)⟩⟩
def spNeedFace (K : PySem.W.Frag) : Sp := fun vs H Q _ => ∃ (x : V) (n k i : Int) (fss : List (List Int)), vs = [x, .int i] ∧ Stk K H x n k fss ∧ 0 ≤ i ∧ i < (fss.length : Int) ∧ Q .non H
def spNeedLot (K : PySem.W.Frag) (Ps : Tbs) : Sp := fun vs H Q _ => ∃ (x y : V) (n k : Int) (fss : List (List Int)) (ns : List Int), vs = [x, y] ∧ Stk K H x n k fss ∧ TupI K H y ns ∧ LotOk fss.length ns ∧ Tb Ps H ∧ ∀ H', Ext Ps H H' → Q .non H'
def spBeside (K : PySem.W.Frag) : Sp := fun vs H Q _ => ∃ (x y : V) (n k i : Int) (fss : List (List Int)) (ns : List Int), vs = [x, y, .int i] ∧ Stk K H x n k fss ∧ TupI K H y ns ∧ 0 ≤ i ∧ i < (fss.length : Int) ∧ i ∉ ns ∧ Q .non H
end
end Lf

set_option maxHeartbeats 1000000
namespace Lf
open PySem PySem.Spec PyProof.Rows L2 GxR GxA SrT
section
variable {P : Program} {w : World} {K : PySem.W.Frag} {mg : Str → Option Value} {base : Heap} {Ps : Tbs} {H H' : Hp}
/-- a stack, a lot of it, the number of a face that is not in the lot -/
structure Ask (K : PySem.W.Frag) (Ps : Tbs) (H : Hp) (x y : V) (i : Int) (n k : Int) (fss : List (List Int)) (ns : List Int) : Prop where
  stk : Stk K H x n k fss
  ok : StkOk n k fss
  lot : TupI K H y ns
  lok : LotOk fss.length ns
  i0 : 0 ≤ i
  i1 : i < (fss.length : Int)
  out : i ∉ ns
  tb : Tb Ps H
theorem Ask.ext {x y : V} {i n k : Int} {fss : List (List Int)} {ns : List Int} (h : Ask K Ps H x y i n k fss ns) (e : Ext Ps H H') : Ask K Ps H' x y i n k fss ns := ⟨e.stk h.stk, h.ok, e.tupI h.lot, h.lok, h.i0, h.i1, h.out, e.tb⟩
/-- the face of the number -/
theorem Ask.face {x y : V} {i n k : Int} {fss : List (List Int)} {ns : List Int} (h : Ask K Ps H x y i n k fss ns) : ∃ fc, fss[i.toNat]? = some fc ∧ fc ∈ fss := by
  have hlt : i.toNat < fss.length := by
    have h0 := h.i0
    have h1 := h.i1
    omega
  exact ⟨_, List.getElem?_eq_getElem hlt, List.getElem_mem hlt⟩
/-! ### may_lay -/
def spMayLay (K : PySem.W.Frag) (Ps : Tbs) : Sp := fun vs H Q _ => ∃ (x y : V) (n k i : Int) (fss : List (List Int)) (ns fc : List Int), vs = [x, y, .int i] ∧ Ask K Ps H x y i n k fss ns ∧ fss[i.toNat]? = some fc ∧ ∀ H', Ext Ps H H' → Q (.bl (liesOn (facesAt fss ns) fc)) H'
variable {k : Nat} {f c fS cS fL cL fF cF fA cA fO cO : Addr} {fd fdS fdL fdF fdA fdO : FuncData}
/-! ### brought -/
def spBrought (K : PySem.W.Frag) (Ps : Tbs) : Sp := fun vs H Q _ => ∃ (x y : V) (n k i : Int) (fss : List (List Int)) (ns fc : List Int), vs = [x, y, .int i] ∧ Ask K Ps H x y i n k fss ns ∧ fss[i.toNat]? = some fc ∧ ∀ v H', Ext Ps H H' → TupI K H' v (brOn (facesAt fss ns) fc) → Q v H'
/-! ### new_parts -/
def newParts (laid : List (List Int)) (fc : List Int) : List (List Int) := (sortL (subsL fc)).filter fun p => !inSome p laid
def spNewParts (K : PySem.W.Frag) (Ps : Tbs) : Sp := fun vs H Q _ => ∃ (x y : V) (n k i : Int) (fss : List (List Int)) (ns fc : List Int), vs = [x, y, .int i] ∧ Ask K Ps H x y i n k fss ns ∧ fss[i.toNat]? = some fc ∧ ∀ v H', Ext Ps H H' → LstT K H' v (newParts (facesAt fss ns) fc) → Q v H'
/-- a list of new tuples of ints -/
def LstH (H : Hp) (v : V) (fss : List (List Int)) : Prop := ∃ (l : Addr) (xs : List V), v = .ref l ∧ H l = some (.lst xs) ∧ Paired (TupH H) xs fss
theorem LstH.lst {v : V} {fss : List (List Int)} (h : LstH H v fss) : LstT K H v fss := let ⟨l, xs, h1, h2, h3⟩ := h; ⟨l, xs, h1, .inl (.inl h2), L2.Paired.mapP h3 fun _ _ z => z.tup⟩
theorem lstH_ext {v : V} {fss : List (List Int)} (e : Ext Ps H H') (h : LstH H v fss) : LstH H' v fss := let ⟨l, xs, h1, h2, h3⟩ := h; ⟨l, xs, h1, e.lst h2, L2.Paired.mapP h3 fun _ _ z => tupH_ext e z⟩
def spNewPartsH (K : PySem.W.Frag) (Ps : Tbs) : Sp := fun vs H Q _ => ∃ (x y : V) (n k i : Int) (fss : List (List Int)) (ns fc : List Int), vs = [x, y, .int i] ∧ Ask K Ps H x y i n k fss ns ∧ fss[i.toNat]? = some fc ∧ ∀ v H', Ext Ps H H' → LstH H' v (newParts (facesAt fss ns) fc) → Q v H'
end
end Lf

set_option maxHeartbeats 1000000
namespace Lf
open PySem PySem.Spec PyProof.Rows L2 GxR GxA SrT
abbrev sCell : Stmt := topS 39
abbrev sPen : Stmt := topS 40
abbrev sDraw : Stmt := topS 41
theorem scCell : FnScope ["_law_script", "_law_k"] ["_law_script", "_law_k"] (defScope sCell) := ⟨rfl, rfl, rfl, by decide +kernel, rfl, by decide +kernel, by decide +kernel⟩
theorem scPen : FnScope ["_law_cell_here"] ["_law_cell_here"] (defScope sPen) := ⟨rfl, rfl, rfl, by decide +kernel, rfl, by decide +kernel, by decide +kernel⟩
theorem scDraw : FnScope ["_law_pen_here", "_law_many", "_law_found"] ["_law_pen_here", "_law_many"] (defScope sDraw) := ⟨rfl, rfl, rfl, by decide +kernel, rfl, by decide +kernel, by decide +kernel⟩
/-- a pen: two ints -/
def Pen (H : Hp) (a : Addr) : Prop := ∃ x f : Int, H a = some (.lst [.int x, .int f])
/-- all is kept but the pen, which stays one -/
structure Epn (Ps : Tbs) (a : Addr) (H H' : Hp) : Prop where
  tb : Tb Ps H'
  old : ∀ b o, b ≠ a → H b = some o → (∀ q, o ≠ .tbl q) → H' b = some o
  there : ∀ b o, H b = some o → ∃ o', H' b = some o'
  p0 : Pen H a
  pen : Pen H' a
section
variable {Ps : Tbs} {a : Addr} {H H1 H2 H' : Hp} {K : PySem.W.Frag}
theorem Ext.epn (e : Ext Ps H H') (p : Pen H a) : Epn Ps a H H' := ⟨e.tb, fun b o _ q n => e.old b o q n, e.there, p, let ⟨x, f, h⟩ := p; ⟨x, f, e.lst h⟩⟩
theorem Epn.trans (x : Epn Ps a H H1) (y : Epn Ps a H1 H2) : Epn Ps a H H2 := ⟨y.tb, fun b o n e q => y.old b o n (x.old b o n e q) q, fun b o e => let ⟨o', e'⟩ := x.there b o e; y.there b o' e', x.p0, y.pen⟩
theorem Epn.refl (h : Tb Ps H) (p : Pen H a) : Epn Ps a H H := (Ext.refl h).epn p
theorem Epn.draw (h : Tb Ps H) (p : Pen H a) {x f : Int} : Epn Ps a H (upd H a (.lst [.int x, .int f])) := by
  obtain ⟨x0, f0, e0⟩ := id p
  refine ⟨h.put e0 (fun q z => by cases z) (fun q z => by unfold LamX.CodeO at z; cases z), fun b o n e _ => by rw [upd_ne n]; exact e, fun b o e => ?_, p, x, f, upd_same⟩
  by_cases hb : b = a
  · rw [hb]
    exact ⟨_, upd_same⟩
  · rw [upd_ne hb]
    exact ⟨o, e⟩
theorem Epn.sqT (e : Epn Ps a H H') {t : Addr} {xs : List V} (h : SqT K H t xs) : SqT K H' t xs := by
  obtain ⟨x0, f0, e0⟩ := e.p0
  rcases h with (h | ⟨o, h⟩) | h
  · exact .inl (.inl (e.old _ _ (ne_of h e0 (by intro z; cases z)) h (fun q z => by cases z)))
  · exact .inl (.inr ⟨o, e.old _ _ (ne_of h e0 (by intro z; cases z)) h (fun q z => by cases z)⟩)
  · exact .inr h
theorem Epn.tupI (e : Epn Ps a H H') {x : V} {ns : List Int} (h : TupI K H x ns) : TupI K H' x ns := let ⟨t, e1, e2⟩ := h; ⟨t, e1, e.sqT e2⟩
theorem Epn.tups (e : Epn Ps a H H') {xs : List V} {fss : List (List Int)} (h : Paired (TupI K H) xs fss) : Paired (TupI K H') xs fss := L2.Paired.mapP h fun _ _ z => e.tupI z
theorem Epn.stk (e : Epn Ps a H H') {v : V} {n k : Int} {fss : List (List Int)} (h : Stk K H v n k fss) : Stk K H' v n k fss := let ⟨a, fa, xs, h1, h2, h3, h4⟩ := h; ⟨a, fa, xs, h1, e.sqT h2, e.sqT h3, e.tups h4⟩
theorem Epn.lst (e : Epn Ps a H H') {l : Addr} {xs : List V} (n : l ≠ a) (h : H l = some (.lst xs)) : H' l = some (.lst xs) := e.old _ _ n h (fun q z => by cases z)
theorem Epn.sqL (e : Epn Ps a H H') {l : Addr} {xs : List V} (n : l ≠ a) (h : SqL K H l xs) : SqL K H' l xs := by
  rcases h with (h | ⟨o, h⟩) | h
  · exact .inl (.inl (e.lst n h))
  · exact .inl (.inr ⟨o, e.old _ _ n h (fun q z => by cases z)⟩)
  · exact .inr h
theorem Epn.free (e : Epn Ps a H H') {l : Addr} (h : H' l = none) : H l = none := by
  cases q : H l with
  | none => rfl
  | some o =>
    obtain ⟨o', z⟩ := e.there l o q
    rw [z] at h
    cases h
/-- an object that is ours is written -/
theorem Epn.write {p : Addr} {o o' : HO} (e : Epn Ps a H H') (n : H p = none) (hp : H' p = some o) (ho : ∀ q, o ≠ .tbl q) (hx : ∀ q, o ≠ LamX.CodeO p q := by intro q z; unfold LamX.CodeO at z; cases z) : Epn Ps a H (upd H' p o') := by
  have np : a ≠ p := by
    obtain ⟨x0, f0, e0⟩ := e.p0
    exact ne_of_none e0 n
  refine ⟨e.tb.put hp ho hx, fun b u nb q nt => ?_, fun b u q => ?_, e.p0, ?_⟩
  · rw [upd_ne (ne_of_none q n)]
    exact e.old _ _ nb q nt
  · rw [upd_ne (ne_of_none q n)]
    exact e.there _ _ q
  · obtain ⟨x, f, h⟩ := e.pen
    exact ⟨x, f, by rw [upd_ne np]; exact h⟩
end
section
variable {P : Program} {w : World} {K : PySem.W.Frag} {mg : Str → Option Value} {base : Heap} {Ps : Tbs} {H H' : Hp} {k : Nat} {f c : Addr} {fd : FuncData}
/-! ### _law_cell -/
def spCell (K : PySem.W.Frag) : Sp := fun vs H Q _ => ∃ (a : Addr) (ns : List Int), vs = [.ref a, .int 0] ∧ SqL K H a (ns.map V.int) ∧ ∀ z : Int, Q (.int z) H
theorem ok_cell (D : Def K mg "_law_cell" sCell ["_law_script", "_law_k"] f fd c) (ml : mg "len" = none) : FnOk P w K mg base CX0 (k + 1) f fd ["_law_script", "_law_k"] (spCell K) := by
  refine D.ok (k := k) scCell (fun vs H Q E h => ?_) (fun A outer s H vs Q E hr h => ?_)
  · obtain ⟨a, ns, rfl, _⟩ := h
    rfl
  · obtain ⟨a, ns, rfl, hS, q⟩ := h
    refine ⟨_, pss_cons (ps_if (pt_cmpR op_lt (pv 1) (pe_callB (call_lenS (K := K) rfl) (by rfl) ml PySem.boot_len (pa_cons (pv 0) pa_nil)) (nomark _)) (pss_one (ps_ret (pe_ix ix_list (pv 0) (pv 1) (fun _ _ => rfl)))) pss_nil) (pss_one (ps_ret pe_int)), ?_⟩
    refine ⟨.int 0, rfl, .ref a, rfl, a, _, rfl, .inl hS, 0, _, rfl, rfl, _, rfl, ite2 (fun e => ?_) (fun e => ?_)⟩
    · have e' : (0 : Int) < ((ns.map V.int).length : Int) := of_decide_eq_true e
      rw [List.length_map] at e'
      have h0 : 0 < ns.length := by omega
      exact ⟨.ref a, rfl, .int 0, rfl, a, _, 0, .int ns[0], rfl, rfl, hS, atI_nat (j := 0) (by rw [List.getElem?_map, List.getElem?_eq_getElem h0]; rfl), q _⟩
    · exact q 0
/-! ### _law_pen -/
def spPen (Ps : Tbs) : Sp := fun vs H Q _ => ∃ z : Int, vs = [.int z] ∧ Tb Ps H ∧ ∀ a H', Ext Ps H H' → H a = none → Pen H' a → Q (.ref a) H'
theorem ok_pen (D : Def K mg "_law_pen" sPen ["_law_cell_here"] f fd c) (mn : mg "int" = none) : FnOk P w K mg base CX0 (k + 1) f fd ["_law_cell_here"] (spPen Ps) := by
  refine D.ok (k := k) scPen (fun vs H Q E h => ?_) (fun A outer s H vs Q E hr h => ?_)
  · obtain ⟨z, rfl, _⟩ := h
    rfl
  · obtain ⟨z, rfl, ht, q⟩ := h
    refine ⟨_, pss_one (ps_ret (pe_lst (pa_cons (pv 0) (pa_cons (pe_callTy call_int1 (by rfl) mn (by decide +kernel) (pa_cons (pe_cmpR op_ge (pv 0) (pe_op op_pow pe_int pe_int) (nomark _)) pa_nil)) pa_nil)))), ?_⟩
    refine ⟨.int z, rfl, .int z, rfl, 10, 18, rfl, rfl, ⟨by decide, by decide, by decide⟩, z, _, rfl, rfl, .inr ⟨_, rfl, (by show 2 ≤ sizeLine; decide), fun l hl => ?_⟩⟩
    exact q l _ (Ext.new ht hl) hl ⟨_, _, upd_same⟩
/-! ### _law_draw -/
def spDraw : Sp := fun vs H Q _ => ∃ (a : Addr) (m : Int), vs = [.ref a, .int m] ∧ Pen H a ∧ 1 ≤ m ∧ m ≤ 1000000000000000000000 ∧ ∀ x f r : Int, 0 ≤ r → r < m → Q (.int r) (upd H a (.lst [.int x, .int f]))
theorem ok_draw (D : Def K mg "_law_draw" sDraw ["_law_pen_here", "_law_many"] f fd c) : FnOk P w K mg base CX0 (k + 1) f fd ["_law_pen_here", "_law_many"] spDraw := by
  refine D.ok (k := k) scDraw (fun vs H Q E h => ?_) (fun A outer s H vs Q E hr h => ?_)
  · obtain ⟨a, m, rfl, _⟩ := h
    rfl
  · obtain ⟨a, m, rfl, ⟨x, fl, hA⟩, m1, m2, q⟩ := h
    have s0 : SqL K H a [.int x, .int fl] := .inl (.inl hA)
    have g0 : ∀ {y z : Int}, atI [V.int y, V.int z] 0 = some (.int y) := atI_nat (j := 0) rfl
    have g1 : ∀ {y z : Int}, atI [V.int y, V.int z] 1 = some (.int z) := atI_nat (j := 1) rfl
    refine ⟨_, pss_cons (ps_if (pt_cmpR op_eq (pe_ix ix_list (pv 0) pe_int (fun _ _ => rfl)) pe_int (nomark _))
        (pss_cons (ps_set (i := 2) scDraw.nd rfl (.inl rfl) (pe_op op_mod (pe_ix ix_list (pv 0) pe_int (fun _ _ => rfl)) (pv 1)))
        (pss_cons (ps_asg (pe_op op_fdivW (pe_ix ix_list (pv 0) pe_int (fun _ _ => rfl)) (pv 1)) (pg_sub (pv 0) pe_int set_list)) (pss_one (ps_ret (pv 2))))) pss_nil)
      (pss_cons (ps_asg (pe_op op_mod (pe_op op_add (pe_op op_mul (pe_op op_mod (pe_ix ix_list (pv 0) pe_int (fun _ _ => rfl)) pe_int) pe_int) pe_int) pe_int) (pg_sub (pv 0) pe_int set_list))
      (pss_one (ps_ret (pe_op op_mod (pe_op op_fdiv (pe_op op_mod (pe_op op_add (pe_op op_mul (pe_ix ix_list (pv 0) pe_int (fun _ _ => rfl)) (pe_ix ix_list (pv 0) pe_int (fun _ _ => rfl))) (pe_op op_mul pe_int (pe_ix ix_list (pv 0) pe_int (fun _ _ => rfl)))) pe_int) pe_int) (pv 1))))), ?_⟩
    refine ⟨.ref a, rfl, a, _, 1, .int fl, rfl, rfl, s0, g1, rfl, _, rfl, ite2 (fun e => ?_) (fun e => ?_)⟩
    · refine ⟨.ref a, rfl, a, _, 0, .int x, rfl, rfl, s0, g0, .int m, rfl, x, m, rfl, rfl, by omega, ?_⟩
      refine ⟨.ref a, rfl, a, _, 0, .int x, rfl, rfl, s0, g0, .int m, rfl, x, m, rfl, rfl, ⟨by omega, Nat.lt_of_lt_of_le ((Nat.log2_lt (show m.natAbs ≠ 0 by omega)).mpr (show m.natAbs < 2 ^ 70 by omega)) (by decide)⟩, .ref a, rfl, a, _, 0, 0, rfl, rfl, hA, rfl, ?_⟩
      exact ⟨.int (x % m), rfl, q _ _ _ (Int.emod_nonneg _ (by omega)) (Int.emod_lt_of_pos _ (by omega))⟩
    · have b0 := Int.emod_nonneg x (show (2147483629 : Int) ≠ 0 by decide)
      have b1 := Int.emod_lt_of_pos x (show (0 : Int) < 2147483629 by decide)
      refine ⟨.ref a, rfl, a, _, 0, .int x, rfl, rfl, s0, g0, x, 2147483629, rfl, rfl, (by show (0 : Int) < 2147483629; decide), x % 2147483629, 48271, rfl, rfl, .inr ⟨by decide, by decide⟩, _, 11, rfl, rfl, _, 2147483629, rfl, rfl, (by show (0 : Int) < 2147483629; decide), .ref a, rfl, a, _, 0, 0, rfl, rfl, hA, rfl, ?_⟩
      have c0 := Int.emod_nonneg (x % 2147483629 * 48271 + 11) (show (2147483629 : Int) ≠ 0 by decide)
      have c1 := Int.emod_lt_of_pos (x % 2147483629 * 48271 + 11) (show (0 : Int) < 2147483629 by decide)
      have s1 : SqL K (upd H a (.lst [.int ((x % 2147483629 * 48271 + 11) % 2147483629), .int fl])) a [.int ((x % 2147483629 * 48271 + 11) % 2147483629), .int fl] := .inl (.inl upd_same)
      refine ⟨.ref a, rfl, a, _, 0, .int ((x % 2147483629 * 48271 + 11) % 2147483629), rfl, rfl, s1, g0, .ref a, rfl, a, _, 0, .int ((x % 2147483629 * 48271 + 11) % 2147483629), rfl, rfl, s1, g0, ((x % 2147483629 * 48271 + 11) % 2147483629), ((x % 2147483629 * 48271 + 11) % 2147483629), rfl, rfl, .inl ⟨by omega, by omega⟩, .ref a, rfl, a, _, 0, .int ((x % 2147483629 * 48271 + 11) % 2147483629), rfl, rfl, s1, g0, 40692, ((x % 2147483629 * 48271 + 11) % 2147483629), rfl, rfl, .inl ⟨by decide, by decide⟩, _, _, rfl, rfl,
        _, 2147483647, rfl, rfl, (by show (0 : Int) < 2147483647; decide), _, 8, rfl, rfl, ⟨by decide, by decide⟩, .int m, rfl, _, m, rfl, rfl, (by show (0 : Int) < m; omega), ?_⟩
      exact q _ _ _ (Int.emod_nonneg _ (by omega)) (Int.emod_lt_of_pos _ (by omega))
end
end Lf

set_option maxHeartbeats 1000000
namespace Lf
open PySem PySem.Spec PyProof.Rows L2 GxR GxA SrT
/-! ### data, compared -/
abbrev iD (ns : List Int) : List PyData := ns.map PyData.int
abbrev tD (ns : List Int) : PyData := .tuple (iD ns)
theorem lay_ints : ∀ ns : List Int, PyData.canLayAll0 (iD ns) = true
  | [] => by simp [PyData.canLayAll0]
  | n :: ns => by
    have := lay_ints ns
    simp [PyData.canLayAll0, PyData.canLay0, this]
theorem dep_ints : ∀ ns : List Int, PyData.depthAll (iD ns) = 0
  | [] => by simp [PyData.depthAll]
  | n :: ns => by
    have := dep_ints ns
    simp [PyData.depthAll, PyData.depth, this]
theorem lay_tups : ∀ fs : List (List Int), PyData.canLayAll0 (fs.map tD) = true
  | [] => by simp [PyData.canLayAll0]
  | n :: ns => by
    have := lay_tups ns
    simp [PyData.canLayAll0, PyData.canLay0, this, lay_ints]
theorem dep_tups : ∀ fs : List (List Int), PyData.depthAll (fs.map tD) ≤ 1
  | [] => by simp [PyData.depthAll]
  | n :: ns => by
    have := dep_tups ns
    simp [PyData.depthAll, PyData.depth, this, dep_ints]
theorem shp_list (ns : List Int) : SeqAt.shaped (.list (iD ns)) = true := by
  unfold SeqAt.shaped
  simp [PyData.canLay0, PyData.depth, lay_ints, dep_ints]
theorem shp_tup (ns : List Int) : SeqAt.shaped (tD ns) = true := by
  unfold SeqAt.shaped
  simp [PyData.canLay0, PyData.depth, lay_ints, dep_ints]
theorem shp_tups (fs : List (List Int)) : SeqAt.shaped (.list (fs.map tD)) = true := by
  unfold SeqAt.shaped
  have h1 := dep_tups fs
  have h2 : PyData.canLay0 (.list (fs.map tD)) = true := by
    rw [PyData.canLay0]
    exact lay_tups fs
  have h3 : PyData.depth (.list (fs.map tD)) = PyData.depthAll (fs.map tD) + 1 := by rw [PyData.depth]
  rw [h2, h3, Bool.true_and]
  exact decide_eq_true (by omega)
theorem eqv_ints : ∀ ns ms : List Int, PyData.eqvAll (iD ns) (iD ms) = decide (ns = ms)
  | [], [] => by simp [PyData.eqvAll]
  | [], m :: ms => by simp [PyData.eqvAll]
  | n :: ns, [] => by simp [PyData.eqvAll]
  | n :: ns, m :: ms => by
    have := eqv_ints ns ms
    simp only [List.map_cons, PyData.eqvAll, PyData.eqv, this]
    by_cases h : n = m
    · subst h
      simp
    · simp [h]
theorem eqv_tups : ∀ fs gs : List (List Int), PyData.eqvAll (fs.map tD) (gs.map tD) = decide (fs = gs)
  | [], [] => by simp [PyData.eqvAll]
  | [], m :: ms => by simp [PyData.eqvAll]
  | n :: ns, [] => by simp [PyData.eqvAll]
  | n :: ns, m :: ms => by
    have := eqv_tups ns ms
    simp only [List.map_cons, PyData.eqvAll, PyData.eqv, this, eqv_ints]
    by_cases h : n = m
    · subst h
      simp
    · simp [h]
section
variable {K : PySem.W.Frag} {H : Hp}
theorem dp_ints : ∀ ns : List Int, DpAll K H (ns.map V.int) (iD ns)
  | [] => .nil
  | n :: ns => .cons (.int n) (dp_ints ns)
theorem dp_tup {x : V} {ns : List Int} (h : TupI K H x ns) : Dp K H x (tD ns) := by
  obtain ⟨t, rfl, hs⟩ := h
  exact .tup hs (dp_ints ns)
theorem dp_tups : ∀ {xs : List V} {fs : List (List Int)}, Paired (TupI K H) xs fs → DpAll K H xs (fs.map tD)
  | _, _, .nil => .nil
  | _, _, .cons r t => .cons (dp_tup r) (dp_tups t)
theorem dp_lst {x : V} {fs : List (List Int)} (h : LstT K H x fs) : Dp K H x (.list (fs.map tD)) := by
  obtain ⟨l, xs, rfl, h1, h2⟩ := h
  exact .lst h1 (dp_tups h2)
end
/-! ### all faces: the mathematics -/
def growK (k : Nat) (l : List (List Int)) (p : Int) : List (List Int) := l ++ (l.filter fun g => decide (g.length < k)).map (· ++ [p])
def allK : Nat → Nat → List (List Int)
  | 0, _ => [[]]
  | n + 1, k => growK k (allK n k) n
def allF (n k : Nat) : List (List Int) := sortL ((allK n k).filter fun g => decide (g.length = k))
theorem allK_len : ∀ n k, (allK n k).length ≤ 2 ^ n
  | 0, _ => by simp [allK]
  | n + 1, k => by
    have h := allK_len n k
    show (growK k (allK n k) n).length ≤ _
    unfold growK
    rw [List.length_append, List.length_map, Nat.pow_succ]
    have := List.length_filter_le (fun g : List Int => decide (g.length < k)) (allK n k)
    omega
/-- rising, of points below n -/
def RisB (n : Nat) (g : List Int) : Prop := g.Pairwise (· < ·) ∧ ∀ i ∈ g, 0 ≤ i ∧ i < (n : Int)
theorem mem_allK : ∀ (n k : Nat) (g : List Int), g ∈ allK n k ↔ RisB n g ∧ g.length ≤ k
  | 0, k, g => by
    show g ∈ [[]] ↔ _
    rw [List.mem_singleton]
    constructor
    · rintro rfl
      exact ⟨⟨.nil, fun i hi => absurd hi (by simp)⟩, Nat.zero_le _⟩
    · rintro ⟨⟨_, h⟩, _⟩
      cases g with
      | nil => rfl
      | cons x r =>
        have := h x List.mem_cons_self
        omega
  | n + 1, k, g => by
    have ih := mem_allK n k
    show g ∈ growK k (allK n k) n ↔ _
    unfold growK
    rw [List.mem_append, List.mem_map]
    constructor
    · rintro (h | ⟨h, hm, rfl⟩)
      · obtain ⟨⟨h1, h2⟩, h3⟩ := (ih g).mp h
        exact ⟨⟨h1, fun i hi => let q := h2 i hi; ⟨q.1, by omega⟩⟩, h3⟩
      · obtain ⟨hm1, hm2⟩ := List.mem_filter.mp hm
        obtain ⟨⟨h1, h2⟩, h3⟩ := (ih h).mp hm1
        have h4 := of_decide_eq_true hm2
        refine ⟨⟨List.pairwise_append.mpr ⟨h1, List.pairwise_singleton _ _, fun a ha b hb => ?_⟩, fun i hi => ?_⟩, ?_⟩
        · rw [List.mem_singleton.mp hb]
          exact (h2 a ha).2
        · rcases List.mem_append.mp hi with q | q
          · have := h2 i q
            omega
          · rw [List.mem_singleton.mp q]
            omega
        · rw [List.length_append, List.length_singleton]
          omega
    · rintro ⟨⟨h1, h2⟩, h3⟩
      rcases List.eq_nil_or_concat g with rfl | ⟨h, z, rfl⟩
      · exact .inl ((ih []).mpr ⟨⟨.nil, fun i hi => absurd hi (by simp)⟩, Nat.zero_le _⟩)
      · rw [List.concat_eq_append] at *
        obtain ⟨p1, p2, p3⟩ := List.pairwise_append.mp h1
        have hz := h2 z (List.mem_append_right _ (List.mem_singleton.mpr rfl))
        have hb : ∀ i ∈ h, 0 ≤ i ∧ i < z := fun i hi => ⟨(h2 i (List.mem_append_left _ hi)).1, p3 i hi z (List.mem_singleton.mpr rfl)⟩
        rw [List.length_append, List.length_singleton] at h3
        by_cases e : z = n
        · subst e
          refine .inr ⟨h, List.mem_filter.mpr ⟨(ih h).mpr ⟨⟨p1, hb⟩, by omega⟩, decide_eq_true (by omega)⟩, rfl⟩
        · refine .inl ((ih _).mpr ⟨⟨h1, fun i hi => ?_⟩, by rw [List.length_append, List.length_singleton]; exact h3⟩)
          have hi2 := h2 i hi
          rcases List.mem_append.mp hi with q | q
          · have := hb i q
            omega
          · rw [List.mem_singleton.mp q]
            omega
theorem nodup_allK : ∀ n k, (allK n k).Nodup
  | 0, _ => by
    show ([[]] : List (List Int)).Nodup
    simp
  | n + 1, k => by
    have ih := nodup_allK n k
    show (growK k (allK n k) n).Nodup
    unfold growK
    refine List.nodup_append.mpr ⟨ih, ?_, fun a ha b hb e => ?_⟩
    · refine List.Pairwise.map _ (fun a b hab e => ?_) (ih.filter _)
      exact hab (List.append_cancel_right e)
    · obtain ⟨h, _, rfl⟩ := List.mem_map.mp hb
      have := ((mem_allK n k a).mp ha).1.2 n (by rw [e]; exact List.mem_append_right _ (List.mem_singleton.mpr rfl))
      omega
theorem mem_allF {n k : Nat} {g : List Int} : g ∈ allF n k ↔ RisB n g ∧ g.length = k := by
  unfold allF
  rw [(sortL_perm _).mem_iff, List.mem_filter, mem_allK, decide_eq_true_eq]
  constructor
  · rintro ⟨⟨h, _⟩, h2⟩
    exact ⟨h, h2⟩
  · rintro ⟨h, h2⟩
    exact ⟨⟨h, by omega⟩, h2⟩
theorem nodup_allF (n k : Nat) : (allF n k).Nodup := by
  unfold allF
  exact (sortL_perm _).nodup_iff.mpr ((nodup_allK n k).filter _)
theorem allF_len (n k : Nat) : (allF n k).length ≤ 2 ^ n := by
  unfold allF
  rw [(sortL_perm _).length_eq]
  exact Nat.le_trans (List.length_filter_le _ _) (allK_len n k)
theorem allF_ne {n k : Nat} (h : k ≤ n) : 0 < (allF n k).length := by
  have hm : (List.range k).map (fun i : Nat => (i : Int)) ∈ allF n k := by
    refine mem_allF.mpr ⟨⟨?_, fun i hi => ?_⟩, by simp⟩
    · refine List.Pairwise.map _ (fun a b hab => ?_) List.pairwise_lt_range
      omega
    · obtain ⟨j, hj, rfl⟩ := List.mem_map.mp hi
      have := List.mem_range.mp hj
      omega
  exact List.length_pos_of_mem hm
abbrev sAll : Stmt := topS 42
theorem scAll : FnScope ["_law_n", "_law_k", "_law_found", "_law_point", "_law_one"] ["_law_n", "_law_k"] (defScope sAll) := ⟨rfl, rfl, rfl, by decide +kernel, rfl, by decide +kernel, by decide +kernel⟩
section
variable {P : Program} {w : World} {K : PySem.W.Frag} {mg : Str → Option Value} {base : Heap} {Ps : Tbs} {H H' : Hp} {k : Nat} {f c : Addr} {fd : FuncData}
def spAll (K : PySem.W.Frag) (Ps : Tbs) : Sp := fun vs H Q _ => ∃ n kk : Nat, vs = [.int n, .int kk] ∧ n ≤ 8 ∧ kk ≤ 8 ∧ Tb Ps H ∧ ∀ l ys H', Ext Ps H H' → H l = none → H' l = some (.lst ys) → Paired (TupI K H') ys (allF n kk) → Q (.ref l) H'
theorem fm_take {α β : Type} (p : α → Bool) (g : α → β) {l : List α} {i : Nat} {y : α} (h : l[i]? = some y) : ((l.take (i + 1)).filter p).map g = ((l.take i).filter p).map g ++ (if p y = true then [g y] else []) := by
  rw [filt_take p h, List.map_append]
  cases hp : p y <;> simp
theorem ok_all (D : Def K mg "_law_all" sAll ["_law_n", "_law_k"] f fd c) (mr : mg "range" = none) (ml : mg "len" = none) (ms : mg "sorted" = none) : FnOk P w K mg base CX0 (k + 1) f fd ["_law_n", "_law_k"] (spAll K Ps) := by
  refine D.ok (k := k) scAll (fun vs H Q E h => ?_) (fun A outer s H vs Q E hr h => ?_)
  · obtain ⟨n, kk, rfl, _⟩ := h
    rfl
  · obtain ⟨n, kk, rfl, hn, hk, ht, q⟩ := h
    refine ⟨_, pss_cons (ps_set (i := 2) scAll.nd rfl (.inl rfl) (pe_lst (pa_cons (pe_tup pa_nil) pa_nil)))
      (pss_cons (ps_for PassesOwn.never rfl (pi_range1 (by rfl) mr (pa_cons (pv 0) pa_nil)) (pg_name (i := 3) scAll.nd rfl (.inr rfl))
        (pss_one (ps_set (i := 2) scAll.nd rfl (.inl rfl) (pe_op op_cat (pv 2) (pe_lc (own := [("_law_one", 4)]) (g := gName 4) (by rfl) scAll.nd (pi_list (pv 2)) (blkOk_by (N := ["_law_n", "_law_k", "_law_found", "_law_point", "_law_one"]) (sc := defScope sAll) (by decide +kernel))
          (fun _ _ _ _ _ => pg_name (i := 4) scAll.nd rfl (Or.inl rfl)) (fun _ _ _ _ _ => pts_one (pt_cmpR op_lt (pe_callB (call_lenS (K := K) rfl) (by rfl) ml PySem.boot_len (pa_cons (pv 4) pa_nil)) (pv 1) (nomark _)))
          (fun _ _ _ _ _ => pe_op (show OpR _ _ (rCatA K) from op_catA) (pv 4) (pe_tup (pa_cons (pv 3) pa_nil))))))))
      (pss_one (ps_ret (pe_callB (cr_sortL hr.units) (by rfl) ms (by decide +kernel) (pa_cons (pe_lc (own := [("_law_one", 4)]) (g := gName 4) (by rfl) scAll.nd (pi_list (pv 2)) (blkOk_by (N := ["_law_n", "_law_k", "_law_found", "_law_point", "_law_one"]) (sc := defScope sAll) (by decide +kernel))
          (fun _ _ _ _ _ => pg_name (i := 4) scAll.nd rfl (Or.inl rfl)) (fun _ _ _ _ _ => pts_one (pt_cmpR op_eq (pe_callB (call_lenS (K := K) rfl) (by rfl) ml PySem.boot_len (pa_cons (pv 4) pa_nil)) (pv 1) (nomark _))) (fun _ _ _ _ _ => pv 4)) pa_nil))))), ?_⟩
    refine ⟨Nat.zero_le _, fun e he => ⟨(by show 1 ≤ sizeLine; decide), fun l0 hl0 => ?_⟩⟩
    have x1 : Ext Ps H (upd H e (.tup [])) := Ext.new ht he
    have x2 := x1.trans (Ext.new (o := .lst [.ref e]) x1.tb hl0)
    have hsm : ∀ i, i ≤ 8 → (allK i kk).length ≤ 256 := fun i hi => Nat.le_trans (allK_len i kk) (Nat.pow_le_pow_right (by omega) hi)
    refine ⟨.int n, rfl, (n : Int), rfl, by omega, by omega, for_range (lo := 0) (n := (n : Int).toNat) (fun i σ H3 => Ext Ps H H3 ∧ ∃ (l : Addr) (ys : List V) (y3 y4 : Option V), σ = [some (.int n), some (.int kk), some (.ref l), y3, y4] ∧ H l = none ∧ H3 l = some (.lst ys) ∧ Paired (TupI K H3) ys (allK i kk)) ?_ (fun i σ H3 hi p => ?_) (fun σ H3 p => ?_)⟩
    · refine ⟨x2, l0, [.ref e], none, none, rfl, x1.free hl0, upd_same, .cons ⟨e, rfl, .inl (.inl ?_)⟩ .nil⟩
      rw [upd_ne (ne_of_none upd_same hl0)]
      exact upd_same
    · obtain ⟨x3, l, ys, y3, y4, rfl, hnl, h3, hp⟩ := p
      have hi8 : i ≤ 8 := by
        have : i < (n : Int).toNat := hi
        omega
      have h256 := hsm i hi8
      have hlen : ys.length ≤ 256 := by
        rw [Paired.length hp]
        exact h256
      refine ⟨.ref l, rfl, .ref l, rfl, l, rfl, ⟨_, .inl (.inl h3)⟩, fun D0 hD => lc_list (K := K) (a := l) (xs := ys) (fun j H4 => CP Ps (TupI K) H3 D0 ((((allK i kk).take j).filter fun g => decide (g.length < kk)).map (· ++ [(i : Int)])) j H4) (CP.start x3.tb hD) (fun j H4 _ p => p.ext.sqL (.inl (.inl h3))) (fun j z H4 hz p => ?_) (fun H4 p => ?_)⟩
      · obtain ⟨g, hg, t, rfl, hT⟩ := paired_get hp hz
        have hj : j < ys.length := (List.getElem?_eq_some_iff.mp hz).1
        have hT4 := p.ext.sqT hT
        refine ⟨rfl, .ref t, rfl, t, _, rfl, .inr hT4, .int kk, rfl, _, _, rfl, rfl, _, rfl, ?_⟩
        rw [List.length_map]
        have hft := fm_take (fun g : List Int => decide (g.length < kk)) (· ++ [(i : Int)]) hg
        refine ite2 (fun hc => ?_) (fun hc => ?_)
        · have hc' : g.length < kk := by
            have := of_decide_eq_true hc
            omega
          refine ⟨.ref t, rfl, .int (0 + i), rfl, (by show 1 ≤ sizeLine; decide), fun u hu => ?_⟩
          have x5 := Ext.new (o := .tup [.int (0 + i)]) p.ext.tb hu
          have p5 := p.skip (stbT (K := K)) x5
          have hgl : (g.map V.int).length + [V.int (0 + (i : Int))].length ≤ sizeLine := by
            rw [List.length_map, List.length_singleton]
            exact Nat.le_of_lt (small1000 (by omega))
          have fin : ∀ (v : V) (H6 : Hp), Ext Ps (upd H4 u (.tup [.int (0 + i)])) H6 → TupI K H6 v (g ++ [(i : Int)]) → ∃ acc, H6 D0 = some (.lst acc) ∧ acc.length < sizeLine ∧ CP Ps (TupI K) H3 D0 ((((allK i kk).take (j + 1)).filter fun g => decide (g.length < kk)).map (· ++ [(i : Int)])) (j + 1) (upd H6 D0 (.lst (acc ++ [v]))) := by
            intro v H6 x6 hv
            have r := CP.put (stbT (K := K)) hD (by omega) (p5.skip (stbT (K := K)) x6) hv
            rw [hft, if_pos (decide_eq_true hc')]
            exact r
          have e0 : [V.int (0 + (i : Int))] = ([(i : Int)]).map V.int := by simp
          refine ⟨t, u, _, _, rfl, rfl, x5.sqT hT4, .inl (.inl upd_same), hgl, fun hz => ?_, fun _ hz => absurd hz (by simp), fun _ _ p0 hp0 => ?_⟩
          · have hg0 : g = [] := by simpa using hz
            refine fin _ _ (Ext.refl x5.tb) ⟨u, rfl, ?_⟩
            rw [hg0, List.nil_append, ← e0]
            exact .inl (.inl upd_same)
          · refine fin _ _ (Ext.new x5.tb hp0) ⟨p0, rfl, ?_⟩
            rw [List.map_append, ← e0]
            exact .inl (.inl upd_same)
        · have hc' : ¬ decide (g.length < kk) = true := by
            intro z
            have := of_decide_eq_true z
            exact hc (decide_eq_true (by omega))
          rw [if_neg hc', List.append_nil] at hft
          rw [hft]
          exact p.mono (Nat.le_succ j)
      · obtain ⟨zs, h4, h5, h6⟩ := p.at_
        refine ⟨l, D0, ys, zs, rfl, rfl, p.ext.lst h3, h4, ?_, fun l2 hl2 => ?_⟩
        · exact Nat.le_of_lt (small1000 (by omega))
        · have x6 := Ext.new (o := .lst (ys ++ zs)) p.ext.tb hl2
          refine ⟨x3.trans (p.ext.trans x6), l2, ys ++ zs, some (.int (0 + i)), y4, rfl, (x3.trans p.ext).free hl2, upd_same, ?_⟩
          show Paired _ _ (growK kk (allK i kk) i)
          unfold growK
          have e0 : (allK i kk).take ys.length = allK i kk := by
            rw [Paired.length hp, List.take_length]
          rw [e0] at h5
          exact x6.tups (paired_app (p.ext.tups hp) h5)
    · obtain ⟨x3, l, ys, y3, y4, rfl, hnl, h3, hp⟩ := p
      rw [Int.toNat_natCast] at hp
      have h256 := hsm n hn
      have hlen : ys.length ≤ 256 := by
        rw [Paired.length hp]
        exact h256
      refine ⟨.ref l, rfl, l, rfl, ⟨_, .inl (.inl h3)⟩, fun D0 hD => lc_list (K := K) (a := l) (xs := ys) (fun j H4 => CP Ps (TupI K) H3 D0 (((allK n kk).take j).filter fun g => decide (g.length = kk)) j H4) (CP.start x3.tb hD) (fun j H4 _ p => p.ext.sqL (.inl (.inl h3))) (fun j z H4 hz p => ?_) (fun H4 p => ?_)⟩
      · obtain ⟨g, hg, t, rfl, hT⟩ := paired_get hp hz
        have hj : j < ys.length := (List.getElem?_eq_some_iff.mp hz).1
        have hT4 := p.ext.sqT hT
        refine ⟨rfl, .ref t, rfl, t, _, rfl, .inr hT4, .int kk, rfl, rfl, _, rfl, ?_⟩
        rw [List.length_map]
        have hft := filt_take (fun g : List Int => decide (g.length = kk)) hg
        refine ite2 (fun hc => ?_) (fun hc => ?_)
        · have hc' : g.length = kk := by
            have := V.int.inj (of_decide_eq_true hc)
            omega
          refine ⟨.ref t, rfl, ?_⟩
          have r := CP.put (stbT (K := K)) hD (by omega) p (show TupI K H4 (.ref t) g from ⟨t, rfl, hT4⟩)
          rw [hft, if_pos (decide_eq_true hc')]
          exact r
        · have hc' : ¬ decide (g.length = kk) = true := by
            intro z
            have := of_decide_eq_true z
            exact hc (decide_eq_true (by rw [this]))
          rw [if_neg hc', List.append_nil] at hft
          rw [hft]
          exact p.mono (Nat.le_succ j)
      · obtain ⟨zs, h4, h5, h6⟩ := p.at_
        rw [Paired.length hp, List.take_length] at h5
        refine ⟨D0, zs, _, rfl, .inl (.inl h4), h5, fun us u hz _ hu => ?_⟩
        have x4 := Ext.new (o := .lst us) p.ext.tb hu
        exact q u us _ (x3.trans (p.ext.trans x4)) ((x3.trans p.ext).free hu) upd_same (x4.tups hz)
end
end Lf

set_option maxHeartbeats 1000000
namespace Lf
open PySem PySem.Spec PyProof.Rows L2 GxR GxA SrT
/-- a list or a tuple of ints -/
def SeqI (K : PySem.W.Frag) (H : Hp) (x : V) (ns : List Int) : Prop := ∃ a, x = .ref a ∧ (SqL K H a (ns.map V.int) ∨ SqT K H a (ns.map V.int))
/-- a list of ints -/
def LI (K : PySem.W.Frag) (H : Hp) (x : V) (ns : List Int) : Prop := ∃ a, x = .ref a ∧ SqL K H a (ns.map V.int)
section
variable {P : Program} {w : World} {K : PySem.W.Frag} {mg : Str → Option Value} {base : Heap} {Ps : Tbs} {H H' : Hp} {k : Nat} {f c : Addr} {fd : FuncData}
theorem Ext.seqI (e : Ext Ps H H') {x : V} {ns : List Int} (h : SeqI K H x ns) : SeqI K H' x ns := by
  obtain ⟨a, rfl, h⟩ := h
  exact ⟨a, rfl, h.elim (fun z => .inl (e.sqL z)) fun z => .inr (e.sqT z)⟩
theorem Ext.li (e : Ext Ps H H') {x : V} {ns : List Int} (h : LI K H x ns) : LI K H' x ns := let ⟨a, h1, h2⟩ := h; ⟨a, h1, e.sqL h2⟩
theorem TupI.seq {x : V} {ns : List Int} (h : TupI K H x ns) : SeqI K H x ns := let ⟨a, h1, h2⟩ := h; ⟨a, h1, .inr h2⟩
theorem LI.seq {x : V} {ns : List Int} (h : LI K H x ns) : SeqI K H x ns := let ⟨a, h1, h2⟩ := h; ⟨a, h1, .inl h2⟩
theorem hasAll_iff (fc pts : List Int) : hasAll fc pts = decide ((pts.filter fun p => !decide (p ∈ fc)) = []) := by
  unfold hasAll
  rw [Bool.eq_iff_iff, List.all_eq_true, decide_eq_true_eq, List.filter_eq_nil_iff]
  constructor
  · intro h a ha
    simpa using h a ha
  · intro h a ha
    simpa using h a ha
/-! ### _law_within -/
def spWithinL (K : PySem.W.Frag) (Ps : Tbs) : Sp := fun vs H Q _ => ∃ (x y : V) (pts fc : List Int), vs = [x, y] ∧ SeqI K H x pts ∧ SeqI K H y fc ∧ pts.length ≤ 100 ∧ Tb Ps H ∧ ∀ H', Ext Ps H H' → Q (.bl (hasAll fc pts)) H'
/-! ### _law_common -/
def spCommon (K : PySem.W.Frag) (Ps : Tbs) : Sp := fun vs H Q _ => ∃ (x y : V) (pts fc : List Int), vs = [x, y] ∧ TupI K H x pts ∧ TupI K H y fc ∧ pts.length ≤ 100 ∧ Tb Ps H ∧ ∀ (l : Addr) (ns : List Int) (H' : Hp), Ext Ps H H' → H l = none → ns.length ≤ 100 → H' l = some (.lst (ns.map V.int)) → Q (.ref l) H'
/-! ### _law_at -/
def spAt (K : PySem.W.Frag) (Ps : Tbs) : Sp := fun vs H Q _ => ∃ (x y : V) (n k : Int) (fss : List (List Int)) (ns : List Int), vs = [x, y] ∧ Stk K H x n k fss ∧ LI K H y ns ∧ (∀ i ∈ ns, 0 ≤ i ∧ i < (fss.length : Int)) ∧ ns.length ≤ 100 ∧ Tb Ps H ∧
  ∀ l ys H', Ext Ps H H' → H l = none → H' l = some (.lst ys) → Paired (TupI K H') ys (facesAt fss ns) → Q (.ref l) H'
/-! ### _law_lot -/
def spLot (K : PySem.W.Frag) (Ps : Tbs) : Sp := fun vs H Q _ => ∃ (a : Addr) (x : V) (n k : Int) (fss : List (List Int)), vs = [.ref a, x] ∧ Pen H a ∧ Stk K H x n k fss ∧ fss.length ≤ 70 ∧ Tb Ps H ∧ ∀ (v : V) (ns : List Int) (H' : Hp), Epn Ps a H H' → TupI K H' v ns → LotOk fss.length ns → Q v H'
end
end Lf

set_option maxHeartbeats 1000000
namespace Lf
open PySem PySem.Spec PyProof.Rows L2 GxR GxA SrT
theorem u65 {k : Nat} {A : Around} (r : Room k A) : A.units + 65 < cLine := by
  have := r.un
  omega
/-! ### lists of lists of ints as data -/
abbrev lD (ns : List Int) : PyData := .list (iD ns)
theorem lay_lls : ∀ fs : List (List Int), PyData.canLayAll0 (fs.map lD) = true
  | [] => by simp [PyData.canLayAll0]
  | n :: ns => by
    have := lay_lls ns
    simp [PyData.canLayAll0, PyData.canLay0, this, lay_ints]
theorem dep_lls : ∀ fs : List (List Int), PyData.depthAll (fs.map lD) ≤ 1
  | [] => by simp [PyData.depthAll]
  | n :: ns => by
    have := dep_lls ns
    simp [PyData.depthAll, PyData.depth, this, dep_ints]
theorem shp_lls (fs : List (List Int)) : SeqAt.shaped (.list (fs.map lD)) = true := by
  unfold SeqAt.shaped
  have h1 := dep_lls fs
  have h2 : PyData.canLay0 (.list (fs.map lD)) = true := by
    rw [PyData.canLay0]
    exact lay_lls fs
  have h3 : PyData.depth (.list (fs.map lD)) = PyData.depthAll (fs.map lD) + 1 := by rw [PyData.depth]
  rw [h2, h3, Bool.true_and]
  exact decide_eq_true (by omega)
/-- a list of ints of ours, that is not the list at D -/
def LIn (D : Addr) : Hp → V → List Int → Prop := fun H x ns => ∃ a, x = .ref a ∧ a ≠ D ∧ H a = some (.lst (ns.map V.int)) ∧ ns.length ≤ 100
section
variable {P : Program} {w : World} {K : PySem.W.Frag} {mg : Str → Option Value} {base : Heap} {Ps : Tbs} {H H' H0 : Hp} {k : Nat} {f c : Addr} {fd : FuncData}
theorem LIn.ext {D : Addr} {x : V} {ns : List Int} (e : Ext Ps H H') (h : LIn D H x ns) : LIn D H' x ns := let ⟨a, h1, h2, h3, h4⟩ := h; ⟨a, h1, h2, e.lst h3, h4⟩
theorem LIn.put {D : Addr} {x : V} {ns : List Int} {l' : List V} (h : LIn D H x ns) : LIn D (upd H D (.lst l')) x ns := let ⟨a, h1, h2, h3, h4⟩ := h; ⟨a, h1, h2, by rw [upd_ne h2]; exact h3, h4⟩
theorem LIn.seq {D : Addr} {x : V} {ns : List Int} (h : LIn D H x ns) : SeqI K H x ns := let ⟨a, h1, h2, h3, h4⟩ := h; ⟨a, h1, .inl (.inl (.inl h3))⟩
theorem LIn.other {D D' : Addr} {x : V} {ns : List Int} (h : LIn D H x ns) (hD : H D' = none) : LIn D' H x ns := let ⟨a, h1, h2, h3, h4⟩ := h; ⟨a, h1, ne_of_none h3 hD, h3, h4⟩
theorem dp_lls {D : Addr} : ∀ {xs : List V} {fs : List (List Int)}, Paired (LIn D H) xs fs → DpAll K H xs (fs.map lD)
  | _, _, .nil => .nil
  | _, _, .cons ⟨a, h1, h2, h3, h4⟩ t => by
    subst h1
    exact .cons (.lst (.inl (.inl h3)) (dp_ints _)) (dp_lls t)
theorem CP.skipL {D : Addr} {out : List (List Int)} {n : Nat} (h : CP Ps (LIn D) H0 D out n H) (e : Ext Ps H H') : CP Ps (LIn D) H0 D out n H' := by
  obtain ⟨ys, h1, h2, h3⟩ := h.at_
  exact ⟨h.ext.trans e, ys, e.lst h1, L2.Paired.mapP h2 fun _ _ z => LIn.ext e z, h3⟩
theorem CP.putL {D : Addr} {out : List (List Int)} {n : Nat} (hD : H0 D = none) (hn : n ≤ 1000) {y : V} {z : List Int} (h : CP Ps (LIn D) H0 D out n H) (hF : LIn D H y z) :
    ∃ acc, H D = some (.lst acc) ∧ acc.length < sizeLine ∧ CP Ps (LIn D) H0 D (out ++ [z]) (n + 1) (upd H D (.lst (acc ++ [y]))) := by
  obtain ⟨ys, h1, h2, h3⟩ := h.at_
  refine ⟨ys, h1, small1000 (Nat.le_trans h3 hn), ⟨h.ext.write hD h1 (fun q z => by cases z), ys ++ [y], upd_same, ?_, ?_⟩⟩
  · exact paired_snoc (L2.Paired.mapP h2 fun _ _ z => LIn.put z) (LIn.put hF)
  · rw [List.length_append]
    exact Nat.add_le_add_right h3 1
/-! ### _law_may -/
def spMay (K : PySem.W.Frag) (Ps : Tbs) : Sp := fun vs H Q _ => ∃ (kk : Int) (y z : V) (fss : List (List Int)) (fc : List Int), vs = [.int kk, y, z] ∧ LstT K H y fss ∧ TupI K H z fc ∧ fss.length ≤ 100 ∧ fc.length ≤ 100 ∧ Tb Ps H ∧ ∀ (b : Bool) (H' : Hp), Ext Ps H H' → Q (.bl b) H'
end
end Lf

set_option maxHeartbeats 1000000
namespace Lf
open PySem PySem.Spec PyProof.Rows L2 GxR GxA SrT
/-- the numbers from 0 on -/
def rng (m : Nat) : List Int := (List.range m).map fun i : Nat => (i : Int)
theorem rng_len (m : Nat) : (rng m).length = m := by simp [rng]
theorem rng_V (m : Nat) : rgV 0 (m : Int) = (rng m).map V.int := by
  unfold rgV rng
  rw [List.map_map]
  have e : ((m : Int) - 0).toNat = m := by omega
  rw [e]
  refine List.map_congr_left fun i _ => ?_
  show V.int (0 + (i : Int)) = V.int i
  rw [Int.zero_add]
theorem mem_rng {m : Nat} {i : Int} (h : i ∈ rng m) : 0 ≤ i ∧ i < (m : Int) := by
  obtain ⟨j, hj, rfl⟩ := List.mem_map.mp h
  have := List.mem_range.mp hj
  omega
theorem nd_rng (m : Nat) : (rng m).Nodup := by
  unfold rng
  refine List.Pairwise.map _ (fun a b hab e => ?_) List.nodup_range
  exact hab (by omega)
theorem find_at {ls : List Int} {v : Int} (nd : ls.Nodup) (h : v ∈ ls) : ∃ j : Nat, ls[j]? = some v ∧ (∀ m : Nat, m < j → ls[m]? ≠ some v) ∧ (v :: ls.eraseIdx j).Perm ls := by
  obtain ⟨j, hj, e⟩ := List.getElem_of_mem h
  refine ⟨j, by rw [List.getElem?_eq_getElem hj, e], fun m hm z => ?_, ?_⟩
  · obtain ⟨hm2, e2⟩ := List.getElem?_eq_some_iff.mp z
    have := (List.getElem_inj nd).mp (e2.trans e.symm)
    omega
  · have e3 : ls = ls.take j ++ v :: ls.drop (j + 1) := by
      rw [← e, ← List.drop_eq_getElem_cons hj, List.take_append_drop]
    rw [List.eraseIdx_eq_take_drop_succ]
    conv => rhs; rw [e3]
    exact List.perm_middle.symm
/-- how many things the list in the fourth slot has -/
def lstLen : Option HO → Nat
  | some (.lst xs) => xs.length
  | _ => 0
def slotLen (H : Hp) : Option (Option V) → Nat
  | some (some (V.ref l)) => lstLen (H l)
  | _ => 0
def lefts (σ : L2.St) (H : Hp) : Nat := slotLen H σ[3]?
section
variable {P : Program} {w : World} {K : PySem.W.Frag} {mg : Str → Option Value} {base : Heap} {Ps : Tbs} {H H' H0 : Hp} {k : Nat} {f c : Addr} {fd : FuncData}
def spLaid (K : PySem.W.Frag) (Ps : Tbs) : Sp := fun vs H Q _ => ∃ (a : Addr) (x : V) (n kk : Int) (fss : List (List Int)), vs = [.ref a, x] ∧ Pen H a ∧ Stk K H x n kk fss ∧ fss.length < 64 ∧ (∀ f ∈ fss, f.length ≤ 4) ∧ Tb Ps H ∧
  ∀ (v : V) (ns : List Int) (H' : Hp), Epn Ps a H H' → TupI K H' v ns → ns.Perm (rng fss.length) → Q v H'
/-- between two turns: the row, what is left, what can be laid -/
structure Rw (Ps : Tbs) (a : Addr) (m : Nat) (H0 H : Hp) (r l cn : Addr) (rs ls cs : List Int) : Prop where
  ext : Epn Ps a H0 H
  hr : H r = some (.lst (rs.map V.int))
  hl : H l = some (.lst (ls.map V.int))
  hc : H cn = some (.lst (cs.map V.int))
  nr : H0 r = none
  nl : H0 l = none
  nc : H0 cn = none
  rl : r ≠ l
  rc : r ≠ cn
  lc : l ≠ cn
  perm : (rs ++ ls).Perm (rng m)
  sub : ∀ z ∈ cs, z ∈ ls
  few : cs.length ≤ 64
theorem Rw.ne {a : Addr} {m : Nat} {r l cn : Addr} {rs ls cs : List Int} (h : Rw Ps a m H0 H r l cn rs ls cs) : r ≠ a ∧ l ≠ a ∧ cn ≠ a := by
  obtain ⟨x, f, e⟩ := h.ext.p0
  exact ⟨Ne.symm (ne_of_none e h.nr), Ne.symm (ne_of_none e h.nl), Ne.symm (ne_of_none e h.nc)⟩
theorem facesAt_len (fss : List (List Int)) (ns : List Int) : (facesAt fss ns).length = ns.length := by simp [facesAt]
end
end Lf

set_option maxHeartbeats 2000000
namespace Lf
open PySem PySem.Spec PyProof.Rows L2 GxR GxA SrT
abbrev sStack : Stmt := topS 43
abbrev nStack : List Str := ["_law_pen_here", "_law_most", "_law_way", "_law_n", "_law_k", "_law_every", "_law_faces", "_law_turn", "_law_face", "_law_out", "_law_others", "_law_into", "_law_rest", "_law_point"]
theorem scStack : FnScope nStack ["_law_pen_here", "_law_most"] (defScope sStack) := ⟨rfl, rfl, rfl, by decide +kernel, rfl, by decide +kernel, by decide +kernel⟩
/-! ### the mathematics of a drawn face -/
theorem filt_split {α : Type} (p : α → Bool) : ∀ l : List α, (l.filter p).length + (l.filter fun x => !p x).length = l.length
  | [] => rfl
  | x :: l => by
    have := filt_split p l
    cases h : p x <;> simp [List.filter_cons, h] <;> omega
theorem RisB.nd {n : Nat} {g : List Int} (h : RisB n g) : g.Nodup := h.1.imp fun {a b} hab e => by omega
theorem in_rng {m : Nat} {i : Int} (h0 : 0 ≤ i) (h1 : i < (m : Int)) : i ∈ rng m := List.mem_map.mpr ⟨i.toNat, List.mem_range.mpr (by omega), by omega⟩
theorem others_len {n : Nat} {g : List Int} (h : RisB n g) : ((rng n).filter fun p => !decide (p ∈ g)).length = n - g.length := by
  have h1 : ((rng n).filter fun p => decide (p ∈ g)).Perm g := by
    refine (List.perm_ext_iff_of_nodup ((nd_rng n).filter _) h.nd).mpr fun z => ?_
    rw [List.mem_filter, decide_eq_true_eq]
    constructor
    · exact fun q => q.2
    · intro q
      exact ⟨in_rng (h.2 z q).1 (h.2 z q).2, q⟩
  have h2 := filt_split (fun p => decide (p ∈ g)) (rng n)
  rw [rng_len, h1.length_eq] at h2
  omega
theorem lt_of_le_nd {l : List Int} (h1 : l.Pairwise (· ≤ ·)) (h2 : l.Nodup) : l.Pairwise (· < ·) := List.Pairwise.imp₂ (fun a b h n => by omega) h1 h2
theorem rest_len {g : List Int} {o : Int} (nd : g.Nodup) (h : o ∈ g) : (g.filter fun p => !decide (p = o)).length + 1 = g.length := by
  have e := nd.filter (fun p => decide (p = o))
  have h1 : (g.filter fun p => decide (p = o)).Perm [o] := by
    refine (List.perm_ext_iff_of_nodup e (by simp)).mpr fun z => ?_
    rw [List.mem_filter, decide_eq_true_eq, List.mem_singleton]
    constructor
    · exact fun q => q.2
    · rintro rfl
      exact ⟨h, rfl⟩
  have h2 := filt_split (fun p => decide (p = o)) g
  rw [h1.length_eq, List.length_singleton] at h2
  omega
theorem swap_ok {n : Nat} {g ns : List Int} {o i : Int} (h : RisB n g) (ho : o ∈ g) (hi : i ∉ g) (h0 : 0 ≤ i) (h1 : i < (n : Int)) (pm : ns.Perm ((g.filter fun p => !decide (p = o)) ++ [i])) (sr : ns.Pairwise (· ≤ ·)) : RisB n ns ∧ ns.length = g.length := by
  have nd : ((g.filter fun p => !decide (p = o)) ++ [i]).Nodup := by
    refine List.nodup_append.mpr ⟨h.nd.filter _, by simp, fun a ha b hb e => ?_⟩
    rw [List.mem_singleton.mp hb] at e
    rw [e] at ha
    exact hi (List.mem_filter.mp ha).1
  refine ⟨⟨lt_of_le_nd sr (pm.nodup_iff.mpr nd), fun z hz => ?_⟩, ?_⟩
  · rcases List.mem_append.mp (pm.mem_iff.mp hz) with q | q
    · exact h.2 z (List.mem_filter.mp q).1
    · rw [List.mem_singleton.mp q]
      exact ⟨h0, h1⟩
  · rw [pm.length_eq, List.length_append, List.length_singleton]
    exact rest_len h.nd ho
theorem RisB.mono {n m : Nat} {g : List Int} (h : RisB n g) (hm : n ≤ m) : RisB m g := ⟨h.1, fun i hi => by have := h.2 i hi; omega⟩
/-- tuples of ints by their addresses -/
theorem keys_at {K : PySem.W.Frag} {H : Hp} : ∀ {ys : List V} {gss : List (List Int)}, Paired (TupI K H) ys gss → ∃ ks : List (Addr × List Int), ys = ks.map (fun p => V.ref p.1) ∧ ks.map (·.2) = gss ∧ ∀ p ∈ ks, SqT K H p.1 (p.2.map V.int)
  | _, _, .nil => ⟨[], rfl, rfl, fun p hp => absurd hp (by simp)⟩
  | _, _, .cons ⟨t, e, hs⟩ q => by
    obtain ⟨ks, e1, e2, e3⟩ := keys_at q
    refine ⟨(t, _) :: ks, by rw [List.map_cons, e, e1], by rw [List.map_cons, e2], fun p hp => ?_⟩
    rcases List.mem_cons.mp hp with z | z
    · rw [z]
      exact hs
    · exact e3 p z
section
variable {P : Program} {w : World} {K : PySem.W.Frag} {mg : Str → Option Value} {base : Heap} {Ps : Tbs} {H H' H0 : Hp} {k : Nat} {f c : Addr} {fd : FuncData}
def spStack (K : PySem.W.Frag) (Ps : Tbs) : Sp := fun vs H Q _ => ∃ (a : Addr) (m : Int), vs = [.ref a, .int m] ∧ Pen H a ∧ 1 ≤ m ∧ m ≤ 40 ∧ Tb Ps H ∧ ∀ (v : V) (n kk : Int) (fss : List (List Int)) (H' : Hp), Epn Ps a H H' → Stk K H' v n kk fss → StkOk n kk fss → fss.length ≤ 40 → Q v H'
/-- between two turns of the loop: all faces, the faces drawn -/
structure Fc (K : PySem.W.Frag) (Ps : Tbs) (a : Addr) (n k : Nat) (H0 H : Hp) (ev fa : Addr) (es ys : List V) (gss : List (List Int)) : Prop where
  ext : Epn Ps a H0 H
  he : H ev = some (.lst es)
  hf : H fa = some (.lst ys)
  ne : H0 ev = none
  nf : H0 fa = none
  ef : ev ≠ fa
  pe : Paired (TupI K H) es (allF n k)
  pf : Paired (TupI K H) ys gss
  ok : ∀ g ∈ gss, RisB n g ∧ g.length = k
theorem Fc.away {a : Addr} {n kk : Nat} {ev fa : Addr} {es ys : List V} {gss : List (List Int)} (h : Fc K Ps a n kk H0 H ev fa es ys gss) : ev ≠ a ∧ fa ≠ a := by
  obtain ⟨x, f, e⟩ := h.ext.p0
  exact ⟨Ne.symm (ne_of_none e h.ne), Ne.symm (ne_of_none e h.nf)⟩
theorem Fc.move {a : Addr} {n kk : Nat} {ev fa : Addr} {es ys : List V} {gss : List (List Int)} (h : Fc K Ps a n kk H0 H ev fa es ys gss) (e : Epn Ps a H H') : Fc K Ps a n kk H0 H' ev fa es ys gss :=
  ⟨h.ext.trans e, e.lst h.away.1 h.he, e.lst h.away.2 h.hf, h.ne, h.nf, h.ef, e.tups h.pe, e.tups h.pf, h.ok⟩
theorem Fc.put {a : Addr} {n kk : Nat} {ev fa : Addr} {es ys : List V} {gss : List (List Int)} {x : V} {g : List Int} (h : Fc K Ps a n kk H0 H ev fa es ys gss) (hx : TupI K H x g) (hg : RisB n g ∧ g.length = kk) : Fc K Ps a n kk H0 (upd H fa (.lst (ys ++ [x]))) ev fa es (ys ++ [x]) (gss ++ [g]) := by
  refine ⟨h.ext.write h.nf h.hf (fun q z => by cases z), by rw [upd_ne h.ef]; exact h.he, upd_same, h.ne, h.nf, h.ef, L2.Paired.mapP h.pe fun _ _ z => tupI_put h.hf z, paired_snoc (L2.Paired.mapP h.pf fun _ _ z => tupI_put h.hf z) (tupI_put h.hf hx), fun z hz => ?_⟩
  rcases List.mem_append.mp hz with q | q
  · exact h.ok z q
  · rw [List.mem_singleton.mp q]
    exact hg
theorem nd_le {α : Type} [BEq α] [LawfulBEq α] : ∀ {l D : List α}, l.Nodup → (∀ x ∈ l, x ∈ D) → l.length ≤ D.length
  | [], _, _, _ => Nat.zero_le _
  | x :: l, D, nd, h => by
    obtain ⟨n1, n2⟩ := List.nodup_cons.mp nd
    have hx := h x List.mem_cons_self
    have z := nd_le (l := l) (D := D.erase x) n2 fun y hy => (List.mem_erase_of_ne (show y ≠ x from fun e => n1 (by rw [← e]; exact hy))).mpr (h y (List.mem_cons_of_mem _ hy))
    rw [List.length_erase_of_mem hx] at z
    have := List.length_pos_of_mem hx
    rw [List.length_cons]
    omega
theorem lex_nd {l : List (List Int)} (h : l.Pairwise fun x y => lex x y = true) : l.Nodup := h.imp fun {a b} hab e => by
  rw [e, SrT.lex_irrefl] at hab
  cases hab
theorem pick {l : List Int} {d : Int} (d0 : 0 ≤ d) (d1 : d < (l.length : Int)) : ∃ z ∈ l, atI (l.map V.int) d = some (.int z) := by
  have hd : d.toNat < l.length := by omega
  exact ⟨_, List.getElem_mem hd, atI_int d0 (by rw [List.getElem?_map, List.getElem?_eq_getElem hd]; rfl)⟩
theorem pickT {K : PySem.W.Frag} {H : Hp} {ys : List V} {gss : List (List Int)} (p : Paired (TupI K H) ys gss) {d : Int} (d0 : 0 ≤ d) (d1 : d < (ys.length : Int)) : ∃ x g, g ∈ gss ∧ TupI K H x g ∧ atI ys d = some x := by
  have hd : d.toNat < ys.length := by omega
  obtain ⟨g, hg, hI⟩ := paired_get p (List.getElem?_eq_getElem hd)
  exact ⟨_, g, List.mem_of_getElem? hg, hI, atI_int d0 (List.getElem?_eq_getElem hd)⟩
theorem ok_stack {fD cD fA cA : Addr} {fdD fdA : FuncData} (D : Def K mg "_law_stack" sStack ["_law_pen_here", "_law_most"] f fd c) (DD : Def K mg "_law_draw" sDraw ["_law_pen_here", "_law_many"] fD fdD cD) (GD : FnOk P w K mg base CX0 k fD fdD ["_law_pen_here", "_law_many"] spDraw)
    (DA : Def K mg "_law_all" sAll ["_law_n", "_law_k"] fA fdA cA) (GA : FnOk P w K mg base CX0 k fA fdA ["_law_n", "_law_k"] (spAll K Ps)) (mr : mg "range" = none) (ml : mg "len" = none) (mt : mg "tuple" = none) (ms : mg "sorted" = none) (me : mg "set" = none) (mm : mg "min" = none) :
    FnOk P w K mg base CX0 (k + 1) f fd ["_law_pen_here", "_law_most"] (spStack K Ps) := by
  refine D.ok (k := k) scStack (fun vs H Q E h => ?_) (fun A outer s H vs Q E hr h => ?_)
  · obtain ⟨a, m, rfl, _⟩ := h
    rfl
  · obtain ⟨a, m, rfl, hP, m1, m2, ht, q⟩ := h
    refine ⟨_, (pss_cons (ps_set (i := 2) scStack.nd rfl (.inl rfl) (pcl DD GD hr (pa_cons (pv 0) (pa_cons pe_int pa_nil))))
      (pss_cons (ps_set (i := 3) scStack.nd rfl (.inl rfl) (pe_ix ix_list (pe_lst (pa_cons pe_int (pa_cons pe_int (pa_cons pe_int (pa_cons pe_int (pa_cons pe_int (pa_cons pe_int (pa_cons pe_int (pa_cons pe_int pa_nil))))))))) (pcl DD GD hr (pa_cons (pv 0) (pa_cons pe_int pa_nil))) (fun _ _ => rfl)))
      (pss_cons (ps_set (i := 4) scStack.nd rfl (.inl rfl) (pe_callB (call_min2 rfl) (by rfl) mm (by decide +kernel) (pa_cons (pv 3) (pa_cons (pe_ix ix_list (pe_lst (pa_cons pe_int (pa_cons pe_int (pa_cons pe_int (pa_cons pe_int (pa_cons pe_int (pa_cons pe_int (pa_cons pe_int pa_nil)))))))) (pcl DD GD hr (pa_cons (pv 0) (pa_cons pe_int pa_nil))) (fun _ _ => rfl)) pa_nil))))
      (pss_cons (ps_set (i := 5) scStack.nd rfl (.inl rfl) (pcl DA GA hr (pa_cons (pv 3) (pa_cons (pv 4) pa_nil))))
      (pss_cons (ps_set (i := 6) scStack.nd rfl (.inl rfl) (pe_lst (pa_cons (pe_ix ix_list (pv 5) (pcl DD GD hr (pa_cons (pv 0) (pa_cons (pe_callB (call_lenS (K := K) rfl) (by rfl) ml PySem.boot_len (pa_cons (pv 5) pa_nil)) pa_nil))) (fun _ _ => rfl)) pa_nil)))
      (pss_cons (ps_for PassesOwn.never rfl (pi_range1 (by rfl) mr (pa_cons (pcl DD GD hr (pa_cons (pv 0) (pa_cons (pv 1) pa_nil))) pa_nil)) (pg_name (i := 7) scStack.nd rfl (.inl rfl))
      (pss_cons (ps_set (i := 8) scStack.nd rfl (.inr rfl) (pe_ix ix_list (pv 6) (pcl DD GD hr (pa_cons (pv 0) (pa_cons (pe_callB (call_lenS (K := K) rfl) (by rfl) ml PySem.boot_len (pa_cons (pv 6) pa_nil)) pa_nil))) (fun _ _ => rfl)))
      (pss_one (ps_if (PW.pt (pw_or (pt_cmpR op_eq (pv 2) pe_int (nomark _)) (pw_or (pt_cmpR op_eq (pv 4) pe_int (nomark _)) (pw_or1 (pt_cmpR op_eq (pv 4) (pv 3) (nomark _))))))
      (pss_one (ps_expr (pe_bm PySem.F.plainAttrs_list PySem.F.slot_list_append PySem.F.type_list_append mt_append (pv 6) (pa_cons (pe_ix ix_list (pv 5) (pcl DD GD hr (pa_cons (pv 0) (pa_cons (pe_callB (call_lenS (K := K) rfl) (by rfl) ml PySem.boot_len (pa_cons (pv 5) pa_nil)) pa_nil))) (fun _ _ => rfl)) pa_nil))))
      (pss_cons (ps_set (i := 9) scStack.nd rfl (.inr rfl) (pe_ix ix_tup (pv 8) (pcl DD GD hr (pa_cons (pv 0) (pa_cons (pv 4) pa_nil))) (fun _ _ => rfl)))
      (pss_cons (ps_setLc (i := 10) (own := [("_law_point", 13)]) (g := gName 13) (by rfl) scStack.nd rfl rfl (sw_true rfl rfl rfl (by decide +kernel)) (pi_range1 (by rfl) mr (pa_cons (pv 3) pa_nil)) (blkOk_by (N := nStack) (sc := defScope sStack) (by decide +kernel)) (fun _ _ _ _ _ => pg_name (i := 13) scStack.nd rfl (Or.inl rfl)) (fun _ _ _ _ _ => pts_one (pt_cmpR (show OpR _ _ (rIn K true) from op_notIn_seq) (pv 13) (pv 8) (by with_unfolding_all rfl))) (fun _ _ _ _ _ => pv 13))
      (pss_cons (ps_set (i := 11) scStack.nd rfl (.inl rfl) (pe_ix ix_list (pv 10) (pcl DD GD hr (pa_cons (pv 0) (pa_cons (pe_op op_sub (pv 3) (pv 4)) pa_nil))) (fun _ _ => rfl)))
      (pss_cons (ps_setLc (i := 12) (own := [("_law_point", 13)]) (g := gName 13) (by rfl) scStack.nd rfl rfl (sw_true rfl rfl rfl (by decide +kernel)) (pi_tup (pv 8)) (blkOk_by (N := nStack) (sc := defScope sStack) (by decide +kernel)) (fun _ _ _ _ _ => pg_name (i := 13) scStack.nd rfl (Or.inl rfl)) (fun _ _ _ _ _ => pts_one (pt_cmpR op_ne (pv 13) (pv 9) (nomark _))) (fun _ _ _ _ _ => pv 13))
      (pss_one (ps_expr (pe_bm PySem.F.plainAttrs_list PySem.F.slot_list_append PySem.F.type_list_append mt_append (pv 6) (pa_cons (pe_callTy call_tuple_of (by rfl) mt (by decide +kernel) (pa_cons (pe_callB cr_sortedI (by rfl) ms (by decide +kernel) (pa_cons (pe_op op_cat (pv 12) (pe_lst (pa_cons (pv 11) pa_nil))) pa_nil)) pa_nil)) pa_nil))))))))))))
      (pss_cons (ps_if (PW.pt (pw_and (pt_cmpR op_eq (pv 2) pe_int (nomark _)) (pw_and (pt_cmpR op_lt (pv 4) (pv 3) (nomark _)) (pw_and1 (pt_cmpR op_lt (pv 4) (pv 1) (nomark _)))))) (pss_one (ps_set (i := 6) scStack.nd rfl (.inl rfl) (pcl DA GA hr (pa_cons (pe_op op_add (pv 4) pe_int) (pa_cons (pv 4) pa_nil))))) pss_nil)
      (pss_one (ps_ret (pe_tup (pa_cons (pv 3) (pa_cons (pv 4) (pa_cons (pe_callTy call_tuple_of (by rfl) mt (by decide +kernel) (pa_cons (pe_callB (cr_sortS rfl hr.units) (by rfl) ms (by decide +kernel) (pa_cons (pe_callTy (cr_setOfT rfl hr.units) (by rfl) me (by decide +kernel) (pa_cons (pv 6) pa_nil)) pa_nil)) pa_nil)) pa_nil))))))))))))), ?_⟩
    -- way
    refine ⟨.ref a, rfl, a, 7, rfl, hP, by decide, by decide, fun xa fa1 way w0 w1 => ?_⟩
    have e1 : Epn Ps a H (upd H a (.lst [.int xa, .int fa1])) := Epn.draw ht hP
    generalize upd H a (.lst [.int xa, .int fa1]) = H1 at *
    -- n
    refine ⟨(by show 8 ≤ sizeLine; decide), fun ln hln => ?_⟩
    have e2 := e1.trans ((Ext.new (o := .lst [V.int 5, V.int 4, V.int 6, V.int 3, V.int 7, V.int 8, V.int 2, V.int 1]) e1.tb hln).epn e1.pen)
    have g2 : (upd H1 ln (.lst [V.int 5, V.int 4, V.int 6, V.int 3, V.int 7, V.int 8, V.int 2, V.int 1])) ln = some (.lst [V.int 5, V.int 4, V.int 6, V.int 3, V.int 7, V.int 8, V.int 2, V.int 1]) := upd_same
    have n2 : ln ≠ a := by
      obtain ⟨x, f, e⟩ := e1.pen
      exact Ne.symm (ne_of_none e hln)
    refine ⟨.ref a, rfl, a, 8, rfl, e2.pen, by decide, by decide, fun xb fb1 d d0 d1 => ?_⟩
    have e3 := Epn.draw e2.tb e2.pen (x := xb) (f := fb1)
    have g3 := e3.lst n2 g2
    have e3' := e2.trans e3
    obtain ⟨n, hn, hnat⟩ := pick (l := [5, 4, 6, 3, 7, 8, 2, 1]) d0 d1
    have hn18 : 1 ≤ n ∧ n ≤ 8 := by
      have : ∀ z ∈ ([5, 4, 6, 3, 7, 8, 2, 1] : List Int), 1 ≤ z ∧ z ≤ 8 := by decide
      exact this n hn
    refine ⟨ln, _, d, .int n, rfl, rfl, .inl (.inl g3), hnat, ?_⟩
    obtain ⟨nN, rfl⟩ := Int.eq_ofNat_of_zero_le (show 0 ≤ n by omega)
    clear hnat g3 g2 n2 e2
    generalize upd (upd H1 ln (.lst [V.int 5, V.int 4, V.int 6, V.int 3, V.int 7, V.int 8, V.int 2, V.int 1])) a (.lst [.int xb, .int fb1]) = H2 at *
    -- k
    refine ⟨.int nN, rfl, (by show 7 ≤ sizeLine; decide), fun lk hlk => ?_⟩
    have e4 := e3'.trans ((Ext.new (o := .lst [V.int 2, V.int 3, V.int 1, V.int 4, V.int 3, V.int 2, V.int 0]) e3'.tb hlk).epn e3'.pen)
    have g4 : (upd H2 lk (.lst [V.int 2, V.int 3, V.int 1, V.int 4, V.int 3, V.int 2, V.int 0])) lk = some (.lst [V.int 2, V.int 3, V.int 1, V.int 4, V.int 3, V.int 2, V.int 0]) := upd_same
    have n4 : lk ≠ a := by
      obtain ⟨x, f, e⟩ := e3'.pen
      exact Ne.symm (ne_of_none e hlk)
    refine ⟨.ref a, rfl, a, 7, rfl, e4.pen, by decide, by decide, fun xc fc1 u u0 u1 => ?_⟩
    have e5 := Epn.draw e4.tb e4.pen (x := xc) (f := fc1)
    have g5 := e5.lst n4 g4
    have e5' := e4.trans e5
    obtain ⟨kz, hk, hkat⟩ := pick (l := [2, 3, 1, 4, 3, 2, 0]) u0 u1
    have hk04 : 0 ≤ kz ∧ kz ≤ 4 := by
      have : ∀ z ∈ ([2, 3, 1, 4, 3, 2, 0] : List Int), 0 ≤ z ∧ z ≤ 4 := by decide
      exact this kz hk
    refine ⟨lk, _, u, .int kz, rfl, rfl, .inl (.inl g5), hkat, (nN : Int), kz, rfl, ?_⟩
    obtain ⟨kN, hkN⟩ := Int.eq_ofNat_of_zero_le (show 0 ≤ (if kz < (nN : Int) then kz else (nN : Int)) by split <;> omega)
    have hkle : kN ≤ nN ∧ kN ≤ 4 := by
      have h1 : (if kz < (nN : Int) then kz else (nN : Int)) ≤ nN := by split <;> omega
      have h2 : (if kz < (nN : Int) then kz else (nN : Int)) ≤ 4 := by split <;> omega
      omega
    rw [hkN]
    clear hkat g5 g4 n4 e4 hkN hk
    generalize upd (upd H2 lk (.lst [V.int 2, V.int 3, V.int 1, V.int 4, V.int 3, V.int 2, V.int 0])) a (.lst [.int xc, .int fc1]) = H3 at *
    -- every
    refine ⟨.int nN, rfl, .int kN, rfl, nN, kN, rfl, by omega, by omega, e5'.tb, fun ev es H4 x4 nev hev hes => ?_⟩
    have E4 := e5'.trans (x4.epn e5'.pen)
    have nea : ev ≠ a := by
      intro z
      obtain ⟨x, f, e⟩ := e5'.pen
      rw [z] at nev
      rw [nev] at e
      cases e
    have hesl : es.length ≤ 256 := by
      rw [Paired.length hes]
      exact Nat.le_trans (allF_len nN kN) (Nat.pow_le_pow_right (by omega) (show nN ≤ 8 by omega))
    have hes0 : 0 < es.length := by
      rw [Paired.length hes]
      exact allF_ne hkle.1
    have okF : ∀ g ∈ allF nN kN, RisB nN g ∧ g.length = kN := fun g hg => mem_allF.mp hg
    -- faces
    refine ⟨.ref ev, rfl, .ref a, rfl, .ref ev, rfl, ev, _, rfl, .inl (.inl (.inl hev)), a, _, rfl, E4.pen, by omega, by omega, fun xd fd1 v v0 v1 => ?_⟩
    have e6 := Epn.draw E4.tb E4.pen (x := xd) (f := fd1)
    have hev6 := e6.lst nea hev
    have hes6 := e6.tups hes
    obtain ⟨x0, g0, hg0, hI0, hat0⟩ := pickT hes6 v0 v1
    refine ⟨ev, es, v, x0, rfl, rfl, .inl (.inl hev6), hat0, (by show 1 ≤ sizeLine; decide), fun fa nfa => ?_⟩
    have E6 := E4.trans e6
    have e7 := Ext.new (o := .lst [x0]) E6.tb nfa
    have F0 : Fc K Ps a nN kN H _ ev fa es [x0] [g0] := ⟨E6.trans (e7.epn E6.pen), e7.lst hev6, upd_same, e5'.free nev, E6.free nfa, ne_of_none hev6 nfa, e7.tups hes6, .cons (e7.tupI hI0) .nil, fun g hg => by rw [List.mem_singleton.mp hg]; exact okF g0 hg0⟩
    clear hat0 hev6 hes6
    generalize upd (upd H4 a (.lst [.int xd, .int fd1])) fa (.lst [x0]) = H5 at *
    -- the loop
    refine ⟨.ref a, rfl, .int m, rfl, a, m, rfl, F0.ext.pen, m1, by omega, fun xe fe1 tn tn0 tn1 => ⟨tn, rfl, by omega, by omega, ?_⟩⟩
    have F1 := F0.move (Epn.draw F0.ext.tb F0.ext.pen (x := xe) (f := fe1))
    generalize upd H5 a (.lst [.int xe, .int fe1]) = H6 at *
    refine for_range (lo := 0) (n := tn.toNat) (fun i σ HX => ∃ (ys : List V) (gss : List (List Int)) (y7 y8 y9 y10 y11 y12 y13 : Option V), Fc K Ps a nN kN H HX ev fa es ys gss ∧ ys.length = i + 1 ∧ σ = [some (.ref a), some (.int m), some (.int way), some (.int nN), some (.int kN), some (.ref ev), some (.ref fa), y7, y8, y9, y10, y11, y12, y13])
      ⟨[x0], [g0], none, none, none, none, none, none, none, F1, rfl, rfl⟩ (fun i σ HX hi p => ?_) (fun σ HX p => ?_)
    · obtain ⟨ys, gss, y7, y8, y9, y10, y11, y12, y13, F, hyl, rfl⟩ := p
      have hi' : i < tn.toNat := hi
      refine ⟨.ref fa, rfl, .ref a, rfl, .ref fa, rfl, fa, _, rfl, .inl (.inl (.inl F.hf)), a, _, rfl, F.ext.pen, by omega, by omega, fun xf ff d d0 d1 => ?_⟩
      have F2 := F.move (Epn.draw F.ext.tb F.ext.pen (x := xf) (f := ff))
      generalize upd HX a (.lst [.int xf, .int ff]) = HY at *
      obtain ⟨x, g, hg, hI, hat⟩ := pickT F2.pf d0 d1
      obtain ⟨hgR, hgL⟩ := F2.ok g hg
      refine ⟨fa, ys, d, x, rfl, rfl, .inl (.inl F2.hf), hat, ?_⟩
      refine ⟨.int way, rfl, rfl, _, rfl, ite2 (fun e1 => iteT ?_) (fun e1 => ⟨.int kN, rfl, rfl, _, rfl, ite2 (fun e2 => iteT ?_) (fun e2 => ⟨.int kN, rfl, .int nN, rfl, rfl, _, rfl, ite2 (fun e3 => ?_) (fun e3 => ?_)⟩)⟩)⟩
      rotate_left 3
      · have hk1 : 1 ≤ kN := by
          have z : ¬ (V.int (kN : Int) = V.int 0) := fun z => e2 (decide_eq_true z)
          have z2 : kN ≠ 0 := fun q => z (by rw [q]; rfl)
          omega
        have hkn : kN < nN := by
          have z : ¬ (V.int (kN : Int) = V.int (nN : Int)) := fun z => e3 (decide_eq_true z)
          have z2 : kN ≠ nN := fun q => z (by rw [q])
          omega
        obtain ⟨t, rfl, hT⟩ := id hI
        -- out
        refine ⟨.ref t, rfl, .ref a, rfl, .int kN, rfl, a, _, rfl, F2.ext.pen, by omega, by omega, fun xg fg v v0 v1 => ?_⟩
        have m3 := Epn.draw F2.ext.tb F2.ext.pen (x := xg) (f := fg)
        have F3 := F2.move m3
        have hT3 := m3.sqT hT
        generalize upd HY a (.lst [.int xg, .int fg]) = HZ at *
        obtain ⟨o, ho, hoat⟩ := pick (l := g) v0 (by omega)
        refine ⟨t, _, v, .int o, rfl, rfl, hT3, hoat, ?_⟩
        -- others
        refine ⟨.int nN, rfl, (nN : Int), rfl, by omega, by omega, fun D0 hD => lc_range (lo := 0) (n := ((nN : Int)).toNat) (fun j HW => CP Ps FI HZ D0 ((rng j).filter fun p => !decide (p ∈ g)) j HW) (CP.start F3.ext.tb hD) (fun j HW hj p => ?_) (fun HW p => ?_)⟩
        · have hj' : j < ((nN : Int)).toNat := hj
          refine ⟨rfl, .int (0 + j), rfl, .ref t, rfl, t, _, rfl, .inr (p.ext.sqT hT3), rfl, flat_ints g, _, rfl, ?_⟩
          show if (!inV (.int (0 + (j : Int))) (g.map V.int)) = true then _ else _
          rw [inV_ints, Int.zero_add]
          have hft : (rng (j + 1)).filter (fun p => !decide (p ∈ g)) = (rng j).filter (fun p => !decide (p ∈ g)) ++ (if (!decide ((j : Int) ∈ g)) = true then [(j : Int)] else []) := by
            unfold rng
            rw [List.range_succ, List.map_append, List.filter_append]
            cases hp : decide ((j : Int) ∈ g) <;> simp [hp]
          refine ite2 (fun hc => ?_) (fun hc => ?_)
          · have r := CP.put (stbI (K := K)) hD (by omega) p (show FI HW (.int (j : Int)) j from rfl)
            rw [hft, if_pos hc]
            exact ⟨.int j, rfl, r⟩
          · rw [hft, if_neg hc, List.append_nil]
            exact p.mono (Nat.le_succ j)
        obtain ⟨os, o1, o2, o3⟩ := p.at_
        rw [Int.toNat_natCast] at o2
        rw [paired_ints o2] at o1
        have F4 := F3.move (p.ext.epn F3.ext.pen)
        have hT4 := p.ext.sqT hT3
        have nDa : D0 ≠ a := by
          obtain ⟨xx, f, e⟩ := F3.ext.pen
          exact Ne.symm (ne_of_none e hD)
        have olen : ((rng nN).filter fun p => !decide (p ∈ g)).length = nN - kN := by rw [others_len hgR, hgL]
        -- into
        refine ⟨.ref D0, rfl, .ref a, rfl, .int nN, rfl, .int kN, rfl, (nN : Int), (kN : Int), rfl, rfl, a, _, rfl, F4.ext.pen, by omega, by omega, fun xh fh z z0 z1 => ?_⟩
        have m5 := Epn.draw F4.ext.tb F4.ext.pen (x := xh) (f := fh)
        have F5 := F4.move m5
        have hT5 := m5.sqT hT4
        have o5 := m5.lst nDa o1
        generalize upd HW a (.lst [.int xh, .int fh]) = HV at *
        obtain ⟨io, hio, hioat⟩ := pick (l := (rng nN).filter fun p => !decide (p ∈ g)) z0 (by omega)
        obtain ⟨hio1, hio2⟩ := List.mem_filter.mp hio
        have hnot : io ∉ g := by simpa using hio2
        obtain ⟨io0, ioN⟩ := mem_rng hio1
        refine ⟨D0, _, z, .int io, rfl, rfl, .inl (.inl o5), hioat, ?_⟩
        -- rest
        refine ⟨.ref t, rfl, t, rfl, ⟨_, hT5⟩, fun D1 hD1 => lc_tup (K := K) (a := t) (xs := g.map V.int) (fun j HU => CP Ps FI HV D1 ((g.take j).filter fun p => !decide (p = o)) j HU) (CP.start F5.ext.tb hD1) (fun j HU _ p => p.ext.sqT hT5) (fun j yv HU hyv p => ?_) (fun HU p => ?_)⟩
        · obtain ⟨y, hy, rfl⟩ := map_int hyv
          have hj : j < g.length := (List.getElem?_eq_some_iff.mp hy).1
          refine ⟨rfl, .int y, rfl, .int o, rfl, rfl, _, rfl, ?_⟩
          have hft := filt_take (fun p : Int => !decide (p = o)) hy
          have ed : decide (V.int y = V.int o) = decide (y = o) := by
            by_cases q : y = o
            · rw [q]
              simp
            · have q' : ¬ V.int y = V.int o := fun z => q (V.int.inj z)
              simp [q]
          rw [ed]
          refine ite2 (fun hc => ?_) (fun hc => ?_)
          · have r := CP.put (stbI (K := K)) hD1 (by omega) p (show FI HU (.int y) y from rfl)
            rw [hft, if_pos hc]
            exact ⟨.int y, rfl, r⟩
          · rw [hft, if_neg hc, List.append_nil]
            exact p.mono (Nat.le_succ j)
        obtain ⟨rs, r1, r2, r3⟩ := p.at_
        rw [List.length_map, List.take_length] at r2
        rw [paired_ints r2] at r1
        have F6 := F5.move (p.ext.epn F5.ext.pen)
        -- append
        refine ⟨.ref fa, rfl, .inl ⟨rfl, _, .inl (.inl F6.hf)⟩, .ref D1, rfl, .int io, rfl, (by show 1 ≤ sizeLine; decide), fun l1 hl1 => ?_⟩
        have x7 := Ext.new (o := .lst [.int io]) F6.ext.tb hl1
        have hrl := rest_len hgR.nd ho
        refine ⟨D1, l1, _, _, rfl, rfl, x7.lst r1, upd_same, ?_, fun l2 hl2 => ?_⟩
        · rw [List.length_map, List.length_singleton]
          exact Nat.le_of_lt (small1000 (by omega))
        have x8 := Ext.new (o := .lst (((g.filter fun p => !decide (p = o)).map V.int) ++ [.int io])) x7.tb hl2
        refine ⟨l2, (g.filter fun p => !decide (p = o)) ++ [io], rfl, ?_, fun ns l3 pm sr hl3 => ?_⟩
        · rw [List.map_append]
          exact .inl (.inl upd_same)
        have x9 := Ext.new (o := .lst (ns.map V.int)) x8.tb hl3
        refine ⟨l3, _, rfl, .inl ⟨.inl (.inl upd_same), fun t2 ht2 => ?_⟩⟩
        have x10 := Ext.new (o := .tup (ns.map V.int)) x9.tb ht2
        have F7 := F6.move ((x7.trans (x8.trans (x9.trans x10))).epn F6.ext.pen)
        refine ⟨fa, ys, .ref t2, rfl, rfl, F7.hf, small1000 (by omega), ?_⟩
        have hnew := swap_ok hgR ho hnot io0 ioN pm sr
        refine ⟨ys ++ [.ref t2], gss ++ [ns], _, _, _, _, _, _, _, F7.put ⟨t2, rfl, .inl (.inl upd_same)⟩ ⟨hnew.1, by rw [hnew.2]; exact hgL⟩, by simp [hyl], rfl⟩
      all_goals
        refine ⟨.ref fa, rfl, .inl ⟨rfl, _, .inl (.inl F2.hf)⟩, .ref ev, rfl, .ref a, rfl, .ref ev, rfl, ev, _, rfl, .inl (.inl (.inl F2.he)), a, _, rfl, F2.ext.pen, by omega, by omega, fun xg fg v v0 v1 => ?_⟩
        have F3 := F2.move (Epn.draw F2.ext.tb F2.ext.pen (x := xg) (f := fg))
        generalize upd HY a (.lst [.int xg, .int fg]) = HZ at *
        obtain ⟨x2, g2, hg2, hI2, hat2⟩ := pickT F3.pe v0 v1
        refine ⟨ev, es, v, x2, rfl, rfl, .inl (.inl F3.he), hat2, fa, ys, x2, rfl, rfl, F3.hf, small1000 (by omega), ?_⟩
        exact ⟨ys ++ [x2], gss ++ [g2], _, _, _, _, _, _, _, F3.put hI2 (okF g2 hg2), by simp [hyl], rfl⟩
    · obtain ⟨ys, gss, y7, y8, y9, y10, y11, y12, y13, F, hyl, rfl⟩ := p
      -- what is told of any faces
      have fin : ∀ (HX : Hp) (fb : Addr) (ys : List V) (gss : List (List Int)), Epn Ps a H HX → HX fb = some (.lst ys) → Paired (TupI K HX) ys gss → (∀ g ∈ gss, RisB nN g ∧ g.length = kN) → 1 ≤ ys.length → ys.length ≤ 40 →
          ∃ (l : Addr) (ks : List (Addr × List Int)), [V.ref fb] = [V.ref l] ∧ SqL K HX l (ks.map fun p => V.ref p.1) ∧ (∀ p ∈ ks, SqT K HX p.1 (p.2.map V.int)) ∧ ks.length < 64 ∧ ∀ (sa : Addr) (L : List (Addr × List Int)), HX sa = none → (∀ p ∈ L, p ∈ ks) → (∀ p ∈ ks, p.2 ∈ L.map (·.2)) →
            ∃ (sb : Addr) (L' : List (Addr × List Int)), [V.ref sa] = [V.ref sb] ∧ (upd HX sa (SetTO P w sa L)) sb = some (SetTO P w sb L') ∧ (∀ p ∈ L', SqT K (upd HX sa (SetTO P w sa L)) p.1 (p.2.map V.int)) ∧ ∀ (zs : List V) (hss : List (List Int)) (p : Addr), Paired (TupI K (upd HX sa (SetTO P w sa L))) zs hss → hss.Pairwise (fun x y => lex x y = true) → (∀ z, z ∈ hss ↔ z ∈ L'.map (·.2)) → zs.length < 64 → (upd HX sa (SetTO P w sa L)) p = none →
              ∃ (p2 : Addr) (us : List V), [V.ref p] = [V.ref p2] ∧ ((SqL K (upd (upd HX sa (SetTO P w sa L)) p (.lst zs)) p2 us ∧ ∀ l3, (upd (upd HX sa (SetTO P w sa L)) p (.lst zs)) l3 = none → [V.int nN, .int kN, .ref l3].length ≤ sizeLine ∧ ∀ l4, (upd (upd (upd HX sa (SetTO P w sa L)) p (.lst zs)) l3 (.tup us)) l4 = none → Q (.ref l4) (upd (upd (upd (upd HX sa (SetTO P w sa L)) p (.lst zs)) l3 (.tup us)) l4 (.tup [.int nN, .int kN, .ref l3]))) ∨
                (SqT K (upd (upd HX sa (SetTO P w sa L)) p (.lst zs)) p2 us ∧ [V.int nN, .int kN, .ref p2].length ≤ sizeLine ∧ ∀ l4, (upd (upd HX sa (SetTO P w sa L)) p (.lst zs)) l4 = none → Q (.ref l4) (upd (upd (upd HX sa (SetTO P w sa L)) p (.lst zs)) l4 (.tup [.int nN, .int kN, .ref p2])))) := by
        intro HX fb ys gss EX hfb hp hok l1 l40
        obtain ⟨ks, rfl, k2, k3⟩ := keys_at hp
        refine ⟨fb, ks, rfl, .inl (.inl hfb), k3, by have := l40; simp only [List.length_map] at this; omega, fun sa L nsa hL1 hL2 => ?_⟩
        have y1 := Ext.new (o := SetTO P w sa L) EX.tb nsa
        refine ⟨sa, L, rfl, upd_same, fun p hp2 => y1.sqT (k3 p (hL1 p hp2)), fun zs hss p hz hss1 hss2 hzl np => ?_⟩
        have y2 := Ext.new (o := .lst zs) y1.tb np
        refine ⟨p, zs, rfl, .inl ⟨.inl (.inl upd_same), fun l3 nl3 => ⟨(by show 3 ≤ sizeLine; decide), fun l4 nl4 => ?_⟩⟩⟩
        have y3 := Ext.new (o := .tup zs) y2.tb nl3
        have y4 := Ext.new (o := .tup [.int nN, .int kN, .ref l3]) y3.tb nl4
        have memz : ∀ z, z ∈ hss → RisB nN z ∧ z.length = kN := fun z hz2 => by
          obtain ⟨q1, hq1, rfl⟩ := List.mem_map.mp ((hss2 z).mp hz2)
          refine hok _ ?_
          rw [← k2]
          exact List.mem_map.mpr ⟨q1, hL1 q1 hq1, rfl⟩
        have hssl : 1 ≤ hss.length := by
          cases ks with
          | nil => simp at l1
          | cons q1 ks =>
            have := (hss2 q1.2).mpr (hL2 q1 List.mem_cons_self)
            exact List.length_pos_of_mem this
        refine q (.ref l4) (nN : Int) (kN : Int) hss _ (EX.trans ((y1.trans (y2.trans (y3.trans y4))).epn EX.pen)) ⟨l4, l3, zs, rfl, .inl (.inl upd_same), ?_, (y2.trans (y3.trans y4)).tups hz⟩
          ⟨by omega, by omega, by omega, by omega, by omega, hssl, by rw [← Paired.length hz]; omega, fun z hz2 => by rw [(memz z hz2).2], fun z hz2 => (memz z hz2).1.1, fun z hz2 => (memz z hz2).1.2, hss1⟩ ?_
        · exact y4.sqT (.inl (.inl upd_same))
        · have z1 := nd_le (lex_nd hss1) (D := ks.map (·.2)) fun z hz2 => by
            obtain ⟨q1, hq1, e1⟩ := List.mem_map.mp ((hss2 z).mp hz2)
            exact List.mem_map.mpr ⟨q1, hL1 q1 hq1, e1⟩
          simp only [List.length_map] at z1 l40
          omega
      refine ⟨.int way, rfl, rfl, _, rfl, ite2 (fun e1 => ⟨.int kN, rfl, .int nN, rfl, (kN : Int), (nN : Int), rfl, rfl, _, rfl, ite2 (fun e2 => ⟨.int kN, rfl, .int m, rfl, (kN : Int), m, rfl, rfl, _, rfl, ite2 (fun e3 => ?_) (fun e3 => ?_)⟩) (fun e2 => iteF ?_)⟩) (fun e1 => iteF ?_)⟩
      · have e2' : (kN : Int) < (nN : Int) := of_decide_eq_true e2
        refine ⟨.int kN, rfl, (kN : Int), 1, rfl, rfl, .int kN, rfl, kN + 1, kN, by simp, by omega, by omega, F.ext.tb, fun fb zs HZ xZ nfb hfb hzp => ?_⟩
        have hzl := Paired.length hzp
        have h32 : (allF (kN + 1) kN).length ≤ 2 ^ 5 := Nat.le_trans (allF_len _ _) (Nat.pow_le_pow_right (by omega) (by omega))
        have hpos := allF_ne (n := kN + 1) (k := kN) (by omega)
        exact ⟨.int nN, rfl, .int kN, rfl, .ref fb, rfl, fin HZ fb zs _ (F.ext.trans (xZ.epn F.ext.pen)) hfb hzp (fun g hg => let z := mem_allF.mp hg; ⟨z.1.mono (by omega), z.2⟩) (by omega) (by omega)⟩
      all_goals exact ⟨.int nN, rfl, .int kN, rfl, .ref fa, rfl, fin HX fa ys gss F.ext F.hf F.pf F.ok (by omega) (by omega)⟩
end
end Lf

set_option maxHeartbeats 2000000
namespace Lf
open PySem PySem.Spec PyProof.Rows L2 GxR GxA SrT RZ
/-! ### data that stand in the heap -/
section
variable {K : PySem.W.Frag} {Ps : Tbs} {H H' : Hp}
mutual
theorem Ext.dp (e : Ext Ps H H') : ∀ {d : PyData} {x : V}, Dp K H x d → Dp K H' x d
  | .none, _, h => by cases h; exact .non
  | .bool b, _, h => by cases h; exact .bl b
  | .int i, _, h => by cases h; exact .int i
  | .str y, _, h => by cases h; exact .str y
  | .list ds, _, h => by
    cases h with
    | lst hs ha => exact .lst (e.sqL hs) (Ext.dpAll e ha)
  | .tuple ds, _, h => by
    cases h with
    | tup hs ha => exact .tup (e.sqT hs) (Ext.dpAll e ha)
  | .dict _, _, h => nomatch h
theorem Ext.dpAll (e : Ext Ps H H') : ∀ {ds : List PyData} {xs : List V}, DpAll K H xs ds → DpAll K H' xs ds
  | [], _, h => by cases h; exact .nil
  | d :: ds, _, h => by
    cases h with
    | cons h1 h2 => exact .cons (Ext.dp e h1) (Ext.dpAll e h2)
end
theorem dpAll_len : ∀ {ds : List PyData} {xs : List V}, DpAll K H xs ds → xs.length = ds.length
  | [], _, h => by cases h; rfl
  | d :: ds, _, h => by
    cases h with
    | cons h1 h2 => rw [List.length_cons, List.length_cons, dpAll_len h2]
theorem dpAll_get : ∀ {ds : List PyData} {xs : List V} {i : Nat} {x : V}, DpAll K H xs ds → xs[i]? = some x → ∃ d, ds[i]? = some d ∧ Dp K H x d
  | [], _, i, x, h, e => by
    cases h
    simp at e
  | d :: ds, _, 0, x, h, e => by
    cases h with
    | cons h1 h2 =>
      cases e
      exact ⟨d, rfl, h1⟩
  | d :: ds, _, i + 1, x, h, e => by
    cases h with
    | cons h1 h2 =>
      obtain ⟨d', q1, q2⟩ := dpAll_get (i := i) (x := x) h2 (by simpa using e)
      exact ⟨d', by simpa using q1, q2⟩
/-- the type's name -/
def tyN : PyData → String
  | .none => "NoneType"
  | .bool _ => "bool"
  | .int _ => "int"
  | .str _ => "str"
  | .list _ => "list"
  | .tuple _ => "tuple"
  | .dict _ => "dict"
theorem ty_lst {a : Addr} {xs : List V} (h : SqL K H a xs) : TyX K H (.ref a) (.type "list") := by
  rcases h with (h | ⟨o, h⟩) | ⟨o, _, _, h, h2, _⟩
  · exact .base (.lst h)
  · exact .base (.frz h)
  · exact .kList h h2
theorem dp_ty {x : V} {d : PyData} (h : Dp K H x d) : TyX K H x (.type (tyN d)) := by
  cases h with
  | non => exact .base .non
  | bl b => exact .base (.bl b)
  | int i => exact .base (.int i)
  | str y => exact .base (.str y)
  | lst hs ha => exact ty_lst hs
  | tup hs ha => exact ty_tup hs
end
def FBl : Hp → V → Bool → Prop := fun _ x b => x = .bl b
theorem stbB {K : PySem.W.Frag} {Ps : Tbs} : Stb K Ps FBl := ⟨fun _ _ _ _ _ h => h, fun _ _ _ _ _ _ _ h => h⟩
theorem paired_bls {H : Hp} : ∀ {ys : List V} {bs : List Bool}, Paired (FBl H) ys bs → ys = bs.map V.bl
  | _, _, .nil => rfl
  | _, _, .cons r t => by
    rw [List.map_cons, ← paired_bls t, show _ = V.bl _ from r]
/-- [.. for x, y in zip(two lists)] -/
theorem lc_zipL {K : PySem.W.Frag} {a b : Addr} {xs ys : List V} {g : TG} {tt : TT} {te : TE} {vs : List Nat} {σ : L2.St} {H1 : Hp} {D : Addr} {Qd : Hp → Prop} (hl : xs.length = ys.length) (Pv : Nat → Hp → Prop) (h0 : Pv 0 (upd H1 D (.lst []))) (hq : ∀ i H, Pv i H → SqL K H a xs ∧ SqL K H b ys)
    (hs : ∀ i x y H T, xs[i]? = some x → ys[i]? = some y → Pv i H → H T = none → g (.ref T) (wipe σ vs) (upd H T (.tup [x, y])) fun σ2 H2 => wipe σ2 vs = wipe σ vs ∧ tt σ2 H2 fun b H3 =>
      if b = true then te σ2 H3 fun y H4 => ∃ acc, H4 D = some (.lst acc) ∧ acc.length < sizeLine ∧ Pv (i + 1) (upd H4 D (.lst (acc ++ [y]))) else Pv (i + 1) H3) (hd : ∀ H, Pv xs.length H → Qd H) :
    ∃ W : Nat → Nat → Hp → Prop, (∃ m, W 0 m (upd H1 D (.lst []))) ∧ ∀ i m H, W i m H →
      ((Itz K a b).stop i H ∧ Qd H) ∨ ((Itz K a b).go i H ∧ ∃ Nx : Hp → Prop, (∀ H', Nx H' → ∃ m', m' < m ∧ W (i + 1) m' H') ∧ ∀ x H', (Itz K a b).yld i H x H' → g x (wipe σ vs) H' fun σ2 H2 => wipe σ2 vs = wipe σ vs ∧ tt σ2 H2 fun b H3 =>
        if b = true then te σ2 H3 fun y H4 => ∃ acc, H4 D = some (.lst acc) ∧ acc.length < sizeLine ∧ Nx (upd H4 D (.lst (acc ++ [y]))) else Nx H3) := by
  refine ⟨fun i m H => m = xs.length - i ∧ i ≤ xs.length ∧ Pv i H, ⟨xs.length, by simp, Nat.zero_le _, h0⟩, ?_⟩
  rintro i m H ⟨rfl, hi, p⟩
  obtain ⟨q1, q2⟩ := hq i H p
  by_cases hlt : i < xs.length
  · have hlt2 : i < ys.length := by omega
    refine .inr ⟨⟨xs, ys, xs[i], ys[i], q1, q2, List.getElem?_eq_getElem hlt, List.getElem?_eq_getElem hlt2⟩, Pv (i + 1), fun H' p' => ⟨xs.length - (i + 1), by omega, rfl, hlt, p'⟩, fun x H' y => ?_⟩
    obtain ⟨T, z, u, rfl, hT, rfl, hz, hu⟩ := y
    exact hs i z u H T (hz xs q1) (hu ys q2) p hT
  · have e : i = xs.length := by omega
    subst e
    exact .inl ⟨⟨xs, ys, q1, q2, .inl (Nat.le_refl _)⟩, hd H p⟩
theorem lc_zipT {K : PySem.W.Frag} {a b : Addr} {xs ys : List V} {g : TG} {tt : TT} {te : TE} {vs : List Nat} {σ : L2.St} {H1 : Hp} {D : Addr} {Qd : Hp → Prop} (hl : xs.length = ys.length) (Pv : Nat → Hp → Prop) (h0 : Pv 0 (upd H1 D (.lst []))) (hq : ∀ i H, Pv i H → SqT K H a xs ∧ SqT K H b ys)
    (hs : ∀ i x y H T, xs[i]? = some x → ys[i]? = some y → Pv i H → H T = none → g (.ref T) (wipe σ vs) (upd H T (.tup [x, y])) fun σ2 H2 => wipe σ2 vs = wipe σ vs ∧ tt σ2 H2 fun b H3 =>
      if b = true then te σ2 H3 fun y H4 => ∃ acc, H4 D = some (.lst acc) ∧ acc.length < sizeLine ∧ Pv (i + 1) (upd H4 D (.lst (acc ++ [y]))) else Pv (i + 1) H3) (hd : ∀ H, Pv xs.length H → Qd H) :
    ∃ W : Nat → Nat → Hp → Prop, (∃ m, W 0 m (upd H1 D (.lst []))) ∧ ∀ i m H, W i m H →
      ((ItzT K a b).stop i H ∧ Qd H) ∨ ((ItzT K a b).go i H ∧ ∃ Nx : Hp → Prop, (∀ H', Nx H' → ∃ m', m' < m ∧ W (i + 1) m' H') ∧ ∀ x H', (ItzT K a b).yld i H x H' → g x (wipe σ vs) H' fun σ2 H2 => wipe σ2 vs = wipe σ vs ∧ tt σ2 H2 fun b H3 =>
        if b = true then te σ2 H3 fun y H4 => ∃ acc, H4 D = some (.lst acc) ∧ acc.length < sizeLine ∧ Nx (upd H4 D (.lst (acc ++ [y]))) else Nx H3) := by
  refine ⟨fun i m H => m = xs.length - i ∧ i ≤ xs.length ∧ Pv i H, ⟨xs.length, by simp, Nat.zero_le _, h0⟩, ?_⟩
  rintro i m H ⟨rfl, hi, p⟩
  obtain ⟨q1, q2⟩ := hq i H p
  by_cases hlt : i < xs.length
  · have hlt2 : i < ys.length := by omega
    refine .inr ⟨⟨xs, ys, xs[i], ys[i], q1, q2, List.getElem?_eq_getElem hlt, List.getElem?_eq_getElem hlt2⟩, Pv (i + 1), fun H' p' => ⟨xs.length - (i + 1), by omega, rfl, hlt, p'⟩, fun x H' y => ?_⟩
    obtain ⟨T, z, u, rfl, hT, rfl, hz, hu⟩ := y
    exact hs i z u H T (hz xs q1) (hu ys q2) p hT
  · have e : i = xs.length := by omega
    subst e
    exact .inl ⟨⟨xs, ys, q1, q2, .inl (Nat.le_refl _)⟩, hd H p⟩
end Lf

set_option maxHeartbeats 4000000
namespace Lf
open PySem PySem.Spec PyProof.Rows L2 GxR GxA SrT RZ
abbrev sSame : Stmt := topS 37
abbrev nSame : List Str := ["_law_found", "_law_due", "_law_one", "_law_other"]
theorem scSame : FnScope nSame ["_law_found", "_law_due"] (defScope sSame) := ⟨rfl, rfl, rfl, by decide +kernel, rfl, by decide +kernel, by decide +kernel⟩
theorem lay_mem : ∀ {ds : List PyData} {d : PyData}, PyData.canLayAll0 ds = true → d ∈ ds → d.canLay0 = true
  | e :: ds, d, h, hd => by
    rw [PyData.canLayAll0, Bool.and_eq_true] at h
    rcases List.mem_cons.mp hd with q | q
    · rw [q]
      exact h.1
    · exact lay_mem h.2 q
theorem dep_mem : ∀ {ds : List PyData} {d : PyData}, d ∈ ds → d.depth ≤ PyData.depthAll ds
  | e :: ds, d, hd => by
    rw [PyData.depthAll]
    rcases List.mem_cons.mp hd with q | q
    · rw [q]
      exact Nat.le_max_left _ _
    · exact Nat.le_trans (dep_mem q) (Nat.le_max_right _ _)
mutual
/-- no list and no tuple of more than a thousand -/
def wide : PyData → Bool
  | .list ds => decide (ds.length ≤ 1000) && wideAll ds
  | .tuple ds => decide (ds.length ≤ 1000) && wideAll ds
  | .dict _ => true
  | .none => true
  | .bool _ => true
  | .int _ => true
  | .str _ => true
def wideAll : List PyData → Bool
  | [] => true
  | d :: ds => wide d && wideAll ds
end
theorem wideAll_mem : ∀ {ds : List PyData} {d : PyData}, wideAll ds = true → d ∈ ds → wide d = true
  | e :: ds, d, h, hd => by
    rw [wideAll, Bool.and_eq_true] at h
    rcases List.mem_cons.mp hd with q | q
    · rw [q]
      exact h.1
    · exact wideAll_mem h.2 q
/-- isinstance of data, by the type's name -/
theorem isi_b {K : PySem.W.Frag} {b : String} {d : PyData} {r : Bool} (h : kitB (tyN d) b = some r) : PySem.W.kitOne K (.type (tyN d)) (.type b) = some r := kit_ty h
section
variable {P : Program} {w : World} {K : PySem.W.Frag} {mg : Str → Option Value} {base : Heap} {Ps : Tbs} {H H' H0 : Hp} {f c : Addr} {fd : FuncData}
/-- the same data are told to be the same -/
def spSame (K : PySem.W.Frag) (Ps : Tbs) : Nat → Sp
  | 0 => fun _ _ _ _ => False
  | m + 1 => fun vs H Q _ => ∃ (x y : V) (d : PyData), vs = [x, y] ∧ Dp K H x d ∧ Dp K H y d ∧ d.canLay0 = true ∧ wide d = true ∧ d.depth ≤ m ∧ m ≤ 60 ∧ Tb Ps H ∧ ∀ H', Ext Ps H H' → Q (.bl true) H'
theorem same_step {m : Nat} (D : Def K mg "_law_same" sSame ["_law_found", "_law_due"] f fd c) (GS : FnOk P w K mg base CX0 m f fd ["_law_found", "_law_due"] (spSame K Ps m)) (mi : mg "isinstance" = none) (mL : mg "list" = none) (mT : mg "tuple" = none) (mS : mg "str" = none) (mB : mg "bool" = none) (mI : mg "int" = none)
    (ml : mg "len" = none) (ma : mg "all" = none) (mz : mg "zip" = none) : FnOk P w K mg base CX0 (m + 1) f fd ["_law_found", "_law_due"] (spSame K Ps (m + 1)) := by
  refine D.ok (k := m) scSame (fun vs H Q E h => ?_) (fun A outer s H vs Q E hr h => ?_)
  · obtain ⟨x, y, d, rfl, _⟩ := h
    rfl
  · obtain ⟨x, y, d, rfl, hx, hy, hL, hW, hd, hm, ht, q⟩ := h
    refine ⟨_, (pss_cons (ps_if (pt_cmpR op_isN (pv 1) pe_non (nomark _)) (pss_one (ps_ret (pe_cmpR op_isN (pv 0) pe_non (nomark _)))) pss_nil) (pss_cons (ps_if (pt_val (pe_callB call_isiT (by rfl) mi (by decide +kernel) (pa_cons (pv 1) (pa_cons (pe_tup (pa_cons (pe_bltn (v := .ty "list") (by rfl) mL (by decide +kernel) rfl) (pa_cons (pe_bltn (v := .ty "tuple") (by rfl) mT (by decide +kernel) rfl) pa_nil))) pa_nil)))) (pss_cons (ps_if (pt_cmpR op_ne (pe_callB call_isi (by rfl) mi (by decide +kernel) (pa_cons (pv 1) (pa_cons (pe_bltn (v := .ty "list") (by rfl) mL (by decide +kernel) rfl) pa_nil))) (pe_callB call_isi (by rfl) mi (by decide +kernel) (pa_cons (pv 0) (pa_cons (pe_bltn (v := .ty "list") (by rfl) mL (by decide +kernel) rfl) pa_nil))) (nomark _)) (pss_one (ps_ret pe_bl)) pss_nil) (pss_cons (ps_if (PW.pt (pw_or (pt_cmpR op_ne (pe_callB call_isi (by rfl) mi (by decide +kernel) (pa_cons (pv 1) (pa_cons (pe_bltn (v := .ty "tuple") (by rfl) mT (by decide +kernel) rfl) pa_nil))) (pe_callB call_isi (by rfl) mi (by decide +kernel) (pa_cons (pv 0) (pa_cons (pe_bltn (v := .ty "tuple") (by rfl) mT (by decide +kernel) rfl) pa_nil))) (nomark _)) (pw_or1 (pt_cmpR op_ne (pe_callB (call_lenS (K := K) rfl) (by rfl) ml PySem.boot_len (pa_cons (pv 0) pa_nil)) (pe_callB (call_lenS (K := K) rfl) (by rfl) ml PySem.boot_len (pa_cons (pv 1) pa_nil)) (nomark _))))) (pss_one (ps_ret pe_bl)) pss_nil) (pss_one (ps_ret (pe_callB (cr_all rfl) (by rfl) ma (by decide +kernel) (pa_cons (pe_lc (own := [("_law_one", 2), ("_law_other", 3)]) (g := gTup K 2 (gCons (gName 2) (gCons (gName 3) gNil))) (by rfl) scSame.nd (pi_zipA (by rfl) mz (pa_cons (pv 0) (pa_cons (pv 1) pa_nil))) (blkOk_by (N := nSame) (sc := defScope sSame) (by decide +kernel)) (fun _ _ _ _ _ => pg_tup rfl (pgs_cons (pg_name (i := 2) scSame.nd rfl (Or.inl rfl)) (pgs_cons (pg_name (i := 3) scSame.nd rfl (Or.inl rfl)) pgs_nil))) (fun _ _ _ _ _ => pts_nil) (fun _ _ _ _ _ => (pcl D GS hr (pa_cons (pv 2) (pa_cons (pv 3) pa_nil))))) pa_nil)))))) pss_nil) (pss_cons (ps_if (pt_val (pe_callB call_isi (by rfl) mi (by decide +kernel) (pa_cons (pv 1) (pa_cons (pe_bltn (v := .ty "str") (by rfl) mS (by decide +kernel) rfl) pa_nil)))) (pss_one (ps_ret (pe_and (pe_callB call_isi (by rfl) mi (by decide +kernel) (pa_cons (pv 0) (pa_cons (pe_bltn (v := .ty "str") (by rfl) mS (by decide +kernel) rfl) pa_nil))) (pe_one (pe_cmpR (op_eqD hr.units) (pv 0) (pv 1) (nomark _)))))) pss_nil) (pss_cons (ps_if (pt_cmpR op_ne (pe_callB call_isi (by rfl) mi (by decide +kernel) (pa_cons (pv 0) (pa_cons (pe_bltn (v := .ty "bool") (by rfl) mB (by decide +kernel) rfl) pa_nil))) (pe_callB call_isi (by rfl) mi (by decide +kernel) (pa_cons (pv 1) (pa_cons (pe_bltn (v := .ty "bool") (by rfl) mB (by decide +kernel) rfl) pa_nil))) (nomark _)) (pss_one (ps_ret pe_bl)) pss_nil) (pss_one (ps_ret (pe_and (pe_callB call_isi (by rfl) mi (by decide +kernel) (pa_cons (pv 0) (pa_cons (pe_bltn (v := .ty "int") (by rfl) mI (by decide +kernel) rfl) pa_nil))) (pe_one (pe_cmpR (op_eqD hr.units) (pv 0) (pv 1) (nomark _)))))))))), ?_⟩
    have two : (2 : Nat) ≤ sizeLine := by decide
    have no2 : ∀ {t : String}, kitB t "list" = some false → kitB t "tuple" = some false → PySem.W.kitAny K (.type t) [.type "list", .type "tuple"] = some false := fun h1 h2 => kitAny_cons (kit_ty h1) (fun _ => kitAny_cons (kit_ty h2) (fun _ => rfl) (fun z => nomatch z)) (fun z => nomatch z)
    have fin : ∀ {HX : Hp} {v : V} {dd : PyData}, Ext Ps H HX → SeqAt.shaped dd = true → Dp K HX v dd → Dp K HX y dd → v = x → PyData.eqv dd dd = true → rEqD K v y HX Q := fun e1 sh h1 h2 ev hq => ⟨_, _, h1, h2, sh, sh, by rw [hq]; exact q _ e1⟩
    cases d with
    | none =>
      cases hx
      cases hy
      exact ⟨.non, rfl, rfl, true, rfl, iteT ⟨.non, rfl, rfl, q _ (Ext.refl ht)⟩⟩
    | bool b =>
      cases hx
      cases hy
      refine ⟨.bl b, rfl, rfl, false, rfl, iteF ⟨.bl b, rfl, two, fun T hT => ?_⟩⟩
      have e1 := Ext.new (o := .tup [.ty "list", .ty "tuple"]) ht hT
      refine ⟨.bl b, T, [.ty "list", .ty "tuple"], .type "bool", [.type "list", .type "tuple"], false, rfl, upd_same, .cons (.ty _) (.cons (.ty _) .nil), .base (.bl b), no2 (by decide +kernel) (by decide +kernel), false, rfl, iteF ?_⟩
      refine ⟨.bl b, rfl, .bl b, .ty "str", .type "bool", .type "str", false, rfl, .ty _, .base (.bl b), kit_ty (by decide +kernel), false, rfl, iteF ?_⟩
      refine ⟨.bl b, rfl, .bl b, .ty "bool", .type "bool", .type "bool", true, rfl, .ty _, .base (.bl b), kit_ty (by decide +kernel), .bl b, rfl, .bl b, .ty "bool", .type "bool", .type "bool", true, rfl, .ty _, .base (.bl b), kit_ty (by decide +kernel), rfl, false, rfl, iteF ?_⟩
      exact ⟨.bl b, rfl, .bl b, .ty "int", .type "bool", .type "int", true, rfl, .ty _, .base (.bl b), kit_ty (by decide +kernel), true, rfl, iteT ⟨.bl b, rfl, .bl b, rfl, fin e1 rfl (.bl b) (.bl b) rfl (by cases b <;> rfl)⟩⟩
    | int i =>
      cases hx
      cases hy
      refine ⟨.int i, rfl, rfl, false, rfl, iteF ⟨.int i, rfl, two, fun T hT => ?_⟩⟩
      have e1 := Ext.new (o := .tup [.ty "list", .ty "tuple"]) ht hT
      refine ⟨.int i, T, [.ty "list", .ty "tuple"], .type "int", [.type "list", .type "tuple"], false, rfl, upd_same, .cons (.ty _) (.cons (.ty _) .nil), .base (.int i), no2 (by decide +kernel) (by decide +kernel), false, rfl, iteF ?_⟩
      refine ⟨.int i, rfl, .int i, .ty "str", .type "int", .type "str", false, rfl, .ty _, .base (.int i), kit_ty (by decide +kernel), false, rfl, iteF ?_⟩
      refine ⟨.int i, rfl, .int i, .ty "bool", .type "int", .type "bool", false, rfl, .ty _, .base (.int i), kit_ty (by decide +kernel), .int i, rfl, .int i, .ty "bool", .type "int", .type "bool", false, rfl, .ty _, .base (.int i), kit_ty (by decide +kernel), rfl, false, rfl, iteF ?_⟩
      exact ⟨.int i, rfl, .int i, .ty "int", .type "int", .type "int", true, rfl, .ty _, .base (.int i), kit_ty (by decide +kernel), true, rfl, iteT ⟨.int i, rfl, .int i, rfl, fin e1 rfl (.int i) (.int i) rfl (by simp [PyData.eqv])⟩⟩
    | str z =>
      cases hx
      cases hy
      refine ⟨.str z, rfl, rfl, false, rfl, iteF ⟨.str z, rfl, two, fun T hT => ?_⟩⟩
      have e1 := Ext.new (o := .tup [.ty "list", .ty "tuple"]) ht hT
      refine ⟨.str z, T, [.ty "list", .ty "tuple"], .type "str", [.type "list", .type "tuple"], false, rfl, upd_same, .cons (.ty _) (.cons (.ty _) .nil), .base (.str z), no2 (by decide +kernel) (by decide +kernel), false, rfl, iteF ?_⟩
      refine ⟨.str z, rfl, .str z, .ty "str", .type "str", .type "str", true, rfl, .ty _, .base (.str z), kit_ty (by decide +kernel), true, rfl, iteT ?_⟩
      have sh : SeqAt.shaped (.str z) = true := by
        unfold SeqAt.shaped
        rw [hL]
        rfl
      exact ⟨.str z, rfl, .str z, .ty "str", .type "str", .type "str", true, rfl, .ty _, .base (.str z), kit_ty (by decide +kernel), true, rfl, iteT ⟨.str z, rfl, .str z, rfl, fin e1 sh (.str z) (.str z) rfl (by simp [PyData.eqv])⟩⟩
    | list ds =>
      cases hx with
      | @lst a xs _ hs ha =>
      cases hy with
      | @lst b ys _ hs2 ha2 =>
      have hl1 := dpAll_len ha
      have hl2 := dpAll_len ha2
      have hlay : PyData.canLayAll0 ds = true := by simpa [PyData.canLay0] using hL
      have hdep : PyData.depthAll ds + 1 ≤ m := by simpa [PyData.depth] using hd
      have hww : (decide (ds.length ≤ 1000) && wideAll ds) = true := by simpa [wide] using hW
      have hw' : ds.length ≤ 1000 := of_decide_eq_true (Bool.and_eq_true_iff.mp hww).1
      obtain ⟨m', rfl⟩ : ∃ m', m = m' + 1 := ⟨m - 1, by omega⟩
      refine ⟨.ref b, rfl, rfl, false, rfl, iteF ⟨.ref b, rfl, two, fun T hT => ?_⟩⟩
      have e1 := Ext.new (o := .tup [.ty "list", .ty "tuple"]) ht hT
      have hs' := e1.sqL hs
      have hs2' := e1.sqL hs2
      refine ⟨.ref b, T, [.ty "list", .ty "tuple"], .type "list", [.type "list", .type "tuple"], true, rfl, upd_same, .cons (.ty _) (.cons (.ty _) .nil), ty_lst hs2', kitAny_cons (kit_ty (r := true) (by decide +kernel)) (fun z => nomatch z) (fun _ => rfl), true, rfl, iteT ?_⟩
      refine ⟨.ref b, rfl, .ref b, .ty "list", .type "list", .type "list", true, rfl, .ty _, ty_lst hs2', kit_ty (by decide +kernel), .ref a, rfl, .ref a, .ty "list", .type "list", .type "list", true, rfl, .ty _, ty_lst hs', kit_ty (by decide +kernel), rfl, false, rfl, iteF ?_⟩
      refine ⟨.ref b, rfl, .ref b, .ty "tuple", .type "list", .type "tuple", false, rfl, .ty _, ty_lst hs2', kit_ty (by decide +kernel), .ref a, rfl, .ref a, .ty "tuple", .type "list", .type "tuple", false, rfl, .ty _, ty_lst hs', kit_ty (by decide +kernel), rfl, false, rfl, iteF ?_⟩
      refine ⟨.ref a, rfl, a, xs, rfl, .inl hs', .ref b, rfl, b, ys, rfl, .inl hs2', rfl, false, ?_, iteF ?_⟩
      · rw [hl1, hl2]
        simp
      refine ⟨.ref a, rfl, .ref b, rfl, a, b, xs, ys, rfl, .inl ⟨hs', hs2', fun D0 hD => lc_zipL (K := K) (hl1.trans hl2.symm) (fun i H3 => CP Ps FBl (upd H T (.tup [.ty "list", .ty "tuple"])) D0 (List.replicate i true) i H3) (CP.start e1.tb hD) (fun i H3 p => ⟨p.ext.sqL hs', p.ext.sqL hs2'⟩) (fun i u v H3 T2 hu hv p hT2 => ?_) (fun H3 p => ?_)⟩⟩
      · obtain ⟨d1, k1, k2⟩ := dpAll_get ha hu
        obtain ⟨d2, k3, k4⟩ := dpAll_get ha2 hv
        rw [k1] at k3
        cases k3
        have hmem := List.mem_of_getElem? k1
        have hi : i < xs.length := (List.getElem?_eq_some_iff.mp hu).1
        have eT := Ext.new (o := .tup [u, v]) p.ext.tb hT2
        have p4 := p.skip (stbB (K := K)) eT
        have hT4 : SqT K (upd H3 T2 (.tup [u, v])) T2 [u, v] := .inl (.inl upd_same)
        generalize upd H3 T2 (.tup [u, v]) = H4 at *
        refine ⟨T2, _, rfl, hT4, rfl, _, _, rfl, _, _, rfl, rfl, rfl, yes_ (iteT ?_)⟩
        refine ⟨u, rfl, v, rfl, u, v, d1, rfl, p4.ext.dp (e1.dp k2), p4.ext.dp (e1.dp k4), lay_mem hlay hmem, wideAll_mem (Bool.and_eq_true_iff.mp hww).2 hmem, by have := dep_mem hmem; omega, by omega, p4.ext.tb, fun H5 e5 => ?_⟩
        have p5 := p4.skip (stbB (K := K)) e5
        have r := CP.put (stbB (K := K)) hD (by omega) p5 (show FBl H5 (.bl true) true from rfl)
        rw [List.replicate_succ']
        exact r
      · obtain ⟨zs, g1, g2, g3⟩ := p.at_
        have ez := paired_bls g2
        rw [ez] at g1
        refine ⟨D0, _, rfl, .inl (.inl g1), ?_⟩
        have hall : (List.replicate xs.length true).all id = true := by simp
        rw [hall]
        exact q _ (e1.trans p.ext)
    | tuple ds =>
      cases hx with
      | @tup a xs _ hs ha =>
      cases hy with
      | @tup b ys _ hs2 ha2 =>
      have hl1 := dpAll_len ha
      have hl2 := dpAll_len ha2
      have hlay : PyData.canLayAll0 ds = true := by simpa [PyData.canLay0] using hL
      have hdep : PyData.depthAll ds + 1 ≤ m := by simpa [PyData.depth] using hd
      have hww : (decide (ds.length ≤ 1000) && wideAll ds) = true := by simpa [wide] using hW
      have hw' : ds.length ≤ 1000 := of_decide_eq_true (Bool.and_eq_true_iff.mp hww).1
      obtain ⟨m', rfl⟩ : ∃ m', m = m' + 1 := ⟨m - 1, by omega⟩
      refine ⟨.ref b, rfl, rfl, false, rfl, iteF ⟨.ref b, rfl, two, fun T hT => ?_⟩⟩
      have e1 := Ext.new (o := .tup [.ty "list", .ty "tuple"]) ht hT
      have hs' := e1.sqT hs
      have hs2' := e1.sqT hs2
      refine ⟨.ref b, T, [.ty "list", .ty "tuple"], .type "tuple", [.type "list", .type "tuple"], true, rfl, upd_same, .cons (.ty _) (.cons (.ty _) .nil), ty_tup hs2', kitAny_cons (kit_ty (r := false) (by decide +kernel)) (fun _ => kitAny_cons (kit_ty (r := true) (by decide +kernel)) (fun z => nomatch z) (fun _ => rfl)) (fun z => nomatch z), true, rfl, iteT ?_⟩
      refine ⟨.ref b, rfl, .ref b, .ty "list", .type "tuple", .type "list", false, rfl, .ty _, ty_tup hs2', kit_ty (by decide +kernel), .ref a, rfl, .ref a, .ty "list", .type "tuple", .type "list", false, rfl, .ty _, ty_tup hs', kit_ty (by decide +kernel), rfl, false, rfl, iteF ?_⟩
      refine ⟨.ref b, rfl, .ref b, .ty "tuple", .type "tuple", .type "tuple", true, rfl, .ty _, ty_tup hs2', kit_ty (by decide +kernel), .ref a, rfl, .ref a, .ty "tuple", .type "tuple", .type "tuple", true, rfl, .ty _, ty_tup hs', kit_ty (by decide +kernel), rfl, false, rfl, iteF ?_⟩
      refine ⟨.ref a, rfl, a, xs, rfl, .inr hs', .ref b, rfl, b, ys, rfl, .inr hs2', rfl, false, ?_, iteF ?_⟩
      · rw [hl1, hl2]
        simp
      refine ⟨.ref a, rfl, .ref b, rfl, a, b, xs, ys, rfl, .inr ⟨hs', hs2', fun D0 hD => lc_zipT (K := K) (hl1.trans hl2.symm) (fun i H3 => CP Ps FBl (upd H T (.tup [.ty "list", .ty "tuple"])) D0 (List.replicate i true) i H3) (CP.start e1.tb hD) (fun i H3 p => ⟨p.ext.sqT hs', p.ext.sqT hs2'⟩) (fun i u v H3 T2 hu hv p hT2 => ?_) (fun H3 p => ?_)⟩⟩
      · obtain ⟨d1, k1, k2⟩ := dpAll_get ha hu
        obtain ⟨d2, k3, k4⟩ := dpAll_get ha2 hv
        rw [k1] at k3
        cases k3
        have hmem := List.mem_of_getElem? k1
        have hi : i < xs.length := (List.getElem?_eq_some_iff.mp hu).1
        have eT := Ext.new (o := .tup [u, v]) p.ext.tb hT2
        have p4 := p.skip (stbB (K := K)) eT
        have hT4 : SqT K (upd H3 T2 (.tup [u, v])) T2 [u, v] := .inl (.inl upd_same)
        generalize upd H3 T2 (.tup [u, v]) = H4 at *
        refine ⟨T2, _, rfl, hT4, rfl, _, _, rfl, _, _, rfl, rfl, rfl, yes_ (iteT ?_)⟩
        refine ⟨u, rfl, v, rfl, u, v, d1, rfl, p4.ext.dp (e1.dp k2), p4.ext.dp (e1.dp k4), lay_mem hlay hmem, wideAll_mem (Bool.and_eq_true_iff.mp hww).2 hmem, by have := dep_mem hmem; omega, by omega, p4.ext.tb, fun H5 e5 => ?_⟩
        have p5 := p4.skip (stbB (K := K)) e5
        have r := CP.put (stbB (K := K)) hD (by omega) p5 (show FBl H5 (.bl true) true from rfl)
        rw [List.replicate_succ']
        exact r
      · obtain ⟨zs, g1, g2, g3⟩ := p.at_
        have ez := paired_bls g2
        rw [ez] at g1
        refine ⟨D0, _, rfl, .inl (.inl g1), ?_⟩
        have hall : (List.replicate xs.length true).all id = true := by simp
        rw [hall]
        exact q _ (e1.trans p.ext)
    | dict kvs => exact nomatch hx
theorem ok_same (D : Def K mg "_law_same" sSame ["_law_found", "_law_due"] f fd c) (mi : mg "isinstance" = none) (mL : mg "list" = none) (mT : mg "tuple" = none) (mS : mg "str" = none) (mB : mg "bool" = none) (mI : mg "int" = none) (ml : mg "len" = none) (ma : mg "all" = none) (mz : mg "zip" = none) :
    ∀ m, FnOk P w K mg base CX0 m f fd ["_law_found", "_law_due"] (spSame K Ps m)
  | 0 => ⟨fun _ _ _ _ h => h.elim, fun _ _ _ _ _ _ _ _ _ _ _ _ _ h => h.elim⟩
  | m + 1 => same_step D (ok_same D mi mL mT mS mB mI ml ma mz m) mi mL mT mS mB mI ml ma mz
end
end Lf

set_option maxHeartbeats 2000000
namespace Lf
open PySem PySem.Spec PyProof.Rows L2 GxR GxA SrT
/-! ### parts: the mathematics -/
theorem sub_of : ∀ {fc g : List Int}, fc.Pairwise (· < ·) → g.Pairwise (· < ·) → (∀ x ∈ g, x ∈ fc) → g.Sublist fc
  | [], [], _, _, _ => .slnil
  | [], x :: g, _, _, h => absurd (h x List.mem_cons_self) (by simp)
  | y :: r, [], _, _, _ => List.nil_sublist _
  | y :: r, x :: g, hf, hg, h => by
    obtain ⟨f1, f2⟩ := List.pairwise_cons.mp hf
    obtain ⟨g1, g2⟩ := List.pairwise_cons.mp hg
    rcases List.mem_cons.mp (h x List.mem_cons_self) with e | e
    · subst e
      refine List.Sublist.cons_cons _ (sub_of f2 g2 fun z hz => ?_)
      rcases List.mem_cons.mp (h z (List.mem_cons_of_mem _ hz)) with q | q
      · have := g1 z hz
        omega
      · exact q
    · refine List.Sublist.cons _ (sub_of f2 hg fun z hz => ?_)
      have hxy := f1 x e
      rcases List.mem_cons.mp (h z hz) with q | q
      · rcases List.mem_cons.mp hz with q2 | q2
        · rw [q2]
          exact e
        · have := g1 z q2
          omega
      · exact q
theorem subs_nodup : ∀ (m : Nat) (l : List Int), l.length = m → l.Nodup → (subsL l).Nodup
  | 0, l, hl, _ => by
    rw [List.length_eq_zero_iff.mp hl]
    show ([[]] : List (List Int)).Nodup
    simp
  | m + 1, l, hl, nd => by
    rcases List.eq_nil_or_concat l with rfl | ⟨r, p, rfl⟩
    · simp at hl
    · rw [List.concat_eq_append] at *
      have hr : r.length = m := by simpa using hl
      obtain ⟨n1, n2, n3⟩ := List.nodup_append.mp nd
      have ih := subs_nodup m r hr n1
      have e : subsL (r ++ [p]) = grow (subsL r) p := by
        unfold subsL
        rw [List.foldl_append]
        rfl
      rw [e]
      unfold grow
      refine List.nodup_append.mpr ⟨ih, ?_, fun a ha b hb e2 => ?_⟩
      · exact List.Pairwise.map _ (fun a b hab e3 => hab (List.append_cancel_right e3)) ih
      · obtain ⟨c, _, rfl⟩ := List.mem_map.mp hb
        have hp : p ∈ a := by
          rw [e2]
          exact List.mem_append_right _ (List.mem_singleton.mpr rfl)
        exact n3 p ((mem_subs.mp ha).subset hp) p (List.mem_singleton.mpr rfl) rfl
theorem hasAll_true {fc pts : List Int} : hasAll fc pts = true ↔ ∀ p ∈ pts, p ∈ fc := by
  unfold hasAll
  rw [List.all_eq_true]
  constructor
  · intro h p hp
    simpa using h p hp
  · intro h p hp
    simpa using h p hp
theorem inSome_true {pts : List Int} {laid : List (List Int)} : inSome pts laid = true ↔ ∃ f ∈ laid, ∀ p ∈ pts, p ∈ f := by
  unfold inSome
  rw [List.any_eq_true]
  constructor
  · rintro ⟨f, hf, h⟩
    exact ⟨f, hf, hasAll_true.mp h⟩
  · rintro ⟨f, hf, h⟩
    exact ⟨f, hf, hasAll_true.mpr h⟩
theorem lex_le {x y : List Int} (h : lex x y = true) : le x y = true := by
  have z := NtL.lex_asym x y h
  simp [le, z]
theorem strict_eq {l m : List (List Int)} (hl : l.Pairwise fun x y => lex x y = true) (hm : m.Pairwise fun x y => le x y = true) (nm : m.Nodup) (h : ∀ z, z ∈ l ↔ z ∈ m) : l = m :=
  sorted_eq ((List.perm_ext_iff_of_nodup (lex_nd hl) nm).mpr h) (hl.imp lex_le) hm
/-- the parts of m points of a stack -/
def partsN (n : Nat) (fss : List (List Int)) (m : Nat) : List (List Int) := (allF n m).filter fun z => inSome z fss
theorem mem_partsN {n m : Nat} {fss : List (List Int)} {z : List Int} : z ∈ partsN n fss m ↔ RisB n z ∧ z.length = m ∧ ∃ f ∈ fss, ∀ x ∈ z, x ∈ f := by
  unfold partsN
  rw [List.mem_filter, mem_allF, inSome_true]
  constructor
  · rintro ⟨⟨h1, h2⟩, h3⟩
    exact ⟨h1, h2, h3⟩
  · rintro ⟨h1, h2, h3⟩
    exact ⟨⟨h1, h2⟩, h3⟩
theorem partsN_pw (n m : Nat) (fss : List (List Int)) : (partsN n fss m).Pairwise fun x y => le x y = true := (sortL_pw _).filter _
theorem partsN_nd (n m : Nat) (fss : List (List Int)) : (partsN n fss m).Nodup := (nodup_allF n m).filter _
/-- the faces of a stack as told -/
structure FacesOk (n k : Nat) (fss : List (List Int)) : Prop where
  len : ∀ f ∈ fss, f.length = k
  ris : ∀ f ∈ fss, RisB n f
theorem StkOk.faces {n k : Int} {fss : List (List Int)} (S : StkOk n k fss) : FacesOk n.toNat k.toNat fss := by
  have h1 := S.n1
  have h2 := S.k0
  exact ⟨fun f hf => by have := S.len f hf; omega, fun f hf => ⟨S.ris f hf, fun i hi => by have := S.bel f hf i hi; omega⟩⟩
theorem mem_partsN' {n k m : Nat} {fss : List (List Int)} (F : FacesOk n k fss) {z : List Int} : z ∈ partsN n fss m ↔ z.length = m ∧ ∃ f ∈ fss, z.Sublist f := by
  rw [mem_partsN]
  constructor
  · rintro ⟨h1, h2, f, hf, h3⟩
    exact ⟨h2, f, hf, sub_of (F.ris f hf).1 h1.1 h3⟩
  · rintro ⟨h2, f, hf, h3⟩
    exact ⟨⟨(F.ris f hf).1.sublist h3, fun i hi => (F.ris f hf).2 i (h3.subset hi)⟩, h2, f, hf, fun x hx => h3.subset hx⟩
theorem few_all : ((List.range 9).all fun n => (List.range 4).all fun m => decide (((allK n m).filter fun g => decide (g.length = m)).length ≤ 56)) = true := by decide +kernel
theorem allF_few {n m : Nat} (hn : n ≤ 8) (hm : m ≤ 3) : (allF n m).length ≤ 56 := by
  unfold allF
  rw [(sortL_perm _).length_eq]
  have z := List.all_eq_true.mp (List.all_eq_true.mp few_all n (List.mem_range.mpr (by omega))) m (List.mem_range.mpr (by omega))
  exact of_decide_eq_true z
/-- few parts of each number of points -/
theorem partsN_few {n k m : Nat} {fss : List (List Int)} (F : FacesOk n k fss) (hn : n ≤ 8) (hk : k ≤ 4) (hm : m ≤ k) (h60 : fss.length ≤ 60) : (partsN n fss m).length ≤ 60 := by
  by_cases h3 : m ≤ 3
  · have := allF_few hn h3
    have h2 := List.length_filter_le (fun z => inSome z fss) (allF n m)
    unfold partsN
    omega
  · have e : m = k := by omega
    refine Nat.le_trans (nd_le (partsN_nd n m fss) fun z hz => ?_) h60
    obtain ⟨h1, f, hf, h2⟩ := (mem_partsN' F).mp hz
    rw [List.Sublist.eq_of_length h2 (by rw [F.len f hf]; omega)]
    exact hf
/-! ### a walk that adds to a set -/
section
variable {K : PySem.W.Frag} {g : TG} {tt : TT} {ta : TD} {vs : List Nat} {σ : L2.St} {Qd : Hp → Prop} {H1 : Hp}
theorem wk_tup {a : Addr} {xs : List V} (Pv : Nat → Hp → Prop) (h0 : Pv 0 H1) (hl : ∀ i H, Pv i H → SqT K H a xs)
    (hs : ∀ i x H, xs[i]? = some x → Pv i H → g x (wipe σ vs) H fun σ2 H2 => wipe σ2 vs = wipe σ vs ∧ tt σ2 H2 fun b H3 => if b = true then ta σ2 H3 (Pv (i + 1)) else Pv (i + 1) H3) (hd : ∀ H, Pv xs.length H → Qd H) :
    ∃ W : Nat → Nat → Hp → Prop, (∃ m, W 0 m H1) ∧ tWk (Itt K a) σ vs g tt ta Qd W := by
  refine ⟨fun i m H => m = xs.length - i ∧ i ≤ xs.length ∧ Pv i H, ⟨xs.length, by simp, Nat.zero_le _, h0⟩, ?_⟩
  rintro i m H ⟨rfl, hi, p⟩
  by_cases hlt : i < xs.length
  · refine .inr ⟨⟨xs, xs[i], hl i H p, List.getElem?_eq_getElem hlt⟩, Pv (i + 1), fun H' p' => ⟨xs.length - (i + 1), by omega, rfl, hlt, p'⟩, fun x H' y => ?_⟩
    obtain ⟨rfl, y⟩ := y
    exact hs i x _ (y xs (hl i _ p)) p
  · have ei : i = xs.length := by omega
    subst ei
    exact .inl ⟨⟨xs, hl _ H p, Nat.le_refl _⟩, hd H p⟩
theorem wk_lst {a : Addr} {xs : List V} (Pv : Nat → Hp → Prop) (h0 : Pv 0 H1) (hl : ∀ i H, Pv i H → SqL K H a xs)
    (hs : ∀ i x H, xs[i]? = some x → Pv i H → g x (wipe σ vs) H fun σ2 H2 => wipe σ2 vs = wipe σ vs ∧ tt σ2 H2 fun b H3 => if b = true then ta σ2 H3 (Pv (i + 1)) else Pv (i + 1) H3) (hd : ∀ H, Pv xs.length H → Qd H) :
    ∃ W : Nat → Nat → Hp → Prop, (∃ m, W 0 m H1) ∧ tWk (Itl K a) σ vs g tt ta Qd W := by
  refine ⟨fun i m H => m = xs.length - i ∧ i ≤ xs.length ∧ Pv i H, ⟨xs.length, by simp, Nat.zero_le _, h0⟩, ?_⟩
  rintro i m H ⟨rfl, hi, p⟩
  by_cases hlt : i < xs.length
  · refine .inr ⟨⟨xs, xs[i], hl i H p, List.getElem?_eq_getElem hlt⟩, Pv (i + 1), fun H' p' => ⟨xs.length - (i + 1), by omega, rfl, hlt, p'⟩, fun x H' y => ?_⟩
    obtain ⟨rfl, y⟩ := y
    exact hs i x _ (y xs (hl i _ p)) p
  · have ei : i = xs.length := by omega
    subst ei
    exact .inl ⟨⟨xs, hl _ H p, Nat.le_refl _⟩, hd H p⟩
end
/-- the set at D has got the tuples of seen -/
structure SP (K : PySem.W.Frag) (P : Program) (w : World) (Ps : Tbs) (H0 : Hp) (D : Addr) (seen : List (List Int)) (H : Hp) : Prop where
  ext : Ext Ps H0 H
  at_ : ∃ L, H D = some (SetTO P w D L) ∧ (∀ p ∈ L, SqT K H p.1 (p.2.map V.int)) ∧ (L.map (·.2)).Nodup ∧ ∀ z, z ∈ L.map (·.2) ↔ z ∈ seen
section
variable {K : PySem.W.Frag} {P : Program} {w : World} {Ps : Tbs} {H0 H H' : Hp} {D : Addr} {seen : List (List Int)}
theorem SP.start (ht : Tb Ps H0) (hD : H0 D = none) : SP K P w Ps H0 D [] (upd H0 D (SetTO P w D [])) := ⟨Ext.new ht hD, [], upd_same, fun p hp => (nomatch hp), List.nodup_nil, fun z => Iff.rfl⟩
theorem SP.skip (h : SP K P w Ps H0 D seen H) (e : Ext Ps H H') : SP K P w Ps H0 D seen H' := by
  obtain ⟨L, h1, h2, h3, h4⟩ := h.at_
  exact ⟨h.ext.trans e, L, e.old _ _ h1 (fun q z => by cases z), fun p hp => e.sqT (h2 p hp), h3, h4⟩
theorem sqT_set {L L' : List (Addr × List Int)} {t : Addr} {xs : List V} (hD : H D = some (SetTO P w D L)) (h : SqT K H t xs) : SqT K (upd H D (SetTO P w D L')) t xs := by
  rcases h with (h | ⟨o, h⟩) | h
  · exact .inl (.inl (by rw [upd_ne (ne_of h hD (by intro z; cases z))]; exact h))
  · exact .inl (.inr ⟨o, by rw [upd_ne (ne_of h hD (by intro z; cases z))]; exact h⟩)
  · exact .inr h
/-- one more -/
theorem SP.put {U : List (List Int)} {x : Addr} {k : List Int} (hD : H0 D = none) (h : SP K P w Ps H0 D seen H) (hx : SqT K H x (k.map V.int)) (hU : U.length ≤ 60) (hs : ∀ z ∈ seen, z ∈ U) :
    ∃ L, H D = some (SetTO P w D L) ∧ (∀ p ∈ L, SqT K H p.1 (p.2.map V.int)) ∧ L.length + 1 < 64 ∧ ∀ L', Grown L x k L' → SP K P w Ps H0 D (seen ++ [k]) (upd H D (SetTO P w D L')) := by
  obtain ⟨L, h1, h2, h3, h4⟩ := h.at_
  refine ⟨L, h1, h2, ?_, fun L' gr => ?_⟩
  · have z := nd_le h3 (D := U) fun z hz => hs z ((h4 z).mp hz)
    rw [List.length_map] at z
    omega
  · have ex : Ext Ps H0 (upd H D (SetTO P w D L')) := h.ext.write hD h1 (fun q z => by cases z) (fun q => ext_ne_code fun h' oc vs R g e => by
      obtain ⟨⟨es, ep, t, ⟨o, e1, e2, e3⟩, _⟩⟩ := R
      rw [e1] at g
      cases g
      rw [e] at e3
      cases e3)
    by_cases hk : k ∈ L.map (·.2)
    · have e := gr.1 hk
      subst e
      refine ⟨ex, L', upd_same, fun p hp => sqT_set h1 (h2 p hp), h3, fun z => ?_⟩
      rw [List.mem_append, ← h4 z]
      constructor
      · exact .inl
      · rintro (q | q)
        · exact q
        · rw [List.mem_singleton.mp q]
          exact hk
    · have pm := gr.2 hk
      have pm2 := pm.map (·.2)
      refine ⟨ex, L', upd_same, fun p hp => ?_, ?_, fun z => ?_⟩
      · rcases List.mem_cons.mp (pm.mem_iff.mp hp) with e | q
        · rw [e]
          exact sqT_set h1 hx
        · exact sqT_set h1 (h2 p q)
      · rw [pm2.nodup_iff, List.map_cons, List.nodup_cons]
        exact ⟨hk, h3⟩
      · rw [pm2.mem_iff, List.map_cons, List.mem_cons, List.mem_append, List.mem_singleton, h4 z]
        exact Or.comm
end
end Lf

set_option maxHeartbeats 2000000
namespace Lf
open PySem PySem.Spec PyProof.Rows L2 GxR GxA SrT
abbrev nPartsOf : List Str := ["stack", "many", "face", "part"]
section
variable {P : Program} {w : World} {K : PySem.W.Frag} {mg : Str → Option Value} {base : Heap} {Ps : Tbs} {H H' H0 : Hp} {k : Nat} {f c : Addr} {fd : FuncData}
/-- what the set has got from the first faces -/
def gotP (fss : List (List Int)) (m : Nat) : List (List Int) := fss.flatMap fun f => (sortL (subsL f)).filter fun p => decide (p.length = m)
theorem mem_gotP {fss : List (List Int)} {m : Nat} {z : List Int} : z ∈ gotP fss m ↔ z.length = m ∧ ∃ f ∈ fss, z.Sublist f := by
  unfold gotP
  rw [List.mem_flatMap]
  constructor
  · rintro ⟨f, hf, h⟩
    obtain ⟨h1, h2⟩ := List.mem_filter.mp h
    exact ⟨of_decide_eq_true h2, f, hf, mem_subs.mp ((sortL_perm _).mem_iff.mp h1)⟩
  · rintro ⟨h1, f, hf, h2⟩
    exact ⟨f, hf, List.mem_filter.mpr ⟨(sortL_perm _).mem_iff.mpr (mem_subs.mpr h2), decide_eq_true h1⟩⟩
theorem gotP_take {fss : List (List Int)} {m i : Nat} {f : List Int} (h : fss[i]? = some f) : gotP (fss.take (i + 1)) m = gotP (fss.take i) m ++ (sortL (subsL f)).filter fun p => decide (p.length = m) := by
  unfold gotP
  rw [List.take_add_one, h, List.flatMap_append]
  simp
def spPartsOf (K : PySem.W.Frag) (Ps : Tbs) : Sp := fun vs H Q _ => ∃ (x : V) (n kk m : Int) (fss : List (List Int)), vs = [x, .int m] ∧ Stk K H x n kk fss ∧ StkOk n kk fss ∧ fss.length ≤ 60 ∧ 0 ≤ m ∧ m ≤ kk ∧ Tb Ps H ∧
  ∀ (l : Addr) (ys : List V) (H' : Hp), Ext Ps H H' → H l = none → H' l = some (.lst ys) → Paired (TupI K H') ys (partsN n.toNat fss m.toNat) → Q (.ref l) H'
end
end Lf

set_option maxHeartbeats 2000000
namespace Lf
open PySem PySem.Spec PyProof.Rows L2 GxR GxA SrT
abbrev nLink : List Str := ["stack", "part", "n", "k", "faces", "rest", "face"]
section
variable {P : Program} {w : World} {K : PySem.W.Frag} {mg : Str → Option Value} {base : Heap} {Ps : Tbs} {H H' H0 : Hp} {k : Nat} {f c : Addr} {fd : FuncData}
/-- a stack, and a rising tuple of points -/
structure AskP (K : PySem.W.Frag) (Ps : Tbs) (H : Hp) (x y : V) (n k : Int) (fss : List (List Int)) (z : List Int) : Prop where
  stk : Stk K H x n k fss
  ok : StkOk n k fss
  part : TupI K H y z
  ris : RisB n.toNat z
  tb : Tb Ps H
theorem AskP.ext {x y : V} {n k : Int} {fss : List (List Int)} {z : List Int} (h : AskP K Ps H x y n k fss z) (e : Ext Ps H H') : AskP K Ps H' x y n k fss z := ⟨e.stk h.stk, h.ok, e.tupI h.part, h.ris, e.tb⟩
theorem RisB.len {n : Nat} {g : List Int} (h : RisB n g) : g.length ≤ n := by
  have z := nd_le h.nd (D := rng n) fun x hx => in_rng (h.2 x hx).1 (h.2 x hx).2
  rw [rng_len] at z
  exact z
/-! ### is_part, need_part -/
def spIsPart (K : PySem.W.Frag) (Ps : Tbs) : Sp := fun vs H Q _ => ∃ (x y : V) (n kk : Int) (fss : List (List Int)) (z : List Int), vs = [x, y] ∧ AskP K Ps H x y n kk fss z ∧ ∀ H', Ext Ps H H' → Q (.bl (inSome z fss)) H'
def spNeedPart (K : PySem.W.Frag) (Ps : Tbs) : Sp := fun vs H Q _ => ∃ (x y : V) (n kk : Int) (fss : List (List Int)) (z : List Int), vs = [x, y] ∧ AskP K Ps H x y n kk fss z ∧ inSome z fss = true ∧ ∀ H', Ext Ps H H' → Q .non H'
/-! ### sides -/
def sidesN (fc : List Int) (kk : Int) : List (List Int) := (sortL (subsL fc)).filter fun p => decide ((p.length : Int) = kk - 1)
def spSides (K : PySem.W.Frag) (Ps : Tbs) : Sp := fun vs H Q _ => ∃ (x : V) (n kk i : Int) (fss : List (List Int)) (fc : List Int), vs = [x, .int i] ∧ Stk K H x n kk fss ∧ StkOk n kk fss ∧ 0 ≤ i ∧ i < (fss.length : Int) ∧ fss[i.toNat]? = some fc ∧ Tb Ps H ∧
  ∀ (l : Addr) (ys : List V) (H' : Hp), Ext Ps H H' → H l = none → H' l = some (.lst ys) → Paired (TupI K H') ys (sidesN fc kk) → Q (.ref l) H'
end
end Lf

set_option maxHeartbeats 2000000
namespace Lf
open PySem PySem.Spec PyProof.Rows L2 GxR GxA SrT
/-! ### links: the mathematics -/
def restL (fss : List (List Int)) (z : List Int) : List (List Int) := (fss.filter fun f => hasAll f z).map fun f => lessL f z
def linkL (fss : List (List Int)) (z : List Int) : List (List Int) := sortL (restL fss z)
theorem mem_lessL {f z : List Int} {x : Int} : x ∈ lessL f z ↔ x ∈ f ∧ x ∉ z := by
  unfold lessL
  rw [List.mem_filter]
  simp
theorem lessL_sub (f z : List Int) : (lessL f z).Sublist f := List.filter_sublist
theorem mem_linkL {fss : List (List Int)} {z g : List Int} : g ∈ linkL fss z ↔ ∃ f ∈ fss, (∀ x ∈ z, x ∈ f) ∧ g = lessL f z := by
  unfold linkL restL
  rw [(sortL_perm _).mem_iff, List.mem_map]
  constructor
  · rintro ⟨f, hf, e⟩
    obtain ⟨h1, h2⟩ := List.mem_filter.mp hf
    exact ⟨f, h1, hasAll_true.mp h2, e.symm⟩
  · rintro ⟨f, h1, h2, e⟩
    exact ⟨f, List.mem_filter.mpr ⟨h1, hasAll_true.mpr h2⟩, e.symm⟩
/-- how many are left -/
theorem lessL_len {f z : List Int} (hf : f.Nodup) (hz : z.Nodup) (h : ∀ x ∈ z, x ∈ f) : (lessL f z).length + z.length = f.length := by
  have e1 := filt_split (fun p => !decide (p ∈ z)) f
  have e2 : (f.filter fun x => !!decide (x ∈ z)).length = z.length := by
    have p : (f.filter fun x => !!decide (x ∈ z)).Perm z := (List.perm_ext_iff_of_nodup (hf.filter _) hz).mpr fun x => by
      rw [List.mem_filter]
      constructor
      · rintro ⟨_, h2⟩
        simpa using h2
      · intro hx
        exact ⟨h x hx, by simpa using hx⟩
    exact p.length_eq
  unfold lessL
  omega
/-- two rising ones of which the same is left are the same -/
theorem lessL_inj {n : Nat} {f g z : List Int} (hf : RisB n f) (hg : RisB n g) (h1 : ∀ x ∈ z, x ∈ f) (h2 : ∀ x ∈ z, x ∈ g) (e : lessL f z = lessL g z) : f = g := by
  have p : f.Perm g := (List.perm_ext_iff_of_nodup hf.nd hg.nd).mpr fun x => by
    by_cases hx : x ∈ z
    · exact ⟨fun _ => h2 x hx, fun _ => h1 x hx⟩
    · have e' : x ∈ lessL f z ↔ x ∈ lessL g z := by rw [e]
      rw [mem_lessL, mem_lessL] at e'
      constructor
      · intro h
        exact (e'.mp ⟨h, hx⟩).1
      · intro h
        exact (e'.mpr ⟨h, hx⟩).1
  exact List.Perm.eq_of_pairwise (fun a b _ _ h1 h2 => by omega) hf.1 hg.1 p
theorem nd_restL {n : Nat} {fss : List (List Int)} {z : List Int} (hr : ∀ f ∈ fss, RisB n f) (nd : fss.Nodup) : (restL fss z).Nodup := by
  unfold restL
  rw [List.nodup_iff_pairwise_ne, List.pairwise_map]
  refine List.Pairwise.imp_of_mem (fun {a b} ha hb hab e => ?_) (nd.filter _)
  obtain ⟨a1, a2⟩ := List.mem_filter.mp ha
  obtain ⟨b1, b2⟩ := List.mem_filter.mp hb
  exact hab (lessL_inj (hr a a1) (hr b b1) (hasAll_true.mp a2) (hasAll_true.mp b2) e)
theorem le_strict {l : List (List Int)} (h : l.Pairwise fun x y => le x y = true) (nd : l.Nodup) : l.Pairwise fun x y => lex x y = true :=
  List.Pairwise.imp₂ (fun a b h1 h2 => by
    cases e : lex a b with
    | true => rfl
    | false =>
      have e2 : lex b a = false := by simpa [le] using h1
      exact absurd (lex_tot a b e e2) h2) h nd
/-- a link is a stack -/
theorem StkOk.link {n k : Int} {fss : List (List Int)} {z : List Int} (S : StkOk n k fss) (hz : RisB n.toNat z) (hp : inSome z fss = true) : StkOk n (k - z.length) (linkL fss z) := by
  have F := S.faces
  have hn1 := S.n1
  have hk0 := S.k0
  have hk4 := S.k4
  have hkn := S.kn
  have hn8 := S.n8
  have nd : fss.Nodup := lex_nd S.srt
  obtain ⟨f0, hf0, hs0⟩ := inSome_true.mp hp
  have hl : ∀ g ∈ linkL fss z, g.length + z.length = k.toNat ∧ RisB n.toNat g := fun g hg => by
    obtain ⟨f, hf, hs, rfl⟩ := mem_linkL.mp hg
    have hr := F.ris f hf
    refine ⟨?_, hr.1.sublist (lessL_sub f z), fun i hi => hr.2 i ((lessL_sub f z).subset hi)⟩
    rw [← F.len f hf]
    exact lessL_len hr.nd hz.nd hs
  have h0 := hl _ (mem_linkL.mpr ⟨f0, hf0, hs0, rfl⟩)
  refine ⟨hn1, hn8, by omega, by omega, by omega, ?_, ?_, fun g hg => by have := (hl g hg).1; omega, fun g hg => (hl g hg).2.1, fun g hg i hi => by have := (hl g hg).2.2 i hi; omega, le_strict (sortL_pw _) ((sortL_perm _).nodup_iff.mpr (nd_restL F.ris nd))⟩
  · exact List.length_pos_of_mem (mem_linkL.mpr ⟨f0, hf0, hs0, rfl⟩)
  · unfold linkL restL
    rw [(sortL_perm _).length_eq, List.length_map]
    exact Nat.le_trans (List.length_filter_le _ _) S.l70
theorem linkL_le (fss : List (List Int)) (z : List Int) : (linkL fss z).length ≤ fss.length := by
  unfold linkL restL
  rw [(sortL_perm _).length_eq, List.length_map]
  exact List.length_filter_le _ _
section
variable {P : Program} {w : World} {K : PySem.W.Frag} {mg : Str → Option Value} {base : Heap} {Ps : Tbs} {H H' H0 : Hp} {k : Nat} {f c : Addr} {fd : FuncData}
def spLink (K : PySem.W.Frag) (Ps : Tbs) : Sp := fun vs H Q _ => ∃ (x y : V) (n kk : Int) (fss : List (List Int)) (z : List Int), vs = [x, y] ∧ AskP K Ps H x y n kk fss z ∧ inSome z fss = true ∧ ∀ v H', Ext Ps H H' → Stk K H' v n (kk - z.length) (linkL fss z) → Q v H'
theorem fmap_take {α β : Type} (p : α → Bool) (g : α → β) {l : List α} {i : Nat} {y : α} (h : l[i]? = some y) : ((l.take (i + 1)).filter p).map g = ((l.take i).filter p).map g ++ (if p y = true then [g y] else []) := by
  rw [filt_take p h, List.map_append]
  cases p y <;> rfl
end
end Lf

set_option maxHeartbeats 2000000
namespace Lf
open PySem PySem.Spec PyProof.Rows L2 GxR GxA SrT
/-! ### a stack's data -/
def stkD (n k : Int) (fss : List (List Int)) : PyData := .tuple [.int n, .int k, .tuple (fss.map tD)]
section
variable {K : PySem.W.Frag} {H : Hp}
theorem dp_stk {v : V} {n k : Int} {fss : List (List Int)} (h : Stk K H v n k fss) : Dp K H v (stkD n k fss) := by
  obtain ⟨a, fa, xs, rfl, h1, h2, h3⟩ := h
  exact .tup h1 (.cons (.int n) (.cons (.int k) (.cons (.tup h2 (dp_tups h3)) .nil)))
end
theorem wide_ints : ∀ ns : List Int, wideAll (iD ns) = true
  | [] => rfl
  | i :: ns => by
    show wideAll (.int i :: iD ns) = true
    rw [wideAll, wide_ints ns]
    rfl
theorem wide_tups {fss : List (List Int)} (h : ∀ f ∈ fss, f.length ≤ 1000) : wideAll (fss.map tD) = true := by
  induction fss with
  | nil => rfl
  | cons f fss ih =>
    rw [List.map_cons, wideAll, ih fun g hg => h g (List.mem_cons_of_mem _ hg), Bool.and_true]
    show wide (.tuple (iD f)) = true
    rw [wide, wide_ints, Bool.and_true]
    refine decide_eq_true ?_
    rw [List.length_map]
    exact h f List.mem_cons_self
theorem stkD_ok {n k : Int} {fss : List (List Int)} (h : fss.length ≤ 1000) (h4 : ∀ f ∈ fss, f.length ≤ 4) : (stkD n k fss).canLay0 = true ∧ wide (stkD n k fss) = true ∧ (stkD n k fss).depth ≤ 3 := by
  refine ⟨?_, ?_, ?_⟩
  · simp [stkD, PyData.canLay0, PyData.canLayAll0, lay_tups]
  · have z := wide_tups (fss := fss) fun f hf => by have := h4 f hf; omega
    unfold stkD
    rw [wide, wideAll, wideAll, wideAll, wideAll, wide, wide, wide, z, Bool.and_true, Bool.and_true]
    simp only [List.length_cons, List.length_nil, List.length_map, Bool.true_and, Bool.and_eq_true, decide_eq_true_eq]
    omega
  · have z := dep_tups fss
    simp only [stkD, PyData.depth, PyData.depthAll]
    omega
theorem StkOk.data {n k : Int} {fss : List (List Int)} (S : StkOk n k fss) : (stkD n k fss).canLay0 = true ∧ wide (stkD n k fss) = true ∧ (stkD n k fss).depth ≤ 3 := stkD_ok (by have := S.l70; omega) S.len4
/-- all faces of so many points -/
theorem all_stk {n k : Nat} (h1 : 1 ≤ n) (h8 : n ≤ 8) (hk : k ≤ n) (h4 : k ≤ 4) (hl : (allF n k).length ≤ 70) : StkOk n k (allF n k) := by
  refine ⟨by omega, by omega, by omega, by omega, by omega, allF_ne hk, hl, fun f hf => ?_, fun f hf => (mem_allF.mp hf).1.1, fun f hf i hi => (mem_allF.mp hf).1.2 i hi, le_strict (sortL_pw _) (nodup_allF n k)⟩
  have := (mem_allF.mp hf).2
  omega
theorem paired_drop {α γ : Type} {G : α → γ → Prop} : ∀ {m : Nat} {xs : List α} {ys : List γ}, Paired G xs ys → Paired G (xs.drop m) (ys.drop m)
  | 0, _, _, h => h
  | m + 1, _, _, .nil => .nil
  | m + 1, _, _, .cons _ t => paired_drop (m := m) t
/-- t[m:] -/
theorem cut_from {xs : List V} {m : Nat} (h : m ≤ xs.length) : cutV xs (some (m : Int)) none = xs.drop m := by
  unfold cutV
  rw [HT.sIx_nat, HT.sIx_none, Nat.min_eq_left h, List.take_of_length_le]
  rw [List.length_drop]
  omega
/-- the faces of k of m points from lo on, as they rise -/
def pickF : Nat → Nat → Nat → List (List Int)
  | _, _, 0 => [[]]
  | 0, _, _ + 1 => []
  | m + 1, lo, k + 1 => (pickF m (lo + 1) k).map (fun g => (lo : Int) :: g) ++ pickF m (lo + 1) (k + 1)
theorem pick83 : allF 8 3 = pickF 8 0 3 := by
  unfold allF
  exact (eq_sortL (by decide +kernel) (by decide +kernel)).symm
theorem pick84 : allF 8 4 = pickF 8 0 4 := by
  unfold allF
  exact (eq_sortL (by decide +kernel) (by decide +kernel)).symm
end Lf

set_option maxHeartbeats 1000000
/-! defs that refuse, lambdas handed to a def that catches -/
namespace Lf
open PySem PySem.Spec PyProof.Rows L2 GxR GxA SrT
section
variable {P : Program} {w : World} {K : PySem.W.Frag} {mg : Str → Option Value} {base : Heap}
/-- a def that may refuse -/
theorem Def.okX {x : Str} {st : Stmt} {f c : Addr} {fd : FuncData} {N ps : List Str} {k : Nat} {sp : Sp} (D : Def K mg x st ps f fd c) (S : FnScope N ps (defScope st)) (len : ∀ vs H Q E, sp vs H Q E → vs.length = ps.length)
    (hbody : ∀ (A : Around) (outer : List Env) (s : Shared) (H : Hp) (vs : List V) (Q : VK) (E : XK), Room k (A.deeper (envOfC x (defScope st) s.heap.objs.size f (.ref c))) → Takes (cxOf (L2.CX P w) P w K mg base N x (defScope st) f (.ref c) A outer s H E) (fun cls d _ H' => E cls d H') → sp vs H Q E →
      ∃ t, PSs (cxOf (L2.CX P w) P w K mg base N x (defScope st) f (.ref c) A outer s H E) (defBody st) t ∧ t { nx := fun _ H' => Q .non H', rt := Q } (start N vs) H) : FnOk P w K mg base (L2.CX P w) (k + 1) f fd ps sp := by
  obtain ⟨oc, od, kV, doc, pm, an, ct, osl, rfl, lk, hcd⟩ := D.F.ex
  exact fn_of lk hcd S len fun A outer s H vs Q E hr hsp => hbody A outer s H vs Q E hr (takes_of (E := E) rfl rfl rfl rfl) hsp
end
/-- a call of a def that may refuse; what it lets out is taken -/
theorem pclX {X : Cx} {x : Str} {st : Stmt} {ps : List Str} {f c : Addr} {fd : FuncData} {k : Nat} {sp : Sp} {e : Expr} {es : List Expr} {t : TA} {p pos : Pos} {E : XK} (D : Def X.K X.mg x st ps f fd c) (G : FnOk X.prog X.w X.K X.mg X.base (L2.CX X.prog X.w) k f fd ps sp) (hr : Room k X.A) (tk : Takes X fun cls d _ H => E cls d H) (ha : PA X (e :: es) t)
    (hg : Gl X x := by rfl) (hdb : (x == ("__debug__" : Str)) = false := by decide) (he : starEach (e :: es) X.env = (false, eval e X.env) :: starEach es X.env := by rfl) (hpl : (backTo pos (starEach es X.env)).any (·.1) = false := by rfl) :
    PE X (.Call (.Name x p) (e :: es) [] pos) (tCall sp [] E t) := pe_call G hr hg D.g D.F.kp D.b .nil (passes_call tk fun _ _ _ _ h => h) ha hdb he hpl
/-- the same, where it refuses nothing -/
theorem pclN {X : Cx} {x : Str} {st : Stmt} {ps : List Str} {f c : Addr} {fd : FuncData} {k : Nat} {sp : Sp} {e : Expr} {es : List Expr} {t : TA} {p pos : Pos} (D : Def X.K X.mg x st ps f fd c) (G : FnOk X.prog X.w X.K X.mg X.base (L2.CX X.prog X.w) k f fd ps sp) (hr : Room k X.A) (ha : PA X (e :: es) t)
    (hg : Gl X x := by rfl) (hdb : (x == ("__debug__" : Str)) = false := by decide) (he : starEach (e :: es) X.env = (false, eval e X.env) :: starEach es X.env := by rfl) (hpl : (backTo pos (starEach es X.env)).any (·.1) = false := by rfl) :
    PE X (.Call (.Name x p) (e :: es) [] pos) (tCall sp [] E0 t) := pe_call G hr hg D.g D.F.kp D.b .nil passL ha hdb he hpl
/-- a class of refusals -/
structure Ref (K : PySem.W.Frag) (mg : Str → Option Value) (x : Str) (C : Addr) : Prop where
  ex : ∃ (B newId initId : String) (bmB : List Value), ExcBaseFacts B newId initId bmB ∧ PySem.W.excIn K C bmB newId = true
  g : mg x = some (.ref C)
  kp : PySem.W.keepIn K (.ref C) = true
  sub : PySem.W.subIn K (.ref C) (.type "BaseException") = some true
  ty : PySem.W.typeIn K (.ref C) = some (.type "type")
/-- raise x('..') -/
theorem ps_refuse {X : Cx} {x m : Str} {C : Addr} {j : Nat} {p p2 pos pos' : Pos} {E : XK} (R : Ref X.K X.mg x C) (tk : Takes X fun cls d _ H => E cls d H) (hc : X.calm = true := by rfl) (hg : Gl X x := by rfl) (hdb : (x == ("__debug__" : Str)) = false := by decide) :
    PS X (.Raise (some (.Call (.Name x p) [.Constant (.str m) j p2] [] pos)) none pos') (fun _ _ H => E (.ref C) none H) := by
  obtain ⟨B, nI, iI, bmB, F, q⟩ := R.ex
  exact ps_raise hc tk (pmk_own F q R.g R.kp (raises_own R.sub R.ty) hg hdb)
/-- isinstance(e, c), e a pinned refusal -/
theorem call_isP {X : Cx} {a D : Addr} {oe : Obj} (C : ExcC X.K D) (hz : Zc (.ref D) none oe) (hf : ∃ vs, oe.data = .fields vs) (hp : (a, oe) ∈ X.pn) : CallR X (.builtin "isinstance") (rIsE X.K D a) := by
  intro pins s σ H xs us Q I r h
  obtain ⟨c, cv, b, rfl, hcv, e, q⟩ := h
  obtain ⟨u1, u2, rfl, r1, r2⟩ := vals2 r
  cases r1
  have ec := hcv _ r2
  subst ec
  have hget := (I.pin (a, oe) (List.mem_append_left _ hp)).1
  obtain ⟨vs, hv⟩ := hf
  obtain ⟨hz1, hz2⟩ := hz
  have J : PySem.W.InstAt s.heap a oe D none := by
    cases oe
    cases hz1
    cases hz2
    cases hv
    exact ⟨hget, rfl, rfl, trivial⟩
  refine PySem.W.kia_one (PySem.W.handS_kitx_exc C.hg C.hk C.hs C.hd C.ha C.hn C.ht C.hm) I.kIn J e (fun z => nomatch z) fun tk => ?_
  exact ⟨.bl b, H, I.kept (t' := tk) fun _ _ z => z, rfl, q⟩
/-- l.count(x), data -/
def rCountD (K : PySem.W.Frag) : V → List V → Hp → VK → Prop := fun x xs H Q => ∃ (a : Addr) (y : V) (d : PyData) (ds : List PyData), x = V.ref a ∧ xs = [y] ∧ Dp K H (V.ref a) (.list ds) ∧ Dp K H y d ∧ PyData.plainAll ds = true ∧ d.plain = true ∧ d.depth ≤ 60 ∧ Q (.int ((ds.countP fun z => PyData.eqv z d : Nat) : Int)) H
theorem mt_countD {X : Cx} (hu : X.A.units + 65 < cLine) : MtR X "list.count" (rCountD X.K) := by
  intro pins s σ H x xs v us Q I rx rxs h
  obtain ⟨a, y, d, ds, rfl, rfl, hl, hy, pl, pd, dd, q⟩ := h
  cases rx
  obtain ⟨u, rfl, ru⟩ := rxs.one
  obtain ⟨bs, r1⟩ := Dp.reads I d y u hy ru
  cases hl with
  | lst hs ha =>
    obtain ⟨its, rv, li, hlen⟩ := I.list hs
    obtain ⟨as, h4⟩ := Dp.readsAll I ds _ its ha rv
    refine PySem.SeqAt.count_list_data (as := as) (xs := ds) (vs := its.toArray) li.isList (by simpa using h4) r1 pl pd (by omega) ?_
    exact ⟨.int ((ds.countP fun z => PyData.eqv z d : Nat) : Int), H, I.tok _, ⟨_, rfl⟩, q⟩
/-! ### a lambda is made -/
theorem lam_mk {X : Cx} {pins : List (Addr × Obj)} {σ : L2.St} {H : Hp} {s : Shared} {Ps : Tbs} {c P : Addr} {params : Arguments} {body : Expr} {scope : Scope} {pos : Pos} {E : Value → Shared → Prop} {Q : Value → Shared → Prop} (I : Inv X pins σ H s) (TB : LamX.TabB X.base X.mg c P) (hcode : X.env.code = .ref c)
    (hm : (P, X.env.qual ++ "<lambda>") ∈ Ps.lam) (ht : Tb Ps H) (hdef : defaultsOf params X.env = ([], [])) (hfree : ∀ y ∈ scope.names, y.2 = .free → ∃ d, X.env.cells.lookup y.1 = some d)
    (h : ∀ (f d : Addr) (pm ctv : Value) (H1 : Hp) (s' : Shared), Inv X pins σ H1 s' → Ext Ps H H1 → s'.heap.get? f = some (PySem.W.kla_obj "<lambda>" (X.env.qual ++ "<lambda>") params body scope (cloFrom X.env.cells scope.names []) pm d ctv) →
      H1 f = none → f ∉ frs X.stack → H1 d = some (LamX.CodeO d (X.env.qual ++ "<lambda>")) → Q (.ref f) s') :
    wpAny (model X.prog X.w) X.A (eval (.Lambda params body scope pos) X.env) Q E s := by
  obtain ⟨ps, hP, tr, codes⟩ := ht.lam _ hm
  have bP := TB.bm.keeps I.bk
  have gP : s.heap.get? P = some { cls := .none, data := .fields ps } := I.hok P _ hP
  have out : ∀ f, s.heap.objs.size ≤ f → f ∉ frs X.stack := fun f hf z => (List.mem_cons.mp (I.stkSub _ z)).elim (fun e => by
    have lt := I.lt
    rw [← e] at lt
    exact absurd (Nat.lt_of_lt_of_le lt hf) (Nat.lt_irrefl _)) fun e => I.nofs hf e
  have cl := closure_ok hfree
  have gl := I.mod.glob.keeps I.bk
  have hd := TB.code.keeps I.bk
  refine PySem.W.kla_eval hdef ?_
  rcases hc : codeAmong pos ps.toList with _ | cv
  · refine PySem.W.kla_makeFunction (mg := X.mg) (P := P) (ps := ps) cl I.ok.glob gl hcode hd gP tr hc TB.gP bP fun d ctv h' tk hx hge hlt hrec htb => ?_
    obtain ⟨d2, od, vs, t, e2, hod, hdd, hv⟩ := hrec
    cases e2
    have hsz : s.heap.objs.size ≤ h'.objs.size := by omega
    have nD : H d = none := I.hok.fresh hge
    have nPd : P ≠ d := ne_of_none hP nD
    let ob := PySem.W.kla_obj "<lambda>" (X.env.qual ++ "<lambda>") params body scope (cloFrom X.env.cells scope.names []) ((X.mg "__name__").getD .none) d ctv
    have I1 := LamX.inv_table (t' := tk) (more := #[rawInt pos.line, rawInt pos.col, .ref d]) (h' := h'.push ob) I hP (fun b o hb e => Heap.get?_push_of_some _ (hx b o hb e)) (Heap.get?_push_of_some _ htb) hge ⟨od, vs, t, Heap.get?_push_of_some _ hod, hdd, hv⟩
    have at0 : ∀ b o, H b = some o → b ≠ P → (upd (upd H P (.tbl (ps ++ #[rawInt pos.line, rawInt pos.col, .ref d]))) d (LamX.CodeO d (X.env.qual ++ "<lambda>"))) b = some o := fun b o e n => by
      rw [upd_ne (ne_of_none e nD), upd_ne n]
      exact e
    have atP : (upd (upd H P (.tbl (ps ++ #[rawInt pos.line, rawInt pos.col, .ref d]))) d (LamX.CodeO d (X.env.qual ++ "<lambda>"))) P = some (.tbl (ps ++ #[rawInt pos.line, rawInt pos.col, .ref d])) := by
      rw [upd_ne nPd, upd_same]
    have noT : ∀ b o, H b = some o → (∀ q, o ≠ .tbl q) → b ≠ P := fun b o e n z => by
      rw [z, hP] at e
      cases e
      exact n _ rfl
    have eL : (ps ++ #[rawInt pos.line, rawInt pos.col, .ref d]).toList = ps.toList ++ [rawInt pos.line, rawInt pos.col, .ref d] := by simp
    have atD : (upd (upd H P (.tbl (ps ++ #[rawInt pos.line, rawInt pos.col, .ref d]))) d (LamX.CodeO d (X.env.qual ++ "<lambda>"))) d = some (LamX.CodeO d (X.env.qual ++ "<lambda>")) := upd_same
    refine h h'.objs.size d ((X.mg "__name__").getD .none) ctv _ _ I1 ⟨⟨fun Q hQ => ?_, fun p hp => ?_⟩, fun b o e n => at0 b o e (noT b o e n), fun b o e => ?_⟩ (Heap.get?_push_size _ rfl) ?_ (out _ hsz) atD
    · obtain ⟨qs, h1, h2⟩ := ht.gen Q hQ
      exact ⟨qs, at0 Q _ h1 (fun z => Ps.apart _ hm (show P ∈ Ps.gen from z ▸ hQ)), h2⟩
    · by_cases hb : p.1 = P
      · have e2 : p.2 = X.env.qual ++ "<lambda>" := Ps.one p hp _ hm hb
        rw [hb, e2]
        refine ⟨_, atP, by rw [eL]; exact PySem.TriplesOk_snoc _ _ _ _ tr, fun p' cv hcv => ?_⟩
        rw [eL] at hcv
        rcases LamX.among_app _ tr hcv with z | z
        · obtain ⟨c0, e3, e4⟩ := codes p' cv z
          exact ⟨c0, e3, at0 _ _ e4 (noT _ _ e4 LamX.codeO_ne)⟩
        · exact ⟨d, z, atD⟩
      · exact tabS_keep (ht.lam p hp) (fun qs e => at0 _ _ e hb) fun b e => at0 _ _ e (noT _ _ e LamX.codeO_ne)
    · by_cases hb : b = P
      · exact ⟨_, by rw [hb]; exact atP⟩
      · exact ⟨o, at0 b o e hb⟩
    · have n1 : h'.objs.size ≠ d := by omega
      have n2 : h'.objs.size ≠ P := fun z => by
        have lt := Heap.lt_size gP
        rw [← z] at lt
        exact absurd (Nat.lt_of_lt_of_le lt hsz) (Nat.lt_irrefl _)
      rw [upd_ne n1, upd_ne n2]
      exact I.hok.fresh hsz
  · obtain ⟨d, rfl, hco⟩ := codes pos cv hc
    refine PySem.W.kla_makeFunctionHit (mg := X.mg) (P := P) (ps := ps) cl I.ok.glob gl hcode hd gP tr hc bP fun ctv h' tk hx hsz => ?_
    exact h h'.objs.size d ((X.mg "__name__").getD .none) ctv H _ (I.kept fun b o e => Heap.get?_push_of_some _ (hx b o e)) (Ext.refl ht) (Heap.get?_push_size _ rfl) (I.hok.fresh hsz) (out _ hsz) hco
end Lf

set_option maxHeartbeats 1000000
namespace Lf
open PySem PySem.Spec PyProof.Rows L2 GxR GxA SrT
/-- the reading of x(lambda: ..) -/
def tLamX (Ps : Tbs) (TT : (XK → Hp → VK → Prop) → Hp → VK → Prop) (t : XK → TE) : TE := fun σ H Q => Tb Ps H ∧ ∀ H1, Ext Ps H H1 → TT (fun E H' Q' => t E σ H' Q') H1 Q
theorem pe_lamX {X : Cx} {Ps : Tbs} {TT : (XK → Hp → VK → Prop) → Hp → VK → Prop} {x a : Str} {st : Stmt} {g cg c P : Addr} {k : Nat} {fd : FuncData} {Ng : List Str} {params : Arguments} {body : Expr} {scope : Scope} {t : XK → TE} {p lpos pos : Pos}
    (D : Def X.K X.mg x st [a] g fd cg) (Sg : FnScope Ng [a] (defScope st)) (hG : LamX.GivesTo X Ng x (defScope st) g (.ref cg) (defBody st) a (X.env.qual ++ "<lambda>") TT) (TB : LamX.TabB X.base X.mg c P) (hmT : (P, X.env.qual ++ "<lambda>") ∈ Ps.lam) (hr : Room (k + 2) X.A)
    (L : LamX.LamS X.env.scope scope) (hbody : ∀ (A : Around) (outer : List Env) (s : Shared) (H : Hp) (E : XK) (f d : Addr), Room k (A.deeper (LamX.lamEnv X scope s.heap.objs.size f d)) → Takes (LamX.lamCx X A outer s H E scope f d) (fun cls d _ H' => E cls d H') → PE (LamX.lamCx X A outer s H E scope f d) body (t E))
    (hcode : X.env.code = .ref c := by rfl) (hNg : Ng[0]? = some a := by rfl) (hva : Vis (defScope st) a := by exact Or.inl rfl) (hg : Gl X x := by rfl) (hdef : defaultsOf params X.env = ([], []) := by rfl)
    (hbind : ∀ (q : Str) (cl : List (Str × Addr)) (pm cv ctv : Value), bindArgs (PySem.W.kla_fn "<lambda>" q params body scope cl pm cv ctv) ⟨[], []⟩ = pure [] := by intros; rfl) (hdb : (x == ("__debug__" : Str)) = false := by decide) (hd : (a == ("__debug__" : Str)) = false := by decide) (hcd : (a == ("__classdict__" : Str)) = false := by decide) :
    PE X (.Call (.Name x p) [.Lambda params body scope lpos] [] pos) (tLamX Ps TT t) := by
  obtain ⟨oc, od, kV, doc, pm, an, ct, osl, efd, lk, hcg⟩ := D.F.ex
  subst efd
  refine ⟨fun pins s σ H Q I h => ?_⟩
  refine wpAny_Call_Name_kw (ld_glob I hg D.g ?_ hdb)
  refine PySem.W.callWith_K (h₀ := X.base) I.ok.mod.kin D.F.kp ?_ (by rfl) (by rfl)
  show wpAny _ _ (spliced ((false, eval (.Lambda params body scope lpos) X.env) :: backTo pos (starEach [] X.env))) _ _ _
  refine Calls.spliced_cons (lam_mk I TB hcode hmT h.1 hdef (L.has I.ok) fun f d pm' ctv H1 s' I1 e1 hf hfn hfr hco => Calls.spliced_nil ⟨I1.kIn, ?_⟩)
  have run : codeAny (model X.prog X.w) X.A (.call (.ref g) ⟨[.ref f], []⟩) (CR C8.CX0 X.stack X.prog X.w H1 s' Q C8.E0) s' := by
    refine LamX.run_ofS (N := Ng) (ps := [a]) (us := [.ref f]) (vs := [.ref f]) lk hcg Sg hr I1.env0 (D.b s' [.ref f] I1.kIn rfl) (.cons rfl .nil) rfl fun hr' => ?_
    obtain ⟨t', q1, q2⟩ := hG f d s' H1 Q (fun E H' Q' => t E σ H' Q')
      (fun W pn xe E p1 p2 tk hW => LamX.pe_act (i := 0) I1 L hf hfn hfr (hbind _ _ _ _ _) tk hW hr' (fun A outer s H hr2 => hbody A outer s H E f d hr2 (takes_of (E := E) rfl rfl rfl rfl)) hNg hva hd hcd) hco (h.2 H1 e1)
    exact ⟨t', q1.nox, q2⟩
  refine wpAny_call (codeAny_mono run fun r s2 hq => ?_)
  match r, hq with
  | .ok (.ret u), hq => exact I1.after hq
  | .error e, hq => exact False.elim hq
/-- a def called where an exception is handled -/
theorem pe_hot {X : Cx} {x : Str} {st : Stmt} {N ps : List Str} {f c : Addr} {fd : FuncData} {k : Nat} {sp : Sp} {e : Expr} {es : List Expr} {t : TA} {p pos : Pos} (D : Def X.K X.mg x st ps f fd c) (S : FnScope N ps (defScope st)) {pn : Addr × Obj} (hp : pn ∈ X.pn) (hr : L2H.RoomH (k + 1) X.A) (ha : PA X (e :: es) t) (len : ∀ vs H Q E, sp vs H Q E → vs.length = ps.length)
    (hbody : ∀ (s : Shared) (H : Hp) (vs : List V) (Q : VK), L2H.RoomH k (X.A.deeper (envOfC x (defScope st) s.heap.objs.size f (.ref c))) → sp vs H Q E0 →
      ∃ u, PSs (L2H.cxH CX0 X.prog X.w X.K X.mg X.base N x (defScope st) f (.ref c) X.A X.stack s H E0 pn) (defBody st) u ∧ u { nx := fun _ H' => Q .non H', rt := Q } (start N vs) H)
    (hg : Gl X x := by rfl) (hdb : (x == ("__debug__" : Str)) = false := by decide) (he : starEach (e :: es) X.env = (false, eval e X.env) :: starEach es X.env := by rfl) (hpl : (backTo pos (starEach es X.env)).any (·.1) = false := by rfl) :
    PE X (.Call (.Name x p) (e :: es) [] pos) (tCall sp [] E0 t) := by
  obtain ⟨oc, od, kV, doc, pm, an, ct, osl, efd, lk, hcd⟩ := D.F.ex
  subst efd
  refine ⟨fun pins s0 σ H0 Q I0 h => ?_⟩
  refine wpAny_Call_Name_kw (ld_glob I0 hg D.g ?_ hdb)
  refine PySem.W.callWith_K (h₀ := X.base) I0.ok.mod.kin D.F.kp (thn (ha.run pos pins s0 σ H0 _ I0 h) fun us s hh => ?_) he hpl
  obtain ⟨vs, H, I, rv, q⟩ := hh
  rw [List.append_nil] at q
  have hl := len _ _ _ _ q
  have P1 := I.pin pn (List.mem_append_left _ hp)
  have pin : L2H.PinOk X.stack H s pn := ⟨P1.1, P1.2.1, fun hm => (List.mem_cons.mp (I.stkSub _ hm)).elim P1.2.2.1 P1.2.2.2.1, P1.2.2.2.2⟩
  have bd := D.b s us I.kIn (by rw [List.append_nil, ← rv.length]; exact hl)
  rw [List.append_nil] at bd
  refine ⟨I.kIn, wpAny_call (codeAny_mono (R := CR CX0 X.stack X.prog X.w H s Q E0) ?_ fun r s2 hq => ?_)⟩
  · have kinds : ∀ y ∈ ps.zip us, (defScope st).names.lookup y.1 = some .local ∨ ((defScope st).names.lookup y.1 = some .cell ∧ ((cellsFrom (s.heap.objs.size + 1) (defScope st).names []).lookup y.1).isSome = true) := fun y hy => by
      have hy1 : y.1 ∈ ps := (List.of_mem_zip (show (y.1, y.2) ∈ ps.zip us from hy)).1
      exact (S.par y.1 hy1).imp (fun z => z) fun z => ⟨z, PySem.W.cellsFrom_some _ _ _ (.inl z)⟩
    refine codeAny_call_function hr.depth (I.kIn _ _ lk) rfl S.co S.gen rfl (PySem.W.codeRec_of I.kIn hcd) (bd _ _ _ _ (wpAny_newFunctionEnv_cells S.kind kinds fun env he2 s1 x1 => ?_))
    subst he2
    refine ⟨I.nolimit.keeps x1.toInCall.keep, codeAny_func ?_⟩
    obtain ⟨u, hu, hq⟩ := hbody s H vs Q (hr.deeper _) q
    have J := L2H.inv_startH (CX := CX0) (E := E0) (qual := x) (f := f) (cd := .ref c) S pin I.env0 hl rv x1
    refine wpAny_mono (hu.run [] s1 (start N vs) H _ J hq) (fun fl s' hs => ?_) fun e2 s' hs => hs
    match fl, hs with
    | .ret u2, ⟨v, σ', H', J2, r2, q2⟩ => exact ⟨v, H', J2.os, J2.bare, J2.base, J2.hok, r2, q2⟩
    | .next, ⟨σ', H', J2, q2⟩ => exact ⟨V.non, H', J2.os, J2.bare, J2.base, J2.hok, rfl, q2⟩
    | .brk, ⟨_, _, _, q2⟩ => exact q2.elim
    | .cont, ⟨_, _, _, q2⟩ => exact q2.elim
  · match r, hq with
    | .ok (.ret u), hq => exact I.after hq
    | .error e2, hq => exact False.elim hq
/-- a block's reading is wanted only of as many slots as there are names -/
theorem pss_len {X : Cx} {sts : List Stmt} {t : TS} {n : Nat} (hn : X.N.length = n) (h : PSs X sts t) : PSs X sts (fun D σ H => σ.length = n → t D σ H) :=
  ⟨fun pins s σ H D I q => h.run pins s σ H D I (q (I.len.trans hn))⟩
end Lf

set_option maxHeartbeats 2000000
/-! things of any kind, and what the program makes of them -/
namespace Lf
open PySem PySem.Spec PyProof.Rows L2 GxR GxA SrT
mutual
/-- the thing x is the data d; its lists and dicts stand where F says -/
inductive ThF (K : PySem.W.Frag) (H : Hp) (F : Addr → Prop) : V → PyData → Prop
  | non : ThF K H F .non .none
  | bl (b : Bool) : ThF K H F (.bl b) (.bool b)
  | int (i : Int) : ThF K H F (.int i) (.int i)
  | str (z : Str) : ThF K H F (.str z) (.str z)
  | lst {a : Addr} {xs : List V} {ds : List PyData} : F a → SqL K H a xs → ThAllF K H F xs ds → ThF K H F (.ref a) (.list ds)
  | tup {a : Addr} {xs : List V} {ds : List PyData} : SqT K H a xs → ThAllF K H F xs ds → ThF K H F (.ref a) (.tuple ds)
  | dic {a : Addr} : F a → H a = some (.dK []) → ThF K H F (.ref a) (.dict [])
inductive ThAllF (K : PySem.W.Frag) (H : Hp) (F : Addr → Prop) : List V → List PyData → Prop
  | nil : ThAllF K H F [] []
  | cons {v : V} {vs : List V} {d : PyData} {ds : List PyData} : ThF K H F v d → ThAllF K H F vs ds → ThAllF K H F (v :: vs) (d :: ds)
end
abbrev Th (K : PySem.W.Frag) (H : Hp) : V → PyData → Prop := ThF K H fun _ => True
abbrev ThAll (K : PySem.W.Frag) (H : Hp) : List V → List PyData → Prop := ThAllF K H fun _ => True
section
variable {K : PySem.W.Frag} {Ps : Tbs} {H H' : Hp} {F F' : Addr → Prop}
mutual
theorem Ext.th (e : Ext Ps H H') : ∀ {d : PyData} {x : V}, ThF K H F x d → ThF K H' F x d
  | .none, _, h => by cases h; exact .non
  | .bool b, _, h => by cases h; exact .bl b
  | .int i, _, h => by cases h; exact .int i
  | .str y, _, h => by cases h; exact .str y
  | .list ds, _, h => by
    cases h with
    | lst hf hs ha => exact .lst hf (e.sqL hs) (Ext.thAll e ha)
  | .tuple ds, _, h => by
    cases h with
    | tup hs ha => exact .tup (e.sqT hs) (Ext.thAll e ha)
  | .dict _, _, h => by
    cases h with
    | dic hf hd => exact .dic hf (e.old _ _ hd fun q z => by cases z)
theorem Ext.thAll (e : Ext Ps H H') : ∀ {ds : List PyData} {xs : List V}, ThAllF K H F xs ds → ThAllF K H' F xs ds
  | [], _, h => by cases h; exact .nil
  | d :: ds, _, h => by
    cases h with
    | cons h1 h2 => exact .cons (Ext.th e h1) (Ext.thAll e h2)
end
mutual
theorem ThF.imp (e : ∀ a, F a → F' a) : ∀ {d : PyData} {x : V}, ThF K H F x d → ThF K H F' x d
  | .none, _, h => by cases h; exact .non
  | .bool b, _, h => by cases h; exact .bl b
  | .int i, _, h => by cases h; exact .int i
  | .str y, _, h => by cases h; exact .str y
  | .list ds, _, h => by
    cases h with
    | lst hf hs ha => exact .lst (e _ hf) hs (ThAllF.imp e ha)
  | .tuple ds, _, h => by
    cases h with
    | tup hs ha => exact .tup hs (ThAllF.imp e ha)
  | .dict _, _, h => by
    cases h with
    | dic hf hd => exact .dic (e _ hf) hd
theorem ThAllF.imp (e : ∀ a, F a → F' a) : ∀ {ds : List PyData} {xs : List V}, ThAllF K H F xs ds → ThAllF K H F' xs ds
  | [], _, h => by cases h; exact .nil
  | d :: ds, _, h => by
    cases h with
    | cons h1 h2 => exact .cons (ThF.imp e h1) (ThAllF.imp e h2)
end
theorem ThF.th {x : V} {d : PyData} (h : ThF K H F x d) : Th K H x d := h.imp fun _ _ => trivial
theorem ThAllF.th {xs : List V} {ds : List PyData} (h : ThAllF K H F xs ds) : ThAll K H xs ds := h.imp fun _ _ => trivial
mutual
/-- a list that is none of its own is written -/
theorem ThF.put {r : Addr} {l l' : List V} (hr : H r = some (.lst l)) (hn : ∀ a, F a → a ≠ r) : ∀ {d : PyData} {x : V}, ThF K H F x d → ThF K (upd H r (.lst l')) F x d
  | .none, _, h => by cases h; exact .non
  | .bool b, _, h => by cases h; exact .bl b
  | .int i, _, h => by cases h; exact .int i
  | .str y, _, h => by cases h; exact .str y
  | .list ds, _, h => by
    cases h with
    | lst hf hs ha =>
      refine .lst hf ?_ (ThAllF.put hr hn ha)
      rcases hs with (h | ⟨o, h⟩) | h
      · exact .inl (.inl (by rw [upd_ne (hn _ hf)]; exact h))
      · exact .inl (.inr ⟨o, by rw [upd_ne (hn _ hf)]; exact h⟩)
      · exact .inr h
  | .tuple ds, _, h => by
    cases h with
    | tup hs ha =>
      refine .tup ?_ (ThAllF.put hr hn ha)
      rcases hs with (h | ⟨o, h⟩) | h
      · exact .inl (.inl (by rw [upd_ne (ne_of h hr (by intro z; cases z))]; exact h))
      · exact .inl (.inr ⟨o, by rw [upd_ne (ne_of h hr (by intro z; cases z))]; exact h⟩)
      · exact .inr h
  | .dict _, _, h => by
    cases h with
    | dic hf hd => exact .dic hf (by rw [upd_ne (hn _ hf)]; exact hd)
theorem ThAllF.put {r : Addr} {l l' : List V} (hr : H r = some (.lst l)) (hn : ∀ a, F a → a ≠ r) : ∀ {ds : List PyData} {xs : List V}, ThAllF K H F xs ds → ThAllF K (upd H r (.lst l')) F xs ds
  | [], _, h => by cases h; exact .nil
  | d :: ds, _, h => by
    cases h with
    | cons h1 h2 => exact .cons (ThF.put hr hn h1) (ThAllF.put hr hn h2)
end
theorem thAll_len : ∀ {ds : List PyData} {xs : List V}, ThAllF K H F xs ds → xs.length = ds.length
  | [], _, h => by cases h; rfl
  | d :: ds, _, h => by
    cases h with
    | cons h1 h2 => rw [List.length_cons, List.length_cons, thAll_len h2]
theorem thAll_get : ∀ {ds : List PyData} {xs : List V} {i : Nat} {x : V}, ThAllF K H F xs ds → xs[i]? = some x → ∃ d, ds[i]? = some d ∧ ThF K H F x d
  | [], _, i, x, h, e => by
    cases h
    simp at e
  | d :: ds, _, 0, x, h, e => by
    cases h with
    | cons h1 h2 =>
      cases e
      exact ⟨d, rfl, h1⟩
  | d :: ds, _, i + 1, x, h, e => by
    cases h with
    | cons h1 h2 =>
      obtain ⟨d', q1, q2⟩ := thAll_get (i := i) (x := x) h2 (by simpa using e)
      exact ⟨d', by simpa using q1, q2⟩
theorem thAll_app : ∀ {ds es : List PyData} {xs ys : List V}, ThAllF K H F xs ds → ThAllF K H F ys es → ThAllF K H F (xs ++ ys) (ds ++ es)
  | [], _, _, _, h, h2 => by cases h; exact h2
  | d :: ds, _, _, _, h, h2 => by
    cases h with
    | cons h1 ht => exact .cons h1 (thAll_app ht h2)
theorem th_ints : ∀ ns : List Int, ThAllF K H F (ns.map V.int) (iD ns)
  | [] => .nil
  | n :: ns => .cons (.int n) (th_ints ns)
theorem th_tup {x : V} {ns : List Int} (h : TupI K H x ns) : ThF K H F x (tD ns) := by
  obtain ⟨t, rfl, hs⟩ := h
  exact .tup hs (th_ints ns)
theorem th_tups : ∀ {xs : List V} {fs : List (List Int)}, Paired (TupI K H) xs fs → ThAllF K H F xs (fs.map tD)
  | _, _, .nil => .nil
  | _, _, .cons h t => .cons (th_tup h) (th_tups t)
theorem th_stk {v : V} {n k : Int} {fss : List (List Int)} (h : Stk K H v n k fss) : ThF K H F v (stkD n k fss) := by
  obtain ⟨a, fa, xs, rfl, h1, h2, h3⟩ := h
  exact .tup h1 (.cons (.int n) (.cons (.int k) (.cons (.tup h2 (th_tups h3)) .nil)))
theorem th_ty {x : V} {d : PyData} (h : ThF K H F x d) : TyX K H x (.type (tyN d)) := by
  cases h with
  | non => exact .base .non
  | bl b => exact .base (.bl b)
  | int i => exact .base (.int i)
  | str y => exact .base (.str y)
  | lst hf hs ha => exact ty_lst hs
  | tup hs ha => exact ty_tup hs
  | dic hf hd => exact .base (.dK hd)
/-- a thing that is a tuple of ints -/
theorem th_asInts : ∀ {ds : List PyData} {xs : List V}, ThAllF K H F xs ds → (∀ d ∈ ds, ∃ i, d = .int i) → ∃ ns : List Int, xs = ns.map V.int ∧ ds = iD ns
  | [], _, h, _ => by cases h; exact ⟨[], rfl, rfl⟩
  | d :: ds, _, h, hd => by
    cases h with
    | cons h1 h2 =>
      obtain ⟨i, e⟩ := hd d List.mem_cons_self
      subst e
      cases h1
      obtain ⟨ns, e1, e2⟩ := th_asInts h2 fun d hd' => hd d (List.mem_cons_of_mem _ hd')
      exact ⟨i :: ns, by rw [e1]; rfl, by rw [e2]; rfl⟩
theorem th_asTups : ∀ {ds : List PyData} {xs : List V}, ThAllF K H F xs ds → (∀ d ∈ ds, ∃ ns, d = tD ns) → ∃ fss : List (List Int), Paired (TupI K H) xs fss ∧ ds = fss.map tD
  | [], _, h, _ => by cases h; exact ⟨[], .nil, rfl⟩
  | d :: ds, _, h, hd => by
    cases h with
    | cons h1 h2 =>
      obtain ⟨ns, e⟩ := hd d List.mem_cons_self
      subst e
      obtain ⟨fss, e1, e2⟩ := th_asTups h2 fun d hd' => hd d (List.mem_cons_of_mem _ hd')
      cases h1 with
      | tup hs ha =>
        obtain ⟨ms, e3, e4⟩ := th_asInts ha fun d hd => by
          obtain ⟨i, _, rfl⟩ := List.mem_map.mp hd
          exact ⟨i, rfl⟩
        have e5 : ns = ms := List.map_inj_right (fun a b h => by cases h; rfl) |>.mp (show ns.map PyData.int = ms.map PyData.int from e4)
        subst e5
        rw [e3] at hs
        exact ⟨ns :: fss, .cons ⟨_, rfl, hs⟩ e1, by rw [e2]; rfl⟩
end
/-! ### what is asked of data -/
def intIn (d : PyData) (lo hi : Int) : Bool := match d with
  | .int i => decide (lo ≤ i) && decide (i ≤ hi)
  | _ => false
def belowD (d : PyData) (m : Int) : Bool := match d with
  | .tuple ds => ds.all fun e => intIn e 0 (m - 1)
  | _ => false
def intsOf : PyData → List Int
  | .tuple ds => ds.map fun e => match e with
    | .int i => i
    | _ => 0
  | _ => []
theorem intsOf_tD (ns : List Int) : intsOf (tD ns) = ns := by
  show (ns.map PyData.int).map _ = ns
  rw [List.map_map]
  exact List.map_id' ns
def adjB {α : Type} (lt : α → α → Bool) : List α → Bool
  | x :: y :: r => lt x y && adjB lt (y :: r)
  | _ => true
theorem adjB_iff {α : Type} {lt : α → α → Bool} : ∀ {l : List α}, adjB lt l = true ↔ ∀ (i : Nat) (h : i + 1 < l.length), lt l[i] l[i + 1] = true
  | [] => by simp [adjB]
  | [x] => by simp [adjB]
  | x :: y :: r => by
    rw [adjB, Bool.and_eq_true, adjB_iff]
    constructor
    · rintro ⟨h1, h2⟩ i h
      cases i with
      | zero => exact h1
      | succ i => exact h2 i (by simpa using h)
    · intro h
      exact ⟨h 0 (by simp), fun i hi => h (i + 1) (by simpa using hi)⟩
theorem adjB_pw {α : Type} {lt : α → α → Bool} (tr : ∀ a b c, lt a b = true → lt b c = true → lt a c = true) : ∀ {l : List α}, adjB lt l = true ↔ l.Pairwise fun x y => lt x y = true
  | [] => by simp [adjB]
  | [x] => by simp [adjB]
  | x :: y :: r => by
    rw [adjB, Bool.and_eq_true, adjB_pw tr]
    constructor
    · rintro ⟨h1, h2⟩
      refine List.pairwise_cons.mpr ⟨fun a ha => ?_, h2⟩
      rcases List.mem_cons.mp ha with rfl | ha
      · exact h1
      · exact tr _ _ _ h1 ((List.pairwise_cons.mp h2).1 a ha)
    · intro h
      obtain ⟨h1, h2⟩ := List.pairwise_cons.mp h
      exact ⟨h1 y List.mem_cons_self, h2⟩
def ltI (a b : Int) : Bool := decide (a < b)
theorem adjI_pw {ns : List Int} : adjB ltI ns = true ↔ ns.Pairwise (· < ·) := by
  rw [adjB_pw (lt := ltI) fun a b c h1 h2 => decide_eq_true (by have := of_decide_eq_true h1; have := of_decide_eq_true h2; omega)]
  unfold ltI
  simp only [decide_eq_true_eq]
def risD (d : PyData) (m : Int) : Bool := belowD d m && adjB ltI (intsOf d)
def lenD : PyData → Nat
  | .tuple ds => ds.length
  | _ => 0
def facesD (n k : Int) (d : PyData) : Bool := match d with
  | .tuple ds => decide (1 ≤ ds.length ∧ ds.length ≤ 70) && (ds.all fun f => risD f n && decide ((lenD f : Int) = k)) && adjB lex (ds.map intsOf)
  | _ => false
def isStackD (d : PyData) : Bool := match d with
  | .tuple [.int n, .int k, f] => decide (1 ≤ n ∧ n ≤ 8) && decide (0 ≤ k ∧ k ≤ n ∧ k ≤ 4) && facesD n k f
  | _ => false
/-- below: a tuple of ints -/
theorem below_ints {d : PyData} {m : Int} (h : belowD d m = true) : ∃ ns, d = tD ns ∧ ∀ i ∈ ns, 0 ≤ i ∧ i < m := by
  cases d with
  | tuple ds =>
    have h' : ∀ e ∈ ds, intIn e 0 (m - 1) = true := List.all_eq_true.mp h
    have key : ∀ ds : List PyData, (∀ e ∈ ds, intIn e 0 (m - 1) = true) → ∃ ns : List Int, ds = iD ns ∧ ∀ i ∈ ns, 0 ≤ i ∧ i < m := by
      intro ds
      induction ds with
      | nil => intro _; exact ⟨[], rfl, fun i hi => by cases hi⟩
      | cons e ds ih =>
        intro h
        obtain ⟨ns, e1, e2⟩ := ih fun e he => h e (List.mem_cons_of_mem _ he)
        have h0 := h e List.mem_cons_self
        cases e with
        | int i =>
          have h0' : (decide (0 ≤ i) && decide (i ≤ m - 1)) = true := h0
          rw [Bool.and_eq_true, decide_eq_true_eq, decide_eq_true_eq] at h0'
          refine ⟨i :: ns, by rw [e1]; rfl, fun j hj => ?_⟩
          rcases List.mem_cons.mp hj with rfl | hj
          · omega
          · exact e2 j hj
        | _ => cases h0
    obtain ⟨ns, e1, e2⟩ := key ds h'
    exact ⟨ns, by subst e1; rfl, e2⟩
  | _ => cases h
theorem below_tD {ns : List Int} {m : Int} (h : ∀ i ∈ ns, 0 ≤ i ∧ i < m) : belowD (tD ns) m = true := by
  show (ns.map PyData.int).all _ = true
  rw [List.all_map, List.all_eq_true]
  intro i hi
  have := h i hi
  show (decide (0 ≤ i) && decide (i ≤ m - 1)) = true
  rw [decide_eq_true this.1, decide_eq_true (by omega)]
  rfl
theorem risD_iff {d : PyData} {m : Int} : risD d m = true ↔ ∃ ns, d = tD ns ∧ (∀ i ∈ ns, 0 ≤ i ∧ i < m) ∧ ns.Pairwise (· < ·) := by
  unfold risD
  rw [Bool.and_eq_true]
  constructor
  · rintro ⟨h1, h2⟩
    obtain ⟨ns, rfl, h3⟩ := below_ints h1
    rw [intsOf_tD, adjI_pw] at h2
    exact ⟨ns, rfl, h3, h2⟩
  · rintro ⟨ns, rfl, h1, h2⟩
    exact ⟨below_tD h1, by rw [intsOf_tD, adjI_pw]; exact h2⟩
end Lf

set_option maxHeartbeats 2000000
namespace Lf
open PySem PySem.Spec PyProof.Rows L2 GxR GxA SrT
section
variable {P : Program} {w : World} {K : PySem.W.Frag} {mg : Str → Option Value} {base : Heap} {Ps : Tbs} {H H' H0 : Hp} {k : Nat} {f c : Addr} {fd : FuncData}
/-! ### is_within of any thing -/
def spWithinX (K : PySem.W.Frag) : Sp := fun vs H Q _ => ∃ (x : V) (d : PyData) (lo hi : Int), vs = [x, .int lo, .int hi] ∧ Th K H x d ∧ Q (.bl (intIn d lo hi)) H
theorem ok_withinX (D : Def K mg "is_within" sWithin ["thing", "least", "most"] f fd c) (mi : mg "isinstance" = none) (mn : mg "int" = none) (mb : mg "bool" = none) : FnOk P w K mg base CX0 (k + 1) f fd ["thing", "least", "most"] (spWithinX K) := by
  refine D.ok scWithin (fun vs H Q E h => ?_) (fun A outer s H vs Q E hr h => ?_)
  · obtain ⟨x, d, lo, hi, rfl, _⟩ := h
    rfl
  · obtain ⟨x, d, lo, hi, rfl, hx, q⟩ := h
    refine ⟨_, pss_cons (ps_if (PW.pt (pw_or (pt_not (pt_val (pe_callB call_isi (by rfl) mi (by decide +kernel) (pa_cons (pv 0) (pa_cons (pe_bltn (v := .ty "int") (by rfl) mn (by decide +kernel) rfl) pa_nil)))))
        (pw_or1 (pt_val (pe_callB call_isi (by rfl) mi (by decide +kernel) (pa_cons (pv 0) (pa_cons (pe_bltn (v := .ty "bool") (by rfl) mb (by decide +kernel) rfl) pa_nil))))))) (pss_one (ps_ret pe_bl)) pss_nil)
      (pss_one (ps_ret (pe_chain op_le op_le (pv 1) (pv 0) (pv 2)))), ?_⟩
    have ty := th_ty hx
    cases d with
    | int i =>
      cases hx
      refine ⟨.int i, rfl, .int i, .ty "int", .type "int", .type "int", true, rfl, .ty _, ty, kit_ty (by decide +kernel), true, rfl, iteF ?_⟩
      refine ⟨.int i, rfl, .int i, .ty "bool", .type "int", .type "bool", false, rfl, .ty _, ty, kit_ty (by decide +kernel), false, rfl, iteF ?_⟩
      refine ⟨.int lo, rfl, .int i, rfl, lo, i, rfl, rfl, _, rfl, ?_⟩
      have q' : Q (.bl (decide (lo ≤ i) && decide (i ≤ hi))) H := q
      refine ite2 (fun hc => ?_) (fun hc => ?_)
      · have hc' : decide (lo ≤ i) = true := hc
        rw [hc', Bool.true_and] at q'
        exact ⟨.int hi, rfl, i, hi, rfl, rfl, q'⟩
      · have hc' : decide (lo ≤ i) = false := by
          cases e : decide (lo ≤ i) with
          | false => rfl
          | true => exact absurd e hc
        rw [hc', Bool.false_and] at q'
        exact q'
    | bool b =>
      cases hx
      refine ⟨.bl b, rfl, .bl b, .ty "int", .type "bool", .type "int", true, rfl, .ty _, ty, kit_ty (by decide +kernel), true, rfl, iteF ?_⟩
      exact ⟨.bl b, rfl, .bl b, .ty "bool", .type "bool", .type "bool", true, rfl, .ty _, ty, kit_ty (by decide +kernel), true, rfl, iteT q⟩
    | none => exact ⟨x, rfl, x, .ty "int", .type "NoneType", .type "int", false, rfl, .ty _, ty, kit_ty (by decide +kernel), false, rfl, iteT q⟩
    | str z => exact ⟨x, rfl, x, .ty "int", .type "str", .type "int", false, rfl, .ty _, ty, kit_ty (by decide +kernel), false, rfl, iteT q⟩
    | list ds => exact ⟨x, rfl, x, .ty "int", .type "list", .type "int", false, rfl, .ty _, ty, kit_ty (by decide +kernel), false, rfl, iteT q⟩
    | tuple ds => exact ⟨x, rfl, x, .ty "int", .type "tuple", .type "int", false, rfl, .ty _, ty, kit_ty (by decide +kernel), false, rfl, iteT q⟩
    | dict kvs => exact ⟨x, rfl, x, .ty "int", .type "dict", .type "int", false, rfl, .ty _, ty, kit_ty (by decide +kernel), false, rfl, iteT q⟩
/-- whether a thing is a tuple -/
def isTup : PyData → Bool
  | .tuple _ => true
  | _ => false
theorem tup_kit {x : V} {d : PyData} (hx : Th K H x d) : ∃ t : String, TyX K H x (.type t) ∧ kitB t "tuple" = some (isTup d) := by
  refine ⟨tyN d, th_ty hx, ?_⟩
  cases d with
  | none => exact (show kitB "NoneType" "tuple" = some false by decide +kernel)
  | bool b => exact (show kitB "bool" "tuple" = some false by decide +kernel)
  | int i => exact (show kitB "int" "tuple" = some false by decide +kernel)
  | str z => exact (show kitB "str" "tuple" = some false by decide +kernel)
  | list ds => exact (show kitB "list" "tuple" = some false by decide +kernel)
  | tuple ds => exact (show kitB "tuple" "tuple" = some true by decide +kernel)
  | dict kvs => exact (show kitB "dict" "tuple" = some false by decide +kernel)
/-! ### all_below of any thing -/
def spBelowX (K : PySem.W.Frag) (Ps : Tbs) : Sp := fun vs H Q _ => ∃ (x : V) (d : PyData) (m : Int), vs = [x, .int m] ∧ Th K H x d ∧ Tb Ps H ∧ ∀ H', Ext Ps H H' → Q (.bl (belowD d m)) H'
theorem ok_belowX {fW cW PT : Addr} {fdW : FuncData} (D : Def K mg "all_below" sBelow ["thing", "many"] f fd c) (DW : Def K mg "is_within" sWithin ["thing", "least", "most"] fW fdW cW) (TB : TabB base mg c PT) (hP : PT ∈ Ps)
    (mi : mg "isinstance" = none) (mn : mg "int" = none) (mb : mg "bool" = none) (mt : mg "tuple" = none) (ma : mg "all" = none) : FnOk P w K mg base CX0 (k + 3) f fd ["thing", "many"] (spBelowX K Ps) := by
  have GW : FnOk P w K mg base CX0 (k + 1) fW fdW ["thing", "least", "most"] (spWithinX K) := ok_withinX DW mi mn mb
  refine D.ok (k := k + 2) scBelow (fun vs H Q E h => ?_) (fun A outer s H vs Q E hr h => ?_)
  · obtain ⟨x, d, m, rfl, _⟩ := h
    rfl
  · obtain ⟨x, d, m, rfl, hx, ht, q⟩ := h
    refine ⟨_, pss_one (ps_ret (pe_and (pe_callB call_isi (by rfl) mi (by decide +kernel) (pa_cons (pv 0) (pa_cons (pe_bltn (v := .ty "tuple") (by rfl) mt (by decide +kernel) rfl) pa_nil)))
      (pe_one (pe_allG (k := k + 1) (caps := [1]) (xs := ["many"]) hr (by rfl) ma TB rfl (genS rfl rfl (by decide +kernel) rfl rfl) ⟨⟨rfl, .inl rfl, rfl⟩, trivial⟩ (by decide +kernel) (pi_tup (pv 0))
        (fun _ _ _ _ _ _ _ hr' => pcl DW GW hr' (pa_cons (pv 0) (pa_cons pe_int (pa_cons (pe_op op_sub (pv 1) pe_int) pa_nil)))) (fun _ => rfl))))), ?_⟩
    obtain ⟨t, ty, hk⟩ := tup_kit hx
    refine ⟨x, rfl, x, .ty "tuple", .type t, .type "tuple", isTup d, rfl, .ty _, ty, kit_ty hk, isTup d, rfl, ?_⟩
    cases d with
    | tuple ds =>
      cases hx with
      | @tup a xs _ hS ha =>
      refine iteT ⟨.ref a, rfl, a, rfl, ⟨_, hS⟩, ht.gen PT hP, fun H2 hT2 => ?_⟩
      have e2 := Ext.of_tabbed ht hP hT2
      refine gW_tup (xs := xs) (fun i H3 => H3 = H2 ∧ (ds.take i).all (fun e => intIn e 0 (m - 1)) = true) ⟨rfl, rfl⟩ (fun i H3 e => by rw [e.1]; exact e2.sqT hS) (fun H3 e => ?_) fun i H3 y hy e => ?_
      · obtain ⟨rfl, h2⟩ := e
        rw [thAll_len ha, List.take_length] at h2
        have z := q _ e2
        rw [show belowD (.tuple ds) m = true from h2] at z
        exact z
      · obtain ⟨rfl, h2⟩ := e
        obtain ⟨d', hd, hy'⟩ := thAll_get ha hy
        refine ⟨y, rfl, .int m, rfl, m, 1, rfl, rfl, y, d', 0, m - 1, rfl, e2.th hy', _, rfl, fun hb => ⟨rfl, ?_⟩, fun hb => ?_⟩
        · rw [List.take_add_one, hd, List.all_append, h2]
          simpa using hb
        · have z := q _ e2
          have hb' : intIn d' 0 (m - 1) = false := by simpa using hb
          have e5 : belowD (.tuple ds) m = false := by
            show ds.all _ = false
            rw [List.all_eq_false]
            exact ⟨d', List.mem_of_getElem? hd, by rw [hb']; simp⟩
          rw [e5] at z
          rw [hb']
          exact z
    | none => exact iteF (q _ (Ext.refl ht))
    | bool b => exact iteF (q _ (Ext.refl ht))
    | int i => exact iteF (q _ (Ext.refl ht))
    | str z => exact iteF (q _ (Ext.refl ht))
    | list ds => exact iteF (q _ (Ext.refl ht))
    | dict kvs => exact iteF (q _ (Ext.refl ht))
/-! ### rises, either way -/
/-- the things of xs, and whether each is less than the next -/
def AdjV (K : PySem.W.Frag) (H : Hp) (xs : List V) (b : Bool) : Prop := (∃ ns : List Int, xs = ns.map V.int ∧ b = adjB ltI ns) ∨ ∃ fss, Paired (TupI K H) xs fss ∧ b = adjB lex fss
def spRisesX (K : PySem.W.Frag) (Ps : Tbs) : Sp := fun vs H Q _ => ∃ (a : Addr) (xs : List V) (b : Bool), vs = [.ref a] ∧ SqT K H a xs ∧ AdjV K H xs b ∧ xs.length ≤ 1000 ∧ Tb Ps H ∧ ∀ H', Ext Ps H H' → Q (.bl b) H'
theorem ok_risesX {PT : Addr} (D : Def K mg "rises" sRises ["things"] f fd c) (TB : TabB base mg c PT) (hP : PT ∈ Ps) (ma : mg "all" = none) (mr : mg "range" = none) (ml : mg "len" = none) :
    FnOk P w K mg base CX0 (k + 2) f fd ["things"] (spRisesX K Ps) := by
  refine D.ok (k := k + 1) scRises (fun vs H Q E h => ?_) (fun A outer s H vs Q E hr h => ?_)
  · obtain ⟨a, xs, b, rfl, _⟩ := h
    rfl
  · obtain ⟨a, xs, b, rfl, hS, hR, hl, ht, q⟩ := h
    refine ⟨_, pss_one (ps_ret (pe_allG (k := k) (caps := [0]) (xs := ["things"]) hr (by rfl) ma TB rfl (genS rfl rfl (by decide +kernel) rfl rfl) ⟨⟨rfl, .inl rfl, rfl⟩, trivial⟩ (by decide +kernel)
      (pi_range1 (by rfl) mr (pa_cons (pe_op op_sub (pe_callB call_len_seq (by rfl) ml PySem.boot_len (pa_cons (pv 0) pa_nil)) pe_int) pa_nil))
        (fun _ _ _ _ _ _ _ hr' => pe_cmpR (OpR.or op_lt (show OpR _ _ (rLtT K) from op_ltT hr'.units0)) (pe_ix (show IxR _ (rIxT K) from ix_tup) (pv 1) (pv 0) (fun _ _ => rfl)) (pe_ix (show IxR _ (rIxT K) from ix_tup) (pv 1) (pe_op op_add (pv 0) pe_int) (fun _ _ => rfl)) (nomark _)) (fun _ => rfl))), ?_⟩
    refine ⟨.ref a, rfl, a, xs, rfl, .inr hS, (xs.length : Int), 1, rfl, rfl, (xs.length : Int) - 1, rfl, by omega, by omega, ht.gen PT hP, fun H2 hT2 => ?_⟩
    have e2 := Ext.of_tabbed ht hP hT2
    rcases hR with ⟨ns, rfl, rfl⟩ | ⟨fss, hp, rfl⟩
    · refine gW_rng (fun i H3 => H3 = H2 ∧ ∀ (j : Nat) (h : j + 1 < ns.length), j < i → ltI ns[j] ns[j + 1] = true) ⟨rfl, fun j _ hj => by omega⟩ (fun H3 e => ?_) fun i H3 hi e => ?_
      · obtain ⟨rfl, e⟩ := e
        have z := q _ e2
        rw [adjB_iff.mpr fun j hj => e j hj (by rw [List.length_map]; omega)] at z
        exact z
      · obtain ⟨rfl, e⟩ := e
        rw [List.length_map] at hi
        have h1 : i < ns.length := by omega
        have h2 : i + 1 < ns.length := by omega
        refine ⟨.ref a, rfl, .int (0 + i), rfl, a, _, 0 + i, .int ns[i], rfl, rfl, e2.sqT hS, ?_, .ref a, rfl, .int (0 + i), rfl, 0 + i, 1, rfl, rfl, a, _, 0 + i + 1, .int ns[i + 1], rfl, rfl, e2.sqT hS, ?_, ?_⟩
        · rw [Int.zero_add]
          exact atI_nat (by rw [List.getElem?_map, List.getElem?_eq_getElem h1]; rfl)
        · have : (0 + (i : Int) + 1) = ((i + 1 : Nat) : Int) := by omega
          rw [this]
          exact atI_nat (by rw [List.getElem?_map, List.getElem?_eq_getElem h2]; rfl)
        · refine .inl ⟨ns[i], ns[i + 1], rfl, rfl, ltI ns[i] ns[i + 1], rfl, fun hb => ⟨rfl, fun j hj hji => ?_⟩, fun hb => ?_⟩
          · by_cases eij : j = i
            · subst eij
              exact hb
            · exact e j hj (by omega)
          · have hb' : ltI ns[i] ns[i + 1] = false := by simpa using hb
            have z := q _ e2
            have e5 : adjB ltI ns = false := by
              cases e6 : adjB ltI ns with
              | false => rfl
              | true =>
                rw [adjB_iff.mp e6 i h2] at hb'
                cases hb'
            rw [e5] at z
            rw [hb']
            exact z
    · have hlen := Paired.length hp
      refine gW_rng (fun i H3 => H3 = H2 ∧ ∀ (j : Nat) (h : j + 1 < fss.length), j < i → lex fss[j] fss[j + 1] = true) ⟨rfl, fun j _ hj => by omega⟩ (fun H3 e => ?_) fun i H3 hi e => ?_
      · obtain ⟨rfl, e⟩ := e
        have z := q _ e2
        rw [adjB_iff.mpr fun j hj => e j hj (by omega)] at z
        exact z
      · obtain ⟨rfl, e⟩ := e
        have h1 : i < xs.length := by omega
        have h2 : i + 1 < xs.length := by omega
        refine ⟨.ref a, rfl, .int (0 + i), rfl, a, xs, 0 + i, xs[i], rfl, rfl, e2.sqT hS, ?_, .ref a, rfl, .int (0 + i), rfl, 0 + i, 1, rfl, rfl, a, xs, 0 + i + 1, xs[i + 1], rfl, rfl, e2.sqT hS, ?_, ?_⟩
        · rw [Int.zero_add]
          exact atI_nat (List.getElem?_eq_getElem h1)
        · have : (0 + (i : Int) + 1) = ((i + 1 : Nat) : Int) := by omega
          rw [this]
          exact atI_nat (List.getElem?_eq_getElem h2)
        · obtain ⟨f1, k1, ⟨t1, z1, s1⟩⟩ := paired_get hp (List.getElem?_eq_getElem h1)
          obtain ⟨f2, k2, ⟨t2, z2, s2⟩⟩ := paired_get hp (List.getElem?_eq_getElem h2)
          obtain ⟨g1, k1⟩ := List.getElem?_eq_some_iff.mp k1
          obtain ⟨g2, k2⟩ := List.getElem?_eq_some_iff.mp k2
          refine .inr ⟨t1, t2, f1, f2, z1, z2, e2.sqT s1, e2.sqT s2, lex f1 f2, rfl, fun hb => ⟨rfl, fun j hj hji => ?_⟩, fun hb => ?_⟩
          · by_cases eij : j = i
            · subst eij
              rw [k1, k2]
              exact hb
            · exact e j hj (by omega)
          · have hb' : lex f1 f2 = false := by simpa using hb
            have z := q _ e2
            have e5 : adjB lex fss = false := by
              cases e6 : adjB lex fss with
              | false => rfl
              | true =>
                have := adjB_iff.mp e6 i g2
                rw [k1, k2, hb'] at this
                cases this
            rw [e5] at z
            rw [hb']
            exact z
/-! ### is_rising of any thing -/
def spRisingX (K : PySem.W.Frag) (Ps : Tbs) : Sp := fun vs H Q _ => ∃ (x : V) (d : PyData) (m : Int), vs = [x, .int m] ∧ Th K H x d ∧ wide d = true ∧ Tb Ps H ∧ ∀ H', Ext Ps H H' → Q (.bl (risD d m)) H'
theorem ok_risingX {fB cB fR cR : Addr} {fdB fdR : FuncData} (D : Def K mg "is_rising" sRising ["thing", "many"] f fd c) (DB : Def K mg "all_below" sBelow ["thing", "many"] fB fdB cB) (DR : Def K mg "rises" sRises ["things"] fR fdR cR)
    (GB : FnOk P w K mg base CX0 (k + 3) fB fdB ["thing", "many"] (spBelowX K Ps)) (GR : FnOk P w K mg base CX0 (k + 3) fR fdR ["things"] (spRisesX K Ps)) : FnOk P w K mg base CX0 (k + 4) f fd ["thing", "many"] (spRisingX K Ps) := by
  refine D.ok (k := k + 3) scRising (fun vs H Q E h => ?_) (fun A outer s H vs Q E hr h => ?_)
  · obtain ⟨x, d, m, rfl, _⟩ := h
    rfl
  · obtain ⟨x, d, m, rfl, hx, hw, ht, q⟩ := h
    refine ⟨_, pss_one (ps_ret (pe_and (pcl DB GB hr (pa_cons (pv 0) (pa_cons (pv 1) pa_nil))) (pe_one (pcl DR GR hr (pa_cons (pv 0) pa_nil))))), ?_⟩
    refine ⟨x, rfl, .int m, rfl, x, d, m, rfl, hx, ht, fun H1 e1 => ⟨belowD d m, rfl, ?_⟩⟩
    cases hb : belowD d m with
    | false =>
      have e5 : risD d m = false := by
        unfold risD
        rw [hb]
        rfl
      have z := q _ e1
      rw [e5] at z
      exact iteF z
    | true =>
      obtain ⟨ns, rfl, hns⟩ := below_ints hb
      have e5 : risD (tD ns) m = adjB ltI ns := by
        unfold risD
        rw [hb, intsOf_tD]
        rfl
      have hl : ns.length ≤ 1000 := by
        have h0 : wide (.tuple (iD ns)) = true := hw
        rw [wide, Bool.and_eq_true, decide_eq_true_eq, List.length_map] at h0
        exact h0.1
      rw [e5] at q
      cases hx with
      | @tup a xs _ hS ha =>
      obtain ⟨ms, rfl, e4⟩ := th_asInts ha fun d hd => by
        obtain ⟨i, _, rfl⟩ := List.mem_map.mp hd
        exact ⟨i, rfl⟩
      have e6 : ns = ms := List.map_inj_right (fun a b h => by cases h; rfl) |>.mp (show ns.map PyData.int = ms.map PyData.int from e4)
      subst e6
      exact iteT ⟨.ref a, rfl, a, _, adjB ltI ns, rfl, e1.sqT hS, .inl ⟨ns, rfl, rfl⟩, by rw [List.length_map]; exact hl, e1.tb, fun H2 e2 => q _ (e1.trans e2)⟩
end
end Lf

set_option maxHeartbeats 2000000
namespace Lf
open PySem PySem.Spec PyProof.Rows L2 GxR GxA SrT
theorem lexT : ∀ {a b c : List Int}, lex a b = true → lex b c = true → lex a c = true
  | [], [], _, h, _ => by cases h
  | [], _ :: _, [], _, h => by cases h
  | [], _ :: _, _ :: _, _, _ => rfl
  | _ :: _, [], _, h, _ => by cases h
  | _ :: _, _ :: _, [], _, h => by cases h
  | x :: xs, y :: ys, z :: zs, h1, h2 => by
    have a1 : (if x = y then lex xs ys else decide (x < y)) = true := h1
    have a2 : (if y = z then lex ys zs else decide (y < z)) = true := h2
    show (if x = z then lex xs zs else decide (x < z)) = true
    by_cases e1 : x = y
    · by_cases e2 : y = z
      · rw [if_pos e1] at a1
        rw [if_pos e2] at a2
        rw [if_pos (e1.trans e2)]
        exact lexT a1 a2
      · rw [if_neg e2] at a2
        rw [if_neg (by omega)]
        have := of_decide_eq_true a2
        exact decide_eq_true (by omega)
    · rw [if_neg e1] at a1
      have b1 := of_decide_eq_true a1
      by_cases e2 : y = z
      · rw [if_neg (by omega)]
        exact decide_eq_true (by omega)
      · rw [if_neg e2] at a2
        have b2 := of_decide_eq_true a2
        rw [if_neg (by omega)]
        exact decide_eq_true (by omega)
theorem wide_tup {ds : List PyData} (h : wide (.tuple ds) = true) : ds.length ≤ 1000 ∧ ∀ d ∈ ds, wide d = true := by
  rw [wide, Bool.and_eq_true, decide_eq_true_eq] at h
  exact ⟨h.1, fun d hd => wideAll_mem h.2 hd⟩
/-- where all are rising, they are tuples of ints -/
theorem all_ris {ds : List PyData} {n k : Int} (h : (ds.all fun f => risD f n && decide ((lenD f : Int) = k)) = true) : ∃ fss : List (List Int), ds = fss.map tD ∧ ∀ g ∈ fss, (∀ i ∈ g, 0 ≤ i ∧ i < n) ∧ g.Pairwise (· < ·) ∧ (g.length : Int) = k := by
  induction ds with
  | nil => exact ⟨[], rfl, fun g hg => by cases hg⟩
  | cons d ds ih =>
    rw [List.all_cons, Bool.and_eq_true, Bool.and_eq_true, decide_eq_true_eq] at h
    obtain ⟨⟨h1, h2⟩, h3⟩ := h
    obtain ⟨fss, e1, e2⟩ := ih h3
    obtain ⟨ns, rfl, h4, h5⟩ := risD_iff.mp h1
    have h6 : (ns.length : Int) = k := by
      have z : lenD (tD ns) = ns.length := List.length_map ..
      rw [z] at h2
      exact h2
    refine ⟨ns :: fss, by rw [e1]; rfl, fun g hg => ?_⟩
    rcases List.mem_cons.mp hg with rfl | hg
    · exact ⟨h4, h5, h6⟩
    · exact e2 g hg
theorem map_ints (fss : List (List Int)) : (fss.map tD).map intsOf = fss := by
  rw [List.map_map]
  have e : (intsOf ∘ tD) = id := by
    funext g
    exact intsOf_tD g
  rw [e, List.map_id]
/-- a stack by its data -/
theorem isStackD_iff {d : PyData} : isStackD d = true ↔ ∃ n k fss, d = stkD n k fss ∧ StkOk n k fss := by
  constructor
  · intro h
    unfold isStackD at h
    split at h
    · rename_i n k f
      rw [Bool.and_eq_true, Bool.and_eq_true, decide_eq_true_eq, decide_eq_true_eq] at h
      obtain ⟨⟨hn, hk⟩, hf⟩ := h
      unfold facesD at hf
      split at hf
      · rename_i ds
        rw [Bool.and_eq_true, Bool.and_eq_true, decide_eq_true_eq] at hf
        obtain ⟨⟨hl, ha⟩, hs⟩ := hf
        obtain ⟨fss, rfl, hg⟩ := all_ris ha
        rw [map_ints, adjB_pw (lt := lex) fun a b c h1 h2 => lexT h1 h2] at hs
        rw [List.length_map] at hl
        exact ⟨n, k, fss, rfl, hn.1, hn.2, hk.1, hk.2.1, hk.2.2, hl.1, hl.2, fun g h => (hg g h).2.2, fun g h => (hg g h).2.1, fun g h => (hg g h).1, hs⟩
      · cases hf
    · cases h
  · rintro ⟨n, k, fss, rfl, S⟩
    show (decide (1 ≤ n ∧ n ≤ 8) && decide (0 ≤ k ∧ k ≤ n ∧ k ≤ 4) && facesD n k (.tuple (fss.map tD))) = true
    rw [decide_eq_true ⟨S.n1, S.n8⟩, decide_eq_true ⟨S.k0, S.kn, S.k4⟩, Bool.and_self, Bool.true_and]
    show (decide (1 ≤ (fss.map tD).length ∧ (fss.map tD).length ≤ 70) && ((fss.map tD).all fun f => risD f n && decide ((lenD f : Int) = k)) && adjB lex ((fss.map tD).map intsOf)) = true
    rw [map_ints, (adjB_pw (lt := lex) fun a b c h1 h2 => lexT h1 h2).mpr S.srt, List.length_map, decide_eq_true ⟨S.l1, S.l70⟩, Bool.true_and, Bool.and_true, List.all_map, List.all_eq_true]
    intro g hg
    show (risD (tD g) n && decide ((lenD (tD g) : Int) = k)) = true
    rw [risD_iff.mpr ⟨g, rfl, S.bel g hg, S.ris g hg⟩, Bool.true_and]
    have z : lenD (tD g) = g.length := List.length_map ..
    rw [z]
    exact decide_eq_true (S.len g hg)
section
variable {P : Program} {w : World} {K : PySem.W.Frag} {mg : Str → Option Value} {base : Heap} {Ps : Tbs} {H H' H0 : Hp} {k : Nat} {f c : Addr} {fd : FuncData}
/-! ### are_faces of any thing -/
def spAreFacesX (K : PySem.W.Frag) (Ps : Tbs) : Sp := fun vs H Q _ => ∃ (n k : Int) (x : V) (d : PyData), vs = [.int n, .int k, x] ∧ Th K H x d ∧ wide d = true ∧ Tb Ps H ∧ ∀ H', Ext Ps H H' → Q (.bl (facesD n k d)) H'
theorem ok_areFacesX {fR cR fS cS PT : Addr} {fdR fdS : FuncData} {t70 : Tok} (D : Def K mg "are_faces" sAreFaces ["n", "k", "thing"] f fd c) (DR : Def K mg "is_rising" sRising ["thing", "many"] fR fdR cR) (GR : FnOk P w K mg base CX0 k fR fdR ["thing", "many"] (spRisingX K Ps))
    (DS : Def K mg "rises" sRises ["things"] fS fdS cS) (GS : FnOk P w K mg base CX0 (k + 1) fS fdS ["things"] (spRisesX K Ps)) (TB : TabB base mg c PT) (hP : PT ∈ Ps)
    (mi : mg "isinstance" = none) (mt : mg "tuple" = none) (ml : mg "len" = none) (ma : mg "all" = none) (m70 : mg "MOST_FACES" = some (.int 70 t70)) : FnOk P w K mg base CX0 (k + 2) f fd ["n", "k", "thing"] (spAreFacesX K Ps) := by
  refine D.ok (k := k + 1) scAreFaces (fun vs H Q E h => ?_) (fun A outer s H vs Q E hr h => ?_)
  · obtain ⟨n, kk, x, d, rfl, _⟩ := h
    rfl
  · obtain ⟨n, kk, x, d, rfl, hx, hw, ht, q⟩ := h
    refine ⟨_, pss_cons (ps_if (PW.pt (pw_or (pt_not (pt_val (pe_callB call_isi (by rfl) mi (by decide +kernel) (pa_cons (pv 2) (pa_cons (pe_bltn (v := .ty "tuple") (by rfl) mt (by decide +kernel) rfl) pa_nil)))))
        (pw_or1 (pt_not (pt_chain op_le op_le pe_int (pe_callB call_len_seq (by rfl) ml PySem.boot_len (pa_cons (pv 2) pa_nil)) (pe_glob rfl m70 (v := .int 70) ⟨_, rfl⟩)))))) (pss_one (ps_ret pe_bl)) pss_nil)
      (pss_one (ps_ret (pe_and (pe_allG (k := k) (caps := [0, 1]) (xs := ["n", "k"]) hr (by rfl) ma TB rfl (genS rfl rfl (by decide +kernel) rfl rfl) ⟨⟨rfl, .inl rfl, rfl⟩, ⟨rfl, .inl rfl, rfl⟩, trivial⟩ (by decide +kernel) (pi_tup (pv 2))
        (fun _ _ _ _ _ _ _ hr' => pe_and (pcl DR GR hr' (pa_cons (pv 0) (pa_cons (pv 1) pa_nil))) (pe_one (pe_cmpR op_eq (pe_callB (call_lenS (K := K) rfl) (by rfl) ml PySem.boot_len (pa_cons (pv 0) pa_nil)) (pv 2) (nomark _)))) (fun _ => rfl))
        (pe_one (pcl DS GS hr (pa_cons (pv 2) pa_nil)))))), ?_⟩
    obtain ⟨t, ty, hk⟩ := tup_kit hx
    refine ⟨x, rfl, x, .ty "tuple", .type t, .type "tuple", isTup d, rfl, .ty _, ty, kit_ty hk, isTup d, rfl, ?_⟩
    have no : isTup d = false → facesD n kk d = false := by
      intro e
      cases d with
      | tuple ds => cases e
      | _ => rfl
    cases hd : isTup d with
    | false =>
      have z := q _ (Ext.refl ht)
      rw [no hd] at z
      exact iteT z
    | true =>
      cases d with
      | tuple ds =>
        cases hx with
        | @tup a xs _ hS ha =>
        have hlen := thAll_len ha
        obtain ⟨hw1, hw2⟩ := wide_tup hw
        refine iteF ⟨.ref a, rfl, a, xs, rfl, .inr hS, 1, (xs.length : Int), rfl, rfl, decide ((1 : Int) ≤ (xs.length : Int)), rfl, ?_⟩
        by_cases c1 : 1 ≤ ds.length ∧ ds.length ≤ 70
        · rw [decide_eq_true (show (1 : Int) ≤ (xs.length : Int) by omega)]
          refine iteT ⟨(xs.length : Int), 70, rfl, rfl, decide ((xs.length : Int) ≤ 70), rfl, ?_⟩
          rw [decide_eq_true (show (xs.length : Int) ≤ 70 by omega)]
          refine iteF ⟨.ref a, rfl, a, rfl, ⟨_, hS⟩, ht.gen PT hP, fun H2 hT2 => ?_⟩
          have e2 := Ext.of_tabbed ht hP hT2
          refine gW_tup (xs := xs) (fun i H3 => Ext Ps H H3 ∧ ((ds.take i).all fun f => risD f n && decide ((lenD f : Int) = kk)) = true) ⟨e2, rfl⟩ (fun i H3 e => e.1.sqT hS) (fun H3 e => ?_) fun i H3 y hy e => ?_
          · obtain ⟨e, h2⟩ := e
            rw [hlen, List.take_length] at h2
            have ef : facesD n kk (.tuple ds) = adjB lex (ds.map intsOf) := by
              show (decide (1 ≤ ds.length ∧ ds.length ≤ 70) && (ds.all fun f => risD f n && decide ((lenD f : Int) = kk)) && adjB lex (ds.map intsOf)) = _
              rw [decide_eq_true c1, h2]
              rfl
            rw [ef] at q
            obtain ⟨fss, rfl, hg⟩ := all_ris h2
            rw [map_ints] at q
            obtain ⟨gss, hp, e4⟩ := th_asTups (e.thAll ha) fun d hd => by
              obtain ⟨g, _, rfl⟩ := List.mem_map.mp hd
              exact ⟨g, rfl⟩
            have e5 : fss = gss := by
              have z := congrArg (List.map intsOf) e4
              rw [map_ints, map_ints] at z
              exact z
            subst e5
            exact ⟨true, rfl, iteT ⟨.ref a, rfl, a, xs, _, rfl, e.sqT hS, .inr ⟨fss, hp, rfl⟩, by omega, e.tb, fun H4 e4 => q _ (e.trans e4)⟩⟩
          · obtain ⟨e, h2⟩ := e
            obtain ⟨d', hd', hy'⟩ := thAll_get ha hy
            have hm := List.mem_of_getElem? hd'
            have wrong : (risD d' n && decide ((lenD d' : Int) = kk)) = false → facesD n kk (.tuple ds) = false := fun hb => by
              have z : (ds.all fun f => risD f n && decide ((lenD f : Int) = kk)) = false := by
                rw [List.all_eq_false]
                exact ⟨d', hm, by rw [hb]; simp⟩
              show (decide (1 ≤ ds.length ∧ ds.length ≤ 70) && (ds.all fun f => risD f n && decide ((lenD f : Int) = kk)) && adjB lex (ds.map intsOf)) = false
              rw [z, Bool.and_false, Bool.false_and]
            refine ⟨y, rfl, .int n, rfl, y, d', n, rfl, e.th hy', hw2 d' hm, e.tb, fun H4 e4 => ⟨risD d' n, rfl, ?_⟩⟩
            cases hb : risD d' n with
            | false =>
              have z := q _ (e.trans e4)
              rw [wrong (by rw [hb]; rfl)] at z
              exact iteF ⟨false, rfl, (fun y => by cases y), fun _ => ⟨false, rfl, iteF z⟩⟩
            | true =>
              obtain ⟨g, rfl, hg1, hg2⟩ := risD_iff.mp hb
              obtain ⟨gt, rfl, hgs⟩ : TupI K H4 y g := by
                cases (e4.th (e.th hy')) with
                | @tup b zs _ hS2 ha2 =>
                obtain ⟨ms, rfl, e7⟩ := th_asInts ha2 fun d hd => by
                  obtain ⟨i, _, rfl⟩ := List.mem_map.mp hd
                  exact ⟨i, rfl⟩
                have e8 : g = ms := List.map_inj_right (fun a b h => by cases h; rfl) |>.mp (show g.map PyData.int = ms.map PyData.int from e7)
                subst e8
                exact ⟨b, rfl, hS2⟩
              have el : lenD (tD g) = g.length := List.length_map ..
              refine iteT ⟨.ref gt, rfl, gt, _, rfl, .inr hgs, .int kk, rfl, rfl, decide ((g.length : Int) = kk), ?_, fun hb2 => ⟨e.trans e4, ?_⟩, fun hb2 => ?_⟩
              · rw [List.length_map]
                refine congrArg V.bl ?_
                by_cases e9 : (g.length : Int) = kk
                · rw [decide_eq_true e9, decide_eq_true (congrArg V.int e9)]
                · rw [decide_eq_false e9, decide_eq_false (fun z => e9 (V.int.inj z))]
              · rw [List.take_add_one, hd', List.all_append, h2]
                simp only [Bool.true_and, Option.toList_some, List.all_cons, List.all_nil, Bool.and_true]
                rw [hb, el, hb2]
                rfl
              · have z := q _ (e.trans e4)
                have hb3 : decide ((g.length : Int) = kk) = false := by simpa using hb2
                rw [wrong (by rw [hb, el, hb3]; rfl)] at z
                refine ⟨decide ((g.length : Int) = kk), rfl, ?_⟩
                rw [hb3]
                exact iteF z
        · have ef : facesD n kk (.tuple ds) = false := by
            show (decide (1 ≤ ds.length ∧ ds.length ≤ 70) && (ds.all fun f => risD f n && decide ((lenD f : Int) = kk)) && adjB lex (ds.map intsOf)) = false
            rw [decide_eq_false c1]
            rfl
          have z := q _ (Ext.refl ht)
          rw [ef] at z
          by_cases c2 : 1 ≤ ds.length
          · rw [decide_eq_true (show (1 : Int) ≤ (xs.length : Int) by omega)]
            refine iteT ⟨(xs.length : Int), 70, rfl, rfl, decide ((xs.length : Int) ≤ 70), rfl, ?_⟩
            rw [decide_eq_false (show ¬ (xs.length : Int) ≤ 70 by omega)]
            exact iteT z
          · rw [decide_eq_false (show ¬ (1 : Int) ≤ (xs.length : Int) by omega)]
            exact iteF ⟨false, rfl, iteT z⟩
      | _ => cases hd
end
end Lf

set_option maxHeartbeats 2000000
namespace Lf
open PySem PySem.Spec PyProof.Rows L2 GxR GxA SrT
section
variable {P : Program} {w : World} {K : PySem.W.Frag} {mg : Str → Option Value} {base : Heap} {Ps : Tbs} {H H' H0 : Hp} {k : Nat} {f c : Addr} {fd : FuncData}
/-- two promises of one def -/
theorem fn_or {CX : CXT} {ps : List Str} {sp sp' : Sp} (F : FnOk P w K mg base CX k f fd ps sp) (G : FnOk P w K mg base CX k f fd ps sp') : FnOk P w K mg base CX k f fd ps (fun vs H Q E => sp vs H Q E ∨ sp' vs H Q E) :=
  ⟨fun vs H Q E h => h.elim (F.len vs H Q E) (G.len vs H Q E), fun A outer s H args us vs Q E r0 r1 r2 r3 h => h.elim (F.run A outer s H args us vs Q E r0 r1 r2 r3) (G.run A outer s H args us vs Q E r0 r1 r2 r3)⟩
/-- a def that refuses nothing, among those that may -/
theorem fn_lift {ps : List Str} {sp : Sp} (F : FnOk P w K mg base CX0 k f fd ps sp) : FnOk P w K mg base (L2.CX P w) k f fd ps sp :=
  ⟨F.len, fun A outer s H args us vs Q E r0 r1 r2 r3 h => codeAny_mono (F.run A outer s H args us vs Q E r0 r1 r2 r3 h) fun r s' hq => match r, hq with
    | .ok (.ret _), hq => hq
    | .error _, hq => False.elim hq⟩
theorem isStackD_len {ds : List PyData} (h : ds.length ≠ 3) : isStackD (.tuple ds) = false := by
  unfold isStackD
  split
  · rename_i n k f e
    cases e
    exact absurd rfl h
  · rfl
/-- is_stack of three things -/
theorem isStackD_3 (d1 d2 d3 : PyData) : isStackD (.tuple [d1, d2, d3]) = true → ∃ n k, d1 = .int n ∧ d2 = .int k ∧ 1 ≤ n ∧ n ≤ 8 ∧ 0 ≤ k ∧ k ≤ n ∧ k ≤ 4 ∧ facesD n k d3 = true := by
  intro h
  unfold isStackD at h
  split at h
  · rename_i n k f e
    simp only [PyData.tuple.injEq, List.cons.injEq, and_true] at e
    obtain ⟨rfl, rfl, rfl⟩ := e
    rw [Bool.and_eq_true, Bool.and_eq_true, decide_eq_true_eq, decide_eq_true_eq] at h
    exact ⟨n, k, rfl, rfl, h.1.1.1, h.1.1.2, h.1.2.1, h.1.2.2.1, h.1.2.2.2, h.2⟩
  · cases h
def spIsStackX (K : PySem.W.Frag) (Ps : Tbs) : Sp := fun vs H Q _ => ∃ (x : V) (d : PyData), vs = [x] ∧ Th K H x d ∧ wide d = true ∧ Tb Ps H ∧ ∀ H', Ext Ps H H' → Q (.bl (isStackD d)) H'
theorem ok_isStackX {fW cW fA cA : Addr} {fdW fdA : FuncData} {t8 t4 : Tok} (D : Def K mg "is_stack" sIsStack ["thing"] f fd c) (DW : Def K mg "is_within" sWithin ["thing", "least", "most"] fW fdW cW) (GW : FnOk P w K mg base CX0 k fW fdW ["thing", "least", "most"] (spWithinX K))
    (DA : Def K mg "are_faces" sAreFaces ["n", "k", "thing"] fA fdA cA) (GA : FnOk P w K mg base CX0 k fA fdA ["n", "k", "thing"] (spAreFacesX K Ps))
    (mi : mg "isinstance" = none) (mt : mg "tuple" = none) (ml : mg "len" = none) (mm : mg "min" = none) (m8 : mg "MOST_POINTS" = some (.int 8 t8)) (m4 : mg "MOST_IN_FACE" = some (.int 4 t4)) : FnOk P w K mg base CX0 (k + 1) f fd ["thing"] (spIsStackX K Ps) := by
  refine D.ok (k := k) scIsStack (fun vs H Q E h => ?_) (fun A outer s H vs Q E hr h => ?_)
  · obtain ⟨x, d, rfl, _⟩ := h
    rfl
  · obtain ⟨x, d, rfl, hx, hw, ht, q⟩ := h
    refine ⟨_, pss_cons (ps_if (PW.pt (pw_or (pt_not (pt_val (pe_callB call_isi (by rfl) mi (by decide +kernel) (pa_cons (pv 0) (pa_cons (pe_bltn (v := .ty "tuple") (by rfl) mt (by decide +kernel) rfl) pa_nil)))))
        (pw_or1 (pt_cmpR op_ne (pe_callB (call_lenS (K := K) rfl) (by rfl) ml PySem.boot_len (pa_cons (pv 0) pa_nil)) pe_int (nomark _))))) (pss_one (ps_ret pe_bl)) pss_nil)
      (pss_cons (ps_asg (pv 0) (pg_tup (by rfl) (pgs_cons (pg_name (i := 1) scIsStack.nd rfl (.inl rfl)) (pgs_cons (pg_name (i := 2) scIsStack.nd rfl (.inl rfl)) (pgs_cons (pg_name (i := 3) scIsStack.nd rfl (.inl rfl)) pgs_nil)))))
      (pss_cons (ps_if (PW.pt (pw_or (pt_not (pt_val (pcl DW GW hr (pa_cons (pv 1) (pa_cons pe_int (pa_cons (pe_glob rfl m8 (v := .int 8) ⟨_, rfl⟩) pa_nil))))))
        (pw_or1 (pt_not (pt_val (pcl DW GW hr (pa_cons (pv 2) (pa_cons pe_int (pa_cons (pe_callB (call_min2 rfl) (by rfl) mm (by decide +kernel) (pa_cons (pv 1) (pa_cons (pe_glob rfl m4 (v := .int 4) ⟨_, rfl⟩) pa_nil))) pa_nil))))))))) (pss_one (ps_ret pe_bl)) pss_nil)
      (pss_one (ps_ret (pcl DA GA hr (pa_cons (pv 1) (pa_cons (pv 2) (pa_cons (pv 3) pa_nil)))))))), ?_⟩
    obtain ⟨t, ty, hk⟩ := tup_kit hx
    have qf : isStackD d = false → Q (.bl false) H := fun e => by
      have z := q _ (Ext.refl ht)
      rw [e] at z
      exact z
    refine ⟨x, rfl, x, .ty "tuple", .type t, .type "tuple", isTup d, rfl, .ty _, ty, kit_ty hk, isTup d, rfl, ?_⟩
    cases d with
    | tuple ds =>
      cases hx with
      | @tup a xs _ hS ha =>
      have hlen := thAll_len ha
      refine iteF ⟨.ref a, rfl, a, xs, rfl, .inr hS, rfl, !decide (xs.length = 3), ?_, ?_⟩
      · refine congrArg V.bl ?_
        by_cases e : xs.length = 3
        · rw [decide_eq_true e, decide_eq_true (by rw [e]; rfl)]
        · rw [decide_eq_false e, decide_eq_false (fun z => e (by have := V.int.inj z; omega))]
      match ds, xs, ha, hlen with
      | [d1, d2, d3], [x1, x2, x3], .cons h1 (.cons h2 (.cons h3 .nil)), _ =>
        obtain ⟨_, hw2⟩ := wide_tup hw
        refine iteF ⟨.ref a, rfl, a, _, rfl, hS, rfl, _, _, rfl, _, _, rfl, _, _, rfl, rfl, ?_⟩
        refine ⟨x1, rfl, x1, d1, 1, 8, rfl, h1, intIn d1 1 8, rfl, ?_⟩
        cases b1 : intIn d1 1 8 with
        | false =>
          refine iteT (qf ?_)
          cases e : isStackD (.tuple [d1, d2, d3]) with
          | false => rfl
          | true =>
            obtain ⟨n, kk, rfl, rfl, e1, e2, _⟩ := isStackD_3 _ _ _ e
            rw [show intIn (.int n) 1 8 = true from by show (decide (1 ≤ n) && decide (n ≤ 8)) = true; rw [decide_eq_true e1, decide_eq_true e2]; rfl] at b1
            cases b1
        | true =>
          cases d1 with
          | int n =>
            cases h1
            have hn : 1 ≤ n ∧ n ≤ 8 := by
              have z : (decide (1 ≤ n) && decide (n ≤ 8)) = true := b1
              rw [Bool.and_eq_true, decide_eq_true_eq, decide_eq_true_eq] at z
              exact z
            have hmin : ∀ m : Int, (m ≤ n ∧ m ≤ 4 ∧ (m = n ∨ m = 4)) → (∃ b : Bool, V.bl (intIn d2 0 m) = V.bl b ∧ (if (!b) = true then Q (.bl false) H else tCall (spAreFacesX K Ps) [] E0 (tCons (tVar 1) (tCons (tVar 2) (tCons (tVar 3) tNil))) [some (.ref a), some (.int n), some x2, some x3] H Q)) := by
              intro m hm
              refine ⟨intIn d2 0 m, rfl, ?_⟩
              cases b2 : intIn d2 0 m with
              | false =>
                refine iteT (qf ?_)
                cases e : isStackD (.tuple [.int n, d2, d3]) with
                | false => rfl
                | true =>
                  obtain ⟨n', kk, e0, rfl, e1, e2, e3, e4, e5, _⟩ := isStackD_3 _ _ _ e
                  cases e0
                  rw [show intIn (.int kk) 0 m = true from by show (decide (0 ≤ kk) && decide (kk ≤ m)) = true; rw [decide_eq_true e3, decide_eq_true (by omega)]; rfl] at b2
                  cases b2
              | true =>
                cases d2 with
                | int kk =>
                  cases h2
                  have hkk : 0 ≤ kk ∧ kk ≤ m := by
                    have z : (decide (0 ≤ kk) && decide (kk ≤ m)) = true := b2
                    rw [Bool.and_eq_true, decide_eq_true_eq, decide_eq_true_eq] at z
                    exact z
                  have hk2 : kk ≤ n ∧ kk ≤ 4 := by omega
                  have e6 : isStackD (.tuple [.int n, .int kk, d3]) = facesD n kk d3 := by
                    show (decide (1 ≤ n ∧ n ≤ 8) && decide (0 ≤ kk ∧ kk ≤ n ∧ kk ≤ 4) && facesD n kk d3) = _
                    rw [decide_eq_true hn, decide_eq_true ⟨hkk.1, hk2.1, hk2.2⟩]
                    rfl
                  refine iteF ⟨.int n, rfl, .int kk, rfl, x3, rfl, n, kk, x3, d3, rfl, h3, hw2 d3 (by simp), ht, fun H' e => ?_⟩
                  rw [← e6]
                  exact q H' e
                | _ => cases b2
            refine iteF ⟨x2, rfl, .int n, rfl, n, 4, rfl, x2, d2, 0, _, rfl, h2, ?_⟩
            obtain ⟨b, e1, e2⟩ := hmin _ (show (if (4 : Int) < n then (4 : Int) else n) ≤ n ∧ _ from by split <;> omega)
            exact ⟨b, e1, e2⟩
          | _ => cases b1
      | [], [], _, _ => exact iteT (qf (isStackD_len (by simp)))
      | [_], [_], _, _ => exact iteT (qf (isStackD_len (by simp)))
      | [_, _], [_, _], _, _ => exact iteT (qf (isStackD_len (by simp)))
      | d1 :: d2 :: d3 :: d4 :: ds, x1 :: x2 :: x3 :: x4 :: xs, _, _ =>
        have e3 : decide ((x1 :: x2 :: x3 :: x4 :: xs).length = 3) = false := decide_eq_false (by simp)
        rw [e3]
        exact iteT (qf (isStackD_len (by simp)))
    | none => exact iteT (qf rfl)
    | bool b => exact iteT (qf rfl)
    | int i => exact iteT (qf rfl)
    | str z => exact iteT (qf rfl)
    | list ds => exact iteT (qf rfl)
    | dict kvs => exact iteT (qf rfl)
end
end Lf

set_option maxHeartbeats 2000000
namespace Lf
open PySem PySem.Spec PyProof.Rows L2 GxR GxA SrT
theorem thAll_take {K : PySem.W.Frag} {H : Hp} {F : Addr → Prop} : ∀ {m : Nat} {ds : List PyData} {xs : List V}, ThAllF K H F xs ds → ThAllF K H F (xs.take m) (ds.take m)
  | 0, _, _, _ => by
    rw [List.take_zero, List.take_zero]
    exact .nil
  | m + 1, [], _, h => by cases h; exact .nil
  | m + 1, d :: ds, _, h => by
    cases h with
    | cons h1 h2 => exact .cons h1 (thAll_take h2)
theorem thAll_drop {K : PySem.W.Frag} {H : Hp} {F : Addr → Prop} : ∀ {m : Nat} {ds : List PyData} {xs : List V}, ThAllF K H F xs ds → ThAllF K H F (xs.drop m) (ds.drop m)
  | 0, _, _, h => h
  | m + 1, [], _, h => by cases h; exact .nil
  | m + 1, d :: ds, _, h => by
    cases h with
    | cons h1 h2 => exact thAll_drop (m := m) h2
/-- the cut of data -/
def cutD (ds : List PyData) (lo hi : Option Int) : List PyData := (ds.drop (HT.sIx ds.length 0 lo)).take (HT.sIx ds.length ds.length hi - HT.sIx ds.length 0 lo)
theorem thAll_cut {K : PySem.W.Frag} {H : Hp} {F : Addr → Prop} {ds : List PyData} {xs : List V} {lo hi : Option Int} (h : ThAllF K H F xs ds) : ThAllF K H F (cutV xs lo hi) (cutD ds lo hi) := by
  unfold cutV cutD
  rw [thAll_len h]
  exact thAll_take (thAll_drop h)
/-- ds[m:] -/
theorem cutD_from {ds : List PyData} {m : Nat} (h : m ≤ ds.length) : cutD ds (some (m : Int)) none = ds.drop m := by
  unfold cutD
  rw [HT.sIx_nat, HT.sIx_none, Nat.min_eq_left h, List.take_of_length_le]
  rw [List.length_drop]
  omega
/-- ds[:m] -/
theorem cutD_to {ds : List PyData} {m : Nat} (h : m ≤ ds.length) : cutD ds none (some (m : Int)) = ds.take m := by
  unfold cutD
  rw [HT.sIx_nat, HT.sIx_none, Nat.min_eq_left h, List.drop_zero, Nat.sub_zero]
section
variable {X : Cx} {Ps : Tbs} {F : Addr → Prop}
/-- t + u, two tuples of things -/
def rCatTh (K : PySem.W.Frag) (Ps : Tbs) : R2 := fun x y H Q => ∃ (F : Addr → Prop) (ds es : List PyData), ThF K H F x (.tuple ds) ∧ ThF K H F y (.tuple es) ∧ ds.length + es.length ≤ 1000 ∧ Tb Ps H ∧ ∀ v H3, Ext Ps H H3 → ThF K H3 F v (.tuple (ds ++ es)) → Q v H3
theorem op_catTh : OpR X (binaryOp .Add) (rCatTh X.K Ps) := by
  intro pins s σ H x y v u Q I rx ry h
  obtain ⟨F, ds, es, hx, hy, hl, ht, q⟩ := h
  cases hx with
  | @tup a xs _ ha hxa =>
  cases hy with
  | @tup b ys _ hb hyb =>
  have l1 := thAll_len hxa
  have l2 := thAll_len hyb
  refine op_catA pins s σ H _ _ v u Q I rx ry ⟨a, b, _, _, rfl, rfl, ha, hb, ?_, fun e => ?_, fun _ e => ?_, fun _ _ p np => ?_⟩
  · rw [sizeLine_eq]
    omega
  · subst e
    have e2 : ds = [] := List.length_eq_zero_iff.mp (by rw [← l1]; rfl)
    subst e2
    exact q _ _ (Ext.refl ht) (.tup hb hyb)
  · subst e
    have e2 : es = [] := List.length_eq_zero_iff.mp (by rw [← l2]; rfl)
    subst e2
    exact q _ _ (Ext.refl ht) (by rw [List.append_nil]; exact .tup ha hxa)
  · have e := Ext.new (o := .tup (xs ++ ys)) ht np
    exact q _ _ e (.tup (.inl (.inl upd_same)) (thAll_app (e.thAll hxa) (e.thAll hyb)))
/-- t[i:j] of a tuple of things -/
def rSlTh (K : PySem.W.Frag) (Ps : Tbs) : V → Option Int → Option Int → Hp → VK → Prop := fun x lo hi H Q => ∃ (F : Addr → Prop) (ds : List PyData), ThF K H F x (.tuple ds) ∧ Tb Ps H ∧ ∀ v H3, Ext Ps H H3 → ThF K H3 F v (.tuple (cutD ds lo hi)) → Q v H3
theorem sl_Th : SlR X (rSlTh X.K Ps) := by
  intro pins s σ H x v vl vu lo hi sl Q I rx hs pl pu h
  obtain ⟨F, ds, hx, ht, q⟩ := h
  cases hx with
  | @tup a xs _ ha hxa =>
  have l1 := thAll_len hxa
  refine sl_tupA pins s σ H _ v vl vu lo hi sl Q I rx hs pl pu ⟨a, _, rfl, ha, fun z => ?_, fun _ p np => ?_⟩
  · refine q _ _ (Ext.refl ht) ?_
    have e : cutD ds lo hi = ds := by
      rw [l1] at z
      unfold cutD
      rw [z.1, z.2, List.drop_zero, Nat.sub_zero, List.take_length]
    rw [e]
    exact .tup ha hxa
  · have e := Ext.new (o := .tup (cutV xs lo hi)) ht np
    exact q _ _ e (.tup (.inl (.inl upd_same)) (e.thAll (thAll_cut hxa)))
end
/-- a tuple just laid -/
theorem th_new {K : PySem.W.Frag} {H : Hp} {F : Addr → Prop} {p : Addr} {xs : List V} {ds : List PyData} {Ps : Tbs} (ht : Tb Ps H) (np : H p = none) (h : ThAllF K H F xs ds) : ThF K (upd H p (.tup xs)) F (.ref p) (.tuple ds) := .tup (.inl (.inl upd_same)) ((Ext.new (Ps := Ps) ht np).thAll h)
theorem th_newL {K : PySem.W.Frag} {H : Hp} {F : Addr → Prop} {p : Addr} {xs : List V} {ds : List PyData} {Ps : Tbs} (ht : Tb Ps H) (np : H p = none) (hF : F p) (h : ThAllF K H F xs ds) : ThF K (upd H p (.lst xs)) F (.ref p) (.list ds) := .lst hF (.inl (.inl upd_same)) ((Ext.new (Ps := Ps) ht np).thAll h)
/-- what follows a statement, by a name -/
theorem tseq_intro {t u : TS} {D : Ends} {σ : L2.St} {H : Hp} (h : ∀ R, R = u D → t { D with nx := R } σ H) : tSeq t u D σ H := h _ rfl
/-! ### the lists and dicts of a thing: new since H, standing in Y, such as S says -/
def FS (S : Addr → Prop) (H Y : Hp) : Addr → Prop := fun b => H b = none ∧ Y b ≠ none ∧ S b
section
variable {K : PySem.W.Frag} {Ps : Tbs} {H Y Y' : Hp} {S S' : Addr → Prop} {x : V} {d : PyData} {xs : List V} {ds : List PyData}
theorem fs_mono (e : Ext Ps Y Y') : ∀ b, FS S H Y b → FS S H Y' b := fun b h => ⟨h.1, fun z => h.2.1 (e.free z), h.2.2⟩
theorem Ext.thS (e : Ext Ps Y Y') (h : ThF K Y (FS S H Y) x d) : ThF K Y' (FS S H Y') x d := (e.th h).imp (fs_mono e)
theorem Ext.thAllS (e : Ext Ps Y Y') (h : ThAllF K Y (FS S H Y) xs ds) : ThAllF K Y' (FS S H Y') xs ds := (e.thAll h).imp (fs_mono e)
theorem fs_new {p : Addr} {o : HO} (z : H p = none) (hS : S p) : FS S H (upd Y p o) p := ⟨z, by rw [upd_same]; exact Option.some_ne_none _, hS⟩
theorem th_newS {p : Addr} (ht : Tb Ps Y) (np : Y p = none) (h : ThAllF K Y (FS S H Y) xs ds) : ThF K (upd Y p (.tup xs)) (FS S H (upd Y p (.tup xs))) (.ref p) (.tuple ds) := .tup (.inl (.inl upd_same)) ((Ext.new (Ps := Ps) ht np).thAllS h)
theorem th_newLS {p : Addr} (ht : Tb Ps Y) (np : Y p = none) (z : H p = none) (hS : S p) (h : ThAllF K Y (FS S H Y) xs ds) : ThF K (upd Y p (.lst xs)) (FS S H (upd Y p (.lst xs))) (.ref p) (.list ds) := .lst (fs_new z hS) (.inl (.inl upd_same)) ((Ext.new (Ps := Ps) ht np).thAllS h)
theorem th_newDS {p : Addr} (z : H p = none) (hS : S p) : ThF K (upd Y p (.dK [])) (FS S H (upd Y p (.dK []))) (.ref p) (.dict []) := .dic (fs_new z hS) upd_same
/-- a list is laid that none of them is -/
theorem thAll_hold {r : Addr} {o : HO} (ht : Tb Ps Y) (nr : Y r = none) (h : ThAllF K Y (FS S H Y) xs ds) : ThAllF K (upd Y r o) (FS (fun b => b ≠ r) H (upd Y r o)) xs ds :=
  ((Ext.new (Ps := Ps) (o := o) ht nr).thAll h).imp fun b hb => ⟨hb.1, fun z => hb.2.1 ((Ext.new (Ps := Ps) (o := o) ht nr).free z), fun z => hb.2.1 (by rw [z]; exact nr)⟩
theorem th_hold {r : Addr} {o : HO} (ht : Tb Ps Y) (nr : Y r = none) (h : ThF K Y (FS S H Y) x d) : ThF K (upd Y r o) (FS (fun b => b ≠ r) H (upd Y r o)) x d :=
  ((Ext.new (Ps := Ps) (o := o) ht nr).th h).imp fun b hb => ⟨hb.1, fun z => hb.2.1 ((Ext.new (Ps := Ps) (o := o) ht nr).free z), fun z => hb.2.1 (by rw [z]; exact nr)⟩
theorem fs_put {r : Addr} {l l' : List V} (hr : Y r = some (.lst l)) : ∀ b, FS S H Y b → FS S H (upd Y r (.lst l')) b := fun b h => ⟨h.1, fun z => by
  by_cases e : b = r
  · rw [e, upd_same] at z
    cases z
  · rw [upd_ne e] at z
    exact h.2.1 z, h.2.2⟩
theorem thAll_put {r : Addr} {l l' : List V} (hr : Y r = some (.lst l)) (h : ThAllF K Y (FS (fun b => b ≠ r) H Y) xs ds) : ThAllF K (upd Y r (.lst l')) (FS (fun b => b ≠ r) H (upd Y r (.lst l'))) xs ds := (ThAllF.put hr (fun a ha => ha.2.2) h).imp (fs_put hr)
theorem th_put {r : Addr} {l l' : List V} (hr : Y r = some (.lst l)) (h : ThF K Y (FS (fun b => b ≠ r) H Y) x d) : ThF K (upd Y r (.lst l')) (FS (fun b => b ≠ r) H (upd Y r (.lst l'))) x d := (ThF.put hr (fun a ha => ha.2.2) h).imp (fs_put hr)
theorem sqT_put {r t : Addr} {l l' ys : List V} (hr : Y r = some (.lst l)) (h : SqT K Y t ys) : SqT K (upd Y r (.lst l')) t ys := by
  rcases h with (h | ⟨o, h⟩) | h
  · exact .inl (.inl (by rw [upd_ne (ne_of h hr (by intro z; cases z))]; exact h))
  · exact .inl (.inr ⟨o, by rw [upd_ne (ne_of h hr (by intro z; cases z))]; exact h⟩)
  · exact .inr h
theorem stk_put {r : Addr} {l l' : List V} {v : V} {n k : Int} {fss : List (List Int)} (hr : Y r = some (.lst l)) (h : Stk K Y v n k fss) : Stk K (upd Y r (.lst l')) v n k fss :=
  let ⟨a, fa, zs, h1, h2, h3, h4⟩ := h
  ⟨a, fa, zs, h1, sqT_put hr h2, sqT_put hr h3, L2.Paired.mapP h4 fun _ _ z => tupI_put hr z⟩
end
/-- no stack -/
theorem bad_of {d : PyData} (h : ∀ n k fss, d = stkD n k fss → StkOk n k fss → False) : isStackD d = false := by
  cases e : isStackD d with
  | false => rfl
  | true =>
    obtain ⟨n, k, fss, e1, e2⟩ := isStackD_iff.mp e
    exact (h n k fss e1 e2).elim
theorem tD_inj {f g : List Int} (h : tD f = tD g) : f = g := by
  have := congrArg intsOf h
  rwa [intsOf_tD, intsOf_tD] at this
theorem tDs_inj {f g : List (List Int)} (h : f.map tD = g.map tD) : f = g := by
  have := congrArg (List.map intsOf) h
  rwa [map_ints, map_ints] at this
end Lf

set_option maxHeartbeats 4000000
/-! stacks as texts: written, read freely and sign by sign -/
namespace Lf
open PySem PySem.Spec PyProof.Rows L2 GxR GxA SrT SX
def digC (c : Nat) : Bool := decide (48 ≤ c) && decide (c ≤ 57)
/-- the place of a sign among the figures, or -1 -/
def figC (c : Nat) : Int := if digC c = true then (c : Int) - 48 else -1
def pinL (w : List Nat) : List Int := if w = [45] then [] else w.map figC
def wrtL (f : List Int) : List Nat := if f = [] then [45] else f.map fun p => 48 + p.toNat
def hdC (w : List Nat) : Int := match w with
  | [] => 0
  | c :: _ => figC c
def wdsL (t : List Nat) : List (List Nat) := TL.spl [32] 0 [] t
def facesT (ws : List (List Nat)) : List PyData := ws.map fun w => tD (pinL w)
/-- what is read freely -/
def freeD (t : List Nat) : PyData := .tuple (((wdsL t).take 2).map (fun w => PyData.int (hdC w)) ++ [.tuple (facesT ((wdsL t).drop 2))])
def txtW (n kk : Int) (F : List (List Int)) : List (List Nat) := [48 + n.toNat] :: [48 + kk.toNat, 58] :: F.map wrtL
def txtL (n kk : Int) (F : List (List Int)) : List Nat := TL.joinL [32] (txtW n kk F)
/-- the points of a word, sign by sign -/
def fiD (w : List Nat) : PyData := if w = [45] then tD [] else if w = [] ∨ w.all digC = false then .none else tD (w.map fun c : Nat => (c : Int) - 48)
/-- whether the two first words are written just so -/
def headB (t : List Nat) : Bool := match wdsL t with
  | [c] :: [d, e] :: _ => digC c && digC d && decide (e = 58)
  | _ => false
def lawD (t : List Nat) : PyData := .tuple [.int (hdC ((wdsL t).getD 0 [])), .int (hdC ((wdsL t).getD 1 [])), .tuple (((wdsL t).drop 2).map fiD)]
def stackT (n kk : Int) (F : List (List Int)) : PyData := .tuple [.int n, .int kk, .tuple (F.map tD)]
theorem joinL_cons (S p q : List Nat) (r : List (List Nat)) : TL.joinL S (p :: q :: r) = p ++ (S ++ TL.joinL S (q :: r)) := rfl
theorem join_spl1 (s : Nat) : ∀ (l acc : List Nat), TL.joinL [s] (TL.spl [s] 0 acc l) = acc ++ l
  | [], acc => by
    rw [TL.spl_nil, List.append_nil]
    rfl
  | c :: r, acc => by
    have ne : ∀ acc, TL.spl [s] 0 acc r ≠ [] := by
      intro acc
      cases r with
      | nil =>
        rw [TL.spl_nil]
        simp
      | cons d r2 =>
        by_cases h : TL.pre [s] (d :: r2) = true
        · rw [TL.spl_hit h]
          simp
        · rw [TL.spl_miss (by simpa using h)]
          have := join_spl1 s r2 (acc ++ [d])
          intro z
          rw [z] at this
          have := congrArg List.length this
          simp [TL.joinL] at this
    by_cases h : TL.pre [s] (c :: r) = true
    · have hc : c = s := by
        unfold TL.pre at h
        have := eq_of_beq h
        simp at this
        exact this
      rw [TL.spl_hit h]
      show TL.joinL [s] (acc :: TL.spl [s] 0 [] r) = _
      cases e : TL.spl [s] 0 [] r with
      | nil => exact absurd e (ne [])
      | cons q m =>
        rw [joinL_cons, ← e, join_spl1 s r [], hc]
        simp
    · rw [TL.spl_miss (by simpa using h), join_spl1 s r (acc ++ [c])]
      simp
theorem join_wds (t : List Nat) : TL.joinL [32] (wdsL t) = t := by
  unfold wdsL
  rw [join_spl1]
  rfl
theorem wds_ne (t : List Nat) : wdsL t ≠ [] := fun z => by
  have h := join_wds t
  rw [z] at h
  rw [← h] at z
  cases (show [[]] = ([] : List (List Nat)) from z)
theorem fig_dig {p : Int} (h0 : 0 ≤ p) (h9 : p ≤ 9) : figC (48 + p.toNat) = p ∧ digC (48 + p.toNat) = true := by
  have hd : digC (48 + p.toNat) = true := by
    unfold digC
    rw [decide_eq_true (by omega), decide_eq_true (by omega)]
    rfl
  refine ⟨?_, hd⟩
  unfold figC
  rw [if_pos hd]
  omega
theorem dig_iff {c : Nat} : digC c = true ↔ 48 ≤ c ∧ c ≤ 57 := by
  unfold digC
  rw [Bool.and_eq_true, decide_eq_true_eq, decide_eq_true_eq]
structure Sd (n kk : Int) (F : List (List Int)) : Prop where
  n1 : 1 ≤ n
  n8 : n ≤ 8
  k0 : 0 ≤ kk
  k4 : kk ≤ 4
  l1 : 1 ≤ F.length
  l70 : F.length ≤ 70
  bel : ∀ f ∈ F, ∀ i ∈ f, 0 ≤ i ∧ i < n
  len : ∀ f ∈ F, (f.length : Int) = kk
theorem ris_list : ∀ {ds : List PyData} {n kk : Int}, (∀ d ∈ ds, risD d n = true ∧ (lenD d : Int) = kk) → ∃ F : List (List Int), ds = F.map tD ∧ (∀ f ∈ F, ∀ i ∈ f, 0 ≤ i ∧ i < n) ∧ ∀ f ∈ F, (f.length : Int) = kk
  | [], n, kk, _ => ⟨[], rfl, fun f hf => absurd hf (by simp), fun f hf => absurd hf (by simp)⟩
  | d :: ds, n, kk, h => by
    obtain ⟨F, e1, e2, e3⟩ := ris_list (ds := ds) (n := n) (kk := kk) fun d hd => h d (List.mem_cons_of_mem _ hd)
    obtain ⟨h1, h2⟩ := h d List.mem_cons_self
    obtain ⟨g, rfl, hb, _⟩ := risD_iff.mp h1
    refine ⟨g :: F, by rw [e1]; rfl, fun f hf => ?_, fun f hf => ?_⟩
    · rcases List.mem_cons.mp hf with rfl | hf
      · exact hb
      · exact e2 f hf
    · rcases List.mem_cons.mp hf with rfl | hf
      · rw [show lenD (tD f) = f.length from List.length_map ..] at h2
        exact h2
      · exact e3 f hf
theorem sd_of {d : PyData} (h : isStackD d = true) : ∃ n kk F, d = stackT n kk F ∧ Sd n kk F := by
  unfold isStackD at h
  split at h
  next d n k f =>
    rw [Bool.and_eq_true, Bool.and_eq_true, decide_eq_true_eq, decide_eq_true_eq] at h
    obtain ⟨⟨h1, h2⟩, h3⟩ := h
    unfold facesD at h3
    split at h3
    next e ds =>
      rw [Bool.and_eq_true, Bool.and_eq_true, decide_eq_true_eq, List.all_eq_true] at h3
      obtain ⟨⟨h4, h5⟩, _⟩ := h3
      obtain ⟨F, rfl, e2, e3⟩ := ris_list (ds := ds) (n := n) (kk := k) fun d hd => by
        have := h5 d hd
        rw [Bool.and_eq_true, decide_eq_true_eq] at this
        exact this
      rw [List.length_map] at h4
      exact ⟨n, k, F, rfl, h1.1, h1.2, h2.1, h2.2.2, h4.1, h4.2, e2, e3⟩
    next => cases h3
  next => cases h
theorem fi_wrt {f : List Int} {n : Int} (hn : n ≤ 8) (h : ∀ i ∈ f, 0 ≤ i ∧ i < n) : fiD (wrtL f) = tD f ∧ pinL (wrtL f) = f ∧ 32 ∉ wrtL f := by
  unfold wrtL
  by_cases e : f = []
  · subst e
    rw [if_pos rfl]
    exact ⟨rfl, rfl, by decide⟩
  · rw [if_neg e]
    have hall : (f.map fun p => 48 + p.toNat).all digC = true := by
      rw [List.all_map, List.all_eq_true]
      intro i hi
      exact (fig_dig (h i hi).1 (by have := h i hi; omega)).2
    have n45 : (f.map fun p => 48 + p.toNat) ≠ [45] := fun z => by
      rw [z] at hall
      cases hall
    have nn : ¬ ((f.map fun p => 48 + p.toNat) = [] ∨ (f.map fun p => 48 + p.toNat).all digC = false) := by
      rintro (z | z)
      · exact e (List.map_eq_nil_iff.mp z)
      · rw [hall] at z
        cases z
    have back : ∀ g : List Int, (∀ i ∈ g, 0 ≤ i ∧ i < n) → (g.map fun p => 48 + p.toNat).map (fun c : Nat => (c : Int) - 48) = g ∧ (g.map fun p => 48 + p.toNat).map figC = g := by
      intro g
      induction g with
      | nil => exact fun _ => ⟨rfl, rfl⟩
      | cons x g ih =>
        intro hg
        obtain ⟨i1, i2⟩ := ih fun i hi => hg i (List.mem_cons_of_mem _ hi)
        have hx := hg x List.mem_cons_self
        rw [List.map_cons, List.map_cons, List.map_cons, i1, i2, (fig_dig hx.1 (by omega)).1]
        exact ⟨by congr 1; omega, rfl⟩
    refine ⟨?_, ?_, fun hm => ?_⟩
    · unfold fiD
      rw [if_neg n45, if_neg nn, (back f h).1]
    · unfold pinL
      rw [if_neg n45, (back f h).2]
    · obtain ⟨i, hi, e⟩ := List.mem_map.mp hm
      omega
theorem fi_tD {w : List Nat} {f : List Int} (h : fiD w = tD f) : pinL w = f ∧ wrtL f = w := by
  unfold fiD at h
  by_cases e : w = [45]
  · subst e
    rw [if_pos rfl] at h
    have := tD_inj h
    subst this
    exact ⟨rfl, rfl⟩
  · rw [if_neg e] at h
    by_cases e2 : w = [] ∨ w.all digC = false
    · rw [if_pos e2] at h
      cases h
    · rw [if_neg e2] at h
      have := tD_inj h
      subst this
      have hd : w.all digC = true := by
        cases z : w.all digC
        · exact absurd (Or.inr z) e2
        · rfl
      have hne : w ≠ [] := fun z => e2 (Or.inl z)
      have back : ∀ v : List Nat, v.all digC = true → v.map figC = (v.map fun c : Nat => (c : Int) - 48) ∧ (v.map fun c : Nat => (c : Int) - 48).map (fun p => 48 + p.toNat) = v := by
        intro v
        induction v with
        | nil => exact fun _ => ⟨rfl, rfl⟩
        | cons c v ih =>
          intro hv
          rw [List.all_cons, Bool.and_eq_true] at hv
          obtain ⟨i1, i2⟩ := ih hv.2
          have := dig_iff.mp hv.1
          rw [List.map_cons, List.map_cons, List.map_cons, i1, i2]
          unfold figC
          rw [if_pos hv.1]
          exact ⟨rfl, by congr 1; omega⟩
      obtain ⟨b1, b2⟩ := back w hd
      unfold pinL wrtL
      rw [if_neg e, if_neg (fun z => hne (List.map_eq_nil_iff.mp z))]
      exact ⟨b1, b2⟩
theorem stackT_inj {n kk n2 k2 : Int} {F F2 : List (List Int)} (h : stackT n kk F = stackT n2 k2 F2) : n = n2 ∧ kk = k2 ∧ F = F2 := by
  unfold stackT at h
  injection h with h
  injection h with h1 h
  injection h with h2 h
  injection h with h3 _
  injection h1 with h1
  injection h2 with h2
  injection h3 with h3
  refine ⟨h1, h2, ?_⟩
  exact (List.map_inj_right (fun a b h => tD_inj h)).mp h3
theorem wds_txt {n kk : Int} {F : List (List Int)} (S : Sd n kk F) : wdsL (txtL n kk F) = txtW n kk F := by
  unfold wdsL txtL
  refine TL.spl_join (by unfold txtW; simp) fun p hp => ?_
  have := S.n1
  have := S.k0
  unfold txtW at hp
  rcases List.mem_cons.mp hp with rfl | hp
  · simp
    omega
  rcases List.mem_cons.mp hp with rfl | hp
  · simp
    omega
  obtain ⟨f, hf, rfl⟩ := List.mem_map.mp hp
  exact (fi_wrt S.n8 (S.bel f hf)).2.2
/-- what is read freely and comes back, is written just so -/
theorem read_iff (t : List Nat) (n kk : Int) (F : List (List Int)) (S : Sd n kk F) : (freeD t = stackT n kk F ∧ txtL n kk F = t) ↔ (headB t = true ∧ lawD t = stackT n kk F) := by
  have h1 := S.n1
  have h8 := S.n8
  have k0 := S.k0
  have k4 := S.k4
  constructor
  · rintro ⟨e, et⟩
    have ew := wds_txt S
    rw [et] at ew
    have fn := fig_dig (p := n) (by omega) (by omega)
    have fk := fig_dig (p := kk) (by omega) (by omega)
    refine ⟨?_, ?_⟩
    · unfold headB
      rw [ew]
      show (digC (48 + n.toNat) && digC (48 + kk.toNat) && decide (58 = 58)) = true
      rw [fn.2, fk.2]
      rfl
    · unfold lawD
      rw [ew]
      show PyData.tuple [.int (figC (48 + n.toNat)), .int (figC (48 + kk.toNat)), .tuple ((F.map wrtL).map fiD)] = _
      rw [fn.1, fk.1, List.map_map]
      unfold stackT
      congr 4
      refine congrArg PyData.tuple ?_
      exact List.map_congr_left fun f hf => (fi_wrt h8 (S.bel f hf)).1
  · rintro ⟨hh, e⟩
    unfold headB at hh
    split at hh
    next c d u ws ew =>
      rw [Bool.and_eq_true, Bool.and_eq_true, decide_eq_true_eq] at hh
      obtain ⟨⟨hc, hd⟩, rfl⟩ := hh
      unfold lawD at e
      rw [ew] at e
      have e' : PyData.tuple [.int (figC c), .int (figC d), .tuple (ws.map fiD)] = PyData.tuple [.int n, .int kk, .tuple (F.map tD)] := e
      injection e' with e'
      injection e' with e1 e'
      injection e' with e2 e'
      injection e' with e3 _
      injection e1 with e1
      injection e2 with e2
      injection e3 with e3
      have key : ∀ (us : List (List Nat)) (G : List (List Int)), us.map fiD = G.map tD → us.map pinL = G ∧ G.map wrtL = us := by
        intro us
        induction us with
        | nil =>
          intro G h
          cases G with
          | nil => exact ⟨rfl, rfl⟩
          | cons _ _ => cases h
        | cons u us ih =>
          intro G h
          cases G with
          | nil => cases h
          | cons g G =>
            rw [List.map_cons, List.map_cons] at h
            injection h with a b
            obtain ⟨i1, i2⟩ := ih G b
            obtain ⟨j1, j2⟩ := fi_tD a
            exact ⟨by rw [List.map_cons, i1, j1], by rw [List.map_cons, i2, j2]⟩
      obtain ⟨q1, q2⟩ := key ws F e3
      have c48 := dig_iff.mp hc
      have d48 := dig_iff.mp hd
      have ec : 48 + n.toNat = c := by
        unfold figC at e1
        rw [if_pos hc] at e1
        omega
      have ed : 48 + kk.toNat = d := by
        unfold figC at e2
        rw [if_pos hd] at e2
        omega
      refine ⟨?_, ?_⟩
      · unfold freeD
        rw [ew]
        show PyData.tuple [.int (figC c), .int (figC d), .tuple (ws.map fun w => tD (pinL w))] = _
        rw [e1, e2, show (ws.map fun w => tD (pinL w)) = (ws.map pinL).map tD by rw [List.map_map]; rfl, q1]
        rfl
      · have : txtW n kk F = wdsL t := by
          unfold txtW
          rw [ec, ed, q2, ew]
        unfold txtL
        rw [this, join_wds]
    next => cases hh
end Lf

set_option maxHeartbeats 1000000
/-! a call of what an expression tells: one of some defs -/
namespace Lf
open PySem PySem.Spec PyProof.Rows L2 GxR GxA SrT
def tCallV (Fn : Addr → Sp → Prop) (E : XK) (t0 : TE) (t : TA) : TE := fun σ H Q => t0 σ H fun v H1 => ∃ f sp, v = .ref f ∧ Fn f sp ∧ t σ H1 fun vs H2 => sp vs H2 Q E
theorem pe_callV {X : Cx} {Fn : Addr → Sp → Prop} {CX : CXT} {e0 e : Expr} {es : List Expr} {t0 : TE} {t : TA} {E : XK} {pos : Pos} (hF : ∀ f sp, Fn f sp → ∃ k fd ps, FnOk X.prog X.w X.K X.mg X.base CX k f fd ps sp ∧ Room k X.A ∧ PySem.W.keepIn X.K (.ref f) = true ∧ Binds X.K fd ps [])
    (hx : Passes CX X E) (h0 : PE X e0 t0) (ha : PA X (e :: es) t)
    (hev : eval (.Call e0 (e :: es) [] pos) X.env = (do callWith pos (← eval e0 X.env) [] (backTo pos (starEach (e :: es) X.env)) (backToKw pos (keywordEach [] X.env))) := by rfl)
    (he : starEach (e :: es) X.env = (false, eval e X.env) :: starEach es X.env := by rfl) (hpl : (backTo pos (starEach es X.env)).any (·.1) = false := by rfl) :
    PE X (.Call e0 (e :: es) [] pos) (tCallV Fn E t0 t) := by
  refine ⟨fun pins s σ H Q I h => ?_⟩
  rw [hev]
  refine wpAny_bind (thn (h0.run pins s σ H _ I h) fun u s1 ⟨x, H1, I1, rx, f, sp, ex, hf, q⟩ => ?_)
  subst ex
  obtain rfl : u = Value.ref f := rx
  obtain ⟨k, fd, ps, F, hr, hk, hb⟩ := hF f sp hf
  refine PySem.W.callWith_K (h₀ := X.base) I.ok.mod.kin hk (thn (ha.run pos pins s1 σ H1 _ I1 q) fun us s2 ⟨vs, H2, I2, r, q2⟩ => ⟨I2.kIn, ?_⟩) he hpl
  exact run_fn F hr hb .nil hx I2 r (by rw [List.append_nil]; exact q2)
end Lf

set_option maxHeartbeats 4000000
namespace Lf
open PySem PySem.Spec PyProof.Rows L2 GxR GxA SrT
open SX
abbrev sWritten : Stmt := topS 30
abbrev sPointsIn : Stmt := topS 32
theorem scWritten : FnScope ["points", "point"] ["points"] (defScope sWritten) := ⟨rfl, rfl, rfl, by decide +kernel, rfl, by decide +kernel, by decide +kernel⟩
theorem scPointsIn : FnScope ["word", "sign"] ["word"] (defScope sPointsIn) := ⟨rfl, rfl, rfl, by decide +kernel, rfl, by decide +kernel, by decide +kernel⟩
abbrev rFindS : V → List V → Hp → VK → Prop := fun x xs H Q => ∃ a b, x = .str a ∧ xs = [.str b] ∧ Q (.int (Txt.find a b)) H
def figS : Str := "0123456789"
def dshS : Str := "-"
theorem figS_eq : figS = S [48, 49, 50, 51, 52, 53, 54, 55, 56, 57] := by decide +kernel
theorem dshS_eq : dshS = S [45] := by decide +kernel
theorem nil_S : (("" : Str)) = S [] := by decide +kernel
theorem one_S : ((" " : Str)) = S [32] := by decide +kernel
/-- over the signs of a text -/
theorem lc_str {x : Str} {g : TG} {tt : TT} {te : TE} {vs : List Nat} {σ : L2.St} {H1 : Hp} {D : Addr} {Qd : Hp → Prop} (Pv : Nat → Hp → Prop) (h0 : Pv 0 (upd H1 D (.lst [])))
    (hs : ∀ i c H, x.cps.toList[i]? = some c → Pv i H → g (.str ⟨#[c]⟩) (wipe σ vs) H fun σ2 H2 => wipe σ2 vs = wipe σ vs ∧ tt σ2 H2 fun b H3 =>
      if b = true then te σ2 H3 fun y H4 => ∃ acc, H4 D = some (.lst acc) ∧ acc.length < sizeLine ∧ Pv (i + 1) (upd H4 D (.lst (acc ++ [y]))) else Pv (i + 1) H3) (hd : ∀ H, Pv x.cps.toList.length H → Qd H) :
    ∃ W : Nat → Nat → Hp → Prop, (∃ m, W 0 m (upd H1 D (.lst []))) ∧ ∀ i m H, W i m H →
      ((Its x).stop i H ∧ Qd H) ∨ ((Its x).go i H ∧ ∃ Nx : Hp → Prop, (∀ H', Nx H' → ∃ m', m' < m ∧ W (i + 1) m' H') ∧ ∀ y H', (Its x).yld i H y H' → g y (wipe σ vs) H' fun σ2 H2 => wipe σ2 vs = wipe σ vs ∧ tt σ2 H2 fun b H3 =>
        if b = true then te σ2 H3 fun y H4 => ∃ acc, H4 D = some (.lst acc) ∧ acc.length < sizeLine ∧ Nx (upd H4 D (.lst (acc ++ [y]))) else Nx H3) := by
  refine ⟨fun i m H => m = x.cps.toList.length - i ∧ i ≤ x.cps.toList.length ∧ Pv i H, ⟨x.cps.toList.length, by simp, Nat.zero_le _, h0⟩, ?_⟩
  rintro i m H ⟨rfl, hi, p⟩
  have el : x.cps.size = x.cps.toList.length := by simp
  by_cases hlt : i < x.cps.toList.length
  · refine .inr ⟨show i < x.cps.size by omega, Pv (i + 1), fun H' p' => ⟨x.cps.toList.length - (i + 1), by omega, rfl, hlt, p'⟩, fun y H' hy => ?_⟩
    obtain ⟨rfl, c, hc, rfl⟩ := hy
    exact hs i c _ (by rw [Array.getElem?_toList]; exact hc) p
  · have e : i = x.cps.toList.length := by omega
    subst e
    exact .inl ⟨show x.cps.size ≤ _ by omega, hd H p⟩
def FSt : Hp → V → List Nat → Prop := fun _ x s => x = .str (S s)
theorem paired_sts {H : Hp} : ∀ {zs : List V} {ss : List (List Nat)}, Paired (FSt H) zs ss → zs = (ss.map S).map V.str
  | _, _, .nil => rfl
  | _, _, .cons h t => by
    rw [paired_sts t, show _ = V.str (S _) from h]
    rfl
section
variable {P : Program} {w : World} {K : PySem.W.Frag} {mg : Str → Option Value} {base : Heap} {Ps : Tbs} {H H' H0 : Hp} {k : Nat} {f c : Addr} {fd : FuncData}
theorem stbSt : Stb K Ps FSt := ⟨fun _ _ _ _ _ h => h, fun _ _ _ _ _ _ _ h => h⟩
theorem fig_at {p : Int} (h0 : 0 ≤ p) (h9 : p ≤ 9) : atI figS.cps.toList p = some (48 + p.toNat) := by
  rw [figS_eq]
  obtain ⟨n, rfl⟩ := Int.eq_ofNat_of_zero_le h0
  have : n = 0 ∨ n = 1 ∨ n = 2 ∨ n = 3 ∨ n = 4 ∨ n = 5 ∨ n = 6 ∨ n = 7 ∨ n = 8 ∨ n = 9 := by omega
  rcases this with rfl | rfl | rfl | rfl | rfl | rfl | rfl | rfl | rfl | rfl <;> rfl
def spWritten (K : PySem.W.Frag) (Ps : Tbs) : Sp := fun vs H Q _ => ∃ (x : V) (f : List Int), vs = [x] ∧ TupI K H x f ∧ (∀ i ∈ f, 0 ≤ i ∧ i ≤ 9) ∧ f.length ≤ 100 ∧ Tb Ps H ∧ ∀ H', Ext Ps H H' → Q (.str (S (wrtL f))) H'
theorem join_one (f : List Int) : TL.joinL [] (f.map fun p => [48 + p.toNat]) = f.map fun p => 48 + p.toNat := by
  induction f with
  | nil => rfl
  | cons x f ih =>
    cases f with
    | nil => rfl
    | cons y f =>
      rw [List.map_cons, List.map_cons, joinL_cons, ← List.map_cons (f := fun p : Int => [48 + p.toNat]), ih]
      rfl
theorem lens_one (f : List Int) : (((f.map fun p : Int => [48 + p.toNat]).map S).map (·.length)).sum = f.length := by
  rw [lens]
  induction f with
  | nil => rfl
  | cons x f ih =>
    rw [List.map_cons, List.map_cons, List.sum_cons, ih]
    simp
    omega
theorem ok_written {tF tD_ : Tok} (D : Def K mg "written" sWritten ["points"] f fd c) (mF : mg "FIGURES" = some (.str figS tF)) (mD : mg "NO_POINTS" = some (.str dshS tD_)) : FnOk P w K mg base CX0 (k + 1) f fd ["points"] (spWritten K Ps) := by
  refine D.ok (k := k) scWritten (fun vs H Q E h => ?_) (fun A outer s H vs Q E hr h => ?_)
  · obtain ⟨x, g, rfl, _⟩ := h
    rfl
  · obtain ⟨_, g, rfl, ⟨t, rfl, hT⟩, hb, hl, ht, q⟩ := h
    refine ⟨_, (pss_cons (ps_if (pt_not (pt_truth (pv 0) (fun _ => rfl))) (pss_one (ps_ret (pe_glob (v := .str dshS) (by rfl) mD ⟨_, rfl⟩))) pss_nil) (pss_one (ps_ret (pe_bm PySem.F.plainAttrs_str PySem.F.slot_str_join PySem.F.type_str_join mt_join pe_str (pa_cons (pe_lc (own := [("point", 1)]) (g := gName 1) (by rfl) scWritten.nd (pi_tup (pv 0)) (blkOk_by (N := ["points", "point"]) (sc := defScope sWritten) (by decide +kernel)) (fun _ _ _ _ _ => pg_name (i := 1) scWritten.nd rfl (Or.inl rfl)) (fun _ _ _ _ _ => pts_nil) (fun _ _ _ _ _ => (pe_ix (show IxR _ rIxS from ix_str) (pe_glob (v := .str figS) (by rfl) mF ⟨_, rfl⟩) (pv 1) (fun _ _ => rfl)))) pa_nil))))), ?_⟩
    refine tseq_intro fun R hR => ?_
    by_cases e : g = []
    · subst e
      refine ⟨.ref t, rfl, false, .inr (.inl ⟨_, hT, rfl⟩), iteT ?_⟩
      have z := q _ (Ext.refl ht)
      rw [show S (wrtL []) = dshS from dshS_eq.symm] at z
      exact z
    refine ⟨.ref t, rfl, true, .inr (.inl ⟨_, hT, ?_⟩), iteF ?_⟩
    · cases g with
      | nil => exact absurd rfl e
      | cons _ _ => rfl
    rw [hR]
    clear hR
    refine ⟨rfl, .ref t, rfl, t, rfl, ⟨_, hT⟩, fun D0 hD => lc_tup (K := K) (a := t) (xs := g.map V.int) (fun i HY => CP Ps FSt H D0 ((g.take i).map fun p => [48 + p.toNat]) i HY) (CP.start ht hD) (fun i HY _ p => p.ext.sqT hT) (fun i u HY hu p => ?_) (fun HY p => ?_)⟩
    · obtain ⟨z, hz, rfl⟩ := map_int hu
      have hi : i < g.length := (List.getElem?_eq_some_iff.mp hz).1
      obtain ⟨z0, z9⟩ := hb z (List.mem_of_getElem? hz)
      refine ⟨rfl, yes_ (iteT ⟨.int z, rfl, figS, z, _, rfl, rfl, by decide, fig_at z0 z9, ?_⟩)⟩
      have r := CP.put (stbSt (K := K)) hD (by omega) p (show FSt HY (.str (S [48 + z.toNat])) [48 + z.toNat] from rfl)
      rw [List.take_add_one, hz, List.map_append]
      exact r
    rw [List.length_map, List.take_length] at p
    obtain ⟨zs, g1, g2, g3⟩ := p.at_
    rw [paired_sts g2] at g1
    refine ⟨"", D0, _, rfl, rfl, .inl (.inl (.inl g1)), ?_, ?_⟩
    · rw [lens_one]
      have : (("" : Str)).length = 0 := by decide +kernel
      rw [this]
      omega
    · rw [nil_S, join_S, join_one]
      have z := q _ p.ext
      rw [show wrtL g = g.map (fun p => 48 + p.toNat) from if_neg e] at z
      exact z
theorem find_S {c : Nat} : Txt.find figS (S [c]) = figC c := by
  by_cases hd : digC c = true
  · have := dig_iff.mp hd
    have : c = 48 ∨ c = 49 ∨ c = 50 ∨ c = 51 ∨ c = 52 ∨ c = 53 ∨ c = 54 ∨ c = 55 ∨ c = 56 ∨ c = 57 := by omega
    rcases this with rfl | rfl | rfl | rfl | rfl | rfl | rfl | rfl | rfl | rfl <;> decide +kernel
  · have h := StrLaws.found_one figS c
    have hn : ¬ c ∈ figS.cps.toList := fun hm => by
      rw [figS_eq] at hm
      have : c ∈ [48, 49, 50, 51, 52, 53, 54, 55, 56, 57] := hm
      simp at this
      exact hd (dig_iff.mpr (by omega))
    rw [decide_eq_false hn] at h
    unfold Txt.find figC
    rw [if_neg hd]
    cases e : Builtin.Str.occurrences figS (S [c]) 0 figS.length 1 with
    | nil => rfl
    | cons a b =>
      rw [e] at h
      cases h
def spPointsIn (K : PySem.W.Frag) (Ps : Tbs) : Sp := fun vs H Q _ => ∃ (w : List Nat), vs = [.str (S w)] ∧ w.length ≤ 500 ∧ Tb Ps H ∧ ∀ v H', Ext Ps H H' → TupI K H' v (pinL w) → Q v H'
theorem ok_pointsIn {tF tD_ : Tok} (D : Def K mg "points_in" sPointsIn ["word"] f fd c) (mF : mg "FIGURES" = some (.str figS tF)) (mD : mg "NO_POINTS" = some (.str dshS tD_)) (mt : mg "tuple" = none) : FnOk P w K mg base CX0 (k + 1) f fd ["word"] (spPointsIn K Ps) := by
  refine D.ok (k := k) scPointsIn (fun vs H Q E h => ?_) (fun A outer s H vs Q E hr h => ?_)
  · obtain ⟨w, rfl, _⟩ := h
    rfl
  · obtain ⟨w, rfl, hl, ht, q⟩ := h
    refine ⟨_, (pss_cons (ps_if (pt_cmpR op_eq (pv 0) (pe_glob (v := .str dshS) (by rfl) mD ⟨_, rfl⟩) (nomark _)) (pss_one (ps_ret (pe_tup pa_nil))) pss_nil) (pss_one (ps_ret (pe_callTy call_tuple_of (by rfl) mt (by decide +kernel) (pa_cons (pe_lc (own := [("sign", 1)]) (g := gName 1) (by rfl) scPointsIn.nd (pi_str (pv 0)) (blkOk_by (N := ["word", "sign"]) (sc := defScope sPointsIn) (by decide +kernel)) (fun _ _ _ _ _ => pg_name (i := 1) scPointsIn.nd rfl (Or.inl rfl)) (fun _ _ _ _ _ => pts_nil) (fun _ _ _ _ _ => (show PE _ _ (tBM K "str" rFindS _ _) from (pe_bm PySem.F.plainAttrs_str PySem.F.slot_str_find PySem.F.type_str_find mt_find (pe_glob (v := .str figS) (by rfl) mF ⟨_, rfl⟩) (pa_cons (pv 1) pa_nil))))) pa_nil))))), ?_⟩
    refine tseq_intro fun R hR => ?_
    refine ⟨.str (S w), rfl, rfl, decide (w = [45]), ?_, ?_⟩
    · congr 1
      rw [dshS_eq]
      exact decide_eq_decide.mpr ⟨fun z => by injection z with z; exact S_inj z, fun z => by rw [z]⟩
    by_cases e : w = [45]
    · rw [decide_eq_true e]
      refine iteT ⟨Nat.zero_le _, fun t nt => ?_⟩
      refine q _ _ (Ext.new (o := .tup []) ht nt) ⟨t, rfl, .inl (.inl ?_)⟩
      rw [show pinL w = [] from if_pos e]
      exact upd_same
    rw [decide_eq_false e]
    refine iteF ?_
    rw [hR]
    clear hR
    refine ⟨.str (S w), rfl, S w, rfl, fun D0 hD => lc_str (x := S w) (fun i HY => CP Ps FI H D0 ((w.take i).map figC) i HY) (CP.start ht hD) (fun i c HY hc p => ?_) (fun HY p => ?_)⟩
    · have hc' : w[i]? = some c := hc
      have hi : i < w.length := (List.getElem?_eq_some_iff.mp hc').1
      refine ⟨rfl, yes_ (iteT ⟨rfl, .str (S [c]), rfl, figS, S [c], rfl, rfl, ?_⟩)⟩
      rw [find_S]
      have r := CP.put (stbI (K := K)) hD (by omega) p (show FI HY (.int (figC c)) (figC c) from rfl)
      rw [List.take_add_one, hc', List.map_append]
      exact r
    rw [show (S w).cps.toList.length = w.length from rfl, List.take_length] at p
    obtain ⟨zs, g1, g2, g3⟩ := p.at_
    rw [paired_ints g2] at g1
    refine ⟨D0, _, rfl, .inl ⟨.inl (.inl g1), fun t nt => ?_⟩⟩
    refine q _ _ (p.ext.trans (Ext.new p.ext.tb nt)) ⟨t, rfl, .inl (.inl ?_)⟩
    rw [show pinL w = w.map figC from if_neg e]
    exact upd_same
end
end Lf

set_option maxHeartbeats 1000000
/-! for i, x in enumerate(t), t a tuple. -/
namespace EnT
open PySem PySem.Spec PyProof.Rows L2
theorem new_enum {v : Value} {o : Obj} {Hh : Heap → Prop} (B : Begins v o Hh) :
    Meets (Builtin.«enumerate.__new__» ⟨[.type "enumerate", v], []⟩) (fun _ R s => Hh s.heap ∧
      R (.ok (.ret (.ref (s.heap.push o).objs.size))) { s with heap := (s.heap.push o).push { cls := .type "enumerate", data := .fields #[.none, .bool false, .ref s.heap.objs.size, rawInt 0, .none, .none] } }) :=
  .of_wp fun prog w A R s h => by
    obtain ⟨hp, g, d, tk, os⟩ := s
    obtain ⟨h1, h⟩ := h
    have hs := sub_enumerate
    have it1 : ∀ {A' : Around} {E : Value → Shared → Prop} {Q : Value → Shared → Prop}, Q (.ref hp.objs.size) ⟨hp.push o, g, d, tk, os⟩ → wpAny (model prog w) A' (pyIter v) Q E ⟨hp, g, d, tk, os⟩ :=
      fun q => B.iter prog w _ _ ⟨hp, g, d, tk, os⟩ _ h1 q
    wp_walk using it1
    refine wpAny_stack_any fun st => wpAny_pure ?_
    split
    · rename_i cc _ _ _ _ _
      cases (cc == Value.type "enumerate")
      · wp_walk using it1
        exact ⟨_, rfl, h⟩
      · wp_walk using it1
        exact ⟨_, rfl, h⟩
    · wp_walk using it1
      exact ⟨_, rfl, h⟩
section
variable {prog : Program} {w : World} {A : Around} {E : Value → Shared → Prop} {s : Shared}
theorem call_enumT {t : Addr} {items : Array Value} {Q : Value → Shared → Prop} (ht : s.heap.IsTuple t items)
    (h : ∀ h', IsEnum h' (s.heap.objs.size + 1) s.heap.objs.size 0 .none → h'.IsTupleIter s.heap.objs.size t 0 → (∀ b o, s.heap.get? b = some o → h'.get? b = some o) → Q (.ref (s.heap.objs.size + 1)) { s with heap := h' }) :
    wpAny (model prog w) A (call (.type "enumerate") [.ref t]) Q E s := by
  refine callType_new F.called_enumerate (by decide) (F.typeCall_enumerate_1 _) (F.newCall_enumerate_1 _) (fun obj => F.args_object_init_2 obj _) F.entry_enumerate_new (new_enum (begins_tuple t items)) ⟨ht, ?_⟩
  have z1 : (s.heap.push { cls := .type "tuple_iterator", data := .fields #[.ref t, .int 0 0] }).objs.size = s.heap.objs.size + 1 := Heap.size_push ..
  show _ ∧ _
  rw [z1]
  have he : IsEnum ((s.heap.push { cls := .type "tuple_iterator", data := .fields #[.ref t, .int 0 0] }).push { cls := .type "enumerate", data := .fields #[.none, .bool false, .ref s.heap.objs.size, rawInt 0, .none, .none] }) (s.heap.objs.size + 1) s.heap.objs.size 0 .none := by
    have q := Heap.get?_push_size (s.heap.push { cls := .type "tuple_iterator", data := .fields #[.ref t, .int 0 0] }) (o := { cls := .type "enumerate", data := .fields #[.none, .bool false, .ref s.heap.objs.size, rawInt 0, .none, .none] }) rfl
    rw [z1] at q
    exact q
  exact ⟨⟨_, he, rfl⟩, h _ he ⟨_, Heap.get?_push_of_some _ (Heap.get?_push_size _ rfl), rfl, rfl⟩ fun b o x => Heap.get?_push_of_some _ (Heap.get?_push_of_some _ x)⟩
end
/-- the tuple at a: the index and the item in a new pair -/
def ItT (K : PySem.W.Frag) (a : Addr) : It :=
  ⟨fun i H => ∃ (xs : List V) (x : V), SqT K H a xs ∧ xs[i]? = some x, fun i H v H' => ∃ T x, v = .ref T ∧ H T = none ∧ H' = upd H T (.tup [.int (i : Nat), x]) ∧ ∀ xs, SqT K H a xs → xs[i]? = some x, fun i H => ∃ xs : List V, SqT K H a xs ∧ xs.length = i⟩
theorem turn_enumT {P : Program} {w : World} {K : PySem.W.Frag} {elts : List Expr} {kk : Nat} {tpos : Pos} (a e it : Addr) (hae : a ≠ e) (hai : a ≠ it) :
    Turn P w K (.Tuple elts kk tpos) (ItT K a) [e, it] e (fun i h => (∃ old, IsEnum h e it ((i : Nat) : Int) old) ∧ h.IsTupleIter it a i ∧ e ≠ it) where
  mem := by simp
  obj := fun i h st b hb => by
    obtain ⟨⟨old, he⟩, ⟨o, ho, hc, hd⟩, _⟩ := st
    have e' : b = e ∨ b = it := by simpa using hb
    rcases e' with z | z
    · rw [z]
      exact ⟨_, he, fun v q => nomatch q⟩
    · rw [z]
      exact ⟨o, ho, fun v q => by rw [hd] at q; cases q⟩
  keep := fun i h h' st k => let ⟨⟨old, he⟩, hi, hne⟩ := st; ⟨⟨old, k e (by simp) _ he⟩, hi.at fun o q => k it (by simp) o q, hne⟩
  item := by
    intro X hP hw hK hc i pins s σ H E I hf st hg
    subst hP hw hK
    obtain ⟨⟨old, he⟩, hit, hne⟩ := st
    obtain ⟨xs, x, hq, hx⟩ := hg
    obtain ⟨its, rv, p, hz⟩ := I.tuple hq
    obtain ⟨u, hu, ru⟩ := rv.get hx
    have hel : e < s.heap.objs.size := Heap.lt_size he
    have hil : it < s.heap.objs.size := by
      obtain ⟨_, q, _⟩ := hit
      exact Heap.lt_size q
    have hT0 : s.heap.IsTuple a its.toArray := p
    have hlen : i < its.toArray.size := by
      have := (List.getElem?_eq_some_iff.mp hu).1
      simpa using this
    have DD := Draws.tuple (prog := X.prog) (w := X.w) (A := X.A.in1) (I.ok.hd hc) it a hai its.toArray
    refine wpAny_pyNext_enum_itemD DD he ⟨hit, hT0⟩ hlen hne (by simp [hne, Ne.symm hae]) fun x' h' tk hPx ho hit' hT hsz hk => ?_
    have ex : x' = u := by
      have h1 : its.toArray[i]? = some x' := hPx
      have h2 : its.toArray[i]? = some u := by simpa using hu
      rw [h1] at h2
      exact Option.some.inj h2
    subst ex
    refine ⟨_, rfl, wpAny_letOwnedTupleGo_enum (s := { s with heap := h', toks := tk + 1 }) ho fun h'' he' sb => ?_⟩
    have hT2 : h''.get? s.heap.objs.size = some { cls := .type "tuple", data := .seq #[.int i tk, x'] } := (sb.2 _ (Nat.ne_of_gt hel)).trans hT
    have new : ObjOk X.prog X.w (upd H s.heap.objs.size (.tup [.int (i : Nat), x])) h'' s.heap.objs.size (.tup [.int (i : Nat), x]) :=
      ⟨by show 2 ≤ sizeLine; decide, [.int i tk, x'], .cons ⟨_, rfl⟩ (.cons ru .nil), ⟨_, hT2, rfl, _, rfl⟩⟩
    have I1 : Inv X pins σ (upd H s.heap.objs.size (.tup [.int (i : Nat), x])) { s with heap := h'', toks := tk + 1 } :=
      I.turnedNew (ch := [e, it]) (fun b ob hb q => (sb.2 b (fun z => hb (by simp [z]))).trans (hk b ob (fun z => hb (by simp [z])) (fun z => hb (by simp [z])) q)) hf (Nat.le_refl _) new
    refine ⟨.ref s.heap.objs.size, _, I1, rfl, ⟨_, x, rfl, I.hok.fresh (Nat.le_refl _), rfl, fun ys hy => by rw [I.tuple_inj hy hq]; exact hx⟩, ⟨⟨x', ?_⟩, hit'.1.at fun o q => (sb.2 it (Ne.symm hne)).trans q, hne⟩, fun b hb => ?_⟩
    · have e1 : ((i + 1 : Nat) : Int) = (i : Int) + 1 := by omega
      rw [e1]
      exact he'
    · have hb' : b < s.heap.objs.size := by
        have e' : b = e ∨ b = it := by simpa using hb
        rcases e' with z | z
        · rw [z]
          exact hel
        · rw [z]
          exact hil
      rw [upd_ne (Nat.ne_of_lt hb')]
      exact (hf b hb).1
  done := by
    intro X hP hw hK hc i pins s σ H E I hf st hg
    subst hP hw hK
    obtain ⟨⟨old, he⟩, hit, hne⟩ := st
    obtain ⟨xs, hq, hx⟩ := hg
    obtain ⟨its, rv, p, hz⟩ := I.tuple hq
    obtain ⟨f0, f1, f2, f3, f4, f5⟩ := hf it (by simp)
    have hl := rv.length
    have hT0 : s.heap.IsTuple a its.toArray := p
    have DD := Draws.tuple (prog := X.prog) (w := X.w) (A := X.A.in1) (I.ok.hd hc) it a hai its.toArray
    have en : its.toArray.size = i := by
      rw [List.size_toArray]
      omega
    refine wpAny_pyNext_enum_endD DD he ⟨by rw [en]; exact hit, hT0⟩ fun h' eb => ⟨rfl, I.turned (t' := s.toks) (fun b o hb q => eb b o hb q) f0 f1 f3 f4 f5⟩
  self := fun A i s Q E st h => let ⟨⟨_, he⟩, _⟩ := st; wpAny_pyIter_enum he h
def iEnT (K : PySem.W.Frag) (ta : TA) : TI := fun σ H R => ta σ H fun vs H1 => ∃ a xs, vs = [.ref a] ∧ SqT K H1 a xs ∧ R (ItT K a) H1
theorem pi_enumT {X : Cx} {e : Expr} {ta : TA} {p pos tpos : Pos} {elts : List Expr} {kk : Nat} (hg : Gl X "enumerate") (hm : X.mg "enumerate" = none) (ha : PA X [e] ta) (hs : starEach [e] X.env = [(false, eval e X.env)] := by rfl) :
    PI X (.Tuple elts kk tpos) (.Call (.Name "enumerate" p) [e] [] pos) (iEnT X.K ta) := by
  refine ⟨fun pins s σ H R I h => ?_⟩
  refine Call_ (ld_blt I hg hm boot_enumerate (PyProof.Rows.callWith_type1 (thn (ha.run pos pins s σ H _ I h) fun us s1 ⟨vs, H1, I1, r1, q1⟩ => ?_) hs rfl))
  obtain ⟨a, xs, ex, hq, q⟩ := q1
  subst ex
  cases r1 with
  | cons r rr =>
    cases rr
    cases r
    obtain ⟨its, rv, p', hz⟩ := I1.tuple hq
    have hT0 : s1.heap.IsTuple a its.toArray := p'
    have hal : a < s1.heap.objs.size := by
      obtain ⟨o, ho, _⟩ := hT0
      exact Heap.lt_size ho
    refine call_enumT hT0 fun h' he hit hk => wpAny_pyIter_enum he ?_
    have I2 : Inv X pins σ H1 { s1 with heap := h' } := I1.kept (t' := s1.toks) hk
    refine ⟨s1.heap.objs.size + 1, [s1.heap.objs.size + 1, s1.heap.objs.size], _, _, H1, rfl, I2, turn_enumT a (s1.heap.objs.size + 1) s1.heap.objs.size (Nat.ne_of_lt (Nat.lt_succ_of_lt hal)) (Nat.ne_of_lt hal), ⟨⟨.none, he⟩, hit, Nat.succ_ne_self _⟩, fun b hb => ?_, q⟩
    have e' : b = s1.heap.objs.size + 1 ∨ b = s1.heap.objs.size := by simpa using hb
    have hle : s1.heap.objs.size ≤ b := by
      rcases e' with z | z
      · rw [z]
        exact Nat.le_add_right _ _
      · rw [z]
        exact Nat.le_refl _
    exact I1.fpOk hle (I1.hok.fresh hle)
end EnT

set_option maxHeartbeats 2000000
namespace Lf
open PySem PySem.Spec PyProof.Rows L2 GxR GxA SrT EnT
/-- for i, x in enumerate(a list that stands still) -/
theorem for_enL {K : PySem.W.Frag} {a : Addr} {xs : List V} {g : TG} {tb : TS} {D : Ends} {σ : L2.St} {H : Hp} (Pv : Nat → L2.St → Hp → Prop) (h0 : Pv 0 σ H) (hl : ∀ i σ H, Pv i σ H → SqL K H a xs)
    (hs : ∀ i x σ H T, xs[i]? = some x → Pv i σ H → H T = none → g (.ref T) σ (upd H T (.tup [.int (i : Nat), x])) fun σ2 H2 => tb { D with nx := Pv (i + 1), ct := Pv (i + 1), bk := D.nx } σ2 H2) (hd : ∀ σ H, Pv xs.length σ H → D.nx σ H) :
    ∃ W : Nat → Nat → L2.St → Hp → Prop, (∃ m, W 0 m σ H) ∧ ∀ i m σ H, W i m σ H →
      ((Ite K a).stop i H ∧ D.nx σ H) ∨ ((Ite K a).go i H ∧ ∃ N : L2.St → Hp → Prop, (∀ σ' H', N σ' H' → ∃ m', m' < m ∧ W (i + 1) m' σ' H') ∧ ∀ x H', (Ite K a).yld i H x H' → g x σ H' fun σ2 H2 => tb { D with nx := N, ct := N, bk := D.nx } σ2 H2) := by
  refine ⟨fun i m σ H => m = xs.length - i ∧ i ≤ xs.length ∧ Pv i σ H, ⟨xs.length, by simp, Nat.zero_le _, h0⟩, ?_⟩
  rintro i m σ H ⟨rfl, hi, p⟩
  have q := hl i σ H p
  by_cases hlt : i < xs.length
  · refine .inr ⟨⟨xs, xs[i], q, List.getElem?_eq_getElem hlt⟩, Pv (i + 1), fun σ' H' p' => ⟨xs.length - (i + 1), by omega, rfl, hlt, p'⟩, fun x H' y => ?_⟩
    obtain ⟨T, z, rfl, hT, rfl, hz⟩ := y
    exact hs i z σ H T (hz xs q) p hT
  · have e : i = xs.length := by omega
    subst e
    exact .inl ⟨⟨xs, q, Nat.le_refl _⟩, hd σ H p⟩
/-- [.. for i, x in enumerate(a list that stands still)] -/
theorem lc_enL {K : PySem.W.Frag} {a : Addr} {xs : List V} {g : TG} {tt : TT} {te : TE} {vs : List Nat} {σ : L2.St} {H1 : Hp} {D : Addr} {Qd : Hp → Prop} (Pv : Nat → Hp → Prop) (h0 : Pv 0 (upd H1 D (.lst []))) (hl : ∀ i H, Pv i H → SqL K H a xs)
    (hs : ∀ i x H T, xs[i]? = some x → Pv i H → H T = none → g (.ref T) (wipe σ vs) (upd H T (.tup [.int (i : Nat), x])) fun σ2 H2 => wipe σ2 vs = wipe σ vs ∧ tt σ2 H2 fun b H3 =>
      if b = true then te σ2 H3 fun y H4 => ∃ acc, H4 D = some (.lst acc) ∧ acc.length < sizeLine ∧ Pv (i + 1) (upd H4 D (.lst (acc ++ [y]))) else Pv (i + 1) H3) (hd : ∀ H, Pv xs.length H → Qd H) :
    ∃ W : Nat → Nat → Hp → Prop, (∃ m, W 0 m (upd H1 D (.lst []))) ∧ ∀ i m H, W i m H →
      ((Ite K a).stop i H ∧ Qd H) ∨ ((Ite K a).go i H ∧ ∃ Nx : Hp → Prop, (∀ H', Nx H' → ∃ m', m' < m ∧ W (i + 1) m' H') ∧ ∀ x H', (Ite K a).yld i H x H' → g x (wipe σ vs) H' fun σ2 H2 => wipe σ2 vs = wipe σ vs ∧ tt σ2 H2 fun b H3 =>
        if b = true then te σ2 H3 fun y H4 => ∃ acc, H4 D = some (.lst acc) ∧ acc.length < sizeLine ∧ Nx (upd H4 D (.lst (acc ++ [y]))) else Nx H3) := by
  refine ⟨fun i m H => m = xs.length - i ∧ i ≤ xs.length ∧ Pv i H, ⟨xs.length, by simp, Nat.zero_le _, h0⟩, ?_⟩
  rintro i m H ⟨rfl, hi, p⟩
  have q := hl i H p
  by_cases hlt : i < xs.length
  · refine .inr ⟨⟨xs, xs[i], q, List.getElem?_eq_getElem hlt⟩, Pv (i + 1), fun H' p' => ⟨xs.length - (i + 1), by omega, rfl, hlt, p'⟩, fun x H' y => ?_⟩
    obtain ⟨T, z, rfl, hT, rfl, hz⟩ := y
    exact hs i z H T (hz xs q) p hT
  · have e : i = xs.length := by omega
    subst e
    exact .inl ⟨⟨xs, q, Nat.le_refl _⟩, hd H p⟩
section
variable {P : Program} {w : World} {K : PySem.W.Frag} {mg : Str → Option Value} {base : Heap} {Ps : Tbs} {H H' H0 : Hp} {k : Nat} {f c : Addr} {fd : FuncData}
/-! ### counts -/
def countsN (n kk : Nat) (fss : List (List Int)) : List Int := (List.range (kk + 1)).map fun m => ((partsN n fss m).length : Int)
def spCounts (K : PySem.W.Frag) (Ps : Tbs) : Sp := fun vs H Q _ => ∃ (x : V) (n kk : Int) (fss : List (List Int)), vs = [x] ∧ Stk K H x n kk fss ∧ StkOk n kk fss ∧ fss.length ≤ 60 ∧ Tb Ps H ∧
  ∀ v H', Ext Ps H H' → TupI K H' v (countsN n.toNat kk.toNat fss) → Q v H'
/-! ### is_row -/
/-- a stack, and a tuple of numbers of its faces -/
structure AskR (K : PySem.W.Frag) (Ps : Tbs) (H : Hp) (x y : V) (n k : Int) (fss : List (List Int)) (ns : List Int) : Prop where
  stk : Stk K H x n k fss
  ok : StkOk n k fss
  row : TupI K H y ns
  bel : ∀ i ∈ ns, 0 ≤ i ∧ i < (fss.length : Int)
  len : ns.length ≤ 100
  tb : Tb Ps H
theorem AskR.ext {x y : V} {n k : Int} {fss : List (List Int)} {ns : List Int} (h : AskR K Ps H x y n k fss ns) (e : Ext Ps H H') : AskR K Ps H' x y n k fss ns := ⟨e.stk h.stk, h.ok, e.tupI h.row, h.bel, h.len, e.tb⟩
def spIsRow (K : PySem.W.Frag) (Ps : Tbs) : Sp := fun vs H Q _ => ∃ (x y : V) (n kk : Int) (fss : List (List Int)) (ns : List Int), vs = [x, y] ∧ AskR K Ps H x y n kk fss ns ∧ ∀ b H', (b = true ↔ ns.Perm (rng fss.length)) → Ext Ps H H' → Q (.bl b) H'
theorem le_perm_eq {us vs : List Int} (p : us.Perm vs) (h1 : us.Pairwise (· ≤ ·)) (h2 : vs.Pairwise (· ≤ ·)) : us = vs := List.Perm.eq_of_pairwise (fun a b _ _ h1 h2 => by omega) h1 h2 p
theorem rng_le (m : Nat) : (rng m).Pairwise (· ≤ ·) := by
  unfold rng
  rw [List.pairwise_map]
  exact List.Pairwise.imp (fun {a b} h => by omega) List.pairwise_lt_range
def spEach (K : PySem.W.Frag) (Ps : Tbs) : Sp := fun vs H Q _ => ∃ (y : V) (m : Nat) (ns : List Int), vs = [y, .int m] ∧ TupI K H y ns ∧ (∀ i ∈ ns, 0 ≤ i ∧ i < (m : Int)) ∧ m ≤ 1000 ∧ Tb Ps H ∧ ∀ b H', (b = true ↔ ns.Perm (rng m)) → Ext Ps H H' → Q (.bl b) H'
end
end Lf

set_option maxHeartbeats 4000000
namespace Lf
open PySem PySem.Spec PyProof.Rows L2 GxR GxA SrT
abbrev sKinds : Stmt := topS 35
abbrev sRefused : Stmt := topS 36
theorem scKinds : FnScope ["_law_e", "_law_found", "_law_words"] ["_law_e"] (defScope sKinds) := ⟨rfl, rfl, rfl, by decide +kernel, rfl, by decide +kernel, by decide +kernel⟩
theorem scRefused : FnScope ["_law_call", "_law_e"] ["_law_call"] (defScope sRefused) := ⟨rfl, rfl, rfl, by decide +kernel, rfl, by decide +kernel, by decide +kernel⟩
/-- the classes of refusals by their names -/
structure Kinds (mg : Str → Option Value) (C : Nat → Addr) : Prop where
  n0 : mg "NoStack" = some (.ref (C 0))
  n1 : mg "NoNumber" = some (.ref (C 1))
  n2 : mg "NoPart" = some (.ref (C 2))
  n3 : mg "NoLot" = some (.ref (C 3))
  n4 : mg "NoRow" = some (.ref (C 4))
  n5 : mg "NoOrder" = some (.ref (C 5))
  n6 : mg "NoNames" = some (.ref (C 6))
  n7 : mg "NoRim" = some (.ref (C 7))
  n8 : mg "NoTaking" = some (.ref (C 8))
  n9 : mg "NoText" = some (.ref (C 9))
  n10 : mg "NoLine" = some (.ref (C 10))
  n11 : mg "NoDeed" = some (.ref (C 11))
  n12 : mg "TooGreat" = some (.ref (C 12))
/-- the class at D is the i-th -/
structure Kind (K : PySem.W.Frag) (C : Nat → Addr) (CL : Addr) (i : Nat) (D : Addr) : Prop where
  lt : i < 12
  exc : ExcC K D
  kit : ∀ j, j < 13 → PySem.W.kitOne K (.ref D) (.ref (C j)) = some (decide (j = i))
  ve : PySem.W.kitOne K (.ref D) (.type "ValueError") = some true
  lay : PySem.W.exmOne K (.ref D) (.ref CL) = some true
def words : List Str := ["stack", "number", "part", "lot", "row", "order", "names", "rim", "taking", "text", "line", "deed"]
def wordOf (i : Nat) : Str := words.getD i ""
def boolsAt (i : Nat) : List Bool := (List.range 13).map fun j => decide (j = i)
theorem bools_dp {K : PySem.W.Frag} {H : Hp} : ∀ bs : List Bool, DpAll K H (bs.map V.bl) (bs.map PyData.bool)
  | [] => .nil
  | b :: bs => .cons (.bl b) (bools_dp bs)
theorem eqv_bools : PyData.eqv (.bool true) (.bool true) = true ∧ PyData.eqv (.bool false) (.bool true) = false := ⟨by simp [PyData.eqv], by simp [PyData.eqv]⟩
theorem bools_count (i : Nat) (h : i < 12) : ((boolsAt i).map PyData.bool).countP (fun z => PyData.eqv z (.bool true)) = 1 := by
  have e : ∀ b : Bool, PyData.eqv (.bool b) (.bool true) = b := fun b => by cases b <;> simp [PyData.eqv]
  rw [List.countP_map]
  have e2 : ((fun z => PyData.eqv z (.bool true)) ∘ PyData.bool) = id := by
    funext b
    exact e b
  rw [e2]
  have z : ((List.range 12).all fun i => decide ((boolsAt i).countP id = 1)) = true := by decide +kernel
  exact of_decide_eq_true (List.all_eq_true.mp z i (List.mem_range.mpr h))
theorem bools_at {i j : Nat} (h : j < 13) : ((boolsAt i).map PyData.bool)[j]? = some (.bool (decide (j = i))) := by
  unfold boolsAt
  rw [List.getElem?_map, List.getElem?_map, List.getElem?_range h]
  rfl
theorem bools_plain : ∀ bs : List Bool, PyData.plainAll (bs.map PyData.bool) = true ∧ PyData.canLayAll0 (bs.map PyData.bool) = true ∧ PyData.depthAll (bs.map PyData.bool) = 0
  | [] => ⟨by simp [PyData.plainAll], by simp [PyData.canLayAll0], by simp [PyData.depthAll]⟩
  | b :: bs => by
    obtain ⟨h1, h2, h3⟩ := bools_plain bs
    exact ⟨by simp [PyData.plainAll, PyData.plain, h1], by simp [PyData.canLayAll0, PyData.canLay0, h2], by simp [PyData.depthAll, PyData.depth, h3]⟩
section
variable {K : PySem.W.Frag} {mg : Str → Option Value} {C : Nat → Addr} {CL : Addr}
/-- what the kinds are told to be -/
def spKinds (Ps : Tbs) (a : Addr) (i : Nat) : Sp := fun vs H Q _ => vs = [.ref a] ∧ Tb Ps H ∧ ∀ H', Ext Ps H H' → Q (.str (wordOf i)) H'
theorem pe_kinds {X : Cx} {Ps : Tbs} {f c a D : Addr} {fd : FuncData} {i k : Nat} {oe : Obj} {e : Expr} {t : TA} {p pos : Pos} (DK : Def X.K X.mg "_law_kinds" sKinds ["_law_e"] f fd c) (G : Kinds X.mg C) (Z : Kind X.K C CL i D) (hz : Zc (.ref D) none oe) (hf : ∃ vs, oe.data = .fields vs) (hp : (a, oe) ∈ X.pn)
    (hr : L2H.RoomH (k + 1) X.A) (ha : PA X [e] t) (mi : X.mg "isinstance" = none) (mv : X.mg "ValueError" = none) (hg : Gl X "_law_kinds" := by rfl) (he : starEach [e] X.env = (false, eval e X.env) :: starEach [] X.env := by rfl) (hpl : (backTo pos (starEach [] X.env)).any (·.1) = false := by rfl) :
    PE X (.Call (.Name "_law_kinds" p) [e] [] pos) (tCall (spKinds Ps a i) [] E0 t) := by
  refine pe_hot (N := ["_law_e", "_law_found", "_law_words"]) DK scKinds hp hr ha (fun vs H Q E h => by rw [h.1]; rfl) (fun s H vs Q hr h => ?_) hg (by decide) he hpl
  obtain ⟨rfl, ht, q⟩ := h
  have hu : (X.A.deeper (envOfC "_law_kinds" (defScope sKinds) s.heap.objs.size f (.ref c))).units + 65 < cLine := by
    have := hr.un
    omega
  refine ⟨_, (pss_cons (ps_set (i := 1) scKinds.nd rfl (.inl rfl) (pe_lst (pa_cons (pe_callB (call_isP Z.exc hz hf (.head _)) (by rfl) mi (by decide +kernel) (pa_cons (pv 0) (pa_cons (pe_glob (v := .ref (C 0)) (by rfl) G.n0 rfl) pa_nil))) (pa_cons (pe_callB (call_isP Z.exc hz hf (.head _)) (by rfl) mi (by decide +kernel) (pa_cons (pv 0) (pa_cons (pe_glob (v := .ref (C 1)) (by rfl) G.n1 rfl) pa_nil))) (pa_cons (pe_callB (call_isP Z.exc hz hf (.head _)) (by rfl) mi (by decide +kernel) (pa_cons (pv 0) (pa_cons (pe_glob (v := .ref (C 2)) (by rfl) G.n2 rfl) pa_nil))) pa_nil))))) (pss_cons (ps_set (i := 1) scKinds.nd rfl (.inl rfl) (pe_op op_cat (pv 1) (pe_lst (pa_cons (pe_callB (call_isP Z.exc hz hf (.head _)) (by rfl) mi (by decide +kernel) (pa_cons (pv 0) (pa_cons (pe_glob (v := .ref (C 3)) (by rfl) G.n3 rfl) pa_nil))) (pa_cons (pe_callB (call_isP Z.exc hz hf (.head _)) (by rfl) mi (by decide +kernel) (pa_cons (pv 0) (pa_cons (pe_glob (v := .ref (C 4)) (by rfl) G.n4 rfl) pa_nil))) (pa_cons (pe_callB (call_isP Z.exc hz hf (.head _)) (by rfl) mi (by decide +kernel) (pa_cons (pv 0) (pa_cons (pe_glob (v := .ref (C 5)) (by rfl) G.n5 rfl) pa_nil))) pa_nil)))))) (pss_cons (ps_set (i := 1) scKinds.nd rfl (.inl rfl) (pe_op op_cat (pv 1) (pe_lst (pa_cons (pe_callB (call_isP Z.exc hz hf (.head _)) (by rfl) mi (by decide +kernel) (pa_cons (pv 0) (pa_cons (pe_glob (v := .ref (C 6)) (by rfl) G.n6 rfl) pa_nil))) (pa_cons (pe_callB (call_isP Z.exc hz hf (.head _)) (by rfl) mi (by decide +kernel) (pa_cons (pv 0) (pa_cons (pe_glob (v := .ref (C 7)) (by rfl) G.n7 rfl) pa_nil))) (pa_cons (pe_callB (call_isP Z.exc hz hf (.head _)) (by rfl) mi (by decide +kernel) (pa_cons (pv 0) (pa_cons (pe_glob (v := .ref (C 8)) (by rfl) G.n8 rfl) pa_nil))) pa_nil)))))) (pss_cons (ps_set (i := 1) scKinds.nd rfl (.inl rfl) (pe_op op_cat (pv 1) (pe_lst (pa_cons (pe_callB (call_isP Z.exc hz hf (.head _)) (by rfl) mi (by decide +kernel) (pa_cons (pv 0) (pa_cons (pe_glob (v := .ref (C 9)) (by rfl) G.n9 rfl) pa_nil))) (pa_cons (pe_callB (call_isP Z.exc hz hf (.head _)) (by rfl) mi (by decide +kernel) (pa_cons (pv 0) (pa_cons (pe_glob (v := .ref (C 10)) (by rfl) G.n10 rfl) pa_nil))) (pa_cons (pe_callB (call_isP Z.exc hz hf (.head _)) (by rfl) mi (by decide +kernel) (pa_cons (pv 0) (pa_cons (pe_glob (v := .ref (C 11)) (by rfl) G.n11 rfl) pa_nil))) pa_nil)))))) (pss_cons (ps_expr (pe_bm PySem.F.plainAttrs_list PySem.F.slot_list_append PySem.F.type_list_append mt_append (pv 1) (pa_cons (pe_callB (call_isP Z.exc hz hf (.head _)) (by rfl) mi (by decide +kernel) (pa_cons (pv 0) (pa_cons (pe_glob (v := .ref (C 12)) (by rfl) G.n12 rfl) pa_nil))) pa_nil))) (pss_cons (ps_if (PW.pt (pw_or (pt_not (pt_val (pe_callB (call_isP Z.exc hz hf (.head _)) (by rfl) mi (by decide +kernel) (pa_cons (pv 0) (pa_cons (pe_bltn (v := .ty "ValueError") (by rfl) mv (by decide +kernel) rfl) pa_nil))))) (pw_or1 (pt_cmpR op_ne (pe_bm PySem.F.plainAttrs_list PySem.F.slot_list_count PySem.F.type_list_count (mt_countD hu) (pv 1) (pa_cons pe_bl pa_nil)) pe_int (nomark _))))) (pss_one (ps_ret pe_str)) pss_nil) (pss_cons (ps_if (pt_val (pe_callB (call_isP Z.exc hz hf (.head _)) (by rfl) mi (by decide +kernel) (pa_cons (pv 0) (pa_cons (pe_glob (v := .ref (C 12)) (by rfl) G.n12 rfl) pa_nil)))) (pss_one ps_never) pss_nil) (pss_cons (ps_set (i := 2) scKinds.nd rfl (.inl rfl) (pe_lst (pa_cons pe_str (pa_cons pe_str (pa_cons pe_str (pa_cons pe_str (pa_cons pe_str (pa_cons pe_str (pa_cons pe_str (pa_cons pe_str (pa_cons pe_str pa_nil))))))))))) (pss_one (ps_ret (pe_ix ix_list (pe_op op_cat (pv 2) (pe_lst (pa_cons pe_str (pa_cons pe_str (pa_cons pe_str pa_nil))))) (pe_bm PySem.F.plainAttrs_list PySem.F.slot_list_index PySem.F.type_list_index (mt_indexD hu) (pv 1) (pa_cons pe_bl pa_nil)) (fun _ _ => rfl)))))))))))), ?_⟩
  have c3 : (3 : Nat) ≤ sizeLine := by decide
  refine ⟨.ref a, rfl, _, _, _, rfl, fun _ r => r, Z.kit 0 (by decide), ⟨.ref a, rfl, _, _, _, rfl, fun _ r => r, Z.kit 1 (by decide), ⟨.ref a, rfl, _, _, _, rfl, fun _ r => r, Z.kit 2 (by decide), ⟨c3, fun l1 n1 => ?_⟩⟩⟩⟩
  have e1 : Ext Ps H (upd H l1 (.lst [.bl (decide (0 = i)), .bl (decide (1 = i)), .bl (decide (2 = i))])) := Ext.new ht n1
  have h1 : (upd H l1 (.lst [.bl (decide (0 = i)), .bl (decide (1 = i)), .bl (decide (2 = i))])) l1 = some (.lst [.bl (decide (0 = i)), .bl (decide (1 = i)), .bl (decide (2 = i))]) := upd_same
  generalize upd H l1 (.lst [.bl (decide (0 = i)), .bl (decide (1 = i)), .bl (decide (2 = i))]) = H1 at *
  refine ⟨.ref l1, rfl, ⟨.ref a, rfl, _, _, _, rfl, fun _ r => r, Z.kit 3 (by decide), ⟨.ref a, rfl, _, _, _, rfl, fun _ r => r, Z.kit 4 (by decide), ⟨.ref a, rfl, _, _, _, rfl, fun _ r => r, Z.kit 5 (by decide), ⟨c3, fun p2 np2 => ?_⟩⟩⟩⟩⟩
  have f2 := Ext.new (o := .lst [.bl (decide (3 = i)), .bl (decide (4 = i)), .bl (decide (5 = i))]) e1.tb np2
  refine ⟨l1, p2, _, _, rfl, rfl, f2.lst h1, upd_same, Nat.le_of_lt (small1000 (by show 3 + 3 ≤ 1000; decide)), fun l2 n2 => ?_⟩
  have e2 : Ext Ps H (upd (upd H1 p2 (.lst [.bl (decide (3 = i)), .bl (decide (4 = i)), .bl (decide (5 = i))])) l2 (.lst ([.bl (decide (0 = i)), .bl (decide (1 = i)), .bl (decide (2 = i))] ++ [.bl (decide (3 = i)), .bl (decide (4 = i)), .bl (decide (5 = i))]))) := (e1.trans f2).trans (Ext.new f2.tb n2)
  have h2 : (upd (upd H1 p2 (.lst [.bl (decide (3 = i)), .bl (decide (4 = i)), .bl (decide (5 = i))])) l2 (.lst ([.bl (decide (0 = i)), .bl (decide (1 = i)), .bl (decide (2 = i))] ++ [.bl (decide (3 = i)), .bl (decide (4 = i)), .bl (decide (5 = i))]))) l2 = some (.lst [.bl (decide (0 = i)), .bl (decide (1 = i)), .bl (decide (2 = i)), .bl (decide (3 = i)), .bl (decide (4 = i)), .bl (decide (5 = i))]) := upd_same
  have m2 : H l2 = none := (e1.trans f2).free n2
  generalize upd (upd H1 p2 (.lst [.bl (decide (3 = i)), .bl (decide (4 = i)), .bl (decide (5 = i))])) l2 (.lst ([.bl (decide (0 = i)), .bl (decide (1 = i)), .bl (decide (2 = i))] ++ [.bl (decide (3 = i)), .bl (decide (4 = i)), .bl (decide (5 = i))])) = H2 at *
  refine ⟨.ref l2, rfl, ⟨.ref a, rfl, _, _, _, rfl, fun _ r => r, Z.kit 6 (by decide), ⟨.ref a, rfl, _, _, _, rfl, fun _ r => r, Z.kit 7 (by decide), ⟨.ref a, rfl, _, _, _, rfl, fun _ r => r, Z.kit 8 (by decide), ⟨c3, fun p3 np3 => ?_⟩⟩⟩⟩⟩
  have f3 := Ext.new (o := .lst [.bl (decide (6 = i)), .bl (decide (7 = i)), .bl (decide (8 = i))]) e2.tb np3
  refine ⟨l2, p3, _, _, rfl, rfl, f3.lst h2, upd_same, Nat.le_of_lt (small1000 (by show 6 + 3 ≤ 1000; decide)), fun l3 n3 => ?_⟩
  have e3 : Ext Ps H (upd (upd H2 p3 (.lst [.bl (decide (6 = i)), .bl (decide (7 = i)), .bl (decide (8 = i))])) l3 (.lst ([.bl (decide (0 = i)), .bl (decide (1 = i)), .bl (decide (2 = i)), .bl (decide (3 = i)), .bl (decide (4 = i)), .bl (decide (5 = i))] ++ [.bl (decide (6 = i)), .bl (decide (7 = i)), .bl (decide (8 = i))]))) := (e2.trans f3).trans (Ext.new f3.tb n3)
  have h3 : (upd (upd H2 p3 (.lst [.bl (decide (6 = i)), .bl (decide (7 = i)), .bl (decide (8 = i))])) l3 (.lst ([.bl (decide (0 = i)), .bl (decide (1 = i)), .bl (decide (2 = i)), .bl (decide (3 = i)), .bl (decide (4 = i)), .bl (decide (5 = i))] ++ [.bl (decide (6 = i)), .bl (decide (7 = i)), .bl (decide (8 = i))]))) l3 = some (.lst [.bl (decide (0 = i)), .bl (decide (1 = i)), .bl (decide (2 = i)), .bl (decide (3 = i)), .bl (decide (4 = i)), .bl (decide (5 = i)), .bl (decide (6 = i)), .bl (decide (7 = i)), .bl (decide (8 = i))]) := upd_same
  have m3 : H l3 = none := (e2.trans f3).free n3
  generalize upd (upd H2 p3 (.lst [.bl (decide (6 = i)), .bl (decide (7 = i)), .bl (decide (8 = i))])) l3 (.lst ([.bl (decide (0 = i)), .bl (decide (1 = i)), .bl (decide (2 = i)), .bl (decide (3 = i)), .bl (decide (4 = i)), .bl (decide (5 = i))] ++ [.bl (decide (6 = i)), .bl (decide (7 = i)), .bl (decide (8 = i))])) = H3 at *
  refine ⟨.ref l3, rfl, ⟨.ref a, rfl, _, _, _, rfl, fun _ r => r, Z.kit 9 (by decide), ⟨.ref a, rfl, _, _, _, rfl, fun _ r => r, Z.kit 10 (by decide), ⟨.ref a, rfl, _, _, _, rfl, fun _ r => r, Z.kit 11 (by decide), ⟨c3, fun p4 np4 => ?_⟩⟩⟩⟩⟩
  have f4 := Ext.new (o := .lst [.bl (decide (9 = i)), .bl (decide (10 = i)), .bl (decide (11 = i))]) e3.tb np4
  refine ⟨l3, p4, _, _, rfl, rfl, f4.lst h3, upd_same, Nat.le_of_lt (small1000 (by show 9 + 3 ≤ 1000; decide)), fun l4 n4 => ?_⟩
  have e4 : Ext Ps H (upd (upd H3 p4 (.lst [.bl (decide (9 = i)), .bl (decide (10 = i)), .bl (decide (11 = i))])) l4 (.lst ([.bl (decide (0 = i)), .bl (decide (1 = i)), .bl (decide (2 = i)), .bl (decide (3 = i)), .bl (decide (4 = i)), .bl (decide (5 = i)), .bl (decide (6 = i)), .bl (decide (7 = i)), .bl (decide (8 = i))] ++ [.bl (decide (9 = i)), .bl (decide (10 = i)), .bl (decide (11 = i))]))) := (e3.trans f4).trans (Ext.new f4.tb n4)
  have h4 : (upd (upd H3 p4 (.lst [.bl (decide (9 = i)), .bl (decide (10 = i)), .bl (decide (11 = i))])) l4 (.lst ([.bl (decide (0 = i)), .bl (decide (1 = i)), .bl (decide (2 = i)), .bl (decide (3 = i)), .bl (decide (4 = i)), .bl (decide (5 = i)), .bl (decide (6 = i)), .bl (decide (7 = i)), .bl (decide (8 = i))] ++ [.bl (decide (9 = i)), .bl (decide (10 = i)), .bl (decide (11 = i))]))) l4 = some (.lst [.bl (decide (0 = i)), .bl (decide (1 = i)), .bl (decide (2 = i)), .bl (decide (3 = i)), .bl (decide (4 = i)), .bl (decide (5 = i)), .bl (decide (6 = i)), .bl (decide (7 = i)), .bl (decide (8 = i)), .bl (decide (9 = i)), .bl (decide (10 = i)), .bl (decide (11 = i))]) := upd_same
  have m4 : H l4 = none := (e3.trans f4).free n4
  generalize upd (upd H3 p4 (.lst [.bl (decide (9 = i)), .bl (decide (10 = i)), .bl (decide (11 = i))])) l4 (.lst ([.bl (decide (0 = i)), .bl (decide (1 = i)), .bl (decide (2 = i)), .bl (decide (3 = i)), .bl (decide (4 = i)), .bl (decide (5 = i)), .bl (decide (6 = i)), .bl (decide (7 = i)), .bl (decide (8 = i))] ++ [.bl (decide (9 = i)), .bl (decide (10 = i)), .bl (decide (11 = i))])) = H4 at *
  refine ⟨.ref l4, rfl, .inl ⟨rfl, _, .inl (.inl h4)⟩, ⟨.ref a, rfl, _, _, _, rfl, fun _ r => r, Z.kit 12 (by decide), ⟨l4, _, _, rfl, rfl, h4, small1000 (by show 12 ≤ 1000; decide), ?_⟩⟩⟩
  have e5 : Ext Ps H (upd H4 l4 (.lst ([.bl (decide (0 = i)), .bl (decide (1 = i)), .bl (decide (2 = i)), .bl (decide (3 = i)), .bl (decide (4 = i)), .bl (decide (5 = i)), .bl (decide (6 = i)), .bl (decide (7 = i)), .bl (decide (8 = i)), .bl (decide (9 = i)), .bl (decide (10 = i)), .bl (decide (11 = i))] ++ [.bl (decide (12 = i))]))) := e4.write m4 h4 (fun q z => by cases z)
  have h5 : (upd H4 l4 (.lst ([.bl (decide (0 = i)), .bl (decide (1 = i)), .bl (decide (2 = i)), .bl (decide (3 = i)), .bl (decide (4 = i)), .bl (decide (5 = i)), .bl (decide (6 = i)), .bl (decide (7 = i)), .bl (decide (8 = i)), .bl (decide (9 = i)), .bl (decide (10 = i)), .bl (decide (11 = i))] ++ [.bl (decide (12 = i))]))) l4 = some (.lst ((boolsAt i).map V.bl)) := upd_same
  generalize upd H4 l4 (.lst ([.bl (decide (0 = i)), .bl (decide (1 = i)), .bl (decide (2 = i)), .bl (decide (3 = i)), .bl (decide (4 = i)), .bl (decide (5 = i)), .bl (decide (6 = i)), .bl (decide (7 = i)), .bl (decide (8 = i)), .bl (decide (9 = i)), .bl (decide (10 = i)), .bl (decide (11 = i))] ++ [.bl (decide (12 = i))])) = H5 at *
  -- one of them
  have hD : Dp X.K H5 (.ref l4) (.list ((boolsAt i).map PyData.bool)) := .lst (.inl (.inl h5)) (bools_dp _)
  obtain ⟨p1, p2, p3⟩ := bools_plain (boolsAt i)
  refine ⟨.ref a, rfl, _, _, true, rfl, fun u r => r, Z.ve, true, rfl, iteF ?_⟩
  refine ⟨.ref l4, rfl, .inl ⟨rfl, _, .inl (.inl h5)⟩, l4, .bl true, .bool true, _, rfl, rfl, hD, .bl true, p1, by simp [PyData.plain], by simp [PyData.depth], rfl, false, ?_, iteF ?_⟩
  · rw [bools_count i Z.lt]
    simp
  refine ⟨.ref a, rfl, _, _, _, rfl, fun _ r => r, Z.kit 12 (by decide), false, ?_, iteF ?_⟩
  · have := Z.lt
    rw [decide_eq_false (show ¬ 12 = i by omega)]
  -- the word
  refine ⟨Nat.le_of_lt (small1000 (by show 9 ≤ 1000; decide)), fun w1 nw1 => ⟨.ref w1, rfl, c3, fun w2 nw2 => ?_⟩⟩
  have e6 := Ext.new (o := .lst [.str "stack", .str "number", .str "part", .str "lot", .str "row", .str "order", .str "names", .str "rim", .str "taking"]) e5.tb nw1
  have e7 := Ext.new (o := .lst [.str "text", .str "line", .str "deed"]) e6.tb nw2
  refine ⟨w1, w2, _, _, rfl, rfl, e7.lst upd_same, upd_same, Nat.le_of_lt (small1000 (by show 9 + 3 ≤ 1000; decide)), fun w3 nw3 => ?_⟩
  have e8 := Ext.new (o := .lst ([.str "stack", .str "number", .str "part", .str "lot", .str "row", .str "order", .str "names", .str "rim", .str "taking"] ++ [.str "text", .str "line", .str "deed"])) e7.tb nw3
  have e58 := e6.trans (e7.trans e8)
  have sh : SeqAt.shaped (.list ((boolsAt i).map PyData.bool)) = true := by
    unfold SeqAt.shaped
    rw [PyData.canLay0, p2, PyData.depth, p3]
    rfl
  refine ⟨.ref l4, rfl, .inl ⟨rfl, _, .inl (.inl (e58.lst h5))⟩, l4, .bl true, .bool true, _, i, .bool (decide (i = i)), rfl, rfl, e58.dp hD, .bl true, sh, rfl, bools_at (by have := Z.lt; omega), by simp [PyData.eqv], fun m z' hm hz => ?_, ?_⟩
  · rw [bools_at (by have := Z.lt; omega)] at hz
    cases hz
    rw [decide_eq_false (by omega)]
    exact eqv_bools.2
  refine ⟨w3, _, (i : Int), .str (wordOf i), rfl, rfl, .inl (.inl upd_same), ?_, q _ (e5.trans e58)⟩
  refine atI_nat ?_
  have z : ∀ i : Nat, i < 12 → ((words.map V.str)[i]? = some (V.str (wordOf i))) := fun i hi => by
    rw [List.getElem?_map]
    unfold wordOf
    rw [List.getD_eq_getElem?_getD, List.getElem?_eq_getElem (show i < words.length from hi)]
    rfl
  exact z i Z.lt
end
end Lf

set_option maxHeartbeats 4000000
namespace Lf
open PySem PySem.Spec PyProof.Rows L2 GxR GxA SrT
section
variable {K : PySem.W.Frag} {mg : Str → Option Value} {C : Nat → Addr} {CL : Addr}
/-- what a call of _law_refused makes of the lambda's reading -/
def TRef (K : PySem.W.Frag) (C : Nat → Addr) (CL : Addr) (Ps : Tbs) : (XK → Hp → VK → Prop) → Hp → VK → Prop := fun tl H Q =>
  tl (fun cls d H' => d = none ∧ ∃ i D, cls = .ref D ∧ Kind K C CL i D ∧ Tb Ps H' ∧ ∀ H2, Ext Ps H' H2 → Q (.str (wordOf i)) H2) H (fun _ H' => Q (.str "told") H')
theorem refused_gives {X : Cx} {Ps : Tbs} {f c g cg : Addr} {fd : FuncData} {k : Nat} {q : Str} (DK : Def X.K X.mg "_law_kinds" sKinds ["_law_e"] f fd c) (G : Kinds X.mg C) (gL : X.mg "LayError" = some (.ref CL)) (mi : X.mg "isinstance" = none) (mv : X.mg "ValueError" = none) (hr : Room (k + 2) X.A) :
    LamX.GivesTo X ["_law_call", "_law_e"] "_law_refused" (defScope sRefused) g (.ref cg) (defBody sRefused) "_law_call" q (TRef X.K C CL Ps) := by
  intro fl d s H Q tl act hc h
  have nd : (["_law_call", "_law_e"] : List Str).Nodup := by decide +kernel
  refine ⟨_, pss_cons (ps_try_as (X := (cxOf C8.CX0 X.prog X.w X.K X.mg X.base ["_law_call", "_law_e"] "_law_refused" (defScope sRefused) g (.ref cg) X.A X.stack s H C8.E0).nox) (c := .ref CL) (i := 1)
      (tb := fun W D σ H => ∃ Ech : XK, (∀ cls d σ' H', Ech cls d H' → W cls d σ' H') ∧ σ[0]? = some (some (.ref fl)) ∧ H d = some (LamX.CodeO d q) ∧ tl Ech H (fun _ H' => D.nx σ H'))
      (ts := fun a cls dx D σ H => ∃ i D0, cls = .ref D0 ∧ dx = none ∧ Kind X.K C CL i D0 ∧ (σ.length = 2 → σ[1]? = some (some (.ref a))) ∧ Tb Ps H ∧ ∀ H', Ext Ps H H' → D.rt (.str (wordOf i)) H')
      (Wout := fun _ _ _ _ => False) rfl rfl nd rfl rfl ⟨rfl, by decide, .inl gL⟩ LamX.takes0 (fun W pn xe tk _ => ?_) (fun a oe cls dx pn hz hf => ?_)) (pss_one (ps_ret pe_str)), ?_⟩
  · refine ⟨fun pins s' σ H' D I h' => ?_⟩
    obtain ⟨Ech, hW, h1, h2, h3⟩ := h'
    exact (pss_one (ps_expr (act W pn xe Ech _ _ tk hW))).run pins s' σ H' D I ⟨h1, h2, h3⟩
  · refine ⟨fun pins s' σ H' D I h' => ?_⟩
    obtain ⟨i, D0, rfl, rfl, Z, hσ, ht, hq⟩ := h'
    have hr1 : Room (k + 1) (X.A.deeper (envOfC "_law_refused" (defScope sRefused) s.heap.objs.size g (.ref cg))) := Room.deeper (k := k + 1) hr _
    have hr2 : L2H.RoomH (k + 1) ((X.A.deeper (envOfC "_law_refused" (defScope sRefused) s.heap.objs.size g (.ref cg))).mark (some (.ref a))) := ⟨hr1.dp, hr1.un⟩
    exact (pss_one (ps_ret (pe_kinds (X := ((cxOf C8.CX0 X.prog X.w X.K X.mg X.base ["_law_call", "_law_e"] "_law_refused" (defScope sRefused) g (.ref cg) X.A X.stack s H C8.E0).nox).suite a ((a, oe) :: pn)) (Ps := Ps) DK G Z hz hf (.head _) hr2 (pa_cons (pv 1) pa_nil) mi mv))).run pins s' σ H' D I ⟨.ref a, hσ I.len, rfl, ht, hq⟩
  · refine ⟨fun cls dx H' => dx = none ∧ ∃ i D, cls = .ref D ∧ Kind X.K C CL i D ∧ Tb Ps H' ∧ ∀ H2, Ext Ps H' H2 → Q (.str (wordOf i)) H2, fun cls dx σ' H' hh => ?_, rfl, hc, h⟩
    obtain ⟨rfl, i, D0, rfl, Z, ht, hq⟩ := hh
    refine ⟨true, Z.lay, fun _ a na => ⟨i, D0, rfl, rfl, Z, fun hl => ?_, ht, hq⟩, fun z => nomatch z⟩
    rw [List.length_set] at hl
    rw [List.getElem?_set_self (by omega)]
end
end Lf

set_option maxHeartbeats 1000000
namespace Lf
open PySem PySem.Spec PyProof.Rows L2 GxR GxA SrT
section
variable {P : Program} {w : World} {K : PySem.W.Frag} {mg : Str → Option Value} {base : Heap} {Ps : Tbs} {H H' H0 : Hp} {k : Nat} {f c : Addr} {fd : FuncData}
theorem cut_ints (ns : List Int) (lo hi : Option Int) : ∃ ms : List Int, ms.Sublist ns ∧ cutV (ns.map V.int) lo hi = ms.map V.int := by
  refine ⟨(ns.drop (HT.sIx (ns.map V.int).length 0 lo)).take (HT.sIx (ns.map V.int).length (ns.map V.int).length hi - HT.sIx (ns.map V.int).length 0 lo), (List.take_sublist _ _).trans (List.drop_sublist _ _), ?_⟩
  unfold cutV
  rw [List.map_take, List.map_drop]
theorem Epn.ext {a : Addr} (e : Ext Ps H0 H) (n : H0 a = none) (p : Epn Ps a H H') : Ext Ps H0 H' := by
  refine ⟨p.tb, fun b o q nt => p.old b o (ne_of_none q n) (e.old b o q nt) nt, fun b o q => ?_⟩
  obtain ⟨o', q'⟩ := e.there b o q
  exact p.there b o' q'
def spLaw (K : PySem.W.Frag) (Ps : Tbs) : Sp := fun vs H Q _ => ∃ (a : Addr) (ns : List Int), vs = [.ref a] ∧ SqL K H a (ns.map V.int) ∧ ns.length ≤ 63 ∧ Tb Ps H ∧ ∀ H', Q (.bl true) H'
end
end Lf

set_option maxHeartbeats 2000000
namespace Lf
open PySem PySem.Spec PyProof.Rows L2 GxR GxA SrT
abbrev nWithout : List Str := ["stack", "point", "n", "k", "faces", "rest", "face"]
abbrev nPartsL : List Str := ["_law_stack_here", "_law_many", "_law_found", "_law_one", "_law_face"]
abbrev nLinkL : List Str := ["_law_stack_here", "_law_part", "_law_rest", "_law_face", "_law_point"]
/-! ### the mathematics -/
def withoutL (fss : List (List Int)) (p : Int) : List (List Int) := fss.filter fun f => !decide (p ∈ f)
theorem allF_le {n k : Nat} (h : n ≤ 8) : (allF n k).length ≤ 256 := by
  unfold allF
  rw [(sortL_perm _).length_eq]
  have h1 := allK_len n k
  have h2 : 2 ^ n ≤ 2 ^ 8 := Nat.pow_le_pow_right (by omega) h
  have h3 : ((allK n k).filter fun g => decide (g.length = k)).length ≤ (allK n k).length := List.length_filter_le _ _
  omega
theorem partsN_le {n m : Nat} {fss : List (List Int)} (h : n ≤ 8) : (partsN n fss m).length ≤ 256 := Nat.le_trans (List.length_filter_le _ _) (allF_le h)
def everyN (n k : Nat) (fss : List (List Int)) : List (List Int) := (List.range k).flatMap fun m => partsN n fss m
theorem everyN_succ (n k : Nat) (fss : List (List Int)) : everyN n (k + 1) fss = everyN n k fss ++ partsN n fss k := by
  unfold everyN
  rw [List.range_succ, List.flatMap_append]
  simp
theorem everyN_le {n k : Nat} {fss : List (List Int)} (h : n ≤ 8) : (everyN n k fss).length ≤ 256 * k := by
  induction k with
  | zero => simp [everyN]
  | succ k ih =>
    rw [everyN_succ, List.length_append]
    have := partsN_le (m := k) (fss := fss) h
    omega
theorem eqv_nil (gs : List (List Int)) : PyData.eqv (.list (gs.map tD)) (.list []) = gs.isEmpty := by
  cases gs with
  | nil => simp [PyData.eqv, PyData.eqvAll]
  | cons g gs => simp [PyData.eqv, PyData.eqvAll]
theorem inSome_filt (g : List Int) (fss : List (List Int)) : (!(fss.filter fun fc => hasAll fc g).isEmpty) = inSome g fss := by
  unfold inSome
  rw [Bool.eq_iff_iff, Bool.not_eq_true', List.any_eq_true, List.isEmpty_eq_false_iff_exists_mem]
  constructor
  · rintro ⟨f, hf⟩
    obtain ⟨h1, h2⟩ := List.mem_filter.mp hf
    exact ⟨f, h1, h2⟩
  · rintro ⟨f, h1, h2⟩
    exact ⟨f, List.mem_filter.mpr ⟨h1, h2⟩⟩
theorem StkOk.without {n k : Int} {fss : List (List Int)} {p : Int} (S : StkOk n k fss) (h : withoutL fss p ≠ []) : StkOk n k (withoutL fss p) := by
  have sub : (withoutL fss p).Sublist fss := List.filter_sublist
  refine ⟨S.n1, S.n8, S.k0, S.kn, S.k4, ?_, Nat.le_trans sub.length_le S.l70, fun f hf => S.len f (sub.subset hf), fun f hf => S.ris f (sub.subset hf), fun f hf => S.bel f (sub.subset hf), S.srt.sublist sub⟩
  cases e : withoutL fss p with
  | nil => exact absurd e h
  | cons _ _ => simp
theorem tupI_seqI {K : PySem.W.Frag} {H : Hp} {x : V} {ns : List Int} (h : TupI K H x ns) : SeqI K H x ns := let ⟨t, e, hs⟩ := h; ⟨t, e, .inr hs⟩
section
variable {P : Program} {w : World} {K : PySem.W.Frag} {mg : Str → Option Value} {base : Heap} {Ps : Tbs} {H H' H0 : Hp} {k : Nat} {f c : Addr} {fd : FuncData}
/-! ### without -/
def spWithout (K : PySem.W.Frag) (Ps : Tbs) (CN : Addr) : Sp := fun vs H Q E => ∃ (x : V) (n kk i : Int) (fss : List (List Int)), vs = [x, .int i] ∧ Stk K H x n kk fss ∧ StkOk n kk fss ∧ 0 ≤ i ∧ i < n ∧ Tb Ps H ∧
  (withoutL fss i ≠ [] → ∀ v H', Ext Ps H H' → Stk K H' v n kk (withoutL fss i) → Q v H') ∧ (withoutL fss i = [] → ∀ H', Ext Ps H H' → E (.ref CN) none H')
/-! ### _law_parts -/
def spPartsL (K : PySem.W.Frag) (Ps : Tbs) : Sp := fun vs H Q _ => ∃ (x : V) (n kk m : Int) (fss : List (List Int)), vs = [x, .int m] ∧ Stk K H x n kk fss ∧ StkOk n kk fss ∧ 0 ≤ m ∧ m ≤ kk ∧ Tb Ps H ∧
  ∀ (l : Addr) (ys : List V) (H' : Hp), Ext Ps H H' → H l = none → H' l = some (.lst ys) → Paired (TupI K H') ys (partsN n.toNat fss m.toNat) → Q (.ref l) H'
/-! ### _law_every_part -/
def spEvery (K : PySem.W.Frag) (Ps : Tbs) : Sp := fun vs H Q _ => ∃ (x : V) (n kk : Int) (fss : List (List Int)), vs = [x] ∧ Stk K H x n kk fss ∧ StkOk n kk fss ∧ Tb Ps H ∧
  ∀ (l : Addr) (ys : List V) (H' : Hp), Ext Ps H H' → H l = none → H' l = some (.lst ys) → Paired (TupI K H') ys (everyN n.toNat (kk.toNat + 1) fss) → Q (.ref l) H'
/-! ### _law_link -/
def spLinkL (K : PySem.W.Frag) (Ps : Tbs) : Sp := fun vs H Q _ => ∃ (x y : V) (n kk : Int) (fss : List (List Int)) (z : List Int), vs = [x, y] ∧ AskP K Ps H x y n kk fss z ∧ ∀ v H', Ext Ps H H' → Stk K H' v n (kk - z.length) (linkL fss z) → Q v H'
end
end Lf

set_option maxHeartbeats 2000000
namespace Lf
open PySem PySem.Spec PyProof.Rows L2 GxR GxA SrT
/-- raise x(e) -/
theorem ps_refuse1 {X : Cx} {x : Str} {C : Addr} {e : Expr} {ta : TE} {p pos pos' : Pos} {E : XK} (R : Ref X.K X.mg x C) (tk : Takes X fun cls d _ H => E cls d H) (he : PE X e ta) (hc : X.calm = true := by rfl) (hg : Gl X x := by rfl) (hs : starEach [e] X.env = (false, eval e X.env) :: starEach [] X.env := by rfl) (hdb : (x == ("__debug__" : Str)) = false := by decide) :
    PS X (.Raise (some (.Call (.Name x p) [e] [] pos)) none pos') (fun _ σ H => ta σ H fun _ H1 => E (.ref C) none H1) := by
  obtain ⟨B, nI, iI, bmB, F, q⟩ := R.ex
  exact ps_raise hc tk (SkE.pmk_own1 F q R.g R.kp (raises_own R.sub R.ty) hg he hs hdb)
theorem log_small {i : Int} (h : i.natAbs ≤ 1000) : i.natAbs.log2 < 11 := by
  by_cases e : i.natAbs = 0
  · rw [e]
    decide
  · exact (Nat.log2_lt e).mpr (by omega)
theorem text_small {i : Int} (h : i.natAbs ≤ 1000) : (Str.ofString (toString i)).length ≤ 12 := by
  rw [PySem.ofString_length]
  exact int_text_length_le (by decide) (log_small h)
section
variable {P : Program} {w : World} {K : PySem.W.Frag} {mg : Str → Option Value} {base : Heap} {Ps : Tbs} {H H' H0 : Hp} {k : Nat} {f c : Addr} {fd : FuncData} {CS CN CL CR CO CP : Addr}
/-! ### need_stack, need_within, need_face, need_lot, refusing -/
def spNeedStackX (K : PySem.W.Frag) (Ps : Tbs) (CS : Addr) : Sp := fun vs H _ E => ∃ (x : V) (d : PyData), vs = [x] ∧ Th K H x d ∧ wide d = true ∧ isStackD d = false ∧ Tb Ps H ∧ ∀ H', Ext Ps H H' → E (.ref CS) none H'
theorem ok_needStackX {fS cS : Addr} {fdS : FuncData} (D : Def K mg "need_stack" sNeedStack ["stack"] f fd c) (DS : Def K mg "is_stack" sIsStack ["thing"] fS fdS cS) (GS : FnOk P w K mg base CX0 k fS fdS ["thing"] (spIsStackX K Ps)) (RS : Ref K mg "NoStack" CS) : FnOk P w K mg base (L2.CX P w) (k + 1) f fd ["stack"] (spNeedStackX K Ps CS) := by
  refine D.okX (k := k) scNeedStack (fun vs H Q E h => ?_) (fun A outer s H vs Q E hr tk h => ?_)
  · obtain ⟨x, d, rfl, _⟩ := h
    rfl
  · obtain ⟨x, d, rfl, hx, hw, hd, ht, q⟩ := h
    refine ⟨_, pss_one (ps_if (pt_not (pt_val (pcl DS GS hr (pa_cons (pv 0) pa_nil)))) (pss_one (ps_refuse RS tk)) pss_nil), ?_⟩
    refine ⟨x, rfl, x, d, rfl, hx, hw, ht, fun H1 e1 => ⟨false, by rw [hd], iteT (q _ e1)⟩⟩
def spNeedWithinX (K : PySem.W.Frag) (CN : Addr) : Sp := fun vs H _ E => ∃ (x : V) (d : PyData) (lo hi : Int), vs = [x, .int lo, .int hi] ∧ Th K H x d ∧ intIn d lo hi = false ∧ lo.natAbs ≤ 1000 ∧ hi.natAbs ≤ 1000 ∧ E (.ref CN) none H
def spNeedFaceX (K : PySem.W.Frag) (CN : Addr) : Sp := fun vs H _ E => ∃ (x y : V) (n kk : Int) (fss : List (List Int)) (d : PyData), vs = [x, y] ∧ Stk K H x n kk fss ∧ fss.length ≤ 70 ∧ Th K H y d ∧ intIn d 0 ((fss.length : Int) - 1) = false ∧ E (.ref CN) none H
def spNeedLotX (K : PySem.W.Frag) (Ps : Tbs) (CL : Addr) : Sp := fun vs H _ E => ∃ (x y : V) (n kk : Int) (fss : List (List Int)) (d : PyData), vs = [x, y] ∧ Stk K H x n kk fss ∧ Th K H y d ∧ wide d = true ∧ risD d fss.length = false ∧ Tb Ps H ∧ ∀ H', Ext Ps H H' → E (.ref CL) none H'
end
end Lf

set_option maxHeartbeats 2000000
namespace Lf
open PySem PySem.Spec PyProof.Rows L2 GxR GxA SrT EnT
theorem cut_take {xs : List V} {i : Nat} (h : i ≤ xs.length) : cutV xs none (some (i : Int)) = xs.take i := by
  unfold cutV
  rw [HT.sIx_nat]
  show (xs.drop 0).take (min i xs.length - 0) = xs.take i
  rw [List.drop_zero, Nat.sub_zero, Nat.min_eq_left h]
theorem paired_take {α β : Type} {F : α → β → Prop} : ∀ {xs : List α} {ys : List β}, Paired F xs ys → ∀ i, Paired F (xs.take i) (ys.take i)
  | _, _, .nil, i => by simp only [List.take_nil]; exact .nil
  | _, _, .cons r t, 0 => .nil
  | _, _, .cons r t, i + 1 => .cons r (paired_take t i)
/-- the first place at which a face may not be laid -/
def wrongAt : List (List Int) → List (List Int) → Nat → Option Nat
  | _, [], _ => none
  | laid, fc :: r, i => if liesOn laid fc = true then wrongAt (laid ++ [fc]) r (i + 1) else some i
def placeV : Option Nat → V
  | none => .non
  | some i => .int (i : Int)
theorem wrong_step {fs : List (List Int)} {i : Nat} {fc : List Int} (h : fs[i]? = some fc) : wrongAt (fs.take i) (fs.drop i) i = if liesOn (fs.take i) fc = true then wrongAt (fs.take (i + 1)) (fs.drop (i + 1)) (i + 1) else some i := by
  obtain ⟨hi, e⟩ := List.getElem?_eq_some_iff.mp h
  rw [List.drop_eq_getElem_cons hi, e, List.take_add_one, h]
  rfl
section
variable {P : Program} {w : World} {K : PySem.W.Frag} {mg : Str → Option Value} {base : Heap} {Ps : Tbs} {H H' H0 : Hp} {k : Nat} {f c : Addr} {fd : FuncData}
theorem facesAt_4 {n kk : Int} {fss : List (List Int)} {ns : List Int} (S : StkOk n kk fss) (hb : ∀ i ∈ ns, 0 ≤ i ∧ i < (fss.length : Int)) : ∀ g ∈ facesAt fss ns, g ∈ fss := by
  intro g hg
  unfold facesAt at hg
  obtain ⟨i, hi, e⟩ := List.mem_map.mp hg
  obtain ⟨b0, b1⟩ := hb i hi
  have hlt : i.toNat < fss.length := by omega
  rw [List.getD_eq_getElem?_getD, List.getElem?_eq_getElem hlt] at e
  rw [← e]
  exact List.getElem_mem hlt
/-! ### wrong_place -/
def spWrong (K : PySem.W.Frag) (Ps : Tbs) : Sp := fun vs H Q _ => ∃ (x y : V) (n kk : Int) (fss : List (List Int)) (ns : List Int), vs = [x, y] ∧ AskR K Ps H x y n kk fss ns ∧ ∀ H', Ext Ps H H' → Q (placeV (wrongAt [] (facesAt fss ns) 0)) H'
/-! ### is_order -/
def isOrd (fss : List (List Int)) (ns : List Int) : Prop := ns.Perm (rng fss.length) ∧ wrongAt [] (facesAt fss ns) 0 = none
def spIsOrder (K : PySem.W.Frag) (Ps : Tbs) : Sp := fun vs H Q _ => ∃ (x y : V) (n kk : Int) (fss : List (List Int)) (ns : List Int), vs = [x, y] ∧ AskR K Ps H x y n kk fss ns ∧ ∀ b H', (b = true ↔ isOrd fss ns) → Ext Ps H H' → Q (.bl b) H'
/-! ### need_order, brings -/
def spNeedOrder (K : PySem.W.Frag) (Ps : Tbs) : Sp := fun vs H Q _ => ∃ (x y : V) (n kk : Int) (fss : List (List Int)) (ns : List Int), vs = [x, y] ∧ AskR K Ps H x y n kk fss ns ∧ isOrd fss ns ∧ ∀ H', Ext Ps H H' → Q .non H'
def bringsL (fs : List (List Int)) : Nat → List (List Int)
  | 0 => []
  | i + 1 => bringsL fs i ++ [brOn (fs.take i) (fs.getD i [])]
def spBrings (K : PySem.W.Frag) (Ps : Tbs) : Sp := fun vs H Q _ => ∃ (x y : V) (n kk : Int) (fss : List (List Int)) (ns : List Int), vs = [x, y] ∧ AskR K Ps H x y n kk fss ns ∧ isOrd fss ns ∧ ∀ v H', Ext Ps H H' → LstT K H' v (bringsL (facesAt fss ns) ns.length) → Q v H'
end
end Lf

set_option maxHeartbeats 2000000
namespace Lf
open PySem PySem.Spec PyProof.Rows L2 GxR GxA SrT EnT
/-! ### rows and orders of any thing -/
def RowD (d : PyData) (m : Nat) : Prop := ∃ ns : List Int, d = tD ns ∧ ns.Perm (rng m)
def OrdD (d : PyData) (fss : List (List Int)) : Prop := ∃ ns : List Int, d = tD ns ∧ isOrd fss ns
theorem OrdD.row {d : PyData} {fss : List (List Int)} (h : OrdD d fss) : RowD d fss.length := let ⟨ns, e, h1, _⟩ := h; ⟨ns, e, h1⟩
theorem th_tupI {K : PySem.W.Frag} {H : Hp} {F : Addr → Prop} {x : V} {ns : List Int} (h : ThF K H F x (tD ns)) : TupI K H x ns := by
  cases h with
  | @tup a xs _ hs ha =>
    obtain ⟨ms, e3, e4⟩ := th_asInts ha fun d hd => by
      obtain ⟨i, _, rfl⟩ := List.mem_map.mp hd
      exact ⟨i, rfl⟩
    have e5 : ns = ms := List.map_inj_right (fun a b h => by cases h; rfl) |>.mp (show ns.map PyData.int = ms.map PyData.int from e4)
    subst e5
    rw [e3] at hs
    exact ⟨_, rfl, hs⟩
theorem row_bel {ns : List Int} {m : Nat} (h : ns.Perm (rng m)) : ∀ i ∈ ns, 0 ≤ i ∧ i < (m : Int) := by
  intro i hi
  have z := h.mem_iff.mp hi
  unfold rng at z
  obtain ⟨j, hj, rfl⟩ := List.mem_map.mp z
  have := List.mem_range.mp hj
  omega
theorem row_len {ns : List Int} {m : Nat} (h : ns.Perm (rng m)) : ns.length = m := by
  rw [h.length_eq]
  unfold rng
  rw [List.length_map, List.length_range]
section
variable {P : Program} {w : World} {K : PySem.W.Frag} {mg : Str → Option Value} {base : Heap} {Ps : Tbs} {H H' H0 : Hp} {k : Nat} {f c : Addr} {fd : FuncData} {CS CN CL CR CO CP : Addr}
/-- a stack and any thing -/
structure AskX (K : PySem.W.Frag) (Ps : Tbs) (H : Hp) (x y : V) (n k : Int) (fss : List (List Int)) (d : PyData) : Prop where
  stk : Stk K H x n k fss
  ok : StkOk n k fss
  th : Th K H y d
  wd : wide d = true
  tb : Tb Ps H
theorem AskX.ext {x y : V} {n k : Int} {fss : List (List Int)} {d : PyData} (h : AskX K Ps H x y n k fss d) (e : Ext Ps H H') : AskX K Ps H' x y n k fss d := ⟨e.stk h.stk, h.ok, e.th h.th, h.wd, e.tb⟩
theorem AskX.row {x y : V} {n k : Int} {fss : List (List Int)} {ns : List Int} (h : AskX K Ps H x y n k fss (tD ns)) (hp : ns.Perm (rng fss.length)) : AskR K Ps H x y n k fss ns :=
  ⟨h.stk, h.ok, th_tupI h.th, row_bel hp, by rw [row_len hp]; have := h.ok.l70; omega, h.tb⟩
def spIsRowX (K : PySem.W.Frag) (Ps : Tbs) : Sp := fun vs H Q _ => ∃ (x y : V) (n kk : Int) (fss : List (List Int)) (d : PyData), vs = [x, y] ∧ AskX K Ps H x y n kk fss d ∧ ∀ b H', (b = true ↔ RowD d fss.length) → Ext Ps H H' → Q (.bl b) H'
def spEachX (K : PySem.W.Frag) (Ps : Tbs) : Sp := fun vs H Q _ => ∃ (y : V) (m : Nat) (d : PyData), vs = [y, .int m] ∧ Th K H y d ∧ m ≤ 1000 ∧ Tb Ps H ∧ ∀ b H', (b = true ↔ RowD d m) → Ext Ps H H' → Q (.bl b) H'
/-! ### what refuses: no stack, and then -/
def BadS (K : PySem.W.Frag) (Ps : Tbs) (CS : Addr) (x : V) (H : Hp) (E : XK) : Prop := ∃ d, Th K H x d ∧ wide d = true ∧ isStackD d = false ∧ Tb Ps H ∧ ∀ H', Ext Ps H H' → E (.ref CS) none H'
/-- need_stack, both ways -/
def spNeedStack2 (K : PySem.W.Frag) (Ps : Tbs) (CS : Addr) : Sp := fun vs H Q E => spNeedStack K Ps vs H Q E ∨ spNeedStackX K Ps CS vs H Q E
def spIsOrderX (K : PySem.W.Frag) (Ps : Tbs) (CS : Addr) : Sp := fun vs H Q E => ∃ (x y : V), vs = [x, y] ∧ (BadS K Ps CS x H E ∨ ∃ (n kk : Int) (fss : List (List Int)) (d : PyData), AskX K Ps H x y n kk fss d ∧ ∀ b H', (b = true ↔ OrdD d fss) → Ext Ps H H' → Q (.bl b) H')
/-- need_order of any thing -/
def spNeedOrderX (K : PySem.W.Frag) (Ps : Tbs) (CO : Addr) : Sp := fun vs H Q E => ∃ (x y : V) (n kk : Int) (fss : List (List Int)) (d : PyData), vs = [x, y] ∧ AskX K Ps H x y n kk fss d ∧ ∀ H', Ext Ps H H' → (OrdD d fss → Q .non H') ∧ (¬ OrdD d fss → E (.ref CO) none H')
/-! ### first_wrong, brings, refusing -/
def spFirstWrongX (K : PySem.W.Frag) (Ps : Tbs) (CS CR : Addr) : Sp := fun vs H Q E => ∃ (x y : V), vs = [x, y] ∧ (BadS K Ps CS x H E ∨ ∃ (n kk : Int) (fss : List (List Int)) (d : PyData), AskX K Ps H x y n kk fss d ∧ ¬ RowD d fss.length ∧ ∀ H', Ext Ps H H' → E (.ref CR) none H')
def spBringsX (K : PySem.W.Frag) (Ps : Tbs) (CS CO : Addr) : Sp := fun vs H Q E => ∃ (x y : V), vs = [x, y] ∧ (BadS K Ps CS x H E ∨ ∃ (n kk : Int) (fss : List (List Int)) (d : PyData), AskX K Ps H x y n kk fss d ∧ ¬ OrdD d fss ∧ ∀ H', Ext Ps H H' → E (.ref CO) none H')
/-! ### may_lay, brought, new_parts, refusing -/
/-- why a lot and a number are refused -/
def BadL (K : PySem.W.Frag) (Ps : Tbs) (CS CL CN : Addr) (x y z : V) (H : Hp) (E : XK) : Prop :=
  BadS K Ps CS x H E ∨ (∃ (n kk : Int) (fss : List (List Int)) (d : PyData), AskX K Ps H x y n kk fss d ∧ risD d fss.length = false ∧ ∀ H', Ext Ps H H' → E (.ref CL) none H') ∨
  (∃ (n kk : Int) (fss : List (List Int)) (d : PyData) (ns : List Int), AskX K Ps H x z n kk fss d ∧ TupI K H y ns ∧ LotOk fss.length ns ∧ intIn d 0 ((fss.length : Int) - 1) = false ∧ ∀ H', Ext Ps H H' → E (.ref CN) none H')
def spLotX (K : PySem.W.Frag) (Ps : Tbs) (CS CL CN : Addr) : Sp := fun vs H Q E => ∃ (x y z : V), vs = [x, y, z] ∧ BadL K Ps CS CL CN x y z H E
def spNeedLot2 (K : PySem.W.Frag) (Ps : Tbs) (CL : Addr) : Sp := fun vs H Q E => spNeedLot K Ps vs H Q E ∨ spNeedLotX K Ps CL vs H Q E
variable {fS cS fL cL fF cF : Addr} {fdS fdL fdF : FuncData}
end
end Lf

set_option maxHeartbeats 8000000
namespace Lf
open PySem PySem.Spec PyProof.Rows L2 GxR GxA SrT
abbrev sNoStack : Stmt := topS 46
abbrev nNoStack : List Str := ["_law_pen_here", "_law_stack_here", "_law_way", "_law_n", "_law_k", "_law_faces", "_law_at", "_law_face", "_law_some"]
theorem scNoStack : FnScope nNoStack ["_law_pen_here", "_law_stack_here"] (defScope sNoStack) := ⟨rfl, rfl, rfl, by decide +kernel, rfl, by decide +kernel, by decide +kernel⟩
theorem wide_t {ds : List PyData} (h1 : ds.length ≤ 1000) (h2 : ∀ d ∈ ds, wide d = true) : wide (.tuple ds) = true := by
  rw [wide, decide_eq_true h1, Bool.true_and]
  induction ds with
  | nil => rfl
  | cons d ds ih =>
    rw [wideAll, h2 d List.mem_cons_self, Bool.true_and]
    exact ih (by rw [List.length_cons] at h1; omega) fun e he => h2 e (List.mem_cons_of_mem _ he)
theorem wide_l {ds : List PyData} (h1 : ds.length ≤ 1000) (h2 : ∀ d ∈ ds, wide d = true) : wide (.list ds) = true := by
  have z := wide_t h1 h2
  have e : wide (.list ds) = wide (.tuple ds) := by simp only [wide]
  rw [e]
  exact z
theorem wide_tD {ns : List Int} (h : ns.length ≤ 1000) : wide (tD ns) = true := wide_t (by rw [List.length_map]; exact h) fun d hd => by
  obtain ⟨i, _, rfl⟩ := List.mem_map.mp hd
  rfl
/-- each of the pool is none -/
def badDs (n kk : Int) (fss : List (List Int)) (fc : List Int) (j : Nat) : List PyData := [.none, .str "4 2: 01", .dict [], .int 7, .list [.int n, .int kk, .tuple (fss.map tD)], .tuple [.int n, .int kk], .tuple [.int n, .int kk, .list (fss.map tD)], .tuple [.int n, .int kk, .tuple []], .tuple ([.int n, .int kk, .tuple (fss.map tD)] ++ [.int 0]), .tuple [.int 0, .int kk, .tuple (fss.map tD)], .tuple [.int 9, .int kk, .tuple (fss.map tD)], .tuple [.bool true, .int kk, .tuple (fss.map tD)], .tuple [.int n, .none, .tuple (fss.map tD)], .tuple [.int n, .int (-1), .tuple (fss.map tD)], .tuple [.int n, .int (kk + 1), .tuple (fss.map tD)], .tuple [.int n, .int kk, .tuple ((fss.map tD) ++ [.tuple (iD fc)])], .tuple [.int n, .int kk, .tuple ((((fss.map tD).take j) ++ [.list (iD fc)]) ++ ((fss.map tD).drop (j + 1)))], .tuple [.int n, .int kk, .tuple ((((fss.map tD).take j) ++ [.tuple ([.int n] ++ (iD fc))]) ++ ((fss.map tD).drop (j + 1)))]]
theorem badDs_ok {n kk : Int} {fss : List (List Int)} {fc : List Int} {j : Nat} (S : StkOk n kk fss) (hj : fss[j]? = some fc) : ∀ d ∈ badDs n kk fss fc j, isStackD d = false ∧ wide d = true := by
  have hm := List.mem_of_getElem? hj
  have l1 := S.l1
  have l70 := S.l70
  have h4 := S.len4 fc hm
  have wf : wide (.tuple (fss.map tD)) = true := wide_t (by rw [List.length_map]; omega) fun d hd => by
    obtain ⟨g, hg, rfl⟩ := List.mem_map.mp hd
    exact wide_tD (by have := S.len4 g hg; omega)
  have w3 : ∀ {x y z : PyData}, wide x = true → wide y = true → wide z = true → wide (.tuple [x, y, z]) = true := fun h1 h2 h3 => wide_t (by show 3 ≤ 1000; decide) fun d hd => by
    simp only [List.mem_cons, List.not_mem_nil, or_false] at hd
    rcases hd with rfl | rfl | rfl <;> assumption
  have i3 : ∀ i : Int, wide (.int i) = true := fun i => rfl
  intro d hd
  unfold badDs at hd
  simp only [List.mem_cons, List.not_mem_nil, or_false] at hd
  rcases hd with rfl | rfl | rfl | rfl | rfl | rfl | rfl | rfl | rfl | rfl | rfl | rfl | rfl | rfl | rfl | rfl | rfl | rfl
  · exact ⟨rfl, rfl⟩
  · exact ⟨rfl, rfl⟩
  · exact ⟨rfl, rfl⟩
  · exact ⟨rfl, rfl⟩
  · refine ⟨rfl, wide_l (by show 3 ≤ 1000; decide) fun d hd => ?_⟩
    simp only [List.mem_cons, List.not_mem_nil, or_false] at hd
    rcases hd with rfl | rfl | rfl
    · rfl
    · rfl
    · exact wf
  · exact ⟨isStackD_len (by simp), wide_t (by show 2 ≤ 1000; decide) fun d hd => by
      simp only [List.mem_cons, List.not_mem_nil, or_false] at hd
      rcases hd with rfl | rfl <;> rfl⟩
  · refine ⟨bad_of fun n' k' g e S' => ?_, w3 (i3 _) (i3 _) (wide_l (by rw [List.length_map]; omega) (wide_tup wf).2)⟩
    simp only [stkD, PyData.tuple.injEq, List.cons.injEq] at e
    exact nomatch e.2.2.1
  · refine ⟨bad_of fun n' k' g e S' => ?_, w3 (i3 _) (i3 _) rfl⟩
    simp only [stkD, PyData.tuple.injEq, List.cons.injEq, and_true] at e
    have z := congrArg List.length e.2.2
    rw [List.length_map] at z
    have := S'.l1
    simp at z
    omega
  · refine ⟨isStackD_len (by simp), wide_t (by show 4 ≤ 1000; decide) fun d hd => ?_⟩
    simp only [List.cons_append, List.nil_append, List.mem_cons, List.not_mem_nil, or_false] at hd
    rcases hd with rfl | rfl | rfl | rfl
    · rfl
    · rfl
    · exact wf
    · rfl
  · refine ⟨bad_of fun n' k' g e S' => ?_, w3 (i3 _) (i3 _) wf⟩
    simp only [stkD, PyData.tuple.injEq, List.cons.injEq, PyData.int.injEq] at e
    have := S'.n1
    omega
  · refine ⟨bad_of fun n' k' g e S' => ?_, w3 (i3 _) (i3 _) wf⟩
    simp only [stkD, PyData.tuple.injEq, List.cons.injEq, PyData.int.injEq] at e
    have := S'.n8
    omega
  · exact ⟨rfl, w3 rfl (i3 _) wf⟩
  · exact ⟨rfl, w3 (i3 _) rfl wf⟩
  · refine ⟨bad_of fun n' k' g e S' => ?_, w3 (i3 _) (i3 _) wf⟩
    simp only [stkD, PyData.tuple.injEq, List.cons.injEq, PyData.int.injEq] at e
    have := S'.k0
    omega
  · refine ⟨bad_of fun n' k' g e S' => ?_, w3 (i3 _) (i3 _) wf⟩
    simp only [stkD, PyData.tuple.injEq, List.cons.injEq, PyData.int.injEq, and_true] at e
    have eg := tDs_inj e.2.2
    subst eg
    have a1 := S.len fc hm
    have a2 := S'.len fc hm
    omega
  · refine ⟨bad_of fun n' k' g e S' => ?_, w3 (i3 _) (i3 _) (wide_t (by rw [List.length_append, List.length_map]; show fss.length + 1 ≤ 1000; omega) fun d hd => ?_)⟩
    · simp only [stkD, PyData.tuple.injEq, List.cons.injEq, PyData.int.injEq, and_true] at e
      have eg : fss ++ [fc] = g := tDs_inj (by rw [List.map_append, ← e.2.2]; rfl)
      have z := S'.srt
      rw [← eg, List.pairwise_append] at z
      have z2 := z.2.2 fc hm fc (by simp)
      rw [SrT.lex_irrefl] at z2
      cases z2
    · rcases List.mem_append.mp hd with hd | hd
      · exact (wide_tup wf).2 d hd
      · rw [List.mem_singleton.mp hd]
        exact wide_tD (by omega)
  · refine ⟨bad_of fun n' k' g e S' => ?_, w3 (i3 _) (i3 _) (wide_t (by simp only [List.length_append, List.length_take, List.length_drop, List.length_map, List.length_cons, List.length_nil]; omega) fun d hd => ?_)⟩
    · simp only [stkD, PyData.tuple.injEq, List.cons.injEq, PyData.int.injEq, and_true] at e
      have hx : PyData.list (iD fc) ∈ g.map tD := by
        rw [← e.2.2]
        simp
      obtain ⟨y, _, hy⟩ := List.mem_map.mp hx
      cases hy
    · rcases List.mem_append.mp hd with hd | hd
      · rcases List.mem_append.mp hd with hd | hd
        · exact (wide_tup wf).2 d (List.mem_of_mem_take hd)
        · rw [List.mem_singleton.mp hd]
          exact wide_l (by rw [List.length_map]; omega) fun d hd => by
            obtain ⟨i, _, rfl⟩ := List.mem_map.mp hd
            rfl
      · exact (wide_tup wf).2 d (List.mem_of_mem_drop hd)
  · refine ⟨bad_of fun n' k' g e S' => ?_, w3 (i3 _) (i3 _) (wide_t (by simp only [List.length_append, List.length_take, List.length_drop, List.length_map, List.length_cons, List.length_nil]; omega) fun d hd => ?_)⟩
    · simp only [stkD, PyData.tuple.injEq, List.cons.injEq, PyData.int.injEq, and_true] at e
      have hx : tD (n :: fc) ∈ g.map tD := by
        rw [← e.2.2]
        refine List.mem_append_left _ (List.mem_append_right _ ?_)
        exact List.mem_singleton.mpr rfl
      obtain ⟨y, hy1, hy⟩ := List.mem_map.mp hx
      have ey := tD_inj hy
      subst ey
      have := S'.bel _ hy1 n (by simp)
      omega
    · rcases List.mem_append.mp hd with hd | hd
      · rcases List.mem_append.mp hd with hd | hd
        · exact (wide_tup wf).2 d (List.mem_of_mem_take hd)
        · rw [List.mem_singleton.mp hd]
          exact wide_tD (ns := n :: fc) (by simp only [List.length_cons]; omega)
      · exact (wide_tup wf).2 d (List.mem_of_mem_drop hd)
section
variable {P : Program} {w : World} {K : PySem.W.Frag} {mg : Str → Option Value} {base : Heap} {Ps : Tbs} {H H' H0 : Hp} {k : Nat} {f c : Addr} {fd : FuncData}
def spNoStack (K : PySem.W.Frag) (Ps : Tbs) : Sp := fun vs H Q _ => ∃ (a : Addr) (x : V) (n kk : Int) (fss : List (List Int)), vs = [.ref a, x] ∧ Pen H a ∧ Stk K H x n kk fss ∧ StkOk n kk fss ∧ Tb Ps H ∧ ∀ v d H', Epn Ps a H H' → ThF K H' (fun b => H b = none ∧ H' b ≠ none) v d → wide d = true → isStackD d = false → Q v H'
theorem ok_noStack {fD cD : Addr} {fdD : FuncData} (D : Def K mg "_law_no_stack" sNoStack ["_law_pen_here", "_law_stack_here"] f fd c) (DD : Def K mg "_law_draw" sDraw ["_law_pen_here", "_law_many"] fD fdD cD) (GD : FnOk P w K mg base CX0 k fD fdD ["_law_pen_here", "_law_many"] spDraw) (mL : mg "list" = none) (ml : mg "len" = none) :
    FnOk P w K mg base CX0 (k + 1) f fd ["_law_pen_here", "_law_stack_here"] (spNoStack K Ps) := by
  refine D.ok (k := k) scNoStack (fun vs H Q E h => ?_) (fun A outer s H vs Q E hr h => ?_)
  · obtain ⟨a, x, n, kk, fss, rfl, _⟩ := h
    rfl
  · obtain ⟨a, x, n, kk, fss, rfl, hP, ⟨b, fa, xs, rfl, h1, h2, h3⟩, S, ht, q⟩ := h
    refine ⟨_, (pss_cons (ps_asg (pe_tup (pa_cons (pcl DD GD hr (pa_cons (pv 0) (pa_cons pe_int pa_nil))) (pa_cons (pe_ix (show IxR _ (rIxT K) from ix_tup) (pv 1) pe_int (fun _ _ => rfl)) (pa_cons (pe_ix (show IxR _ (rIxT K) from ix_tup) (pv 1) pe_int (fun _ _ => rfl)) (pa_cons (pe_ix (show IxR _ (rIxT K) from ix_tup) (pv 1) pe_int (fun _ _ => rfl)) pa_nil))))) (pg_tup (by rfl) (pgs_cons (pg_name (i := 2) scNoStack.nd rfl (Or.inl rfl)) (pgs_cons (pg_name (i := 3) scNoStack.nd rfl (Or.inl rfl)) (pgs_cons (pg_name (i := 4) scNoStack.nd rfl (Or.inl rfl)) (pgs_cons (pg_name (i := 5) scNoStack.nd rfl (Or.inl rfl)) pgs_nil)))))) (pss_cons (ps_set (i := 6) scNoStack.nd rfl (.inl rfl) (pcl DD GD hr (pa_cons (pv 0) (pa_cons (pe_callB (call_lenS (K := K) rfl) (by rfl) ml PySem.boot_len (pa_cons (pv 5) pa_nil)) pa_nil)))) (pss_cons (ps_set (i := 7) scNoStack.nd rfl (.inl rfl) (pe_ix (show IxR _ (rIxT K) from ix_tup) (pv 5) (pv 6) (fun _ _ => rfl))) (pss_cons (ps_set (i := 8) scNoStack.nd rfl (.inl rfl) (pe_lst (pa_cons pe_non (pa_cons pe_str (pa_cons pe_dnewK (pa_cons pe_int (pa_cons (pe_callTy call_list_of (by rfl) mL (by decide +kernel) (pa_cons (pv 1) pa_nil)) (pa_cons (pe_tup (pa_cons (pv 3) (pa_cons (pv 4) pa_nil))) (pa_cons (pe_tup (pa_cons (pv 3) (pa_cons (pv 4) (pa_cons (pe_callTy call_list_of (by rfl) mL (by decide +kernel) (pa_cons (pv 5) pa_nil)) pa_nil)))) pa_nil))))))))) (pss_cons (ps_set (i := 8) scNoStack.nd rfl (.inl rfl) (pe_op op_cat (pv 8) (pe_lst (pa_cons (pe_tup (pa_cons (pv 3) (pa_cons (pv 4) (pa_cons (pe_tup pa_nil) pa_nil)))) pa_nil)))) (pss_cons (ps_set (i := 8) scNoStack.nd rfl (.inl rfl) (pe_op op_cat (pv 8) (pe_lst (pa_cons (pe_op (show OpR _ _ (rCatTh K Ps) from op_catTh) (pv 1) (pe_tup (pa_cons pe_int pa_nil))) (pa_cons (pe_tup (pa_cons pe_int (pa_cons (pv 4) (pa_cons (pv 5) pa_nil)))) (pa_cons (pe_tup (pa_cons pe_int (pa_cons (pv 4) (pa_cons (pv 5) pa_nil)))) pa_nil)))))) (pss_cons (ps_set (i := 8) scNoStack.nd rfl (.inl rfl) (pe_op op_cat (pv 8) (pe_lst (pa_cons (pe_tup (pa_cons pe_bl (pa_cons (pv 4) (pa_cons (pv 5) pa_nil)))) pa_nil)))) (pss_cons (ps_set (i := 8) scNoStack.nd rfl (.inl rfl) (pe_op op_cat (pv 8) (pe_lst (pa_cons (pe_tup (pa_cons (pv 3) (pa_cons pe_non (pa_cons (pv 5) pa_nil)))) (pa_cons (pe_tup (pa_cons (pv 3) (pa_cons (pe_un un_neg pe_int) (pa_cons (pv 5) pa_nil)))) (pa_cons (pe_tup (pa_cons (pv 3) (pa_cons (pe_op op_add (pv 4) pe_int) (pa_cons (pv 5) pa_nil)))) pa_nil)))))) (pss_cons (ps_set (i := 8) scNoStack.nd rfl (.inl rfl) (pe_op op_cat (pv 8) (pe_lst (pa_cons (pe_tup (pa_cons (pv 3) (pa_cons (pv 4) (pa_cons (pe_op (show OpR _ _ (rCatTh K Ps) from op_catTh) (pv 5) (pe_tup (pa_cons (pv 7) pa_nil))) pa_nil)))) pa_nil)))) (pss_cons (ps_expr (pe_bm PySem.F.plainAttrs_list PySem.F.slot_list_append PySem.F.type_list_append mt_append (pv 8) (pa_cons (pe_tup (pa_cons (pv 3) (pa_cons (pv 4) (pa_cons (pe_op (show OpR _ _ (rCatTh K Ps) from op_catTh) (pe_op (show OpR _ _ (rCatTh K Ps) from op_catTh) (pe_slice (show SlR _ (rSlTh K Ps) from sl_Th) (pv 5) po_none (po_some (pv 6))) (pe_tup (pa_cons (pe_callTy call_list_of (by rfl) mL (by decide +kernel) (pa_cons (pv 7) pa_nil)) pa_nil))) (pe_slice (show SlR _ (rSlTh K Ps) from sl_Th) (pv 5) (po_some (pe_op op_add (pv 6) pe_int)) po_none)) pa_nil)))) pa_nil))) (pss_cons (ps_expr (pe_bm PySem.F.plainAttrs_list PySem.F.slot_list_append PySem.F.type_list_append mt_append (pv 8) (pa_cons (pe_tup (pa_cons (pv 3) (pa_cons (pv 4) (pa_cons (pe_op (show OpR _ _ (rCatTh K Ps) from op_catTh) (pe_op (show OpR _ _ (rCatTh K Ps) from op_catTh) (pe_slice (show SlR _ (rSlTh K Ps) from sl_Th) (pv 5) po_none (po_some (pv 6))) (pe_tup (pa_cons (pe_op (show OpR _ _ (rCatTh K Ps) from op_catTh) (pe_tup (pa_cons (pv 3) pa_nil)) (pv 7)) pa_nil))) (pe_slice (show SlR _ (rSlTh K Ps) from sl_Th) (pv 5) (po_some (pe_op op_add (pv 6) pe_int)) po_none)) pa_nil)))) pa_nil))) (pss_one (ps_ret (pe_ix ix_list (pv 8) (pv 2) (fun _ _ => rfl))))))))))))))), ?_⟩
    have hlen := Paired.length h3
    have l1 := S.l1
    have l70 := S.l70
    -- way, n, k, faces
    refine tseq_intro fun R hR => ?_
    refine ⟨.ref a, rfl, a, 18, rfl, hP, by decide, by decide, fun x0 f0 wy w0 w1 => ?_⟩
    have e1 : Epn Ps a H (upd H a (.lst [.int x0, .int f0])) := Epn.draw ht hP
    have h11 := e1.sqT h1
    generalize upd H a (.lst [.int x0, .int f0]) = H1 at *
    refine ⟨.ref b, rfl, b, _, 0, .int n, rfl, rfl, h11, atI_nat (j := 0) rfl, .ref b, rfl, b, _, 1, .int kk, rfl, rfl, h11, atI_nat (j := 1) rfl, .ref b, rfl, b, _, 2, .ref fa, rfl, rfl, h11, at2, (by show 4 ≤ sizeLine; decide), fun tp ntp => ?_⟩
    have x2 := Ext.new (o := .tup [.int wy, .int n, .int kk, .ref fa]) e1.tb ntp
    refine ⟨tp, _, rfl, .inl (.inl upd_same), rfl, _, _, rfl, _, _, rfl, _, _, rfl, _, _, rfl, rfl, ?_⟩
    have e2 := e1.trans (x2.epn e1.pen)
    generalize upd H1 tp (.tup [.int wy, .int n, .int kk, .ref fa]) = H2 at *
    show R [some (.ref a), some (.ref b), some (.int wy), some (.int n), some (.int kk), some (.ref fa), none, none, none] H2
    rw [hR]
    clear hR
    -- at, face
    refine tseq_intro fun R hR => ?_
    refine ⟨.ref a, rfl, .ref fa, rfl, fa, xs, rfl, .inr (e2.sqT h2), a, (xs.length : Int), rfl, e2.pen, by omega, by omega, fun x3 f3 at0 a0 a1 => ?_⟩
    have EE0 : Epn Ps a H (upd H2 a (.lst [.int x3, .int f3])) := e2.trans (Epn.draw e2.tb e2.pen)
    generalize upd H2 a (.lst [.int x3, .int f3]) = Y0 at *
    obtain ⟨j, rfl⟩ := Int.eq_ofNat_of_zero_le a0
    show R [some (.ref a), some (.ref b), some (.int wy), some (.int n), some (.int kk), some (.ref fa), some (.int (j : Int)), none, none] Y0
    rw [hR]
    clear hR
    have hjx : j < xs.length := by omega
    have hjf : j < fss.length := by omega
    obtain ⟨fc, hfc, ft, hft0, hft⟩ := paired_get (EE0.tups h3) (List.getElem?_eq_getElem hjx)
    have hjm : j ≤ (fss.map tD).length := by rw [List.length_map]; omega
    have hjm1 : j + 1 ≤ (fss.map tD).length := by rw [List.length_map]; omega
    have hf4 := S.len4 fc (List.mem_of_getElem? hfc)
    have qstk := EE0.sqT h1
    have qfcs := EE0.sqT h2
    have qfce := hft
    refine tseq_intro fun R hR => ?_
    refine ⟨.ref fa, rfl, .int (j : Int), rfl, fa, xs, (j : Int), .ref ft, rfl, rfl, qfcs, by rw [← hft0]; exact atI_nat (List.getElem?_eq_getElem hjx), ?_⟩
    show R [some (.ref a), some (.ref b), some (.int wy), some (.int n), some (.int kk), some (.ref fa), some (.int (j : Int)), some (.ref ft), none] Y0
    rw [hR]
    clear hR
    have afcs : ThAllF K Y0 (FS (fun _ => True) H Y0) xs (fss.map tD) := th_tups (EE0.tups h3)
    have tfcs : ThF K Y0 (FS (fun _ => True) H Y0) (.ref fa) (.tuple (fss.map tD)) := .tup qfcs afcs
    have tstk : ThF K Y0 (FS (fun _ => True) H Y0) (.ref b) (.tuple [.int n, .int kk, .tuple (fss.map tD)]) := .tup qstk (.cons (.int n) (.cons (.int kk) (.cons tfcs .nil)))
    have tfce : ThF K Y0 (FS (fun _ => True) H Y0) (.ref ft) (.tuple (iD fc)) := th_tup ⟨ft, rfl, hft⟩
    clear hft h11 e1 e2 x2 ntp h1 h2 h3 hP ht
    refine tseq_intro fun R hR => ?_
    refine fun p1 np1 => ?_
    have xp1 := Ext.new (o := .dK []) EE0.tb np1
    have zp1 : H p1 = none := EE0.free np1
    have tp1 : ThF K (upd Y0 p1 (.dK [])) (FS (fun _ => True) H (upd Y0 p1 (.dK []))) (.ref p1) (.dict []) := th_newDS zp1 trivial
    replace tfcs := xp1.thS tfcs
    replace tstk := xp1.thS tstk
    replace tfce := xp1.thS tfce
    replace qstk := xp1.sqT qstk
    replace qfcs := xp1.sqT qfcs
    replace qfce := xp1.sqT qfce
    replace afcs := xp1.thAllS afcs
    have EE1 := EE0.trans (xp1.epn EE0.pen)
    clear xp1 np1 EE0
    generalize upd Y0 p1 (.dK []) = Y1 at EE1 tfcs tstk tfce qstk qfcs qfce afcs tp1 ⊢
    refine ⟨.ref b, rfl, b, [.int n, .int kk, .ref fa], rfl, .inr qstk, fun p2 np2 => ?_⟩
    have xp2 := Ext.new (o := .lst [.int n, .int kk, .ref fa]) EE1.tb np2
    have zp2 : H p2 = none := EE1.free np2
    have tp2 : ThF K (upd Y1 p2 (.lst [.int n, .int kk, .ref fa])) (FS (fun _ => True) H (upd Y1 p2 (.lst [.int n, .int kk, .ref fa]))) (.ref p2) (.list [.int n, .int kk, .tuple (fss.map tD)]) := th_newLS EE1.tb np2 zp2 trivial (.cons (.int n) (.cons (.int kk) (.cons tfcs .nil)))
    replace tfcs := xp2.thS tfcs
    replace tstk := xp2.thS tstk
    replace tfce := xp2.thS tfce
    replace qstk := xp2.sqT qstk
    replace qfcs := xp2.sqT qfcs
    replace qfce := xp2.sqT qfce
    replace afcs := xp2.thAllS afcs
    replace tp1 := xp2.thS tp1
    have EE2 := EE1.trans (xp2.epn EE1.pen)
    clear xp2 np2 EE1
    generalize upd Y1 p2 (.lst [.int n, .int kk, .ref fa]) = Y2 at EE2 tfcs tstk tfce qstk qfcs qfce afcs tp1 tp2 ⊢
    refine ⟨.int n, rfl, .int kk, rfl, (by show 2 ≤ sizeLine; decide), fun p3 np3 => ?_⟩
    have xp3 := Ext.new (o := .tup [.int n, .int kk]) EE2.tb np3
    have zp3 : H p3 = none := EE2.free np3
    have tp3 : ThF K (upd Y2 p3 (.tup [.int n, .int kk])) (FS (fun _ => True) H (upd Y2 p3 (.tup [.int n, .int kk]))) (.ref p3) (.tuple [.int n, .int kk]) := th_newS EE2.tb np3 (.cons (.int n) (.cons (.int kk) .nil))
    replace tfcs := xp3.thS tfcs
    replace tstk := xp3.thS tstk
    replace tfce := xp3.thS tfce
    replace qstk := xp3.sqT qstk
    replace qfcs := xp3.sqT qfcs
    replace qfce := xp3.sqT qfce
    replace afcs := xp3.thAllS afcs
    replace tp1 := xp3.thS tp1
    replace tp2 := xp3.thS tp2
    have EE3 := EE2.trans (xp3.epn EE2.pen)
    clear xp3 np3 EE2
    generalize upd Y2 p3 (.tup [.int n, .int kk]) = Y3 at EE3 tfcs tstk tfce qstk qfcs qfce afcs tp1 tp2 tp3 ⊢
    refine ⟨.int n, rfl, .int kk, rfl, .ref fa, rfl, fa, xs, rfl, .inr qfcs, fun p4 np4 => ?_⟩
    have xp4 := Ext.new (o := .lst xs) EE3.tb np4
    have zp4 : H p4 = none := EE3.free np4
    have tp4 : ThF K (upd Y3 p4 (.lst xs)) (FS (fun _ => True) H (upd Y3 p4 (.lst xs))) (.ref p4) (.list (fss.map tD)) := th_newLS EE3.tb np4 zp4 trivial afcs
    replace tfcs := xp4.thS tfcs
    replace tstk := xp4.thS tstk
    replace tfce := xp4.thS tfce
    replace qstk := xp4.sqT qstk
    replace qfcs := xp4.sqT qfcs
    replace qfce := xp4.sqT qfce
    replace afcs := xp4.thAllS afcs
    replace tp1 := xp4.thS tp1
    replace tp2 := xp4.thS tp2
    replace tp3 := xp4.thS tp3
    have EE4 := EE3.trans (xp4.epn EE3.pen)
    clear xp4 np4 EE3
    generalize upd Y3 p4 (.lst xs) = Y4 at EE4 tfcs tstk tfce qstk qfcs qfce afcs tp1 tp2 tp3 tp4 ⊢
    refine ⟨(by show 3 ≤ sizeLine; decide), fun p5 np5 => ?_⟩
    have xp5 := Ext.new (o := .tup [.int n, .int kk, .ref p4]) EE4.tb np5
    have zp5 : H p5 = none := EE4.free np5
    have tp5 : ThF K (upd Y4 p5 (.tup [.int n, .int kk, .ref p4])) (FS (fun _ => True) H (upd Y4 p5 (.tup [.int n, .int kk, .ref p4]))) (.ref p5) (.tuple [.int n, .int kk, .list (fss.map tD)]) := th_newS EE4.tb np5 (.cons (.int n) (.cons (.int kk) (.cons tp4 .nil)))
    replace tfcs := xp5.thS tfcs
    replace tstk := xp5.thS tstk
    replace tfce := xp5.thS tfce
    replace qstk := xp5.sqT qstk
    replace qfcs := xp5.sqT qfcs
    replace qfce := xp5.sqT qfce
    replace afcs := xp5.thAllS afcs
    replace tp1 := xp5.thS tp1
    replace tp2 := xp5.thS tp2
    replace tp3 := xp5.thS tp3
    replace tp4 := xp5.thS tp4
    have EE5 := EE4.trans (xp5.epn EE4.pen)
    clear xp5 np5 EE4
    generalize upd Y4 p5 (.tup [.int n, .int kk, .ref p4]) = Y5 at EE5 tfcs tstk tfce qstk qfcs qfce afcs tp1 tp2 tp3 tp4 tp5 ⊢
    have hv : ThAllF K Y5 (FS (fun _ => True) H Y5) [.non, .str "4 2: 01", .ref p1, .int 7, .ref p2, .ref p3, .ref p5] [.none, .str "4 2: 01", .dict [], .int 7, .list [.int n, .int kk, .tuple (fss.map tD)], .tuple [.int n, .int kk], .tuple [.int n, .int kk, .list (fss.map tD)]] := (.cons .non (.cons (.str "4 2: 01") (.cons tp1 (.cons (.int 7) (.cons tp2 (.cons tp3 (.cons tp5 .nil)))))))
    clear tp1 tp2 tp3 tp4 tp5
    refine ⟨(by show 7 ≤ sizeLine; decide), fun l1 nl1 => ?_⟩
    have xl1 := Ext.new (o := .lst [.non, .str "4 2: 01", .ref p1, .int 7, .ref p2, .ref p3, .ref p5]) EE5.tb nl1
    have zl1 : H l1 = none := EE5.free nl1
    have hl : (upd Y5 l1 (.lst [.non, .str "4 2: 01", .ref p1, .int 7, .ref p2, .ref p3, .ref p5])) l1 = some (.lst [.non, .str "4 2: 01", .ref p1, .int 7, .ref p2, .ref p3, .ref p5]) := upd_same
    replace tfcs := xl1.thS tfcs
    replace tstk := xl1.thS tstk
    replace tfce := xl1.thS tfce
    replace qstk := xl1.sqT qstk
    replace qfcs := xl1.sqT qfcs
    replace qfce := xl1.sqT qfce
    replace afcs := xl1.thAllS afcs
    replace hv := xl1.thAllS hv
    have EE6 := EE5.trans (xl1.epn EE5.pen)
    clear xl1 nl1 EE5
    generalize upd Y5 l1 (.lst [.non, .str "4 2: 01", .ref p1, .int 7, .ref p2, .ref p3, .ref p5]) = Y6 at EE6 tfcs tstk tfce qstk qfcs qfce afcs hv hl ⊢
    show R [some (.ref a), some (.ref b), some (.int wy), some (.int n), some (.int kk), some (.ref fa), some (.int (j : Int)), some (.ref ft), some (.ref l1)] Y6
    rw [hR]
    clear hR
    refine tseq_intro fun R hR => ?_
    refine ⟨.ref l1, rfl, .int n, rfl, .int kk, rfl, (by show 0 ≤ sizeLine; decide), fun p6 np6 => ?_⟩
    have xp6 := Ext.new (o := .tup []) EE6.tb np6
    have zp6 : H p6 = none := EE6.free np6
    have tp6 : ThF K (upd Y6 p6 (.tup [])) (FS (fun _ => True) H (upd Y6 p6 (.tup []))) (.ref p6) (.tuple []) := th_newS EE6.tb np6 .nil
    replace tfcs := xp6.thS tfcs
    replace tstk := xp6.thS tstk
    replace tfce := xp6.thS tfce
    replace qstk := xp6.sqT qstk
    replace qfcs := xp6.sqT qfcs
    replace qfce := xp6.sqT qfce
    replace afcs := xp6.thAllS afcs
    replace hv := xp6.thAllS hv
    replace hl := xp6.lst hl
    have EE7 := EE6.trans (xp6.epn EE6.pen)
    clear xp6 np6 EE6
    generalize upd Y6 p6 (.tup []) = Y7 at EE7 tfcs tstk tfce qstk qfcs qfce afcs hv hl tp6 ⊢
    refine ⟨(by show 3 ≤ sizeLine; decide), fun p7 np7 => ?_⟩
    have xp7 := Ext.new (o := .tup [.int n, .int kk, .ref p6]) EE7.tb np7
    have zp7 : H p7 = none := EE7.free np7
    have tp7 : ThF K (upd Y7 p7 (.tup [.int n, .int kk, .ref p6])) (FS (fun _ => True) H (upd Y7 p7 (.tup [.int n, .int kk, .ref p6]))) (.ref p7) (.tuple [.int n, .int kk, .tuple []]) := th_newS EE7.tb np7 (.cons (.int n) (.cons (.int kk) (.cons tp6 .nil)))
    replace tfcs := xp7.thS tfcs
    replace tstk := xp7.thS tstk
    replace tfce := xp7.thS tfce
    replace qstk := xp7.sqT qstk
    replace qfcs := xp7.sqT qfcs
    replace qfce := xp7.sqT qfce
    replace afcs := xp7.thAllS afcs
    replace hv := xp7.thAllS hv
    replace hl := xp7.lst hl
    replace tp6 := xp7.thS tp6
    have EE8 := EE7.trans (xp7.epn EE7.pen)
    clear xp7 np7 EE7
    generalize upd Y7 p7 (.tup [.int n, .int kk, .ref p6]) = Y8 at EE8 tfcs tstk tfce qstk qfcs qfce afcs hv hl tp6 tp7 ⊢
    have hw : ThAllF K Y8 (FS (fun _ => True) H Y8) [.ref p7] [.tuple [.int n, .int kk, .tuple []]] := (.cons tp7 .nil)
    clear tp6 tp7
    refine ⟨(by show 1 ≤ sizeLine; decide), fun p8 np8 => ?_⟩
    have xp8 := Ext.new (o := .lst [.ref p7]) EE8.tb np8
    have zp8 : H p8 = none := EE8.free np8
    have hm : (upd Y8 p8 (.lst [.ref p7])) p8 = some (.lst [.ref p7]) := upd_same
    replace tfcs := xp8.thS tfcs
    replace tstk := xp8.thS tstk
    replace tfce := xp8.thS tfce
    replace qstk := xp8.sqT qstk
    replace qfcs := xp8.sqT qfcs
    replace qfce := xp8.sqT qfce
    replace afcs := xp8.thAllS afcs
    replace hv := xp8.thAllS hv
    replace hl := xp8.lst hl
    replace hw := xp8.thAllS hw
    have EE9 := EE8.trans (xp8.epn EE8.pen)
    clear xp8 np8 EE8
    generalize upd Y8 p8 (.lst [.ref p7]) = Y9 at EE9 tfcs tstk tfce qstk qfcs qfce afcs hv hl hw hm ⊢
    replace hv := thAll_app hv hw
    clear hw
    refine ⟨l1, p8, _, _, rfl, rfl, hl, hm, Nat.le_of_lt (small1000 (by show 7 + 1 ≤ 1000; decide)), fun l2 nl2 => ?_⟩
    have xl2 := Ext.new (o := .lst ([.non, .str "4 2: 01", .ref p1, .int 7, .ref p2, .ref p3, .ref p5] ++ [.ref p7])) EE9.tb nl2
    have zl2 : H l2 = none := EE9.free nl2
    have hl2 : (upd Y9 l2 (.lst ([.non, .str "4 2: 01", .ref p1, .int 7, .ref p2, .ref p3, .ref p5] ++ [.ref p7]))) l2 = some (.lst [.non, .str "4 2: 01", .ref p1, .int 7, .ref p2, .ref p3, .ref p5, .ref p7]) := upd_same
    replace tfcs := xl2.thS tfcs
    replace tstk := xl2.thS tstk
    replace tfce := xl2.thS tfce
    replace qstk := xl2.sqT qstk
    replace qfcs := xl2.sqT qfcs
    replace qfce := xl2.sqT qfce
    replace afcs := xl2.thAllS afcs
    replace hv := xl2.thAllS hv
    have EE10 := EE9.trans (xl2.epn EE9.pen)
    clear xl2 nl2 EE9
    generalize upd Y9 l2 (.lst ([.non, .str "4 2: 01", .ref p1, .int 7, .ref p2, .ref p3, .ref p5] ++ [.ref p7])) = Y10 at EE10 tfcs tstk tfce qstk qfcs qfce afcs hv hl2 ⊢
    have hl := hl2
    clear hl2
    replace hv : ThAllF K Y10 (FS (fun _ => True) H Y10) [.non, .str "4 2: 01", .ref p1, .int 7, .ref p2, .ref p3, .ref p5, .ref p7] [.none, .str "4 2: 01", .dict [], .int 7, .list [.int n, .int kk, .tuple (fss.map tD)], .tuple [.int n, .int kk], .tuple [.int n, .int kk, .list (fss.map tD)], .tuple [.int n, .int kk, .tuple []]] := hv
    show R [some (.ref a), some (.ref b), some (.int wy), some (.int n), some (.int kk), some (.ref fa), some (.int (j : Int)), some (.ref ft), some (.ref l2)] Y10
    rw [hR]
    clear hR
    refine tseq_intro fun R hR => ?_
    refine ⟨.ref l2, rfl, .ref b, rfl, (by show 1 ≤ sizeLine; decide), fun p9 np9 => ?_⟩
    have xp9 := Ext.new (o := .tup [.int 0]) EE10.tb np9
    have zp9 : H p9 = none := EE10.free np9
    have tp9 : ThF K (upd Y10 p9 (.tup [.int 0])) (FS (fun _ => True) H (upd Y10 p9 (.tup [.int 0]))) (.ref p9) (.tuple [.int 0]) := th_newS EE10.tb np9 (.cons (.int 0) .nil)
    replace tfcs := xp9.thS tfcs
    replace tstk := xp9.thS tstk
    replace tfce := xp9.thS tfce
    replace qstk := xp9.sqT qstk
    replace qfcs := xp9.sqT qfcs
    replace qfce := xp9.sqT qfce
    replace afcs := xp9.thAllS afcs
    replace hv := xp9.thAllS hv
    replace hl := xp9.lst hl
    have EE11 := EE10.trans (xp9.epn EE10.pen)
    clear xp9 np9 EE10
    generalize upd Y10 p9 (.tup [.int 0]) = Y11 at EE11 tfcs tstk tfce qstk qfcs qfce afcs hv hl tp9 ⊢
    refine ⟨_, _, _, tstk, tp9, by simp only [iD, List.length_append, List.length_take, List.length_drop, List.length_map, List.length_cons, List.length_nil]; omega, EE11.tb, fun v10 Y12 xv10 tv10 => ?_⟩
    replace tfcs := xv10.thS tfcs
    replace tstk := xv10.thS tstk
    replace tfce := xv10.thS tfce
    replace qstk := xv10.sqT qstk
    replace qfcs := xv10.sqT qfcs
    replace qfce := xv10.sqT qfce
    replace afcs := xv10.thAllS afcs
    replace hv := xv10.thAllS hv
    replace hl := xv10.lst hl
    replace tp9 := xv10.thS tp9
    replace tv10 := tv10.imp (fs_mono xv10)
    have EE12 := EE11.trans (xv10.epn EE11.pen)
    clear xv10 EE11
    refine ⟨.int kk, rfl, .ref fa, rfl, (by show 3 ≤ sizeLine; decide), fun p11 np11 => ?_⟩
    have xp11 := Ext.new (o := .tup [.int 0, .int kk, .ref fa]) EE12.tb np11
    have zp11 : H p11 = none := EE12.free np11
    have tp11 : ThF K (upd Y12 p11 (.tup [.int 0, .int kk, .ref fa])) (FS (fun _ => True) H (upd Y12 p11 (.tup [.int 0, .int kk, .ref fa]))) (.ref p11) (.tuple [.int 0, .int kk, .tuple (fss.map tD)]) := th_newS EE12.tb np11 (.cons (.int 0) (.cons (.int kk) (.cons tfcs .nil)))
    replace tfcs := xp11.thS tfcs
    replace tstk := xp11.thS tstk
    replace tfce := xp11.thS tfce
    replace qstk := xp11.sqT qstk
    replace qfcs := xp11.sqT qfcs
    replace qfce := xp11.sqT qfce
    replace afcs := xp11.thAllS afcs
    replace hv := xp11.thAllS hv
    replace hl := xp11.lst hl
    replace tp9 := xp11.thS tp9
    replace tv10 := xp11.thS tv10
    have EE13 := EE12.trans (xp11.epn EE12.pen)
    clear xp11 np11 EE12
    generalize upd Y12 p11 (.tup [.int 0, .int kk, .ref fa]) = Y13 at EE13 tfcs tstk tfce qstk qfcs qfce afcs hv hl tp9 tv10 tp11 ⊢
    refine ⟨.int kk, rfl, .ref fa, rfl, (by show 3 ≤ sizeLine; decide), fun p12 np12 => ?_⟩
    have xp12 := Ext.new (o := .tup [.int 9, .int kk, .ref fa]) EE13.tb np12
    have zp12 : H p12 = none := EE13.free np12
    have tp12 : ThF K (upd Y13 p12 (.tup [.int 9, .int kk, .ref fa])) (FS (fun _ => True) H (upd Y13 p12 (.tup [.int 9, .int kk, .ref fa]))) (.ref p12) (.tuple [.int 9, .int kk, .tuple (fss.map tD)]) := th_newS EE13.tb np12 (.cons (.int 9) (.cons (.int kk) (.cons tfcs .nil)))
    replace tfcs := xp12.thS tfcs
    replace tstk := xp12.thS tstk
    replace tfce := xp12.thS tfce
    replace qstk := xp12.sqT qstk
    replace qfcs := xp12.sqT qfcs
    replace qfce := xp12.sqT qfce
    replace afcs := xp12.thAllS afcs
    replace hv := xp12.thAllS hv
    replace hl := xp12.lst hl
    replace tp9 := xp12.thS tp9
    replace tv10 := xp12.thS tv10
    replace tp11 := xp12.thS tp11
    have EE14 := EE13.trans (xp12.epn EE13.pen)
    clear xp12 np12 EE13
    generalize upd Y13 p12 (.tup [.int 9, .int kk, .ref fa]) = Y14 at EE14 tfcs tstk tfce qstk qfcs qfce afcs hv hl tp9 tv10 tp11 tp12 ⊢
    have hw : ThAllF K Y14 (FS (fun _ => True) H Y14) [v10, .ref p11, .ref p12] [.tuple ([.int n, .int kk, .tuple (fss.map tD)] ++ [.int 0]), .tuple [.int 0, .int kk, .tuple (fss.map tD)], .tuple [.int 9, .int kk, .tuple (fss.map tD)]] := (.cons tv10 (.cons tp11 (.cons tp12 .nil)))
    clear tp9 tv10 tp11 tp12
    refine ⟨(by show 3 ≤ sizeLine; decide), fun p13 np13 => ?_⟩
    have xp13 := Ext.new (o := .lst [v10, .ref p11, .ref p12]) EE14.tb np13
    have zp13 : H p13 = none := EE14.free np13
    have hm : (upd Y14 p13 (.lst [v10, .ref p11, .ref p12])) p13 = some (.lst [v10, .ref p11, .ref p12]) := upd_same
    replace tfcs := xp13.thS tfcs
    replace tstk := xp13.thS tstk
    replace tfce := xp13.thS tfce
    replace qstk := xp13.sqT qstk
    replace qfcs := xp13.sqT qfcs
    replace qfce := xp13.sqT qfce
    replace afcs := xp13.thAllS afcs
    replace hv := xp13.thAllS hv
    replace hl := xp13.lst hl
    replace hw := xp13.thAllS hw
    have EE15 := EE14.trans (xp13.epn EE14.pen)
    clear xp13 np13 EE14
    generalize upd Y14 p13 (.lst [v10, .ref p11, .ref p12]) = Y15 at EE15 tfcs tstk tfce qstk qfcs qfce afcs hv hl hw hm ⊢
    replace hv := thAll_app hv hw
    clear hw
    refine ⟨l2, p13, _, _, rfl, rfl, hl, hm, Nat.le_of_lt (small1000 (by show 8 + 3 ≤ 1000; decide)), fun l3 nl3 => ?_⟩
    have xl3 := Ext.new (o := .lst ([.non, .str "4 2: 01", .ref p1, .int 7, .ref p2, .ref p3, .ref p5, .ref p7] ++ [v10, .ref p11, .ref p12])) EE15.tb nl3
    have zl3 : H l3 = none := EE15.free nl3
    have hl2 : (upd Y15 l3 (.lst ([.non, .str "4 2: 01", .ref p1, .int 7, .ref p2, .ref p3, .ref p5, .ref p7] ++ [v10, .ref p11, .ref p12]))) l3 = some (.lst [.non, .str "4 2: 01", .ref p1, .int 7, .ref p2, .ref p3, .ref p5, .ref p7, v10, .ref p11, .ref p12]) := upd_same
    replace tfcs := xl3.thS tfcs
    replace tstk := xl3.thS tstk
    replace tfce := xl3.thS tfce
    replace qstk := xl3.sqT qstk
    replace qfcs := xl3.sqT qfcs
    replace qfce := xl3.sqT qfce
    replace afcs := xl3.thAllS afcs
    replace hv := xl3.thAllS hv
    have EE16 := EE15.trans (xl3.epn EE15.pen)
    clear xl3 nl3 EE15
    generalize upd Y15 l3 (.lst ([.non, .str "4 2: 01", .ref p1, .int 7, .ref p2, .ref p3, .ref p5, .ref p7] ++ [v10, .ref p11, .ref p12])) = Y16 at EE16 tfcs tstk tfce qstk qfcs qfce afcs hv hl2 ⊢
    have hl := hl2
    clear hl2
    replace hv : ThAllF K Y16 (FS (fun _ => True) H Y16) [.non, .str "4 2: 01", .ref p1, .int 7, .ref p2, .ref p3, .ref p5, .ref p7, v10, .ref p11, .ref p12] [.none, .str "4 2: 01", .dict [], .int 7, .list [.int n, .int kk, .tuple (fss.map tD)], .tuple [.int n, .int kk], .tuple [.int n, .int kk, .list (fss.map tD)], .tuple [.int n, .int kk, .tuple []], .tuple ([.int n, .int kk, .tuple (fss.map tD)] ++ [.int 0]), .tuple [.int 0, .int kk, .tuple (fss.map tD)], .tuple [.int 9, .int kk, .tuple (fss.map tD)]] := hv
    show R [some (.ref a), some (.ref b), some (.int wy), some (.int n), some (.int kk), some (.ref fa), some (.int (j : Int)), some (.ref ft), some (.ref l3)] Y16
    rw [hR]
    clear hR
    refine tseq_intro fun R hR => ?_
    refine ⟨.ref l3, rfl, .int kk, rfl, .ref fa, rfl, (by show 3 ≤ sizeLine; decide), fun p14 np14 => ?_⟩
    have xp14 := Ext.new (o := .tup [.bl true, .int kk, .ref fa]) EE16.tb np14
    have zp14 : H p14 = none := EE16.free np14
    have tp14 : ThF K (upd Y16 p14 (.tup [.bl true, .int kk, .ref fa])) (FS (fun _ => True) H (upd Y16 p14 (.tup [.bl true, .int kk, .ref fa]))) (.ref p14) (.tuple [.bool true, .int kk, .tuple (fss.map tD)]) := th_newS EE16.tb np14 (.cons (.bl true) (.cons (.int kk) (.cons tfcs .nil)))
    replace tfcs := xp14.thS tfcs
    replace tstk := xp14.thS tstk
    replace tfce := xp14.thS tfce
    replace qstk := xp14.sqT qstk
    replace qfcs := xp14.sqT qfcs
    replace qfce := xp14.sqT qfce
    replace afcs := xp14.thAllS afcs
    replace hv := xp14.thAllS hv
    replace hl := xp14.lst hl
    have EE17 := EE16.trans (xp14.epn EE16.pen)
    clear xp14 np14 EE16
    generalize upd Y16 p14 (.tup [.bl true, .int kk, .ref fa]) = Y17 at EE17 tfcs tstk tfce qstk qfcs qfce afcs hv hl tp14 ⊢
    have hw : ThAllF K Y17 (FS (fun _ => True) H Y17) [.ref p14] [.tuple [.bool true, .int kk, .tuple (fss.map tD)]] := (.cons tp14 .nil)
    clear tp14
    refine ⟨(by show 1 ≤ sizeLine; decide), fun p15 np15 => ?_⟩
    have xp15 := Ext.new (o := .lst [.ref p14]) EE17.tb np15
    have zp15 : H p15 = none := EE17.free np15
    have hm : (upd Y17 p15 (.lst [.ref p14])) p15 = some (.lst [.ref p14]) := upd_same
    replace tfcs := xp15.thS tfcs
    replace tstk := xp15.thS tstk
    replace tfce := xp15.thS tfce
    replace qstk := xp15.sqT qstk
    replace qfcs := xp15.sqT qfcs
    replace qfce := xp15.sqT qfce
    replace afcs := xp15.thAllS afcs
    replace hv := xp15.thAllS hv
    replace hl := xp15.lst hl
    replace hw := xp15.thAllS hw
    have EE18 := EE17.trans (xp15.epn EE17.pen)
    clear xp15 np15 EE17
    generalize upd Y17 p15 (.lst [.ref p14]) = Y18 at EE18 tfcs tstk tfce qstk qfcs qfce afcs hv hl hw hm ⊢
    replace hv := thAll_app hv hw
    clear hw
    refine ⟨l3, p15, _, _, rfl, rfl, hl, hm, Nat.le_of_lt (small1000 (by show 11 + 1 ≤ 1000; decide)), fun l4 nl4 => ?_⟩
    have xl4 := Ext.new (o := .lst ([.non, .str "4 2: 01", .ref p1, .int 7, .ref p2, .ref p3, .ref p5, .ref p7, v10, .ref p11, .ref p12] ++ [.ref p14])) EE18.tb nl4
    have zl4 : H l4 = none := EE18.free nl4
    have hl2 : (upd Y18 l4 (.lst ([.non, .str "4 2: 01", .ref p1, .int 7, .ref p2, .ref p3, .ref p5, .ref p7, v10, .ref p11, .ref p12] ++ [.ref p14]))) l4 = some (.lst [.non, .str "4 2: 01", .ref p1, .int 7, .ref p2, .ref p3, .ref p5, .ref p7, v10, .ref p11, .ref p12, .ref p14]) := upd_same
    replace tfcs := xl4.thS tfcs
    replace tstk := xl4.thS tstk
    replace tfce := xl4.thS tfce
    replace qstk := xl4.sqT qstk
    replace qfcs := xl4.sqT qfcs
    replace qfce := xl4.sqT qfce
    replace afcs := xl4.thAllS afcs
    replace hv := xl4.thAllS hv
    have EE19 := EE18.trans (xl4.epn EE18.pen)
    clear xl4 nl4 EE18
    generalize upd Y18 l4 (.lst ([.non, .str "4 2: 01", .ref p1, .int 7, .ref p2, .ref p3, .ref p5, .ref p7, v10, .ref p11, .ref p12] ++ [.ref p14])) = Y19 at EE19 tfcs tstk tfce qstk qfcs qfce afcs hv hl2 ⊢
    have hl := hl2
    clear hl2
    replace hv : ThAllF K Y19 (FS (fun _ => True) H Y19) [.non, .str "4 2: 01", .ref p1, .int 7, .ref p2, .ref p3, .ref p5, .ref p7, v10, .ref p11, .ref p12, .ref p14] [.none, .str "4 2: 01", .dict [], .int 7, .list [.int n, .int kk, .tuple (fss.map tD)], .tuple [.int n, .int kk], .tuple [.int n, .int kk, .list (fss.map tD)], .tuple [.int n, .int kk, .tuple []], .tuple ([.int n, .int kk, .tuple (fss.map tD)] ++ [.int 0]), .tuple [.int 0, .int kk, .tuple (fss.map tD)], .tuple [.int 9, .int kk, .tuple (fss.map tD)], .tuple [.bool true, .int kk, .tuple (fss.map tD)]] := hv
    show R [some (.ref a), some (.ref b), some (.int wy), some (.int n), some (.int kk), some (.ref fa), some (.int (j : Int)), some (.ref ft), some (.ref l4)] Y19
    rw [hR]
    clear hR
    refine tseq_intro fun R hR => ?_
    refine ⟨.ref l4, rfl, .int n, rfl, .ref fa, rfl, (by show 3 ≤ sizeLine; decide), fun p16 np16 => ?_⟩
    have xp16 := Ext.new (o := .tup [.int n, .non, .ref fa]) EE19.tb np16
    have zp16 : H p16 = none := EE19.free np16
    have tp16 : ThF K (upd Y19 p16 (.tup [.int n, .non, .ref fa])) (FS (fun _ => True) H (upd Y19 p16 (.tup [.int n, .non, .ref fa]))) (.ref p16) (.tuple [.int n, .none, .tuple (fss.map tD)]) := th_newS EE19.tb np16 (.cons (.int n) (.cons .non (.cons tfcs .nil)))
    replace tfcs := xp16.thS tfcs
    replace tstk := xp16.thS tstk
    replace tfce := xp16.thS tfce
    replace qstk := xp16.sqT qstk
    replace qfcs := xp16.sqT qfcs
    replace qfce := xp16.sqT qfce
    replace afcs := xp16.thAllS afcs
    replace hv := xp16.thAllS hv
    replace hl := xp16.lst hl
    have EE20 := EE19.trans (xp16.epn EE19.pen)
    clear xp16 np16 EE19
    generalize upd Y19 p16 (.tup [.int n, .non, .ref fa]) = Y20 at EE20 tfcs tstk tfce qstk qfcs qfce afcs hv hl tp16 ⊢
    refine ⟨.int n, rfl, 1, rfl, .ref fa, rfl, (by show 3 ≤ sizeLine; decide), fun p17 np17 => ?_⟩
    have xp17 := Ext.new (o := .tup [.int n, .int (-1), .ref fa]) EE20.tb np17
    have zp17 : H p17 = none := EE20.free np17
    have tp17 : ThF K (upd Y20 p17 (.tup [.int n, .int (-1), .ref fa])) (FS (fun _ => True) H (upd Y20 p17 (.tup [.int n, .int (-1), .ref fa]))) (.ref p17) (.tuple [.int n, .int (-1), .tuple (fss.map tD)]) := th_newS EE20.tb np17 (.cons (.int n) (.cons (.int (-1)) (.cons tfcs .nil)))
    replace tfcs := xp17.thS tfcs
    replace tstk := xp17.thS tstk
    replace tfce := xp17.thS tfce
    replace qstk := xp17.sqT qstk
    replace qfcs := xp17.sqT qfcs
    replace qfce := xp17.sqT qfce
    replace afcs := xp17.thAllS afcs
    replace hv := xp17.thAllS hv
    replace hl := xp17.lst hl
    replace tp16 := xp17.thS tp16
    have EE21 := EE20.trans (xp17.epn EE20.pen)
    clear xp17 np17 EE20
    generalize upd Y20 p17 (.tup [.int n, .int (-1), .ref fa]) = Y21 at EE21 tfcs tstk tfce qstk qfcs qfce afcs hv hl tp16 tp17 ⊢
    refine ⟨.int n, rfl, .int kk, rfl, kk, 1, rfl, rfl, .ref fa, rfl, (by show 3 ≤ sizeLine; decide), fun p18 np18 => ?_⟩
    have xp18 := Ext.new (o := .tup [.int n, .int (kk + 1), .ref fa]) EE21.tb np18
    have zp18 : H p18 = none := EE21.free np18
    have tp18 : ThF K (upd Y21 p18 (.tup [.int n, .int (kk + 1), .ref fa])) (FS (fun _ => True) H (upd Y21 p18 (.tup [.int n, .int (kk + 1), .ref fa]))) (.ref p18) (.tuple [.int n, .int (kk + 1), .tuple (fss.map tD)]) := th_newS EE21.tb np18 (.cons (.int n) (.cons (.int (kk + 1)) (.cons tfcs .nil)))
    replace tfcs := xp18.thS tfcs
    replace tstk := xp18.thS tstk
    replace tfce := xp18.thS tfce
    replace qstk := xp18.sqT qstk
    replace qfcs := xp18.sqT qfcs
    replace qfce := xp18.sqT qfce
    replace afcs := xp18.thAllS afcs
    replace hv := xp18.thAllS hv
    replace hl := xp18.lst hl
    replace tp16 := xp18.thS tp16
    replace tp17 := xp18.thS tp17
    have EE22 := EE21.trans (xp18.epn EE21.pen)
    clear xp18 np18 EE21
    generalize upd Y21 p18 (.tup [.int n, .int (kk + 1), .ref fa]) = Y22 at EE22 tfcs tstk tfce qstk qfcs qfce afcs hv hl tp16 tp17 tp18 ⊢
    have hw : ThAllF K Y22 (FS (fun _ => True) H Y22) [.ref p16, .ref p17, .ref p18] [.tuple [.int n, .none, .tuple (fss.map tD)], .tuple [.int n, .int (-1), .tuple (fss.map tD)], .tuple [.int n, .int (kk + 1), .tuple (fss.map tD)]] := (.cons tp16 (.cons tp17 (.cons tp18 .nil)))
    clear tp16 tp17 tp18
    refine ⟨(by show 3 ≤ sizeLine; decide), fun p19 np19 => ?_⟩
    have xp19 := Ext.new (o := .lst [.ref p16, .ref p17, .ref p18]) EE22.tb np19
    have zp19 : H p19 = none := EE22.free np19
    have hm : (upd Y22 p19 (.lst [.ref p16, .ref p17, .ref p18])) p19 = some (.lst [.ref p16, .ref p17, .ref p18]) := upd_same
    replace tfcs := xp19.thS tfcs
    replace tstk := xp19.thS tstk
    replace tfce := xp19.thS tfce
    replace qstk := xp19.sqT qstk
    replace qfcs := xp19.sqT qfcs
    replace qfce := xp19.sqT qfce
    replace afcs := xp19.thAllS afcs
    replace hv := xp19.thAllS hv
    replace hl := xp19.lst hl
    replace hw := xp19.thAllS hw
    have EE23 := EE22.trans (xp19.epn EE22.pen)
    clear xp19 np19 EE22
    generalize upd Y22 p19 (.lst [.ref p16, .ref p17, .ref p18]) = Y23 at EE23 tfcs tstk tfce qstk qfcs qfce afcs hv hl hw hm ⊢
    replace hv := thAll_app hv hw
    clear hw
    refine ⟨l4, p19, _, _, rfl, rfl, hl, hm, Nat.le_of_lt (small1000 (by show 12 + 3 ≤ 1000; decide)), fun l5 nl5 => ?_⟩
    have xl5 := Ext.new (o := .lst ([.non, .str "4 2: 01", .ref p1, .int 7, .ref p2, .ref p3, .ref p5, .ref p7, v10, .ref p11, .ref p12, .ref p14] ++ [.ref p16, .ref p17, .ref p18])) EE23.tb nl5
    have zl5 : H l5 = none := EE23.free nl5
    have hl2 : (upd Y23 l5 (.lst ([.non, .str "4 2: 01", .ref p1, .int 7, .ref p2, .ref p3, .ref p5, .ref p7, v10, .ref p11, .ref p12, .ref p14] ++ [.ref p16, .ref p17, .ref p18]))) l5 = some (.lst [.non, .str "4 2: 01", .ref p1, .int 7, .ref p2, .ref p3, .ref p5, .ref p7, v10, .ref p11, .ref p12, .ref p14, .ref p16, .ref p17, .ref p18]) := upd_same
    replace tfcs := xl5.thS tfcs
    replace tstk := xl5.thS tstk
    replace tfce := xl5.thS tfce
    replace qstk := xl5.sqT qstk
    replace qfcs := xl5.sqT qfcs
    replace qfce := xl5.sqT qfce
    replace afcs := xl5.thAllS afcs
    replace hv := xl5.thAllS hv
    have EE24 := EE23.trans (xl5.epn EE23.pen)
    clear xl5 nl5 EE23
    generalize upd Y23 l5 (.lst ([.non, .str "4 2: 01", .ref p1, .int 7, .ref p2, .ref p3, .ref p5, .ref p7, v10, .ref p11, .ref p12, .ref p14] ++ [.ref p16, .ref p17, .ref p18])) = Y24 at EE24 tfcs tstk tfce qstk qfcs qfce afcs hv hl2 ⊢
    have hl := hl2
    clear hl2
    replace hv : ThAllF K Y24 (FS (fun _ => True) H Y24) [.non, .str "4 2: 01", .ref p1, .int 7, .ref p2, .ref p3, .ref p5, .ref p7, v10, .ref p11, .ref p12, .ref p14, .ref p16, .ref p17, .ref p18] [.none, .str "4 2: 01", .dict [], .int 7, .list [.int n, .int kk, .tuple (fss.map tD)], .tuple [.int n, .int kk], .tuple [.int n, .int kk, .list (fss.map tD)], .tuple [.int n, .int kk, .tuple []], .tuple ([.int n, .int kk, .tuple (fss.map tD)] ++ [.int 0]), .tuple [.int 0, .int kk, .tuple (fss.map tD)], .tuple [.int 9, .int kk, .tuple (fss.map tD)], .tuple [.bool true, .int kk, .tuple (fss.map tD)], .tuple [.int n, .none, .tuple (fss.map tD)], .tuple [.int n, .int (-1), .tuple (fss.map tD)], .tuple [.int n, .int (kk + 1), .tuple (fss.map tD)]] := hv
    show R [some (.ref a), some (.ref b), some (.int wy), some (.int n), some (.int kk), some (.ref fa), some (.int (j : Int)), some (.ref ft), some (.ref l5)] Y24
    rw [hR]
    clear hR
    refine tseq_intro fun R hR => ?_
    refine ⟨.ref l5, rfl, .int n, rfl, .int kk, rfl, .ref fa, rfl, .ref ft, rfl, (by show 1 ≤ sizeLine; decide), fun p20 np20 => ?_⟩
    have xp20 := Ext.new (o := .tup [.ref ft]) EE24.tb np20
    have zp20 : H p20 = none := EE24.free np20
    have tp20 : ThF K (upd Y24 p20 (.tup [.ref ft])) (FS (fun _ => True) H (upd Y24 p20 (.tup [.ref ft]))) (.ref p20) (.tuple [.tuple (iD fc)]) := th_newS EE24.tb np20 (.cons tfce .nil)
    replace tfcs := xp20.thS tfcs
    replace tstk := xp20.thS tstk
    replace tfce := xp20.thS tfce
    replace qstk := xp20.sqT qstk
    replace qfcs := xp20.sqT qfcs
    replace qfce := xp20.sqT qfce
    replace afcs := xp20.thAllS afcs
    replace hv := xp20.thAllS hv
    replace hl := xp20.lst hl
    have EE25 := EE24.trans (xp20.epn EE24.pen)
    clear xp20 np20 EE24
    generalize upd Y24 p20 (.tup [.ref ft]) = Y25 at EE25 tfcs tstk tfce qstk qfcs qfce afcs hv hl tp20 ⊢
    refine ⟨_, _, _, tfcs, tp20, by simp only [iD, List.length_append, List.length_take, List.length_drop, List.length_map, List.length_cons, List.length_nil]; omega, EE25.tb, fun v21 Y26 xv21 tv21 => ?_⟩
    replace tfcs := xv21.thS tfcs
    replace tstk := xv21.thS tstk
    replace tfce := xv21.thS tfce
    replace qstk := xv21.sqT qstk
    replace qfcs := xv21.sqT qfcs
    replace qfce := xv21.sqT qfce
    replace afcs := xv21.thAllS afcs
    replace hv := xv21.thAllS hv
    replace hl := xv21.lst hl
    replace tp20 := xv21.thS tp20
    replace tv21 := tv21.imp (fs_mono xv21)
    have EE26 := EE25.trans (xv21.epn EE25.pen)
    clear xv21 EE25
    refine ⟨(by show 3 ≤ sizeLine; decide), fun p22 np22 => ?_⟩
    have xp22 := Ext.new (o := .tup [.int n, .int kk, v21]) EE26.tb np22
    have zp22 : H p22 = none := EE26.free np22
    have tp22 : ThF K (upd Y26 p22 (.tup [.int n, .int kk, v21])) (FS (fun _ => True) H (upd Y26 p22 (.tup [.int n, .int kk, v21]))) (.ref p22) (.tuple [.int n, .int kk, .tuple ((fss.map tD) ++ [.tuple (iD fc)])]) := th_newS EE26.tb np22 (.cons (.int n) (.cons (.int kk) (.cons tv21 .nil)))
    replace tfcs := xp22.thS tfcs
    replace tstk := xp22.thS tstk
    replace tfce := xp22.thS tfce
    replace qstk := xp22.sqT qstk
    replace qfcs := xp22.sqT qfcs
    replace qfce := xp22.sqT qfce
    replace afcs := xp22.thAllS afcs
    replace hv := xp22.thAllS hv
    replace hl := xp22.lst hl
    replace tp20 := xp22.thS tp20
    replace tv21 := xp22.thS tv21
    have EE27 := EE26.trans (xp22.epn EE26.pen)
    clear xp22 np22 EE26
    generalize upd Y26 p22 (.tup [.int n, .int kk, v21]) = Y27 at EE27 tfcs tstk tfce qstk qfcs qfce afcs hv hl tp20 tv21 tp22 ⊢
    have hw : ThAllF K Y27 (FS (fun _ => True) H Y27) [.ref p22] [.tuple [.int n, .int kk, .tuple ((fss.map tD) ++ [.tuple (iD fc)])]] := (.cons tp22 .nil)
    clear tp20 tv21 tp22
    refine ⟨(by show 1 ≤ sizeLine; decide), fun p23 np23 => ?_⟩
    have xp23 := Ext.new (o := .lst [.ref p22]) EE27.tb np23
    have zp23 : H p23 = none := EE27.free np23
    have hm : (upd Y27 p23 (.lst [.ref p22])) p23 = some (.lst [.ref p22]) := upd_same
    replace tfcs := xp23.thS tfcs
    replace tstk := xp23.thS tstk
    replace tfce := xp23.thS tfce
    replace qstk := xp23.sqT qstk
    replace qfcs := xp23.sqT qfcs
    replace qfce := xp23.sqT qfce
    replace afcs := xp23.thAllS afcs
    replace hv := xp23.thAllS hv
    replace hl := xp23.lst hl
    replace hw := xp23.thAllS hw
    have EE28 := EE27.trans (xp23.epn EE27.pen)
    clear xp23 np23 EE27
    generalize upd Y27 p23 (.lst [.ref p22]) = Y28 at EE28 tfcs tstk tfce qstk qfcs qfce afcs hv hl hw hm ⊢
    replace hv := thAll_app hv hw
    clear hw
    refine ⟨l5, p23, _, _, rfl, rfl, hl, hm, Nat.le_of_lt (small1000 (by show 15 + 1 ≤ 1000; decide)), fun l6 nl6 => ?_⟩
    have xl6 := Ext.new (o := .lst ([.non, .str "4 2: 01", .ref p1, .int 7, .ref p2, .ref p3, .ref p5, .ref p7, v10, .ref p11, .ref p12, .ref p14, .ref p16, .ref p17, .ref p18] ++ [.ref p22])) EE28.tb nl6
    have zl6 : H l6 = none := EE28.free nl6
    have hl2 : (upd Y28 l6 (.lst ([.non, .str "4 2: 01", .ref p1, .int 7, .ref p2, .ref p3, .ref p5, .ref p7, v10, .ref p11, .ref p12, .ref p14, .ref p16, .ref p17, .ref p18] ++ [.ref p22]))) l6 = some (.lst [.non, .str "4 2: 01", .ref p1, .int 7, .ref p2, .ref p3, .ref p5, .ref p7, v10, .ref p11, .ref p12, .ref p14, .ref p16, .ref p17, .ref p18, .ref p22]) := upd_same
    replace tfcs := th_hold (o := .lst ([.non, .str "4 2: 01", .ref p1, .int 7, .ref p2, .ref p3, .ref p5, .ref p7, v10, .ref p11, .ref p12, .ref p14, .ref p16, .ref p17, .ref p18] ++ [.ref p22])) EE28.tb nl6 tfcs
    replace tstk := th_hold (o := .lst ([.non, .str "4 2: 01", .ref p1, .int 7, .ref p2, .ref p3, .ref p5, .ref p7, v10, .ref p11, .ref p12, .ref p14, .ref p16, .ref p17, .ref p18] ++ [.ref p22])) EE28.tb nl6 tstk
    replace tfce := th_hold (o := .lst ([.non, .str "4 2: 01", .ref p1, .int 7, .ref p2, .ref p3, .ref p5, .ref p7, v10, .ref p11, .ref p12, .ref p14, .ref p16, .ref p17, .ref p18] ++ [.ref p22])) EE28.tb nl6 tfce
    replace qstk := xl6.sqT qstk
    replace qfcs := xl6.sqT qfcs
    replace qfce := xl6.sqT qfce
    replace afcs := thAll_hold (o := .lst ([.non, .str "4 2: 01", .ref p1, .int 7, .ref p2, .ref p3, .ref p5, .ref p7, v10, .ref p11, .ref p12, .ref p14, .ref p16, .ref p17, .ref p18] ++ [.ref p22])) EE28.tb nl6 afcs
    replace hv := thAll_hold (o := .lst ([.non, .str "4 2: 01", .ref p1, .int 7, .ref p2, .ref p3, .ref p5, .ref p7, v10, .ref p11, .ref p12, .ref p14, .ref p16, .ref p17, .ref p18] ++ [.ref p22])) EE28.tb nl6 hv
    have EE29 := EE28.trans (xl6.epn EE28.pen)
    clear xl6 nl6 EE28
    generalize upd Y28 l6 (.lst ([.non, .str "4 2: 01", .ref p1, .int 7, .ref p2, .ref p3, .ref p5, .ref p7, v10, .ref p11, .ref p12, .ref p14, .ref p16, .ref p17, .ref p18] ++ [.ref p22])) = Y29 at EE29 tfcs tstk tfce qstk qfcs qfce afcs hv hl2 ⊢
    have hl := hl2
    clear hl2
    replace hv : ThAllF K Y29 (FS (fun b => b ≠ l6) H Y29) [.non, .str "4 2: 01", .ref p1, .int 7, .ref p2, .ref p3, .ref p5, .ref p7, v10, .ref p11, .ref p12, .ref p14, .ref p16, .ref p17, .ref p18, .ref p22] [.none, .str "4 2: 01", .dict [], .int 7, .list [.int n, .int kk, .tuple (fss.map tD)], .tuple [.int n, .int kk], .tuple [.int n, .int kk, .list (fss.map tD)], .tuple [.int n, .int kk, .tuple []], .tuple ([.int n, .int kk, .tuple (fss.map tD)] ++ [.int 0]), .tuple [.int 0, .int kk, .tuple (fss.map tD)], .tuple [.int 9, .int kk, .tuple (fss.map tD)], .tuple [.bool true, .int kk, .tuple (fss.map tD)], .tuple [.int n, .none, .tuple (fss.map tD)], .tuple [.int n, .int (-1), .tuple (fss.map tD)], .tuple [.int n, .int (kk + 1), .tuple (fss.map tD)], .tuple [.int n, .int kk, .tuple ((fss.map tD) ++ [.tuple (iD fc)])]] := hv
    show R [some (.ref a), some (.ref b), some (.int wy), some (.int n), some (.int kk), some (.ref fa), some (.int (j : Int)), some (.ref ft), some (.ref l6)] Y29
    rw [hR]
    clear hR
    refine tseq_intro fun R hR => ?_
    refine ⟨.ref l6, rfl, .inl ⟨rfl, _, .inl (.inl hl)⟩, .int n, rfl, .int kk, rfl, .ref fa, rfl, .int (j : Int), rfl, (j : Int), rfl, _, _, tfcs, EE29.tb, fun v24 Y30 xv24 tv24 => ?_⟩
    replace tfcs := xv24.thS tfcs
    replace tstk := xv24.thS tstk
    replace tfce := xv24.thS tfce
    replace qstk := xv24.sqT qstk
    replace qfcs := xv24.sqT qfcs
    replace qfce := xv24.sqT qfce
    replace afcs := xv24.thAllS afcs
    replace hv := xv24.thAllS hv
    replace hl := xv24.lst hl
    replace tv24 := tv24.imp (fs_mono xv24)
    have EE30 := EE29.trans (xv24.epn EE29.pen)
    clear xv24 EE29
    rw [cutD_to (m := j) hjm] at tv24
    refine ⟨.ref ft, rfl, ft, (fc.map V.int), rfl, .inr qfce, fun p25 np25 => ?_⟩
    have xp25 := Ext.new (o := .lst (fc.map V.int)) EE30.tb np25
    have zp25 : H p25 = none := EE30.free np25
    have tp25 : ThF K (upd Y30 p25 (.lst (fc.map V.int))) (FS (fun b => b ≠ l6) H (upd Y30 p25 (.lst (fc.map V.int)))) (.ref p25) (.list (iD fc)) := th_newLS EE30.tb np25 zp25 (ne_of_none hl np25).symm (th_ints fc)
    replace tfcs := xp25.thS tfcs
    replace tstk := xp25.thS tstk
    replace tfce := xp25.thS tfce
    replace qstk := xp25.sqT qstk
    replace qfcs := xp25.sqT qfcs
    replace qfce := xp25.sqT qfce
    replace afcs := xp25.thAllS afcs
    replace hv := xp25.thAllS hv
    replace hl := xp25.lst hl
    replace tv24 := xp25.thS tv24
    have EE31 := EE30.trans (xp25.epn EE30.pen)
    clear xp25 np25 EE30
    generalize upd Y30 p25 (.lst (fc.map V.int)) = Y31 at EE31 tfcs tstk tfce qstk qfcs qfce afcs hv hl tv24 tp25 ⊢
    refine ⟨(by show 1 ≤ sizeLine; decide), fun p26 np26 => ?_⟩
    have xp26 := Ext.new (o := .tup [.ref p25]) EE31.tb np26
    have zp26 : H p26 = none := EE31.free np26
    have tp26 : ThF K (upd Y31 p26 (.tup [.ref p25])) (FS (fun b => b ≠ l6) H (upd Y31 p26 (.tup [.ref p25]))) (.ref p26) (.tuple [.list (iD fc)]) := th_newS EE31.tb np26 (.cons tp25 .nil)
    replace tfcs := xp26.thS tfcs
    replace tstk := xp26.thS tstk
    replace tfce := xp26.thS tfce
    replace qstk := xp26.sqT qstk
    replace qfcs := xp26.sqT qfcs
    replace qfce := xp26.sqT qfce
    replace afcs := xp26.thAllS afcs
    replace hv := xp26.thAllS hv
    replace hl := xp26.lst hl
    replace tv24 := xp26.thS tv24
    replace tp25 := xp26.thS tp25
    have EE32 := EE31.trans (xp26.epn EE31.pen)
    clear xp26 np26 EE31
    generalize upd Y31 p26 (.tup [.ref p25]) = Y32 at EE32 tfcs tstk tfce qstk qfcs qfce afcs hv hl tv24 tp25 tp26 ⊢
    refine ⟨_, _, _, tv24, tp26, by simp only [iD, List.length_append, List.length_take, List.length_drop, List.length_map, List.length_cons, List.length_nil]; omega, EE32.tb, fun v27 Y33 xv27 tv27 => ?_⟩
    replace tfcs := xv27.thS tfcs
    replace tstk := xv27.thS tstk
    replace tfce := xv27.thS tfce
    replace qstk := xv27.sqT qstk
    replace qfcs := xv27.sqT qfcs
    replace qfce := xv27.sqT qfce
    replace afcs := xv27.thAllS afcs
    replace hv := xv27.thAllS hv
    replace hl := xv27.lst hl
    replace tv24 := xv27.thS tv24
    replace tp25 := xv27.thS tp25
    replace tp26 := xv27.thS tp26
    replace tv27 := tv27.imp (fs_mono xv27)
    have EE33 := EE32.trans (xv27.epn EE32.pen)
    clear xv27 EE32
    refine ⟨.ref fa, rfl, .int (j : Int), rfl, (j : Int), 1, rfl, rfl, (j : Int) + 1, rfl, _, _, tfcs, EE33.tb, fun v28 Y34 xv28 tv28 => ?_⟩
    replace tfcs := xv28.thS tfcs
    replace tstk := xv28.thS tstk
    replace tfce := xv28.thS tfce
    replace qstk := xv28.sqT qstk
    replace qfcs := xv28.sqT qfcs
    replace qfce := xv28.sqT qfce
    replace afcs := xv28.thAllS afcs
    replace hv := xv28.thAllS hv
    replace hl := xv28.lst hl
    replace tv24 := xv28.thS tv24
    replace tp25 := xv28.thS tp25
    replace tp26 := xv28.thS tp26
    replace tv27 := xv28.thS tv27
    replace tv28 := tv28.imp (fs_mono xv28)
    have EE34 := EE33.trans (xv28.epn EE33.pen)
    clear xv28 EE33
    rw [show cutD (fss.map tD) (some ((j : Int) + 1)) none = (fss.map tD).drop (j + 1) from cutD_from (m := j + 1) hjm1] at tv28
    refine ⟨_, _, _, tv27, tv28, by simp only [iD, List.length_append, List.length_take, List.length_drop, List.length_map, List.length_cons, List.length_nil]; omega, EE34.tb, fun v29 Y35 xv29 tv29 => ?_⟩
    replace tfcs := xv29.thS tfcs
    replace tstk := xv29.thS tstk
    replace tfce := xv29.thS tfce
    replace qstk := xv29.sqT qstk
    replace qfcs := xv29.sqT qfcs
    replace qfce := xv29.sqT qfce
    replace afcs := xv29.thAllS afcs
    replace hv := xv29.thAllS hv
    replace hl := xv29.lst hl
    replace tv24 := xv29.thS tv24
    replace tp25 := xv29.thS tp25
    replace tp26 := xv29.thS tp26
    replace tv27 := xv29.thS tv27
    replace tv28 := xv29.thS tv28
    replace tv29 := tv29.imp (fs_mono xv29)
    have EE35 := EE34.trans (xv29.epn EE34.pen)
    clear xv29 EE34
    refine ⟨(by show 3 ≤ sizeLine; decide), fun p30 np30 => ?_⟩
    have xp30 := Ext.new (o := .tup [.int n, .int kk, v29]) EE35.tb np30
    have zp30 : H p30 = none := EE35.free np30
    have tp30 : ThF K (upd Y35 p30 (.tup [.int n, .int kk, v29])) (FS (fun b => b ≠ l6) H (upd Y35 p30 (.tup [.int n, .int kk, v29]))) (.ref p30) (.tuple [.int n, .int kk, .tuple ((((fss.map tD).take j) ++ [.list (iD fc)]) ++ ((fss.map tD).drop (j + 1)))]) := th_newS EE35.tb np30 (.cons (.int n) (.cons (.int kk) (.cons tv29 .nil)))
    replace tfcs := xp30.thS tfcs
    replace tstk := xp30.thS tstk
    replace tfce := xp30.thS tfce
    replace qstk := xp30.sqT qstk
    replace qfcs := xp30.sqT qfcs
    replace qfce := xp30.sqT qfce
    replace afcs := xp30.thAllS afcs
    replace hv := xp30.thAllS hv
    replace hl := xp30.lst hl
    replace tv24 := xp30.thS tv24
    replace tp25 := xp30.thS tp25
    replace tp26 := xp30.thS tp26
    replace tv27 := xp30.thS tv27
    replace tv28 := xp30.thS tv28
    replace tv29 := xp30.thS tv29
    have EE36 := EE35.trans (xp30.epn EE35.pen)
    clear xp30 np30 EE35
    generalize upd Y35 p30 (.tup [.int n, .int kk, v29]) = Y36 at EE36 tfcs tstk tfce qstk qfcs qfce afcs hv hl tv24 tp25 tp26 tv27 tv28 tv29 tp30 ⊢
    replace hv : ThAllF K Y36 (FS (fun b => b ≠ l6) H Y36) [.non, .str "4 2: 01", .ref p1, .int 7, .ref p2, .ref p3, .ref p5, .ref p7, v10, .ref p11, .ref p12, .ref p14, .ref p16, .ref p17, .ref p18, .ref p22, .ref p30] [.none, .str "4 2: 01", .dict [], .int 7, .list [.int n, .int kk, .tuple (fss.map tD)], .tuple [.int n, .int kk], .tuple [.int n, .int kk, .list (fss.map tD)], .tuple [.int n, .int kk, .tuple []], .tuple ([.int n, .int kk, .tuple (fss.map tD)] ++ [.int 0]), .tuple [.int 0, .int kk, .tuple (fss.map tD)], .tuple [.int 9, .int kk, .tuple (fss.map tD)], .tuple [.bool true, .int kk, .tuple (fss.map tD)], .tuple [.int n, .none, .tuple (fss.map tD)], .tuple [.int n, .int (-1), .tuple (fss.map tD)], .tuple [.int n, .int (kk + 1), .tuple (fss.map tD)], .tuple [.int n, .int kk, .tuple ((fss.map tD) ++ [.tuple (iD fc)])], .tuple [.int n, .int kk, .tuple ((((fss.map tD).take j) ++ [.list (iD fc)]) ++ ((fss.map tD).drop (j + 1)))]] := thAll_app hv (.cons tp30 .nil)
    clear tv24 tp25 tp26 tv27 tv28 tv29 tp30
    refine ⟨l6, _, _, rfl, rfl, hl, small1000 (by show 16 ≤ 1000; decide), ?_⟩
    have EE37 : Epn Ps a H (upd Y36 l6 (.lst ([.non, .str "4 2: 01", .ref p1, .int 7, .ref p2, .ref p3, .ref p5, .ref p7, v10, .ref p11, .ref p12, .ref p14, .ref p16, .ref p17, .ref p18, .ref p22] ++ [.ref p30]))) := EE36.write zl6 hl (fun q z => by cases z)
    replace tfcs := th_put (l' := [.non, .str "4 2: 01", .ref p1, .int 7, .ref p2, .ref p3, .ref p5, .ref p7, v10, .ref p11, .ref p12, .ref p14, .ref p16, .ref p17, .ref p18, .ref p22] ++ [.ref p30]) hl tfcs
    replace tstk := th_put (l' := [.non, .str "4 2: 01", .ref p1, .int 7, .ref p2, .ref p3, .ref p5, .ref p7, v10, .ref p11, .ref p12, .ref p14, .ref p16, .ref p17, .ref p18, .ref p22] ++ [.ref p30]) hl tstk
    replace tfce := th_put (l' := [.non, .str "4 2: 01", .ref p1, .int 7, .ref p2, .ref p3, .ref p5, .ref p7, v10, .ref p11, .ref p12, .ref p14, .ref p16, .ref p17, .ref p18, .ref p22] ++ [.ref p30]) hl tfce
    replace qstk : SqT K (upd Y36 l6 (.lst ([.non, .str "4 2: 01", .ref p1, .int 7, .ref p2, .ref p3, .ref p5, .ref p7, v10, .ref p11, .ref p12, .ref p14, .ref p16, .ref p17, .ref p18, .ref p22] ++ [.ref p30]))) _ _ := sqT_put hl qstk
    replace qfcs : SqT K (upd Y36 l6 (.lst ([.non, .str "4 2: 01", .ref p1, .int 7, .ref p2, .ref p3, .ref p5, .ref p7, v10, .ref p11, .ref p12, .ref p14, .ref p16, .ref p17, .ref p18, .ref p22] ++ [.ref p30]))) _ _ := sqT_put hl qfcs
    replace qfce : SqT K (upd Y36 l6 (.lst ([.non, .str "4 2: 01", .ref p1, .int 7, .ref p2, .ref p3, .ref p5, .ref p7, v10, .ref p11, .ref p12, .ref p14, .ref p16, .ref p17, .ref p18, .ref p22] ++ [.ref p30]))) _ _ := sqT_put hl qfce
    replace afcs := thAll_put (l' := [.non, .str "4 2: 01", .ref p1, .int 7, .ref p2, .ref p3, .ref p5, .ref p7, v10, .ref p11, .ref p12, .ref p14, .ref p16, .ref p17, .ref p18, .ref p22] ++ [.ref p30]) hl afcs
    replace hv := thAll_put (l' := [.non, .str "4 2: 01", .ref p1, .int 7, .ref p2, .ref p3, .ref p5, .ref p7, v10, .ref p11, .ref p12, .ref p14, .ref p16, .ref p17, .ref p18, .ref p22] ++ [.ref p30]) hl hv
    have hl2 : (upd Y36 l6 (.lst ([.non, .str "4 2: 01", .ref p1, .int 7, .ref p2, .ref p3, .ref p5, .ref p7, v10, .ref p11, .ref p12, .ref p14, .ref p16, .ref p17, .ref p18, .ref p22] ++ [.ref p30]))) l6 = some (.lst [.non, .str "4 2: 01", .ref p1, .int 7, .ref p2, .ref p3, .ref p5, .ref p7, v10, .ref p11, .ref p12, .ref p14, .ref p16, .ref p17, .ref p18, .ref p22, .ref p30]) := upd_same
    clear hl EE36
    generalize upd Y36 l6 (.lst ([.non, .str "4 2: 01", .ref p1, .int 7, .ref p2, .ref p3, .ref p5, .ref p7, v10, .ref p11, .ref p12, .ref p14, .ref p16, .ref p17, .ref p18, .ref p22] ++ [.ref p30])) = Y37 at EE37 hl2 tfcs tstk tfce qstk qfcs qfce afcs hv ⊢
    have hl := hl2
    clear hl2
    show R [some (.ref a), some (.ref b), some (.int wy), some (.int n), some (.int kk), some (.ref fa), some (.int (j : Int)), some (.ref ft), some (.ref l6)] Y37
    rw [hR]
    clear hR
    refine tseq_intro fun R hR => ?_
    refine ⟨.ref l6, rfl, .inl ⟨rfl, _, .inl (.inl hl)⟩, .int n, rfl, .int kk, rfl, .ref fa, rfl, .int (j : Int), rfl, (j : Int), rfl, _, _, tfcs, EE37.tb, fun v31 Y38 xv31 tv31 => ?_⟩
    replace tfcs := xv31.thS tfcs
    replace tstk := xv31.thS tstk
    replace tfce := xv31.thS tfce
    replace qstk := xv31.sqT qstk
    replace qfcs := xv31.sqT qfcs
    replace qfce := xv31.sqT qfce
    replace afcs := xv31.thAllS afcs
    replace hv := xv31.thAllS hv
    replace hl := xv31.lst hl
    replace tv31 := tv31.imp (fs_mono xv31)
    have EE38 := EE37.trans (xv31.epn EE37.pen)
    clear xv31 EE37
    rw [cutD_to (m := j) hjm] at tv31
    refine ⟨.int n, rfl, (by show 1 ≤ sizeLine; decide), fun p32 np32 => ?_⟩
    have xp32 := Ext.new (o := .tup [.int n]) EE38.tb np32
    have zp32 : H p32 = none := EE38.free np32
    have tp32 : ThF K (upd Y38 p32 (.tup [.int n])) (FS (fun b => b ≠ l6) H (upd Y38 p32 (.tup [.int n]))) (.ref p32) (.tuple [.int n]) := th_newS EE38.tb np32 (.cons (.int n) .nil)
    replace tfcs := xp32.thS tfcs
    replace tstk := xp32.thS tstk
    replace tfce := xp32.thS tfce
    replace qstk := xp32.sqT qstk
    replace qfcs := xp32.sqT qfcs
    replace qfce := xp32.sqT qfce
    replace afcs := xp32.thAllS afcs
    replace hv := xp32.thAllS hv
    replace hl := xp32.lst hl
    replace tv31 := xp32.thS tv31
    have EE39 := EE38.trans (xp32.epn EE38.pen)
    clear xp32 np32 EE38
    generalize upd Y38 p32 (.tup [.int n]) = Y39 at EE39 tfcs tstk tfce qstk qfcs qfce afcs hv hl tv31 tp32 ⊢
    refine ⟨.ref ft, rfl, _, _, _, tp32, tfce, by simp only [iD, List.length_append, List.length_take, List.length_drop, List.length_map, List.length_cons, List.length_nil]; omega, EE39.tb, fun v33 Y40 xv33 tv33 => ?_⟩
    replace tfcs := xv33.thS tfcs
    replace tstk := xv33.thS tstk
    replace tfce := xv33.thS tfce
    replace qstk := xv33.sqT qstk
    replace qfcs := xv33.sqT qfcs
    replace qfce := xv33.sqT qfce
    replace afcs := xv33.thAllS afcs
    replace hv := xv33.thAllS hv
    replace hl := xv33.lst hl
    replace tv31 := xv33.thS tv31
    replace tp32 := xv33.thS tp32
    replace tv33 := tv33.imp (fs_mono xv33)
    have EE40 := EE39.trans (xv33.epn EE39.pen)
    clear xv33 EE39
    refine ⟨(by show 1 ≤ sizeLine; decide), fun p34 np34 => ?_⟩
    have xp34 := Ext.new (o := .tup [v33]) EE40.tb np34
    have zp34 : H p34 = none := EE40.free np34
    have tp34 : ThF K (upd Y40 p34 (.tup [v33])) (FS (fun b => b ≠ l6) H (upd Y40 p34 (.tup [v33]))) (.ref p34) (.tuple [.tuple ([.int n] ++ (iD fc))]) := th_newS EE40.tb np34 (.cons tv33 .nil)
    replace tfcs := xp34.thS tfcs
    replace tstk := xp34.thS tstk
    replace tfce := xp34.thS tfce
    replace qstk := xp34.sqT qstk
    replace qfcs := xp34.sqT qfcs
    replace qfce := xp34.sqT qfce
    replace afcs := xp34.thAllS afcs
    replace hv := xp34.thAllS hv
    replace hl := xp34.lst hl
    replace tv31 := xp34.thS tv31
    replace tp32 := xp34.thS tp32
    replace tv33 := xp34.thS tv33
    have EE41 := EE40.trans (xp34.epn EE40.pen)
    clear xp34 np34 EE40
    generalize upd Y40 p34 (.tup [v33]) = Y41 at EE41 tfcs tstk tfce qstk qfcs qfce afcs hv hl tv31 tp32 tv33 tp34 ⊢
    refine ⟨_, _, _, tv31, tp34, by simp only [iD, List.length_append, List.length_take, List.length_drop, List.length_map, List.length_cons, List.length_nil]; omega, EE41.tb, fun v35 Y42 xv35 tv35 => ?_⟩
    replace tfcs := xv35.thS tfcs
    replace tstk := xv35.thS tstk
    replace tfce := xv35.thS tfce
    replace qstk := xv35.sqT qstk
    replace qfcs := xv35.sqT qfcs
    replace qfce := xv35.sqT qfce
    replace afcs := xv35.thAllS afcs
    replace hv := xv35.thAllS hv
    replace hl := xv35.lst hl
    replace tv31 := xv35.thS tv31
    replace tp32 := xv35.thS tp32
    replace tv33 := xv35.thS tv33
    replace tp34 := xv35.thS tp34
    replace tv35 := tv35.imp (fs_mono xv35)
    have EE42 := EE41.trans (xv35.epn EE41.pen)
    clear xv35 EE41
    refine ⟨.ref fa, rfl, .int (j : Int), rfl, (j : Int), 1, rfl, rfl, (j : Int) + 1, rfl, _, _, tfcs, EE42.tb, fun v36 Y43 xv36 tv36 => ?_⟩
    replace tfcs := xv36.thS tfcs
    replace tstk := xv36.thS tstk
    replace tfce := xv36.thS tfce
    replace qstk := xv36.sqT qstk
    replace qfcs := xv36.sqT qfcs
    replace qfce := xv36.sqT qfce
    replace afcs := xv36.thAllS afcs
    replace hv := xv36.thAllS hv
    replace hl := xv36.lst hl
    replace tv31 := xv36.thS tv31
    replace tp32 := xv36.thS tp32
    replace tv33 := xv36.thS tv33
    replace tp34 := xv36.thS tp34
    replace tv35 := xv36.thS tv35
    replace tv36 := tv36.imp (fs_mono xv36)
    have EE43 := EE42.trans (xv36.epn EE42.pen)
    clear xv36 EE42
    rw [show cutD (fss.map tD) (some ((j : Int) + 1)) none = (fss.map tD).drop (j + 1) from cutD_from (m := j + 1) hjm1] at tv36
    refine ⟨_, _, _, tv35, tv36, by simp only [iD, List.length_append, List.length_take, List.length_drop, List.length_map, List.length_cons, List.length_nil]; omega, EE43.tb, fun v37 Y44 xv37 tv37 => ?_⟩
    replace tfcs := xv37.thS tfcs
    replace tstk := xv37.thS tstk
    replace tfce := xv37.thS tfce
    replace qstk := xv37.sqT qstk
    replace qfcs := xv37.sqT qfcs
    replace qfce := xv37.sqT qfce
    replace afcs := xv37.thAllS afcs
    replace hv := xv37.thAllS hv
    replace hl := xv37.lst hl
    replace tv31 := xv37.thS tv31
    replace tp32 := xv37.thS tp32
    replace tv33 := xv37.thS tv33
    replace tp34 := xv37.thS tp34
    replace tv35 := xv37.thS tv35
    replace tv36 := xv37.thS tv36
    replace tv37 := tv37.imp (fs_mono xv37)
    have EE44 := EE43.trans (xv37.epn EE43.pen)
    clear xv37 EE43
    refine ⟨(by show 3 ≤ sizeLine; decide), fun p38 np38 => ?_⟩
    have xp38 := Ext.new (o := .tup [.int n, .int kk, v37]) EE44.tb np38
    have zp38 : H p38 = none := EE44.free np38
    have tp38 : ThF K (upd Y44 p38 (.tup [.int n, .int kk, v37])) (FS (fun b => b ≠ l6) H (upd Y44 p38 (.tup [.int n, .int kk, v37]))) (.ref p38) (.tuple [.int n, .int kk, .tuple ((((fss.map tD).take j) ++ [.tuple ([.int n] ++ (iD fc))]) ++ ((fss.map tD).drop (j + 1)))]) := th_newS EE44.tb np38 (.cons (.int n) (.cons (.int kk) (.cons tv37 .nil)))
    replace tfcs := xp38.thS tfcs
    replace tstk := xp38.thS tstk
    replace tfce := xp38.thS tfce
    replace qstk := xp38.sqT qstk
    replace qfcs := xp38.sqT qfcs
    replace qfce := xp38.sqT qfce
    replace afcs := xp38.thAllS afcs
    replace hv := xp38.thAllS hv
    replace hl := xp38.lst hl
    replace tv31 := xp38.thS tv31
    replace tp32 := xp38.thS tp32
    replace tv33 := xp38.thS tv33
    replace tp34 := xp38.thS tp34
    replace tv35 := xp38.thS tv35
    replace tv36 := xp38.thS tv36
    replace tv37 := xp38.thS tv37
    have EE45 := EE44.trans (xp38.epn EE44.pen)
    clear xp38 np38 EE44
    generalize upd Y44 p38 (.tup [.int n, .int kk, v37]) = Y45 at EE45 tfcs tstk tfce qstk qfcs qfce afcs hv hl tv31 tp32 tv33 tp34 tv35 tv36 tv37 tp38 ⊢
    replace hv : ThAllF K Y45 (FS (fun b => b ≠ l6) H Y45) [.non, .str "4 2: 01", .ref p1, .int 7, .ref p2, .ref p3, .ref p5, .ref p7, v10, .ref p11, .ref p12, .ref p14, .ref p16, .ref p17, .ref p18, .ref p22, .ref p30, .ref p38] [.none, .str "4 2: 01", .dict [], .int 7, .list [.int n, .int kk, .tuple (fss.map tD)], .tuple [.int n, .int kk], .tuple [.int n, .int kk, .list (fss.map tD)], .tuple [.int n, .int kk, .tuple []], .tuple ([.int n, .int kk, .tuple (fss.map tD)] ++ [.int 0]), .tuple [.int 0, .int kk, .tuple (fss.map tD)], .tuple [.int 9, .int kk, .tuple (fss.map tD)], .tuple [.bool true, .int kk, .tuple (fss.map tD)], .tuple [.int n, .none, .tuple (fss.map tD)], .tuple [.int n, .int (-1), .tuple (fss.map tD)], .tuple [.int n, .int (kk + 1), .tuple (fss.map tD)], .tuple [.int n, .int kk, .tuple ((fss.map tD) ++ [.tuple (iD fc)])], .tuple [.int n, .int kk, .tuple ((((fss.map tD).take j) ++ [.list (iD fc)]) ++ ((fss.map tD).drop (j + 1)))], .tuple [.int n, .int kk, .tuple ((((fss.map tD).take j) ++ [.tuple ([.int n] ++ (iD fc))]) ++ ((fss.map tD).drop (j + 1)))]] := thAll_app hv (.cons tp38 .nil)
    clear tv31 tp32 tv33 tp34 tv35 tv36 tv37 tp38
    refine ⟨l6, _, _, rfl, rfl, hl, small1000 (by show 17 ≤ 1000; decide), ?_⟩
    have EE46 : Epn Ps a H (upd Y45 l6 (.lst ([.non, .str "4 2: 01", .ref p1, .int 7, .ref p2, .ref p3, .ref p5, .ref p7, v10, .ref p11, .ref p12, .ref p14, .ref p16, .ref p17, .ref p18, .ref p22, .ref p30] ++ [.ref p38]))) := EE45.write zl6 hl (fun q z => by cases z)
    replace tfcs := th_put (l' := [.non, .str "4 2: 01", .ref p1, .int 7, .ref p2, .ref p3, .ref p5, .ref p7, v10, .ref p11, .ref p12, .ref p14, .ref p16, .ref p17, .ref p18, .ref p22, .ref p30] ++ [.ref p38]) hl tfcs
    replace tstk := th_put (l' := [.non, .str "4 2: 01", .ref p1, .int 7, .ref p2, .ref p3, .ref p5, .ref p7, v10, .ref p11, .ref p12, .ref p14, .ref p16, .ref p17, .ref p18, .ref p22, .ref p30] ++ [.ref p38]) hl tstk
    replace tfce := th_put (l' := [.non, .str "4 2: 01", .ref p1, .int 7, .ref p2, .ref p3, .ref p5, .ref p7, v10, .ref p11, .ref p12, .ref p14, .ref p16, .ref p17, .ref p18, .ref p22, .ref p30] ++ [.ref p38]) hl tfce
    replace qstk : SqT K (upd Y45 l6 (.lst ([.non, .str "4 2: 01", .ref p1, .int 7, .ref p2, .ref p3, .ref p5, .ref p7, v10, .ref p11, .ref p12, .ref p14, .ref p16, .ref p17, .ref p18, .ref p22, .ref p30] ++ [.ref p38]))) _ _ := sqT_put hl qstk
    replace qfcs : SqT K (upd Y45 l6 (.lst ([.non, .str "4 2: 01", .ref p1, .int 7, .ref p2, .ref p3, .ref p5, .ref p7, v10, .ref p11, .ref p12, .ref p14, .ref p16, .ref p17, .ref p18, .ref p22, .ref p30] ++ [.ref p38]))) _ _ := sqT_put hl qfcs
    replace qfce : SqT K (upd Y45 l6 (.lst ([.non, .str "4 2: 01", .ref p1, .int 7, .ref p2, .ref p3, .ref p5, .ref p7, v10, .ref p11, .ref p12, .ref p14, .ref p16, .ref p17, .ref p18, .ref p22, .ref p30] ++ [.ref p38]))) _ _ := sqT_put hl qfce
    replace afcs := thAll_put (l' := [.non, .str "4 2: 01", .ref p1, .int 7, .ref p2, .ref p3, .ref p5, .ref p7, v10, .ref p11, .ref p12, .ref p14, .ref p16, .ref p17, .ref p18, .ref p22, .ref p30] ++ [.ref p38]) hl afcs
    replace hv := thAll_put (l' := [.non, .str "4 2: 01", .ref p1, .int 7, .ref p2, .ref p3, .ref p5, .ref p7, v10, .ref p11, .ref p12, .ref p14, .ref p16, .ref p17, .ref p18, .ref p22, .ref p30] ++ [.ref p38]) hl hv
    have hl2 : (upd Y45 l6 (.lst ([.non, .str "4 2: 01", .ref p1, .int 7, .ref p2, .ref p3, .ref p5, .ref p7, v10, .ref p11, .ref p12, .ref p14, .ref p16, .ref p17, .ref p18, .ref p22, .ref p30] ++ [.ref p38]))) l6 = some (.lst [.non, .str "4 2: 01", .ref p1, .int 7, .ref p2, .ref p3, .ref p5, .ref p7, v10, .ref p11, .ref p12, .ref p14, .ref p16, .ref p17, .ref p18, .ref p22, .ref p30, .ref p38]) := upd_same
    clear hl EE45
    generalize upd Y45 l6 (.lst ([.non, .str "4 2: 01", .ref p1, .int 7, .ref p2, .ref p3, .ref p5, .ref p7, v10, .ref p11, .ref p12, .ref p14, .ref p16, .ref p17, .ref p18, .ref p22, .ref p30] ++ [.ref p38])) = Y46 at EE46 hl2 tfcs tstk tfce qstk qfcs qfce afcs hv ⊢
    have hl := hl2
    clear hl2
    show R [some (.ref a), some (.ref b), some (.int wy), some (.int n), some (.int kk), some (.ref fa), some (.int (j : Int)), some (.ref ft), some (.ref l6)] Y46
    rw [hR]
    clear hR
    have hlv := thAll_len hv
    obtain ⟨i, rfl⟩ := Int.eq_ofNat_of_zero_le w0
    have hi : i < 18 := by omega
    have hiv : i < [.non, .str "4 2: 01", .ref p1, .int 7, .ref p2, .ref p3, .ref p5, .ref p7, v10, .ref p11, .ref p12, .ref p14, .ref p16, .ref p17, .ref p18, .ref p22, .ref p30, .ref p38].length := hi
    obtain ⟨d, hd, hT⟩ := thAll_get hv (List.getElem?_eq_getElem hiv)
    obtain ⟨b1, b2⟩ := badDs_ok S hfc d (List.mem_of_getElem? hd)
    exact ⟨.ref l6, rfl, .int (i : Int), rfl, l6, _, (i : Int), _, rfl, rfl, .inl (.inl hl), atI_nat (List.getElem?_eq_getElem hiv), q _ d _ EE46 (hT.imp fun b hb => ⟨hb.1, hb.2.1⟩) b2 b1⟩
end
end Lf

set_option maxHeartbeats 4000000
namespace Lf
open PySem PySem.Spec PyProof.Rows L2 GxR GxA SrT
open SX
abbrev sShown : Stmt := topS 31
abbrev sRead : Stmt := topS 33
theorem scShown : FnScope ["stack", "n", "k", "faces", "face"] ["stack"] (defScope sShown) := ⟨rfl, rfl, rfl, by decide +kernel, rfl, by decide +kernel, by decide +kernel⟩
theorem scRead : FnScope ["text", "words", "head", "stack", "word"] ["text"] (defScope sRead) := ⟨rfl, rfl, rfl, by decide +kernel, rfl, by decide +kernel, by decide +kernel⟩
theorem StkOk.sd {n kk : Int} {F : List (List Int)} (S_ : StkOk n kk F) : Sd n kk F := ⟨S_.n1, S_.n8, S_.k0, S_.k4, S_.l1, S_.l70, S_.bel, S_.len⟩
theorem txt_cut {n kk : Int} {F : List (List Int)} (l1 : 1 ≤ F.length) : txtL n kk F = ([48 + n.toNat, 32, 48 + kk.toNat, 58, 32] : List Nat) ++ TL.joinL [32] (F.map wrtL) := by
  cases F with
  | nil => cases l1
  | cons f F => rfl
theorem str_num {i : Int} (h0 : 0 ≤ i) (h9 : i ≤ 9) : ((toString i : String) : Str) = S [48 + i.toNat] := by
  obtain ⟨n, rfl⟩ := Int.eq_ofNat_of_zero_le h0
  rw [num_S, TL.numL_lt (by omega)]
  rfl
theorem wrt_len (f : List Int) : (wrtL f).length ≤ f.length + 1 := by
  unfold wrtL
  by_cases e : f = []
  · rw [if_pos e]
    simp
  · rw [if_neg e, List.length_map]
    omega
theorem sum_wrt : ∀ {F : List (List Int)}, (∀ f ∈ F, f.length ≤ 4) → (((F.map wrtL).map S).map (·.length)).sum ≤ 5 * F.length
  | [], _ => Nat.zero_le _
  | f :: F, h => by
    have := sum_wrt (F := F) fun g hg => h g (List.mem_cons_of_mem _ hg)
    have h2 := wrt_len f
    have h3 := h f List.mem_cons_self
    simp only [List.map_cons, List.sum_cons, List.length_cons]
    rw [S_len]
    omega
theorem joinL_len (sep : List Nat) : ∀ ws : List (List Nat), (TL.joinL sep ws).length ≤ (ws.map (·.length)).sum + ws.length * sep.length
  | [] => Nat.zero_le _
  | [w] => by
    show w.length ≤ _
    simp
  | w :: v :: r => by
    have := joinL_len sep (v :: r)
    rw [joinL_cons]
    simp only [List.length_append, List.map_cons, List.sum_cons, List.length_cons] at this ⊢
    rw [Nat.succ_mul]
    omega
section
variable {P : Program} {w : World} {K : PySem.W.Frag} {mg : Str → Option Value} {base : Heap} {Ps : Tbs} {H H' H0 : Hp} {k : Nat} {f c : Addr} {fd : FuncData} {CS CT : Addr}
def spShown (K : PySem.W.Frag) (Ps : Tbs) (CS : Addr) : Sp := fun vs H Q E => ∃ (x : V), vs = [x] ∧ (BadS K Ps CS x H E ∨ ∃ (n kk : Int) (F : List (List Int)), Stk K H x n kk F ∧ StkOk n kk F ∧ Tb Ps H ∧ ∀ H', Ext Ps H H' → Q (.str (S (txtL n kk F))) H')
theorem ok_shown {fS cS fW cW : Addr} {fdS fdW : FuncData} (D : Def K mg "shown" sShown ["stack"] f fd c) (DS : Def K mg "need_stack" sNeedStack ["stack"] fS fdS cS) (GS : FnOk P w K mg base (L2.CX P w) (k) fS fdS ["stack"] (spNeedStack2 K Ps CS)) (DW : Def K mg "written" sWritten ["points"] fW fdW cW) (GW : FnOk P w K mg base (L2.CX P w) (k) fW fdW ["points"] (spWritten K Ps)) : FnOk P w K mg base (L2.CX P w) (k + 1) f fd ["stack"] (spShown K Ps CS) := by
  refine D.okX (k := k) scShown (fun vs H Q E h => ?_) (fun A outer s H vs Q E hr tk h => ?_)
  · obtain ⟨x, rfl, _⟩ := h
    rfl
  · obtain ⟨x, rfl, h⟩ := h
    refine ⟨_, (pss_cons (ps_expr (pclX DS GS hr tk (pa_cons (pv 0) pa_nil))) (pss_cons (ps_asg (pv 0) (pg_tup (by rfl) (pgs_cons (pg_name (i := 1) scShown.nd rfl (Or.inl rfl)) (pgs_cons (pg_name (i := 2) scShown.nd rfl (Or.inl rfl)) (pgs_cons (pg_name (i := 3) scShown.nd rfl (Or.inl rfl)) pgs_nil))))) (pss_one (ps_ret (pe_op op_add_str (pe_joined (PJ.cons (pe_fmt (pv 1)) (PJ.cons pe_str (PJ.cons (pe_fmt (pv 2)) (PJ.cons pe_str PJ.nil))))) (pe_bm PySem.F.plainAttrs_str PySem.F.slot_str_join PySem.F.type_str_join mt_join pe_str (pa_cons (pe_lc (own := [("face", 4)]) (g := gName 4) (by rfl) scShown.nd (pi_tup (pv 3)) (blkOk_by (N := ["stack", "n", "k", "faces", "face"]) (sc := defScope sShown) (by decide +kernel)) (fun _ _ _ _ _ => pg_name (i := 4) scShown.nd rfl (Or.inl rfl)) (fun _ _ _ _ _ => pts_nil) (fun _ _ _ _ _ => (pclN DW GW hr (pa_cons (pv 4) pa_nil)))) pa_nil))))))), ?_⟩
    refine tseq_intro fun R hR => ?_
    rcases h with ⟨d, b1, b2, b3, b4, q⟩ | ⟨n, kk, F, hS, So, ht, q⟩
    · exact ⟨x, rfl, .inr ⟨x, d, rfl, b1, b2, b3, b4, q⟩⟩
    refine ⟨x, rfl, .inl ⟨x, n, kk, F, rfl, hS, So, ht, fun H1 e1 => ?_⟩⟩
    obtain ⟨sa, fa, xs, rfl, h1, h2, h3⟩ := id (e1.stk hS)
    show R [some (.ref sa), none, none, none, none] H1
    rw [hR]
    clear hR
    have n1 := So.n1
    have n8 := So.n8
    have k0 := So.k0
    have k4 := So.k4
    have l70 := So.l70
    refine tseq_intro fun R hR => ?_
    refine ⟨.ref sa, rfl, sa, _, rfl, h1, rfl, _, _, rfl, _, _, rfl, _, _, rfl, rfl, ?_⟩
    show R [some (.ref sa), some (.int n), some (.int kk), some (.ref fa), none] H1
    rw [hR]
    clear hR
    have len0 : (Str.empty : Str) = S [] := rfl
    have lit1 : ((": " : Str)) = S [58, 32] := by decide +kernel
    have nl : n.natAbs.log2 < 1920 := by
      have : n.natAbs.log2 ≤ n.natAbs := Nat.log2_le_self _
      omega
    have kl : kk.natAbs.log2 < 1920 := by
      have : kk.natAbs.log2 ≤ kk.natAbs := Nat.log2_le_self _
      omega
    refine ⟨.int n, rfl, .inr ⟨n, rfl, nl, _, rfl, ?_, _, rfl, ?_, .int kk, rfl, .inr ⟨kk, rfl, kl, _, rfl, ?_, _, rfl, ?_, ?_⟩⟩⟩
    all_goals rw [str_num (by omega) (by omega)]
    all_goals try rw [len0]
    · rw [S_cat, S_len]
      show 1 ≤ sizeLine
      decide
    · rw [one_S, S_cat, S_cat, S_len]
      show 2 ≤ sizeLine
      decide
    · rw [str_num (by omega) (by omega), one_S, S_cat, S_cat, S_cat, S_len]
      show 3 ≤ sizeLine
      decide
    · rw [str_num (by omega) (by omega), one_S, lit1, S_cat, S_cat, S_cat, S_cat, S_len]
      show 5 ≤ sizeLine
      decide
    rw [str_num (by omega) (by omega), one_S, lit1, S_cat, S_cat, S_cat, S_cat]
    refine ⟨rfl, .ref fa, rfl, fa, rfl, ⟨_, h2⟩, fun D0 hD => lc_tup (K := K) (a := fa) (xs := xs) (fun i HY => CP Ps FSt H1 D0 ((F.take i).map wrtL) i HY) (CP.start e1.tb hD) (fun i HY _ p => p.ext.sqT h2) (fun i u HY hu p => ?_) (fun HY p => ?_)⟩
    · obtain ⟨g, hg, hI⟩ := paired_get h3 hu
      have hi : i < xs.length := (List.getElem?_eq_some_iff.mp hu).1
      have hxl := Paired.length h3
      have hgm := List.mem_of_getElem? hg
      refine ⟨rfl, yes_ (iteT ⟨u, rfl, u, g, rfl, p.ext.tupI hI, fun z hz => ?_, by have := So.len4 g hgm; omega, p.ext.tb, fun H5 e5 => ?_⟩)⟩
      · have := So.bel g hgm z hz
        omega
      have r := CP.put (stbSt (K := K)) hD (by omega) (p.skip (stbSt (K := K)) e5) (show FSt H5 (.str (S (wrtL g))) (wrtL g) from rfl)
      rw [List.take_add_one, hg, List.map_append]
      exact r
    have hxl := Paired.length h3
    rw [hxl, List.take_length] at p
    obtain ⟨zs, g1, g2, g3⟩ := p.at_
    rw [paired_sts g2] at g1
    have sw := sum_wrt So.len4
    have jl := joinL_len [32] (F.map wrtL)
    rw [List.length_map, show ((F.map wrtL).map (·.length)).sum = (((F.map wrtL).map S).map (·.length)).sum by rw [lens], show ([32] : List Nat).length = 1 from rfl, Nat.mul_one] at jl
    refine ⟨" ", D0, _, rfl, rfl, .inl (.inl (.inl g1)), ?_, ?_⟩
    · rw [List.length_map, List.length_map, show ((" " : Str)).length = 1 by decide +kernel]
      omega
    rw [one_S, join_S]
    refine ⟨_, _, rfl, rfl, ?_, ?_⟩
    · rw [S_len, S_len]
      refine Nat.le_trans (Nat.add_le_add_right (show _ ≤ 5 from Nat.le_refl 5) _) (Nat.le_of_lt (small1000 ?_))
      omega
    · rw [S_cat]
      have z := q _ (e1.trans p.ext)
      rw [txt_cut So.l1] at z
      exact z
theorem free_stk {t : List Nat} {n kk : Int} {F : List (List Int)} (h : freeD t = stkD n kk F) : ((wdsL t).take 2).map hdC = [n, kk] ∧ ((wdsL t).drop 2).map pinL = F := by
  unfold freeD stkD at h
  injection h with h
  have hl := congrArg List.length h
  simp at hl
  have key : ∀ (hs : List Int) (G : List PyData), hs.length = 2 → hs.map PyData.int ++ [.tuple G] = [.int n, .int kk, .tuple (F.map tD)] → hs = [n, kk] ∧ G = F.map tD := by
    intro hs G hl h
    match hs, hl with
    | [a, b], _ =>
      injection h with h1 h
      injection h with h2 h
      injection h with h3 _
      injection h1 with h1
      injection h2 with h2
      injection h3 with h3
      exact ⟨by rw [h1, h2], h3⟩
  have e0 : ((wdsL t).take 2).map (fun w => PyData.int (hdC w)) = (((wdsL t).take 2).map hdC).map PyData.int := by
    rw [List.map_map]
    rfl
  rw [e0] at h
  obtain ⟨a, b⟩ := key _ _ (by rw [List.length_map, List.length_take]; omega) h
  refine ⟨a, ?_⟩
  unfold facesT at b
  have b' : (((wdsL t).drop 2).map pinL).map tD = F.map tD := by
    rw [List.map_map]
    exact b
  exact (List.map_inj_right (fun a b h => tD_inj h)).mp b'
def OkT (t : List Nat) (n kk : Int) (F : List (List Int)) : Prop := StkOk n kk F ∧ freeD t = stkD n kk F ∧ txtL n kk F = t
def spRead (K : PySem.W.Frag) (Ps : Tbs) (CT : Addr) : Sp := fun vs H Q E => ∃ (x : V), vs = [x] ∧ ((∃ d, Th K H x d ∧ tyN d ≠ "str" ∧ Tb Ps H ∧ ∀ H', Ext Ps H H' → E (.ref CT) none H') ∨ ∃ t : List Nat, x = .str (S t) ∧ t.length ≤ 400 ∧ Tb Ps H ∧ (∀ n kk F, OkT t n kk F → ∀ v H', Ext Ps H H' → Stk K H' v n kk F → Q v H') ∧ ((¬ ∃ n kk F, OkT t n kk F) → ∀ H', Ext Ps H H' → E (.ref CT) none H'))
theorem spl_sum (s : Nat) : ∀ (l acc : List Nat), ((TL.spl [s] 0 acc l).map List.length).sum ≤ acc.length + l.length ∧ (TL.spl [s] 0 acc l).length ≤ l.length + 1
  | [], acc => by
    rw [TL.spl_nil]
    simp
  | c :: r, acc => by
    by_cases h : TL.pre [s] (c :: r) = true
    · rw [TL.spl_hit h]
      have := spl_sum s r []
      have e : TL.spl [s] ([s].length - 1) [] r = TL.spl [s] 0 [] r := rfl
      rw [e]
      simp only [List.map_cons, List.sum_cons, List.length_cons, List.length_nil] at this ⊢
      omega
    · rw [TL.spl_miss (by simpa using h)]
      have := spl_sum s r (acc ++ [c])
      simp only [List.length_append, List.length_cons, List.length_nil] at this ⊢
      omega
theorem sum_mem : ∀ {ls : List (List Nat)} {w : List Nat}, w ∈ ls → w.length ≤ (ls.map List.length).sum
  | l :: ls, w, h => by
    rcases List.mem_cons.mp h with rfl | h
    · simp
    · have := sum_mem h
      simp
      omega
theorem wds_len (t : List Nat) : (wdsL t).length ≤ t.length + 1 ∧ ∀ w ∈ wdsL t, w.length ≤ t.length := by
  have h := spl_sum 32 t []
  refine ⟨h.2, fun w hw => ?_⟩
  have := sum_mem hw
  unfold wdsL at this
  simp at h this
  omega
theorem pin_len (w : List Nat) : (pinL w).length ≤ w.length := by
  unfold pinL
  by_cases e : w = [45]
  · rw [if_pos e]
    exact Nat.zero_le _
  · rw [if_neg e, List.length_map]
    exact Nat.le_refl _
theorem free_wide {t : List Nat} (h : t.length ≤ 400) : wide (freeD t) = true := by
  obtain ⟨w1, w2⟩ := wds_len t
  refine wide_t ?_ fun d hd => ?_
  · simp
    omega
  rcases List.mem_append.mp hd with z | z
  · obtain ⟨w, _, rfl⟩ := List.mem_map.mp z
    rfl
  · rw [List.mem_singleton.mp z]
    refine wide_t ?_ fun d hd => ?_
    · unfold facesT
      rw [List.length_map, List.length_drop]
      omega
    · obtain ⟨w, hw, rfl⟩ := List.mem_map.mp hd
      have := pin_len w
      have := w2 w (List.mem_of_mem_drop hw)
      exact wide_tD (by omega)
theorem cut_to9 (xs : List V) (m : Nat) : cutV xs none (some (m : Int)) = xs.take m := by
  unfold cutV
  rw [HT.sIx_nat, HT.sIx_none, List.drop_zero, Nat.sub_zero]
  by_cases h : m ≤ xs.length
  · rw [Nat.min_eq_left h]
  · rw [Nat.min_eq_right (by omega), List.take_length, List.take_of_length_le (by omega)]
theorem cut_from9 (xs : List V) (m : Nat) : cutV xs (some (m : Int)) none = xs.drop m := by
  unfold cutV
  rw [HT.sIx_nat, HT.sIx_none]
  by_cases h : m ≤ xs.length
  · rw [Nat.min_eq_left h, List.take_of_length_le (by rw [List.length_drop]; omega)]
  · rw [Nat.min_eq_right (by omega), List.drop_eq_nil_of_le (as := xs) (by omega), List.drop_eq_nil_of_le (as := xs) (by omega), List.take_nil]
theorem cut_toS (ws : List (List Nat)) (m : Nat) : cutV ((ws.map S).map V.str) none (some (m : Int)) = (((ws.take m).map S).map V.str) := by
  rw [cut_to9, ← List.map_take, ← List.map_take]
theorem cut_fromS (ws : List (List Nat)) (m : Nat) : cutV ((ws.map S).map V.str) (some (m : Int)) none = (((ws.drop m).map S).map V.str) := by
  rw [cut_from9, ← List.map_drop, ← List.map_drop]
theorem map_st {ws : List (List Nat)} {i : Nat} {u : V} (h : ((ws.map S).map V.str)[i]? = some u) : ∃ w, ws[i]? = some w ∧ u = .str (S w) := by
  rw [List.getElem?_map, List.getElem?_map] at h
  cases e : ws[i]? with
  | none => rw [e] at h; cases h
  | some w =>
    rw [e] at h
    cases h
    exact ⟨w, rfl, rfl⟩
theorem find_hd (w : List Nat) : Txt.find figS (S (w.take 1)) = hdC w := by
  cases w with
  | nil => decide +kernel
  | cons c w => exact find_S
theorem ok_read {fI cI fH cH fP cP : Addr} {fdI fdH fdP : FuncData} {tF : Tok} (D : Def K mg "read" sRead ["text"] f fd c) (DI : Def K mg "is_stack" sIsStack ["thing"] fI fdI cI) (GI : FnOk P w K mg base (L2.CX P w) (k) fI fdI ["thing"] (spIsStackX K Ps)) (DH : Def K mg "shown" sShown ["stack"] fH fdH cH) (GH : FnOk P w K mg base (L2.CX P w) (k) fH fdH ["stack"] (spShown K Ps CS)) (DP : Def K mg "points_in" sPointsIn ["word"] fP fdP cP) (GP : FnOk P w K mg base (L2.CX P w) (k) fP fdP ["word"] (spPointsIn K Ps)) (RT : Ref K mg "NoText" CT) (mF : mg "FIGURES" = some (.str figS tF)) (mi : mg "isinstance" = none) (mst : mg "str" = none) (mt : mg "tuple" = none) : FnOk P w K mg base (L2.CX P w) (k + 1) f fd ["text"] (spRead K Ps CT) := by
  refine D.okX (k := k) scRead (fun vs H Q E h => ?_) (fun A outer s H vs Q E hr tk h => ?_)
  · obtain ⟨x, rfl, _⟩ := h
    rfl
  · obtain ⟨x, rfl, h⟩ := h
    refine ⟨_, (pss_cons (ps_if (pt_not (pt_val (pe_callB call_isi (by rfl) mi (by decide +kernel) (pa_cons (pv 0) (pa_cons (pe_bltn (v := .ty "str") (by rfl) mst (by decide +kernel) rfl) pa_nil))))) (pss_one (ps_refuse RT tk)) pss_nil) (pss_cons (ps_set (i := 1) scRead.nd rfl (.inl rfl) (pe_bm PySem.F.plainAttrs_str PySem.F.slot_str_split PySem.F.type_str_split mt_split (pv 0) (pa_cons pe_str pa_nil))) (pss_cons (ps_setLc (i := 2) (own := [("word", 4)]) (g := gName 4) (by rfl) scRead.nd rfl rfl (by rfl) (pi_list (pe_slice sl_list (pv 1) po_none (po_some pe_int))) (blkOk_by (N := ["text", "words", "head", "stack", "word"]) (sc := defScope sRead) (by decide +kernel)) (fun _ _ _ _ _ => pg_name (i := 4) scRead.nd rfl (Or.inl rfl)) (fun _ _ _ _ _ => pts_nil) (fun _ _ _ _ _ => (show PE _ _ (tBM K "str" rFindS _ _) from (pe_bm PySem.F.plainAttrs_str PySem.F.slot_str_find PySem.F.type_str_find mt_find (pe_glob (v := .str figS) (by rfl) mF ⟨_, rfl⟩) (pa_cons (pe_slice (show SlR _ C8.rSlX from C8.sl_txt) (pv 4) po_none (po_some pe_int)) pa_nil))))) (pss_cons (ps_set (i := 3) scRead.nd rfl (.inl rfl) (pe_tup (StX.pa_star (pv 2) (pa_cons (pe_callTy call_tuple_of (by rfl) mt (by decide +kernel) (pa_cons (pe_lc (own := [("word", 4)]) (g := gName 4) (by rfl) scRead.nd (pi_list (pe_slice sl_list (pv 1) (po_some pe_int) po_none)) (blkOk_by (N := ["text", "words", "head", "stack", "word"]) (sc := defScope sRead) (by decide +kernel)) (fun _ _ _ _ _ => pg_name (i := 4) scRead.nd rfl (Or.inl rfl)) (fun _ _ _ _ _ => pts_nil) (fun _ _ _ _ _ => (pclN DP GP hr (pa_cons (pv 4) pa_nil)))) pa_nil)) pa_nil)))) (pss_cons (ps_if (PW.pt (pw_or (pt_not (pt_val (pclN DI GI hr (pa_cons (pv 3) pa_nil)))) (pw_or1 (pt_cmpR op_ne (pclX DH GH hr tk (pa_cons (pv 3) pa_nil)) (pv 0) (nomark _))))) (pss_one (ps_refuse RT tk)) pss_nil) (pss_one (ps_ret (pv 3)))))))), ?_⟩
    refine tseq_intro fun R hR => ?_
    rcases h with ⟨d, hd, hne, hTB, q⟩ | ⟨t, rfl, t4, ht, qy, qn⟩
    · have hk : kitB (tyN d) "str" = some false := by
        have e : ∀ s : String, s = "NoneType" ∨ s = "bool" ∨ s = "int" ∨ s = "list" ∨ s = "tuple" ∨ s = "dict" → kitB s "str" = some false := fun s hs => by rcases hs with rfl | rfl | rfl | rfl | rfl | rfl <;> decide +kernel
        refine e _ ?_
        cases d with
        | str z => exact absurd rfl hne
        | none => exact .inl rfl
        | bool b => exact .inr (.inl rfl)
        | int i => exact .inr (.inr (.inl rfl))
        | list l => exact .inr (.inr (.inr (.inl rfl)))
        | tuple l => exact .inr (.inr (.inr (.inr (.inl rfl))))
        | dict l => exact .inr (.inr (.inr (.inr (.inr rfl))))
      have ht : Ext Ps H H := ⟨hTB, fun _ _ e _ => e, fun _ o e => ⟨o, e⟩⟩
      exact ⟨x, rfl, x, .ty "str", .type (tyN d), .type "str", false, rfl, .ty _, th_ty hd, kit_ty hk, false, rfl, iteT (q _ ht)⟩
    refine ⟨.str (S t), rfl, .str (S t), .ty "str", .type "str", .type "str", true, rfl, .ty _, .base (.str _), kit_ty (by decide +kernel), true, rfl, iteF ?_⟩
    show R [some (.str (S t)), none, none, none, none] H
    rw [hR]
    clear hR
    obtain ⟨w1, w2⟩ := wds_len t
    -- the words
    refine tseq_intro fun R hR => ?_
    refine ⟨.str (S t), rfl, rfl, S t, " ", rfl, rfl, by decide +kernel, ?_, fun lw nlw => ?_⟩
    · rw [S_len]
      exact Nat.le_of_lt (small1000 (by omega))
    rw [one_S, split_S (by simp) (by decide)]
    have x1 := Ext.new (o := .lst (((TL.spl [32] 0 [] t).map S).map V.str)) ht nlw
    have hlw : upd H lw (.lst (((TL.spl [32] 0 [] t).map S).map V.str)) lw = some (.lst (((wdsL t).map S).map V.str)) := upd_same
    generalize upd H lw (.lst (((TL.spl [32] 0 [] t).map S).map V.str)) = H1 at *
    show R [some (.str (S t)), some (.ref lw), none, none, none] H1
    rw [hR]
    clear hR
    -- the head
    refine tseq_intro fun R hR => ?_
    have ec : cutV (((wdsL t).map S).map V.str) none (some 2) = ((((wdsL t).take 2).map S).map V.str) := cut_toS _ 2
    refine ⟨.ref lw, rfl, 2, rfl, lw, _, rfl, .inl (.inl hlw), fun l2 nl2 => ?_⟩
    rw [ec]
    have x2 := Ext.new (o := .lst ((((wdsL t).take 2).map S).map V.str)) x1.tb nl2
    have hl2 : upd H1 l2 (.lst ((((wdsL t).take 2).map S).map V.str)) l2 = some (.lst ((((wdsL t).take 2).map S).map V.str)) := upd_same
    have hlw2 := x2.lst hlw
    generalize upd H1 l2 (.lst ((((wdsL t).take 2).map S).map V.str)) = H2 at *
    refine ⟨l2, rfl, ⟨_, .inl (.inl hl2)⟩, fun D0 hD => lc_list (K := K) (a := l2) (xs := ((((wdsL t).take 2).map S).map V.str)) (fun i HY => CP Ps FI H2 D0 ((((wdsL t).take 2).take i).map hdC) i HY) (CP.start x2.tb hD) (fun i HY _ p => p.ext.sqL (.inl (.inl hl2))) (fun i u HY hu p => ?_) (fun HY p => ?_)⟩
    · obtain ⟨w, hw, rfl⟩ := map_st hu
      have hi : i < ((wdsL t).take 2).length := (List.getElem?_eq_some_iff.mp hw).1
      have hi2 : i < 2 := by
        rw [List.length_take] at hi
        omega
      have hwl := w2 w (List.mem_of_mem_take (List.mem_of_getElem? hw))
      refine ⟨rfl, yes_ (iteT ⟨rfl, .str (S w), rfl, 1, rfl, S w, rfl, ?_, figS, _, rfl, rfl, ?_⟩)⟩
      · rw [S_len]
        exact Nat.le_of_lt (small1000 (by omega))
      rw [slice_to (by decide : (0 : Int) ≤ 1), show (1 : Int).toNat = 1 from rfl, find_hd]
      have r := CP.put (stbI (K := K)) hD (by omega) p (show FI HY (.int (hdC w)) (hdC w) from rfl)
      rw [List.take_add_one (l := (wdsL t).take 2), hw, List.map_append]
      exact r
    rw [List.length_map, List.length_map, List.take_length] at p
    obtain ⟨zs, g1, g2, g3⟩ := p.at_
    rw [paired_ints g2] at g1
    have e3 := p.ext
    have hlw3 := e3.lst hlw2
    have X3 := x1.trans (x2.trans e3)
    clear p g2 g3 zs
    show R [some (.str (S t)), some (.ref lw), some (.ref D0), none, none] HY
    rw [hR]
    clear hR
    -- the stack
    refine tseq_intro fun R hR => ?_
    refine ⟨.ref D0, rfl, D0, _, rfl, .inr (.inl (.inl g1)), .ref lw, rfl, 2, rfl, lw, _, rfl, .inl (.inl hlw3), fun l4 nl4 => ?_⟩
    have ec4 : cutV (((wdsL t).map S).map V.str) (some 2) none = ((((wdsL t).drop 2).map S).map V.str) := cut_fromS _ 2
    rw [ec4]
    have x4 := Ext.new (o := .lst ((((wdsL t).drop 2).map S).map V.str)) e3.tb nl4
    have hl4 : upd HY l4 (.lst ((((wdsL t).drop 2).map S).map V.str)) l4 = some (.lst ((((wdsL t).drop 2).map S).map V.str)) := upd_same
    have X4 := X3.trans x4
    generalize upd HY l4 (.lst ((((wdsL t).drop 2).map S).map V.str)) = H4 at *
    refine ⟨l4, rfl, ⟨_, .inl (.inl hl4)⟩, fun D1 hD1 => lc_list (K := K) (a := l4) (xs := ((((wdsL t).drop 2).map S).map V.str)) (fun i HZ => CP Ps (TupI K) H4 D1 ((((wdsL t).drop 2).take i).map pinL) i HZ) (CP.start x4.tb hD1) (fun i HZ _ p => p.ext.sqL (.inl (.inl hl4))) (fun i u HZ hu p => ?_) (fun HZ p => ?_)⟩
    · obtain ⟨w, hw, rfl⟩ := map_st hu
      have hi : i < ((wdsL t).drop 2).length := (List.getElem?_eq_some_iff.mp hw).1
      have hi2 : i < 1000 := by
        rw [List.length_drop] at hi
        omega
      have hwl := w2 w (List.mem_of_mem_drop (List.mem_of_getElem? hw))
      refine ⟨rfl, yes_ (iteT ⟨.str (S w), rfl, w, rfl, by omega, p.ext.tb, fun v H6 e6 hv => ?_⟩)⟩
      have r := CP.put (stbT (K := K)) hD1 (by omega) (p.skip (stbT (K := K)) e6) hv
      rw [List.take_add_one (l := (wdsL t).drop 2), hw, List.map_append]
      exact r
    rw [List.length_map, List.length_map, List.take_length] at p
    obtain ⟨ys, y1, y2, y3⟩ := p.at_
    have e5 := p.ext
    clear p y3
    have yl := Paired.length y2
    rw [List.length_map, List.length_drop] at yl
    refine ⟨D1, _, rfl, .inl ⟨.inl (.inl y1), fun fa nfa => ?_⟩⟩
    have x6 := Ext.new (o := .tup ys) e5.tb nfa
    have hfa : SqT K (upd HZ fa (.tup ys)) fa ys := .inl (.inl upd_same)
    have y26 := x6.tups y2
    generalize upd HZ fa (.tup ys) = H6 at *
    have hsz : (((((wdsL t).take 2).map hdC).map V.int) ++ [V.ref fa]).length ≤ sizeLine := by
      refine Nat.le_of_lt (small1000 ?_)
      simp
      omega
    refine ⟨hsz, fun ts nts => ?_⟩
    have x7 := Ext.new (o := .tup (((((wdsL t).take 2).map hdC).map V.int) ++ [V.ref fa])) x6.tb nts
    have hts : SqT K (upd H6 ts (.tup (((((wdsL t).take 2).map hdC).map V.int) ++ [V.ref fa]))) ts (((((wdsL t).take 2).map hdC).map V.int) ++ [V.ref fa]) := .inl (.inl upd_same)
    have hfa7 := x7.sqT hfa
    have y27 := x7.tups y26
    have X7 := X4.trans (e5.trans (x6.trans x7))
    generalize upd H6 ts (.tup (((((wdsL t).take 2).map hdC).map V.int) ++ [V.ref fa])) = H7 at *
    have hTh : Th K H7 (.ref ts) (freeD t) := by
      have h2 := th_ints (K := K) (H := H7) (F := fun _ => True) (((wdsL t).take 2).map hdC)
      have h3 : ThF K H7 (fun _ => True) (.ref fa) (.tuple (facesT ((wdsL t).drop 2))) := .tup hfa7 (by
        have := th_tups (F := fun _ => True) y27
        rw [List.map_map] at this
        exact this)
      have h4 := thAll_app h2 (.cons h3 .nil)
      have e0 : iD (((wdsL t).take 2).map hdC) = ((wdsL t).take 2).map (fun w => PyData.int (hdC w)) := by
        unfold iD
        rw [List.map_map]
        rfl
      rw [e0] at h4
      exact .tup hts h4
    show R [some (.str (S t)), some (.ref lw), some (.ref D0), some (.ref ts), none] H7
    rw [hR]
    clear hR
    have hw := free_wide t4
    -- the looks
    refine tseq_intro fun R hR => ?_
    refine ⟨.ref ts, rfl, .ref ts, freeD t, rfl, hTh, hw, x7.tb, fun H8 e8 => ⟨isStackD (freeD t), rfl, ?_⟩⟩
    cases hs : isStackD (freeD t) with
    | false => exact iteT (qn (fun ⟨n, kk, F, So, ef, _⟩ => by
        have := isStackD_iff.mpr ⟨n, kk, F, ef, So⟩
        rw [hs] at this
        cases this) _ (X7.trans e8))
    | true =>
      obtain ⟨n, kk, F, ef, So⟩ := isStackD_iff.mp hs
      obtain ⟨fh, ff⟩ := free_stk ef
      have hStk : Stk K H7 (.ref ts) n kk F := ⟨ts, fa, ys, rfl, by rw [fh] at hts; exact hts, hfa7, by rw [ff] at y27; exact y27⟩
      refine iteF ⟨.ref ts, rfl, .ref ts, rfl, .inr ⟨n, kk, F, e8.stk hStk, So, e8.tb, fun H9 e9 => ?_⟩⟩
      have X9 := X7.trans (e8.trans e9)
      refine ⟨.str (S t), rfl, rfl, !decide (txtL n kk F = t), ?_, ?_⟩
      · congr 2
        exact decide_eq_decide.mpr ⟨fun z => by injection z with z; exact S_inj z, fun z => by rw [z]⟩
      by_cases et : txtL n kk F = t
      · rw [decide_eq_true et]
        refine iteF ?_
        show R [some (.str (S t)), some (.ref lw), some (.ref D0), some (.ref ts), none] H9
        rw [hR]
        clear hR
        exact ⟨.ref ts, rfl, qy n kk F ⟨So, ef, et⟩ _ _ X9 ((e8.trans e9).stk hStk)⟩
      · rw [decide_eq_false et]
        refine iteT (qn (fun ⟨n2, k2, F2, So2, ef2, et2⟩ => ?_) _ X9)
        rw [ef] at ef2
        obtain ⟨rfl, rfl, rfl⟩ := stackT_inj (show stackT n kk F = stackT n2 k2 F2 from ef2)
        exact et et2
end
end Lf

set_option maxHeartbeats 1000000
namespace Lf
/-! what may be laid, told in two ways -/
def comL (fc g : List Int) : List Int := fc.filter fun p => decide (p ∈ g)
def mayL (kk : Int) (fss : List (List Int)) (fc : List Int) : Bool :=
  ((fss.map (comL fc)).all fun own => ((fss.map (comL fc)).filter fun o => decide ((o.length : Int) = kk - 1)).any fun one => hasAll one own) && !decide (fc ∈ fss)
theorem hasAll_all {face pts : List Int} : hasAll face pts = true ↔ ∀ p ∈ pts, p ∈ face := by
  unfold hasAll
  rw [List.all_eq_true]
  simp only [decide_eq_true_eq]
theorem inSome_ex {pts : List Int} {fss : List (List Int)} : inSome pts fss = true ↔ ∃ g ∈ fss, ∀ p ∈ pts, p ∈ g := by
  unfold inSome
  rw [List.any_eq_true]
  simp only [hasAll_all]
theorem mem_less1 {fc : List Int} {p q : Int} : q ∈ lessL fc [p] ↔ q ∈ fc ∧ q ≠ p := by
  unfold lessL
  rw [List.mem_filter]
  simp
theorem mem_brOn {laid : List (List Int)} {fc : List Int} {p : Int} : p ∈ brOn laid fc ↔ p ∈ fc ∧ ∃ g ∈ laid, ∀ q ∈ fc, q ≠ p → q ∈ g := by
  unfold brOn
  rw [List.mem_filter, inSome_ex]
  simp only [mem_less1, and_imp]
theorem lies_iff {laid : List (List Int)} {fc : List Int} : liesOn laid fc = true ↔ ∀ g ∈ laid, ∃ p ∈ brOn laid fc, p ∉ g := by
  unfold liesOn
  rw [Bool.not_eq_true', ← Bool.not_eq_true, inSome_ex]
  constructor
  · intro h g hg
    apply Classical.byContradiction
    intro z
    exact h ⟨g, hg, fun p hp => Classical.byContradiction fun n => z ⟨p, hp, n⟩⟩
  · rintro h ⟨g, hg, z⟩
    obtain ⟨p, hp, n⟩ := h g hg
    exact n (z p hp)
theorem mem_comL {fc g : List Int} {p : Int} : p ∈ comL fc g ↔ p ∈ fc ∧ p ∈ g := by
  unfold comL
  rw [List.mem_filter, decide_eq_true_eq]
theorem may_iff {kk : Int} {fss : List (List Int)} {fc : List Int} : mayL kk fss fc = true ↔ (∀ g ∈ fss, ∃ h ∈ fss, ((comL fc h).length : Int) = kk - 1 ∧ ∀ p ∈ fc, p ∈ g → p ∈ h) ∧ fc ∉ fss := by
  unfold mayL
  rw [Bool.and_eq_true, List.all_eq_true]
  refine and_congr ?_ (by simp)
  constructor
  · intro z g hg
    have z1 := z _ (List.mem_map.mpr ⟨g, hg, rfl⟩)
    rw [List.any_eq_true] at z1
    obtain ⟨o, ho, hh⟩ := z1
    obtain ⟨ho1, ho2⟩ := List.mem_filter.mp ho
    obtain ⟨h, hh1, rfl⟩ := List.mem_map.mp ho1
    exact ⟨h, hh1, of_decide_eq_true ho2, fun p hp hg => (mem_comL.mp (hasAll_all.mp hh p (mem_comL.mpr ⟨hp, hg⟩))).2⟩
  · intro z o ho
    obtain ⟨g, hg, rfl⟩ := List.mem_map.mp ho
    obtain ⟨h, h1, h2, h3⟩ := z g hg
    rw [List.any_eq_true]
    exact ⟨comL fc h, List.mem_filter.mpr ⟨List.mem_map.mpr ⟨h, h1, rfl⟩, decide_eq_true h2⟩, hasAll_all.mpr fun p hp => mem_comL.mpr ⟨(mem_comL.mp hp).1, h3 p (mem_comL.mp hp).1 (mem_comL.mp hp).2⟩⟩
theorem len_filter_add (l : List Int) (q : Int → Bool) : (l.filter q).length + (l.filter fun x => !q x).length = l.length := by
  induction l with
  | nil => rfl
  | cons x l ih =>
    by_cases h : q x = true
    · simp only [List.filter_cons, h, if_true, Bool.not_true, Bool.false_eq_true, if_false, List.length_cons]
      omega
    · have h' : q x = false := by simpa using h
      simp only [List.filter_cons, h', if_false, Bool.not_false, Bool.false_eq_true, if_true, List.length_cons]
      omega
theorem ris_eq {f g : List Int} (hf : f.Pairwise (· < ·)) (hg : g.Pairwise (· < ·)) (hl : f.length = g.length) (h : ∀ p ∈ f, p ∈ g) : f = g := by
  have nf : f.Nodup := hf.imp (fun {a b} h => by omega)
  have ng : g.Nodup := hg.imp (fun {a b} h => by omega)
  have back : ∀ p ∈ g, p ∈ f := fun p hp => Classical.byContradiction fun n => by
    have z := List.Nodup.length_le_of_subset (l₁ := p :: f) (l₂ := g) (List.nodup_cons.mpr ⟨n, nf⟩) fun q hq => (List.mem_cons.mp hq).elim (fun e => e ▸ hp) (h q)
    rw [List.length_cons] at z
    omega
  have pm : f.Perm g := (List.perm_ext_iff_of_nodup nf ng).mpr fun p => ⟨h p, back p⟩
  exact List.Perm.eq_of_pairwise (fun a b _ _ h1 h2 => by omega) hf hg pm
/-- the law's way and the program's way -/
theorem may_lies {kk : Int} {fss : List (List Int)} {fc : List Int} (hl : ∀ g ∈ fss, (g.length : Int) = kk) (hs : ∀ g ∈ fss, g.Pairwise (· < ·)) (fl : (fc.length : Int) = kk) (fs : fc.Pairwise (· < ·)) : mayL kk fss fc = liesOn fss fc := by
  have nf : fc.Nodup := fs.imp (fun {a b} h => by omega)
  rw [Bool.eq_iff_iff, may_iff, lies_iff]
  have one : ∀ h : List Int, ((comL fc h).length : Int) = kk - 1 → ∃ p ∈ fc, p ∉ h ∧ ∀ q ∈ fc, q ≠ p → q ∈ h := by
    intro h e
    have e2 := len_filter_add fc fun p => decide (p ∈ h)
    have e3 : (fc.filter fun p => !decide (p ∈ h)).length = 1 := by
      have : (comL fc h).length = (fc.filter fun p => decide (p ∈ h)).length := rfl
      omega
    obtain ⟨p, hp⟩ := List.length_eq_one_iff.mp e3
    have mp : ∀ q, q ∈ fc ∧ q ∉ h ↔ q = p := fun q => by
      have : q ∈ fc.filter (fun p => !decide (p ∈ h)) ↔ q ∈ [p] := by rw [hp]
      rw [List.mem_filter, List.mem_singleton] at this
      simpa using this
    have m0 := (mp p).mpr rfl
    exact ⟨p, m0.1, m0.2, fun q hq hn => Classical.byContradiction fun z => hn ((mp q).mp ⟨hq, z⟩)⟩
  constructor
  · rintro ⟨z, n⟩ g hg
    obtain ⟨h, h1, h2, h3⟩ := z g hg
    obtain ⟨p, p1, p2, p3⟩ := one h h2
    exact ⟨p, mem_brOn.mpr ⟨p1, h, h1, p3⟩, fun pg => p2 (h3 p p1 pg)⟩
  · intro z
    have n : fc ∉ fss := fun hm => by
      obtain ⟨p, hp, hn⟩ := z fc hm
      exact hn (mem_brOn.mp hp).1
    refine ⟨fun g hg => ?_, n⟩
    obtain ⟨p, hp, hn⟩ := z g hg
    obtain ⟨p1, h, h1, h2⟩ := mem_brOn.mp hp
    have ph : p ∉ h := fun ph => by
      have e : fc = h := ris_eq fs (hs h h1) (by have := hl h h1; omega) fun q hq => by
        by_cases e : q = p
        · rw [e]
          exact ph
        · exact h2 q hq e
      exact n (e ▸ h1)
    refine ⟨h, h1, ?_, fun q hq hg => h2 q hq fun e => hn (e ▸ hg)⟩
    have e2 := len_filter_add fc fun p => decide (p ∈ h)
    have e3 : (fc.filter fun q => !decide (q ∈ h)) = fc.filter fun q => decide (q = p) := List.filter_congr fun q hq => by
      by_cases e : q = p
      · rw [e, decide_eq_false ph, decide_eq_true rfl]
        rfl
      · rw [decide_eq_true (h2 q hq e), decide_eq_false e]
        rfl
    have e4 : (fc.filter fun q => decide (q = p)).length = 1 := by
      rw [← List.countP_eq_length_filter]
      have this := nf.count (a := p)
      rw [if_pos p1, List.count] at this
      rw [← this]
      refine List.countP_congr fun q _ => ?_
      simp
    have : (comL fc h).length = (fc.filter fun p => decide (p ∈ h)).length := rfl
    rw [e3, e4] at e2
    omega
end Lf

set_option maxHeartbeats 2000000
namespace Lf
open PySem PySem.Spec PyProof.Rows L2 GxR GxA SrT
theorem filter_step {α : Type} {l : List α} {q : α → Bool} {i : Nat} {y : α} (h : l[i]? = some y) : (l.take (i + 1)).filter q = (l.take i).filter q ++ (if q y = true then [y] else []) := by
  rw [List.take_add_one, h, List.filter_append]
  show _ ++ List.filter q [y] = _
  by_cases e : q y = true
  · rw [if_pos e, List.filter_cons_of_pos e, List.filter_nil]
  · rw [if_neg e, List.filter_cons_of_neg e, List.filter_nil]
theorem comL_len (fc g : List Int) : (comL fc g).length ≤ fc.length := List.length_filter_le _ _
theorem eqv_tD (f g : List Int) : PyData.eqv (tD f) (tD g) = decide (f = g) := by
  show PyData.eqv (.tuple (iD f)) (.tuple (iD g)) = _
  rw [PyData.eqv, eqv_ints]
section
variable {P : Program} {w : World} {K : PySem.W.Frag} {mg : Str → Option Value} {base : Heap} {Ps : Tbs} {H H' H0 : Hp} {k : Nat} {f c : Addr} {fd : FuncData}
/-! ### _law_common, told -/
def spCommonE (K : PySem.W.Frag) (Ps : Tbs) : Sp := fun vs H Q _ => ∃ (x y : V) (pts fc : List Int), vs = [x, y] ∧ TupI K H x pts ∧ TupI K H y fc ∧ pts.length ≤ 100 ∧ Tb Ps H ∧ ∀ (l : Addr) (H' : Hp), Ext Ps H H' → H l = none → H' l = some (.lst ((comL pts fc).map V.int)) → Q (.ref l) H'
/-! ### _law_may, told -/
def spMayE (K : PySem.W.Frag) (Ps : Tbs) : Sp := fun vs H Q _ => ∃ (kk : Int) (y z : V) (fss : List (List Int)) (fc : List Int), vs = [.int kk, y, z] ∧ LstT K H y fss ∧ TupI K H z fc ∧ fss.length ≤ 100 ∧ fc.length ≤ 100 ∧ Tb Ps H ∧ ∀ (H' : Hp), Ext Ps H H' → Q (.bl (mayL kk fss fc)) H'
end
end Lf

set_option maxHeartbeats 2000000
namespace Lf
open PySem PySem.Spec PyProof.Rows L2 GxR GxA SrT
abbrev sWhole : Stmt := topS 38
theorem scWhole : FnScope ["_law_found"] ["_law_found"] (defScope sWhole) := ⟨rfl, rfl, rfl, by decide +kernel, rfl, by decide +kernel, by decide +kernel⟩
def isIntD : PyData → Bool
  | .int _ => true
  | _ => false
theorem ints_of_all : ∀ {ds : List PyData}, ds.all isIntD = true → ∃ ns : List Int, ds = iD ns
  | [], _ => ⟨[], rfl⟩
  | d :: ds, h => by
    rw [List.all_cons, Bool.and_eq_true] at h
    obtain ⟨ns, e⟩ := ints_of_all h.2
    cases d with
    | int i => exact ⟨i :: ns, by rw [e]; rfl⟩
    | _ => cases h.1
section
variable {P : Program} {w : World} {K : PySem.W.Frag} {mg : Str → Option Value} {base : Heap} {Ps : Tbs} {H H' H0 : Hp} {k : Nat} {f c : Addr} {fd : FuncData}
/-! ### _law_whole -/
def spWhole (K : PySem.W.Frag) : Sp := fun vs H Q _ => ∃ (x : V) (d : PyData), vs = [x] ∧ Th K H x d ∧ Q (.bl (isIntD d)) H
theorem ok_whole (D : Def K mg "_law_whole" sWhole ["_law_found"] f fd c) (mi : mg "isinstance" = none) (mn : mg "int" = none) (mb : mg "bool" = none) : FnOk P w K mg base CX0 (k + 1) f fd ["_law_found"] (spWhole K) := by
  refine D.ok scWhole (fun vs H Q E h => ?_) (fun A outer s H vs Q E hr h => ?_)
  · obtain ⟨x, d, rfl, _⟩ := h
    rfl
  · obtain ⟨x, d, rfl, hx, q⟩ := h
    refine ⟨_, pss_one (ps_ret (pe_and (pe_callB call_isi (by rfl) mi (by decide +kernel) (pa_cons (pv 0) (pa_cons (pe_bltn (v := .ty "int") (by rfl) mn (by decide +kernel) rfl) pa_nil)))
      (pe_one (pe_not (pe_callB call_isi (by rfl) mi (by decide +kernel) (pa_cons (pv 0) (pa_cons (pe_bltn (v := .ty "bool") (by rfl) mb (by decide +kernel) rfl) pa_nil))))))), ?_⟩
    have ty := th_ty hx
    cases d with
    | int i =>
      refine ⟨x, rfl, x, .ty "int", .type "int", .type "int", true, rfl, .ty _, ty, kit_ty (by decide +kernel), true, rfl, iteT ?_⟩
      exact ⟨x, rfl, x, .ty "bool", .type "int", .type "bool", false, rfl, .ty _, ty, kit_ty (by decide +kernel), false, rfl, q⟩
    | bool b =>
      refine ⟨x, rfl, x, .ty "int", .type "bool", .type "int", true, rfl, .ty _, ty, kit_ty (by decide +kernel), true, rfl, iteT ?_⟩
      exact ⟨x, rfl, x, .ty "bool", .type "bool", .type "bool", true, rfl, .ty _, ty, kit_ty (by decide +kernel), true, rfl, q⟩
    | none => exact ⟨x, rfl, x, .ty "int", .type "NoneType", .type "int", false, rfl, .ty _, ty, kit_ty (by decide +kernel), false, rfl, iteF q⟩
    | str z => exact ⟨x, rfl, x, .ty "int", .type "str", .type "int", false, rfl, .ty _, ty, kit_ty (by decide +kernel), false, rfl, iteF q⟩
    | list ds => exact ⟨x, rfl, x, .ty "int", .type "list", .type "int", false, rfl, .ty _, ty, kit_ty (by decide +kernel), false, rfl, iteF q⟩
    | tuple ds => exact ⟨x, rfl, x, .ty "int", .type "tuple", .type "int", false, rfl, .ty _, ty, kit_ty (by decide +kernel), false, rfl, iteF q⟩
    | dict kv => exact ⟨x, rfl, x, .ty "int", .type "dict", .type "int", false, rfl, .ty _, ty, kit_ty (by decide +kernel), false, rfl, iteF q⟩
/-! ### _law_is_row -/
end
end Lf

set_option maxHeartbeats 1000000
/-! set(t), t a tuple of ints; how many it has. -/
namespace ZsT
open PySem PySem.Spec PyProof.Rows L2
section
variable {X : Cx}
def rSetTI (K : PySem.W.Frag) (w : World) : List V → Hp → VK → Prop := fun vs H Q => ∃ (l : Addr) (ns : List Int), vs = [V.ref l] ∧ SqT K H l (ns.map V.int) ∧ ns.length ≤ 1000 ∧ ∀ a c, H a = none → Q (.ref a) (upd H a (SetO w a (fun j => decide (j ∈ ns)) c))
theorem cr_setTI (hc : X.calm = true) : CallR X (.type "set") (rSetTI X.K X.w) := by
  intro pins s σ H vs us Q I r h
  obtain ⟨l, ns, rfl, hq, hl, q⟩ := h
  rw [Vals.ref1 r]
  obtain ⟨its, rv, pt, hz⟩ := I.tuple hq
  refine call_set_tupI ns (I.ok.hd hc) (show s.heap.IsTuple l its.toArray from pt) (ints_of_vals rv) (by unfold scanBound; omega) fun h' tk c R hcn k => ?_
  exact ⟨.ref s.heap.objs.size, _, I.laid (t' := tk) k (Nat.le_refl _) (setO_new R), rfl, q _ c (I.hok.fresh (Nat.le_refl _))⟩
def rLenSet (w : World) : List V → Hp → VK → Prop := fun vs H Q => ∃ (a : Addr) (S : Int → Bool) (c : Nat), vs = [V.ref a] ∧ H a = some (SetO w a S c) ∧ ∀ out : List Int, out.Nodup → (∀ k, k ∈ out ↔ S k = true) → out.length = c → Q (.int (c : Nat)) H
theorem cr_lenSet : CallR X (.builtin "len") (rLenSet X.w) := by
  intro pins s σ H vs us Q I r h
  obtain ⟨a, S, c, rfl, ha, q⟩ := h
  rw [Vals.ref1 r]
  obtain ⟨o, es, ep, t, ho, hex, hdt, g, nd, hm, hb, hf, hn, hr, hl⟩ := (show SetR X.w s.heap a S c from (I.hok a _ ha).1)
  refine call_len_set ho hex hdt hf ?_ ?_
  · have : es.size < scanBound := hb
    unfold scanBound at this
    omega
  · exact ⟨.int (c : Nat), H, I.tok _, ⟨_, by rw [hn]⟩, q (es.toList.map keyOf) nd (fun k => (hm k).symm) (by rw [List.length_map, Array.length_toList, hn])⟩
end
end ZsT

set_option maxHeartbeats 2000000
namespace Lf
open PySem PySem.Spec PyProof.Rows L2 GxR GxA SrT
abbrev sRisingL : Stmt := topS 44
theorem scRisingL : FnScope ["_law_many", "_law_thing", "_law_one"] ["_law_many", "_law_thing"] (defScope sRisingL) := ⟨rfl, rfl, rfl, by decide +kernel, rfl, by decide +kernel, by decide +kernel⟩
theorem pw_ext : ∀ {a b : List Int}, a.Pairwise (· < ·) → b.Pairwise (· < ·) → (∀ x, x ∈ a ↔ x ∈ b) → a = b
  | [], [], _, _, _ => rfl
  | [], y :: b, _, _, h => absurd ((h y).mpr (by simp)) (by simp)
  | x :: a, [], _, _, h => absurd ((h x).mp (by simp)) (by simp)
  | x :: a, y :: b, ha, hb, h => by
    rw [List.pairwise_cons] at ha hb
    have e : x = y := by
      have h1 := (h x).mp (by simp)
      have h2 := (h y).mpr (by simp)
      rcases List.mem_cons.mp h1 with e | m1
      · exact e
      · rcases List.mem_cons.mp h2 with e | m2
        · exact e.symm
        · have := hb.1 x m1
          have := ha.1 y m2
          omega
    subst e
    rw [pw_ext ha.2 hb.2 fun z => ?_]
    constructor
    · intro m
      have := ha.1 z m
      rcases List.mem_cons.mp ((h z).mp (List.mem_cons_of_mem _ m)) with e | m2
      · omega
      · exact m2
    · intro m
      have := hb.1 z m
      rcases List.mem_cons.mp ((h z).mpr (List.mem_cons_of_mem _ m)) with e | m2
      · omega
      · exact m2
section
variable {X : Cx}
def rSetTI2 (K : PySem.W.Frag) (w : World) : List V → Hp → VK → Prop := fun vs H Q => ∃ (l : Addr) (ns : List Int), vs = [V.ref l] ∧ SqT K H l (ns.map V.int) ∧ ns.length ≤ 1000 ∧ ∀ a c, (∃ out : List Int, out.Nodup ∧ (∀ k, k ∈ out ↔ k ∈ ns) ∧ out.length = c) → H a = none → Q (.ref a) (upd H a (SetO w a (fun j => decide (j ∈ ns)) c))
theorem cr_setTI2 (hc : X.calm = true) : CallR X (.type "set") (rSetTI2 X.K X.w) := by
  intro pins s σ H vs us Q I r h
  obtain ⟨l, ns, rfl, hq, hl, q⟩ := h
  rw [Vals.ref1 r]
  obtain ⟨its, rv, pt, hz⟩ := I.tuple hq
  refine call_set_tupI ns (I.ok.hd hc) (show s.heap.IsTuple l its.toArray from pt) (ints_of_vals rv) (by unfold scanBound; omega) fun h' tk c R hcn k => ?_
  refine ⟨.ref s.heap.objs.size, _, I.laid (t' := tk) k (Nat.le_refl _) (setO_new R), rfl, q _ c ?_ (I.hok.fresh (Nat.le_refl _))⟩
  obtain ⟨o, es, ep, t, ho, hex, hdt, g, nd, hm, hb, hf, hn, hr, hl⟩ := R
  exact ⟨es.toList.map keyOf, nd, fun k => by rw [← hm k, decide_eq_true_eq], by rw [List.length_map, Array.length_toList, hn]⟩
end
section
variable {P : Program} {w : World} {K : PySem.W.Frag} {mg : Str → Option Value} {base : Heap} {Ps : Tbs} {H H' H0 : Hp} {k : Nat} {f c : Addr} {fd : FuncData}
/-! ### is_part of anything -/
def PartD (d : PyData) (n : Int) (fss : List (List Int)) : Prop := ∃ z, d = tD z ∧ RisB n.toNat z ∧ inSome z fss = true
def spIsPartX (K : PySem.W.Frag) (Ps : Tbs) : Sp := fun vs H Q _ => ∃ (x y : V) (n kk : Int) (fss : List (List Int)) (d : PyData), vs = [x, y] ∧ AskX K Ps H x y n kk fss d ∧ ∀ b H', (b = true ↔ PartD d n fss) → Ext Ps H H' → Q (.bl b) H'
theorem risB_of {n : Int} {z : List Int} (h1 : ∀ i ∈ z, 0 ≤ i ∧ i < n) (h2 : z.Pairwise (· < ·)) : RisB n.toNat z := ⟨h2, fun i hi => by have := h1 i hi; omega⟩
/-! ### _law_rising -/
def spRisingL (K : PySem.W.Frag) (Ps : Tbs) : Sp := fun vs H Q _ => ∃ (n : Int) (y : V) (d : PyData), vs = [.int n, y] ∧ n ≤ 60 ∧ Th K H y d ∧ wide d = true ∧ Tb Ps H ∧ (lenD d ≤ 900) ∧ ∀ H', Ext Ps H H' → Q (.bl (risD d n)) H'
theorem ris_no {d e : PyData} {ds : List PyData} {n : Int} (he : e ∈ ds) (h : intIn e 0 (n - 1) = false) : risD (.tuple ds) n = false := by
  cases hb : risD (.tuple ds) n with
  | false => rfl
  | true =>
    obtain ⟨z, ez, hz1, hz2⟩ := risD_iff.mp hb
    injection ez with ez
    rw [ez] at he
    obtain ⟨i, hi, rfl⟩ := List.mem_map.mp he
    have := hz1 i hi
    rw [show intIn (.int i) 0 (n - 1) = (decide (0 ≤ i) && decide (i ≤ n - 1)) from rfl, decide_eq_true this.1, decide_eq_true (by omega)] at h
    cases h
theorem ok_risingL {fW cW : Addr} {fdW : FuncData} (D : Def K mg "_law_rising" sRisingL ["_law_many", "_law_thing"] f fd c) (DW : Def K mg "_law_whole" sWhole ["_law_found"] fW fdW cW) (GW : FnOk P w K mg base CX0 k fW fdW ["_law_found"] (spWhole K))
    (mi : mg "isinstance" = none) (mt : mg "tuple" = none) (ms : mg "sorted" = none) (mL : mg "list" = none) (mst : mg "set" = none) : FnOk P w K mg base CX0 (k + 1) f fd ["_law_many", "_law_thing"] (spRisingL K Ps) := by
  refine D.ok (k := k) scRisingL (fun vs H Q E h => ?_) (fun A outer s H vs Q E hr h => ?_)
  · obtain ⟨n, y, d, rfl, _⟩ := h
    rfl
  · obtain ⟨n, y, d, rfl, n8, hy, wd, ht, l60, q⟩ := h
    refine ⟨_, pss_cons (ps_if (pt_not (pt_val (pe_callB call_isi (by rfl) mi (by decide +kernel) (pa_cons (pv 1) (pa_cons (pe_bltn (v := .ty "tuple") (by rfl) mt (by decide +kernel) rfl) pa_nil))))) (pss_one (ps_ret pe_bl)) pss_nil)
      (pss_cons (ps_for PassesOwn.never rfl (pi_tup (pv 1)) (pg_name (i := 2) scRisingL.nd rfl (.inl rfl))
        (pss_one (ps_if (PW.pt (pw_or (pt_not (pt_val (pcl DW GW hr (pa_cons (pv 2) pa_nil)))) (pw_or1 (pt_not (pt_chain op_le op_lt pe_int (pv 2) (pv 0)))))) (pss_one (ps_ret pe_bl)) pss_nil)))
      (pss_one (ps_ret (pe_cmpR (op_eqD hr.units) (pe_callTy call_list_of (by rfl) mL (by decide +kernel) (pa_cons (pv 1) pa_nil)) (pe_callB (cr_sortedSet rfl) (by rfl) ms (by decide +kernel) (pa_cons (pe_callTy (cr_setTI2 rfl) (by rfl) mst (by decide +kernel) (pa_cons (pv 1) pa_nil)) pa_nil)) (nomark _))))), ?_⟩
    obtain ⟨t, ty, hk⟩ := tup_kit hy
    refine ⟨y, rfl, y, .ty "tuple", .type t, .type "tuple", isTup d, rfl, .ty _, ty, kit_ty hk, isTup d, rfl, ?_⟩
    have no : risD d n = false → Q (.bl false) H := fun hn => by
      have := q _ (Ext.refl ht)
      rw [hn] at this
      exact this
    cases d with
    | tuple ds =>
      have hw := wide_tup wd
      cases hth : hy with
      | @tup b ys _ hB ha =>
      have hyl := thAll_len ha
      refine iteF ?_
      refine ⟨.ref b, rfl, b, rfl, ⟨_, hB⟩, for_tup (K := K) (a := b) (xs := ys) (fun i σ H3 => H3 = H ∧ (∀ e ∈ ds.take i, intIn e 0 (n - 1) = true) ∧ ∃ y2 : Option V, σ = [some (.int n), some (.ref b), y2]) ⟨rfl, by rw [List.take_zero]; exact fun e he => absurd he (by simp), _, rfl⟩ (fun i σ H3 _ p => by rw [p.1]; exact hB) (fun i x σ H3 hx p => ?_) (fun σ H3 p => ?_)⟩
      · obtain ⟨rfl, hin, y2, rfl⟩ := p
        obtain ⟨d', hd, hx'⟩ := thAll_get ha hx
        have hdm : d' ∈ ds := List.mem_of_getElem? hd
        refine ⟨x, rfl, x, d', rfl, hx', _, rfl, ?_⟩
        have step : intIn d' 0 (n - 1) = true → ∀ e ∈ ds.take (i + 1), intIn e 0 (n - 1) = true := fun h e he => by
          rw [List.take_add_one, hd] at he
          rcases List.mem_append.mp he with m | m
          · exact hin e m
          · rw [show e = d' from by simpa using m]
            exact h
        cases d' with
        | int z =>
          cases hx'
          have ei : intIn (.int z) 0 (n - 1) = (decide (0 ≤ z) && decide (z ≤ n - 1)) := rfl
          refine iteF ⟨.int z, rfl, 0, z, rfl, rfl, _, rfl, ite2 (fun hc => ?_) (fun hc => ?_)⟩
          · have h0 : 0 ≤ z := of_decide_eq_true hc
            refine ⟨.int n, rfl, z, n, rfl, rfl, _, rfl, ite2 (fun hc2 => ?_) (fun hc2 => ?_)⟩
            · have h1 : ¬ z < n := fun z' => by
                rw [decide_eq_true z'] at hc2
                cases hc2
              exact no (ris_no (d := .none) hdm (by rw [ei, decide_eq_false (show ¬ z ≤ n - 1 by omega), Bool.and_false]))
            · have h1 : z < n := by
                by_cases z' : z < n
                · exact z'
                · exact absurd (by rw [decide_eq_false z']; rfl) hc2
              exact ⟨rfl, step (by rw [ei, decide_eq_true h0, decide_eq_true (by omega)]; rfl), _, rfl⟩
          · have h0 : ¬ 0 ≤ z := fun z' => hc (decide_eq_true z')
            exact ⟨_, rfl, iteT (no (ris_no (d := .none) hdm (by rw [ei, decide_eq_false h0, Bool.false_and])))⟩
        | none => exact iteT (no (ris_no (d := .none) hdm rfl))
        | bool b => exact iteT (no (ris_no (d := .none) hdm rfl))
        | str z => exact iteT (no (ris_no (d := .none) hdm rfl))
        | list z => exact iteT (no (ris_no (d := .none) hdm rfl))
        | tuple z => exact iteT (no (ris_no (d := .none) hdm rfl))
        | dict z => exact iteT (no (ris_no (d := .none) hdm rfl))
      · obtain ⟨rfl, hin, y2, rfl⟩ := p
        rw [hyl, List.take_length] at hin
        obtain ⟨ns, rfl⟩ : ∃ ns : List Int, ds = iD ns := ints_of_all (by
          rw [List.all_eq_true]
          intro e he
          have := hin e he
          cases e with
          | int i => rfl
          | _ => cases this)
        have hb : ∀ i ∈ ns, 0 ≤ i ∧ i < n := fun i hi => by
          have := hin (.int i) (List.mem_map.mpr ⟨i, hi, rfl⟩)
          rw [show intIn (.int i) 0 (n - 1) = (decide (0 ≤ i) && decide (i ≤ n - 1)) from rfl, Bool.and_eq_true, decide_eq_true_eq, decide_eq_true_eq] at this
          omega
        obtain ⟨t2, et, hT⟩ := th_tupI (ns := ns) hy
        cases et
        have hl60 : ns.length ≤ 900 := by
          have z : lenD (tD ns) = ns.length := List.length_map ..
          have := l60
          rw [show PyData.tuple (iD ns) = tD ns from rfl, z] at this
          exact this
        refine ⟨.ref b, rfl, b, _, rfl, .inr hT, fun l nl => ?_⟩
        have e1 := Ext.new (o := .lst (ns.map V.int)) ht nl
        refine ⟨.ref b, rfl, b, ns, rfl, e1.sqT hT, by omega, fun sa c hc nsa => ?_⟩
        have e2 := Ext.new (o := SetO w sa (fun j => decide (j ∈ ns)) c) e1.tb nsa
        have hc60 : c ≤ 60 := by
          obtain ⟨out, o1, o2, rfl⟩ := hc
          have z := nd_le o1 (D := rng n.toNat) fun x hx => by
            have := hb x ((o2 x).mp hx)
            exact in_rng this.1 (by omega)
          rw [rng_len] at z
          omega
        refine ⟨sa, _, c, rfl, upd_same, by omega, fun us p hpw hmem _ np => ?_⟩
        have e3 := Ext.new (o := .lst (us.map V.int)) e2.tb np
        refine ⟨.list (iD ns), .list (iD us), .lst (.inl (.inl ((e2.trans e3).lst upd_same))) (dp_ints ns), .lst (.inl (.inl upd_same)) (dp_ints us), shp_list ns, shp_list us, ?_⟩
        rw [PyData.eqv, eqv_ints]
        have fin := q _ (e1.trans (e2.trans e3))
        have ee : risD (.tuple (iD ns)) n = decide (ns = us) := by
          cases hb2 : risD (.tuple (iD ns)) n with
          | true =>
            obtain ⟨z, ez, _, hz2⟩ := risD_iff.mp hb2
            rw [← tD_inj (show tD ns = tD z from ez)] at hz2
            exact (decide_eq_true (pw_ext hz2 hpw fun x => by rw [hmem]; simp)).symm
          | false =>
            symm
            refine decide_eq_false fun e => ?_
            rw [risD_iff.mpr ⟨ns, rfl, hb, by rw [e]; exact hpw⟩] at hb2
            cases hb2
        rw [← ee]
        exact fin
    | none => exact iteT (no rfl)
    | bool b => exact iteT (no rfl)
    | int i => exact iteT (no rfl)
    | str z => exact iteT (no rfl)
    | list z => exact iteT (no rfl)
    | dict z => exact iteT (no rfl)
end
end Lf

set_option maxHeartbeats 4000000
/-! Tables of up to 512 slots: TupSets once more, for one mask more. -/
namespace Bg
open PySem PySem.Spec PyProof.Rows L2 PySem.W SrT
/-- the masks of tables of at most 512 slots -/
def MaskG (m : Nat) : Prop := m = 7 ∨ m = 31 ∨ m = 127 ∨ m = 511
def orb (m : Nat) : Nat → Nat → List Nat
  | 0, _ => []
  | n + 1, x => x :: orb m n ((x * 5 + 1) % (m + 1))
theorem orb_mem {m j : Nat} : ∀ (n b : Nat), j ∈ orb m n (lcgN m b) → ∃ c, c < n ∧ lcgN m (b + c) = j
  | 0, _, h => nomatch h
  | n + 1, b, h => by
    rcases List.mem_cons.mp h with e | e
    · exact ⟨0, Nat.succ_pos _, e.symm⟩
    · obtain ⟨c, hc, ec⟩ := orb_mem n (b + 1) e
      exact ⟨c + 1, by omega, by rw [← ec]; congr 1; omega⟩
def maskOf (l : List Nat) (a : Nat) : Nat := l.foldl (fun a x => a ||| 2 ^ x) a
theorem maskOf_bit {j : Nat} : ∀ (l : List Nat) (a : Nat), (maskOf l a).testBit j = true → a.testBit j = true ∨ j ∈ l
  | [], _, h => .inl h
  | x :: l, a, h => by
    rcases maskOf_bit l _ h with e | e
    · rw [Nat.testBit_or, Bool.or_eq_true, Nat.testBit_two_pow] at e
      rcases e with e | e
      · exact .inl e
      · exact .inr (by rw [of_decide_eq_true e]; exact List.mem_cons_self)
    · exact .inr (List.mem_cons_of_mem _ e)
theorem orb_all {m : Nat} (h : maskOf (orb m (m + 1) 0) 0 = 2 ^ (m + 1) - 1) {j : Nat} (hj : j ≤ m) : ∃ b, b ≤ m ∧ lcgN m b = j := by
  have hb : (maskOf (orb m (m + 1) 0) 0).testBit j = true := by
    rw [h, Nat.testBit_two_pow_sub_one]
    exact decide_eq_true (by omega)
  rcases maskOf_bit _ _ hb with e | e
  · rw [Nat.zero_testBit] at e
    cases e
  · obtain ⟨c, hc, ec⟩ := orb_mem (m := m) (j := j) (m + 1) 0 e
    rw [Nat.zero_add] at ec
    exact ⟨c, by omega, ec⟩
theorem MaskG.all {m : Nat} (g : MaskG m) {j : Nat} (hj : j ≤ m) : ∃ b, b ≤ m ∧ lcgN m b = j := by
  rcases g with rfl | rfl | rfl | rfl <;> exact orb_all (by decide +kernel) hj
theorem MaskG.round {m : Nat} (g : MaskG m) : lcgN m (m + 1) = 0 := by
  rcases g with rfl | rfl | rfl | rfl <;> decide +kernel
theorem MaskG.odd {m : Nat} (g : MaskG m) : m % 2 = 1 := by
  rcases g with rfl | rfl | rfl | rfl <;> rfl
theorem MaskG.again {m : Nat} (g : MaskG m) : ∀ k, lcgN m (m + 1 + k) = lcgN m k
  | 0 => g.round
  | k + 1 => congrArg (fun x => (x * 5 + 1) % (m + 1)) (g.again k)
/-- whatever slot begins, each comes -/
theorem MaskG.from {m : Nat} (g : MaskG m) {i j : Nat} (hi : i ≤ m) (hj : j ≤ m) : ∃ k, k ≤ m ∧ lcgI m i k = j := by
  obtain ⟨a, ha, rfl⟩ := g.all hi
  obtain ⟨b, hb, rfl⟩ := g.all hj
  by_cases c : a ≤ b
  · exact ⟨b - a, by omega, by rw [lcgN_add]; congr 1; omega⟩
  · refine ⟨m + 1 + b - a, by omega, ?_⟩
    rw [lcgN_add, ← g.again b]
    congr 1
    omega
theorem MaskG.runs {m : Nat} (g : MaskG m) (x : Int) {j : Nat} (hj : j ≤ m) : ∃ n, n ≤ m + 12 ∧ runI m (SetTable.bits x) n = j := by
  obtain ⟨k, hk, rfl⟩ := g.from (runI_le m (SetTable.bits x) 12) hj
  exact ⟨12 + k, by omega, runI_tail (bits_lt x) k⟩
theorem way_in {m : Nat} {x : Int} {k : Nat} : way m x k ≤ m := by
  have le : SetTable.bits x % (m + 1) ≤ m := Nat.le_of_lt_succ (Nat.mod_lt _ (Nat.succ_pos _))
  have bd := runEnd_bd le
  have q := nth_in (m := m) k (runAt m (SetTable.bits x % (m + 1)) (SetTable.bits x)) (show SetTable.bits x % (m + 1) + (SetTable.runEnd m (SetTable.bits x % (m + 1)) - SetTable.bits x % (m + 1)) ≤ m by omega)
  exact Nat.le_trans (Nat.le_add_right _ _) q
theorem MaskG.meets {m : Nat} (g : MaskG m) (x : Int) {j : Nat} (hj : j ≤ m) : ∃ k, k < 10 * SetTable.turns m ∧ way m x k = j := by
  obtain ⟨n, hn, e⟩ := g.runs x hj
  obtain ⟨k, hk, e2⟩ := run_nth m (SetTable.bits x) n
  have tu : SetTable.turns m = m + 15 := rfl
  refine ⟨k, by omega, (congrArg SetTable.Probe.j e2).trans e⟩
/-- a table all of whose slots come again by their hashes -/
structure TabG (u : SetTable) (ks : List Int) : Prop where
  ris : Ris u.place.toList
  dm : u.dummies = #[]
  sz : u.place.size = ks.length
  mok : MaskG u.mask
  bd : ∀ y ∈ u.place.toList, y ≤ u.mask
  reach : ∀ (i : Nat) (x : Int) (j : Nat), ks[i]? = some x → u.place.toList[i]? = some j → ∃ n, way u.mask x n = j ∧ ∀ n', n' < n → way u.mask x n' ∈ u.place.toList
theorem TabG.first {u : SetTable} {ks : List Int} (G : TabG u ks) (le : ks.length ≤ u.mask) (x : Int) : ∃ N, N < 10 * SetTable.turns u.mask ∧ way u.mask x N ∉ u.place.toList ∧ ∀ n, n < N → way u.mask x n ∈ u.place.toList := by
  obtain ⟨j, hj, out⟩ := st_missing u.place.toList (u.mask + 1) (by rw [Array.length_toList, G.sz]; omega)
  obtain ⟨n, hn, rfl⟩ := G.mok.meets x (Nat.le_of_lt_succ hj)
  obtain ⟨N, l1, l2, l3⟩ := st_least (p := fun n => way u.mask x n ∉ u.place.toList) n out
  exact ⟨N, Nat.lt_of_le_of_lt l1 hn, l2, fun n' hn' => Classical.byContradiction fun z => l3 n' hn' z⟩
theorem TabG.before {u : SetTable} {ks : List Int} (G : TabG u ks) {x : Int} {N i j : Nat} (free : way u.mask x N ∉ u.place.toList) (hi : ks[i]? = some x) (hj : u.place.toList[i]? = some j) : ∃ n, n < N ∧ way u.mask x n = j := by
  obtain ⟨n, e, ahead⟩ := G.reach i x j hi hj
  refine ⟨n, Classical.byContradiction fun z => ?_, e⟩
  rcases Nat.lt_or_eq_of_le (Nat.le_of_not_lt z) with c | c
  · exact free (ahead N c)
  · rw [c, e] at free
    exact free (List.mem_of_getElem? hj)
theorem TabG.put {u : SetTable} {ks : List Int} (G : TabG u ks) {x : Int} {N : Nat} (free : way u.mask x N ∉ u.place.toList) (full : ∀ n, n < N → way u.mask x n ∈ u.place.toList) :
    (u.put (way u.mask x N)).2 = SetTable.below u.place (way u.mask x N) ∧ SetTable.below u.place (way u.mask x N) ≤ ks.length ∧
    TabG (u.put (way u.mask x N)).1 (ks.take (SetTable.below u.place (way u.mask x N)) ++ x :: ks.drop (SetTable.below u.place (way u.mask x N))) ∧ (u.put (way u.mask x N)).1.mask = u.mask ∧ (u.put (way u.mask x N)).1.led = u.led ∧ (u.put (way u.mask x N)).1.plain = u.plain ∧
    (u.put (way u.mask x N)).1.moves = u.moves ∧ (u.put (way u.mask x N)).1.finger = u.finger ∧ (u.put (way u.mask x N)).1.fill = ks.length + 1 := by
  have inM : way u.mask x N ≤ u.mask := way_in
  generalize ew : way u.mask x N = j at free inM ⊢
  have cut := (below_cut G.ris j).1
  have lp : u.place.toList.length = ks.length := by rw [Array.length_toList, G.sz]
  generalize eb : SetTable.below u.place j = p at cut ⊢
  have hk : p ≤ ks.length := by rw [← G.sz]; exact cut
  have hp : p ≤ u.place.toList.length := by rw [lp]; exact hk
  have pp : (u.put j).1.place.toList = u.place.toList.take p ++ j :: u.place.toList.drop p := by rw [← eb]; exact put_place u j
  have size : (u.put j).1.place.size = ks.length + 1 := by rw [← Array.length_toList, pp, len_ins _ hp, lp]
  have more : ∀ {y : Nat}, y ∈ u.place.toList → y ∈ (u.put j).1.place.toList := fun hy => pp ▸ mem_ins.2 (.inr hy)
  have notAt : u.place[SetTable.below u.place j]? ≠ some j := fun e => free (List.mem_of_getElem? ((Array.getElem?_toList ..).trans e))
  have fill : (u.put j).1.fill = ks.length + 1 := by
    show (u.put j).1.place.size + (u.put j).1.dummies.size = _
    rw [size, put_dm G.dm j]
    rfl
  refine ⟨eb, hk, ⟨ris_insert G.ris notAt, put_dm G.dm j, size.trans (len_ins _ hk x).symm, G.mok, fun y hy => ?_, fun i x' j' h1 h2 => ?_⟩, rfl, rfl, rfl, rfl, rfl, fill⟩
  · rcases mem_ins.1 (pp ▸ hy) with z | z
    · exact z ▸ inM
    · exact G.bd y z
  · rw [tins_get ks hk] at h1
    rw [pp, tins_get _ hp] at h2
    show ∃ n, way u.mask x' n = j' ∧ ∀ n', n' < n → way u.mask x' n' ∈ (u.put j).1.place.toList
    have old : ∀ {a : Nat}, ks[a]? = some x' → u.place.toList[a]? = some j' → ∃ n, way u.mask x' n = j' ∧ ∀ n', n' < n → way u.mask x' n' ∈ (u.put j).1.place.toList := fun g1 g2 => by
      obtain ⟨n, e, z⟩ := G.reach _ x' j' g1 g2
      exact ⟨n, e, fun n' hn' => more (z n' hn')⟩
    by_cases c : i < p
    · rw [if_pos c] at h1 h2
      exact old h1 h2
    · rw [if_neg c] at h1 h2
      by_cases d : i = p
      · rw [if_pos d] at h1 h2
        cases h1
        cases h2
        exact ⟨N, ew, fun n' hn' => more (full n' hn')⟩
      · rw [if_neg d] at h1 h2
        exact old h1 h2
/-! ### laid anew -/
theorem MaskG.spot {m : Nat} (g : MaskG m) (ow : Array (Option Nat)) (x : Int) {j : Nat} (hj : j ≤ m) (none_ : oAt ow j = none) :
    ∃ N, SetTable.layClean.free m ow (SetTable.turns m) (SetTable.bits x % (m + 1)) (SetTable.bits x) = some (way m x N) ∧ oAt ow (way m x N) = none ∧ ∀ n, n < N → oAt ow (way m x n) ≠ none := by
  obtain ⟨r, hr, rfl⟩ := g.runs x hj
  have tu : SetTable.turns m = m + 15 := rfl
  have at_ : way m x (off m (SetTable.bits x % (m + 1)) (SetTable.bits x) r) = runI m (SetTable.bits x) r := by
    have e := congrArg SetTable.Probe.j (nth_off m r (SetTable.bits x % (m + 1)) (SetTable.bits x))
    rw [itL_run] at e
    exact e
  rw [← at_] at none_
  obtain ⟨N, l1, l2, l3⟩ := st_least (p := fun n => oAt ow (way m x n) = none) _ none_
  refine ⟨N, free_spec m ow _ r _ _ N (by omega) l1 (fun n hn => ?_) (congrArg Option.isNone l2), l2, l3⟩
  have q := l3 n hn
  show (oAt ow (way m x n)).isNone = false
  cases z : oAt ow (way m x n) with
  | none => exact absurd z q
  | some _ => rfl
theorem own_step {m : Nat} (g : MaskG m) {ys : List Int} {ow : Array (Option Nat)} (O : Own m ys ow) (le : ys.length ≤ m) (x : Int) :
    ∃ j, SetTable.layClean.free m ow (SetTable.turns m) (SetTable.bits x % (m + 1)) (SetTable.bits x) = some j ∧ Own m (ys ++ [x]) (ow.setIfInBounds j (some ys.length)) := by
  obtain ⟨ps, lps, inps⟩ := O.ps
  obtain ⟨j0, lt0, out0⟩ := st_missing ps (m + 1) (by omega)
  have j0n : oAt ow j0 = none := Classical.byContradiction fun z => out0 (inps j0 (Nat.le_of_lt_succ lt0) z)
  obtain ⟨N, e1, e2, e3⟩ := g.spot ow x (Nat.le_of_lt_succ lt0) j0n
  have wm : way m x N ≤ m := way_in
  have ws : way m x N < ow.size := by rw [O.sz]; omega
  have here := oAt_set_self (some ys.length) ws
  have keeps : ∀ {i : Nat}, oAt ow i ≠ none → oAt (ow.setIfInBounds (way m x N) (some ys.length)) i ≠ none := fun {i} hi => by
    by_cases c : i = way m x N
    · rw [c, here]; simp
    · rw [oAt_set_ne _ c]; exact hi
  refine ⟨_, e1, by rw [Array.size_setIfInBounds]; exact O.sz, fun j k hj e => ?_, fun k hk => ?_, ⟨way m x N :: ps, by simp [lps], fun j hj e => ?_⟩⟩
  · by_cases c : j = way m x N
    · rw [c, here] at e
      cases e
      exact ⟨x, N, by rw [List.getElem?_append_right (Nat.le_refl _), Nat.sub_self]; rfl, c.symm, fun n hn => keeps (e3 n hn)⟩
    · rw [oAt_set_ne _ c] at e
      obtain ⟨y, M, b1, b2, b3⟩ := O.at_ j k hj e
      exact ⟨y, M, by rw [List.getElem?_append_left (List.getElem?_eq_some_iff.mp b1).1]; exact b1, b2, fun n hn => keeps (b3 n hn)⟩
  · by_cases c : k < ys.length
    · obtain ⟨j, hj, e⟩ := O.all k c
      exact ⟨j, hj, by rw [oAt_set_ne _ fun z => by rw [z, e2] at e; cases e]; exact e⟩
    · obtain rfl : k = ys.length := by rw [List.length_append] at hk; simp at hk; omega
      exact ⟨_, wm, here⟩
  · by_cases c : j = way m x N
    · exact c ▸ List.mem_cons_self
    · rw [oAt_set_ne _ c] at e
      exact List.mem_cons_of_mem _ (inps j hj e)
theorem own_fold {m : Nat} (g : MaskG m) : ∀ (zs ys : List Int) (ow : Array (Option Nat)), Own m ys ow → ys.length + zs.length ≤ m →
    ∃ ow', zs.foldl (stepF m) (some (ow, ys.length)) = some (ow', (ys ++ zs).length) ∧ Own m (ys ++ zs) ow'
  | [], ys, ow, O, _ => ⟨ow, by simp, by simpa using O⟩
  | z :: zs, ys, ow, O, le => by
    obtain ⟨j, e, O'⟩ := own_step g O (by rw [List.length_cons] at le; omega) z
    obtain ⟨ow', f, O2⟩ := own_fold g zs (ys ++ [z]) _ O' (by rw [List.length_cons] at le; rw [List.length_append, List.length_singleton]; omega)
    rw [List.append_assoc, List.length_append (as := ys) (bs := [z])] at f
    rw [List.append_assoc] at O2
    exact ⟨ow', by rw [List.foldl_cons, stepF_some e]; exact f, O2⟩
theorem own_lay {m : Nat} (g : MaskG m) {ks : Array Int} (le : ks.size ≤ m) : ∃ ow, SetTable.layClean m ks = some ow ∧ Own m ks.toList ow := by
  obtain ⟨ow, f, O⟩ := own_fold g ks.toList [] _ (Own.init m) (by rw [Array.length_toList]; show 0 + ks.size ≤ m; omega)
  refine ⟨ow, ?_, O⟩
  rw [layClean_eq]
  exact congrArg (Option.map (·.1)) f
theorem relaidG (u : SetTable) {ks : Array Int} {want M : Nat} (eM : SetTable.sizeAbove want - 1 = M) (g : MaskG M) (le : ks.size ≤ M) :
    ∃ u' ord, u.relaid ks want = some (u', ord) ∧ ord.toList.Perm (List.range ks.size) ∧ TabG u' (ord.toList.map fun i => ks.getD i 0) ∧ u'.mask = M ∧ u'.led = u.led ∧ u'.plain = u.plain ∧ u'.dummies = #[] := by
  obtain ⟨ow, e, O⟩ := own_lay g le
  have done : u.relaid ks want = some (tabOf u M ow, ((liveOf M ow).map (·.2)).toArray) := by
    rw [relaid_eq, eM, e]
    rfl
  have rises := ris_live (fun j => ow.getD j none) (List.range (M + 1)) List.pairwise_lt_range
  have q1 : Ris ((liveOf M ow).map (·.1)) := rises.1
  have q2 : ∀ y ∈ (liveOf M ow).map (·.1), y ∈ List.range (M + 1) := rises.2
  have many : (liveOf M ow).length = ks.size := by
    obtain ⟨ps, p1, p2⟩ := O.ps
    have up := nat_nodup_len _ ps (List.Pairwise.imp Nat.ne_of_lt q1) fun y hy => by
      obtain ⟨⟨j, k⟩, hq, rfl⟩ := List.mem_map.mp hy
      obtain ⟨b1, b2⟩ := (mem_live O.sz).1 hq
      exact p2 j b1 (by rw [b2]; simp)
    have down := nat_nodup_len (List.range ks.size) ((liveOf M ow).map (·.2)) List.nodup_range fun k hk => by
      obtain ⟨j, b1, b2⟩ := O.all k (List.mem_range.mp hk)
      exact List.mem_map.mpr ⟨(j, k), (mem_live O.sz).2 ⟨b1, b2⟩, rfl⟩
    rw [List.length_map] at up down
    rw [List.length_range] at down
    rw [p1] at up
    have := Array.length_toList (xs := ks)
    omega
  refine ⟨_, _, done, perm_range ks.size _ (by rw [List.length_map]; exact many) fun k hk => ?_, ⟨q1, rfl, ?_, g, fun y hy => Nat.le_of_lt_succ (List.mem_range.mp (q2 y hy)), fun i x j h1 h2 => ?_⟩, rfl, rfl, rfl, rfl⟩
  · obtain ⟨j, b1, b2⟩ := O.all k hk
    exact List.mem_map.mpr ⟨(j, k), (mem_live O.sz).2 ⟨b1, b2⟩, rfl⟩
  · simp [tabOf]
  · have g1 : ((liveOf M ow)[i]?.map (·.2)).map (fun i => ks.getD i 0) = some x := by
      rw [← List.getElem?_map, ← List.getElem?_map]
      exact h1
    have g2 : (liveOf M ow)[i]?.map (·.1) = some j := by
      rw [← List.getElem?_map]
      exact h2
    obtain ⟨⟨j', k⟩, hq, rfl⟩ := Option.map_eq_some_iff.mp g2
    rw [hq] at g1
    obtain ⟨b1, b2⟩ := (mem_live O.sz).1 (List.mem_of_getElem? hq)
    obtain ⟨y, N, a1, a2, a3⟩ := O.at_ j' k b1 b2
    have ey : ks.getD k 0 = y := by
      rw [Array.getD_eq_getD_getElem?, ← Array.getElem?_toList, a1]
      rfl
    obtain rfl : y = x := ey.symm.trans (Option.some.inj g1)
    refine ⟨N, a2, fun n hn => ?_⟩
    show way M y n ∈ (liveOf M ow).map (·.1)
    obtain ⟨k2, z⟩ := Option.ne_none_iff_exists'.mp (a3 n hn)
    exact List.mem_map.mpr ⟨(way M y n, k2), (mem_live O.sz).2 ⟨way_in, z⟩, rfl⟩
theorem size_77 : SetTable.sizeAbove (SetTable.grown 77) = 512 := by decide +kernel
end Bg

set_option maxHeartbeats 4000000
/-! A set of tuples of ints of any number that a table of 512 slots holds (at most 306): looked through, grown, laid anew. -/
namespace Bg
open PySem PySem.Spec PyProof.Rows L2 PySem.W SrT
section
variable {P : Program} {w : World} {A : Around} {E : Value → Shared → Prop} {s : Shared} {a : Addr} {L : List (Addr × List Int)} {es : Array (Int × Value)} {ep : Nat} {t : SetTable}
/-- the set at a, whole -/
structure Big (P : Program) (w : World) (g : Heap) (a : Addr) (L : List (Addr × List Int)) (es : Array (Int × Value)) (ep : Nat) (t : SetTable) : Prop where
  obj : ∃ o, g.get? a = some o ∧ o.ExactSet ∧ o.data = .set es ep t
  rws : es.toList = L2.rowsOf P w L
  tab : TabG t (L.map fun q => thash P w q.2)
  dis : (L.map (·.2)).Nodup
  tps : ∀ q ∈ L, IsT P w g q.2 q.1
  pln : t.plain = true
  told : w.params.followText "set-order" = true ∨ t.led = true
  spare : L.length * 5 < t.mask * 3
theorem rows_len {L : List (Addr × List Int)} : (L2.rowsOf P w L).length = L.length := List.length_map ..
theorem Big.len (R : Big P w s.heap a L es ep t) : es.size = L.length := by
  rw [← Array.length_toList, R.rws, rows_len]
theorem Big.places (R : Big P w s.heap a L es ep t) : t.place.size = L.length := R.tab.sz.trans (List.length_map ..)
theorem fits_of {n : Nat} (hd : t.dummies = #[]) (h1 : t.place.size = n) (h2 : n ≤ t.mask) : t.fits n = true := by
  simp [SetTable.fits, SetTable.fill, hd, h1, h2]
theorem Big.fits (R : Big P w s.heap a L es ep t) : t.fits es.size = true := by
  have := R.spare
  rw [R.len]
  exact fits_of R.tab.dm R.places (by omega)
theorem Big.row (R : Big P w s.heap a L es ep t) {i : Nat} {q : Addr × List Int} (h : L[i]? = some q) : es[i]? = some (thash P w q.2, Value.ref q.1) := by
  have z : es.toList[i]? = some (thash P w q.2, Value.ref q.1) := by
    rw [R.rws]
    simp [L2.rowsOf, h]
  simpa using z
theorem Big.stays (R : Big P w s.heap a L es ep t) : ¬ t.gaveWay = true := by
  intro z
  unfold SetTable.gaveWay at z
  rw [R.tab.mok.odd] at z
  revert z
  decide
theorem nth_clean {m : Nat} : ∀ (n : Nat) (p : SetTable.Probe), p.dummy = none → (nth m p n).dummy = none
  | 0, _, h => h
  | n + 1, p, h => nth_clean n (adv m p) (by unfold adv; split <;> exact h)
/-- the way of a hash, as probes -/
abbrev road (m : Nat) (h : Int) : SetTable.Probe := runAt m (SetTable.bits h % (m + 1)) (SetTable.bits h)
/-- from the c-th step on: found, or the K-th slot is free -/
theorem Big.seek (R : Big P w s.heap a L es ep t) {x : Addr} {k : List Int} (hx : IsT P w s.heap k x) (hu : A.units < cLine) {K : Nat} {Q : SetFound → Shared → Prop} (far : K < 10 * SetTable.turns t.mask) (free : way t.mask (thash P w k) K ∉ t.place.toList)
    (full : ∀ c, c < K → way t.mask (thash P w k) c ∈ t.place.toList) (yes : k ∈ L.map (·.2) → Q (.there none) s) (no : k ∉ L.map (·.2) → Q (.free (way t.mask (thash P w k) K) false) s) (f : Nat) :
    ∀ (c : Nat) (st : Option SetTable.Probe), st.getD (t.probeStart (thash P w k)) = nth t.mask (road t.mask (thash P w k)) c → c ≤ K → K < f + c →
      (∀ (i : Nat) (q : Addr × List Int), L[i]? = some q → q.2 = k → ∃ d, c ≤ d ∧ d < K ∧ t.place.toList[i]? = some (way t.mask (thash P w k) d)) →
      wpAny (model P w) A (setSearchFrom a (.ref x) (thash P w k) true f st) Q E s := by
  generalize hh : thash P w k = h at *
  induction f with
  | zero =>
    intro c st _ h1 h2
    omega
  | succ f ih =>
    intro c st est hcK hf left
    have ⟨o, ho, hex, hdat⟩ := R.obj
    have look : ∀ {β : Type} {m : _ → Sem β} {Q' : β → Shared → Prop}, wpAny (model P w) A (m (es, ep, t)) Q' E s → wpAny (model P w) A (setState a >>= m) Q' E s := fun z => wpAny_bind (wpAny_setState_of ho hdat R.fits z)
    rw [setSearchFrom_succ]
    apply look
    dsimp only
    refine wp_if_neg R.stays ?_
    try refine wpAny_bind (wpAny_pure ?_)
    have more : ∀ n, nth t.mask (nth t.mask (road t.mask h) c) n = nth t.mask (road t.mask h) (c + n) := fun n => (nth_add t.mask c _ n).symm
    have slot : ∀ n, (nth t.mask (nth t.mask (road t.mask h) c) n).j = way t.mask h (c + n) := fun n => congrArg SetTable.Probe.j (more n)
    have eK : c + (K - c) = K := by omega
    have met := go_spec t R.tab.ris R.tab.dm (fun i => (es[i]?.map (·.1)).getD 0) h (10 * SetTable.turns t.mask) (K - c) (nth t.mask (road t.mask h) c) (nth_clean c _ rfl) (by omega)
      (fun n hn => (slot n).symm ▸ full (c + n) (by omega)) (by rw [slot, eK]; exact free)
    have hashOf : ∀ {i : Nat} {q : Addr × List Int}, L[i]? = some q → (es[i]?.map (·.1)).getD 0 = thash P w q.2 := fun hq => by
      rw [R.row hq]
      rfl
    have start : ∀ r, SetTable.probe.go t (fun i => (es[i]?.map (·.1)).getD 0) h (10 * SetTable.turns t.mask) (nth t.mask (road t.mask h) c) = some r → t.probe (fun i => (es[i]?.map (·.1)).getD 0) h (st.getD (t.probeStart h)) = some r := fun r z => by
      rw [est]
      exact z
    rcases met with ⟨n, i, hn, hi, _, first, found⟩ | ⟨never, found⟩
    · rw [start _ found]
      dsimp only
      rw [slot] at hi
      have il : i < L.length := by
        have z := (List.getElem?_eq_some_iff.mp hi).1
        rw [Array.length_toList, R.places] at z
        exact z
      obtain ⟨q, hq⟩ : ∃ q, L[i]? = some q := ⟨_, List.getElem?_eq_getElem il⟩
      have hm := List.mem_of_getElem? hq
      have tq := R.tps q hm
      have rest : wpAny (model P w) A (searchRest a (.ref x) h true f es t (nth t.mask (nth t.mask (road t.mask h) c) n).j i (nth t.mask (nth t.mask (road t.mask h) c) (n + 1))) Q E s := by
        unfold searchRest
        rw [R.row hq, slot]
        dsimp only
        refine wpAny_bind (wpAny_holding (wpAny_eqBool_tuple hu tq hx ?_))
        apply look
        dsimp only
        rcases Classical.em (q.2 = k) with same | other
        · exact wp_if_pos (by simp [same]) (wpAny_pure (yes (List.mem_map.mpr ⟨q, hm, same⟩)))
        refine wp_if_neg (by simp [other]) ?_
        try refine wpAny_bind (wpAny_pure ?_)
        rw [sameMem]
        have here : t.slot (way t.mask h (c + n)) = .live i := slot_live R.tab.ris hi
        simp only [if_true, here, R.row hq]
        refine wpAny_bind (wpAny_isSame_ref_self (wpAny_bind (wpAny_pure ?_)))
        simp only [if_true]
        refine wp_if_neg (by simp [other]) (ih (c + (n + 1)) _ (more (n + 1)) (by omega) (by omega) fun i2 q2 h2 e2 => ?_)
        obtain ⟨d, d1, d2, d3⟩ := left i2 q2 h2 e2
        refine ⟨d, ?_, d2, d3⟩
        -- its slot is not passed
        rcases Nat.lt_trichotomy d (c + n) with lt | eq | gt
        · refine absurd ?_ (first (d - c) i2 (by omega) (by rw [slot, show c + (d - c) = d by omega]; exact d3))
          exact (hashOf h2).trans ((congrArg (thash P w) e2).trans hh)
        · rw [eq] at d3
          have z := (slot_live R.tab.ris d3).symm.trans here
          injection z with z
          rw [z, hq] at h2
          exact absurd (by rw [Option.some.inj h2]; exact e2) other
        · omega
      rcases Classical.em (t.led = true) with led | unled
      · refine wp_if_neg (by simp [led]) ?_
        try refine wpAny_bind (wpAny_pure ?_)
        exact rest
      refine wp_if_pos (by simp [unled]) (wpAny_bind (seen_tup hx (fun y hy => ?_) (wp_if_neg (by decide) ?_)))
      · obtain ⟨r, hr, rfl⟩ := List.mem_map.mp hy
        have hr2 : r ∈ es.toList := by
          have z : r ∈ es ∧ r.1 = h := by simpa using hr
          simpa using z.1
        rw [R.rws] at hr2
        obtain ⟨q2, hq2, rfl⟩ := List.mem_map.mp hr2
        exact ⟨q2.2, q2.1, rfl, R.tps q2 hq2⟩
      · try refine wpAny_bind (wpAny_pure ?_)
        exact rest
    · rw [start _ found, slot, eK]
      dsimp only
      refine wpAny_pure (no fun hm => ?_)
      obtain ⟨q, hq, e2⟩ := List.mem_map.mp hm
      obtain ⟨i, hi⟩ := List.getElem?_of_mem hq
      obtain ⟨d, d1, d2, d3⟩ := left i q hi e2
      exact never (d - c) i (by omega) (by rw [slot, show c + (d - c) = d by omega]; exact d3) ((hashOf hi).trans ((congrArg (thash P w) e2).trans hh))
theorem Big.search (R : Big P w s.heap a L es ep t) {x : Addr} {k : List Int} (hx : IsT P w s.heap k x) (hu : A.units < cLine) {Q : SetFound → Shared → Prop} (yes : k ∈ L.map (·.2) → Q (.there none) s)
    (no : ∀ K, k ∉ L.map (·.2) → way t.mask (thash P w k) K ∉ t.place.toList → (∀ c, c < K → way t.mask (thash P w k) c ∈ t.place.toList) → Q (.free (way t.mask (thash P w k) K) false) s) :
    wpAny (model P w) A (setSearch a (.ref x) (thash P w k) true) Q E s := by
  have sp := R.spare
  obtain ⟨K, far, free, full⟩ := R.tab.first (by rw [List.length_map]; omega) (thash P w k)
  have small : K < 100000 := Nat.lt_trans far (by unfold SetTable.turns; rcases R.tab.mok with e | e | e | e <;> omega)
  unfold setSearch
  refine R.seek hx hu far free full yes (fun z => no K z free full) 100000 0 none rfl (Nat.zero_le _) small fun i q hq e => ?_
  have hi : (L.map fun q => thash P w q.2)[i]? = some (thash P w k) := by
    rw [List.getElem?_map, hq, ← e]
    rfl
  have il : i < t.place.toList.length := by
    rw [Array.length_toList, R.places]
    exact (List.getElem?_eq_some_iff.mp hq).1
  obtain ⟨d, hd, ed⟩ := R.tab.before free hi (List.getElem?_eq_getElem il)
  exact ⟨d, Nat.zero_le _, hd, by rw [ed]; exact List.getElem?_eq_getElem il⟩
/-- what is left the same where only the set is written -/
theorem tps_after {g g' : Heap} {o : Obj} (ho : g.get? a = some o) (hd : o.data = .set es ep t) (sb : Heap.SameBut a g g') {M : List (Addr × List Int)} (h : ∀ q ∈ M, IsT P w g q.2 q.1) : ∀ q ∈ M, IsT P w g' q.2 q.1 := fun q hq => isT_same (h q hq) ho hd sb
theorem Big.new {g : Heap} (ho : g.get? a = some { cls := .type "set", dict := none, data := .set #[] 0 (.fresh 0 0 (!w.params.followText "set-order")) }) : Big P w g a [] #[] 0 (.fresh 0 0 (!w.params.followText "set-order")) := by
  refine ⟨⟨_, ho, ⟨rfl, rfl, rfl⟩, rfl⟩, rfl, ⟨.nil, rfl, rfl, .inl rfl, (fun x hx => nomatch hx), (fun i h j hi => by simp at hi)⟩, .nil, (fun q hq => nomatch hq), rfl, ?_, by show 0 < 7 * 3; decide⟩
  by_cases z : w.params.followText "set-order" = true
  · exact .inl z
  · exact .inr (by show (!w.params.followText "set-order") = true; simp [z])
/-- laid anew in a larger table -/
theorem relay {o : Obj} {n M : Nat} {Q : Unit → Shared → Prop} (ho : s.heap.get? a = some o) (hex : o.ExactSet) (hd : o.data = .set es ep t) (rws : es.toList = L2.rowsOf P w L) (pl : t.place.size = L.length) (dm : t.dummies = #[]) (fit : L.length ≤ t.mask) (dis : (L.map (·.2)).Nodup)
    (tps : ∀ q ∈ L, IsT P w s.heap q.2 q.1) (pln : t.plain = true) (told : w.params.followText "set-order" = true ∨ t.led = true) (hw : SetTable.sizeAbove n - 1 = M) (hM : MaskG M) (le : SetTable.sizeAbove n ≤ 512) (spare : L.length * 5 < M * 3)
    (hQ : ∀ g L' es' ep' t', Heap.SameBut a s.heap g → Big P w g a L' es' ep' t' → L'.Perm L → Q () { s with heap := g }) : wpAny (model P w) A (setRelay a n) Q E s := by
  have sz : es.size = L.length := by rw [← Array.length_toList, rws, rows_len]
  obtain ⟨u, order, eu, perm, T, em, el, epl, _⟩ := relaidG t (ks := es.map (·.1)) (want := n) hw hM (by rw [Array.size_map, sz]; omega)
  rw [Array.size_map, sz] at perm
  obtain ⟨M2, r1, r2, r3⟩ := order_rows L es order rws perm
  have ss : (order.filterMap (es[·]?)).size = es.size := by rw [← Array.length_toList, r1, rows_len, r2.length_eq, sz]
  rw [setRelay_eq]
  refine wpAny_bind (wpAny_setState_of ho hd (by rw [sz]; exact fits_of dm pl fit) ?_)
  dsimp only
  refine wp_if_neg (by rw [sizeLine_eq]; omega) ?_
  try refine wpAny_bind (wpAny_pure ?_)
  rw [eu]
  dsimp only
  refine wpAny_bind (wp_if_neg (by rw [ss]; simp) ?_)
  try refine wpAny_bind (wpAny_pure ?_)
  refine wpAny_pure ?_
  dsimp only
  refine wpAny_storeSet_of ho hd ?_ (by rw [ss, sz, sizeLine_eq]; omega)
  have sb : Heap.SameBut a s.heap (s.heap.update a (Obj.putSet (order.filterMap (es[·]?)) u)) := Heap.SameBut.update ..
  refine hQ _ M2 _ (ep + 1) u sb ⟨⟨_, store_at ho hd, ⟨hex.1, hex.2.1, hex.2.2⟩, rfl⟩, r1, r3 ▸ T, (r2.map (·.2)).nodup_iff.mpr dis, tps_after ho hd sb fun q hq => tps q (r2.mem_iff.mp hq), epl.trans pln, el.symm ▸ told, ?_⟩ r2
  rw [r2.length_eq, em]
  exact spare
/-- one more -/
theorem Big.add (R : Big P w s.heap a L es ep t) {x : Addr} {k : List Int} (hx : IsT P w s.heap k x) (hu : A.units < cLine) (few : L.length < 300) {Q : Bool → Shared → Prop}
    (hQ : ∀ b g L' es' ep' t', Heap.SameBut a s.heap g → Big P w g a L' es' ep' t' → Grown L x k L' → Q b { s with heap := g }) : wpAny (model P w) A (setAddHashed a (.ref x) (thash P w k)) Q E s := by
  have ⟨o, ho, hex, hd⟩ := R.obj
  have sz := R.len
  have sp := R.spare
  unfold setAddHashed
  refine wpAny_holding ?_
  rw [show (100000 : Nat) = Nat.succ 99999 from rfl, setAddHashedIn_succ]
  refine wpAny_bind (wpAny_setState_of ho hd R.fits ?_)
  dsimp only
  refine wp_if_neg (by simp [byScan, Value.scannable]) ?_
  try refine wpAny_bind (wpAny_pure ?_)
  refine wpAny_bind (R.search hx hu (fun yes => ?_) fun K no free full => ?_) <;> dsimp only
  · exact wpAny_pure (hQ false _ L es ep t (Heap.SameBut.refl a s.heap) R ⟨fun _ => rfl, fun z => absurd yes z⟩)
  refine wpAny_bind (wpAny_setState_of ho hd R.fits ?_)
  dsimp only
  have put := R.tab.put free full
  generalize ej : way t.mask (thash P w k) K = j at put
  have pln1 : (t.put j).1.plain = true := put.2.2.2.2.2.1.trans R.pln
  generalize ept : t.put j = pt at put pln1 ⊢
  obtain ⟨u, p⟩ := pt
  dsimp only at put pln1 ⊢
  obtain ⟨pp, _, T, em, el, epl, _, _, efill⟩ := put
  subst pp
  first
    | (refine wpAny_bind ?_; refine wp_if_pos pln1 ?_; refine hashBy_tup hx ?_)
    | refine wp_if_pos pln1 (wpAny_bind (hashBy_tup hx ?_))
  simp only [if_true]
  generalize SetTable.below t.place j = p at T ⊢
  have rws1 : (SetTable.insertAt es p (thash P w k, Value.ref x)).toList = L2.rowsOf P w (L.take p ++ (x, k) :: L.drop p) := by rw [SetTable.toList_insertAt, L2.rows_put, R.rws]
  have T1 : TabG u ((L.take p ++ (x, k) :: L.drop p).map fun q => thash P w q.2) := by
    simp only [List.map_append, List.map_cons, List.map_take, List.map_drop]
    exact T
  have perm := L2.put_perm L p (x, k)
  generalize L.take p ++ (x, k) :: L.drop p = L1 at rws1 T1 perm
  have l1 : L1.length = L.length + 1 := perm.length_eq
  have s1 : (SetTable.insertAt es p (thash P w k, Value.ref x)).size = L.length + 1 := by rw [← Array.length_toList, rws1, rows_len, l1]
  have dis1 : (L1.map (·.2)).Nodup := (perm.map (·.2)).nodup_iff.mpr (List.nodup_cons.mpr ⟨no, R.dis⟩)
  generalize SetTable.insertAt es p (thash P w k, Value.ref x) = es1 at rws1 s1 ⊢
  refine wpAny_bind (wpAny_storeSet_of ho hd ?_ (by rw [s1, sizeLine_eq]; omega))
  have sb : Heap.SameBut a s.heap (s.heap.update a (Obj.putSet es1 u)) := Heap.SameBut.update ..
  have at1 := store_at (es' := es1) (t' := u) ho hd
  generalize s.heap.update a (Obj.putSet es1 u) = g1 at sb at1 ⊢
  have tps1 : ∀ q ∈ L1, IsT P w g1 q.2 q.1 := tps_after ho hd sb fun q hq => (List.mem_cons.mp (perm.mem_iff.mp hq)).elim (fun z => z ▸ hx) (R.tps q)
  have told1 : w.params.followText "set-order" = true ∨ u.led = true := el.symm ▸ R.told
  have ex1 : ({ o with data := Data.set es1 (ep + 1) u } : Obj).ExactSet := ⟨hex.1, hex.2.1, hex.2.2⟩
  have grown : ∀ {L' : List (Addr × List Int)}, L'.Perm L1 → Grown L x k L' := fun z => ⟨fun y => absurd y no, fun _ => z.trans perm⟩
  rw [List.length_map] at efill
  rcases Classical.em (u.tooFull = true) with tight | loose
  · first
      | (refine wpAny_bind ?_; refine wp_if_pos (by simp [tight]) ?_)
      | (refine wp_if_pos (by simp [tight]) ?_; refine wpAny_bind ?_)
    unfold SetTable.tooFull at tight
    rw [decide_eq_true_eq, efill, em] at tight
    have two : (t.mask = 7 ∧ L.length = 4) ∨ (t.mask = 31 ∧ L.length = 18) ∨ (t.mask = 127 ∧ L.length = 76) := by
      rcases R.tab.mok with e | e | e | e <;> rw [e] at tight sp
      · exact .inl ⟨e, by omega⟩
      · exact .inr (.inl ⟨e, by omega⟩)
      · exact .inr (.inr ⟨e, by omega⟩)
      · omega
    rw [sz]
    have pl1 : u.place.size = L1.length := T1.sz.trans (List.length_map ..)
    have go : ∀ M, SetTable.sizeAbove (SetTable.grown (L.length + 1)) - 1 = M → MaskG M → SetTable.sizeAbove (SetTable.grown (L.length + 1)) ≤ 512 → L1.length * 5 < M * 3 → L1.length ≤ u.mask →
        wpAny (model P w) A (setRelay a (SetTable.grown (L.length + 1))) (fun _ s' => wpAny (model P w) A (pure true) Q E s') E { s with heap := g1 } := fun M c1 c2 c3 c4 c5 =>
      relay (s := { s with heap := g1 }) at1 ex1 rfl rws1 pl1 T1.dm c5 dis1 tps1 pln1 told1 c1 c2 c3 c4 fun g L' es' ep' t' sb2 R2 pm => wpAny_pure (hQ true g L' es' ep' t' (sb.trans sb2) R2 (grown pm))
    rcases two with ⟨e, e4⟩ | ⟨e, e4⟩ | ⟨e, e4⟩
    · exact go 31 (by rw [e4, size_20]) (.inr (.inl rfl)) (by rw [e4, size_20]; decide) (by omega) (by rw [em, e]; omega)
    · exact go 127 (by rw [e4, size_76]) (.inr (.inr (.inl rfl))) (by rw [e4, size_76]; decide) (by omega) (by rw [em, e]; omega)
    · exact go 511 (by rw [e4, size_77]) (.inr (.inr (.inr rfl))) (by rw [e4, size_77]; decide) (by omega) (by rw [em, e]; omega)
  · first
      | refine wp_if_neg (by simp [loose]) ?_
      | (refine wpAny_bind ?_; refine wp_if_neg (by simp [loose]) ?_; refine wpAny_pure ?_)
    refine wpAny_pure (hQ true g1 L1 es1 (ep + 1) u sb ⟨⟨_, at1, ex1, rfl⟩, rws1, T1, dis1, tps1, pln1, told1, ?_⟩ (grown (.refl _)))
    unfold SetTable.tooFull at loose
    rw [decide_eq_true_eq, efill] at loose
    omega
end
end Bg

set_option maxHeartbeats 4000000
namespace Bg
open PySem PySem.Spec PyProof.Rows L2 PySem.W SrT
section
variable {P : Program} {w : World} {A : Around} {E : Value → Shared → Prop} {s : Shared}
def Big0 (P : Program) (w : World) (h : Heap) (a : Addr) (L : List (Addr × List Int)) : Prop := ∃ (es : Array (Int × Value)) (ep : Nat) (t : SetTable), (∃ o, h.get? a = some o ∧ o.ExactSet ∧ o.data = .set es ep t) ∧ es.toList = L2.rowsOf P w L ∧ TabG t (L.map fun q => thash P w q.2) ∧ (L.map (·.2)).Nodup ∧ t.plain = true ∧ (w.params.followText "set-order" = true ∨ t.led = true) ∧ L.length * 5 < t.mask * 3
def BigO (P : Program) (w : World) (a : Addr) (L : List (Addr × List Int)) : HO := .ext fun h => Big0 P w h a L
theorem Big.t0 {h : Heap} {a : Addr} {L : List (Addr × List Int)} {es : Array (Int × Value)} {ep : Nat} {t : SetTable} (R : Big P w h a L es ep t) : Big0 P w h a L := ⟨es, ep, t, R.obj, R.rws, R.tab, R.dis, R.pln, R.told, R.spare⟩
theorem Big0.full {h : Heap} {a : Addr} {L : List (Addr × List Int)} (R : Big0 P w h a L) (ht : ∀ q ∈ L, IsT P w h q.2 q.1) : ∃ es ep t, Big P w h a L es ep t :=
  let ⟨es, ep, t, a1, a2, a3, a4, a5, a6, a7⟩ := R
  ⟨es, ep, t, a1, a2, a3, a4, ht, a5, a6, a7⟩
theorem bigO_new {H : Hp} {h : Heap} {a : Addr} {L : List (Addr × List Int)} (R : Big0 P w h a L) : ObjOk P w H h a (BigO P w a L) := by
  refine ⟨R, ?_, fun h1 h2 p k => ?_⟩
  · obtain ⟨_, _, _, ⟨o, ho, _⟩, _⟩ := R
    exact ⟨o, ho⟩
  · obtain ⟨es, ep, t, ⟨o, ho, r⟩, q⟩ := (p : Big0 P w h1 a L)
    exact ⟨es, ep, t, ⟨o, k o ho, r⟩, q⟩
theorem Big.most {h : Heap} {a : Addr} {L : List (Addr × List Int)} {es : Array (Int × Value)} {ep : Nat} {t : SetTable} (R : Big P w h a L es ep t) : L.length < 307 := by
  have z := R.spare
  rcases R.tab.mok with e | e | e | e <;> rw [e] at z <;> omega
theorem bigT_type {a : Addr} {L : List (Addr × List Int)} {es : Array (Int × Value)} {ep : Nat} {t : SetTable} (R : Big P w s.heap a L es ep t) : s.TypeIs (.ref a) "set" := by
  obtain ⟨o, ho, hex, _⟩ := R.obj
  exact ⟨o, ho, hex.1⟩
/-- set.add of a tuple of ints, raw -/
theorem addB_raw {a x : Addr} {L : List (Addr × List Int)} {es : Array (Int × Value)} {ep : Nat} {t : SetTable} {k : List Int} {Q : Value → Shared → Prop} (R : Big P w s.heap a L es ep t) (hx : IsT P w s.heap k x) (hu : A.units + 1 < cLine) (hfew : L.length < 300)
    (hQ : ∀ h' tk L' es' ep' t', Heap.SameBut a s.heap h' → Big P w h' a L' es' ep' t' → Grown L x k L' → Q .none { s with heap := h', toks := tk }) :
    wpAny (model P w) A (call (.builtin "set.add") [.ref a, .ref x]) Q E s := by
  refine wpAny_call_entry F.slot_set_add (bigT_type R) F.entry_set_add ?_ (F.args_set_add_2 _ _)
  unfold Builtin.«set.add» Builtin.Frozenset.oneOther
  simp only [List.isEmpty_nil, bind_assoc]
  unfold Builtin.Frozenset.addrOf setAdd
  refine wpAny_bind (wpAny_pure ?_)
  try dsimp only
  refine wpAny_bind (wpAny_pure ?_)
  try dsimp only
  refine wpAny_bind ?_
  refine wpAny_holding ?_
  refine wpAny_bind (wpAny_pyHash_tuple (A := A.in1) hu hx ?_)
  refine Big.add (A := A.in1) (s := { s with toks := s.toks + (k.length + 1) }) R hx hu hfew fun b h' L' es' ep' t' sb r c1 => ?_
  show wpAny _ _ (ret Value.none) _ _ _
  exact wpAny_pure ⟨_, rfl, hQ h' _ L' es' ep' t' sb r c1⟩
end
section
variable {X : Cx} {pins : List (Addr × Obj)} {σ : L2.St} {H : Hp} {s : Shared}
theorem addB_ok {E : Value → Shared → Prop} {D x : Addr} {L : List (Addr × List Int)} {k : List Int} {Q : Value → Shared → Prop} (I : Inv X pins σ H s) (hD : H D = some (BigO X.prog X.w D L)) (hL : ∀ p ∈ L, SqT X.K H p.1 (p.2.map V.int)) (hx : SqT X.K H x (k.map V.int)) (hf : L.length < 300) (hu : X.A.units + 1 < cLine)
    (h : ∀ L' s', Grown L x k L' → Inv X pins σ (upd H D (BigO X.prog X.w D L')) s' → Q .none s') : wpAny (model X.prog X.w) X.A (call (.builtin "set.add") [.ref D, .ref x]) Q E s := by
  obtain ⟨es, ep, t, R⟩ := Big0.full (P := X.prog) (w := X.w) (show Big0 X.prog X.w s.heap D L from (I.hok D _ hD).1) fun p hp => Inv.isT I (hL p hp)
  refine addB_raw R (Inv.isT I hx) hu hf fun h' tk L' es' ep' t' sb R' c1 => ?_
  have he : ∃ u, h'.get? D = some u := by
    obtain ⟨o, ho, _⟩ := R'.obj
    exact ⟨o, ho⟩
  exact h L' _ c1 (I.write (e := D) (t' := tk) (by rw [hD]; trivial) (.inl rfl) (fun b u hb hu => (sb.2 b hb).trans hu) he (bigO_new R'.t0))
end
section
variable {X : Cx}
/-- one more into the set at D -/
def tAddB (K : PySem.W.Frag) (P : Program) (w : World) (D : Addr) (te : TE) : TD := fun σ H Nx => te σ H fun y H4 => ∃ (x : Addr) (k : List Int) (L : List (Addr × List Int)), y = .ref x ∧ SqT K H4 x (k.map V.int) ∧ H4 D = some (BigO P w D L) ∧ (∀ p ∈ L, SqT K H4 p.1 (p.2.map V.int)) ∧ L.length < 300 ∧ ∀ L', Grown L x k L' → Nx (upd H4 D (BigO P w D L'))
def tSc2B (K : PySem.W.Frag) (P : Program) (w : World) (wi : TI) (g : TG) (tt : TT) (wi1 : TI) (g1 : TG) (tt1 : TT) (te : TE) (vs vs1 : List Nat) : TE := fun σ H Q => wi σ H fun J H1 => ∀ D, H1 D = none → ∃ W : Nat → Nat → Hp → Prop, (∃ m, W 0 m (upd H1 D (BigO P w D []))) ∧
  tWk J σ vs g tt (tInner wi1 g1 tt1 (tAddB K P w D te) vs1) (fun H' => Q (.ref D) H') W
theorem act_inB {Y : Cx} {elt : Expr} {D : Addr} {te : TE} {pins : List (Addr × Obj)} {σ : L2.St} {H : Hp} {s : Shared} {Nx : Hp → Prop} (hu : Y.A.units + 1 < cLine) (hx : Y.xe = fun _ _ => False) (pe : PE Y elt te) (I : Inv Y pins σ H s) (h : tAddB Y.K Y.prog Y.w D te σ H Nx) :
    wpAny (model Y.prog Y.w) Y.A (actIn elt (.ref D) Y.env) (fun _ s' => ∃ H', Inv Y pins (wipe σ []) H' s' ∧ Nx H') (fun _ _ => False) s := by
  unfold actIn
  have z := pe.run pins s σ H _ I h
  rw [hx] at z
  refine wpAny_bind (thnF z fun u s1 h1 => ?_)
  obtain ⟨yv, H1, I1, r1, x, k, L, ey, hxT, hD, hL, hf, nx⟩ := h1
  subst ey
  cases r1
  refine wpAny_bind (wpAny_standAt (wpAny_bind (addB_ok I1 hD hL hxT hf hu fun L' s2 gr I2 => wpAny_pure ?_)))
  exact ⟨_, I2, nx L' gr⟩
theorem act_outB {Y : Cx} {elt tg iter tg1 iter1 : Expr} {ifs ifs1 : List Expr} {sc : Scope} {pos : Pos} {D : Addr} {wi1 : TI} {g1 : TG} {tt1 : TT} {te : TE} {vs1 : List Nat} {pins : List (Addr × Obj)} {σ2 : L2.St} {H : Hp} {s : Shared} {Nx : Hp → Prop} (hc : Y.calm = true) (hu : Y.A.units + 1 < cLine) (hx : Y.xe = fun _ _ => False)
    (pi1 : PI Y tg1 iter1 wi1) (pg1 : PG Y tg1 g1) (pt1 : PTs Y ifs1 tt1) (pe : PE Y elt te) (hs1 : ∀ env x, foldedSetIterable iter1 env x = pure x) (I : Inv Y pins σ2 H s) (h : tInner wi1 g1 tt1 (tAddB Y.K Y.prog Y.w D te) vs1 σ2 H Nx) :
    wpAny (model Y.prog Y.w) Y.A (actOut elt tg iter tg1 iter1 ifs ifs1 sc pos (.ref D) Y.env) (fun _ s' => ∃ H', Inv Y pins (wipe σ2 vs1) H' s' ∧ Nx H') (fun _ _ => False) s := by
  unfold actOut
  have z := pi1.run pins s σ2 H _ I h
  rw [hx] at z
  refine wpAny_bind (thnF z fun xv s1 h1 => wpAny_bind (wpAny_standAt (wpAny_bind (wpAny_of_eq (hs1 Y.env xv) (wpAny_bind (wpAny_holding (thnF h1 fun itv s2 h2 => ?_)))))))
  obtain ⟨it1, fp1, tn1, J1, H2, e1, I2, T1, st2, f2, W1, ⟨m1, w1⟩, turn1⟩ := h2
  subst e1
  refine wpAny_bind (wpAny_runOwn ?_)
  rw [Around.mark_none]
  have I2' : Inv Y pins (wipe σ2 vs1) H2 s2 := I2.weak (wipe_length _ _) (fun j v e => (wipe_some e).1)
  have loop : ∀ (R : Result → Shared → Prop), (∀ s' H', Inv Y pins (wipe σ2 vs1) H' s' → Nx H' → R (.ok .next) s') → codeAny (model Y.prog Y.w) Y.A (.compLoop (sc2 elt tg iter tg1 iter1 ifs ifs1 sc pos) 1 (.ref it1) (.ref D) Y.env) R s2 := fun R hR =>
    loopG (va := []) (vs := vs1) (σ := σ2) (ta := tAddB Y.K Y.prog Y.w D te) (act := actIn elt (.ref D) Y.env) hc hx rfl rfl rfl (turn_in _ _ _) T1 pg1 pt1 (fun p2 s σ3 H Nx' I' h' => act_inB hu hx pe I' h') (fun i hi => nomatch hi) turn1 hR (fun H' hn b hb => ⟨hn b hb, (f2 b hb).2⟩) I2' st2 (fun b hb => (f2 b hb).1) w1
  have lp := loop (fun r s' => match r with
    | .ok f => wpAny (model Y.prog Y.w) Y.A (pure PUnit.unit) (fun _ s' => ∃ H', Inv Y pins (wipe σ2 vs1) H' s' ∧ Nx H') (fun _ _ => False) s'
    | .error e => False) (fun s' H' I' n' => wpAny_pure ⟨H', I', n'⟩)
  refine codeAny_mono (start_in lp (T1.self Y.A 0 _ _ _ st2 lp)) fun r s' hr => ?_
  cases r with
  | ok f => exact hr
  | error e => exact hr.elim
end
section
variable {X : Cx}
theorem pe_sc2B {elt tg iter tg1 iter1 : Expr} {ifs ifs1 : List Expr} {scope : Scope} {own : List (Str × Nat)} {vs1 : List Nat} {pos : Pos} {wi wi1 : TI} {g g1 : TG} {tt tt1 : TT} {te : TE} (hu : X.A.units + 1 < cLine) (hc : X.calm = true) (hN : X.N.Nodup) (hi : PI X tg iter wi) (ok : BlkOk X.N X.env.scope scope own) (hv : ∀ i ∈ vs1, i ∈ own.map (·.2))
    (hg : ∀ (s : Shared) (H : Hp) (C : Addr) (cl : List (Str × Addr)) (fp : List Addr), PG (X.blk s H scope (compEnvC scope cl C X.env) fp) tg g) (ht : ∀ (s : Shared) (H : Hp) (C : Addr) (cl : List (Str × Addr)) (fp : List Addr), PTs (X.blk s H scope (compEnvC scope cl C X.env) fp) ifs tt)
    (hi1 : ∀ (s : Shared) (H : Hp) (C : Addr) (cl : List (Str × Addr)) (fp : List Addr), PI (X.blk s H scope (compEnvC scope cl C X.env) fp) tg1 iter1 wi1) (hg1 : ∀ (s : Shared) (H : Hp) (C : Addr) (cl : List (Str × Addr)) (fp : List Addr), PG (X.blk s H scope (compEnvC scope cl C X.env) fp) tg1 g1)
    (ht1 : ∀ (s : Shared) (H : Hp) (C : Addr) (cl : List (Str × Addr)) (fp : List Addr), PTs (X.blk s H scope (compEnvC scope cl C X.env) fp) ifs1 tt1) (he : ∀ (s : Shared) (H : Hp) (C : Addr) (cl : List (Str × Addr)) (fp : List Addr), PE (X.blk s H scope (compEnvC scope cl C X.env) fp) elt te)
    (hs : ∀ x, foldedSetIterable iter X.env x = pure x := by intro _; rfl) (hs1 : ∀ env x, foldedSetIterable iter1 env x = pure x := by intro _ _; rfl) :
    PE X (sc2 elt tg iter tg1 iter1 ifs ifs1 scope pos) (tSc2B X.K X.prog X.w wi g tt wi1 g1 tt1 te (own.map (·.2)) vs1) := by
  refine ⟨fun pins s σ H Q I h => ?_⟩
  show wpAny _ _ (comprehension (sc2 elt tg iter tg1 iter1 ifs ifs1 scope pos) scope X.env (firstIterPos _ pos) (newSet (.type "set")) _ (firstIter _ X.env) none) _ _ s
  have fr : ∀ y ∈ scope.names, y.2 = .free → ∃ c, X.env.cells.lookup y.1 = some c := by
    intro y hy e
    rcases ok.free y hy e with k | k
    · exact I.ok.has _ (.inl k)
    · exact I.ok.has _ (.inr k)
  refine wpAny_comprehension_free (use := none) rfl hs (closure_ok fr) ok.kind (fun y hy e => by rw [ok.uniq y hy, e]) (thn (hi.run pins s σ H _ I h) fun xv s1 hx => thn hx fun itv s2 h2 => ?_)
  obtain ⟨it, fp, tn, J, H2, e, I2, T, st2, f2, q⟩ := h2
  subst e
  refine PpSet.newSet_ok (newEnv_comp ?_)
  generalize hD : s2.heap.objs.size = D
  obtain ⟨W, ⟨m0, w0⟩, turn⟩ := q D (I2.hok.fresh (Nat.le_of_eq hD))
  generalize hob : ({ cls := .type "set", dict := none, data := .set #[] 0 (.fresh 0 0 (!X.w.params.followText "set-order")) } : Obj) = ob
  generalize hs3 : ({ s2 with heap := s2.heap.push ob } : Shared) = s3
  have hp3 : s3.heap = s2.heap.push ob := by rw [← hs3]
  have I3 : Inv X pins σ (upd H2 D (BigO X.prog X.w D [])) s3 := by
    rw [← hs3]
    refine I2.laid (t' := s2.toks) (fun b o e => Heap.get?_push_of_some _ e) (Nat.le_of_eq hD) ?_
    rw [← hD]
    exact bigO_new (Big.t0 (Big.new (P := X.prog) (w := X.w) (by rw [← hob]; exact Heap.get?_push_size _ rfl)))
  have lt : ∀ b ∈ fp, b < s2.heap.objs.size := by
    intro b hb
    obtain ⟨o, e, _⟩ := T.obj _ _ st2 b hb
    exact Heap.lt_size e
  have f3 : ∀ b ∈ fp, FpOk X pins (upd H2 D (BigO X.prog X.w D [])) b ∧ b < s3.heap.objs.size := by
    intro b hb
    have hlt := lt b hb
    refine ⟨⟨?_, (f2 b hb).2⟩, by rw [hp3, Heap.size_push]; exact Nat.lt_succ_of_lt hlt⟩
    rw [upd_ne (by rw [← hD]; exact Nat.ne_of_lt hlt)]
    exact (f2 b hb).1
  have I4 := block_start I3 ok hN f3
  show codeAny _ _ (.compStart (sc2 elt tg iter tg1 iter1 ifs ifs1 scope pos) 0 (.ref it) (.ref D) (compEnvC scope (cellsFrom (s3.heap.objs.size + 1) scope.names (cloFrom X.env.cells scope.names [])) s3.heap.objs.size X.env)) (compPost (model X.prog X.w) X.A X.xe none _ (.ref D) s3.heap.objs.size) { s3 with heap := pushCells (s3.heap.push { cls := .type "dict", data := .dict #[] }) scope.names }
  generalize hcl : cellsFrom (s3.heap.objs.size + 1) scope.names (cloFrom X.env.cells scope.names []) = cl at I4 ⊢
  generalize hH3 : upd H2 D (BigO X.prog X.w D []) = H3 at *
  have pg := hg s3 H3 s3.heap.objs.size cl fp
  have pt := ht s3 H3 s3.heap.objs.size cl fp
  have pe := he s3 H3 s3.heap.objs.size cl fp
  have pi1 := hi1 s3 H3 s3.heap.objs.size cl fp
  have pg1 := hg1 s3 H3 s3.heap.objs.size cl fp
  have pt1 := ht1 s3 H3 s3.heap.objs.size cl fp
  generalize hs4 : ({ s3 with heap := pushCells (s3.heap.push { cls := .type "dict", data := .dict #[] }) scope.names } : Shared) = s4 at I4 ⊢
  have st4 : tn 0 s4.heap := T.keep _ _ _ st2 fun b _ o e => by
    rw [← hs4]
    refine pushCells_keeps _ _ _ _ (Heap.get?_push_of_some _ ?_)
    rw [hp3]
    exact Heap.get?_push_of_some _ e
  have cL : (compEnvC scope cl s3.heap.objs.size X.env).locals = s3.heap.objs.size := rfl
  generalize hce : compEnvC scope cl s3.heap.objs.size X.env = ce at I4 pg pt pe pi1 pg1 pt1 cL ⊢
  have fps : ∀ H', (∀ b ∈ fp, H' b = none) → ∀ b ∈ fp, FpOk (X.blk s3 H3 scope ce fp) [] H' b := fun H' hn b hb =>
    ⟨hn b hb, (I4.ok.exf b hb).1, I4.ok.exfs b hb, .inl hb, fun x c e => (I4.ok.exf b hb).2 x c e, fun p hp => absurd (show p ∈ ([] : List (Addr × Obj)) ++ [] from hp) (by simp)⟩
  have loop := loopG (Y := X.blk s3 H3 scope ce fp) (e := sc2 elt tg iter tg1 iter1 ifs ifs1 scope pos) (d := 0) (it := it) (acc := .ref D) (va := vs1) (R := compPost (model X.prog X.w) X.A X.xe none (fun v s' => ∃ x H', Inv X pins σ H' s' ∧ RelV x v ∧ Q x H') (.ref D) s3.heap.objs.size)
    hc rfl rfl rfl rfl (turn_out _ _ _) T pg pt (fun p2 s' σ2 H' Nx I' h' => act_outB (Y := X.blk s3 H3 scope ce fp) hc hu rfl pi1 pg1 pt1 pe hs1 I' h') hv turn (fun s' H' I' qq => ?_) fps I4 st4 (fun b hb => (f3 b hb).1.1) w0
  · exact PpSet.codeAny_compStart_set loop (T.self X.A 0 _ _ _ st4 loop)
  · have I7 : Inv X pins σ H' s' := I3.call' (ch := fp) I'.os I'.base I'.hok I'.bare fun b hb => ⟨(f3 b hb).1.2.2.2.1, (f3 b hb).1.2.1, (f3 b hb).1.2.2.2.2.1, (f3 b hb).1.2.2.2.2.2⟩
    have nC : H' s3.heap.objs.size = none := by
      have z : H' ce.locals = none := I'.free
      rw [cL] at z
      exact z
    obtain ⟨m, hn, _⟩ := I'.loc
    have hn : s'.heap.Ns ce.locals m := hn
    rw [cL] at hn
    obtain ⟨f0, f1, f2, f3, f4, f5⟩ := I3.fpOk (Nat.le_refl _) nC
    exact ⟨m, hn, fun h'' sb => ⟨.ref D, H', I7.turned (t' := s'.toks) (fun b o hb e => (sb.2 b hb).trans e) f0 f1 f3 f4 f5, rfl, qq⟩⟩
end
section
variable {P : Program} {w : World} {A : Around} {E : Value → Shared → Prop} {s : Shared}
theorem sorted_setB {a : Addr} {L : List (Addr × List Int)} {es : Array (Int × Value)} {ep : Nat} {t : SetTable} {Q : Value → Shared → Prop} (R : Big P w s.heap a L es ep t) (hh : A.handled = none) (hu : A.units + 2 < cLine)
    (hQ : ∀ (s' : Shared) (p : Addr) (out : List Value) (c : Nat), (∀ b o, s.heap.get? b = some o → s'.heap.get? b = some o) → s'.gens = s.gens → s'.os = s.os → s.heap.objs.size ≤ p →
      s'.heap.get? p = some (seqObj "list" out.toArray c) → out.Perm (L.map fun q => Value.ref q.1) → out.Pairwise (fun u v => lex (keyV s.heap v) (keyV s.heap u) = false) → Q (.ref p) s') :
    wpAny (model P w) A (call (.builtin "sorted") [.ref a]) Q E s := by
  obtain ⟨o, ho, hex, hd⟩ := R.obj
  have few := R.most
  have size := R.len
  refine Calls.call_function_entry kind_sorted plain_sorted entry_sorted (args_sorted1 _) ?_
  unfold Builtin.«sorted»
  refine wpAny_bind (m := checkCount "sorted" 1 1 _) (wpAny_pure ?_)
  refine wpAny_bind (collect_set (A := A.in1) hh ⟨o, ho, hex.1, hd⟩ R.fits (by unfold scanBound; omega) R.tab.ris R.told fun s1 vs kp hz gens os pm => ?_)
  have rows : es.toList.map (·.2) = L.map fun q => Value.ref q.1 := by
    rw [R.rws]
    unfold L2.rowsOf
    rw [List.map_map] <;> rfl
  rw [rows] at pm
  have lv : vs.length ≤ sizeLine := by
    rw [pm.length_eq, List.length_map, sizeLine_eq]
    omega
  refine wpAny_bind (wpAny_newList ?_ lv)
  have hoL : (s1.heap.push (seqObj "list" vs.toArray 0)).get? s1.heap.objs.size = some (seqObj "list" vs.toArray 0) := Heap.get?_push_size _ rfl
  have ki : ∀ v ∈ vs, IsI (s1.heap.push (seqObj "list" vs.toArray 0)) v (keyV s.heap v) := fun v hv => by
    obtain ⟨q, hq, e⟩ := List.mem_map.mp (pm.mem_iff.mp hv)
    have hi := isI_T (R.tps q hq)
    rw [← e]
    rw [keyV_of hi]
    exact hi.keeps fun b u _ g => Heap.get?_push_of_some _ (kp b u g)
  refine wpAny_bind (wpAny_holding (sort_call (s := { s1 with heap := s1.heap.push (seqObj "list" vs.toArray 0) }) (A := A.in1) hoL lv (by show A.units + 1 + 1 < cLine; omega) ki fun out pw pe => ?_))
  obtain ⟨c, hc⟩ := sortedHeap_at (vs := vs) (out := out.toArray) hoL
  refine wpAny_pure ⟨_, rfl, hQ _ s1.heap.objs.size out c (fun b u e => ?_) gens os hz hc (pe.trans pm) pw⟩
  have q := kp b u e
  have lt := Heap.lt_size q
  show (sortedHeap (s1.heap.push (seqObj "list" vs.toArray 0)) s1.heap.objs.size vs out.toArray).get? b = some u
  rw [sortedHeap_old (Nat.ne_of_lt lt) (by rw [size_push']; exact Nat.lt_succ_of_lt lt)]
  exact Heap.get?_push_of_some _ q
end
section
variable {X : Cx} {pins : List (Addr × Obj)} {σ : L2.St} {H : Hp} {s : Shared}
/-- sorted(a set of tuples of ints) -/
def rSortB (K : PySem.W.Frag) (P : Program) (w : World) : List V → Hp → VK → Prop := fun vs H Q => ∃ (a : Addr) (L : List (Addr × List Int)), vs = [V.ref a] ∧ H a = some (BigO P w a L) ∧ (∀ p ∈ L, SqT K H p.1 (p.2.map V.int)) ∧
  ∀ (ys : List V) (gss : List (List Int)) (p : Addr), Paired (TupI K H) ys gss → gss.Pairwise (fun x y => lex x y = true) → (∀ z, z ∈ gss ↔ z ∈ L.map (·.2)) → ys.length < 307 → H p = none → Q (.ref p) (upd H p (.lst ys))
theorem cr_sortB (hc : X.calm = true) (hu : X.A.units + 64 < cLine) : CallR X (.builtin "sorted") (rSortB X.K X.prog X.w) := by
  intro pins s σ H vs us Q I r h
  obtain ⟨a, L, rfl, ha, hL, q⟩ := h
  rw [Vals.ref1 r]
  have hT : ∀ p ∈ L, IsT X.prog X.w s.heap p.2 p.1 := fun p hp => Inv.isT I (hL p hp)
  obtain ⟨es, ep, t, R⟩ := Big0.full (P := X.prog) (w := X.w) (show Big0 X.prog X.w s.heap a L from (I.hok a _ ha).1) hT
  refine sorted_setB R (I.ok.hd hc) (by omega) fun s' p out c kp gens os hz hc' pm pw => ?_
  have refs : ∀ u ∈ out, ∃ c, u = Value.ref c := fun u hu => by
    obtain ⟨z, hz, e⟩ := List.mem_map.mp (pm.mem_iff.mp hu)
    exact ⟨z.1, e.symm⟩
  have hlen : out.length < 307 := by
    rw [pm.length_eq, List.length_map]
    exact R.most
  have kk : ∀ z ∈ L, keyV s.heap (.ref z.1) = z.2 := fun z hz => keyV_of (isI_T (hT z hz))
  have J : Inv X pins σ (upd H p (.lst (out.map bkV))) s' := by
    obtain ⟨hh, g, d, tk, oo⟩ := s'
    have e1 : g = s.gens := gens
    have e2 : oo = s.os := os
    subst e1 e2
    have J0 := I.laid (a := p) (o := .lst (out.map bkV)) (h' := hh) (t' := tk) kp hz ⟨by rw [List.length_map]; exact Nat.le_of_lt (Nat.lt_trans hlen (by rw [sizeLine_eq]; decide)), out, c, bkV_vals refs, hc'⟩
    exact J0.call' (s' := ⟨hh, s.gens, d, tk, s.os⟩) (ch := []) rfl Un.refl J0.hok J0.bare fun b hb => absurd hb (by simp)
  refine ⟨.ref p, upd H p (.lst (out.map bkV)), J, rfl, q (out.map bkV) (out.map (keyV s.heap)) p ?_ ?_ (fun z => ?_) (by rw [List.length_map]; exact hlen) (I.hok.fresh hz)⟩
  · have all : ∀ l : List Value, (∀ u ∈ l, u ∈ out) → Paired (TupI X.K H) (l.map bkV) (l.map (keyV s.heap)) := by
      intro l
      induction l with
      | nil => intro _; exact .nil
      | cons u l ih =>
        intro hl'
        refine .cons ?_ (ih fun v hv => hl' v (List.mem_cons_of_mem _ hv))
        obtain ⟨z, hz, e⟩ := List.mem_map.mp (pm.mem_iff.mp (hl' u List.mem_cons_self))
        rw [← e, kk z hz]
        exact ⟨z.1, rfl, hL z hz⟩
    exact all out fun u hu => hu
  · have nd : (out.map (keyV s.heap)).Nodup := by
      have e : (L.map fun q => Value.ref q.1).map (keyV s.heap) = L.map (·.2) := by
        rw [List.map_map]
        exact List.map_congr_left fun z hz => kk z hz
      have pm2 := pm.map (keyV s.heap)
      rw [e] at pm2
      exact pm2.nodup_iff.mpr R.dis
    have pw2 : (out.map (keyV s.heap)).Pairwise (fun x y => lex y x = false) := List.pairwise_map.mpr pw
    refine List.Pairwise.imp₂ (fun x y h1 h2 => ?_) pw2 nd
    cases e : lex x y with
    | true => rfl
    | false => exact absurd (lex_tot x y e h1) h2
  · have e : (L.map fun q => Value.ref q.1).map (keyV s.heap) = L.map (·.2) := by
      rw [List.map_map]
      exact List.map_congr_left fun z hz => kk z hz
    have pm2 := pm.map (keyV s.heap)
    rw [e] at pm2
    exact pm2.mem_iff
end
end Bg

set_option maxHeartbeats 4000000
/-! set(t), t a tuple of at most 299 tuples of ints. -/
namespace Bg
open PySem PySem.Spec PyProof.Rows L2 PySem.W SrT
section
variable {P : Program} {w : World} {A : Around} {E : Value → Shared → Prop} {s : Shared}
theorem Big.stay {g g' : Heap} {a : Addr} {L : List (Addr × List Int)} {es : Array (Int × Value)} {ep : Nat} {t : SetTable} (R : Big P w g a L es ep t) (same : ∀ o, g.get? a = some o → g'.get? a = some o) (tk : ∀ q ∈ L, IsT P w g' q.2 q.1) : Big P w g' a L es ep t :=
  let ⟨o, h1, h2⟩ := R.obj
  ⟨⟨o, same o h1, h2⟩, R.rws, R.tab, R.dis, tk, R.pln, R.told, R.spare⟩
/-- what is kept of an earlier heap -/
abbrev Kp (g g' : Heap) : Prop := ∀ b o, g.get? b = some o → g'.get? b = some o
theorem Big.loop {it S : Addr} {fp wr : List Addr} {G : Array GenState → Array GenState → Prop} {n : Nat} {Pv : Nat → Value → Prop} {St : Nat → Shared → Prop} {R : Result → Shared → Prop} (W : WalksS P w A.in1 it fp wr G n Pv St) (apart : S ∉ fp)
    (ks : List (Addr × List Int)) (en : n = ks.length) (few : ks.length ≤ 299) (val : ∀ i v, Pv i v → ∃ q, ks[i]? = some q ∧ v = .ref q.1) (g0 : Heap) (tk : ∀ q ∈ ks, IsT P w g0 q.2 q.1) (s0 : g0.get? S = none) (w0 : ∀ b ∈ wr, g0.get? b = none) (hu : A.in1.units < cLine) (m : Nat) :
    ∀ (i : Nat) (s : Shared), n - i = m → i ≤ n → St i s → Kp g0 s.heap → (∃ L es ep t, Big P w s.heap S L es ep t ∧ Got ks i L) →
      (∀ s' L es ep t, Moved (S :: wr) G s s' → Big P w s'.heap S L es ep t → Got ks n L → Kp g0 s'.heap → R (.ok (.ret .none)) s') → codeAny (model P w) A (.builtin "set.update.loop" ⟨[.ref S, .ref it], []⟩) R s := by
  have Sw : S ∉ wr := fun z => apart (W.sub _ z)
  have sub : ∀ b ∈ wr, b ∈ S :: wr := fun b z => .tail _ z
  have kept : ∀ {u u' : Shared}, Moved wr G u u' → Kp g0 u.heap → Kp g0 u'.heap := fun mv kp b o e => mv.heap b o (fun z => nomatch (w0 b z).symm.trans e) (kp b o e)
  have stay : ∀ {u u' : Shared} {i : Nat} {L : List (Addr × List Int)} {es : Array (Int × Value)} {ep : Nat} {t : SetTable}, Moved wr G u u' → Kp g0 u'.heap → Got ks i L → Big P w u.heap S L es ep t → Big P w u'.heap S L es ep t := fun mv kp got B =>
    B.stay (fun o e => mv.heap S o Sw e) fun q hq => isT_keep (tk q (List.mem_of_mem_take (got.sub q hq))) kp
  induction m with
  | zero =>
    intro i s e1 e2 st kp ⟨L, es, ep, t, B, got⟩ fin
    obtain rfl : i = n := by omega
    refine codeAny_builtin F.entry_set_update_loop ?_
    rw [Around.under_plainId F.plain_set_update_loop _]
    refine show wpAny _ A.in1 (pyNext (.ref it) >>= _) _ _ s from wpAny_bind (W.done s _ _ st fun s' mv => show wpAny _ A.in1 (ret Value.none) _ _ s' from wpAny_pure ?_)
    exact fin s' L es ep t (mv.mono sub) (stay mv (kept mv kp) got B) got (kept mv kp)
  | succ m ih =>
    intro i s e1 e2 st kp ⟨L, es, ep, t, B, got⟩ fin
    have lt : i < n := by omega
    refine codeAny_builtin F.entry_set_update_loop ?_
    rw [Around.under_plainId F.plain_set_update_loop _]
    refine show wpAny _ A.in1 (pyNext (.ref it) >>= _) _ _ s from wpAny_bind (W.item i s _ _ lt st fun v s' pv st' mv => ?_)
    obtain ⟨q, hq, rfl⟩ := val i v pv
    have kp1 := kept mv kp
    have B1 := stay mv kp1 got B
    have isq := isT_keep (tk q (List.mem_of_getElem? hq)) kp1
    refine show wpAny _ A.in1 (holding [Value.ref q.1] (setAdd S (.ref q.1)) >>= _) _ _ s' from wpAny_bind (wpAny_holding ?_)
    unfold setAdd
    refine wpAny_holding (wpAny_bind (wpAny_pyHash_tuple hu isq (Big.add (s := { s' with toks := s'.toks + (q.2.length + 1) }) B1 isq hu (by have := got.len; omega) fun b g' L' es' ep' t' sb B2 gr => ?_)))
    have got' : Got ks (i + 1) L' := (Classical.em (q.2 ∈ L.map (·.2))).elim (fun c => by rw [gr.1 c]; exact got.same hq c) fun c => got.more hq (gr.2 c)
    have kp2 : Kp g0 g' := fun b o e => (sb.2 b fun z => nomatch (z ▸ s0).symm.trans e).trans (kp1 b o e)
    have out : ∀ {b : Addr}, b ≠ S → g'.get? b = s'.heap.get? b := fun z => sb.2 _ z
    refine wpAny_pure ⟨plainId_quiet F.plain_set_update_loop _, ih (i + 1) _ (by omega) lt (W.frame _ s' _ _ st' (Nat.le_add_right _ _) fun b hb o e => (out fun z => apart (z ▸ hb)).trans e) kp2 ⟨L', es', ep', t', B2, got'⟩ fun s2 L2 es2 ep2 t2 mv2 B3 got2 kp3 => ?_⟩
    exact fin s2 L2 es2 ep2 t2 (Moved.trans W.gtrans ((mv.mono sub).then_heap (Nat.le_add_right _ _) fun b o hb e => (out fun z => hb (z ▸ List.mem_cons_self)).trans e) mv2) B3 got2 kp3
/-- an empty set, just made -/
abbrev setOb (w : World) : Obj := { cls := .type "set", dict := none, data := .set #[] 0 (.fresh 0 0 (!w.params.followText "set-order")) }
theorem call_setB {l : Addr} {items : Array Value} (ks : List (Addr × List Int)) {Q : Value → Shared → Prop} (hh : A.handled = none) (hl : s.heap.IsTuple l items) (hit : items.toList = ks.map fun q => Value.ref q.1) (tk : ∀ q ∈ ks, IsT P w s.heap q.2 q.1) (few : ks.length ≤ 299) (hu : A.units + 3 < cLine)
    (fin : ∀ (g : Heap) (n : Nat) L es ep t, Big P w g s.heap.objs.size L es ep t → Got ks ks.length L → Kp s.heap g → Q (.ref s.heap.objs.size) { s with heap := g, toks := n }) : wpAny (model P w) A (call (.type "set") [.ref l]) Q E s := by
  have nk : items.size = ks.length := by rw [← Array.length_toList, hit, List.length_map]
  have ⟨c, tl, hmro⟩ := F.called_set.mro
  have mad := F.called_set.made
  have sbb := F.called_set.sub
  refine wpAny_call (codeAny_of_tree (show wpAny _ _ (callAny (.type "set") _) _ _ _ from wpAny_pure ⟨Code.quiet_builtin _ (by decide +kernel), codeAny_builtin F.entry_type_call ?_⟩))
  rw [Around.under_plain (weight_type_call_type "set" [.ref l] []) rfl]
  have t1 := F.called_set.notType
  have t2 := F.called_set.canCreate
  have t3 := F.typeCall_set_1 (.ref l)
  repeat any_goals first | assumption | wp_step
  refine codeAny_mono (code_set_led1 (.ref l) (E := E) (Q₁ := fun ob s₁ => ob = .ref s.heap.objs.size ∧ s₁ = { s with heap := s.heap.push (setOb w) }) ⟨rfl, rfl⟩) fun r s₁ hr => ?_
  match r, hr with
  | .ok (.ret ob), hr =>
    obtain ⟨rfl, rfl⟩ := hr
    have made : (s.heap.push (setOb w)).get? s.heap.objs.size = some (setOb w) := Heap.get?_push_size _ rfl
    have ty : Shared.TypeIs { s with heap := s.heap.push (setOb w) } (.ref s.heap.objs.size) "set" := ⟨_, made, rfl⟩
    have i1 := F.called_set.init.lookup
    have i2 := F.called_set.init.bind (.ref s.heap.objs.size)
    repeat any_goals first | assumption | wp_step
    refine codeAny_mono (codeAny_call_builtin (R := wants (fun r s₂ => r = .none ∧ ∃ g n L es ep t, s₂ = { s with heap := g, toks := n } ∧ Big P w g s.heap.objs.size L es ep t ∧ Got ks ks.length L ∧ Kp s.heap g) E) F.called_set.init.plain F.entry_set_init (check_set_init_1 ty ?_)) fun r₂ s₂ hr₂ => ?_
    · obtain ⟨⟨oc, od, odt, osl⟩, hol, hcl, nl, hdl⟩ := hl
      simp only at hcl hdl
      subst hcl hdl
      have there : Kp s.heap (s.heap.push (setOb w)) := fun b o e => Heap.get?_push_of_some _ e
      have hol' := there _ _ hol
      have f1 := F.sub_tuple_set
      have f2 := F.sub_tuple_frozenset
      have f3 : (Value.type "tuple" == Value.type "dict") = false := by decide
      have tup1 : (s.heap.push (setOb w)).IsTuple l items := ⟨_, hol', rfl, nl, rfl⟩
      unfold Builtin.«set.__init__» noKeywords Builtin.Frozenset.updateFrom
      generalize eIt : pyIter = PI
      wp_walk
      subst eIt
      refine wpAny_pyIter_tuple tup1 (wpAny_bind (wpAny_runValue ?_))
      have below : l < s.heap.objs.size := Heap.lt_size hol
      have hnd : A.in1.in1.in1.handled = none := by simp [hh]
      have sz : (s.heap.push (setOb w)).objs.size = s.heap.objs.size + 1 := Heap.size_push ..
      have away : l ≠ (s.heap.push (setOb w)).objs.size := by rw [sz]; exact Nat.ne_of_lt (Nat.lt_succ_of_lt below)
      have gone : ∀ b, s.heap.objs.size ≤ b → s.heap.get? b = none := fun b hb => by
        cases q : s.heap.get? b with
        | none => rfl
        | some o => exact absurd (Heap.lt_size q) (Nat.not_lt.mpr hb)
      refine Big.loop ((Walks.tuple hnd _ l away items).toS) (S := s.heap.objs.size) ?_ ks nk few (fun i v hv => ?_) s.heap tk (gone _ (Nat.le_refl _)) (fun b hb => gone b (by rw [List.mem_singleton.mp hb, sz]; exact Nat.le_succ _)) (by show A.units + 1 + 1 + 1 < cLine; omega) (items.size - 0) 0 _ rfl (Nat.zero_le _)
        ⟨⟨_, Heap.get?_push_size _ rfl, rfl, rfl⟩, tup1.push _⟩ (fun b o e => Heap.get?_push_of_some _ (there b o e)) ?_ ?_
      · rw [sz]
        simp only [List.mem_cons, List.not_mem_nil, or_false, not_or]
        
        exact ⟨Nat.ne_of_lt (Nat.lt_succ_self _), (Nat.ne_of_lt below).symm⟩
      · have z : items.toList[i]? = some v := by
          rw [Array.getElem?_toList]
          exact hv
        rw [hit, List.getElem?_map] at z
        obtain ⟨q, h1, h2⟩ := Option.map_eq_some_iff.mp z
        exact ⟨q, h1, h2.symm⟩
      · exact ⟨[], #[], 0, _, Big.new (Heap.get?_push_of_some _ made), Got.zero ks⟩
      · intro s' L es ep t mv B got kp
        obtain ⟨g, g2, d2, n, os2⟩ := s'
        obtain rfl : g2 = s.gens := mv.gens
        obtain rfl : d2 = s.drawn := mv.drawn
        obtain rfl : os2 = s.os := mv.os
        rw [nk] at got
        refine show wpAny _ _ _ _ _ _ from wpAny_pure (show wpAny _ _ (ret Value.none) _ _ _ from wpAny_pure ⟨rfl, g, n, L, es, ep, t, rfl, B, got, kp⟩)
    · match r₂, hr₂ with
      | .ok (.ret ob2), hr2 =>
        obtain ⟨rfl, g, n, L, es, ep, t, rfl, B, got, kp⟩ := hr2
        repeat any_goals first | assumption | wp_step
        exact fin _ _ _ _ _ _ B got kp
      | .error e, z => exact z
      | .ok .next, z => exact z.elim
      | .ok .brk, z => exact z.elim
      | .ok .cont, z => exact z.elim
  | .error e, z => exact z
  | .ok .next, z => exact z.elim
  | .ok .brk, z => exact z.elim
  | .ok .cont, z => exact z.elim
end
section
variable {X : Cx}
/-- set(t), t a tuple of tuples of ints -/
def rSetB (K : PySem.W.Frag) (P : Program) (w : World) : List V → Hp → VK → Prop := fun xs H Q => ∃ (l : Addr) (ks : List (Addr × List Int)), xs = [V.ref l] ∧ SqT K H l (ks.map fun q => V.ref q.1) ∧ (∀ q ∈ ks, SqT K H q.1 (q.2.map V.int)) ∧ ks.length ≤ 299 ∧
  ∀ a L, H a = none → (∀ q ∈ L, q ∈ ks) → (∀ q ∈ ks, q.2 ∈ L.map (·.2)) → Q (.ref a) (upd H a (BigO P w a L))
theorem cr_setB (hc : X.calm = true) (hu : X.A.units + 64 < cLine) : CallR X (.type "set") (rSetB X.K X.prog X.w) := by
  intro pins s σ H xs us Q I r h
  obtain ⟨l, ks, rfl, hl, hk, few, q⟩ := h
  rw [Vals.ref1 r]
  obtain ⟨its, rv, pl, _⟩ := I.tuple hl
  have new : H s.heap.objs.size = none := I.hok.fresh (Nat.le_refl _)
  exact call_setB (P := X.prog) (w := X.w) ks (I.ok.hd hc) (show s.heap.IsTuple l its.toArray from pl) (by simpa using refs_of_vals rv) (fun p hp => I.isT (hk p hp)) few (by omega) fun g n L es ep t B got kp =>
    ⟨.ref s.heap.objs.size, _, I.laid (t' := n) kp (Nat.le_refl _) (bigO_new B.t0), rfl, q _ L new (fun p hp => List.mem_of_mem_take (got.sub p hp)) fun p hp => got.all p (by rw [List.take_length]; exact hp)⟩
end
end Bg

set_option maxHeartbeats 4000000
namespace Lf
open PySem PySem.Spec PyProof.Rows L2 GxR GxA SrT Bg
abbrev sIsStackL : Stmt := topS 45
theorem scIsStackL : FnScope ["_law_thing", "_law_n", "_law_k", "_law_faces", "_law_face"] ["_law_thing"] (defScope sIsStackL) := ⟨rfl, rfl, rfl, by decide +kernel, rfl, by decide +kernel, by decide +kernel⟩
/-- its faces are short -/
def ShortF (d : PyData) : Prop := ∀ x y ds, d = .tuple [x, y, .tuple ds] → ∀ e ∈ ds, lenD e ≤ 900
theorem lex_ext {a b : List (List Int)} (ha : a.Pairwise (fun x y => lex x y = true)) (hb : b.Pairwise (fun x y => lex x y = true)) (h : ∀ x, x ∈ a ↔ x ∈ b) : a = b := by
  induction a generalizing b with
  | nil =>
    cases b with
    | nil => rfl
    | cons y b => exact absurd ((h y).mpr (by simp)) (by simp)
  | cons x a ih =>
    cases b with
    | nil => exact absurd ((h x).mp (by simp)) (by simp)
    | cons y b =>
      rw [List.pairwise_cons] at ha hb
      have no : ∀ u v : List Int, lex u v = true → lex v u = true → False := fun u v h1 h2 => by
        have z := lexT h1 h2
        rw [SrT.lex_irrefl] at z
        cases z
      have e : x = y := by
        rcases List.mem_cons.mp ((h x).mp (by simp)) with e | m1
        · exact e
        · rcases List.mem_cons.mp ((h y).mpr (by simp)) with e | m2
          · exact e.symm
          · exact (no _ _ (ha.1 y m2) (hb.1 x m1)).elim
      subst e
      rw [ih ha.2 hb.2 fun z => ?_]
      constructor
      · intro m
        rcases List.mem_cons.mp ((h z).mp (List.mem_cons_of_mem _ m)) with e | m2
        · subst e
          exact (no _ _ (ha.1 _ m) (ha.1 _ m)).elim
        · exact m2
      · intro m
        rcases List.mem_cons.mp ((h z).mpr (List.mem_cons_of_mem _ m)) with e | m2
        · subst e
          exact (no _ _ (hb.1 _ m) (hb.1 _ m)).elim
        · exact m2
/-- the faces as they lie -/
theorem keys_of {K : PySem.W.Frag} {H : Hp} {ys : List V} {fss : List (List Int)} (h : Paired (TupI K H) ys fss) : ∃ ks : List (Addr × List Int), ys = ks.map (fun q => V.ref q.1) ∧ fss = ks.map (·.2) ∧ ∀ q ∈ ks, SqT K H q.1 (q.2.map V.int) := by
  induction h with
  | nil => exact ⟨[], rfl, rfl, fun q hq => by cases hq⟩
  | cons h1 h2 ih =>
    obtain ⟨t, rfl, ht⟩ := h1
    obtain ⟨ks, rfl, rfl, hk⟩ := ih
    refine ⟨(t, _) :: ks, rfl, rfl, fun q hq => ?_⟩
    rcases List.mem_cons.mp hq with rfl | hq
    · exact ht
    · exact hk q hq
section
variable {P : Program} {w : World} {K : PySem.W.Frag} {mg : Str → Option Value} {base : Heap} {Ps : Tbs} {H H' H0 : Hp} {k : Nat} {f c : Addr} {fd : FuncData}
def spIsStackL (K : PySem.W.Frag) (Ps : Tbs) : Sp := fun vs H Q _ => ∃ (x : V) (d : PyData), vs = [x] ∧ Th K H x d ∧ wide d = true ∧ ShortF d ∧ Tb Ps H ∧ ∀ H', Ext Ps H H' → Q (.bl (isStackD d)) H'
theorem intD_of {d : PyData} (h : isIntD d = true) : ∃ i, d = .int i := by
  cases d with
  | int i => exact ⟨i, rfl⟩
  | _ => cases h
theorem ok_isStackL {fW cW fR cR : Addr} {fdW fdR : FuncData} (D : Def K mg "_law_is_stack" sIsStackL ["_law_thing"] f fd c) (DW : Def K mg "_law_whole" sWhole ["_law_found"] fW fdW cW) (GW : FnOk P w K mg base CX0 k fW fdW ["_law_found"] (spWhole K))
    (DR : Def K mg "_law_rising" sRisingL ["_law_many", "_law_thing"] fR fdR cR) (GR : FnOk P w K mg base CX0 k fR fdR ["_law_many", "_law_thing"] (spRisingL K Ps))
    (mi : mg "isinstance" = none) (mt : mg "tuple" = none) (ml : mg "len" = none) (mm : mg "min" = none) (mL : mg "list" = none) (ms : mg "sorted" = none) (mst : mg "set" = none) : FnOk P w K mg base CX0 (k + 1) f fd ["_law_thing"] (spIsStackL K Ps) := by
  refine D.ok (k := k) scIsStackL (fun vs H Q E h => ?_) (fun A outer s H vs Q E hr h => ?_)
  · obtain ⟨x, d, rfl, _⟩ := h
    rfl
  · obtain ⟨x, d, rfl, hx, hw, hsf, ht, q⟩ := h
    refine ⟨_, (pss_cons (ps_if (PW.pt (pw_or (pt_not (pt_val (pe_callB call_isi (by rfl) mi (by decide +kernel) (pa_cons (pv 0) (pa_cons (pe_bltn (v := .ty "tuple") (by rfl) mt (by decide +kernel) rfl) pa_nil))))) (pw_or1 (pt_cmpR op_ne (pe_callB (call_lenS (K := K) rfl) (by rfl) ml PySem.boot_len (pa_cons (pv 0) pa_nil)) pe_int (nomark _))))) (pss_one (ps_ret pe_bl)) pss_nil) (pss_cons (ps_asg (pv 0) (pg_tup (by rfl) (pgs_cons (pg_name (i := 1) scIsStackL.nd rfl (.inl rfl)) (pgs_cons (pg_name (i := 2) scIsStackL.nd rfl (.inl rfl)) (pgs_cons (pg_name (i := 3) scIsStackL.nd rfl (.inl rfl)) pgs_nil))))) (pss_cons (ps_if (PW.pt (pw_or (pt_not (pt_val (pcl DW GW hr (pa_cons (pv 1) pa_nil)))) (pw_or1 (pt_not (pt_val (pcl DW GW hr (pa_cons (pv 2) pa_nil))))))) (pss_one (ps_ret pe_bl)) pss_nil) (pss_cons (ps_if (PW.pt (pw_or (pt_not (pt_chain op_le op_le pe_int (pv 1) pe_int)) (pw_or1 (pt_not (pt_chain op_le op_le pe_int (pv 2) (pe_callB (call_min2 rfl) (by rfl) mm (by decide +kernel) (pa_cons (pv 1) (pa_cons pe_int pa_nil)))))))) (pss_one (ps_ret pe_bl)) pss_nil) (pss_cons (ps_if (PW.pt (pw_or (pt_not (pt_val (pe_callB call_isi (by rfl) mi (by decide +kernel) (pa_cons (pv 3) (pa_cons (pe_bltn (v := .ty "tuple") (by rfl) mt (by decide +kernel) rfl) pa_nil))))) (pw_or1 (pt_not (pt_chain op_le op_le pe_int (pe_callB call_len_seq (by rfl) ml PySem.boot_len (pa_cons (pv 3) pa_nil)) pe_int))))) (pss_one (ps_ret pe_bl)) pss_nil) (pss_cons (ps_for PassesOwn.never rfl (pi_tup (pv 3)) (pg_name (i := 4) scIsStackL.nd rfl (.inl rfl)) (pss_one (ps_if (PW.pt (pw_or (pt_not (pt_val (pcl DR GR hr (pa_cons (pv 1) (pa_cons (pv 4) pa_nil))))) (pw_or1 (pt_cmpR op_ne (pe_callB (call_lenS (K := K) rfl) (by rfl) ml PySem.boot_len (pa_cons (pv 4) pa_nil)) (pv 2) (nomark _))))) (pss_one (ps_ret pe_bl)) pss_nil))) (pss_one (ps_ret (pe_cmpR (op_eqD hr.units) (pe_callTy call_list_of (by rfl) mL (by decide +kernel) (pa_cons (pv 3) pa_nil)) (pe_callB (show CallR _ _ (Bg.rSortB K P w) from Bg.cr_sortB rfl (Nat.lt_of_le_of_lt (Nat.add_le_add_left (by decide) _) hr.units)) (by rfl) ms (by decide +kernel) (pa_cons (pe_callTy (show CallR _ _ (Bg.rSetB K P w) from Bg.cr_setB rfl (Nat.lt_of_le_of_lt (Nat.add_le_add_left (by decide) _) hr.units)) (by rfl) mst (by decide +kernel) (pa_cons (pv 3) pa_nil)) pa_nil)) (nomark _)))))))))), ?_⟩
    obtain ⟨t, ty, hk⟩ := tup_kit hx
    have qf : ∀ H', Ext Ps H H' → isStackD d = false → Q (.bl false) H' := fun H' e1 e => by
      have z := q _ e1
      rw [e] at z
      exact z
    have qf0 : isStackD d = false → Q (.bl false) H := qf H (Ext.refl ht)
    refine ⟨x, rfl, x, .ty "tuple", .type t, .type "tuple", isTup d, rfl, .ty _, ty, kit_ty hk, isTup d, rfl, ?_⟩
    cases d with
    | tuple ds =>
      cases hx with
      | @tup a xs _ hS ha =>
      have hlen := thAll_len ha
      refine iteF ⟨.ref a, rfl, a, xs, rfl, .inr hS, rfl, !decide (xs.length = 3), ?_, ?_⟩
      · refine congrArg V.bl ?_
        by_cases e : xs.length = 3
        · rw [decide_eq_true e, decide_eq_true (by rw [e]; rfl)]
        · rw [decide_eq_false e, decide_eq_false (fun z => e (by have := V.int.inj z; omega))]
      match ds, xs, ha, hlen with
      | [d1, d2, d3], [x1, x2, x3], .cons h1 (.cons h2 (.cons h3 .nil)), _ =>
        obtain ⟨_, hw2⟩ := wide_tup hw
        refine iteF ⟨.ref a, rfl, a, _, rfl, hS, rfl, _, _, rfl, _, _, rfl, _, _, rfl, rfl, ?_⟩
        have n3 : ∀ {p : Prop}, (isStackD (.tuple [d1, d2, d3]) = true → p) → ¬ p → isStackD (.tuple [d1, d2, d3]) = false := fun h1 h2 => by
          cases e : isStackD (.tuple [d1, d2, d3]) with
          | false => rfl
          | true => exact absurd (h1 e) h2
        refine ⟨x1, rfl, x1, d1, rfl, h1, _, rfl, ?_⟩
        cases b1 : isIntD d1 with
        | false =>
          refine iteT (qf0 (n3 (p := isIntD d1 = true) (fun e => ?_) (by rw [b1]; simp)))
          obtain ⟨n, kk, rfl, _⟩ := isStackD_3 _ _ _ e
          rfl
        | true =>
        obtain ⟨n, rfl⟩ := intD_of b1
        refine iteF ⟨x2, rfl, x2, d2, rfl, h2, _, rfl, ?_⟩
        cases b2 : isIntD d2 with
        | false =>
          refine iteT (qf0 (n3 (p := isIntD d2 = true) (fun e => ?_) (by rw [b2]; simp)))
          obtain ⟨n', kk, _, rfl, _⟩ := isStackD_3 _ _ _ e
          rfl
        | true =>
        obtain ⟨kk, rfl⟩ := intD_of b2
        cases h1
        cases h2
        have whole : 1 ≤ n ∧ n ≤ 8 ∧ 0 ≤ kk ∧ kk ≤ n ∧ kk ≤ 4 → isStackD (.tuple [.int n, .int kk, d3]) = facesD n kk d3 := fun h => by
          show (decide (1 ≤ n ∧ n ≤ 8) && decide (0 ≤ kk ∧ kk ≤ n ∧ kk ≤ 4) && facesD n kk d3) = _
          rw [decide_eq_true (show 1 ≤ n ∧ n ≤ 8 from ⟨h.1, h.2.1⟩), decide_eq_true h.2.2]
          rfl
        have nums : isStackD (.tuple [.int n, .int kk, d3]) = true → 1 ≤ n ∧ n ≤ 8 ∧ 0 ≤ kk ∧ kk ≤ n ∧ kk ≤ 4 := fun e => by
          obtain ⟨n', k', e0, e9, e1, e2, e3, e4, e5, _⟩ := isStackD_3 _ _ _ e
          cases e0
          cases e9
          exact ⟨e1, e2, e3, e4, e5⟩
        refine iteF ⟨.int n, rfl, 1, n, rfl, rfl, _, rfl, ?_⟩
        by_cases c1 : 1 ≤ n
        · rw [decide_eq_true c1]
          refine iteT ⟨n, 8, rfl, rfl, decide (n ≤ 8), rfl, ?_⟩
          by_cases c2 : n ≤ 8
          · rw [decide_eq_true c2]
            refine iteF ⟨.int kk, rfl, 0, kk, rfl, rfl, _, rfl, ?_⟩
            by_cases c3 : 0 ≤ kk
            · rw [decide_eq_true c3]
              refine iteT ⟨.int n, rfl, n, 4, rfl, kk, _, rfl, rfl, _, rfl, ?_⟩
              by_cases c4 : kk ≤ n ∧ kk ≤ 4
              · rw [decide_eq_true (show kk ≤ (if (4 : Int) < n then (4 : Int) else n) by split <;> omega)]
                have ef := whole ⟨c1, c2, c3, c4.1, c4.2⟩
                rw [ef] at q qf0
                have qf3 : ∀ H', Ext Ps H H' → facesD n kk d3 = false → Q (.bl false) H' := fun H' e1 e => by
                  have z := q _ e1
                  rw [e] at z
                  exact z
                obtain ⟨t3, ty3, hk3⟩ := tup_kit h3
                refine iteF ⟨x3, rfl, x3, .ty "tuple", .type t3, .type "tuple", isTup d3, rfl, .ty _, ty3, kit_ty hk3, isTup d3, rfl, ?_⟩
                cases d3 with
                | tuple fs =>
                  have hsh := hsf _ _ fs rfl
                  have hwf := wide_tup (hw2 (.tuple fs) (by simp))
                  cases h3 with
                  | @tup b ys _ hF hA =>
                  have hyl := thAll_len hA
                  refine iteF ⟨.ref b, rfl, b, ys, rfl, .inr hF, 1, (ys.length : Int), rfl, rfl, decide ((1 : Int) ≤ (ys.length : Int)), rfl, ?_⟩
                  by_cases c5 : 1 ≤ fs.length
                  · rw [decide_eq_true (show (1 : Int) ≤ (ys.length : Int) by omega)]
                    refine iteT ⟨(ys.length : Int), 70, rfl, rfl, decide ((ys.length : Int) ≤ 70), rfl, ?_⟩
                    by_cases c6 : fs.length ≤ 70
                    · rw [decide_eq_true (show (ys.length : Int) ≤ 70 by omega)]
                      have efd : facesD n kk (.tuple fs) = ((fs.all fun f => risD f n && decide ((lenD f : Int) = kk)) && adjB lex (fs.map intsOf)) := by
                        show (decide (1 ≤ fs.length ∧ fs.length ≤ 70) && (fs.all fun f => risD f n && decide ((lenD f : Int) = kk)) && adjB lex (fs.map intsOf)) = _
                        rw [decide_eq_true (show 1 ≤ fs.length ∧ fs.length ≤ 70 from ⟨c5, c6⟩), Bool.true_and]
                      refine iteF ⟨.ref b, rfl, b, rfl, ⟨_, hF⟩, for_tup (K := K) (a := b) (xs := ys) (fun i σ H3 => Ext Ps H H3 ∧ ((fs.take i).all fun f => risD f n && decide ((lenD f : Int) = kk)) = true ∧ ∃ y : Option V, σ = [some (.ref a), some (.int n), some (.int kk), some (.ref b), y]) ⟨Ext.refl ht, rfl, none, rfl⟩ (fun i σ H3 _ p => p.1.sqT hF) (fun i y σ H3 hy p => ?_) (fun σ H3 p => ?_)⟩
                      · obtain ⟨e1, h5, y0, rfl⟩ := p
                        obtain ⟨d', hd', hy'⟩ := thAll_get hA hy
                        have hm := List.mem_of_getElem? hd'
                        have wrong : (risD d' n && decide ((lenD d' : Int) = kk)) = false → facesD n kk (.tuple fs) = false := fun hb => by
                          have z : (fs.all fun f => risD f n && decide ((lenD f : Int) = kk)) = false := by
                            rw [List.all_eq_false]
                            exact ⟨d', hm, by rw [hb]; simp⟩
                          rw [efd, z, Bool.false_and]
                        refine ⟨.int n, rfl, y, rfl, n, y, d', rfl, (by omega), e1.th hy', hwf.2 d' hm, e1.tb, hsh d' hm, fun H4 e4 => ⟨_, rfl, ?_⟩⟩
                        have e14 := e1.trans e4
                        cases hb : risD d' n with
                        | false => exact iteT (qf3 _ e14 (wrong (by rw [hb]; rfl)))
                        | true =>
                          obtain ⟨g, rfl, hg1, hg2⟩ := risD_iff.mp hb
                          obtain ⟨gt, rfl, hgs⟩ := th_tupI (ns := g) (e14.th hy')
                          have el : lenD (tD g) = g.length := List.length_map ..
                          refine iteF ⟨.ref gt, rfl, gt, _, rfl, .inr hgs, .int kk, rfl, rfl, !decide ((g.length : Int) = kk), ?_, ?_⟩
                          · rw [List.length_map]
                            refine congrArg V.bl ?_
                            by_cases e9 : (g.length : Int) = kk
                            · rw [decide_eq_true e9, decide_eq_true (congrArg V.int e9)]
                            · rw [decide_eq_false e9, decide_eq_false (fun z => e9 (V.int.inj z))]
                          · by_cases e9 : (g.length : Int) = kk
                            · rw [decide_eq_true e9]
                              refine iteF ⟨e14, ?_, _, rfl⟩
                              rw [List.take_add_one, hd', List.all_append, h5]
                              simp only [Bool.true_and, Option.toList_some, List.all_cons, List.all_nil, Bool.and_true]
                              rw [hb, el, decide_eq_true e9]
                              rfl
                            · rw [decide_eq_false e9]
                              exact iteT (qf3 _ e14 (wrong (by rw [hb, el, decide_eq_false e9]; rfl)))
                      · obtain ⟨e1, h5, y0, rfl⟩ := p
                        rw [hyl, List.take_length] at h5
                        obtain ⟨fss, rfl, hg⟩ := all_ris h5
                        obtain ⟨gss, hp, e4⟩ := th_asTups (e1.thAll hA) fun d hd => by
                          obtain ⟨g, _, rfl⟩ := List.mem_map.mp hd
                          exact ⟨g, rfl⟩
                        have e5 : fss = gss := by
                          have z := congrArg (List.map intsOf) e4
                          rw [map_ints, map_ints] at z
                          exact z
                        subst e5
                        rw [efd, h5, Bool.true_and, map_ints] at q
                        rw [List.length_map] at c5 c6
                        have hF1 := e1.sqT hF
                        obtain ⟨ks, rfl, rfl, hkk⟩ := keys_of hp
                        refine ⟨.ref b, rfl, b, _, rfl, .inr hF1, fun l nl => ?_⟩
                        have e2 := Ext.new (o := .lst (ks.map fun q => V.ref q.1)) e1.tb nl
                        refine ⟨.ref b, rfl, b, ks, rfl, e2.sqT hF1, fun q hq => e2.sqT (hkk q hq), by rw [List.length_map] at c6; omega, fun sa L nsa hL1 hL2 => ?_⟩
                        have e3 := Ext.new (o := BigO P w sa L) e2.tb nsa
                        refine ⟨sa, L, rfl, upd_same, fun p hp => e3.sqT (e2.sqT (hkk p (hL1 p hp))), fun us gss pp h7 h8 h9 h10 np => ?_⟩
                        have e4 := Ext.new (o := .lst us) e3.tb np
                        have hp4 := (e2.trans (e3.trans e4)).tups hp
                        have hq4 := e4.tups h7
                        refine ⟨.list ((ks.map fun q : Addr × List Int => q.2).map tD), .list (gss.map tD), .lst (.inl (.inl ((e3.trans e4).lst upd_same))) (dp_tups hp4), .lst (.inl (.inl upd_same)) (dp_tups hq4), shp_tups _, shp_tups _, ?_⟩
                        rw [PyData.eqv, eqv_tups]
                        have fin := q _ (e1.trans (e2.trans (e3.trans e4)))
                        have hmem : ∀ z, z ∈ ks.map (·.2) ↔ z ∈ gss := fun z => by
                          rw [h9]
                          constructor
                          · intro hz
                            obtain ⟨q, hq, rfl⟩ := List.mem_map.mp hz
                            exact hL2 q hq
                          · intro hz
                            obtain ⟨q, hq, rfl⟩ := List.mem_map.mp hz
                            exact List.mem_map.mpr ⟨q, hL1 q hq, rfl⟩
                        have ee : adjB lex (ks.map (·.2)) = decide (ks.map (·.2) = gss) := by
                          cases hb2 : adjB lex (ks.map (·.2)) with
                          | true => exact (decide_eq_true (lex_ext ((adjB_pw (lt := lex) fun a b c => lexT).mp hb2) h8 hmem)).symm
                          | false =>
                            symm
                            refine decide_eq_false fun e => ?_
                            rw [← e] at h8
                            rw [(adjB_pw (lt := lex) fun a b c => lexT).mpr h8] at hb2
                            cases hb2
                        rw [← ee]
                        exact fin
                    · rw [decide_eq_false (show ¬ (ys.length : Int) ≤ 70 by omega)]
                      refine iteT (qf3 _ (Ext.refl ht) ?_)
                      show (decide (1 ≤ fs.length ∧ fs.length ≤ 70) && (fs.all fun f => risD f n && decide ((lenD f : Int) = kk)) && adjB lex (fs.map intsOf)) = false
                      rw [decide_eq_false (by omega)]
                      rfl
                  · rw [decide_eq_false (show ¬ (1 : Int) ≤ (ys.length : Int) by omega)]
                    refine iteF ⟨false, rfl, iteT (qf3 _ (Ext.refl ht) ?_)⟩
                    show (decide (1 ≤ fs.length ∧ fs.length ≤ 70) && (fs.all fun f => risD f n && decide ((lenD f : Int) = kk)) && adjB lex (fs.map intsOf)) = false
                    rw [decide_eq_false (by omega)]
                    rfl
                | _ => exact iteT (qf0 rfl)
              · rw [decide_eq_false (show ¬ kk ≤ (if (4 : Int) < n then (4 : Int) else n) by split <;> omega)]
                exact iteT (qf0 (n3 nums (by omega)))
            · rw [decide_eq_false c3]
              exact iteF ⟨false, rfl, iteT (qf0 (n3 nums (by omega)))⟩
          · rw [decide_eq_false c2]
            exact iteT (qf0 (n3 nums (by omega)))
        · rw [decide_eq_false c1]
          exact iteF ⟨false, rfl, iteT (qf0 (n3 nums (by omega)))⟩
      | [], [], _, _ => exact iteT (qf0 (isStackD_len (by simp)))
      | [_], [_], _, _ => exact iteT (qf0 (isStackD_len (by simp)))
      | [_, _], [_, _], _, _ => exact iteT (qf0 (isStackD_len (by simp)))
      | d1 :: d2 :: d3 :: d4 :: ds, x1 :: x2 :: x3 :: x4 :: xs, _, _ =>
        have e3 : decide ((x1 :: x2 :: x3 :: x4 :: xs).length = 3) = false := decide_eq_false (by simp)
        rw [e3]
        exact iteT (qf0 (isStackD_len (by simp)))
    | none => exact iteT (qf0 rfl)
    | bool b => exact iteT (qf0 rfl)
    | int i => exact iteT (qf0 rfl)
    | str z => exact iteT (qf0 rfl)
    | list ds => exact iteT (qf0 rfl)
    | dict kvs => exact iteT (qf0 rfl)
end
end Lf

set_option maxHeartbeats 1000000
namespace Lf
open PySem PySem.Spec PyProof.Rows L2 GxR GxA SrT
section
variable {X : Cx} {Ps : Tbs}
/-- t + u, two tuples of ints: some tuple of both -/
def rCatI (K : PySem.W.Frag) (Ps : Tbs) : R2 := fun x y H Q => ∃ us vs : List Int, TupI K H x us ∧ TupI K H y vs ∧ us.length + vs.length ≤ 1000 ∧ Tb Ps H ∧ ∀ v H3, Ext Ps H H3 → TupI K H3 v (us ++ vs) → Q v H3
theorem op_catI : OpR X (binaryOp .Add) (rCatI X.K Ps) := by
  intro pins s σ H x y v u Q I rx ry h
  obtain ⟨us, vs, ⟨a, rfl, ha⟩, ⟨b, rfl, hb⟩, hl, ht, q⟩ := h
  refine op_catA pins s σ H _ _ v u Q I rx ry ⟨a, b, _, _, rfl, rfl, ha, hb, ?_, fun e => ?_, fun _ e => ?_, fun _ _ p np => ?_⟩
  · rw [List.length_map, List.length_map, sizeLine_eq]
    omega
  · have e1 : us = [] := List.map_eq_nil_iff.mp e
    subst e1
    exact q _ _ (Ext.refl ht) ⟨b, rfl, hb⟩
  · have e1 : vs = [] := List.map_eq_nil_iff.mp e
    subst e1
    exact q _ _ (Ext.refl ht) ⟨a, rfl, by rw [List.append_nil]; exact ha⟩
  · exact q _ _ (Ext.new ht np) ⟨p, rfl, .inl (.inl (by rw [List.map_append]; exact upd_same))⟩
/-- t[:i], t[i:]: some tuple of those -/
def rSlI (K : PySem.W.Frag) (Ps : Tbs) : V → Option Int → Option Int → Hp → VK → Prop := fun x lo hi H Q => ∃ us ws : List Int, TupI K H x us ∧ Tb Ps H ∧ cutV (us.map V.int) lo hi = ws.map V.int ∧ ∀ v H3, Ext Ps H H3 → TupI K H3 v ws → Q v H3
theorem sl_tupI : SlR X (rSlI X.K Ps) := by
  intro pins s σ H x v vl vu lo hi sl Q I rx hs pl pu h
  obtain ⟨us, ws, ⟨a, rfl, ha⟩, ht, hw, q⟩ := h
  refine sl_tupA pins s σ H _ v vl vu lo hi sl Q I rx hs pl pu ⟨a, _, rfl, ha, fun z => ?_, fun _ p np => ?_⟩
  · refine q _ _ (Ext.refl ht) ⟨a, rfl, ?_⟩
    have e : cutV (us.map V.int) lo hi = us.map V.int := by
      unfold cutV
      rw [z.1, z.2, List.drop_zero, Nat.sub_zero, List.take_length]
    rw [← hw, e]
    exact ha
  · exact q _ _ (Ext.new ht np) ⟨p, rfl, .inl (.inl (by rw [← hw]; exact upd_same))⟩
end
end Lf

set_option maxHeartbeats 2000000
namespace Lf
open PySem PySem.Spec PyProof.Rows L2 GxR GxA SrT
theorem facesAt_take (fss : List (List Int)) (ns : List Int) (i : Nat) : facesAt fss (ns.take i) = (facesAt fss ns).take i := by
  unfold facesAt
  rw [List.map_take]
theorem cut_intsT {ns : List Int} {i : Nat} (h : i ≤ ns.length) : cutV (ns.map V.int) none (some (i : Int)) = (ns.take i).map V.int := by
  rw [cut_take (by rw [List.length_map]; exact h), List.map_take]
section
variable {P : Program} {w : World} {K : PySem.W.Frag} {mg : Str → Option Value} {base : Heap} {Ps : Tbs} {H H' H0 : Hp} {k : Nat} {f c : Addr} {fd : FuncData}
/-! ### _law_at of a tuple -/
def spAtT (K : PySem.W.Frag) (Ps : Tbs) : Sp := fun vs H Q _ => ∃ (x y : V) (n k : Int) (fss : List (List Int)) (ns : List Int), vs = [x, y] ∧ Stk K H x n k fss ∧ TupI K H y ns ∧ (∀ i ∈ ns, 0 ≤ i ∧ i < (fss.length : Int)) ∧ ns.length ≤ 100 ∧ Tb Ps H ∧
  ∀ l ys H', Ext Ps H H' → H l = none → H' l = some (.lst ys) → Paired (TupI K H') ys (facesAt fss ns) → Q (.ref l) H'
/-! ### _law_wrong -/
/-! ### _law_is_order -/
def spIsOrderE (K : PySem.W.Frag) (Ps : Tbs) : Sp := fun vs H Q _ => ∃ (x y : V) (n kk : Int) (fss : List (List Int)) (d : PyData), vs = [x, y] ∧ AskX K Ps H x y n kk fss d ∧ ∀ b H', (b = true ↔ OrdD d fss) → Ext Ps H H' → Q (.bl b) H'
end
end Lf

set_option maxHeartbeats 1000000
/-! tuples that are known to their object: methods of them -/
namespace Lf
open PySem PySem.Spec PyProof.Rows L2
def FzT (H : Hp) (t : Addr) : Prop := ∃ (o : Obj) (u : HO), H t = some (.frz o u) ∧ o.cls = .type "tuple" ∧ o.dict = none
section
variable {X : Cx}
theorem call_tuple_frz : CallR X (.type "tuple") (fun xs H Q => ∃ p ys, xs = [.ref p] ∧ SqL X.K H p ys ∧ ∀ (l : Addr) (o : Obj), o.cls = .type "tuple" → o.dict = none → H l = none → Q (.ref l) (upd H l (.frz o (.tup ys)))) := by
  intro pins s σ H xs us Q I r h
  obtain ⟨p, ys, rfl, hq, q⟩ := h
  obtain ⟨u, rfl, rx⟩ := vals1 r
  cases rx
  obtain ⟨its, r', pl, hz⟩ := I.list hq
  have hlen := r'.length
  refine call_tuple_list pl.isList (fun h' kp => ?_) (by simp only [List.size_toArray] <;> omega)
  have I1 : L2.Inv X pins σ H { s with heap := h' } := I.kept (t' := s.toks) kp
  have I2 : L2.Inv X pins σ (upd H h'.objs.size (.frz { cls := .type "tuple", data := .seq its.toArray } (.tup ys))) { s with heap := h'.push { cls := .type "tuple", data := .seq its.toArray } } :=
    I1.laid (t' := s.toks) (fun b o e => Heap.get?_push_of_some _ e) (Nat.le_refl _) (show ObjOk X.prog X.w _ _ _ (.frz _ (.tup ys)) from ⟨Heap.get?_push_size _ rfl, hz, its, r', IsTup.new _ _⟩)
  exact ⟨.ref h'.objs.size, _, I2, rfl, q _ _ rfl rfl (I1.hok.fresh (Nat.le_refl _))⟩
def tyT (x : V) (H : Hp) : Prop := ∃ t, x = .ref t ∧ FzT H t
theorem tyT_is {pins : List (Addr × Obj)} {σ : L2.St} {H : Hp} {s : Shared} {x : V} {v : Value} (I : L2.Inv X pins σ H s) (r : RelV x v) (ty : tyT x H) :
    s.TypeIs v "tuple" ∧ ∀ a, v = .ref a → ∃ ob, s.heap.get? a = some ob ∧ ob.dict = none := by
  obtain ⟨t, rfl, o, u, h, hc, hd⟩ := ty
  cases r
  obtain ⟨e, _⟩ := (show ObjOk X.prog X.w H s.heap t (.frz o u) from I.hok t _ h)
  refine ⟨⟨o, e, hc⟩, fun a e2 => ?_⟩
  cases e2
  exact ⟨o, e, hd⟩
def tBMT (r : V → List V → Hp → VK → Prop) (to : TE) (t : TA) : TE := fun σ H Q => to σ H fun x H1 => tyT x H1 ∧ t σ H1 fun xs H2 => r x xs H2 Q
variable {o e : Expr} {es : List Expr} {to : TE} {t : TA} {name : Str} {apos cpos : Pos} {id : String} {r : V → List V → Hp → VK → Prop}
theorem pe_bmT (slot : Slot "tuple" name id) (hty : typeOf (.builtin id) = pure (.type "method_descriptor")) (hm : MtR X id r) (ho : PE X o to) (ha : PA X (e :: es) t)
    (hbase : attributeBase o name X.env (eval o X.env) = eval o X.env := by rfl)
    (hfew : ((backTo cpos (starEach (e :: es) X.env)).all (fun x => !x.1) && (backToKw cpos (keywordEach [] X.env)).all (fun x => x.1.isSome)
      && decide ((e :: es).length + ([] : List Keyword).length + (if ([] : List Keyword).isEmpty then 0 else 1) < 30)) = true := by rfl)
    (hline : (apos.endLine == cpos.line) = true := by rfl) (hs : starEach (e :: es) X.env = (false, eval e X.env) :: starEach es X.env := by rfl) (hplain : (backTo cpos (starEach es X.env)).any (·.1) = false := by rfl) :
    PE X (.Call (.Attribute o name apos) (e :: es) [] cpos) (tBMT r to t) := by
  refine ⟨fun pins s σ H Q I h => ?_⟩
  refine wpAny_Call_method_late hbase hfew hline rfl (thn (ho.run pins s σ H _ I h) fun v s1 ⟨x, H1, I1, r1, ty, q1⟩ => ?_)
  obtain ⟨h1, h2⟩ := tyT_is I1 r1 ty
  refine ⟨"tuple", id, PySem.F.plainAttrs_tuple, slot, hty, h1, h2, ?_⟩
  have hA := ha.run cpos pins s1 σ H1 _ I1 q1
  rw [hs] at hA ⊢
  refine Calls.callWith_builtin (by show (false || (backTo cpos (starEach es X.env)).any (·.1)) = false; rw [hplain] <;> rfl) (Calls.evalArgs_plain ?_)
  exact thn hA fun us s2 ⟨vs, H2, I2, r2, q2⟩ => hm pins s2 σ H2 x vs v us Q I2 r1 r2 q2
end
section
variable {Ps : Tbs} {H H' : Hp} {t : Addr}
theorem Ext.fzT (e : Ext Ps H H') (h : FzT H t) : FzT H' t := by
  obtain ⟨o, u, h1, h2, h3⟩ := h
  exact ⟨o, u, e.old t _ h1 (fun q z => by cases z), h2, h3⟩
end
end Lf

set_option maxHeartbeats 4000000
namespace Lf
open PySem PySem.Spec PyProof.Rows L2 GxR GxA SrT
/-! ### a list of two for: over a list, then over a tuple -/
section
variable {K : PySem.W.Frag} {a t : Addr} {xs ys : List V} {g g1 : TG} {tt tt1 : TT} {wi1 : TI} {te : TE} {vs vs1 : List Nat} {σ σ2 : L2.St} {H1 H4 : Hp} {D : Addr} {Qd Nx : Hp → Prop}
/-- the inner loop's claim -/
def In2 (J1 : It) (g1 : TG) (tt1 : TT) (te : TE) (vs1 : List Nat) (D : Addr) (σ2 : L2.St) (H4 : Hp) (Nx : Hp → Prop) : Prop := ∃ W1 : Nat → Nat → Hp → Prop, (∃ m, W1 0 m H4) ∧ ∀ j k H, W1 j k H → (J1.stop j H ∧ Nx H) ∨ (J1.go j H ∧ ∃ N1 : Hp → Prop, (∀ H', N1 H' → ∃ k', k' < k ∧ W1 (j + 1) k' H') ∧
  ∀ x H', J1.yld j H x H' → g1 x (wipe σ2 vs1) H' fun σ3 H5 => wipe σ3 vs1 = wipe σ2 vs1 ∧ tt1 σ3 H5 fun b H6 => if b = true then te σ3 H6 fun y H7 => ∃ acc, H7 D = some (.lst acc) ∧ acc.length < sizeLine ∧ N1 (upd H7 D (.lst (acc ++ [y]))) else N1 H6)
theorem lc2_list (Pv : Nat → Hp → Prop) (h0 : Pv 0 (upd H1 D (.lst []))) (hl : ∀ i H, i ≤ xs.length → Pv i H → SqL K H a xs)
    (hs : ∀ i x H, xs[i]? = some x → Pv i H → g x (wipe σ vs) H fun σ2 H2 => wipe σ2 vs = wipe σ vs ∧ tt σ2 H2 fun b H3 => if b = true then wi1 σ2 H3 fun J1 H4 => In2 J1 g1 tt1 te vs1 D σ2 H4 (Pv (i + 1)) else Pv (i + 1) H3) (hd : ∀ H, Pv xs.length H → Qd H) :
    ∃ W : Nat → Nat → Hp → Prop, (∃ m, W 0 m (upd H1 D (.lst []))) ∧ ∀ i m H, W i m H → ((Itl K a).stop i H ∧ Qd H) ∨ ((Itl K a).go i H ∧ ∃ N : Hp → Prop, (∀ H', N H' → ∃ m', m' < m ∧ W (i + 1) m' H') ∧
      ∀ x H', (Itl K a).yld i H x H' → g x (wipe σ vs) H' fun σ2 H2 => wipe σ2 vs = wipe σ vs ∧ tt σ2 H2 fun b H3 => if b = true then wi1 σ2 H3 fun J1 H4 => In2 J1 g1 tt1 te vs1 D σ2 H4 N else N H3) := by
  refine ⟨fun u v HH => v = xs.length - u ∧ u ≤ xs.length ∧ Pv u HH, ⟨xs.length, (by omega), (Nat.zero_le _), h0⟩, ?_⟩
  rintro u v HH ⟨rfl, hu, pu⟩
  have qu := hl u HH hu pu
  by_cases lt : u < xs.length
  · refine Or.inr ⟨⟨xs, xs[u], qu, (by simp [lt])⟩, Pv (u + 1), fun H9 p9 => ⟨xs.length - (u + 1), (by omega), rfl, lt, p9⟩, fun x H9 y9 => ?_⟩
    obtain ⟨e9, z9⟩ := y9
    subst e9
    exact hs u x _ (z9 xs qu) pu
  · obtain rfl : u = xs.length := by omega
    exact Or.inl ⟨⟨xs, qu, Nat.le_refl _⟩, hd HH pu⟩
theorem in2_tup (Pv : Nat → Hp → Prop) (h0 : Pv 0 H4) (hl : ∀ i H, i ≤ ys.length → Pv i H → SqT K H t ys)
    (hs : ∀ j x H, ys[j]? = some x → Pv j H → g1 x (wipe σ2 vs1) H fun σ3 H5 => wipe σ3 vs1 = wipe σ2 vs1 ∧ tt1 σ3 H5 fun b H6 => if b = true then te σ3 H6 fun y H7 => ∃ acc, H7 D = some (.lst acc) ∧ acc.length < sizeLine ∧ Pv (j + 1) (upd H7 D (.lst (acc ++ [y]))) else Pv (j + 1) H6)
    (hd : ∀ H, Pv ys.length H → Nx H) : In2 (Itt K t) g1 tt1 te vs1 D σ2 H4 Nx := by
  refine ⟨fun u v HH => v = ys.length - u ∧ u ≤ ys.length ∧ Pv u HH, ⟨ys.length, (by omega), (Nat.zero_le _), h0⟩, ?_⟩
  rintro u v HH ⟨rfl, hu, pu⟩
  have qu := hl u HH hu pu
  by_cases lt : u < ys.length
  · refine Or.inr ⟨⟨ys, ys[u], qu, (by simp [lt])⟩, Pv (u + 1), fun H9 p9 => ⟨ys.length - (u + 1), (by omega), rfl, lt, p9⟩, fun x H9 y9 => ?_⟩
    obtain ⟨e9, z9⟩ := y9
    subst e9
    exact hs u x _ (z9 ys qu) pu
  · obtain rfl : u = ys.length := by omega
    exact Or.inl ⟨⟨ys, qu, Nat.le_refl _⟩, hd HH pu⟩
end
/-! ### parts of up to eight points -/
theorem subs_le8 {fc : List Int} (h : fc.length ≤ 8) (i : Nat) : (subsL (fc.take i)).length ≤ 256 := by
  rw [subs_len]
  have : (fc.take i).length ≤ 8 := by rw [List.length_take]; omega
  exact Nat.le_trans (Nat.pow_le_pow_right (by decide) this) (by decide)
section
variable {P : Program} {w : World} {K : PySem.W.Frag} {mg : Str → Option Value} {base : Heap} {Ps : Tbs}
def spParts8 (K : PySem.W.Frag) (Ps : Tbs) : Sp := fun vs H Q _ => ∃ (x : V) (fc : List Int), vs = [x] ∧ TupI K H x fc ∧ fc.length ≤ 8 ∧ Tb Ps H ∧ ∀ l ys H', Ext Ps H H' → H l = none → H' l = some (.lst ys) → Paired (TupI K H') ys (sortL (subsL fc)) → Q (.ref l) H'
end
end Lf

set_option maxHeartbeats 4000000
namespace Lf
open PySem PySem.Spec PyProof.Rows L2 GxR GxA SrT
def fullL (n k : Nat) : List (List Int) := (sortL (subsL (rng n))).filter fun g => decide (g.length = k)
def stepsL (m : Nat) : List (List Int) := (List.range m).map fun i : Nat => [(i : Int), (i : Int) + 1]
def ringL (n : Nat) : List (List Int) := sortL (stepsL (n - 1) ++ [[0, (n : Int) - 1]])
def pairsP : Nat → List (List Int)
  | 0 => [[]]
  | i + 1 => (pairsP i).flatMap fun g => [g ++ [2 * (i : Int)], g ++ [2 * (i : Int) + 1]]
theorem pairsP_len : ∀ i, (pairsP i).length = 2 ^ i ∧ ∀ g ∈ pairsP i, g.length = i
  | 0 => ⟨rfl, fun g hg => by rw [List.mem_singleton.mp hg]; rfl⟩
  | i + 1 => by
    obtain ⟨h1, h2⟩ := pairsP_len i
    constructor
    · show (List.flatMap _ (pairsP i)).length = _
      rw [List.length_flatMap]
      have : ∀ l : List (List Int), (l.map fun g : List Int => ([g ++ [2 * (i : Int)], g ++ [2 * (i : Int) + 1]] : List (List Int)).length).sum = 2 * l.length := fun l => by
        induction l with
        | nil => rfl
        | cons g l ih =>
          rw [List.map_cons, List.sum_cons, ih, List.length_cons]
          simp
          omega
      rw [this, h1, Nat.pow_succ]
      omega
    · intro g hg
      obtain ⟨g0, hg0, hg1⟩ := List.mem_flatMap.mp hg
      have := h2 g0 hg0
      simp only [List.mem_cons, List.not_mem_nil, or_false] at hg1
      rcases hg1 with rfl | rfl <;> simp [this]
section
variable {P : Program} {w : World} {K : PySem.W.Frag} {mg : Str → Option Value} {base : Heap} {Ps : Tbs} {H H' H0 : Hp} {k : Nat} {f c : Addr} {fd : FuncData} {CN : Addr}
/-! ### full_stack -/
def spFull (K : PySem.W.Frag) (Ps : Tbs) : Sp := fun vs H Q _ => ∃ n kk : Nat, vs = [.int n, .int kk] ∧ 1 ≤ n ∧ n ≤ 8 ∧ kk ≤ n ∧ kk ≤ 4 ∧ Tb Ps H ∧ ∀ v H', Ext Ps H H' → Stk K H' v n kk (fullL n kk) → Q v H'
def spBadFull (K : PySem.W.Frag) (CN : Addr) : Sp := fun vs H _ E => ∃ (x y : V) (d : PyData), vs = [x, y] ∧ Th K H x d ∧ intIn d 1 8 = false ∧ E (.ref CN) none H
def spBadFullK (K : PySem.W.Frag) (CN : Addr) : Sp := fun vs H _ E => ∃ (n : Nat) (y : V) (d : PyData), vs = [.int n, y] ∧ 1 ≤ n ∧ n ≤ 8 ∧ Th K H y d ∧ intIn d 0 (if (4 : Int) < n then 4 else n) = false ∧ E (.ref CN) none H
/-! ### steps, row_stack, ring_stack -/
def spSteps (K : PySem.W.Frag) (Ps : Tbs) : Sp := fun vs H Q _ => ∃ n : Nat, vs = [.int n] ∧ 1 ≤ n ∧ n ≤ 8 ∧ Tb Ps H ∧ ∀ l ys H', Ext Ps H H' → H l = none → H' l = some (.lst ys) → Paired (TupI K H') ys (stepsL (n - 1)) → Q (.ref l) H'
theorem stepsL_succ (m : Nat) : stepsL (m + 1) = stepsL m ++ [[(m : Int), (m : Int) + 1]] := by
  unfold stepsL
  rw [List.range_succ, List.map_append]
  rfl
def spRow (K : PySem.W.Frag) (Ps : Tbs) : Sp := fun vs H Q _ => ∃ n : Nat, vs = [.int n] ∧ 2 ≤ n ∧ n ≤ 8 ∧ Tb Ps H ∧ ∀ v H', Ext Ps H H' → Stk K H' v n 2 (stepsL (n - 1)) → Q v H'
def spBadRow (K : PySem.W.Frag) (CN : Addr) : Sp := fun vs H _ E => ∃ (x : V) (d : PyData), vs = [x] ∧ Th K H x d ∧ intIn d 2 8 = false ∧ E (.ref CN) none H
def spRing (K : PySem.W.Frag) (Ps : Tbs) : Sp := fun vs H Q _ => ∃ n : Nat, vs = [.int n] ∧ 3 ≤ n ∧ n ≤ 8 ∧ Tb Ps H ∧ ∀ v H', Ext Ps H H' → Stk K H' v n 2 (ringL n) → Q v H'
def spBadRing (K : PySem.W.Frag) (CN : Addr) : Sp := fun vs H _ E => ∃ (x : V) (d : PyData), vs = [x] ∧ Th K H x d ∧ intIn d 3 8 = false ∧ E (.ref CN) none H
/-! ### pairs_stack -/
def spPairs (K : PySem.W.Frag) (Ps : Tbs) : Sp := fun vs H Q _ => ∃ n : Nat, vs = [.int n] ∧ 1 ≤ n ∧ n ≤ 4 ∧ Tb Ps H ∧ ∀ v H', Ext Ps H H' → Stk K H' v (2 * (n : Int)) n (pairsP n) → Q v H'
def spBadPairs (K : PySem.W.Frag) (CN : Addr) : Sp := fun vs H _ E => ∃ (x : V) (d : PyData), vs = [x] ∧ Th K H x d ∧ intIn d 1 4 = false ∧ E (.ref CN) none H
end
end Lf

set_option maxHeartbeats 4000000
namespace Lf
open PySem PySem.Spec PyProof.Rows L2 GxR GxA SrT
def everyL (n k : Nat) : List (List Int) := sortL ((subsL (rng n)).filter fun g => decide (g.length = k))
def pairsQ : Nat → List (List Int)
  | 0 => [[]]
  | i + 1 => (pairsQ i).map (· ++ [2 * (i : Int)]) ++ (pairsQ i).map (· ++ [2 * (i : Int) + 1])
theorem pairsQ_len : ∀ i, (pairsQ i).length = 2 ^ i ∧ ∀ g ∈ pairsQ i, g.length = i
  | 0 => ⟨rfl, fun g hg => by rw [List.mem_singleton.mp hg]; rfl⟩
  | i + 1 => by
    obtain ⟨h1, h2⟩ := pairsQ_len i
    constructor
    · show (List.map _ (pairsQ i) ++ List.map _ (pairsQ i)).length = _
      rw [List.length_append, List.length_map, List.length_map, h1, Nat.pow_succ]
      omega
    · intro g hg
      rcases List.mem_append.mp hg with hg | hg
      · obtain ⟨g0, hg0, rfl⟩ := List.mem_map.mp hg
        simp [h2 g0 hg0]
      · obtain ⟨g0, hg0, rfl⟩ := List.mem_map.mp hg
        simp [h2 g0 hg0]
section
variable {P : Program} {w : World} {K : PySem.W.Frag} {mg : Str → Option Value} {base : Heap} {Ps : Tbs} {H H' H0 : Hp} {k : Nat} {f c : Addr} {fd : FuncData}
/-- the reading of [one + (point,) for one in found] -/
theorem rd_grow {D0 : Addr} {ys : List V} {gss : List (List Int)} {pt : Int} {H3 H4 : Hp} {j : Nat} {g : List Int} {t u : Addr} (hD : H3 D0 = none) (hy : ys.length ≤ 256) (hj : j < ys.length) (hg : gss[j]? = some g) (hgl : g.length ≤ 8) (hT : SqT K H4 t (g.map V.int))
    (p : CP Ps (TupI K) H3 D0 ((gss.take j).map (· ++ [pt])) j H4) (hu : H4 u = none) : rCatI K Ps (.ref t) (.ref u) (upd H4 u (.tup [.int pt])) (fun v H6 => ∃ acc, H6 D0 = some (.lst acc) ∧ acc.length < sizeLine ∧ CP Ps (TupI K) H3 D0 ((gss.take (j + 1)).map (· ++ [pt])) (j + 1) (upd H6 D0 (.lst (acc ++ [v])))) := by
  have x5 := Ext.new (o := .tup [.int pt]) p.ext.tb hu
  refine ⟨g, [pt], ⟨t, rfl, x5.sqT hT⟩, ⟨u, rfl, .inl (.inl upd_same)⟩, by simp; omega, x5.tb, fun v H6 e6 hv => ?_⟩
  have r := CP.put (stbT (K := K)) hD (by omega) (p.skip (stbT (K := K)) (x5.trans e6)) hv
  rw [List.take_add_one, hg, List.map_append]
  exact r
/-! ### _law_every -/
def spEveryK (K : PySem.W.Frag) (Ps : Tbs) : Sp := fun vs H Q _ => ∃ n kk : Nat, vs = [.int n, .int kk] ∧ n ≤ 8 ∧ kk ≤ 8 ∧ Tb Ps H ∧ ∀ l ys H', Ext Ps H H' → H l = none → H' l = some (.lst ys) → Paired (TupI K H') ys (everyL n kk) → Q (.ref l) H'
/-! ### _law_made -/
def spMade (K : PySem.W.Frag) (Ps : Tbs) : Sp := fun vs H Q _ => ∃ (n kk : Int) (l : Addr) (xs : List V) (fss : List (List Int)), vs = [.int n, .int kk, .ref l] ∧ SqL K H l xs ∧ Paired (TupI K H) xs fss ∧ Tb Ps H ∧ ∀ v H', Ext Ps H H' → Stk K H' v n kk (sortL fss) → Q v H'
/-! ### _law_pairs -/
def spPairsL (K : PySem.W.Frag) (Ps : Tbs) : Sp := fun vs H Q _ => ∃ d : Nat, vs = [.int d] ∧ d ≤ 4 ∧ Tb Ps H ∧ ∀ l ys H', Ext Ps H H' → H l = none → H' l = some (.lst ys) → Paired (TupI K H') ys (sortL (pairsQ d)) → Q (.ref l) H'
end
end Lf

set_option maxHeartbeats 4000000
namespace Lf
open PySem PySem.Spec PyProof.Rows L2 GxR GxA SrT
theorem mem_everyL {n k : Nat} {g : List Int} : g ∈ everyL n k ↔ g.Sublist (rng n) ∧ g.length = k := by
  unfold everyL
  rw [(sortL_perm _).mem_iff, List.mem_filter, mem_subs, decide_eq_true_eq]
theorem nodup_everyL (n k : Nat) : (everyL n k).Nodup := by
  unfold everyL
  exact (sortL_perm _).nodup_iff.mpr ((subs_nodup _ (rng n) rfl (nd_rng n)).filter _)
theorem everyL_len {n k : Nat} (h : n ≤ 8) : (everyL n k).length ≤ 256 := by
  unfold everyL
  rw [(sortL_perm _).length_eq]
  refine Nat.le_trans (List.length_filter_le _ _) ?_
  rw [subs_len, rng_len]
  exact Nat.le_trans (Nat.pow_le_pow_right (by decide) h) (by decide)
theorem everyL_pos : ∀ n, n < 9 → ∀ k, k < 5 → k ≤ n → 0 < ((subsL (rng n)).filter fun g => decide (g.length = k)).length := by decide +kernel
theorem every_pos {n k : Nat} (h8 : n ≤ 8) (h4 : k ≤ 4) (hk : k ≤ n) : 1 ≤ (everyL n k).length := by
  unfold everyL
  rw [(sortL_perm _).length_eq]
  exact everyL_pos n (by omega) k (by omega) hk
theorem seqIx {m j : Nat} (h : j < m) : seqIndex? (j : Int) m = some j := by
  have e : (if (j : Int) < 0 then (j : Int) + m else (j : Int)) = (j : Int) := if_neg (by omega)
  unfold seqIndex?
  simp only [e]
  rw [decide_eq_true (show (0 : Int) ≤ j by omega), decide_eq_true (show (j : Int) < m by omega)]
  simp
section
variable {P : Program} {w : World} {K : PySem.W.Frag} {mg : Str → Option Value} {base : Heap} {Ps : Tbs} {H H' H0 : Hp} {k : Nat} {f c : Addr} {fd : FuncData}
theorem tups_put {r : Addr} {l l' xs : List V} {fss : List (List Int)} (hr : H r = some (.lst l)) (h : Paired (TupI K H) xs fss) : Paired (TupI K (upd H r (.lst l'))) xs fss := L2.Paired.mapP h fun _ _ z => let ⟨t, e, s⟩ := z; ⟨t, e, sqT_put hr s⟩
theorem paired_erase {α γ : Type} {G : α → γ → Prop} : ∀ {xs : List α} {ys : List γ} (j : Nat), Paired G xs ys → Paired G (xs.eraseIdx j) (ys.eraseIdx j)
  | _, _, _, .nil => .nil
  | _, _, 0, .cons r t => t
  | _, _, j + 1, .cons r t => .cons r (paired_erase j t)
theorem perm_erase {α : Type} : ∀ {l : List α} {j : Nat} {y : α}, l[j]? = some y → (y :: l.eraseIdx j).Perm l
  | [], j, y, h => by simp at h
  | x :: l, 0, y, h => by
    cases h
    exact List.Perm.refl _
  | x :: l, j + 1, y, h => by
    have := perm_erase (l := l) (j := j) h
    exact (List.Perm.swap x y _).trans (this.cons x)
/-! ### _law_size -/
def spSize (K : PySem.W.Frag) (Ps : Tbs) : Sp := fun vs H Q _ => ∃ a : Addr, vs = [.ref a] ∧ Pen H a ∧ Tb Ps H ∧ ∀ (t : Addr) (n kk : Nat) (H' : Hp), Epn Ps a H H' → SqT K H' t [.int n, .int kk] → 1 ≤ n → n ≤ 8 → kk ≤ n → kk ≤ 4 → Q (.ref t) H'
/-! ### _law_drawn -/
def spDrawn (K : PySem.W.Frag) (Ps : Tbs) : Sp := fun vs H Q _ => ∃ (a : Addr) (n kk m : Nat), vs = [.ref a, .int n, .int kk, .int m] ∧ Pen H a ∧ n ≤ 8 ∧ kk ≤ n ∧ kk ≤ 4 ∧ 1 ≤ m ∧ m ≤ 100 ∧ Tb Ps H ∧ ∀ (l : Addr) (ys : List V) (df : List (List Int)) (H' : Hp), Epn Ps a H H' → H l = none → H' l = some (.lst ys) → Paired (TupI K H') ys df → df.Nodup → (∀ g ∈ df, g ∈ everyL n kk) → 1 ≤ df.length → df.length ≤ m → Q (.ref l) H'
end
end Lf

set_option maxHeartbeats 4000000
namespace Lf
open PySem PySem.Spec PyProof.Rows L2 GxR GxA SrT
def besideL (laid : List (List Int)) (fc : List Int) : List (List Int) := laid.filter fun one => decide (((comL fc one).length : Int) = (fc.length : Int) - 1)
def mayB (laid : List (List Int)) (fc : List Int) : Bool := laid.all fun o => !((besideL laid fc).filter fun one => decide ((comL (comL fc o) one).length = (comL fc o).length)).isEmpty
section
variable {P : Program} {w : World} {K : PySem.W.Frag} {mg : Str → Option Value} {base : Heap} {Ps : Tbs} {H H' H0 : Hp} {k : Nat} {f c : Addr} {fd : FuncData}
/-! ### _law_common of a list -/
def spCommonLE (K : PySem.W.Frag) (Ps : Tbs) : Sp := fun vs H Q _ => ∃ (l0 : Addr) (y : V) (pts fc : List Int), vs = [.ref l0, y] ∧ SqL K H l0 (pts.map V.int) ∧ TupI K H y fc ∧ pts.length ≤ 100 ∧ Tb Ps H ∧ ∀ (l : Addr) (H' : Hp), Ext Ps H H' → H l = none → H' l = some (.lst ((comL pts fc).map V.int)) → Q (.ref l) H'
def spCommon2 (K : PySem.W.Frag) (Ps : Tbs) : Sp := fun vs H Q E => spCommonE K Ps vs H Q E ∨ spCommonLE K Ps vs H Q E
/-! ### _law_may -/
def spMayB (K : PySem.W.Frag) (Ps : Tbs) : Sp := fun vs H Q _ => ∃ (l : Addr) (xs : List V) (z : V) (fss : List (List Int)) (fc : List Int), vs = [.ref l, z] ∧ SqL K H l xs ∧ Paired (TupI K H) xs fss ∧ TupI K H z fc ∧ fss.length ≤ 100 ∧ fc.length ≤ 100 ∧ Tb Ps H ∧ ∀ (H' : Hp), Ext Ps H H' → Q (.bl (mayB fss fc)) H'
/-! ### _law_grown -/
theorem permA {gf lf rest : List (List Int)} {o : Nat} {g : List Int} (h : lf[o]? = some g) : ((gf ++ [g]) ++ lf.eraseIdx o ++ rest).Perm (gf ++ lf ++ rest) := by
  refine List.Perm.append_right rest ?_
  rw [List.append_assoc]
  exact List.Perm.append_left gf (perm_erase h)
theorem permB {gf lf rest : List (List Int)} {o : Nat} {g : List Int} (h : lf[o]? = some g) : (gf ++ lf.eraseIdx o ++ (g :: rest)).Perm (gf ++ lf ++ rest) := by
  rw [List.append_assoc, List.append_assoc]
  refine List.Perm.append_left gf ?_
  exact List.perm_middle.trans (List.Perm.append_right rest (perm_erase h))
def OrdG (gf : List (List Int)) : Prop := ∀ i, 0 < i → ∀ g, gf[i]? = some g → mayB (gf.take i) g = true
theorem OrdG.snoc {gf : List (List Int)} {g : List Int} (h : OrdG gf) (hg : mayB gf g = true) : OrdG (gf ++ [g]) := by
  intro i hi g' hg'
  by_cases hl : i < gf.length
  · rw [List.getElem?_append_left hl] at hg'
    rw [List.take_append_of_le_length (by omega)]
    exact h i hi g' hg'
  · rw [List.getElem?_append_right (by omega)] at hg'
    have e : i - gf.length = 0 := by
      cases hh : i - gf.length with
      | zero => rfl
      | succ j => rw [hh] at hg'; simp at hg'
    rw [e] at hg'
    cases hg'
    rw [show i = gf.length by omega, List.take_append_of_le_length (Nat.le_refl _), List.take_length]
    exact hg
def spGrown (K : PySem.W.Frag) (Ps : Tbs) : Sp := fun vs H Q _ => ∃ (a : Addr) (n kk m : Nat), vs = [.ref a, .int n, .int kk, .int m] ∧ Pen H a ∧ n ≤ 8 ∧ kk ≤ n ∧ kk ≤ 4 ∧ 1 ≤ m ∧ m ≤ 90 ∧ Tb Ps H ∧ ∀ (l : Addr) (ys : List V) (df : List (List Int)) (H' : Hp), Epn Ps a H H' → H l = none → H' l = some (.lst ys) → Paired (TupI K H') ys df → df.Nodup → (∀ g ∈ df, g ∈ everyL n kk) → 1 ≤ df.length → df.length ≤ m → (∀ i, 0 < i → ∀ g, df[i]? = some g → mayB (df.take i) g = true) → Q (.ref l) H'
end
end Lf

set_option maxHeartbeats 4000000
namespace Lf
open PySem PySem.Spec PyProof.Rows L2 GxR GxA SrT
theorem eqv_nilT' (gs : List (List Int)) : PyData.eqv (.tuple (gs.map tD)) (.tuple []) = gs.isEmpty := by
  cases gs with
  | nil => simp [PyData.eqv, PyData.eqvAll]
  | cons g gs => simp [PyData.eqv, PyData.eqvAll]
theorem shp_tupsT' (fs : List (List Int)) : SeqAt.shaped (.tuple (fs.map tD)) = true := by
  have z := dep_tups fs
  unfold SeqAt.shaped
  rw [PyData.canLay0, lay_tups, PyData.depth, Bool.true_and]
  exact decide_eq_true (by omega)
def lackL (fss : List (List Int)) (p : Int) : List (List Int) := fss.filter fun g => !decide (p ∈ g)
def arF (fss : List (List Int)) (p : Int) : List (List Int) := (fss.filter fun g => decide (p ∈ g)).map fun g => lessL g [p]
def comesB (fss : List (List Int)) (p : Int) : Bool := !(arF fss p).isEmpty && (arF fss p).all fun g => inSome g (lackL fss p)
def takL (n : Nat) (fss : List (List Int)) : List Int := ((List.range n).map fun i : Nat => (i : Int)).filter fun p => comesB fss p
section
variable {P : Program} {w : World} {K : PySem.W.Frag} {mg : Str → Option Value} {base : Heap} {Ps : Tbs} {H H' H0 : Hp} {k : Nat} {f c : Addr} {fd : FuncData}
variable {CS CN : Addr}
def spLack (K : PySem.W.Frag) (Ps : Tbs) : Sp := fun vs H Q _ => ∃ (fa : Addr) (p : Int) (xs : List V) (fss : List (List Int)), vs = [.ref fa, .int p] ∧ SqT K H fa xs ∧ Paired (TupI K H) xs fss ∧ fss.length ≤ 70 ∧ Tb Ps H ∧ ∀ (t : Addr) (ys : List V) (H' : Hp), Ext Ps H H' → SqT K H' t ys → Paired (TupI K H') ys (lackL fss p) → Q (.ref t) H'
def spArF (K : PySem.W.Frag) (Ps : Tbs) : Sp := fun vs H Q _ => ∃ (fa : Addr) (p : Int) (xs : List V) (fss : List (List Int)), vs = [.ref fa, .int p] ∧ SqT K H fa xs ∧ Paired (TupI K H) xs fss ∧ fss.length ≤ 70 ∧ (∀ g ∈ fss, g.length ≤ 8) ∧ Tb Ps H ∧ ∀ (t : Addr) (ys : List V) (H' : Hp), Ext Ps H H' → SqT K H' t ys → Paired (TupI K H') ys (arF fss p) → Q (.ref t) H'
def spComes (K : PySem.W.Frag) (Ps : Tbs) : Sp := fun vs H Q _ => ∃ (fa : Addr) (p : Int) (xs : List V) (fss : List (List Int)), vs = [.ref fa, .int p] ∧ SqT K H fa xs ∧ Paired (TupI K H) xs fss ∧ fss.length ≤ 70 ∧ (∀ g ∈ fss, g.length ≤ 8) ∧ Tb Ps H ∧ ∀ H', Ext Ps H H' → Q (.bl (comesB fss p)) H'
/-! ### may_take, takable -/
def spMayTake (K : PySem.W.Frag) (Ps : Tbs) : Sp := fun vs H Q _ => ∃ (x : V) (n kk p : Int) (fss : List (List Int)), vs = [x, .int p] ∧ Stk K H x n kk fss ∧ StkOk n kk fss ∧ 0 ≤ p ∧ p < n ∧ Tb Ps H ∧ ∀ H', Ext Ps H H' → Q (.bl (comesB fss p)) H'
def spTakable (K : PySem.W.Frag) (Ps : Tbs) : Sp := fun vs H Q _ => ∃ (x : V) (n kk : Int) (fss : List (List Int)), vs = [x] ∧ Stk K H x n kk fss ∧ StkOk n kk fss ∧ Tb Ps H ∧ ∀ (l : Addr) (H' : Hp), Ext Ps H H' → H l = none → H' l = some (.lst ((takL n.toNat fss).map V.int)) → Q (.ref l) H'
/-! ### refused -/
def spMayTakeX (K : PySem.W.Frag) (Ps : Tbs) (CS CN : Addr) : Sp := fun vs H _ E => ∃ (x y : V), vs = [x, y] ∧ (BadS K Ps CS x H E ∨ ∃ (n kk : Int) (fss : List (List Int)) (d : PyData), Stk K H x n kk fss ∧ StkOk n kk fss ∧ Th K H y d ∧ intIn d 0 (n - 1) = false ∧ Tb Ps H ∧ ∀ H', Ext Ps H H' → E (.ref CN) none H')
def spTakableX (K : PySem.W.Frag) (Ps : Tbs) (CS : Addr) : Sp := fun vs H _ E => ∃ (x : V), vs = [x] ∧ BadS K Ps CS x H E
end
end Lf

set_option maxHeartbeats 4000000
namespace Lf
open PySem PySem.Spec PyProof.Rows L2 GxR GxA SrT
def restF (fc : List Int) (p : Int) : List Int := fc.filter fun z => !decide (z = p)
def restsB (fc : List Int) (p : Int) (os : List (List Int)) : Bool := !(os.filter fun o => decide ((comL (restF fc p) o).length = (restF fc p).length)).isEmpty
def takesB (fss : List (List Int)) (p : Int) : Bool := !(fss.filter fun g => decide (p ∈ g)).isEmpty && (!(lackL fss p).isEmpty && decide (((fss.filter fun g => decide (p ∈ g)).filter fun g => restsB g p (lackL fss p)).length = (fss.filter fun g => decide (p ∈ g)).length))
section
variable {P : Program} {w : World} {K : PySem.W.Frag} {mg : Str → Option Value} {base : Heap} {Ps : Tbs} {H H' H0 : Hp} {k : Nat} {f c : Addr} {fd : FuncData}
/-! ### _law_rests -/
def spRests (K : PySem.W.Frag) (Ps : Tbs) : Sp := fun vs H Q _ => ∃ (x : V) (fc : List Int) (p : Int) (l : Addr) (xs : List V) (os : List (List Int)), vs = [x, .int p, .ref l] ∧ TupI K H x fc ∧ SqL K H l xs ∧ Paired (TupI K H) xs os ∧ fc.length ≤ 8 ∧ os.length ≤ 70 ∧ Tb Ps H ∧ ∀ H', Ext Ps H H' → Q (.bl (restsB fc p os)) H'
/-! ### _law_takes -/
def spTakes (K : PySem.W.Frag) (Ps : Tbs) : Sp := fun vs H Q _ => ∃ (x : V) (n kk p : Int) (fss : List (List Int)), vs = [x, .int p] ∧ Stk K H x n kk fss ∧ StkOk n kk fss ∧ Tb Ps H ∧ ∀ H', Ext Ps H H' → Q (.bl (takesB fss p)) H'
end
end Lf

set_option maxHeartbeats 4000000
namespace Lf
open PySem PySem.Spec PyProof.Rows L2 GxR GxA SrT
section
variable {K : PySem.W.Frag} {mg : Str → Option Value} {C : Nat → Addr} {CL : Addr}
/-- what the kinds are told to be -/
def spKindOf (Ps : Tbs) (a : Addr) (i : Nat) : Sp := fun vs H Q _ => vs = [.ref a] ∧ Tb Ps H ∧ ∀ H', Ext Ps H H' → Q (.str (wordOf i)) H'
end
end Lf

set_option maxHeartbeats 4000000
namespace Lf
open PySem PySem.Spec PyProof.Rows L2 GxR GxA SrT
section
variable {P : Program} {w : World} {K : PySem.W.Frag} {mg : Str → Option Value} {base : Heap} {Ps : Tbs} {H H' H0 : Hp} {k : Nat} {f c : Addr} {fd : FuncData}
def spNoNum2 (K : PySem.W.Frag) (Ps : Tbs) : Sp := fun vs H Q _ => ∃ (a : Addr) (lo hi : Int), vs = [.ref a, .int lo, .int hi] ∧ Pen H a ∧ 0 ≤ lo ∧ lo ≤ hi ∧ hi ≤ 1000 ∧ Tb Ps H ∧ ∀ v d H', Epn Ps a H H' → ThF K H' (fun b => H b = none) v d → intIn d lo hi = false → Q v H'
end
end Lf

set_option maxHeartbeats 2000000
namespace Lf
open PySem PySem.Spec PyProof.Rows L2 GxR GxA SrT
/-! ### repr of a thing -/
mutual
def noList : PyData → Bool
  | .list _ => false
  | .tuple ds => noLists ds
  | _ => true
def noLists : List PyData → Bool
  | [] => true
  | d :: ds => noList d && noLists ds
end
section
variable {X : Cx} {H : Hp} {pins : List (Addr × Obj)} {σ : L2.St} {s : Shared} {F : Addr → Prop}
mutual
theorem ThF.reads (I : L2.Inv X pins σ H s) : ∀ (d : PyData) (v : V) (u : Value), ThF X.K H F v d → RelV v u → ∃ as, Reads s.heap u d as ∧ (noList d = true → sysModules ∉ as)
  | .none, _, _, h, r => by
    cases h
    cases r
    exact ⟨_, Reads.none, fun _ z => nomatch z⟩
  | .bool b, _, _, h, r => by
    cases h
    cases r
    exact ⟨_, Reads.bool b, fun _ z => nomatch z⟩
  | .int i, _, _, h, r => by
    cases h
    obtain ⟨t, rfl⟩ := r
    exact ⟨_, Reads.int i t, fun _ z => nomatch z⟩
  | .str x, _, _, h, r => by
    cases h
    obtain ⟨t, rfl⟩ := r
    exact ⟨_, Reads.str x t, fun _ z => nomatch z⟩
  | .list ds, _, _, h, r => by
    cases h with
    | lst hf hs ha =>
      cases r
      obtain ⟨its, rv, ⟨o, n, ho, hc, _, hd⟩, _⟩ := I.list hs
      obtain ⟨as, hr, _⟩ := ThAllF.reads I ds _ its ha rv
      exact ⟨_, Reads.list ho hc hd hr, fun z => nomatch z⟩
  | .tuple ds, _, _, h, r => by
    cases h with
    | tup hs ha =>
      cases r
      obtain ⟨its, rv, ⟨o, ho, hc, n, hd⟩, _⟩ := I.tuple hs
      obtain ⟨as, hr, hm⟩ := ThAllF.reads I ds _ its ha rv
      exact ⟨_, Reads.tuple ho hc hd hr, fun z => hm z⟩
  | .dict kvs, _, _, h, r => by
    cases h with
    | dic hf hd =>
      cases r
      obtain ⟨_, low, vs, hkv, o, es, ep, ho, hex, hdt, _, hes, _⟩ := I.hok _ _ hd
      cases hkv
      have he0 : es.toList = [] := by
        cases e : es.toList with
        | nil => rfl
        | cons _ _ =>
          rw [e] at hes
          cases hes
      refine ⟨_, Reads.dict (kvs := []) ho hex.1 hdt (by rw [he0]; exact .nil) (by rw [he0]; exact .nil), fun _ z => ?_⟩
      have e := List.mem_singleton.mp z
      rw [← e] at low
      simp at low
theorem ThAllF.reads (I : L2.Inv X pins σ H s) : ∀ (ds : List PyData) (vs : List V) (us : List Value), ThAllF X.K H F vs ds → Vals vs us → ∃ as, ReadsAll s.heap us ds as ∧ (noLists ds = true → sysModules ∉ as)
  | [], _, _, h, r => by
    cases h
    cases r
    exact ⟨_, .nil, fun _ z => nomatch z⟩
  | d :: ds, _, _, h, r => by
    cases h with
    | cons h1 h2 =>
      cases r with
      | cons r1 r2 =>
        obtain ⟨as, a1, a2⟩ := ThF.reads I d _ _ h1 r1
        obtain ⟨bs, b1, b2⟩ := ThAllF.reads I ds _ _ h2 r2
        refine ⟨_, .cons a1 b1, fun z m => ?_⟩
        rw [noLists, Bool.and_eq_true] at z
        rcases List.mem_append.mp m with m | m
        · exact a2 z.1 m
        · exact b2 z.2 m
end
/-- what repr tells -/
def rpD : PyData → Str
  | .none => "None"
  | .bool b => if b then "True" else "False"
  | .int i => toString i
  | .str x => reprText x
  | d => d.shown
structure RpOk (d : PyData) : Prop where
  int : ∀ i, d = .int i → i.natAbs.log2 < 1920
  str : ∀ x, d = .str x → (reprText x).length ≤ sizeLine
  sh : d.showable = true
  sz : d.shown.length ≤ sizeLine
  dp : d.depth + 1 ≤ 60
  mix : d.hasDict = true → noList d = true
def rRepr (K : PySem.W.Frag) : List V → Hp → VK → Prop := fun vs H Q => ∃ (F : Addr → Prop) (x : V) (d : PyData), vs = [x] ∧ ThF K H F x d ∧ RpOk d ∧ Q (.str (rpD d)) H
theorem cr_repr (gd : X.A.guards = some []) (hu : X.A.units + 64 < cLine) : CallR X (.builtin "repr") (rRepr X.K) := by
  intro pins s σ H vs us Q I r h
  obtain ⟨F, x, d, rfl, hx, ok, q⟩ := h
  cases r with
  | cons r1 r2 =>
    cases r2
    obtain ⟨as, rd, hm⟩ := ThF.reads I d x _ hx r1
    have hdp := ok.dp
    cases hx with
    | non => cases r1; exact PySem.P.repr_of_none ⟨.str _, H, I.kept (fun _ _ e => e), ⟨_, rfl⟩, q⟩
    | bl b => cases r1; exact PySem.P.repr_of_bool ⟨.str _, H, I.kept (fun _ _ e => e), ⟨_, rfl⟩, q⟩
    | int i => obtain ⟨t, rfl⟩ := r1; exact PySem.P.repr_of_int (ok.int i rfl) ⟨.str _, H, I.kept (fun _ _ e => e), ⟨_, rfl⟩, q⟩
    | str z => obtain ⟨t, rfl⟩ := r1; exact PySem.P.repr_of_str ⟨.str _, H, I.kept (fun _ _ e => e), ⟨_, rfl⟩, q⟩ (ok.str z rfl)
    | lst hf hs ha =>
      cases r1
      exact repr_of_reads' rd ok.sh (fun z => hm (ok.mix z)) gd (by omega) (fun _ _ e => e) (fun h' u tk hk => ⟨.str _, H, I.kept hk, ⟨_, rfl⟩, q⟩) ok.sz
    | tup hs ha =>
      cases r1
      exact repr_of_reads' rd ok.sh (fun z => hm (ok.mix z)) gd (by omega) (fun _ _ e => e) (fun h' u tk hk => ⟨.str _, H, I.kept hk, ⟨_, rfl⟩, q⟩) ok.sz
    | dic hf hd =>
      cases r1
      exact repr_of_reads' rd ok.sh (fun z => hm (ok.mix z)) gd (by omega) (fun _ _ e => e) (fun h' u tk hk => ⟨.str _, H, I.kept hk, ⟨_, rfl⟩, q⟩) ok.sz
end
end Lf

set_option maxHeartbeats 2000000
namespace Lf
open PySem PySem.Spec PyProof.Rows L2 GxR GxA SrT
/-! ### things that can be shown -/
/-- a thing of a row: a number not far off, or one of few others -/
structure El (e : PyData) : Prop where
  sh : e.showable = true
  lv : e.leavesShort 13 = true
  wt : e.weight ≤ 60
  dp : e.depth ≤ 2
theorem el_int {i : Int} (h : i.natAbs < 1000000) : El (.int i) := by
  have hl : i.natAbs.log2 < 40 := by
    by_cases e : i.natAbs = 0
    · rw [e]; decide
    · exact (Nat.log2_lt e).mpr (by have : (2 : Nat) ^ 40 = 1099511627776 := by decide
                                    omega)
  refine ⟨?_, ?_, ?_, by simp [PyData.depth]⟩
  · simp only [PyData.showable]
    exact decide_eq_true (by omega)
  · simp only [PyData.leavesShort]
    exact decide_eq_true (PyData.shown_int_le (by omega))
  · simp only [PyData.weight]
    split <;> omega
theorem el_none : El .none := ⟨rfl, rfl, by simp [PyData.weight], by simp [PyData.depth]⟩
theorem el_bool (b : Bool) : El (.bool b) := ⟨rfl, rfl, by simp [PyData.weight], by simp [PyData.depth]⟩
theorem showAll {ds : List PyData} (h : ∀ e ∈ ds, El e) : PyData.showableAll ds = true := by
  induction ds with
  | nil => rfl
  | cons e ds ih =>
    rw [PyData.showableAll, (h e List.mem_cons_self).sh, ih fun x hx => h x (List.mem_cons_of_mem _ hx)]
    rfl
theorem leafAll {ds : List PyData} (h : ∀ e ∈ ds, El e) : PyData.leavesShortAll 13 ds = true := by
  induction ds with
  | nil => rfl
  | cons e ds ih =>
    rw [PyData.leavesShortAll, (h e List.mem_cons_self).lv, ih fun x hx => h x (List.mem_cons_of_mem _ hx)]
    rfl
theorem wtAll {ds : List PyData} (h : ∀ e ∈ ds, El e) : PyData.weightAll ds ≤ 61 * ds.length := by
  induction ds with
  | nil => simp [PyData.weightAll]
  | cons e ds ih =>
    have h1 := (h e List.mem_cons_self).wt
    have h2 := ih fun x hx => h x (List.mem_cons_of_mem _ hx)
    rw [PyData.weightAll, List.length_cons]
    omega
theorem dpAll_le {ds : List PyData} (h : ∀ e ∈ ds, El e) : PyData.depthAll ds ≤ 2 := by
  induction ds with
  | nil => simp [PyData.depthAll]
  | cons e ds ih =>
    have h1 := (h e List.mem_cons_self).dp
    have h2 := ih fun x hx => h x (List.mem_cons_of_mem _ hx)
    simp only [PyData.depthAll]
    omega
theorem rp_tup {ds : List PyData} (h : ∀ e ∈ ds, El e) (hl : ds.length ≤ 1000) (hm : PyData.hasDictAll ds = true → noLists ds = true) : RpOk (.tuple ds) := by
  refine ⟨(fun i z => by cases z), (fun x z => by cases z), showAll h, PyData.shown_fits (B := 13) (by decide) (by decide) (d := .tuple ds) (leafAll h) ?_, ?_, hm⟩
  · have := wtAll h
    have e : (2 : Nat) ^ 20 = 1048576 := by decide
    show PyData.weightAll ds ≤ 2 ^ 20
    omega
  · have := dpAll_le h
    simp only [PyData.depth]
    omega
theorem rp_lst {ds : List PyData} (h : ∀ e ∈ ds, El e) (hl : ds.length ≤ 1000) (hm : PyData.hasDictAll ds = false) : RpOk (.list ds) := by
  refine ⟨(fun i z => by cases z), (fun x z => by cases z), showAll h, PyData.shown_fits (B := 13) (by decide) (by decide) (d := .list ds) (leafAll h) ?_, ?_, fun z => ?_⟩
  · have := wtAll h
    have e : (2 : Nat) ^ 20 = 1048576 := by decide
    show PyData.weightAll ds ≤ 2 ^ 20
    omega
  · have := dpAll_le h
    simp only [PyData.depth]
    omega
  · have z' : PyData.hasDictAll ds = true := z
    rw [hm] at z'
    cases z'
theorem rp_none : RpOk .none := ⟨(fun i z => by cases z), (fun x z => by cases z), rfl, by decide, by simp [PyData.depth], (fun z => by cases z)⟩
theorem rp_dict : RpOk (.dict []) := ⟨(fun i z => by cases z), (fun x z => by cases z), rfl, by decide +kernel, by simp [PyData.depth, PyData.depthKv], fun _ => rfl⟩
theorem noDict_ints : ∀ ns : List Int, PyData.hasDictAll (iD ns) = false
  | [] => rfl
  | i :: ns => by
    show (PyData.hasDict (.int i) || PyData.hasDictAll (iD ns)) = false
    rw [noDict_ints ns]
    rfl
theorem el_ints {ns : List Int} (h : ∀ i ∈ ns, i.natAbs < 1000000) : ∀ e ∈ iD ns, El e := fun e he => by
  obtain ⟨i, hi, rfl⟩ := List.mem_map.mp he
  exact el_int (h i hi)
theorem noDictAll {ds : List PyData} (h : ∀ e ∈ ds, e.hasDict = false) : PyData.hasDictAll ds = false := by
  induction ds with
  | nil => rfl
  | cons e ds ih =>
    rw [PyData.hasDictAll, h e List.mem_cons_self, ih fun x hx => h x (List.mem_cons_of_mem _ hx)]
    rfl
theorem rp_t0 {ds : List PyData} (h : ∀ e ∈ ds, El e ∧ e.hasDict = false) (hl : ds.length ≤ 1000) : RpOk (.tuple ds) := rp_tup (fun e he => (h e he).1) hl fun z => by
  rw [noDictAll fun e he => (h e he).2] at z
  cases z
theorem rp_l0 {ds : List PyData} (h : ∀ e ∈ ds, El e ∧ e.hasDict = false) (hl : ds.length ≤ 1000) : RpOk (.list ds) := rp_lst (fun e he => (h e he).1) hl (noDictAll fun e he => (h e he).2)
theorem el0_ints {ns : List Int} (h : ∀ i ∈ ns, i.natAbs < 1000) : ∀ e ∈ iD ns, El e ∧ e.hasDict = false := fun e he => by
  obtain ⟨i, hi, rfl⟩ := List.mem_map.mp he
  exact ⟨el_int (by have := h i hi; omega), rfl⟩
theorem el_str0 : El (.str "0") := ⟨rfl, by decide +kernel, by decide +kernel, by simp [PyData.depth]⟩
theorem el_tup0 : El (.tuple [.int 0]) := ⟨by decide +kernel, by decide +kernel, by decide +kernel, by simp [PyData.depth, PyData.depthAll]⟩
theorem rp_tD {ns : List Int} (h : ∀ i ∈ ns, i.natAbs < 1000000) (hl : ns.length ≤ 1000) : RpOk (tD ns) := rp_tup (el_ints h) (by rw [List.length_map]; exact hl) fun z => by
  rw [noDict_ints] at z
  cases z
end Lf

set_option maxHeartbeats 4000000
namespace Lf
open PySem PySem.Spec PyProof.Rows L2 GxR GxA SrT
/-! ### the two looks are one -/
theorem len_filter_all {α : Type} (p : α → Bool) : ∀ l : List α, decide ((l.filter p).length = l.length) = l.all p
  | [] => rfl
  | x :: l => by
    have ih := len_filter_all p l
    have hle : (l.filter p).length ≤ l.length := List.length_filter_le _ _
    rw [List.filter_cons, List.all_cons]
    cases hx : p x with
    | true =>
      rw [if_pos rfl, List.length_cons, List.length_cons, Bool.true_and, ← ih]
      congr 1
      exact propext ⟨fun h => by omega, fun h => by omega⟩
    | false =>
      rw [if_neg (by decide), List.length_cons, Bool.false_and]
      exact decide_eq_false (by omega)
theorem restF_less (fc : List Int) (p : Int) : restF fc p = lessL fc [p] := by
  unfold restF lessL
  congr 1
  funext z
  simp
theorem rests_eq (fc : List Int) (p : Int) (os : List (List Int)) : restsB fc p os = inSome (lessL fc [p]) os := by
  unfold restsB inSome
  rw [restF_less]
  have e : (fun o : List Int => decide ((comL (lessL fc [p]) o).length = (lessL fc [p]).length)) = fun o => hasAll o (lessL fc [p]) := by
    funext o
    exact len_filter_all (fun q => decide (q ∈ o)) _
  rw [e]
  generalize (fun o => hasAll o (lessL fc [p])) = P
  induction os with
  | nil => rfl
  | cons o os ih =>
    rw [List.filter_cons, List.any_cons, ← ih]
    cases P o <;> simp
theorem takes_eq (fss : List (List Int)) (p : Int) : takesB fss p = comesB fss p := by
  unfold takesB comesB arF
  rw [len_filter_all, List.all_map]
  have e : (fun g => restsB g p (lackL fss p)) = (fun g => inSome g (lackL fss p)) ∘ fun g => lessL g [p] := by
    funext g
    exact rests_eq g p _
  rw [e]
  generalize (fss.filter fun g => decide (p ∈ g)) = hs
  cases hs with
  | nil => rfl
  | cons g gs =>
    cases hk : lackL fss p with
    | nil => simp [inSome]
    | cons o os => simp
/-! ### a stack can be shown -/
theorem el_tD {f : List Int} (h4 : f.length ≤ 4) (h : ∀ i ∈ f, i.natAbs < 1000000) : PyData.showable (tD f) = true ∧ PyData.leavesShort 13 (tD f) = true ∧ PyData.weight (tD f) ≤ 300 ∧ PyData.hasDict (tD f) = false := by
  have z := el_ints h
  refine ⟨showAll z, leafAll z, ?_, noDict_ints f⟩
  have w := wtAll z
  have hl : (iD f).length = f.length := List.length_map ..
  show PyData.weightAll (iD f) ≤ 300
  omega
theorem rp_stk {n k : Int} {fss : List (List Int)} (S : StkOk n k fss) : RpOk (stkD n k fss) := by
  have n1 := S.n1
  have n8 := S.n8
  have k0 := S.k0
  have k4 := S.k4
  have hf : ∀ f ∈ fss, PyData.showable (tD f) = true ∧ PyData.leavesShort 13 (tD f) = true ∧ PyData.weight (tD f) ≤ 300 ∧ PyData.hasDict (tD f) = false := fun f hf => el_tD (S.len4 f hf) fun i hi => by
    have := S.bel f hf i hi
    omega
  have l70 := S.l70
  have hA : PyData.showableAll (fss.map tD) = true ∧ PyData.leavesShortAll 13 (fss.map tD) = true ∧ PyData.weightAll (fss.map tD) ≤ 301 * fss.length ∧ PyData.hasDictAll (fss.map tD) = false := by
    clear l70
    clear S
    induction fss with
    | nil => exact ⟨rfl, rfl, by simp [PyData.weightAll], rfl⟩
    | cons f fss ih =>
      obtain ⟨a1, a2, a3, a4⟩ := hf f List.mem_cons_self
      obtain ⟨b1, b2, b3, b4⟩ := ih fun g hg => hf g (List.mem_cons_of_mem _ hg)
      rw [List.map_cons, PyData.showableAll, PyData.leavesShortAll, PyData.weightAll, PyData.hasDictAll, a1, a2, a4, b1, b2, b4, List.length_cons]
      exact ⟨rfl, rfl, by omega, rfl⟩
  obtain ⟨b1, b2, b3, b4⟩ := hA
  have en := el_int (i := n) (by omega)
  have ek := el_int (i := k) (by omega)
  refine ⟨(fun i z => by cases z), (fun x z => by cases z), ?_, PyData.shown_fits (B := 13) (by decide) (by decide) (d := stkD n k fss) ?_ ?_, ?_, fun z => ?_⟩
  · show (PyData.showable (.int n) && (PyData.showable (.int k) && (PyData.showableAll (fss.map tD) && true))) = true
    rw [en.sh, ek.sh, b1]
    rfl
  · show (PyData.leavesShort 13 (.int n) && (PyData.leavesShort 13 (.int k) && (PyData.leavesShortAll 13 (fss.map tD) && true))) = true
    rw [en.lv, ek.lv, b2]
    rfl
  · have e : (2 : Nat) ^ 20 = 1048576 := by decide
    have w1 := en.wt
    have w2 := ek.wt
    unfold stkD
    simp only [PyData.weight, PyData.weightAll] at *
    omega
  · have := S.data.2.2
    omega
  · have z' : (PyData.hasDict (.int n) || (PyData.hasDict (.int k) || (PyData.hasDictAll (fss.map tD) || false))) = true := z
    rw [b4] at z'
    cases z'
theorem StkOk.last {n k : Int} {fss : List (List Int)} (S : StkOk n k fss) : StkOk n k (fss.drop (fss.length - 1)) := by
  have l1 := S.l1
  have l70 := S.l70
  have hm : ∀ f ∈ fss.drop (fss.length - 1), f ∈ fss := fun f hf => List.mem_of_mem_drop hf
  exact ⟨S.n1, S.n8, S.k0, S.kn, S.k4, by rw [List.length_drop]; omega, by rw [List.length_drop]; omega, fun f hf => S.len f (hm f hf), fun f hf => S.ris f (hm f hf), fun f hf => S.bel f (hm f hf), S.srt.sublist (List.drop_sublist _ _)⟩
/-! ### _law_came -/
section
variable {P : Program} {w : World} {K : PySem.W.Frag} {mg : Str → Option Value} {base : Heap} {Ps : Tbs} {H H' H0 : Hp} {k : Nat} {f c : Addr} {fd : FuncData}
variable {C : Nat → Addr} {CY CS CN : Addr}
/-- what a refusal comes to -/
def KE (K : PySem.W.Frag) (C : Nat → Addr) (CY : Addr) (Ps : Tbs) (Q : VK) : XK := fun cls dx H => dx = none ∧ ∃ i D, cls = .ref D ∧ Kind K C CY i D ∧ Tb Ps H ∧ ∀ H2, Ext Ps H H2 → Q (.str (wordOf i)) H2
theorem KE.at_ {Q : VK} {i : Nat} {D : Addr} (Z : Kind K C CY i D) (ht : Tb Ps H) (h : ∀ H2, Ext Ps H H2 → Q (.str (wordOf i)) H2) : KE K C CY Ps Q (.ref D) none H := ⟨rfl, i, D, rfl, Z, ht, h⟩
def spMayTake2 (K : PySem.W.Frag) (Ps : Tbs) (CS CN : Addr) : Sp := fun vs H Q E => spMayTake K Ps vs H Q E ∨ spMayTakeX K Ps CS CN vs H Q E
def spTakable2 (K : PySem.W.Frag) (Ps : Tbs) (CS : Addr) : Sp := fun vs H Q E => spTakable K Ps vs H Q E ∨ spTakableX K Ps CS vs H Q E
def Came70 (K : PySem.W.Frag) (Ps : Tbs) (CS CN : Addr) (wy : Int) (x y : V) (H : Hp) (Q : VK) (E : XK) : Prop := (wy = 0 → spMayTake2 K Ps CS CN [x, y] H Q E) ∧ (wy ≠ 0 → spTakable2 K Ps CS [x] H Q E)
def spCame70 (K : PySem.W.Frag) (Ps : Tbs) (C : Nat → Addr) (CY CS CN : Addr) : Sp := fun vs H Q _ => ∃ (wy : Int) (x y : V), vs = [.int wy, x, y] ∧ Came70 K Ps CS CN wy x y H Q (KE K C CY Ps Q)
end
end Lf

namespace Lf
open PySem PySem.Spec PyProof.Rows L2 GxR GxA SrT EnT
theorem for_enT {K : PySem.W.Frag} {a : Addr} {xs : List V} {g : TG} {tb : TS} {D : Ends} {σ : L2.St} {H : Hp} (Pv : Nat → L2.St → Hp → Prop) (h0 : Pv 0 σ H) (hl : ∀ i σ H, Pv i σ H → SqT K H a xs)
    (hs : ∀ i x σ H T, xs[i]? = some x → Pv i σ H → H T = none → g (.ref T) σ (upd H T (.tup [.int (i : Nat), x])) fun σ2 H2 => tb { D with nx := Pv (i + 1), ct := Pv (i + 1), bk := D.nx } σ2 H2) (hd : ∀ σ H, Pv xs.length σ H → D.nx σ H) :
    ∃ W : Nat → Nat → L2.St → Hp → Prop, (∃ m, W 0 m σ H) ∧ ∀ i m σ H, W i m σ H →
      ((ItT K a).stop i H ∧ D.nx σ H) ∨ ((ItT K a).go i H ∧ ∃ N : L2.St → Hp → Prop, (∀ σ' H', N σ' H' → ∃ m', m' < m ∧ W (i + 1) m' σ' H') ∧ ∀ x H', (ItT K a).yld i H x H' → g x σ H' fun σ2 H2 => tb { D with nx := N, ct := N, bk := D.nx } σ2 H2) := by
  refine ⟨fun i m σ H => m = xs.length - i ∧ i ≤ xs.length ∧ Pv i σ H, ⟨xs.length, by simp, Nat.zero_le _, h0⟩, ?_⟩
  rintro i m σ H ⟨rfl, hi, p⟩
  have q := hl i σ H p
  by_cases hlt : i < xs.length
  · refine .inr ⟨⟨xs, xs[i], q, List.getElem?_eq_getElem hlt⟩, Pv (i + 1), fun σ' H' p' => ⟨xs.length - (i + 1), by omega, rfl, hlt, p'⟩, fun x H' y => ?_⟩
    obtain ⟨T, z, rfl, hT, rfl, hz⟩ := y
    exact hs i z σ H T (hz xs q) p hT
  · have e : i = xs.length := by omega
    subst e
    exact .inl ⟨⟨xs, q, rfl⟩, hd σ H p⟩
end Lf

set_option maxHeartbeats 4000000
namespace Lf
open PySem PySem.Spec PyProof.Rows L2 GxR GxA SrT EnT
/-! ### the two ways of a face that may be laid -/
theorem mayB_iff {laid : List (List Int)} {fc : List Int} : mayB laid fc = true ↔ ∀ o ∈ laid, ∃ one ∈ laid, ((comL fc one).length : Int) = (fc.length : Int) - 1 ∧ ∀ p ∈ comL fc o, p ∈ one := by
  unfold mayB
  rw [List.all_eq_true]
  constructor
  · intro h o ho
    have z := h o ho
    have e : ((besideL laid fc).filter fun one => decide ((comL (comL fc o) one).length = (comL fc o).length)) ≠ [] := by
      intro e
      rw [e] at z
      cases z
    obtain ⟨one, hone⟩ := List.exists_mem_of_ne_nil _ e
    obtain ⟨h1, h2⟩ := List.mem_filter.mp hone
    obtain ⟨h3, h4⟩ := List.mem_filter.mp h1
    refine ⟨one, h3, of_decide_eq_true h4, ?_⟩
    have e2 : decide ((comL (comL fc o) one).length = (comL fc o).length) = (comL fc o).all fun q => decide (q ∈ one) := len_filter_all _ _
    rw [e2] at h2
    exact fun p hp => of_decide_eq_true (List.all_eq_true.mp h2 p hp)
  · intro h o ho
    obtain ⟨one, h1, h2, h3⟩ := h o ho
    have hm : one ∈ (besideL laid fc).filter fun one => decide ((comL (comL fc o) one).length = (comL fc o).length) := by
      refine List.mem_filter.mpr ⟨List.mem_filter.mpr ⟨h1, decide_eq_true h2⟩, ?_⟩
      have e2 : decide ((comL (comL fc o) one).length = (comL fc o).length) = (comL fc o).all fun q => decide (q ∈ one) := len_filter_all _ _
      rw [e2]
      exact List.all_eq_true.mpr fun p hp => decide_eq_true (h3 p hp)
    cases e : ((besideL laid fc).filter fun one => decide ((comL (comL fc o) one).length = (comL fc o).length)) with
    | nil =>
      rw [e] at hm
      cases hm
    | cons x l => rfl
theorem mayB_eq {kk : Int} {laid : List (List Int)} {fc : List Int} (fl : (fc.length : Int) = kk) (fs : fc.Pairwise (· < ·)) : mayB laid fc = mayL kk laid fc := by
  have nf : fc.Nodup := fs.imp (fun {a b} h => by omega)
  rw [Bool.eq_iff_iff, mayB_iff]
  unfold mayL
  rw [Bool.and_eq_true, List.all_eq_true, Bool.not_eq_true', decide_eq_false_iff_not]
  constructor
  · intro h
    refine ⟨fun own ho => ?_, fun hin => ?_⟩
    · obtain ⟨o, ho1, rfl⟩ := List.mem_map.mp ho
      obtain ⟨one, h1, h2, h3⟩ := h o ho1
      refine List.any_eq_true.mpr ⟨comL fc one, List.mem_filter.mpr ⟨List.mem_map.mpr ⟨one, h1, rfl⟩, decide_eq_true (by omega)⟩, hasAll_all.mpr fun p hp => ?_⟩
      exact List.mem_filter.mpr ⟨(List.mem_filter.mp hp).1, decide_eq_true (h3 p hp)⟩
    · obtain ⟨one, h1, h2, h3⟩ := h fc hin
      have e : comL fc one = fc := by
        unfold comL
        exact List.filter_eq_self.mpr fun p hp => decide_eq_true (h3 p (List.mem_filter.mpr ⟨hp, decide_eq_true hp⟩))
      rw [e] at h2
      omega
  · rintro ⟨h, hin⟩ o ho
    obtain ⟨c, hc, hh⟩ := List.any_eq_true.mp (h (comL fc o) (List.mem_map.mpr ⟨o, ho, rfl⟩))
    obtain ⟨hc1, hc2⟩ := List.mem_filter.mp hc
    obtain ⟨one, h1, rfl⟩ := List.mem_map.mp hc1
    have := of_decide_eq_true hc2
    exact ⟨one, h1, by omega, fun p hp => of_decide_eq_true (List.mem_filter.mp (hasAll_all.mp hh p hp)).2⟩
section
variable {P : Program} {w : World} {K : PySem.W.Frag} {mg : Str → Option Value} {base : Heap} {Ps : Tbs} {H H' H0 : Hp} {k : Nat} {f c : Addr} {fd : FuncData}
end
end Lf

set_option maxHeartbeats 4000000
namespace Lf
open PySem PySem.Spec PyProof.Rows L2 GxR GxA SrT
open SX
abbrev sFaceIn : Stmt := topS 47
abbrev sLRead : Stmt := topS 48
abbrev sFaceText : Stmt := topS 49
abbrev sLText : Stmt := topS 50
theorem scFaceIn : FnScope ["_law_word", "_law_sign"] ["_law_word"] (defScope sFaceIn) := ⟨rfl, rfl, rfl, by decide +kernel, rfl, by decide +kernel, by decide +kernel⟩
theorem scLRead : FnScope ["_law_text_here", "_law_words", "_law_faces", "_law_found", "_law_word"] ["_law_text_here"] (defScope sLRead) := ⟨rfl, rfl, rfl, by decide +kernel, rfl, by decide +kernel, by decide +kernel⟩
theorem scFaceText : FnScope ["_law_face", "_law_point"] ["_law_face"] (defScope sFaceText) := ⟨rfl, rfl, rfl, by decide +kernel, rfl, by decide +kernel, by decide +kernel⟩
theorem scLText : FnScope ["_law_stack_here", "_law_words", "_law_face"] ["_law_stack_here"] (defScope sLText) := ⟨rfl, rfl, rfl, by decide +kernel, rfl, by decide +kernel, by decide +kernel⟩
abbrev rNotS : R2 := fun x y H Q => ∃ (c : Nat) (z : Str), x = .str ⟨#[c]⟩ ∧ y = .str z ∧ Q (.bl (!decide (c ∈ z.cps.toList))) H
abbrev rIntS : List V → Hp → VK → Prop := fun xs H Q => ∃ a n, xs = [.str a] ∧ PySem.intText? a = some n ∧ a.length ≤ 640 ∧ Q (.int n) H
abbrev rStrI : List V → Hp → VK → Prop := fun xs H Q => ∃ i : Int, xs = [.int i] ∧ i.natAbs.log2 < 1920 ∧ Q (.str (toString i)) H
abbrev rLenX : List V → Hp → VK → Prop := fun xs H Q => ∃ z, xs = [.str z] ∧ z.length ≤ sizeLine ∧ Q (.int z.length) H
def sD (ws : List (List Nat)) : List PyData := ws.map fun w => .str (S w)
def asc (w : List Nat) : Bool := w.all fun c => decide (c < 128)
theorem strOk_asc {w : List Nat} (h : asc w = true) : PyData.strOk (S w) = true := by
  unfold PyData.strOk
  rw [← Array.all_toList, List.all_eq_true]
  intro c hc
  have := List.all_eq_true.mp h c hc
  rw [decide_eq_true_eq] at this ⊢
  omega
theorem mem_join {s c : Nat} : ∀ {ws : List (List Nat)} {w : List Nat}, w ∈ ws → c ∈ w → c ∈ TL.joinL [s] ws
  | [v], w, h, hc => by
    rw [List.mem_singleton.mp h] at hc
    exact hc
  | v :: u :: r, w, h, hc => by
    rw [joinL_cons]
    rcases List.mem_cons.mp h with rfl | h
    · exact List.mem_append_left _ hc
    · exact List.mem_append_right _ (List.mem_append_right _ (mem_join h hc))
theorem asc_wds {t : List Nat} (h : asc t = true) : ∀ w ∈ wdsL t, asc w = true := fun w hw => by
  unfold asc
  rw [List.all_eq_true]
  intro c hc
  refine List.all_eq_true.mp h c ?_
  have := mem_join (s := 32) hw hc
  rw [join_wds] at this
  exact this
theorem lay_sts : ∀ ws : List (List Nat), (∀ w ∈ ws, asc w = true) → PyData.canLayAll0 (sD ws) = true
  | [], _ => by simp [sD, PyData.canLayAll0]
  | n :: ns, h => by
    have := lay_sts ns fun w hw => h w (List.mem_cons_of_mem _ hw)
    unfold sD at this ⊢
    simp [PyData.canLayAll0, PyData.canLay0, this, strOk_asc (h n List.mem_cons_self)]
theorem dep_sts : ∀ ws : List (List Nat), PyData.depthAll (sD ws) = 0
  | [] => by simp [sD, PyData.depthAll]
  | n :: ns => by
    have := dep_sts ns
    unfold sD at this ⊢
    simp [PyData.depthAll, PyData.depth, this]
theorem shp_sts (ws : List (List Nat)) (h : ∀ w ∈ ws, asc w = true) : SeqAt.shaped (.list (sD ws)) = true := by
  unfold SeqAt.shaped
  simp [PyData.canLay0, PyData.depth, lay_sts ws h, dep_sts]
theorem eqv_stn (ws : List (List Nat)) : PyData.eqv (.list (sD ws)) (.list (sD [])) = decide (ws = []) := by
  rw [PyData.eqv]
  cases ws with
  | nil => simp [sD, PyData.eqvAll]
  | cons w ws => simp [sD, PyData.eqvAll]
theorem dp_sts {K : PySem.W.Frag} {H : Hp} : ∀ ws : List (List Nat), DpAll K H ((ws.map S).map V.str) (sD ws)
  | [] => .nil
  | _ :: ws => .cons (.str _) (dp_sts ws)
theorem mem_fig (c : Nat) : decide (c ∈ figS.cps.toList) = digC c := by
  rw [figS_eq, Bool.eq_iff_iff, decide_eq_true_eq, dig_iff]
  show c ∈ [48, 49, 50, 51, 52, 53, 54, 55, 56, 57] ↔ _
  simp
  omega
theorem int_sign {c : Nat} (h : digC c = true) : PySem.intText? (S [c]) = some ((c : Int) - 48) := by
  have hd := dig_iff.mp h
  rw [int_S (by simp [hd]) (by simp) (by simp)]
  congr 1
  show ((0 * 10 + (c - 48) : Nat) : Int) = _
  omega
theorem bad_iff (w : List Nat) : ((w.filter fun c => !digC c).map fun c => [c]) = [] ↔ w.all digC = true := by
  rw [List.map_eq_nil_iff, List.filter_eq_nil_iff, List.all_eq_true]
  exact ⟨fun h c hc => by have := h c hc; simpa using this, fun h c hc => by rw [h c hc]; simp⟩
section
variable {P : Program} {w : World} {K : PySem.W.Frag} {mg : Str → Option Value} {base : Heap} {Ps : Tbs} {H H' H0 : Hp} {k : Nat} {f c : Addr} {fd : FuncData}
def FFi (K : PySem.W.Frag) : Hp → V → List Nat → Prop := fun H x w => (x = .non ∧ fiD w = .none) ∨ ∃ f, fiD w = tD f ∧ TupI K H x f
theorem stbFi : Stb K Ps (FFi K) := ⟨fun H H' x w e h => h.imp id fun ⟨f, h1, h2⟩ => ⟨f, h1, e.tupI h2⟩, fun H D l l' x w hD h => h.imp id fun ⟨f, h1, h2⟩ => ⟨f, h1, tupI_put hD h2⟩⟩
theorem fi_th {x : V} {w : List Nat} (h : FFi K H x w) : Th K H x (fiD w) := by
  rcases h with ⟨rfl, e⟩ | ⟨f, e, hI⟩
  · rw [e]
    exact .non
  · rw [e]
    exact th_tup hI
theorem fi_ths : ∀ {xs : List V} {ws : List (List Nat)}, Paired (FFi K H) xs ws → ThAllF K H (fun _ => True) xs (ws.map fiD)
  | _, _, .nil => .nil
  | _, _, .cons h t => .cons (fi_th h) (fi_ths t)
def spFaceIn (K : PySem.W.Frag) (Ps : Tbs) : Sp := fun vs H Q _ => ∃ (w : List Nat), vs = [.str (S w)] ∧ w.length ≤ 500 ∧ asc w = true ∧ Tb Ps H ∧ ∀ v H', Ext Ps H H' → FFi K H' v w → Q v H'
theorem ok_faceIn (D : Def K mg "_law_face_in" sFaceIn ["_law_word"] f fd c) (mt : mg "tuple" = none) (mI : mg "int" = none) : FnOk P w K mg base CX0 (k + 1) f fd ["_law_word"] (spFaceIn K Ps) := by
  refine D.ok (k := k) scFaceIn (fun vs H Q E h => ?_) (fun A outer s H vs Q E hr h => ?_)
  · obtain ⟨w, rfl, _⟩ := h
    rfl
  · obtain ⟨w, rfl, hl, ha, ht, q⟩ := h
    refine ⟨_, (pss_cons (ps_if (pt_cmpR op_eq (pv 0) pe_str (nomark _)) (pss_one (ps_ret (pe_tup pa_nil))) pss_nil) (pss_cons (ps_if (PW.pt (pw_or (pt_cmpR op_eq (pv 0) pe_str (nomark _)) (pw_or1 (pt_cmpR (show OpR _ _ (rNeD K) from op_neD hr.units) (pe_lc (own := [("_law_sign", 1)]) (g := gName 1) (by rfl) scFaceIn.nd (pi_str (pv 0)) (blkOk_by (N := ["_law_word", "_law_sign"]) (sc := defScope sFaceIn) (by decide +kernel)) (fun _ _ _ _ _ => pg_name (i := 1) scFaceIn.nd rfl (Or.inl rfl)) (fun _ _ _ _ _ => pts_one (pt_cmpR (show OpR _ _ rNotS from op_notIn_sign) (pv 1) pe_str (by with_unfolding_all rfl))) (fun _ _ _ _ _ => (pv 1))) (pe_lst pa_nil) (nomark _))))) (pss_one (ps_ret pe_non)) pss_nil) (pss_one (ps_ret (pe_callTy call_tuple_of (by rfl) mt (by decide +kernel) (pa_cons (pe_lc (own := [("_law_sign", 1)]) (g := gName 1) (by rfl) scFaceIn.nd (pi_str (pv 0)) (blkOk_by (N := ["_law_word", "_law_sign"]) (sc := defScope sFaceIn) (by decide +kernel)) (fun _ _ _ _ _ => pg_name (i := 1) scFaceIn.nd rfl (Or.inl rfl)) (fun _ _ _ _ _ => pts_nil) (fun _ _ _ _ _ => (show PE _ _ (tCB rIntS _) from (pe_callTy (T := "int") (r := rIntS) (show CallR _ (.type "int") rIntS from call_int_str) (by rfl) mI (by decide +kernel) (pa_cons (pv 1) pa_nil))))) pa_nil)))))), ?_⟩
    refine tseq_intro fun R hR => ?_
    refine ⟨.str (S w), rfl, rfl, decide (w = [45]), ?_, ?_⟩
    · congr 1
      rw [show (("-" : Str)) = S [45] from dshS_eq]
      exact decide_eq_decide.mpr ⟨fun z => by injection z with z; exact S_inj z, fun z => by rw [z]⟩
    by_cases e : w = [45]
    · rw [decide_eq_true e]
      refine iteT ⟨Nat.zero_le _, fun t nt => ?_⟩
      refine q _ _ (Ext.new (o := .tup []) ht nt) ?_
      exact .inr ⟨[], if_pos e, t, rfl, .inl (.inl upd_same)⟩
    rw [decide_eq_false e]
    refine iteF ?_
    show R [some (.str (S w)), none] H
    rw [hR]
    clear hR
    refine tseq_intro fun R hR => ?_
    refine ⟨.str (S w), rfl, rfl, decide (w = []), ?_, ?_⟩
    · congr 1
      rw [nil_S]
      exact decide_eq_decide.mpr ⟨fun z => by injection z with z; exact S_inj z, fun z => by rw [z]⟩
    by_cases e2 : w = []
    · rw [decide_eq_true e2]
      refine iteT (q _ _ (Ext.refl ht) ?_)
      exact .inl ⟨rfl, by unfold fiD; rw [if_neg e, if_pos (.inl e2)]⟩
    rw [decide_eq_false e2]
    refine iteF ⟨.str (S w), rfl, S w, rfl, fun D0 hD => lc_str (x := S w) (fun i HY => CP Ps FSt H D0 (((w.take i).filter fun c => !digC c).map fun c => [c]) i HY) (CP.start ht hD) (fun i c HY hc p => ?_) (fun HY p => ?_)⟩
    · have hc' : w[i]? = some c := hc
      have hi : i < w.length := (List.getElem?_eq_some_iff.mp hc').1
      have es := filt_take (fun c => !digC c) hc'
      refine ⟨rfl, .str (S [c]), rfl, c, figS, rfl, rfl, !digC c, ?_, ?_⟩
      · rw [mem_fig]
      refine ite2 (fun hn => ?_) (fun hn => ?_)
      · rw [if_pos hn] at es
        have r := CP.put (stbSt (K := K)) hD (by omega) p (show FSt HY (.str (S [c])) [c] from rfl)
        rw [es, List.map_append]
        exact ⟨.str (S [c]), rfl, r⟩
      · rw [if_neg hn, List.append_nil] at es
        rw [es]
        exact p.mono (Nat.le_succ i)
    rw [show (S w).cps.toList.length = w.length from rfl, List.take_length] at p
    obtain ⟨zs, g1, g2, g3⟩ := p.at_
    rw [paired_sts g2] at g1
    refine ⟨Nat.zero_le _, fun ln nln => ?_⟩
    have x2 := Ext.new (o := .lst []) p.ext.tb nln
    have hasc : ∀ v ∈ ((w.filter fun c => !digC c).map fun c => [c]), asc v = true := fun v hv => by
      obtain ⟨c, hc, rfl⟩ := List.mem_map.mp hv
      have := List.all_eq_true.mp ha c (List.mem_filter.mp hc).1
      show (decide (c < 128) && true) = true
      rw [this]
      rfl
    refine ⟨_, _, .lst (.inl (.inl (x2.lst g1))) (dp_sts _), .lst (xs := []) (.inl (.inl upd_same)) (show DpAll K _ [] (sD []) from .nil), shp_sts _ hasc, shp_sts [] (fun w hw => absurd hw (by simp)), !w.all digC, ?_, ?_⟩
    · rw [eqv_stn]
      congr 2
      rw [Bool.eq_iff_iff, decide_eq_true_eq]
      exact bad_iff w
    have E2 := p.ext.trans x2
    generalize upd HY ln (.lst []) = H2 at *
    cases hd : w.all digC with
    | false =>
      refine iteT (q _ _ E2 ?_)
      exact .inl ⟨rfl, by unfold fiD; rw [if_neg e, if_pos (.inr hd)]⟩
    | true =>
      refine iteF ?_
      show R [some (.str (S w)), none] H2
      rw [hR]
      clear hR
      refine ⟨.str (S w), rfl, S w, rfl, fun D1 hD1 => lc_str (x := S w) (fun i HZ => CP Ps FI H2 D1 ((w.take i).map fun c : Nat => (c : Int) - 48) i HZ) (CP.start E2.tb hD1) (fun i c HZ hc p => ?_) (fun HZ p => ?_)⟩
      · have hc' : w[i]? = some c := hc
        have hi : i < w.length := (List.getElem?_eq_some_iff.mp hc').1
        have hdc := List.all_eq_true.mp hd c (List.mem_of_getElem? hc')
        refine ⟨rfl, yes_ (iteT ⟨.str (S [c]), rfl, S [c], _, rfl, int_sign hdc, by rw [S_len]; show 1 ≤ 640; decide, ?_⟩)⟩
        have r := CP.put (stbI (K := K)) hD1 (by omega) p (show FI HZ (.int ((c : Int) - 48)) ((c : Int) - 48) from rfl)
        rw [List.take_add_one, hc', List.map_append]
        exact r
      rw [show (S w).cps.toList.length = w.length from rfl, List.take_length] at p
      obtain ⟨ys, y1, y2, y3⟩ := p.at_
      rw [paired_ints y2] at y1
      refine ⟨D1, _, rfl, .inl ⟨.inl (.inl y1), fun t nt => ?_⟩⟩
      refine q _ _ (E2.trans (p.ext.trans (Ext.new p.ext.tb nt))) ?_
      exact .inr ⟨w.map fun c : Nat => (c : Int) - 48, by unfold fiD; rw [if_neg e, if_neg (by rintro (z | z); exact e2 z; rw [hd] at z; cases z)], t, rfl, .inl (.inl upd_same)⟩
/-! ### _law_read -/
theorem okt_iff {t : List Nat} {n kk : Int} {F : List (List Int)} (So : StkOk n kk F) : OkT t n kk F ↔ (headB t = true ∧ lawD t = stkD n kk F) := by
  have h := read_iff t n kk F So.sd
  exact ⟨fun z => h.mp ⟨z.2.1, z.2.2⟩, fun z => ⟨So, h.mpr z⟩⟩
theorem okt_no {t : List Nat} (h : headB t = false) : ¬ ∃ n kk F, OkT t n kk F := fun ⟨n, kk, F, z⟩ => by
  have := ((okt_iff z.1).mp z).1
  rw [h] at this
  cases this
theorem fi_len (w : List Nat) : lenD (fiD w) ≤ w.length ∧ wide (fiD w) = true ∨ 1000 < w.length := by
  by_cases hl : 1000 < w.length
  · exact .inr hl
  refine .inl ?_
  unfold fiD
  by_cases e : w = [45]
  · rw [if_pos e]
    exact ⟨Nat.zero_le _, rfl⟩
  · rw [if_neg e]
    by_cases e2 : w = [] ∨ w.all digC = false
    · rw [if_pos e2]
      exact ⟨Nat.zero_le _, rfl⟩
    · rw [if_neg e2]
      refine ⟨?_, wide_tD (by rw [List.length_map]; omega)⟩
      rw [show lenD (tD (w.map fun c : Nat => (c : Int) - 48)) = (w.map fun c : Nat => (c : Int) - 48).length from List.length_map .., List.length_map]
      exact Nat.le_refl _
theorem hd_no1 {t u0 : List Nat} (h : wdsL t = [u0]) : headB t = false := by
  unfold headB
  rw [h]
  match u0 with
  | [] => rfl
  | [c] => rfl
  | c :: d :: r => rfl
theorem hd_no2 {t u0 u1 : List Nat} {us : List (List Nat)} (h : wdsL t = u0 :: u1 :: us) (h0 : u0.length ≠ 1) : headB t = false := by
  unfold headB
  rw [h]
  match u0, h0 with
  | [], _ => rfl
  | [c], h0 => exact absurd rfl h0
  | c :: d :: r, _ => rfl
theorem hd_no3 {t u0 u1 : List Nat} {us : List (List Nat)} (h : wdsL t = u0 :: u1 :: us) (h1 : u1.length ≠ 2) : headB t = false := by
  unfold headB
  rw [h]
  match u0, u1, h1 with
  | [], _, _ => rfl
  | [c], [], _ => rfl
  | [c], [d], _ => rfl
  | [c], [d, e], h1 => exact absurd rfl h1
  | [c], d :: e :: f :: r, _ => rfl
  | c :: d :: r, _, _ => rfl
theorem hd_c {t : List Nat} {c d e : Nat} {us : List (List Nat)} (h : wdsL t = [c] :: [d, e] :: us) : headB t = (digC c && digC d && decide (e = 58)) := by
  unfold headB
  rw [h]
theorem fi_tups : ∀ {xs : List V} {ws : List (List Nat)} {F : List (List Int)}, Paired (FFi K H) xs ws → ws.map fiD = F.map tD → Paired (TupI K H) xs F
  | _, _, [], .nil, _ => .nil
  | _, _, _ :: _, .nil, e => by cases e
  | _, _, [], .cons h t, e => by cases e
  | _, _, f :: F, .cons h t, e => by
    rw [List.map_cons, List.map_cons] at e
    injection e with e1 e2
    refine .cons ?_ (fi_tups t e2)
    rcases h with ⟨_, z⟩ | ⟨g, z, hI⟩
    · rw [z] at e1
      cases e1
    · rw [z] at e1
      rw [← tD_inj e1]
      exact hI
def spLRead (K : PySem.W.Frag) (Ps : Tbs) : Sp := fun vs H Q _ => ∃ (t : List Nat), vs = [.str (S t)] ∧ t.length ≤ 400 ∧ asc t = true ∧ Tb Ps H ∧ (∀ n kk F, OkT t n kk F → ∀ v H', Ext Ps H H' → Stk K H' v n kk F → Q v H') ∧ ((¬ ∃ n kk F, OkT t n kk F) → ∀ H', Ext Ps H H' → Q .non H')
theorem ok_lRead {fF cF fI cI : Addr} {fdF fdI : FuncData} (D : Def K mg "_law_read" sLRead ["_law_text_here"] f fd c) (DF : Def K mg "_law_face_in" sFaceIn ["_law_word"] fF fdF cF) (GF : FnOk P w K mg base CX0 (k) fF fdF ["_law_word"] (spFaceIn K Ps)) (DI : Def K mg "_law_is_stack" sIsStackL ["_law_thing"] fI fdI cI) (GI : FnOk P w K mg base CX0 (k) fI fdI ["_law_thing"] (spIsStackL K Ps)) (mt : mg "tuple" = none) (mI : mg "int" = none) (ml : mg "len" = none) : FnOk P w K mg base CX0 (k + 1) f fd ["_law_text_here"] (spLRead K Ps) := by
  refine D.ok (k := k) scLRead (fun vs H Q E h => ?_) (fun A outer s H vs Q E hr h => ?_)
  · obtain ⟨t, rfl, _⟩ := h
    rfl
  · obtain ⟨t, rfl, t4, ha, ht, qy, qn⟩ := h
    refine ⟨_, (pss_cons (ps_set (i := 1) scLRead.nd rfl (.inl rfl) (pe_bm PySem.F.plainAttrs_str PySem.F.slot_str_split PySem.F.type_str_split mt_split (pv 0) (pa_cons pe_str pa_nil))) (pss_cons (ps_if (PW.pt (pw_or (pt_cmpR op_lt (pe_callB (call_lenS (K := K) rfl) (by rfl) ml PySem.boot_len (pa_cons (pv 1) pa_nil)) pe_int (nomark _)) (pw_or (pt_cmpR op_ne (pe_callB (r := rLenX) (show CallR _ (.builtin "len") rLenX from call_len_str) (by rfl) ml PySem.boot_len (pa_cons (pe_ix (show IxR _ (rIxL K) from ix_list) (pv 1) pe_int (fun _ _ => rfl)) pa_nil)) pe_int (nomark _)) (pw_or1 (pt_cmpR op_ne (pe_callB (r := rLenX) (show CallR _ (.builtin "len") rLenX from call_len_str) (by rfl) ml PySem.boot_len (pa_cons (pe_ix (show IxR _ (rIxL K) from ix_list) (pv 1) pe_int (fun _ _ => rfl)) pa_nil)) pe_int (nomark _)))))) (pss_one (ps_ret pe_non)) pss_nil) (pss_cons (ps_if (PW.pt (pw_or (pt_cmpR (show OpR _ _ rNotS from op_notIn_sign) (pe_ix (show IxR _ (rIxL K) from ix_list) (pv 1) pe_int (fun _ _ => rfl)) pe_str (by with_unfolding_all rfl)) (pw_or (pt_cmpR (show OpR _ _ rNotS from op_notIn_sign) (pe_ix (show IxR _ rIxS from ix_str) (pe_ix (show IxR _ (rIxL K) from ix_list) (pv 1) pe_int (fun _ _ => rfl)) pe_int (fun _ _ => rfl)) pe_str (by with_unfolding_all rfl)) (pw_or1 (pt_cmpR op_ne (pe_ix (show IxR _ rIxS from ix_str) (pe_ix (show IxR _ (rIxL K) from ix_list) (pv 1) pe_int (fun _ _ => rfl)) pe_int (fun _ _ => rfl)) pe_str (nomark _)))))) (pss_one (ps_ret pe_non)) pss_nil) (pss_cons (ps_set (i := 2) scLRead.nd rfl (.inl rfl) (pe_callTy call_tuple_of (by rfl) mt (by decide +kernel) (pa_cons (pe_lc (own := [("_law_word", 4)]) (g := gName 4) (by rfl) scLRead.nd (pi_list (pe_slice sl_list (pv 1) (po_some pe_int) po_none)) (blkOk_by (N := ["_law_text_here", "_law_words", "_law_faces", "_law_found", "_law_word"]) (sc := defScope sLRead) (by decide +kernel)) (fun _ _ _ _ _ => pg_name (i := 4) scLRead.nd rfl (Or.inl rfl)) (fun _ _ _ _ _ => pts_nil) (fun _ _ _ _ _ => (pcl DF GF hr (pa_cons (pv 4) pa_nil)))) pa_nil))) (pss_cons (ps_set (i := 3) scLRead.nd rfl (.inl rfl) (pe_tup (pa_cons (pe_callTy (T := "int") (r := rIntS) (show CallR _ (.type "int") rIntS from call_int_str) (by rfl) mI (by decide +kernel) (pa_cons (pe_ix (show IxR _ (rIxL K) from ix_list) (pv 1) pe_int (fun _ _ => rfl)) pa_nil)) (pa_cons (pe_callTy (T := "int") (r := rIntS) (show CallR _ (.type "int") rIntS from call_int_str) (by rfl) mI (by decide +kernel) (pa_cons (pe_ix (show IxR _ rIxS from ix_str) (pe_ix (show IxR _ (rIxL K) from ix_list) (pv 1) pe_int (fun _ _ => rfl)) pe_int (fun _ _ => rfl)) pa_nil)) (pa_cons (pv 2) pa_nil))))) (pss_one (ps_ret (pe_ifExp (pt_val (pcl DI GI hr (pa_cons (pv 3) pa_nil))) (pv 3) pe_non)))))))), ?_⟩
    obtain ⟨w1, w2⟩ := wds_len t
    have wa := asc_wds ha
    refine tseq_intro fun R hR => ?_
    refine ⟨.str (S t), rfl, rfl, S t, " ", rfl, rfl, by decide +kernel, ?_, fun lw nlw => ?_⟩
    · rw [S_len]
      exact Nat.le_of_lt (small1000 (by omega))
    rw [one_S, split_S (by simp) (by decide)]
    have x1 := Ext.new (o := .lst (((TL.spl [32] 0 [] t).map S).map V.str)) ht nlw
    have hlw : upd H lw (.lst (((TL.spl [32] 0 [] t).map S).map V.str)) lw = some (.lst (((wdsL t).map S).map V.str)) := upd_same
    generalize upd H lw (.lst (((TL.spl [32] 0 [] t).map S).map V.str)) = H1 at *
    show R [some (.str (S t)), some (.ref lw), none, none, none] H1
    rw [hR]
    clear hR
    have sl : ∀ w ∈ wdsL t, (S w).length ≤ sizeLine := fun w hw => by
      rw [S_len]
      have := w2 w hw
      exact Nat.le_of_lt (small1000 (by omega))
    have no : headB t = false → ∀ H', Ext Ps H H' → Q .non H' := fun h => qn (okt_no h)
    have ft : freeD t = freeD t := rfl
    -- how many there are
    refine tseq_intro fun R hR => ?_
    generalize hws : wdsL t = W at *
    rcases W with _ | ⟨u0, _ | ⟨u1, us⟩⟩
    · exact absurd hws (wds_ne t)
    · refine ⟨.ref lw, rfl, lw, _, rfl, .inl (.inl (.inl hlw)), _, 2, rfl, rfl, true, rfl, iteT (no (hd_no1 hws) _ x1)⟩
    have lt2 : decide ((((((u0 :: u1 :: us).map S).map V.str).length : Nat) : Int) < 2) = false := decide_eq_false (by simp; omega)
    refine ⟨.ref lw, rfl, lw, _, rfl, .inl (.inl (.inl hlw)), _, 2, rfl, rfl, false, congrArg V.bl lt2, iteF ?_⟩
    refine ⟨.ref lw, rfl, lw, _, 0, .str (S u0), rfl, rfl, .inl (.inl hlw), atI_nat (j := 0) rfl, S u0, rfl, sl u0 (by simp), rfl, !decide (u0.length = 1), ?_, ?_⟩
    · congr 2
      rw [S_len]
      exact decide_eq_decide.mpr ⟨fun z => by injection z with z; omega, fun z => by rw [z]; rfl⟩
    by_cases h0 : u0.length ≠ 1
    · rw [decide_eq_false h0]
      exact iteT (no (hd_no2 hws h0) _ x1)
    replace h0 : u0.length = 1 := by omega
    rw [decide_eq_true h0]
    refine iteF ⟨.ref lw, rfl, lw, _, 1, .str (S u1), rfl, rfl, .inl (.inl hlw), atI_nat (j := 1) rfl, S u1, rfl, sl u1 (by simp), rfl, !decide (u1.length = 2), ?_, ?_⟩
    · congr 2
      rw [S_len]
      exact decide_eq_decide.mpr ⟨fun z => by injection z with z; omega, fun z => by rw [z]; rfl⟩
    by_cases h1 : u1.length ≠ 2
    · rw [decide_eq_false h1]
      exact iteT (no (hd_no3 hws h1) _ x1)
    replace h1 : u1.length = 2 := by omega
    rw [decide_eq_true h1]
    refine iteF ?_
    show R [some (.str (S t)), some (.ref lw), none, none, none] H1
    rw [hR]
    clear hR
    obtain ⟨c, rfl⟩ : ∃ c, u0 = [c] := by
      match u0, h0 with
      | [c], _ => exact ⟨c, rfl⟩
    obtain ⟨d, e, rfl⟩ : ∃ d e, u1 = [d, e] := by
      match u1, h1 with
      | [d, e], _ => exact ⟨d, e, rfl⟩
    have hh := hd_c hws
    -- the figures
    refine tseq_intro fun R hR => ?_
    refine ⟨.ref lw, rfl, lw, _, 0, .str (S [c]), rfl, rfl, .inl (.inl hlw), atI_nat (j := 0) rfl, c, figS, rfl, rfl, !digC c, by rw [mem_fig], ?_⟩
    cases hc : digC c with
    | false => exact iteT (no (by rw [hh, hc]; rfl) _ x1)
    | true =>
    refine iteF ⟨.ref lw, rfl, lw, _, 1, .str (S [d, e]), rfl, rfl, .inl (.inl hlw), atI_nat (j := 1) rfl, S [d, e], 0, d, rfl, rfl, sl _ (by simp), atI_nat (j := 0) rfl, d, figS, rfl, rfl, !digC d, by rw [mem_fig], ?_⟩
    cases hd : digC d with
    | false => exact iteT (no (by rw [hh, hc, hd]; rfl) _ x1)
    | true =>
    have lit : ((":" : Str)) = S [58] := by decide +kernel
    refine iteF ⟨.ref lw, rfl, lw, _, 1, .str (S [d, e]), rfl, rfl, .inl (.inl hlw), atI_nat (j := 1) rfl, S [d, e], 1, e, rfl, rfl, sl _ (by simp), atI_nat (j := 1) rfl, rfl, !decide (e = 58), ?_, ?_⟩
    · congr 2
      rw [lit]
      exact decide_eq_decide.mpr ⟨fun z => by injection z with z; have := S_inj (show S [e] = S [58] from z); simpa using this, fun z => by rw [z]⟩
    by_cases he : e ≠ 58
    · rw [decide_eq_false he]
      exact iteT (no (by rw [hh, hc, hd, decide_eq_false he]; rfl) _ x1)
    replace he : e = 58 := by omega
    rw [decide_eq_true he]
    have hh1 : headB t = true := by rw [hh, hc, hd, decide_eq_true he]; rfl
    refine iteF ?_
    show R [some (.str (S t)), some (.ref lw), none, none, none] H1
    rw [hR]
    clear hR
    -- the faces
    refine tseq_intro fun R hR => ?_
    have ec : cutV ((([c] :: [d, e] :: us).map S).map V.str) (some 2) none = ((us.map S).map V.str) := cut_fromS _ 2
    refine ⟨.ref lw, rfl, 2, rfl, lw, _, rfl, .inl (.inl hlw), fun l2 nl2 => ?_⟩
    rw [ec]
    have x2 := Ext.new (o := .lst ((us.map S).map V.str)) x1.tb nl2
    have hl2 : upd H1 l2 (.lst ((us.map S).map V.str)) l2 = some (.lst ((us.map S).map V.str)) := upd_same
    have hlw2 := x2.lst hlw
    generalize upd H1 l2 (.lst ((us.map S).map V.str)) = H2 at *
    refine ⟨l2, rfl, ⟨_, .inl (.inl hl2)⟩, fun D1 hD1 => lc_list (K := K) (a := l2) (xs := (us.map S).map V.str) (fun i HZ => CP Ps (FFi K) H2 D1 (us.take i) i HZ) (CP.start x2.tb hD1) (fun i HZ _ p => p.ext.sqL (.inl (.inl hl2))) (fun i u HZ hu p => ?_) (fun HZ p => ?_)⟩
    · obtain ⟨w, hw, rfl⟩ := map_st hu
      have hi : i < us.length := (List.getElem?_eq_some_iff.mp hw).1
      have hul : us.length + 2 ≤ t.length + 1 := w1
      have hm : w ∈ [c] :: [d, e] :: us := List.mem_cons_of_mem _ (List.mem_cons_of_mem _ (List.mem_of_getElem? hw))
      have hwl := w2 w hm
      refine ⟨rfl, yes_ (iteT ⟨.str (S w), rfl, w, rfl, by omega, wa w hm, p.ext.tb, fun v H6 e6 hv => ?_⟩)⟩
      have r := CP.put (stbFi (K := K)) hD1 (by omega) (p.skip (stbFi (K := K)) e6) hv
      rw [List.take_add_one (l := us), hw]
      exact r
    rw [List.length_map, List.length_map, List.take_length] at p
    obtain ⟨ys, y1, y2, y3⟩ := p.at_
    have e5 := p.ext
    clear p y3
    refine ⟨D1, _, rfl, .inl ⟨.inl (.inl y1), fun fa nfa => ?_⟩⟩
    have x6 := Ext.new (o := .tup ys) e5.tb nfa
    have hfa : SqT K (upd HZ fa (.tup ys)) fa ys := .inl (.inl upd_same)
    have y26 := Paired.mapP y2 fun _ _ z => stbFi (K := K).ext _ _ _ _ x6 z
    have hlw6 := x6.lst (e5.lst hlw2)
    have X6 := x1.trans (x2.trans (e5.trans x6))
    generalize upd HZ fa (.tup ys) = H6 at *
    show R [some (.str (S t)), some (.ref lw), some (.ref fa), none, none] H6
    rw [hR]
    clear hR
    -- what is found
    refine tseq_intro fun R hR => ?_
    refine ⟨.ref lw, rfl, lw, _, 0, .str (S [c]), rfl, rfl, .inl (.inl hlw6), atI_nat (j := 0) rfl, S [c], _, rfl, int_sign hc, by rw [S_len]; show 1 ≤ 640; decide, ?_⟩
    refine ⟨.ref lw, rfl, lw, _, 1, .str (S [d, e]), rfl, rfl, .inl (.inl hlw6), atI_nat (j := 1) rfl, S [d, e], 0, d, rfl, rfl, sl _ (by simp), atI_nat (j := 0) rfl, S [d], _, rfl, int_sign hd, by rw [S_len]; show 1 ≤ 640; decide, ?_⟩
    refine ⟨.ref fa, rfl, (by decide : (3 : Nat) ≤ sizeLine), fun ts nts => ?_⟩
    have x7 := Ext.new (o := .tup [.int ((c : Int) - 48), .int ((d : Int) - 48), .ref fa]) x6.tb nts
    have hts : SqT K (upd H6 ts (.tup [.int ((c : Int) - 48), .int ((d : Int) - 48), .ref fa])) ts [.int ((c : Int) - 48), .int ((d : Int) - 48), .ref fa] := .inl (.inl upd_same)
    have hfa7 := x7.sqT hfa
    have y27 := Paired.mapP y26 fun _ _ z => stbFi (K := K).ext _ _ _ _ x7 z
    have X7 := X6.trans x7
    generalize upd H6 ts (.tup [.int ((c : Int) - 48), .int ((d : Int) - 48), .ref fa]) = H7 at *
    show R [some (.str (S t)), some (.ref lw), some (.ref fa), some (.ref ts), none] H7
    rw [hR]
    clear hR
    have eD : lawD t = .tuple [.int ((c : Int) - 48), .int ((d : Int) - 48), .tuple (us.map fiD)] := by
      unfold lawD
      rw [hws]
      show PyData.tuple [.int (figC c), .int (figC d), .tuple (us.map fiD)] = _
      unfold figC
      rw [if_pos hc, if_pos hd]
    have hTh : Th K H7 (.ref ts) (lawD t) := by
      rw [eD]
      exact .tup hts (.cons (.int _) (.cons (.int _) (.cons (.tup hfa7 (fi_ths y27)) .nil)))
    have hul : us.length + 2 ≤ t.length + 1 := w1
    have fl : ∀ w ∈ us, lenD (fiD w) ≤ 900 ∧ wide (fiD w) = true := fun w hw => by
      have hwl := w2 w (List.mem_cons_of_mem _ (List.mem_cons_of_mem _ hw))
      rcases fi_len w with ⟨z1, z2⟩ | z
      · exact ⟨by omega, z2⟩
      · omega
    have wD : wide (lawD t) = true := by
      rw [eD]
      refine wide_t (by show 3 ≤ 1000; decide) fun x hx => ?_
      rcases List.mem_cons.mp hx with rfl | hx
      · rfl
      rcases List.mem_cons.mp hx with rfl | hx
      · rfl
      rw [List.mem_singleton.mp hx]
      refine wide_t (by rw [List.length_map]; omega) fun y hy => ?_
      obtain ⟨w, hw, rfl⟩ := List.mem_map.mp hy
      exact (fl w hw).2
    have sF : ShortF (lawD t) := fun x y ds he e hm => by
      rw [eD] at he
      injection he with he
      injection he with _ he
      injection he with _ he
      injection he with he _
      injection he with he
      rw [← he] at hm
      obtain ⟨w, hw, rfl⟩ := List.mem_map.mp hm
      exact (fl w hw).1
    refine ⟨.ref ts, rfl, .ref ts, lawD t, rfl, hTh, wD, sF, x7.tb, fun H8 e8 => ⟨isStackD (lawD t), rfl, ?_⟩⟩
    cases hs : isStackD (lawD t) with
    | false =>
      refine iteF (qn (fun ⟨n, kk, F, z⟩ => ?_) _ (X7.trans e8))
      have := ((okt_iff z.1).mp z).2
      have := isStackD_iff.mpr ⟨n, kk, F, this, z.1⟩
      rw [hs] at this
      cases this
    | true =>
      obtain ⟨n, kk, F, ef, So⟩ := isStackD_iff.mp hs
      have ok := (okt_iff So).mpr ⟨hh1, ef⟩
      rw [eD] at ef
      have ef' : PyData.tuple [.int ((c : Int) - 48), .int ((d : Int) - 48), .tuple (us.map fiD)] = .tuple [.int n, .int kk, .tuple (F.map tD)] := ef
      injection ef' with ef'
      injection ef' with f1 ef'
      injection ef' with f2 ef'
      injection ef' with f3 _
      injection f1 with f1
      injection f2 with f2
      injection f3 with f3
      rw [f1, f2] at hts
      exact iteT ⟨.ref ts, rfl, qy n kk F ok _ _ (X7.trans e8) (e8.stk ⟨ts, fa, ys, rfl, hts, hfa7, fi_tups y27 f3⟩)⟩
end
end Lf

set_option maxHeartbeats 4000000
namespace Lf
open PySem PySem.Spec PyProof.Rows L2 GxR GxA SrT
open SX
section
variable {P : Program} {w : World} {K : PySem.W.Frag} {mg : Str → Option Value} {base : Heap} {Ps : Tbs} {H H' H0 : Hp} {k : Nat} {f c : Addr} {fd : FuncData}
theorem eqv_tn (f : List Int) : PyData.eqv (tD f) (tD []) = decide (f = []) := by
  show PyData.eqv (.tuple (iD f)) (.tuple (iD [])) = _
  rw [PyData.eqv, eqv_ints]
theorem ok_faceText (D : Def K mg "_law_face_text" sFaceText ["_law_face"] f fd c) (mst : mg "str" = none) : FnOk P w K mg base CX0 (k + 1) f fd ["_law_face"] (spWritten K Ps) := by
  refine D.ok (k := k) scFaceText (fun vs H Q E h => ?_) (fun A outer s H vs Q E hr h => ?_)
  · obtain ⟨x, g, rfl, _⟩ := h
    rfl
  · obtain ⟨_, g, rfl, ⟨t, rfl, hT⟩, hb, hl, ht, q⟩ := h
    refine ⟨_, (pss_one (ps_ret (pe_ifExp (pt_cmpR (show OpR _ _ (rEqD K) from op_eqD hr.units) (pv 0) (pe_tup pa_nil) (nomark _)) pe_str (pe_bm PySem.F.plainAttrs_str PySem.F.slot_str_join PySem.F.type_str_join mt_join pe_str (pa_cons (pe_lc (own := [("_law_point", 1)]) (g := gName 1) (by rfl) scFaceText.nd (pi_tup (pv 0)) (blkOk_by (N := ["_law_face", "_law_point"]) (sc := defScope sFaceText) (by decide +kernel)) (fun _ _ _ _ _ => pg_name (i := 1) scFaceText.nd rfl (Or.inl rfl)) (fun _ _ _ _ _ => pts_nil) (fun _ _ _ _ _ => (show PE _ _ (tCB rStrI _) from (pe_callTy (T := "str") (r := rStrI) (show CallR _ (.type "str") rStrI from call_str_int) (by rfl) mst (by decide +kernel) (pa_cons (pv 1) pa_nil))))) pa_nil))))), ?_⟩
    refine ⟨.ref t, rfl, Nat.zero_le _, fun em nem => ?_⟩
    have x1 := Ext.new (o := .tup []) ht nem
    refine ⟨tD g, tD [], dp_tup ⟨t, rfl, x1.sqT hT⟩, dp_tup (ns := []) ⟨em, rfl, .inl (.inl upd_same)⟩, shp_tup _, shp_tup [], decide (g = []), ?_, ?_⟩
    · rw [eqv_tn]
    generalize upd H em (.tup []) = H1 at *
    by_cases e : g = []
    · subst e
      refine iteT ?_
      have z := q _ x1
      rw [show S (wrtL []) = dshS from dshS_eq.symm] at z
      exact z
    rw [decide_eq_false e]
    refine iteF ⟨rfl, .ref t, rfl, t, rfl, ⟨_, x1.sqT hT⟩, fun D0 hD => lc_tup (K := K) (a := t) (xs := g.map V.int) (fun i HY => CP Ps FSt H1 D0 ((g.take i).map fun p => [48 + p.toNat]) i HY) (CP.start x1.tb hD) (fun i HY _ p => p.ext.sqT (x1.sqT hT)) (fun i u HY hu p => ?_) (fun HY p => ?_)⟩
    · obtain ⟨z, hz, rfl⟩ := map_int hu
      have hi : i < g.length := (List.getElem?_eq_some_iff.mp hz).1
      obtain ⟨z0, z9⟩ := hb z (List.mem_of_getElem? hz)
      have nl : z.natAbs.log2 < 1920 := by
        have : z.natAbs.log2 ≤ z.natAbs := Nat.log2_le_self _
        omega
      refine ⟨rfl, yes_ (iteT ⟨.int z, rfl, z, rfl, nl, ?_⟩)⟩
      rw [str_num z0 z9]
      have r := CP.put (stbSt (K := K)) hD (by omega) p (show FSt HY (.str (S [48 + z.toNat])) [48 + z.toNat] from rfl)
      rw [List.take_add_one, hz, List.map_append]
      exact r
    rw [List.length_map, List.take_length] at p
    obtain ⟨zs, g1, g2, g3⟩ := p.at_
    rw [paired_sts g2] at g1
    refine ⟨"", D0, _, rfl, rfl, .inl (.inl (.inl g1)), ?_, ?_⟩
    · rw [lens_one]
      have : (("" : Str)).length = 0 := by decide +kernel
      rw [this]
      omega
    · rw [nil_S, join_S, join_one]
      have z := q _ (x1.trans p.ext)
      rw [show wrtL g = g.map (fun p => 48 + p.toNat) from if_neg e] at z
      exact z
def spLText (K : PySem.W.Frag) (Ps : Tbs) : Sp := fun vs H Q _ => ∃ (x : V) (n kk : Int) (F : List (List Int)), vs = [x] ∧ Stk K H x n kk F ∧ StkOk n kk F ∧ Tb Ps H ∧ ∀ H', Ext Ps H H' → Q (.str (S (txtL n kk F))) H'
theorem ok_lText {fT cT : Addr} {fdT : FuncData} (D : Def K mg "_law_text" sLText ["_law_stack_here"] f fd c) (DT : Def K mg "_law_face_text" sFaceText ["_law_face"] fT fdT cT) (GT : FnOk P w K mg base CX0 (k) fT fdT ["_law_face"] (spWritten K Ps)) (mst : mg "str" = none) : FnOk P w K mg base CX0 (k + 1) f fd ["_law_stack_here"] (spLText K Ps) := by
  refine D.ok (k := k) scLText (fun vs H Q E h => ?_) (fun A outer s H vs Q E hr h => ?_)
  · obtain ⟨x, n, kk, F, rfl, _⟩ := h
    rfl
  · obtain ⟨_, n, kk, F, rfl, ⟨sa, fa, xs, rfl, h1, h2, h3⟩, So, ht, q⟩ := h
    refine ⟨_, (pss_cons (ps_set (i := 1) scLText.nd rfl (.inl rfl) (pe_lst (pa_cons (pe_callTy (T := "str") (r := rStrI) (show CallR _ (.type "str") rStrI from call_str_int) (by rfl) mst (by decide +kernel) (pa_cons (pe_ix (show IxR _ (rIxT K) from ix_tup) (pv 0) pe_int (fun _ _ => rfl)) pa_nil)) (pa_cons (pe_op op_add_str (pe_callTy (T := "str") (r := rStrI) (show CallR _ (.type "str") rStrI from call_str_int) (by rfl) mst (by decide +kernel) (pa_cons (pe_ix (show IxR _ (rIxT K) from ix_tup) (pv 0) pe_int (fun _ _ => rfl)) pa_nil)) pe_str) pa_nil)))) (pss_one (ps_ret (pe_bm PySem.F.plainAttrs_str PySem.F.slot_str_join PySem.F.type_str_join mt_join pe_str (pa_cons (pe_op op_cat (pv 1) (pe_lc (own := [("_law_face", 2)]) (g := gName 2) (by rfl) scLText.nd (pi_tup (pe_ix (show IxR _ (rIxT K) from ix_tup) (pv 0) pe_int (fun _ _ => rfl))) (blkOk_by (N := ["_law_stack_here", "_law_words", "_law_face"]) (sc := defScope sLText) (by decide +kernel)) (fun _ _ _ _ _ => pg_name (i := 2) scLText.nd rfl (Or.inl rfl)) (fun _ _ _ _ _ => pts_nil) (fun _ _ _ _ _ => (pcl DT GT hr (pa_cons (pv 2) pa_nil))))) pa_nil))))), ?_⟩
    have n1 := So.n1
    have n8 := So.n8
    have k0 := So.k0
    have k4 := So.k4
    have l70 := So.l70
    have hxl := Paired.length h3
    have nl : n.natAbs.log2 < 1920 := by
      have : n.natAbs.log2 ≤ n.natAbs := Nat.log2_le_self _
      omega
    have kl : kk.natAbs.log2 < 1920 := by
      have : kk.natAbs.log2 ≤ kk.natAbs := Nat.log2_le_self _
      omega
    have lit : ((":" : Str)) = S [58] := by decide +kernel
    refine tseq_intro fun R hR => ?_
    refine ⟨.ref sa, rfl, sa, _, 0, .int n, rfl, rfl, h1, atI_nat (j := 0) rfl, n, rfl, nl, .ref sa, rfl, sa, _, 1, .int kk, rfl, rfl, h1, atI_nat (j := 1) rfl, kk, rfl, kl, ?_⟩
    rw [str_num (by omega) (by omega), str_num (by omega) (by omega), lit]
    refine ⟨_, _, rfl, rfl, ?_, (by decide : (2 : Nat) ≤ sizeLine), fun lw nlw => ?_⟩
    · rw [S_len, S_len]
      show 2 ≤ sizeLine
      decide
    rw [S_cat]
    have x1 := Ext.new (o := .lst [.str (S [48 + n.toNat]), .str (S [48 + kk.toNat, 58])]) ht nlw
    have hlw : upd H lw (.lst [.str (S [48 + n.toNat]), .str (S [48 + kk.toNat, 58])]) lw = some (.lst [.str (S [48 + n.toNat]), .str (S [48 + kk.toNat, 58])]) := upd_same
    show R [some (.ref sa), some (.ref lw), none] (upd H lw (.lst [.str (S [48 + n.toNat]), .str (S [48 + kk.toNat, 58])]))
    rw [hR]
    clear hR
    generalize upd H lw (.lst [.str (S [48 + n.toNat]), .str (S [48 + kk.toNat, 58])]) = H1 at *
    refine ⟨rfl, .ref lw, rfl, .ref sa, rfl, sa, _, 2, .ref fa, rfl, rfl, x1.sqT h1, at2, fa, rfl, ⟨_, x1.sqT h2⟩, fun D0 hD => lc_tup (K := K) (a := fa) (xs := xs) (fun i HY => CP Ps FSt H1 D0 ((F.take i).map wrtL) i HY) (CP.start x1.tb hD) (fun i HY _ p => p.ext.sqT (x1.sqT h2)) (fun i u HY hu p => ?_) (fun HY p => ?_)⟩
    · obtain ⟨g, hg, hI⟩ := paired_get h3 hu
      have hi : i < xs.length := (List.getElem?_eq_some_iff.mp hu).1
      have hgm := List.mem_of_getElem? hg
      refine ⟨rfl, yes_ (iteT ⟨u, rfl, u, g, rfl, p.ext.tupI (x1.tupI hI), fun z hz => ?_, by have := So.len4 g hgm; omega, p.ext.tb, fun H5 e5 => ?_⟩)⟩
      · have := So.bel g hgm z hz
        omega
      have r := CP.put (stbSt (K := K)) hD (by omega) (p.skip (stbSt (K := K)) e5) (show FSt H5 (.str (S (wrtL g))) (wrtL g) from rfl)
      rw [List.take_add_one, hg, List.map_append]
      exact r
    rw [hxl, List.take_length] at p
    obtain ⟨zs, g1, g2, g3⟩ := p.at_
    rw [paired_sts g2] at g1
    have sw := sum_wrt So.len4
    have jl := joinL_len [32] (F.map wrtL)
    refine ⟨lw, D0, _, _, rfl, rfl, p.ext.lst hlw, g1, ?_, fun lz nlz => ?_⟩
    · refine Nat.le_of_lt (small1000 ?_)
      simp
      omega
    have x3 := Ext.new (o := .lst ([.str (S [48 + n.toNat]), .str (S [48 + kk.toNat, 58])] ++ ((F.map wrtL).map S).map V.str)) p.ext.tb nlz
    refine ⟨" ", lz, (txtW n kk F).map S, rfl, rfl, .inl (.inl (.inl upd_same)), ?_, ?_⟩
    · rw [show ((" " : Str)).length = 1 by decide +kernel]
      unfold txtW
      simp only [List.map_cons, List.sum_cons, List.length_cons, List.length_map] at sw ⊢
      rw [S_len, S_len]
      simp only [List.length_cons, List.length_nil]
      omega
    rw [one_S, join_S]
    exact q _ (x1.trans (p.ext.trans x3))
end
end Lf

set_option maxHeartbeats 4000000
namespace Lf
open PySem PySem.Spec PyProof.Rows L2 GxR GxA SrT
open SX
/-! ### z[::-1], z a text: a text of its signs -/
def tRevS (te : TE) : TE := fun σ H Q => te σ H fun x H1 => ∃ z, x = .str z ∧ z.length ≤ sizeLine ∧ ∀ y : Str, y.length ≤ z.length → (∀ c ∈ y.cps.toList, c ∈ z.cps.toList) → Q (.str y) H1
theorem back_len (n : Nat) : (Builtin.Str.strSliceIndices none none (-1) n).length ≤ n := by
  unfold Builtin.Str.strSliceIndices sliceRange
  simp only [show ¬ ((-1 : Int) > 0) by decide, if_false, List.length_map, List.length_range]
  have e : (-(-1 : Int)) = 1 := by decide
  rw [e, Int.ediv_one]
  split
  · omega
  · simp
theorem pe_revS {X : Cx} {e : Expr} {te : TE} {k : Nat} {p1 p2 p3 pos : Pos} (he : PE X e te) : PE X (.Subscript e (.Slice none none (some (.UnaryOp .USub (.Constant (.int 1) k p1) p2)) p3) pos) (tRevS te) := by
  refine ⟨fun pins s σ H Q I h => ?_⟩
  refine Subscript_ (thn (he.run pins s σ H _ I h) fun v s1 ⟨x, H1, I1, r1, q1⟩ => ?_)
  obtain ⟨z, ex, hz, q⟩ := q1
  subst ex
  obtain ⟨t, rfl⟩ := r1
  have hst : PO X (some (.UnaryOp .USub (.Constant (.int 1) k p1) p2)) (tPart (tUn (rU fun i => .int (-i)) (tC (.int 1)))) := po_some (pe_un un_neg pe_int)
  refine wpAny_Slice (thn (po_none.run pins s1 σ H1 (fun o H2 => o = none ∧ H2 = H1) I1 ⟨rfl, rfl⟩) fun vl s2 ⟨l, H2, I2, pl, el, e2⟩ => ?_)
  subst el e2
  refine thn (po_none.run pins s2 σ H2 (fun o H3 => o = none ∧ H3 = H2) I2 ⟨rfl, rfl⟩) fun vu s3 ⟨u, H3, I3, pu, eu, e3⟩ => ?_
  subst eu e3
  refine thn (hst.run pins s3 σ H3 (fun o H4 => o = some (-1) ∧ H4 = H3) I3 ⟨1, rfl, -1, rfl, rfl, rfl⟩) fun vs s4 ⟨o, H4, I4, ps, eo, e4⟩ => ?_
  subst eo e4
  have I5 : Inv X pins σ H4 { s4 with heap := s4.heap.push { cls := .type "slice", data := .fields #[vl, vu, vs] } } := I4.kept (t' := s4.toks) fun b ob q => Heap.get?_push_of_some _ q
  obtain ⟨os, hos, hcs, hds⟩ := Heap.IsSliceOf.new s4.heap vl vu vs
  obtain ⟨l', rfl, hl1⟩ := IsPart.raw pl
  obtain ⟨u', rfl, hu1⟩ := IsPart.raw pu
  obtain ⟨v', rfl, hv1⟩ := IsPart.raw ps
  show wpAny (model X.prog X.w) X.A (subscriptTail e (.Slice none none (some (.UnaryOp .USub (.Constant (.int 1) k p1) p2)) p3) (.str z t) (.ref s4.heap.objs.size)) (EP X pins σ Q) X.xe _
  refine tail_any (ops := [.str z t, .ref s4.heap.objs.size]) (typeIs_str _ _ _) (PySem.F.slot_str_getitem.lookup) ?_ (by with_unfolding_all rfl)
  refine wpAny_getItem_str_slice (l := l') (u := u') (st := v') ⟨os, hos, hcs, hds⟩ ?_ ?_
  · rw [hv1]
    rfl
  have e1 : (v'.map (·.1)).getD 1 = -1 := by rw [hv1]; rfl
  show Made.post (if (((v'.map (·.1)).getD 1) == 1 && (Builtin.Str.strSliceIndices (l'.map (·.1)) (u'.map (·.1)) ((v'.map (·.1)).getD 1) z.length).length == z.length) = true then Made.val (.str z t)
    else Made.str ⟨((Builtin.Str.strSliceIndices (l'.map (·.1)) (u'.map (·.1)) ((v'.map (·.1)).getD 1) z.length).filterMap (z.cps[·]?)).toArray⟩) (EP X pins σ Q) _
  rw [e1, hl1, hu1, if_neg (by simp)]
  have hy : (⟨((Builtin.Str.strSliceIndices none none (-1) z.length).filterMap (z.cps[·]?)).toArray⟩ : Str).length ≤ z.length := by
    show (((Builtin.Str.strSliceIndices none none (-1) z.length).filterMap (z.cps[·]?)).toArray).size ≤ _
    rw [List.size_toArray]
    exact Nat.le_trans (List.length_filterMap_le _ _) (back_len _)
  refine ⟨Nat.le_trans hy hz, .str _, H4, I5.tok _, ⟨_, rfl⟩, q _ hy fun c hc => ?_⟩
  obtain ⟨i, _, hi⟩ := List.mem_filterMap.mp hc
  exact List.mem_of_getElem? (by rw [Array.getElem?_toList]; exact hi)
end Lf

set_option maxHeartbeats 4000000
namespace Lf
open PySem PySem.Spec PyProof.Rows L2 GxR GxA SrT
open SX
abbrev sOther : Stmt := topS 51
theorem scOther : FnScope ["_law_pen_here", "_law_text_here", "_law_way", "_law_at", "_law_close", "_law_wide", "_law_word_at", "_law_signs", "_law_sign", "_law_words", "_law_word", "_law_put_in", "_law_for_one", "_law_some", "_law_odd"] ["_law_pen_here", "_law_text_here"] (defScope sOther) := ⟨rfl, rfl, rfl, by decide +kernel, rfl, by decide +kernel, by decide +kernel⟩
def TxOk (w : List Nat) : Prop := w.length ≤ 400 ∧ asc w = true
def OKs (xs : List V) : Prop := ∀ v ∈ xs, ∃ w, v = .str (S w) ∧ TxOk w
theorem asc_sub {w t : List Nat} (h : ∀ c ∈ w, c ∈ t) (ha : asc t = true) : asc w = true := List.all_eq_true.mpr fun c hc => List.all_eq_true.mp ha c (h c hc)
def lit1S : Str := "\n !\"#$&'()*+,-./0123456789:;<=>?@ABCDEFGHIJKLMNOPQRSTUVWXYZ[\\]^_`"
def lit2S : Str := "abcdefghijklmnopqrstuvwxyz{|}~"
def lit3S : Str := " 0123456789:-\n_+"
theorem sg_at {L : List Nat} {n : Nat} (hL : L.length = n) (ha : asc L = true) {i : Int} (h0 : 0 ≤ i) (h1 : i < n) : ∃ c, atI L i = some c ∧ asc [c] = true := by
  obtain ⟨j, rfl⟩ := Int.eq_ofNat_of_zero_le h0
  have hj : j < L.length := by omega
  refine ⟨L[j], ?_, ?_⟩
  · have := atI_nat (xs := L) (j := j) (List.getElem?_eq_getElem hj)
    exact this
  · exact asc_sub (fun c hc => by rw [List.mem_singleton.mp hc]; exact List.getElem_mem hj) ha
theorem asc_app {w t : List Nat} (h1 : asc w = true) (h2 : asc t = true) : asc (w ++ t) = true := by
  unfold asc at *
  rw [List.all_append, h1, h2]
  rfl
theorem join_mem {s c : Nat} : ∀ {ws : List (List Nat)}, c ∈ TL.joinL [s] ws → c = s ∨ ∃ w ∈ ws, c ∈ w
  | [], h => by cases h
  | [v], h => .inr ⟨v, List.mem_cons_self, h⟩
  | v :: u :: r, h => by
    rw [joinL_cons] at h
    rcases List.mem_append.mp h with h | h
    · exact .inr ⟨v, List.mem_cons_self, h⟩
    rcases List.mem_append.mp h with h | h
    · exact .inl (List.mem_singleton.mp h)
    · rcases join_mem h with z | ⟨w, hw, hc⟩
      · exact .inl z
      · exact .inr ⟨w, List.mem_cons_of_mem _ hw, hc⟩
theorem sum_le_of : ∀ {os : List (List Nat)} {m : Nat}, (∀ o ∈ os, o.length ≤ m) → (os.map List.length).sum ≤ os.length * m
  | [], _, _ => Nat.zero_le _
  | o :: os, m, h => by
    have := sum_le_of (os := os) fun x hx => h x (List.mem_cons_of_mem _ hx)
    have h1 := h o List.mem_cons_self
    rw [List.map_cons, List.sum_cons, List.length_cons, Nat.succ_mul]
    omega
theorem mixed_ok {t : List Nat} {b : Nat} {os : List (List Nat)} (tl : t.length ≤ 90) (ha : asc t = true) (hl : os.length ≤ 2) (ho : ∀ o ∈ os, o.length ≤ 91 ∧ asc o = true) :
    TxOk (TL.joinL [32] ((wdsL t).take b ++ os ++ (wdsL t).drop (b + 1))) ∧ ((((wdsL t).take b ++ os ++ (wdsL t).drop (b + 1)).map S).map (·.length)).sum ≤ 300 ∧ ((wdsL t).take b ++ os ++ (wdsL t).drop (b + 1)).length ≤ 95 := by
  have h := spl_sum 32 t []
  have hs : (((wdsL t).take b).map List.length).sum + (((wdsL t).drop (b + 1)).map List.length).sum ≤ t.length := by
    have e : ((wdsL t).map List.length).sum = (((wdsL t).take b).map List.length).sum + (((wdsL t).drop b).map List.length).sum := by
      rw [← List.sum_append, ← List.map_append, List.take_append_drop]
    have e2 : (((wdsL t).drop (b + 1)).map List.length).sum ≤ (((wdsL t).drop b).map List.length).sum := by
      cases e3 : (wdsL t).drop b with
      | nil =>
        rw [← List.drop_drop, e3]
        simp
      | cons x r =>
        rw [← List.drop_drop, e3]
        simp
    have := h.1
    unfold wdsL at e e2 ⊢
    simp at this
    omega
  have so := sum_le_of (os := os) (m := 91) fun o hm => (ho o hm).1
  have hc : ((wdsL t).take b ++ os ++ (wdsL t).drop (b + 1)).length ≤ 95 := by
    have := h.2
    rw [List.length_append, List.length_append, List.length_take, List.length_drop]
    unfold wdsL
    omega
  have hsum : (((wdsL t).take b ++ os ++ (wdsL t).drop (b + 1)).map List.length).sum ≤ 290 := by
    rw [List.map_append, List.map_append, List.sum_append, List.sum_append]
    omega
  refine ⟨⟨?_, ?_⟩, ?_, hc⟩
  · have := joinL_len [32] ((wdsL t).take b ++ os ++ (wdsL t).drop (b + 1))
    rw [show ([32] : List Nat).length = 1 from rfl, Nat.mul_one] at this
    have e : (((wdsL t).take b ++ os ++ (wdsL t).drop (b + 1)).map (·.length)).sum = (((wdsL t).take b ++ os ++ (wdsL t).drop (b + 1)).map List.length).sum := rfl
    omega
  · refine List.all_eq_true.mpr fun c hc => ?_
    rcases join_mem hc with rfl | ⟨w, hw, hcw⟩
    · rfl
    · have wa := asc_wds ha
      have : asc w = true := by
        rcases List.mem_append.mp hw with hw | hw
        · rcases List.mem_append.mp hw with hw | hw
          · exact wa w (List.mem_of_mem_take hw)
          · exact (ho w hw).2
        · exact wa w (List.mem_of_mem_drop hw)
      exact List.all_eq_true.mp this c hcw
  · rw [lens]
    have : (((wdsL t).take b ++ os ++ (wdsL t).drop (b + 1)).map (·.length)).sum = (((wdsL t).take b ++ os ++ (wdsL t).drop (b + 1)).map List.length).sum := rfl
    omega
section
variable {P : Program} {w : World} {K : PySem.W.Frag} {mg : Str → Option Value} {base : Heap} {Ps : Tbs} {H H' H0 : Hp} {k : Nat} {f c : Addr} {fd : FuncData}
def spOther (K : PySem.W.Frag) (Ps : Tbs) : Sp := fun vs H Q _ => ∃ (a : Addr) (t : List Nat), vs = [.ref a, .str (S t)] ∧ Pen H a ∧ t.length ≤ 90 ∧ asc t = true ∧ Tb Ps H ∧ ∀ w H', Epn Ps a H H' → TxOk w → Q (.str (S w)) H'
theorem ok_other {fD cD : Addr} {fdD : FuncData} (D : Def K mg "_law_otherwise" sOther ["_law_pen_here", "_law_text_here"] f fd c) (DD : Def K mg "_law_draw" sDraw ["_law_pen_here", "_law_many"] fD fdD cD) (GD : FnOk P w K mg base CX0 (k) fD fdD ["_law_pen_here", "_law_many"] spDraw) (ml : mg "len" = none) : FnOk P w K mg base CX0 (k + 1) f fd ["_law_pen_here", "_law_text_here"] (spOther K Ps) := by
  refine D.ok (k := k) scOther (fun vs H Q E h => ?_) (fun A outer s H vs Q E hr h => ?_)
  · obtain ⟨a, t, rfl, _⟩ := h
    rfl
  · obtain ⟨a, t, rfl, hP, tl, ha, ht, q⟩ := h
    refine ⟨_, (pss_cons (ps_par (i := 2) (j := 3) (by rfl) scOther.nd rfl rfl (by decide) rfl rfl (pa_cons (pcl DD GD hr (pa_cons (pv 0) (pa_cons pe_int pa_nil))) (pa_cons (pcl DD GD hr (pa_cons (pv 0) (pa_cons (pe_op op_add (pe_callB (r := rLenX) (show CallR _ (.builtin "len") rLenX from call_len_str) (by rfl) ml PySem.boot_len (pa_cons (pv 1) pa_nil)) pe_int) pa_nil))) pa_nil)) (by rfl)) (pss_cons (ps_par3 (i := 4) (j := 5) (l := 6) (by rfl) scOther.nd rfl rfl rfl (by decide) (by decide) (by decide) rfl rfl rfl (pa_cons (pcl DD GD hr (pa_cons (pv 0) (pa_cons pe_int pa_nil))) (pa_cons (pcl DD GD hr (pa_cons (pv 0) (pa_cons pe_int pa_nil))) (pa_cons (pcl DD GD hr (pa_cons (pv 0) (pa_cons pe_int pa_nil))) pa_nil))) (by rfl)) (pss_cons (ps_set (i := 7) scOther.nd rfl (.inl rfl) pe_str) (pss_cons (ps_set (i := 7) scOther.nd rfl (.inl rfl) (pe_op op_add_str (pv 7) pe_str)) (pss_cons (ps_set (i := 8) scOther.nd rfl (.inl rfl) (pe_ifExp (pt_cmpR op_eq (pe_op op_mod (pv 2) pe_int) pe_int (nomark _)) (pe_ix (show IxR _ rIxS from ix_str) (pv 7) (pv 5) (fun _ _ => rfl)) (pe_ix (show IxR _ rIxS from ix_str) pe_str (pv 4) (fun _ _ => rfl)))) (pss_cons (ps_set (i := 9) scOther.nd rfl (.inl rfl) (pe_bm PySem.F.plainAttrs_str PySem.F.slot_str_split PySem.F.type_str_split mt_split (pv 1) (pa_cons pe_str pa_nil))) (pss_cons (ps_set (i := 6) scOther.nd rfl (.inl rfl) (pe_op op_mod (pv 6) (pe_callB (call_lenS (K := K) rfl) (by rfl) ml PySem.boot_len (pa_cons (pv 9) pa_nil)))) (pss_cons (ps_set (i := 10) scOther.nd rfl (.inl rfl) (pe_ix (show IxR _ (rIxL K) from ix_list) (pv 9) (pv 6) (fun _ _ => rfl))) (pss_cons (ps_set (i := 11) scOther.nd rfl (.inl rfl) (pe_op op_add_str (pe_op op_add_str (pe_slice (show SlR _ C8.rSlX from C8.sl_txt) (pv 1) po_none (po_some (pv 3))) (pv 8)) (pe_slice (show SlR _ C8.rSlX from C8.sl_txt) (pv 1) (po_some (pv 3)) po_none))) (pss_cons (ps_set (i := 12) scOther.nd rfl (.inl rfl) (pe_op op_add_str (pe_op op_add_str (pe_slice (show SlR _ C8.rSlX from C8.sl_txt) (pv 1) po_none (po_some (pv 3))) (pv 8)) (pe_slice (show SlR _ C8.rSlX from C8.sl_txt) (pv 1) (po_some (pe_op op_add (pv 3) pe_int)) po_none))) (pss_cons (ps_set (i := 13) scOther.nd rfl (.inl rfl) (pe_op op_cat (pe_op op_rep (pe_lst (pa_cons (pv 11) pa_nil)) pe_int) (pe_op op_rep (pe_lst (pa_cons (pv 12) pa_nil)) pe_int))) (pss_cons (ps_set (i := 13) scOther.nd rfl (.inl rfl) (pe_op op_cat (pv 13) (pe_lst (pa_cons (pe_op op_add_str (pe_slice (show SlR _ C8.rSlX from C8.sl_txt) (pv 1) po_none (po_some (pv 3))) (pe_slice (show SlR _ C8.rSlX from C8.sl_txt) (pv 1) (po_some (pe_op op_add (pv 3) pe_int)) po_none)) pa_nil)))) (pss_cons (ps_set (i := 13) scOther.nd rfl (.inl rfl) (pe_op op_cat (pv 13) (pe_lst (pa_cons (pe_op op_add_str (pe_slice (show SlR _ C8.rSlX from C8.sl_txt) (pv 1) po_none (po_some (pv 3))) (pe_slice (show SlR _ C8.rSlX from C8.sl_txt) (pv 1) (po_some (pe_op op_add (pv 3) pe_int)) po_none)) (pa_cons (pe_op op_add_str (pv 1) pe_str) (pa_cons (pe_op op_add_str pe_str (pv 1)) pa_nil)))))) (pss_cons (ps_for PassesOwn.never rfl (pi_list (pe_lst (pa_cons (pe_lst (pa_cons (pv 10) (pa_cons (pv 10) pa_nil))) (pa_cons (pe_lst pa_nil) (pa_cons (pe_lst (pa_cons (pe_revS (pv 10)) pa_nil)) (pa_cons (pe_lst (pa_cons (pe_op op_add_str pe_str (pv 10)) pa_nil)) pa_nil)))))) (pg_name (i := 14) scOther.nd rfl (Or.inl rfl)) (pss_one (ps_expr (pe_bm PySem.F.plainAttrs_list PySem.F.slot_list_append PySem.F.type_list_append mt_append (pv 13) (pa_cons (pe_bm PySem.F.plainAttrs_str PySem.F.slot_str_join PySem.F.type_str_join mt_join pe_str (pa_cons (pe_op op_cat (pe_op op_cat (pe_slice sl_list (pv 9) po_none (po_some (pv 6))) (pv 14)) (pe_slice sl_list (pv 9) (po_some (pe_op op_add (pv 6) pe_int)) po_none)) pa_nil)) pa_nil))))) (pss_one (ps_ret (pe_ix (show IxR _ (rIxL K) from ix_list) (pv 13) (pv 2) (fun _ _ => rfl)))))))))))))))))), ?_⟩
    refine tseq_intro fun R hR => ?_
    refine ⟨.ref a, rfl, a, 16, rfl, hP, by decide, by decide, fun x1 f1 wy w0 w1 => ?_⟩
    have e1 : Epn Ps a H (upd H a (.lst [.int x1, .int f1])) := Epn.draw ht hP
    generalize upd H a (.lst [.int x1, .int f1]) = H1 at *
    refine ⟨.ref a, rfl, .str (S t), rfl, S t, rfl, ?_, _, 1, rfl, rfl, a, _, rfl, e1.pen, ?_, ?_, fun x2 f2 at_ a0 a1 => ?_⟩
    · rw [S_len]
      exact Nat.le_of_lt (small1000 (by omega))
    · rw [S_len]
      omega
    · rw [S_len]
      omega
    rw [S_len] at a1
    have P2 := e1.trans (Epn.draw e1.tb e1.pen (x := x2) (f := f2))
    generalize upd H1 a (.lst [.int x2, .int f2]) = H2 at *
    refine ⟨.int wy, .int at_, rfl, ?_⟩
    show R [some (.ref a), some (.str (S t)), some (.int wy), some (.int at_), none, none, none, none, none, none, none, none, none, none, none] H2
    rw [hR]
    clear hR
    refine tseq_intro fun R hR => ?_
    refine ⟨.ref a, rfl, a, 16, rfl, P2.pen, by decide, by decide, fun x3 f3 cl c0 c1 => ?_⟩
    have P3 := P2.trans (Epn.draw P2.tb P2.pen (x := x3) (f := f3))
    generalize upd H2 a (.lst [.int x3, .int f3]) = H3 at *
    refine ⟨.ref a, rfl, a, 95, rfl, P3.pen, by decide, by decide, fun x4 f4 wi i0 i1 => ?_⟩
    have P4 := P3.trans (Epn.draw P3.tb P3.pen (x := x4) (f := f4))
    generalize upd H3 a (.lst [.int x4, .int f4]) = H4 at *
    refine ⟨.ref a, rfl, a, 40, rfl, P4.pen, by decide, by decide, fun x5 f5 wa v0 v1 => ?_⟩
    have P5 := P4.trans (Epn.draw P4.tb P4.pen (x := x5) (f := f5))
    generalize upd H4 a (.lst [.int x5, .int f5]) = H5 at *
    refine ⟨.int cl, .int wi, .int wa, rfl, ?_⟩
    show R [some (.ref a), some (.str (S t)), some (.int wy), some (.int at_), some (.int cl), some (.int wi), some (.int wa), none, none, none, none, none, none, none, none] H5
    rw [hR]
    clear hR P2 P3 P4
    -- the signs
    refine tseq_intro fun R hR => ?_
    show R [some (.ref a), some (.str (S t)), some (.int wy), some (.int at_), some (.int cl), some (.int wi), some (.int wa), some (.str lit1S), none, none, none, none, none, none, none] H5
    rw [hR]
    clear hR
    refine tseq_intro fun R hR => ?_
    refine ⟨.str lit1S, rfl, lit1S, lit2S, rfl, rfl, by decide +kernel, ?_⟩
    show R [some (.ref a), some (.str (S t)), some (.int wy), some (.int at_), some (.int cl), some (.int wi), some (.int wa), some (.str (lit1S ++ lit2S)), none, none, none, none, none, none, none] H5
    rw [hR]
    clear hR
    obtain ⟨g1, hg1, ag1⟩ := sg_at (L := (lit1S ++ lit2S).cps.toList) (n := 95) (by decide +kernel) (by decide +kernel) i0 i1
    obtain ⟨g2, hg2, ag2⟩ := sg_at (L := lit3S.cps.toList) (n := 16) (by decide +kernel) (by decide +kernel) c0 c1
    refine tseq_intro fun R hR => ?_
    have go : ∀ g : Nat, asc [g] = true → R [some (.ref a), some (.str (S t)), some (.int wy), some (.int at_), some (.int cl), some (.int wi), some (.int wa), some (.str (lit1S ++ lit2S)), some (.str (S [g])), none, none, none, none, none, none] H5 := ?_
    · refine ⟨.int wy, rfl, wy, 2, rfl, rfl, (by show (0 : Int) < 2; decide), rfl, decide (wy % 2 = 0), ?_, ite2 (fun _ => ⟨.str (lit1S ++ lit2S), rfl, .int wi, rfl, lit1S ++ lit2S, wi, g1, rfl, rfl, by decide +kernel, hg1, go g1 ag1⟩) (fun _ => ⟨.int cl, rfl, lit3S, cl, g2, rfl, rfl, by decide +kernel, hg2, go g2 ag2⟩)⟩
      congr 1
      exact decide_eq_decide.mpr ⟨fun z => by have z2 : V.int (wy % 2) = V.int 0 := z; injection z2, fun z => by show V.int (wy % 2) = V.int 0; rw [z]⟩
    intro g ag
    rw [hR]
    clear hR hg1 hg2 ag1 ag2
    generalize lit1S ++ lit2S = sgs
    -- the words
    obtain ⟨w1_, w2_⟩ := wds_len t
    have wa_ := asc_wds ha
    refine tseq_intro fun R hR => ?_
    refine ⟨.str (S t), rfl, rfl, S t, " ", rfl, rfl, by decide +kernel, ?_, fun lw nlw => ?_⟩
    · rw [S_len]
      exact Nat.le_of_lt (small1000 (by omega))
    rw [one_S, split_S (by simp) (by decide)]
    have x6 := Ext.new (o := .lst (((TL.spl [32] 0 [] t).map S).map V.str)) P5.tb nlw
    have hlw : upd H5 lw (.lst (((TL.spl [32] 0 [] t).map S).map V.str)) lw = some (.lst (((wdsL t).map S).map V.str)) := upd_same
    generalize upd H5 lw (.lst (((TL.spl [32] 0 [] t).map S).map V.str)) = H6 at *
    show R [some (.ref a), some (.str (S t)), some (.int wy), some (.int at_), some (.int cl), some (.int wi), some (.int wa), some (.str sgs), some (.str (S [g])), some (.ref lw), none, none, none, none, none] H6
    rw [hR]
    clear hR
    have wl : 1 ≤ (wdsL t).length := by
      have := wds_ne t
      cases e : wdsL t with
      | nil => exact absurd e this
      | cons _ _ => simp
    refine tseq_intro fun R hR => ?_
    refine ⟨.int wa, rfl, .ref lw, rfl, lw, _, rfl, .inl (.inl (.inl hlw)), wa, _, rfl, rfl, ?_, ?_⟩
    · rw [List.length_map, List.length_map]
      omega
    rw [List.length_map, List.length_map]
    show R [some (.ref a), some (.str (S t)), some (.int wy), some (.int at_), some (.int cl), some (.int wi), some (.int (wa % ((wdsL t).length : Int))), some (.str sgs), some (.str (S [g])), some (.ref lw), none, none, none, none, none] H6
    have m0 : 0 ≤ wa % ((wdsL t).length : Int) := Int.emod_nonneg _ (by omega)
    have m1 : wa % ((wdsL t).length : Int) < ((wdsL t).length : Int) := Int.emod_lt_of_pos _ (by omega)
    generalize wa % ((wdsL t).length : Int) = wb at *
    obtain ⟨bn, rfl⟩ := Int.eq_ofNat_of_zero_le m0
    have hbn : bn < (wdsL t).length := by omega
    rw [hR]
    clear hR
    have hgw : (wdsL t)[bn]? = some (wdsL t)[bn] := List.getElem?_eq_getElem hbn
    have hwm := List.getElem_mem hbn
    have hwl := w2_ _ hwm
    have hwa := wa_ _ hwm
    generalize (wdsL t)[bn] = wv at *
    refine tseq_intro fun R hR => ?_
    refine ⟨.ref lw, rfl, .int (bn : Nat), rfl, lw, _, (bn : Nat), .str (S wv), rfl, rfl, .inl (.inl hlw), atI_nat (by rw [List.getElem?_map, List.getElem?_map, hgw]; rfl), ?_⟩
    show R [some (.ref a), some (.str (S t)), some (.int wy), some (.int at_), some (.int cl), some (.int wi), some (.int (bn : Nat)), some (.str sgs), some (.str (S [g])), some (.ref lw), some (.str (S wv)), none, none, none, none] H6
    rw [hR]
    clear hR
    obtain ⟨an, rfl⟩ := Int.eq_ofNat_of_zero_le a0
    have szt : (S t).length ≤ sizeLine := by
      rw [S_len]
      exact Nat.le_of_lt (small1000 (by omega))
    -- put in, for one
    refine tseq_intro fun R hR => ?_
    refine ⟨.str (S t), rfl, .int (an : Nat), rfl, ((an : Nat) : Int), rfl, S t, rfl, szt, ?_⟩
    rw [slice_to (Int.natCast_nonneg an), show (((an : Nat) : Int)).toNat = an from rfl]
    refine ⟨.str (S [g]), rfl, ?_⟩
    refine ⟨_, _, rfl, rfl, ?_, ?_⟩
    · rw [S_len, S_len]
      refine Nat.le_of_lt (small1000 ?_)
      simp only [List.length_append, List.length_take, List.length_drop, List.length_cons, List.length_nil]
      omega
    rw [S_cat]
    refine ⟨.str (S t), rfl, .int (an : Nat), rfl, ((an : Nat) : Int), rfl, S t, rfl, szt, ?_⟩
    rw [slice_from (Int.natCast_nonneg an), show (((an : Nat) : Int)).toNat = an from rfl]
    refine ⟨_, _, rfl, rfl, ?_, ?_⟩
    · rw [S_len, S_len]
      refine Nat.le_of_lt (small1000 ?_)
      simp only [List.length_append, List.length_take, List.length_drop, List.length_cons, List.length_nil]
      omega
    rw [S_cat]
    show R [some (.ref a), some (.str (S t)), some (.int wy), some (.int (an : Nat)), some (.int cl), some (.int wi), some (.int (bn : Nat)), some (.str sgs), some (.str (S [g])), some (.ref lw), some (.str (S wv)), some (.str (S (t.take an ++ [g] ++ t.drop an))), none, none, none] H6
    rw [hR]
    clear hR
    refine tseq_intro fun R hR => ?_
    refine ⟨.str (S t), rfl, .int (an : Nat), rfl, ((an : Nat) : Int), rfl, S t, rfl, szt, ?_⟩
    rw [slice_to (Int.natCast_nonneg an), show (((an : Nat) : Int)).toNat = an from rfl]
    refine ⟨.str (S [g]), rfl, ?_⟩
    refine ⟨_, _, rfl, rfl, ?_, ?_⟩
    · rw [S_len, S_len]
      refine Nat.le_of_lt (small1000 ?_)
      simp only [List.length_append, List.length_take, List.length_drop, List.length_cons, List.length_nil]
      omega
    rw [S_cat]
    refine ⟨.str (S t), rfl, .int (an : Nat), rfl, ((an : Nat) : Int), 1, rfl, rfl, ((an : Nat) : Int) + 1, rfl, S t, rfl, szt, ?_⟩
    rw [slice_from (show (0 : Int) ≤ ((an : Nat) : Int) + 1 by omega), show (((an : Nat) : Int) + 1).toNat = an + 1 from by omega]
    refine ⟨_, _, rfl, rfl, ?_, ?_⟩
    · rw [S_len, S_len]
      refine Nat.le_of_lt (small1000 ?_)
      simp only [List.length_append, List.length_take, List.length_drop, List.length_cons, List.length_nil]
      omega
    rw [S_cat]
    show R [some (.ref a), some (.str (S t)), some (.int wy), some (.int (an : Nat)), some (.int cl), some (.int wi), some (.int (bn : Nat)), some (.str sgs), some (.str (S [g])), some (.ref lw), some (.str (S wv)), some (.str (S (t.take an ++ [g] ++ t.drop an))), some (.str (S (t.take an ++ [g] ++ t.drop (an + 1)))), none, none] H6
    rw [hR]
    clear hR
    have at_ok : asc (t.take an) = true := asc_sub (fun c hc => List.mem_of_mem_take hc) ha
    have ad_ok : ∀ m, asc (t.drop m) = true := fun m => asc_sub (fun c hc => List.mem_of_mem_drop hc) ha
    have ln : (t.take an).length ≤ 90 := by rw [List.length_take]; omega
    have ld : ∀ m, (t.drop m).length ≤ 90 := fun m => by rw [List.length_drop]; omega
    have okP : TxOk (t.take an ++ [g] ++ t.drop an) := ⟨by have := ld an; simp only [List.length_append, List.length_cons, List.length_nil]; omega, asc_app (asc_app at_ok ag) (ad_ok an)⟩
    have okF : TxOk (t.take an ++ [g] ++ t.drop (an + 1)) := ⟨by have := ld (an + 1); simp only [List.length_append, List.length_cons, List.length_nil]; omega, asc_app (asc_app at_ok ag) (ad_ok (an + 1))⟩
    have okC : TxOk (t.take an ++ t.drop (an + 1)) := ⟨by have := ld (an + 1); simp only [List.length_append]; omega, asc_app at_ok (ad_ok (an + 1))⟩
    have okE : TxOk (t ++ [32]) := ⟨by simp; omega, asc_app ha (by decide)⟩
    have okB : TxOk ([32] ++ t) := ⟨by simp; omega, asc_app (by decide) ha⟩
    generalize t.take an ++ [g] ++ t.drop an = P_ at *
    generalize t.take an ++ [g] ++ t.drop (an + 1) = F_ at *
    have one : (1 : Nat) ≤ sizeLine := by decide
    have P6 := P5.trans (x6.epn P5.pen)
    -- the first eight
    refine tseq_intro fun R hR => ?_
    refine ⟨.str (S P_), rfl, one, fun l1 nl1 => ?_⟩
    have y1 := Ext.new (o := .lst [.str (S P_)]) x6.tb nl1
    have hl1 : upd H6 l1 (.lst [.str (S P_)]) l1 = some (.lst [.str (S P_)]) := upd_same
    generalize upd H6 l1 (.lst [.str (S P_)]) = G1 at *
    refine ⟨l1, 4, _, rfl, rfl, hl1, by decide, by decide, (by show 1 * 4 ≤ sizeLine; decide), fun l2 nl2 => ?_⟩
    have y2 := Ext.new (o := .lst (List.replicate (4 : Int).toNat [V.str (S P_)]).flatten) y1.tb nl2
    have hl2 : upd G1 l2 (.lst (List.replicate (4 : Int).toNat [V.str (S P_)]).flatten) l2 = some (.lst [.str (S P_), .str (S P_), .str (S P_), .str (S P_)]) := upd_same
    generalize upd G1 l2 (.lst (List.replicate (4 : Int).toNat [V.str (S P_)]).flatten) = G2 at *
    refine ⟨.str (S F_), rfl, one, fun l3 nl3 => ?_⟩
    have y3 := Ext.new (o := .lst [.str (S F_)]) y2.tb nl3
    have hl3 : upd G2 l3 (.lst [.str (S F_)]) l3 = some (.lst [.str (S F_)]) := upd_same
    generalize upd G2 l3 (.lst [.str (S F_)]) = G3 at *
    refine ⟨l3, 4, _, rfl, rfl, hl3, by decide, by decide, (by show 1 * 4 ≤ sizeLine; decide), fun l4 nl4 => ?_⟩
    have y4 := Ext.new (o := .lst (List.replicate (4 : Int).toNat [V.str (S F_)]).flatten) y3.tb nl4
    have hl4 : upd G3 l4 (.lst (List.replicate (4 : Int).toNat [V.str (S F_)]).flatten) l4 = some (.lst [.str (S F_), .str (S F_), .str (S F_), .str (S F_)]) := upd_same
    have hl24 := y4.lst (y3.lst hl2)
    generalize upd G3 l4 (.lst (List.replicate (4 : Int).toNat [V.str (S F_)]).flatten) = G4 at *
    refine ⟨l2, l4, _, _, rfl, rfl, hl24, hl4, (by show 8 ≤ sizeLine; decide), fun l5 nl5 => ?_⟩
    have y5 := Ext.new (o := .lst ([.str (S P_), .str (S P_), .str (S P_), .str (S P_)] ++ [.str (S F_), .str (S F_), .str (S F_), .str (S F_)])) y4.tb nl5
    have hl5 : upd G4 l5 (.lst ([.str (S P_), .str (S P_), .str (S P_), .str (S P_)] ++ [.str (S F_), .str (S F_), .str (S F_), .str (S F_)])) l5 = some (.lst [.str (S P_), .str (S P_), .str (S P_), .str (S P_), .str (S F_), .str (S F_), .str (S F_), .str (S F_)]) := upd_same
    have Y5 := y1.trans (y2.trans (y3.trans (y4.trans y5)))
    generalize upd G4 l5 (.lst ([.str (S P_), .str (S P_), .str (S P_), .str (S P_)] ++ [.str (S F_), .str (S F_), .str (S F_), .str (S F_)])) = G5 at *
    show R [some (.ref a), some (.str (S t)), some (.int wy), some (.int (an : Nat)), some (.int cl), some (.int wi), some (.int (bn : Nat)), some (.str sgs), some (.str (S [g])), some (.ref lw), some (.str (S wv)), some (.str (S P_)), some (.str (S F_)), some (.ref l5), none] G5
    rw [hR]
    clear hR hl1 hl2 hl3 hl4 hl24 y1 y2 y3 y4
    -- one more
    refine tseq_intro fun R hR => ?_
    refine ⟨.ref l5, rfl, ?_⟩
    refine ⟨.str (S t), rfl, .int (an : Nat), rfl, ((an : Nat) : Int), rfl, S t, rfl, szt, ?_⟩
    rw [slice_to (Int.natCast_nonneg an), show (((an : Nat) : Int)).toNat = an from rfl]
    refine ⟨.str (S t), rfl, .int (an : Nat), rfl, ((an : Nat) : Int), 1, rfl, rfl, ((an : Nat) : Int) + 1, rfl, S t, rfl, szt, ?_⟩
    rw [slice_from (show (0 : Int) ≤ ((an : Nat) : Int) + 1 by omega), show (((an : Nat) : Int) + 1).toNat = an + 1 from by omega]
    refine ⟨_, _, rfl, rfl, ?_, ?_⟩
    · rw [S_len, S_len]
      refine Nat.le_of_lt (small1000 ?_)
      simp only [List.length_append, List.length_take, List.length_drop, List.length_cons, List.length_nil]
      omega
    rw [S_cat]
    generalize hC : t.take an ++ t.drop (an + 1) = C_ at *
    refine ⟨one, fun l6 nl6 => ?_⟩
    have y6 := Ext.new (o := .lst [.str (S C_)]) y5.tb nl6
    have hl6 : upd G5 l6 (.lst [.str (S C_)]) l6 = some (.lst [.str (S C_)]) := upd_same
    have hl56 := y6.lst hl5
    generalize upd G5 l6 (.lst [.str (S C_)]) = G6 at *
    refine ⟨l5, l6, _, _, rfl, rfl, hl56, hl6, (by show 9 ≤ sizeLine; decide), fun l7 nl7 => ?_⟩
    have y7 := Ext.new (o := .lst ([.str (S P_), .str (S P_), .str (S P_), .str (S P_), .str (S F_), .str (S F_), .str (S F_), .str (S F_)] ++ [.str (S C_)])) y6.tb nl7
    have hl7 : upd G6 l7 (.lst ([.str (S P_), .str (S P_), .str (S P_), .str (S P_), .str (S F_), .str (S F_), .str (S F_), .str (S F_)] ++ [.str (S C_)])) l7 = some (.lst [.str (S P_), .str (S P_), .str (S P_), .str (S P_), .str (S F_), .str (S F_), .str (S F_), .str (S F_), .str (S C_)]) := upd_same
    have Y7 := Y5.trans (y6.trans y7)
    generalize upd G6 l7 (.lst ([.str (S P_), .str (S P_), .str (S P_), .str (S P_), .str (S F_), .str (S F_), .str (S F_), .str (S F_)] ++ [.str (S C_)])) = G7 at *
    show R [some (.ref a), some (.str (S t)), some (.int wy), some (.int (an : Nat)), some (.int cl), some (.int wi), some (.int (bn : Nat)), some (.str sgs), some (.str (S [g])), some (.ref lw), some (.str (S wv)), some (.str (S P_)), some (.str (S F_)), some (.ref l7), none] G7
    rw [hR]
    clear hR hl5 hl6 hl56
    have lsp : ((" " : Str)) = S [32] := one_S
    have lz : (("0" : Str)) = S [48] := by decide +kernel
    -- three more
    refine tseq_intro fun R hR => ?_
    refine ⟨.ref l7, rfl, ?_⟩
    refine ⟨.str (S t), rfl, .int (an : Nat), rfl, ((an : Nat) : Int), rfl, S t, rfl, szt, ?_⟩
    rw [slice_to (Int.natCast_nonneg an), show (((an : Nat) : Int)).toNat = an from rfl]
    refine ⟨.str (S t), rfl, .int (an : Nat), rfl, ((an : Nat) : Int), 1, rfl, rfl, ((an : Nat) : Int) + 1, rfl, S t, rfl, szt, ?_⟩
    rw [slice_from (show (0 : Int) ≤ ((an : Nat) : Int) + 1 by omega), show (((an : Nat) : Int) + 1).toNat = an + 1 from by omega]
    refine ⟨_, _, rfl, rfl, ?_, ?_⟩
    · rw [S_len, S_len]
      refine Nat.le_of_lt (small1000 ?_)
      simp only [List.length_append, List.length_take, List.length_drop, List.length_cons, List.length_nil]
      omega
    rw [S_cat]
    rw [hC]
    refine ⟨.str (S t), rfl, ?_⟩
    rw [lsp]
    refine ⟨S t, S [32], rfl, rfl, ?_, .str (S t), rfl, S [32], S t, rfl, rfl, ?_, (by decide : (3 : Nat) ≤ sizeLine), fun l8 nl8 => ?_⟩
    · rw [S_len, S_len]
      exact Nat.le_of_lt (small1000 (by show t.length + 1 ≤ 1000; omega))
    · rw [S_len, S_len]
      exact Nat.le_of_lt (small1000 (by show 1 + t.length ≤ 1000; omega))
    rw [S_cat, S_cat]
    generalize t ++ [32] = E_ at *
    generalize [32] ++ t = B_ at *
    have y8 := Ext.new (o := .lst [.str (S C_), .str (S E_), .str (S B_)]) y7.tb nl8
    have hl8 : upd G7 l8 (.lst [.str (S C_), .str (S E_), .str (S B_)]) l8 = some (.lst [.str (S C_), .str (S E_), .str (S B_)]) := upd_same
    have hl78 := y8.lst hl7
    have Y8 := Y7.trans y8
    generalize upd G7 l8 (.lst [.str (S C_), .str (S E_), .str (S B_)]) = G8 at *
    refine ⟨l7, l8, _, _, rfl, rfl, hl78, hl8, (by show 12 ≤ sizeLine; decide), fun so nso => ?_⟩
    generalize hbase : [P_, P_, P_, P_, F_, F_, F_, F_, C_, C_, E_, B_] = base
    have bl : base.length = 12 := by rw [← hbase]; rfl
    have bok : ∀ w ∈ base, TxOk w := fun w hw => by
      rw [← hbase] at hw
      simp only [List.mem_cons, List.not_mem_nil, or_false] at hw
      rcases hw with rfl | rfl | rfl | rfl | rfl | rfl | rfl | rfl | rfl | rfl | rfl | rfl <;> assumption
    have ebase : ([.str (S P_), .str (S P_), .str (S P_), .str (S P_), .str (S F_), .str (S F_), .str (S F_), .str (S F_), .str (S C_)] ++ [.str (S C_), .str (S E_), .str (S B_)] : List V) = (base.map S).map V.str := by
      rw [← hbase]
      rfl
    rw [ebase]
    have paired_of : ∀ ws : List (List Nat), Paired (FSt G8) ((ws.map S).map V.str) ws := fun ws => by
      induction ws with
      | nil => exact .nil
      | cons w ws ih => exact .cons rfl ih
    have cp0 : CP Ps FSt G8 so base 12 (upd G8 so (.lst ((base.map S).map V.str))) := ⟨Ext.new y8.tb nso, _, upd_same, paired_of base, by rw [List.length_map, List.length_map, bl]; exact Nat.le_refl _⟩
    have P8 := P6.trans (Y8.epn P6.pen)
    have hlwG := Y8.lst hlw
    generalize upd G8 so (.lst ((base.map S).map V.str)) = H7 at *
    show R [some (.ref a), some (.str (S t)), some (.int wy), some (.int (an : Nat)), some (.int cl), some (.int wi), some (.int (bn : Nat)), some (.str sgs), some (.str (S [g])), some (.ref lw), some (.str (S wv)), some (.str (S P_)), some (.str (S F_)), some (.ref so), none] H7
    rw [hR]
    clear hR hl7 hl78 hl8 ebase
    -- the odd ones
    refine tseq_intro fun R hR => ?_
    have hszw : (S wv).length ≤ sizeLine := by
      rw [S_len]
      exact Nat.le_of_lt (small1000 (by omega))
    refine ⟨.str (S wv), rfl, .str (S wv), rfl, (by decide : (2 : Nat) ≤ sizeLine), fun m1 nm1 => ?_⟩
    have z1 := Ext.new (o := .lst [.str (S wv), .str (S wv)]) cp0.ext.tb nm1
    have hm1 : upd H7 m1 (.lst [.str (S wv), .str (S wv)]) m1 = some (.lst (([wv, wv].map S).map V.str)) := upd_same
    have c1_ := cp0.skip (stbSt (K := K)) z1
    have n1_ : m1 ≠ so := by
      obtain ⟨_, q1, _⟩ := cp0.at_
      exact Ne.symm (ne_of_none q1 nm1)
    generalize upd H7 m1 (.lst [.str (S wv), .str (S wv)]) = H8 at *
    refine ⟨Nat.zero_le _, fun m2 nm2 => ?_⟩
    have z2 := Ext.new (o := .lst []) z1.tb nm2
    have hm2 : upd H8 m2 (.lst []) m2 = some (.lst (([].map S).map V.str)) := upd_same
    have c2_ := c1_.skip (stbSt (K := K)) z2
    have n2_ : m2 ≠ so := by
      obtain ⟨_, q1, _⟩ := c1_.at_
      exact Ne.symm (ne_of_none q1 nm2)
    have hm12 := z2.lst hm1
    generalize upd H8 m2 (.lst []) = H9 at *
    refine ⟨.str (S wv), rfl, S wv, rfl, hszw, fun y hy hmy => ⟨(by decide : (1 : Nat) ≤ sizeLine), fun m3 nm3 => ?_⟩⟩
    obtain ⟨yv, rfl⟩ : ∃ yv : List Nat, y = S yv := ⟨y.cps.toList, (S_tl y).symm⟩
    have yok : yv.length ≤ 91 ∧ asc yv = true := ⟨by rw [S_len, S_len] at hy; omega, asc_sub hmy hwa⟩
    have z3 := Ext.new (o := .lst [.str (S yv)]) z2.tb nm3
    have hm3 : upd H9 m3 (.lst [.str (S yv)]) m3 = some (.lst (([yv].map S).map V.str)) := upd_same
    have c3_ := c2_.skip (stbSt (K := K)) z3
    have n3_ : m3 ≠ so := by
      obtain ⟨_, q1, _⟩ := c2_.at_
      exact Ne.symm (ne_of_none q1 nm3)
    have hm13 := z3.lst hm12
    have hm23 := z3.lst hm2
    generalize upd H9 m3 (.lst [.str (S yv)]) = H10 at *
    refine ⟨.str (S wv), rfl, ?_⟩
    rw [lz]
    refine ⟨S [48], S wv, rfl, rfl, ?_, (by decide : (1 : Nat) ≤ sizeLine), fun m4 nm4 => ?_⟩
    · rw [S_len, S_len]
      exact Nat.le_of_lt (small1000 (by show 1 + wv.length ≤ 1000; omega))
    rw [S_cat]
    have z4 := Ext.new (o := .lst [.str (S ([48] ++ wv))]) z3.tb nm4
    have hm4 : upd H10 m4 (.lst [.str (S ([48] ++ wv))]) m4 = some (.lst (([[48] ++ wv].map S).map V.str)) := upd_same
    have c4_ := c3_.skip (stbSt (K := K)) z4
    have n4_ : m4 ≠ so := by
      obtain ⟨_, q1, _⟩ := c3_.at_
      exact Ne.symm (ne_of_none q1 nm4)
    have hm14 := z4.lst hm13
    have hm24 := z4.lst hm23
    have hm34 := z4.lst hm3
    generalize upd H10 m4 (.lst [.str (S ([48] ++ wv))]) = H11 at *
    refine ⟨(by decide : (4 : Nat) ≤ sizeLine), fun ml nml => ?_⟩
    have z5 := Ext.new (o := .lst [.ref m1, .ref m2, .ref m3, .ref m4]) z4.tb nml
    have hml : upd H11 ml (.lst [.ref m1, .ref m2, .ref m3, .ref m4]) ml = some (.lst [.ref m1, .ref m2, .ref m3, .ref m4]) := upd_same
    have c5_ := c4_.skip (stbSt (K := K)) z5
    have n5_ : ml ≠ so := by
      obtain ⟨_, q1, _⟩ := c4_.at_
      exact Ne.symm (ne_of_none q1 nml)
    have hm15 := z5.lst hm14
    have hm25 := z5.lst hm24
    have hm35 := z5.lst hm34
    have hm45 := z5.lst hm4
    generalize upd H11 ml (.lst [.ref m1, .ref m2, .ref m3, .ref m4]) = H12 at *
    have hOdd : ∀ (j : Nat) (v : V), ([.ref m1, .ref m2, .ref m3, .ref m4] : List V)[j]? = some v → ∃ (l : Addr) (os : List (List Nat)), v = .ref l ∧ l ≠ so ∧ H12 l = some (.lst ((os.map S).map V.str)) ∧ os.length ≤ 2 ∧ ∀ o ∈ os, o.length ≤ 91 ∧ asc o = true := fun j v hv => by
      match j, hv with
      | 0, hv =>
        cases hv
        exact ⟨m1, [wv, wv], rfl, n1_, hm15, by simp, fun o ho => by
          simp at ho
          rw [ho]
          exact ⟨by omega, hwa⟩⟩
      | 1, hv =>
        cases hv
        exact ⟨m2, [], rfl, n2_, hm25, by decide, fun o ho => by cases ho⟩
      | 2, hv =>
        cases hv
        exact ⟨m3, [yv], rfl, n3_, hm35, by simp, fun o ho => by
          rw [List.mem_singleton.mp ho]
          exact yok⟩
      | 3, hv =>
        cases hv
        exact ⟨m4, [[48] ++ wv], rfl, n4_, hm45, by simp, fun o ho => by
          rw [List.mem_singleton.mp ho]
          exact ⟨by simp; omega, asc_app (by decide) hwa⟩⟩
    clear hm1 hm2 hm3 hm4 hm12 hm13 hm23 hm14 hm24 hm34 hm15 hm25 hm35 hm45 c1_ c2_ c3_ c4_ z1 z2 z3 z4
    refine ⟨ml, rfl, ⟨_, .inl (.inl hml)⟩, for_list (K := K) (a := ml) (xs := [.ref m1, .ref m2, .ref m3, .ref m4]) (fun i σ HX => ∃ (ws : List (List Nat)) (y14 : Option V), CP Ps FSt G8 so ws (12 + i) HX ∧ ws.length = 12 + i ∧ (∀ w ∈ ws, TxOk w) ∧ HX ml = some (.lst [.ref m1, .ref m2, .ref m3, .ref m4]) ∧ (∀ (l : Addr) (xs : List V), l ≠ so → H12 l = some (.lst xs) → HX l = some (.lst xs)) ∧ σ = [some (.ref a), some (.str (S t)), some (.int wy), some (.int (an : Nat)), some (.int cl), some (.int wi), some (.int (bn : Nat)), some (.str sgs), some (.str (S [g])), some (.ref lw), some (.str (S wv)), some (.str (S P_)), some (.str (S F_)), some (.ref so), y14]) ⟨base, _, c5_, bl, bok, hml, fun l xs _ h => h, rfl⟩ (fun i σ HX _ p => ?_) (fun i v σ HX hv p => ?_) (fun σ HX p => ?_)⟩
    · obtain ⟨_, _, _, _, _, h, _⟩ := p
      exact .inl (.inl h)
    · obtain ⟨ws, y14, cX, wl_, wok, hmlX, keep, rfl⟩ := p
      have hi : i < 4 := (List.getElem?_eq_some_iff.mp hv).1
      obtain ⟨l, os, rfl, nl, hl, ol, ook⟩ := hOdd i v hv
      have hlX := keep l _ nl hl
      have hlwX := cX.ext.lst hlwG
      obtain ⟨mok, ms, mc⟩ := mixed_ok (b := bn) tl ha ol ook
      obtain ⟨acc, hacc, hal, _⟩ := CP.put (stbSt (K := K)) nso (by omega) cX (show FSt HX (.str (S [])) [] from rfl)
      refine ⟨.ref so, rfl, .inl ⟨rfl, _, .inl (.inl hacc)⟩, rfl, ?_⟩
      have et : cutV (((wdsL t).map S).map V.str) none (some ((bn : Nat) : Int)) = ((((wdsL t).take bn).map S).map V.str) := cut_toS _ bn
      have ed : cutV (((wdsL t).map S).map V.str) (some (((bn : Nat) : Int) + 1)) none = ((((wdsL t).drop (bn + 1)).map S).map V.str) := cut_fromS _ (bn + 1)
      refine ⟨.ref lw, rfl, .int (bn : Nat), rfl, ((bn : Nat) : Int), rfl, lw, _, rfl, .inl (.inl hlwX), fun k1 nk1 => ?_⟩
      rw [et]
      have v1 := Ext.new (o := .lst ((((wdsL t).take bn).map S).map V.str)) cX.ext.tb nk1
      have hk1 : upd HX k1 (.lst ((((wdsL t).take bn).map S).map V.str)) k1 = some (.lst ((((wdsL t).take bn).map S).map V.str)) := upd_same
      have hl1 := v1.lst hlX
      have hlw1 := v1.lst hlwX
      generalize upd HX k1 (.lst ((((wdsL t).take bn).map S).map V.str)) = K1 at *
      have e12 : ((((wdsL t).take bn).map S).map V.str) ++ ((os.map S).map V.str) = ((((wdsL t).take bn ++ os).map S).map V.str) := by
        rw [List.map_append, List.map_append]
      have len1 : ((wdsL t).take bn).length + os.length + ((wdsL t).drop (bn + 1)).length ≤ 95 := by
        rw [List.length_append, List.length_append] at mc
        exact mc
      refine ⟨.ref l, rfl, k1, l, _, _, rfl, rfl, hk1, hl1, ?_, fun k2 nk2 => ?_⟩
      · rw [List.length_map, List.length_map, List.length_map, List.length_map]
        exact Nat.le_of_lt (small1000 (by omega))
      rw [e12]
      have v2 := Ext.new (o := .lst ((((wdsL t).take bn ++ os).map S).map V.str)) v1.tb nk2
      have hk2 : upd K1 k2 (.lst ((((wdsL t).take bn ++ os).map S).map V.str)) k2 = some (.lst ((((wdsL t).take bn ++ os).map S).map V.str)) := upd_same
      have hlw2 := v2.lst hlw1
      generalize upd K1 k2 (.lst ((((wdsL t).take bn ++ os).map S).map V.str)) = K2 at *
      refine ⟨.ref lw, rfl, .int (bn : Nat), rfl, ((bn : Nat) : Int), 1, rfl, rfl, ((bn : Nat) : Int) + 1, rfl, lw, _, rfl, .inl (.inl hlw2), fun k3 nk3 => ?_⟩
      rw [ed]
      have v3 := Ext.new (o := .lst ((((wdsL t).drop (bn + 1)).map S).map V.str)) v2.tb nk3
      have hk3 : upd K2 k3 (.lst ((((wdsL t).drop (bn + 1)).map S).map V.str)) k3 = some (.lst ((((wdsL t).drop (bn + 1)).map S).map V.str)) := upd_same
      have hk23 := v3.lst hk2
      generalize upd K2 k3 (.lst ((((wdsL t).drop (bn + 1)).map S).map V.str)) = K3 at *
      have e123 : ((((wdsL t).take bn ++ os).map S).map V.str) ++ ((((wdsL t).drop (bn + 1)).map S).map V.str) = ((((wdsL t).take bn ++ os ++ (wdsL t).drop (bn + 1)).map S).map V.str) := by
        rw [← List.map_append, ← List.map_append]
      refine ⟨k2, k3, _, _, rfl, rfl, hk23, hk3, ?_, fun k4 nk4 => ?_⟩
      · rw [List.length_map, List.length_map, List.length_map, List.length_map, List.length_append]
        exact Nat.le_of_lt (small1000 (by omega))
      rw [e123]
      have v4 := Ext.new (o := .lst ((((wdsL t).take bn ++ os ++ (wdsL t).drop (bn + 1)).map S).map V.str)) v3.tb nk4
      have V4 := v1.trans (v2.trans (v3.trans v4))
      have hk4 : upd K3 k4 (.lst ((((wdsL t).take bn ++ os ++ (wdsL t).drop (bn + 1)).map S).map V.str)) k4 = some (.lst ((((wdsL t).take bn ++ os ++ (wdsL t).drop (bn + 1)).map S).map V.str)) := upd_same
      generalize upd K3 k4 (.lst ((((wdsL t).take bn ++ os ++ (wdsL t).drop (bn + 1)).map S).map V.str)) = K4 at *
      refine ⟨" ", k4, _, rfl, rfl, .inl (.inl (.inl hk4)), ?_, ?_⟩
      · rw [List.length_map, show ((" " : Str)).length = 1 by decide +kernel]
        omega
      rw [one_S, join_S]
      generalize TL.joinL [32] ((wdsL t).take bn ++ os ++ (wdsL t).drop (bn + 1)) = J at *
      have c4 := cX.skip (stbSt (K := K)) V4
      obtain ⟨acc2, ha2, hal2, cp2⟩ := CP.put (stbSt (K := K)) nso (by omega) c4 (show FSt K4 (.str (S J)) J from rfl)
      refine ⟨so, _, .str (S J), rfl, rfl, ha2, hal2, ws ++ [J], _, cp2, by rw [List.length_append, wl_]; rfl, fun w hw => ?_, ?_, fun l' xs' nl' hl' => ?_, rfl⟩
      · rcases List.mem_append.mp hw with hw | hw
        · exact wok w hw
        · rw [List.mem_singleton.mp hw]
          exact mok
      · rw [upd_ne n5_]
        exact V4.lst hmlX
      · rw [upd_ne nl']
        exact V4.lst (keep l' xs' nl' hl')
    obtain ⟨ws, y14, cX, wl_, wok, hmlX, keep, rfl⟩ := p
    show R [some (.ref a), some (.str (S t)), some (.int wy), some (.int (an : Nat)), some (.int cl), some (.int wi), some (.int (bn : Nat)), some (.str sgs), some (.str (S [g])), some (.ref lw), some (.str (S wv)), some (.str (S P_)), some (.str (S F_)), some (.ref so), y14] HX
    rw [hR]
    clear hR
    obtain ⟨zs, g1, g2, _⟩ := cX.at_
    rw [paired_sts g2] at g1
    obtain ⟨wn, rfl⟩ := Int.eq_ofNat_of_zero_le w0
    have wl16 : ws.length = 16 := wl_
    have hwn : wn < ws.length := by omega
    have hgw : ws[wn]? = some ws[wn] := List.getElem?_eq_getElem hwn
    refine ⟨.ref so, rfl, .int (wn : Nat), rfl, so, _, (wn : Nat), .str (S ws[wn]), rfl, rfl, .inl (.inl g1), atI_nat (by rw [List.getElem?_map, List.getElem?_map, hgw]; rfl), ?_⟩
    exact q _ _ (P8.trans (cX.ext.epn P8.pen)) (wok _ (List.getElem_mem hwn))
end
end Lf

set_option maxHeartbeats 4000000
namespace Lf
open PySem PySem.Spec PyProof.Rows L2 GxR GxA SrT
open SX
abbrev sReadR : Stmt := topS 52
theorem scReadR : FnScope ["_law_text_here", "_law_due"] ["_law_text_here"] (defScope sReadR) := ⟨rfl, rfl, rfl, by decide +kernel, rfl, by decide +kernel, by decide +kernel⟩
abbrev qualR : Str := (envOfC "_law_read_right" (defScope sReadR) 0 0 (.ref 0)).qual ++ "<lambda>"
section
variable {P : Program} {w : World} {K : PySem.W.Frag} {mg : Str → Option Value} {base : Heap} {Ps : Tbs} {H H' H0 : Hp} {k : Nat} {f c : Addr} {fd : FuncData} {C : Nat → Addr} {CY CS CT PL : Addr}
def spReadR (K : PySem.W.Frag) (Ps : Tbs) : Sp := fun vs H Q _ => ∃ (t : List Nat), vs = [.str (S t)] ∧ TxOk t ∧ Tb Ps H ∧ ∀ H', Ext Ps H H' → Q (.bl true) H'
theorem ok_readR {fL cL fT cT fS cS fR cR : Addr} {fdL fdT fdS fdR : FuncData} {fd1 cd1 : Addr} {fdK1 : FuncData} (D : Def K mg "_law_read_right" sReadR ["_law_text_here"] f fd c) (DL : Def K mg "_law_read" sLRead ["_law_text_here"] fL fdL cL) (GL : FnOk P w K mg base CX0 (k + 2) fL fdL ["_law_text_here"] (spLRead K Ps)) (DT : Def K mg "read" sRead ["text"] fT fdT cT) (GT : FnOk P w K mg base (L2.CX P w) (k) fT fdT ["text"] (spRead K Ps CT)) (DS : Def K mg "_law_same" sSame ["_law_found", "_law_due"] fS fdS cS) (GS : FnOk P w K mg base CX0 (k + 2) fS fdS ["_law_found", "_law_due"] (spSame K Ps 5)) (DR : Def K mg "_law_refused" sRefused ["_law_call"] fR fdR cR) (DKd : Def K mg "_law_kinds" sKinds ["_law_e"] fd1 fdK1 cd1) (G : Kinds mg C) (gL : mg "LayError" = some (.ref CY)) (KT : Kind K C CY 9 CT) (TL : LamX.TabB base mg c PL) (hmT : (PL, qualR) ∈ Ps.lam) (mi : mg "isinstance" = none) (mv : mg "ValueError" = none) : FnOk P w K mg base CX0 (k + 2 + 1) f fd ["_law_text_here"] (spReadR K Ps) := by
  refine D.ok (k := k + 2) scReadR (fun vs H Q E h => ?_) (fun A outer s H vs Q E hr h => ?_)
  · obtain ⟨t, rfl, _⟩ := h
    rfl
  · obtain ⟨t, rfl, ⟨tl, ha⟩, ht, q⟩ := h
    refine ⟨_, (pss_cons (ps_set (i := 1) scReadR.nd rfl (.inl rfl) (pcl DL GL hr (pa_cons (pv 0) pa_nil))) (pss_cons (ps_if (pt_cmpR op_isN (pv 1) pe_non (nomark _)) (pss_one (ps_ret (pe_cmpR op_eq (pe_lamX (k := k) DR scRefused (refused_gives (Ps := Ps) (k := k) DKd G gL mi mv hr) TL hmT hr (show LamX.LamS (defScope sReadR) _ from LamX.lamS_by (by decide +kernel)) (fun A outer s H E f d hr2 tk => pclX DT GT hr2 tk (pa_cons (pv 0) pa_nil))) pe_str (nomark _)))) pss_nil) (pss_one (ps_ret (pcl DS GS hr (pa_cons (pclN DT (GT.mono (Nat.le_add_right k 2)) hr (pa_cons (pv 0) pa_nil)) (pa_cons (pv 1) pa_nil))))))), ?_⟩
    refine tseq_intro fun R hR => ?_
    refine ⟨.str (S t), rfl, t, rfl, tl, ha, ht, fun n kk F ok v H1 e1 hS => ?_, fun hno H1 e1 => ?_⟩
    · show R [some (.str (S t)), some v] H1
      rw [hR]
      clear hR
      obtain ⟨sa, fa, xs, rfl, h1, h2, h3⟩ := id hS
      refine tseq_intro fun R hR => ?_
      refine ⟨.ref sa, rfl, rfl, false, rfl, iteF ?_⟩
      show R [some (.str (S t)), some (.ref sa)] H1
      rw [hR]
      clear hR
      refine ⟨.str (S t), rfl, .str (S t), rfl, .inr ⟨t, rfl, tl, e1.tb, fun n2 k2 F2 ok2 v2 H2 e2 hS2 => ?_, fun hno => absurd ⟨n, kk, F, ok⟩ hno⟩⟩
      have ef := ok.2.1.symm.trans ok2.2.1
      obtain ⟨d1, d2, d3⟩ := ok.1.data
      refine ⟨.ref sa, rfl, v2, .ref sa, stkD n kk F, rfl, by rw [ef]; exact dp_stk hS2, dp_stk (e2.stk hS), d1, d2, Nat.le_trans d3 (by decide), by decide, e2.tb, fun H3 e3 => q _ (e1.trans (e2.trans e3))⟩
    · show R [some (.str (S t)), some .non] H1
      rw [hR]
      clear hR
      refine tseq_intro fun R hR => ?_
      refine ⟨.non, rfl, rfl, true, rfl, iteT ⟨e1.tb, fun HS eS => ⟨.str (S t), rfl, .str (S t), rfl, .inr ⟨t, rfl, tl, eS.tb, fun n kk F ok => absurd ⟨n, kk, F, ok⟩ hno, fun _ HU eU => ⟨rfl, 9, CT, rfl, KT, eU.tb, fun HV eV => ⟨rfl, ?_⟩⟩⟩⟩⟩⟩
      rw [show decide (V.str (wordOf 9) = V.str "text") = true from decide_eq_true rfl]
      exact q _ (e1.trans (eS.trans (eU.trans eV)))
end
end Lf

set_option maxHeartbeats 2000000
namespace Lf
open PySem PySem.Spec PyProof.Rows L2 GxR GxA SrT
theorem all_but {k : Nat} (h : k ≤ 4) : (allF (k + 1) k).length = k + 1 := by
  unfold allF
  rw [(sortL_perm _).length_eq]
  have : k = 0 ∨ k = 1 ∨ k = 2 ∨ k = 3 ∨ k = 4 := by omega
  rcases this with rfl | rfl | rfl | rfl | rfl <;> decide +kernel
section
variable {P : Program} {w : World} {K : PySem.W.Frag} {mg : Str → Option Value} {base : Heap} {Ps : Tbs} {H H' H0 : Hp} {k : Nat} {f c : Addr} {fd : FuncData}
def spStackM (K : PySem.W.Frag) (Ps : Tbs) : Sp := fun vs H Q _ => ∃ (a : Addr) (m : Int), vs = [.ref a, .int m] ∧ Pen H a ∧ 1 ≤ m ∧ m ≤ 40 ∧ Tb Ps H ∧ ∀ (v : V) (n kk : Int) (fss : List (List Int)) (H' : Hp), Epn Ps a H H' → Stk K H' v n kk fss → StkOk n kk fss → (fss.length : Int) ≤ m → Q v H'
theorem ok_stackM {fD cD fA cA : Addr} {fdD fdA : FuncData} (D : Def K mg "_law_stack" sStack ["_law_pen_here", "_law_most"] f fd c) (DD : Def K mg "_law_draw" sDraw ["_law_pen_here", "_law_many"] fD fdD cD) (GD : FnOk P w K mg base CX0 k fD fdD ["_law_pen_here", "_law_many"] spDraw)
    (DA : Def K mg "_law_all" sAll ["_law_n", "_law_k"] fA fdA cA) (GA : FnOk P w K mg base CX0 k fA fdA ["_law_n", "_law_k"] (spAll K Ps)) (mr : mg "range" = none) (ml : mg "len" = none) (mt : mg "tuple" = none) (ms : mg "sorted" = none) (me : mg "set" = none) (mm : mg "min" = none) :
    FnOk P w K mg base CX0 (k + 1) f fd ["_law_pen_here", "_law_most"] (spStackM K Ps) := by
  refine D.ok (k := k) scStack (fun vs H Q E h => ?_) (fun A outer s H vs Q E hr h => ?_)
  · obtain ⟨a, m, rfl, _⟩ := h
    rfl
  · obtain ⟨a, m, rfl, hP, m1, m2, ht, q⟩ := h
    refine ⟨_, (pss_cons (ps_set (i := 2) scStack.nd rfl (.inl rfl) (pcl DD GD hr (pa_cons (pv 0) (pa_cons pe_int pa_nil))))
      (pss_cons (ps_set (i := 3) scStack.nd rfl (.inl rfl) (pe_ix ix_list (pe_lst (pa_cons pe_int (pa_cons pe_int (pa_cons pe_int (pa_cons pe_int (pa_cons pe_int (pa_cons pe_int (pa_cons pe_int (pa_cons pe_int pa_nil))))))))) (pcl DD GD hr (pa_cons (pv 0) (pa_cons pe_int pa_nil))) (fun _ _ => rfl)))
      (pss_cons (ps_set (i := 4) scStack.nd rfl (.inl rfl) (pe_callB (call_min2 rfl) (by rfl) mm (by decide +kernel) (pa_cons (pv 3) (pa_cons (pe_ix ix_list (pe_lst (pa_cons pe_int (pa_cons pe_int (pa_cons pe_int (pa_cons pe_int (pa_cons pe_int (pa_cons pe_int (pa_cons pe_int pa_nil)))))))) (pcl DD GD hr (pa_cons (pv 0) (pa_cons pe_int pa_nil))) (fun _ _ => rfl)) pa_nil))))
      (pss_cons (ps_set (i := 5) scStack.nd rfl (.inl rfl) (pcl DA GA hr (pa_cons (pv 3) (pa_cons (pv 4) pa_nil))))
      (pss_cons (ps_set (i := 6) scStack.nd rfl (.inl rfl) (pe_lst (pa_cons (pe_ix ix_list (pv 5) (pcl DD GD hr (pa_cons (pv 0) (pa_cons (pe_callB (call_lenS (K := K) rfl) (by rfl) ml PySem.boot_len (pa_cons (pv 5) pa_nil)) pa_nil))) (fun _ _ => rfl)) pa_nil)))
      (pss_cons (ps_for PassesOwn.never rfl (pi_range1 (by rfl) mr (pa_cons (pcl DD GD hr (pa_cons (pv 0) (pa_cons (pv 1) pa_nil))) pa_nil)) (pg_name (i := 7) scStack.nd rfl (.inl rfl))
      (pss_cons (ps_set (i := 8) scStack.nd rfl (.inr rfl) (pe_ix ix_list (pv 6) (pcl DD GD hr (pa_cons (pv 0) (pa_cons (pe_callB (call_lenS (K := K) rfl) (by rfl) ml PySem.boot_len (pa_cons (pv 6) pa_nil)) pa_nil))) (fun _ _ => rfl)))
      (pss_one (ps_if (PW.pt (pw_or (pt_cmpR op_eq (pv 2) pe_int (nomark _)) (pw_or (pt_cmpR op_eq (pv 4) pe_int (nomark _)) (pw_or1 (pt_cmpR op_eq (pv 4) (pv 3) (nomark _))))))
      (pss_one (ps_expr (pe_bm PySem.F.plainAttrs_list PySem.F.slot_list_append PySem.F.type_list_append mt_append (pv 6) (pa_cons (pe_ix ix_list (pv 5) (pcl DD GD hr (pa_cons (pv 0) (pa_cons (pe_callB (call_lenS (K := K) rfl) (by rfl) ml PySem.boot_len (pa_cons (pv 5) pa_nil)) pa_nil))) (fun _ _ => rfl)) pa_nil))))
      (pss_cons (ps_set (i := 9) scStack.nd rfl (.inr rfl) (pe_ix ix_tup (pv 8) (pcl DD GD hr (pa_cons (pv 0) (pa_cons (pv 4) pa_nil))) (fun _ _ => rfl)))
      (pss_cons (ps_setLc (i := 10) (own := [("_law_point", 13)]) (g := gName 13) (by rfl) scStack.nd rfl rfl (sw_true rfl rfl rfl (by decide +kernel)) (pi_range1 (by rfl) mr (pa_cons (pv 3) pa_nil)) (blkOk_by (N := nStack) (sc := defScope sStack) (by decide +kernel)) (fun _ _ _ _ _ => pg_name (i := 13) scStack.nd rfl (Or.inl rfl)) (fun _ _ _ _ _ => pts_one (pt_cmpR (show OpR _ _ (rIn K true) from op_notIn_seq) (pv 13) (pv 8) (by with_unfolding_all rfl))) (fun _ _ _ _ _ => pv 13))
      (pss_cons (ps_set (i := 11) scStack.nd rfl (.inl rfl) (pe_ix ix_list (pv 10) (pcl DD GD hr (pa_cons (pv 0) (pa_cons (pe_op op_sub (pv 3) (pv 4)) pa_nil))) (fun _ _ => rfl)))
      (pss_cons (ps_setLc (i := 12) (own := [("_law_point", 13)]) (g := gName 13) (by rfl) scStack.nd rfl rfl (sw_true rfl rfl rfl (by decide +kernel)) (pi_tup (pv 8)) (blkOk_by (N := nStack) (sc := defScope sStack) (by decide +kernel)) (fun _ _ _ _ _ => pg_name (i := 13) scStack.nd rfl (Or.inl rfl)) (fun _ _ _ _ _ => pts_one (pt_cmpR op_ne (pv 13) (pv 9) (nomark _))) (fun _ _ _ _ _ => pv 13))
      (pss_one (ps_expr (pe_bm PySem.F.plainAttrs_list PySem.F.slot_list_append PySem.F.type_list_append mt_append (pv 6) (pa_cons (pe_callTy call_tuple_of (by rfl) mt (by decide +kernel) (pa_cons (pe_callB cr_sortedI (by rfl) ms (by decide +kernel) (pa_cons (pe_op op_cat (pv 12) (pe_lst (pa_cons (pv 11) pa_nil))) pa_nil)) pa_nil)) pa_nil))))))))))))
      (pss_cons (ps_if (PW.pt (pw_and (pt_cmpR op_eq (pv 2) pe_int (nomark _)) (pw_and (pt_cmpR op_lt (pv 4) (pv 3) (nomark _)) (pw_and1 (pt_cmpR op_lt (pv 4) (pv 1) (nomark _)))))) (pss_one (ps_set (i := 6) scStack.nd rfl (.inl rfl) (pcl DA GA hr (pa_cons (pe_op op_add (pv 4) pe_int) (pa_cons (pv 4) pa_nil))))) pss_nil)
      (pss_one (ps_ret (pe_tup (pa_cons (pv 3) (pa_cons (pv 4) (pa_cons (pe_callTy call_tuple_of (by rfl) mt (by decide +kernel) (pa_cons (pe_callB (cr_sortS rfl hr.units) (by rfl) ms (by decide +kernel) (pa_cons (pe_callTy (cr_setOfT rfl hr.units) (by rfl) me (by decide +kernel) (pa_cons (pv 6) pa_nil)) pa_nil)) pa_nil)) pa_nil))))))))))))), ?_⟩
    -- way
    refine ⟨.ref a, rfl, a, 7, rfl, hP, by decide, by decide, fun xa fa1 way w0 w1 => ?_⟩
    have e1 : Epn Ps a H (upd H a (.lst [.int xa, .int fa1])) := Epn.draw ht hP
    generalize upd H a (.lst [.int xa, .int fa1]) = H1 at *
    -- n
    refine ⟨(by show 8 ≤ sizeLine; decide), fun ln hln => ?_⟩
    have e2 := e1.trans ((Ext.new (o := .lst [V.int 5, V.int 4, V.int 6, V.int 3, V.int 7, V.int 8, V.int 2, V.int 1]) e1.tb hln).epn e1.pen)
    have g2 : (upd H1 ln (.lst [V.int 5, V.int 4, V.int 6, V.int 3, V.int 7, V.int 8, V.int 2, V.int 1])) ln = some (.lst [V.int 5, V.int 4, V.int 6, V.int 3, V.int 7, V.int 8, V.int 2, V.int 1]) := upd_same
    have n2 : ln ≠ a := by
      obtain ⟨x, f, e⟩ := e1.pen
      exact Ne.symm (ne_of_none e hln)
    refine ⟨.ref a, rfl, a, 8, rfl, e2.pen, by decide, by decide, fun xb fb1 d d0 d1 => ?_⟩
    have e3 := Epn.draw e2.tb e2.pen (x := xb) (f := fb1)
    have g3 := e3.lst n2 g2
    have e3' := e2.trans e3
    obtain ⟨n, hn, hnat⟩ := pick (l := [5, 4, 6, 3, 7, 8, 2, 1]) d0 d1
    have hn18 : 1 ≤ n ∧ n ≤ 8 := by
      have : ∀ z ∈ ([5, 4, 6, 3, 7, 8, 2, 1] : List Int), 1 ≤ z ∧ z ≤ 8 := by decide
      exact this n hn
    refine ⟨ln, _, d, .int n, rfl, rfl, .inl (.inl g3), hnat, ?_⟩
    obtain ⟨nN, rfl⟩ := Int.eq_ofNat_of_zero_le (show 0 ≤ n by omega)
    clear hnat g3 g2 n2 e2
    generalize upd (upd H1 ln (.lst [V.int 5, V.int 4, V.int 6, V.int 3, V.int 7, V.int 8, V.int 2, V.int 1])) a (.lst [.int xb, .int fb1]) = H2 at *
    -- k
    refine ⟨.int nN, rfl, (by show 7 ≤ sizeLine; decide), fun lk hlk => ?_⟩
    have e4 := e3'.trans ((Ext.new (o := .lst [V.int 2, V.int 3, V.int 1, V.int 4, V.int 3, V.int 2, V.int 0]) e3'.tb hlk).epn e3'.pen)
    have g4 : (upd H2 lk (.lst [V.int 2, V.int 3, V.int 1, V.int 4, V.int 3, V.int 2, V.int 0])) lk = some (.lst [V.int 2, V.int 3, V.int 1, V.int 4, V.int 3, V.int 2, V.int 0]) := upd_same
    have n4 : lk ≠ a := by
      obtain ⟨x, f, e⟩ := e3'.pen
      exact Ne.symm (ne_of_none e hlk)
    refine ⟨.ref a, rfl, a, 7, rfl, e4.pen, by decide, by decide, fun xc fc1 u u0 u1 => ?_⟩
    have e5 := Epn.draw e4.tb e4.pen (x := xc) (f := fc1)
    have g5 := e5.lst n4 g4
    have e5' := e4.trans e5
    obtain ⟨kz, hk, hkat⟩ := pick (l := [2, 3, 1, 4, 3, 2, 0]) u0 u1
    have hk04 : 0 ≤ kz ∧ kz ≤ 4 := by
      have : ∀ z ∈ ([2, 3, 1, 4, 3, 2, 0] : List Int), 0 ≤ z ∧ z ≤ 4 := by decide
      exact this kz hk
    refine ⟨lk, _, u, .int kz, rfl, rfl, .inl (.inl g5), hkat, (nN : Int), kz, rfl, ?_⟩
    obtain ⟨kN, hkN⟩ := Int.eq_ofNat_of_zero_le (show 0 ≤ (if kz < (nN : Int) then kz else (nN : Int)) by split <;> omega)
    have hkle : kN ≤ nN ∧ kN ≤ 4 := by
      have h1 : (if kz < (nN : Int) then kz else (nN : Int)) ≤ nN := by split <;> omega
      have h2 : (if kz < (nN : Int) then kz else (nN : Int)) ≤ 4 := by split <;> omega
      omega
    rw [hkN]
    clear hkat g5 g4 n4 e4 hkN hk
    generalize upd (upd H2 lk (.lst [V.int 2, V.int 3, V.int 1, V.int 4, V.int 3, V.int 2, V.int 0])) a (.lst [.int xc, .int fc1]) = H3 at *
    -- every
    refine ⟨.int nN, rfl, .int kN, rfl, nN, kN, rfl, by omega, by omega, e5'.tb, fun ev es H4 x4 nev hev hes => ?_⟩
    have E4 := e5'.trans (x4.epn e5'.pen)
    have nea : ev ≠ a := by
      intro z
      obtain ⟨x, f, e⟩ := e5'.pen
      rw [z] at nev
      rw [nev] at e
      cases e
    have hesl : es.length ≤ 256 := by
      rw [Paired.length hes]
      exact Nat.le_trans (allF_len nN kN) (Nat.pow_le_pow_right (by omega) (show nN ≤ 8 by omega))
    have hes0 : 0 < es.length := by
      rw [Paired.length hes]
      exact allF_ne hkle.1
    have okF : ∀ g ∈ allF nN kN, RisB nN g ∧ g.length = kN := fun g hg => mem_allF.mp hg
    -- faces
    refine ⟨.ref ev, rfl, .ref a, rfl, .ref ev, rfl, ev, _, rfl, .inl (.inl (.inl hev)), a, _, rfl, E4.pen, by omega, by omega, fun xd fd1 v v0 v1 => ?_⟩
    have e6 := Epn.draw E4.tb E4.pen (x := xd) (f := fd1)
    have hev6 := e6.lst nea hev
    have hes6 := e6.tups hes
    obtain ⟨x0, g0, hg0, hI0, hat0⟩ := pickT hes6 v0 v1
    refine ⟨ev, es, v, x0, rfl, rfl, .inl (.inl hev6), hat0, (by show 1 ≤ sizeLine; decide), fun fa nfa => ?_⟩
    have E6 := E4.trans e6
    have e7 := Ext.new (o := .lst [x0]) E6.tb nfa
    have F0 : Fc K Ps a nN kN H _ ev fa es [x0] [g0] := ⟨E6.trans (e7.epn E6.pen), e7.lst hev6, upd_same, e5'.free nev, E6.free nfa, ne_of_none hev6 nfa, e7.tups hes6, .cons (e7.tupI hI0) .nil, fun g hg => by rw [List.mem_singleton.mp hg]; exact okF g0 hg0⟩
    clear hat0 hev6 hes6
    generalize upd (upd H4 a (.lst [.int xd, .int fd1])) fa (.lst [x0]) = H5 at *
    -- the loop
    refine ⟨.ref a, rfl, .int m, rfl, a, m, rfl, F0.ext.pen, m1, by omega, fun xe fe1 tn tn0 tn1 => ⟨tn, rfl, by omega, by omega, ?_⟩⟩
    have F1 := F0.move (Epn.draw F0.ext.tb F0.ext.pen (x := xe) (f := fe1))
    generalize upd H5 a (.lst [.int xe, .int fe1]) = H6 at *
    refine for_range (lo := 0) (n := tn.toNat) (fun i σ HX => ∃ (ys : List V) (gss : List (List Int)) (y7 y8 y9 y10 y11 y12 y13 : Option V), Fc K Ps a nN kN H HX ev fa es ys gss ∧ ys.length = i + 1 ∧ σ = [some (.ref a), some (.int m), some (.int way), some (.int nN), some (.int kN), some (.ref ev), some (.ref fa), y7, y8, y9, y10, y11, y12, y13])
      ⟨[x0], [g0], none, none, none, none, none, none, none, F1, rfl, rfl⟩ (fun i σ HX hi p => ?_) (fun σ HX p => ?_)
    · obtain ⟨ys, gss, y7, y8, y9, y10, y11, y12, y13, F, hyl, rfl⟩ := p
      have hi' : i < tn.toNat := hi
      refine ⟨.ref fa, rfl, .ref a, rfl, .ref fa, rfl, fa, _, rfl, .inl (.inl (.inl F.hf)), a, _, rfl, F.ext.pen, by omega, by omega, fun xf ff d d0 d1 => ?_⟩
      have F2 := F.move (Epn.draw F.ext.tb F.ext.pen (x := xf) (f := ff))
      generalize upd HX a (.lst [.int xf, .int ff]) = HY at *
      obtain ⟨x, g, hg, hI, hat⟩ := pickT F2.pf d0 d1
      obtain ⟨hgR, hgL⟩ := F2.ok g hg
      refine ⟨fa, ys, d, x, rfl, rfl, .inl (.inl F2.hf), hat, ?_⟩
      refine ⟨.int way, rfl, rfl, _, rfl, ite2 (fun e1 => iteT ?_) (fun e1 => ⟨.int kN, rfl, rfl, _, rfl, ite2 (fun e2 => iteT ?_) (fun e2 => ⟨.int kN, rfl, .int nN, rfl, rfl, _, rfl, ite2 (fun e3 => ?_) (fun e3 => ?_)⟩)⟩)⟩
      rotate_left 3
      · have hk1 : 1 ≤ kN := by
          have z : ¬ (V.int (kN : Int) = V.int 0) := fun z => e2 (decide_eq_true z)
          have z2 : kN ≠ 0 := fun q => z (by rw [q]; rfl)
          omega
        have hkn : kN < nN := by
          have z : ¬ (V.int (kN : Int) = V.int (nN : Int)) := fun z => e3 (decide_eq_true z)
          have z2 : kN ≠ nN := fun q => z (by rw [q])
          omega
        obtain ⟨t, rfl, hT⟩ := id hI
        -- out
        refine ⟨.ref t, rfl, .ref a, rfl, .int kN, rfl, a, _, rfl, F2.ext.pen, by omega, by omega, fun xg fg v v0 v1 => ?_⟩
        have m3 := Epn.draw F2.ext.tb F2.ext.pen (x := xg) (f := fg)
        have F3 := F2.move m3
        have hT3 := m3.sqT hT
        generalize upd HY a (.lst [.int xg, .int fg]) = HZ at *
        obtain ⟨o, ho, hoat⟩ := pick (l := g) v0 (by omega)
        refine ⟨t, _, v, .int o, rfl, rfl, hT3, hoat, ?_⟩
        -- others
        refine ⟨.int nN, rfl, (nN : Int), rfl, by omega, by omega, fun D0 hD => lc_range (lo := 0) (n := ((nN : Int)).toNat) (fun j HW => CP Ps FI HZ D0 ((rng j).filter fun p => !decide (p ∈ g)) j HW) (CP.start F3.ext.tb hD) (fun j HW hj p => ?_) (fun HW p => ?_)⟩
        · have hj' : j < ((nN : Int)).toNat := hj
          refine ⟨rfl, .int (0 + j), rfl, .ref t, rfl, t, _, rfl, .inr (p.ext.sqT hT3), rfl, flat_ints g, _, rfl, ?_⟩
          show if (!inV (.int (0 + (j : Int))) (g.map V.int)) = true then _ else _
          rw [inV_ints, Int.zero_add]
          have hft : (rng (j + 1)).filter (fun p => !decide (p ∈ g)) = (rng j).filter (fun p => !decide (p ∈ g)) ++ (if (!decide ((j : Int) ∈ g)) = true then [(j : Int)] else []) := by
            unfold rng
            rw [List.range_succ, List.map_append, List.filter_append]
            cases hp : decide ((j : Int) ∈ g) <;> simp [hp]
          refine ite2 (fun hc => ?_) (fun hc => ?_)
          · have r := CP.put (stbI (K := K)) hD (by omega) p (show FI HW (.int (j : Int)) j from rfl)
            rw [hft, if_pos hc]
            exact ⟨.int j, rfl, r⟩
          · rw [hft, if_neg hc, List.append_nil]
            exact p.mono (Nat.le_succ j)
        obtain ⟨os, o1, o2, o3⟩ := p.at_
        rw [Int.toNat_natCast] at o2
        rw [paired_ints o2] at o1
        have F4 := F3.move (p.ext.epn F3.ext.pen)
        have hT4 := p.ext.sqT hT3
        have nDa : D0 ≠ a := by
          obtain ⟨xx, f, e⟩ := F3.ext.pen
          exact Ne.symm (ne_of_none e hD)
        have olen : ((rng nN).filter fun p => !decide (p ∈ g)).length = nN - kN := by rw [others_len hgR, hgL]
        -- into
        refine ⟨.ref D0, rfl, .ref a, rfl, .int nN, rfl, .int kN, rfl, (nN : Int), (kN : Int), rfl, rfl, a, _, rfl, F4.ext.pen, by omega, by omega, fun xh fh z z0 z1 => ?_⟩
        have m5 := Epn.draw F4.ext.tb F4.ext.pen (x := xh) (f := fh)
        have F5 := F4.move m5
        have hT5 := m5.sqT hT4
        have o5 := m5.lst nDa o1
        generalize upd HW a (.lst [.int xh, .int fh]) = HV at *
        obtain ⟨io, hio, hioat⟩ := pick (l := (rng nN).filter fun p => !decide (p ∈ g)) z0 (by omega)
        obtain ⟨hio1, hio2⟩ := List.mem_filter.mp hio
        have hnot : io ∉ g := by simpa using hio2
        obtain ⟨io0, ioN⟩ := mem_rng hio1
        refine ⟨D0, _, z, .int io, rfl, rfl, .inl (.inl o5), hioat, ?_⟩
        -- rest
        refine ⟨.ref t, rfl, t, rfl, ⟨_, hT5⟩, fun D1 hD1 => lc_tup (K := K) (a := t) (xs := g.map V.int) (fun j HU => CP Ps FI HV D1 ((g.take j).filter fun p => !decide (p = o)) j HU) (CP.start F5.ext.tb hD1) (fun j HU _ p => p.ext.sqT hT5) (fun j yv HU hyv p => ?_) (fun HU p => ?_)⟩
        · obtain ⟨y, hy, rfl⟩ := map_int hyv
          have hj : j < g.length := (List.getElem?_eq_some_iff.mp hy).1
          refine ⟨rfl, .int y, rfl, .int o, rfl, rfl, _, rfl, ?_⟩
          have hft := filt_take (fun p : Int => !decide (p = o)) hy
          have ed : decide (V.int y = V.int o) = decide (y = o) := by
            by_cases q : y = o
            · rw [q]
              simp
            · have q' : ¬ V.int y = V.int o := fun z => q (V.int.inj z)
              simp [q]
          rw [ed]
          refine ite2 (fun hc => ?_) (fun hc => ?_)
          · have r := CP.put (stbI (K := K)) hD1 (by omega) p (show FI HU (.int y) y from rfl)
            rw [hft, if_pos hc]
            exact ⟨.int y, rfl, r⟩
          · rw [hft, if_neg hc, List.append_nil]
            exact p.mono (Nat.le_succ j)
        obtain ⟨rs, r1, r2, r3⟩ := p.at_
        rw [List.length_map, List.take_length] at r2
        rw [paired_ints r2] at r1
        have F6 := F5.move (p.ext.epn F5.ext.pen)
        -- append
        refine ⟨.ref fa, rfl, .inl ⟨rfl, _, .inl (.inl F6.hf)⟩, .ref D1, rfl, .int io, rfl, (by show 1 ≤ sizeLine; decide), fun l1 hl1 => ?_⟩
        have x7 := Ext.new (o := .lst [.int io]) F6.ext.tb hl1
        have hrl := rest_len hgR.nd ho
        refine ⟨D1, l1, _, _, rfl, rfl, x7.lst r1, upd_same, ?_, fun l2 hl2 => ?_⟩
        · rw [List.length_map, List.length_singleton]
          exact Nat.le_of_lt (small1000 (by omega))
        have x8 := Ext.new (o := .lst (((g.filter fun p => !decide (p = o)).map V.int) ++ [.int io])) x7.tb hl2
        refine ⟨l2, (g.filter fun p => !decide (p = o)) ++ [io], rfl, ?_, fun ns l3 pm sr hl3 => ?_⟩
        · rw [List.map_append]
          exact .inl (.inl upd_same)
        have x9 := Ext.new (o := .lst (ns.map V.int)) x8.tb hl3
        refine ⟨l3, _, rfl, .inl ⟨.inl (.inl upd_same), fun t2 ht2 => ?_⟩⟩
        have x10 := Ext.new (o := .tup (ns.map V.int)) x9.tb ht2
        have F7 := F6.move ((x7.trans (x8.trans (x9.trans x10))).epn F6.ext.pen)
        refine ⟨fa, ys, .ref t2, rfl, rfl, F7.hf, small1000 (by omega), ?_⟩
        have hnew := swap_ok hgR ho hnot io0 ioN pm sr
        refine ⟨ys ++ [.ref t2], gss ++ [ns], _, _, _, _, _, _, _, F7.put ⟨t2, rfl, .inl (.inl upd_same)⟩ ⟨hnew.1, by rw [hnew.2]; exact hgL⟩, by simp [hyl], rfl⟩
      all_goals
        refine ⟨.ref fa, rfl, .inl ⟨rfl, _, .inl (.inl F2.hf)⟩, .ref ev, rfl, .ref a, rfl, .ref ev, rfl, ev, _, rfl, .inl (.inl (.inl F2.he)), a, _, rfl, F2.ext.pen, by omega, by omega, fun xg fg v v0 v1 => ?_⟩
        have F3 := F2.move (Epn.draw F2.ext.tb F2.ext.pen (x := xg) (f := fg))
        generalize upd HY a (.lst [.int xg, .int fg]) = HZ at *
        obtain ⟨x2, g2, hg2, hI2, hat2⟩ := pickT F3.pe v0 v1
        refine ⟨ev, es, v, x2, rfl, rfl, .inl (.inl F3.he), hat2, fa, ys, x2, rfl, rfl, F3.hf, small1000 (by omega), ?_⟩
        exact ⟨ys ++ [x2], gss ++ [g2], _, _, _, _, _, _, _, F3.put hI2 (okF g2 hg2), by simp [hyl], rfl⟩
    · obtain ⟨ys, gss, y7, y8, y9, y10, y11, y12, y13, F, hyl, rfl⟩ := p
      -- what is told of any faces
      have fin : ∀ (HX : Hp) (fb : Addr) (ys : List V) (gss : List (List Int)), Epn Ps a H HX → HX fb = some (.lst ys) → Paired (TupI K HX) ys gss → (∀ g ∈ gss, RisB nN g ∧ g.length = kN) → 1 ≤ ys.length → ys.length ≤ 40 → (ys.length : Int) ≤ m →
          ∃ (l : Addr) (ks : List (Addr × List Int)), [V.ref fb] = [V.ref l] ∧ SqL K HX l (ks.map fun p => V.ref p.1) ∧ (∀ p ∈ ks, SqT K HX p.1 (p.2.map V.int)) ∧ ks.length < 64 ∧ ∀ (sa : Addr) (L : List (Addr × List Int)), HX sa = none → (∀ p ∈ L, p ∈ ks) → (∀ p ∈ ks, p.2 ∈ L.map (·.2)) →
            ∃ (sb : Addr) (L' : List (Addr × List Int)), [V.ref sa] = [V.ref sb] ∧ (upd HX sa (SetTO P w sa L)) sb = some (SetTO P w sb L') ∧ (∀ p ∈ L', SqT K (upd HX sa (SetTO P w sa L)) p.1 (p.2.map V.int)) ∧ ∀ (zs : List V) (hss : List (List Int)) (p : Addr), Paired (TupI K (upd HX sa (SetTO P w sa L))) zs hss → hss.Pairwise (fun x y => lex x y = true) → (∀ z, z ∈ hss ↔ z ∈ L'.map (·.2)) → zs.length < 64 → (upd HX sa (SetTO P w sa L)) p = none →
              ∃ (p2 : Addr) (us : List V), [V.ref p] = [V.ref p2] ∧ ((SqL K (upd (upd HX sa (SetTO P w sa L)) p (.lst zs)) p2 us ∧ ∀ l3, (upd (upd HX sa (SetTO P w sa L)) p (.lst zs)) l3 = none → [V.int nN, .int kN, .ref l3].length ≤ sizeLine ∧ ∀ l4, (upd (upd (upd HX sa (SetTO P w sa L)) p (.lst zs)) l3 (.tup us)) l4 = none → Q (.ref l4) (upd (upd (upd (upd HX sa (SetTO P w sa L)) p (.lst zs)) l3 (.tup us)) l4 (.tup [.int nN, .int kN, .ref l3]))) ∨
                (SqT K (upd (upd HX sa (SetTO P w sa L)) p (.lst zs)) p2 us ∧ [V.int nN, .int kN, .ref p2].length ≤ sizeLine ∧ ∀ l4, (upd (upd HX sa (SetTO P w sa L)) p (.lst zs)) l4 = none → Q (.ref l4) (upd (upd (upd HX sa (SetTO P w sa L)) p (.lst zs)) l4 (.tup [.int nN, .int kN, .ref p2])))) := by
        intro HX fb ys gss EX hfb hp hok l1 l40 lm
        obtain ⟨ks, rfl, k2, k3⟩ := keys_at hp
        refine ⟨fb, ks, rfl, .inl (.inl hfb), k3, by have := l40; simp only [List.length_map] at this; omega, fun sa L nsa hL1 hL2 => ?_⟩
        have y1 := Ext.new (o := SetTO P w sa L) EX.tb nsa
        refine ⟨sa, L, rfl, upd_same, fun p hp2 => y1.sqT (k3 p (hL1 p hp2)), fun zs hss p hz hss1 hss2 hzl np => ?_⟩
        have y2 := Ext.new (o := .lst zs) y1.tb np
        refine ⟨p, zs, rfl, .inl ⟨.inl (.inl upd_same), fun l3 nl3 => ⟨(by show 3 ≤ sizeLine; decide), fun l4 nl4 => ?_⟩⟩⟩
        have y3 := Ext.new (o := .tup zs) y2.tb nl3
        have y4 := Ext.new (o := .tup [.int nN, .int kN, .ref l3]) y3.tb nl4
        have memz : ∀ z, z ∈ hss → RisB nN z ∧ z.length = kN := fun z hz2 => by
          obtain ⟨q1, hq1, rfl⟩ := List.mem_map.mp ((hss2 z).mp hz2)
          refine hok _ ?_
          rw [← k2]
          exact List.mem_map.mpr ⟨q1, hL1 q1 hq1, rfl⟩
        have hssl : 1 ≤ hss.length := by
          cases ks with
          | nil => simp at l1
          | cons q1 ks =>
            have := (hss2 q1.2).mpr (hL2 q1 List.mem_cons_self)
            exact List.length_pos_of_mem this
        refine q (.ref l4) (nN : Int) (kN : Int) hss _ (EX.trans ((y1.trans (y2.trans (y3.trans y4))).epn EX.pen)) ⟨l4, l3, zs, rfl, .inl (.inl upd_same), ?_, (y2.trans (y3.trans y4)).tups hz⟩
          ⟨by omega, by omega, by omega, by omega, by omega, hssl, by rw [← Paired.length hz]; omega, fun z hz2 => by rw [(memz z hz2).2], fun z hz2 => (memz z hz2).1.1, fun z hz2 => (memz z hz2).1.2, hss1⟩ ?_
        · exact y4.sqT (.inl (.inl upd_same))
        · have z1 := nd_le (lex_nd hss1) (D := ks.map (·.2)) fun z hz2 => by
            obtain ⟨q1, hq1, e1⟩ := List.mem_map.mp ((hss2 z).mp hz2)
            exact List.mem_map.mpr ⟨q1, hL1 q1 hq1, e1⟩
          simp only [List.length_map] at z1 lm
          omega
      refine ⟨.int way, rfl, rfl, _, rfl, ite2 (fun e1 => ⟨.int kN, rfl, .int nN, rfl, (kN : Int), (nN : Int), rfl, rfl, _, rfl, ite2 (fun e2 => ⟨.int kN, rfl, .int m, rfl, (kN : Int), m, rfl, rfl, _, rfl, ite2 (fun e3 => ?_) (fun e3 => ?_)⟩) (fun e2 => iteF ?_)⟩) (fun e1 => iteF ?_)⟩
      · have e2' : (kN : Int) < (nN : Int) := of_decide_eq_true e2
        refine ⟨.int kN, rfl, (kN : Int), 1, rfl, rfl, .int kN, rfl, kN + 1, kN, by simp, by omega, by omega, F.ext.tb, fun fb zs HZ xZ nfb hfb hzp => ?_⟩
        have hzl := Paired.length hzp
        have h32 : (allF (kN + 1) kN).length ≤ 2 ^ 5 := Nat.le_trans (allF_len _ _) (Nat.pow_le_pow_right (by omega) (by omega))
        have hpos := allF_ne (n := kN + 1) (k := kN) (by omega)
        exact ⟨.int nN, rfl, .int kN, rfl, .ref fb, rfl, fin HZ fb zs _ (F.ext.trans (xZ.epn F.ext.pen)) hfb hzp (fun g hg => let z := mem_allF.mp hg; ⟨z.1.mono (by omega), z.2⟩) (by omega) (by omega) (by have := of_decide_eq_true e3; have h5 := all_but (k := kN) hkle.2; omega)⟩
      all_goals exact ⟨.int nN, rfl, .int kN, rfl, .ref fa, rfl, fin HX fa ys gss F.ext F.hf F.pf F.ok (by omega) (by omega) (by omega)⟩
end
end Lf

set_option maxHeartbeats 8000000
namespace Lf
open PySem PySem.Spec PyProof.Rows L2 GxR GxA SrT EnT
open SX
abbrev sLaw : Stmt := topS 53
theorem scLaw : FnScope ["_law_script", "_law_every", "_law_thing", "_law_some", "_law_text_here", "_law_cell_here", "_law_pen_here", "_law_stack_here", "_law_bad", "_law_one", "_law_turn"] ["_law_script"] (defScope sLaw) := ⟨rfl, rfl, rfl, by decide +kernel, rfl, by decide +kernel, by decide +kernel⟩
abbrev qualL : Str := (envOfC "law" (defScope sLaw) 0 0 (.ref 0)).qual ++ "<lambda>"
theorem eqv_stk83 (n kk : Int) (F : List (List Int)) : PyData.eqv (stkD n kk F) (stkD n kk F) = true := by
  have z := eqv_tups F F
  rw [decide_eq_true rfl] at z
  simp [stkD, PyData.eqv, PyData.eqvAll, z]
theorem shp_stk {n kk : Int} {F : List (List Int)} (S : StkOk n kk F) : SeqAt.shaped (stkD n kk F) = true := by
  have l70 := S.l70
  obtain ⟨a, _, b⟩ := stkD_ok (n := n) (k := kk) (fss := F) (by omega) S.len4
  unfold SeqAt.shaped
  rw [a, Bool.true_and]
  exact decide_eq_true (by omega)
theorem okt_txt {n kk : Int} {F : List (List Int)} (So : StkOk n kk F) : OkT (txtL n kk F) n kk F := by
  have h1 := So.n1
  have h8 := So.n8
  have k0 := So.k0
  have k4 := So.k4
  refine ⟨So, ?_, rfl⟩
  have fn := fig_dig (p := n) (by omega) (by omega)
  have fk := fig_dig (p := kk) (by omega) (by omega)
  unfold freeD
  rw [wds_txt So.sd]
  show PyData.tuple [.int (figC (48 + n.toNat)), .int (figC (48 + kk.toNat)), .tuple ((F.map wrtL).map fun w => tD (pinL w))] = _
  rw [fn.1, fk.1, List.map_map]
  unfold stkD
  congr 4
  refine congrArg PyData.tuple ?_
  exact List.map_congr_left fun f hf => congrArg tD (fi_wrt h8 (So.bel f hf)).2.1
theorem wrt_len2 {f : List Int} {kk : Nat} (h : f.length ≤ kk) : (wrtL f).length ≤ max 1 kk := by
  unfold wrtL
  by_cases e : f = []
  · rw [if_pos e]
    exact Nat.le_max_left _ _
  · rw [if_neg e, List.length_map]
    exact Nat.le_trans h (Nat.le_max_right _ _)
theorem asc_txt {n kk : Int} {F : List (List Int)} (So : StkOk n kk F) : asc (txtL n kk F) = true := by
  have h1 := So.n1
  have h8 := So.n8
  have k0 := So.k0
  have k4 := So.k4
  refine List.all_eq_true.mpr fun c hc => ?_
  rw [decide_eq_true_eq]
  rcases join_mem hc with rfl | ⟨w, hw, hcw⟩
  · decide
  · unfold txtW at hw
    rcases List.mem_cons.mp hw with rfl | hw
    · rw [List.mem_singleton.mp hcw]
      omega
    rcases List.mem_cons.mp hw with rfl | hw
    · simp at hcw
      omega
    obtain ⟨f, hf, rfl⟩ := List.mem_map.mp hw
    unfold wrtL at hcw
    by_cases e : f = []
    · rw [if_pos e] at hcw
      rw [List.mem_singleton.mp hcw]
      decide
    · rw [if_neg e] at hcw
      obtain ⟨i, hi, rfl⟩ := List.mem_map.mp hcw
      have := So.bel f hf i hi
      omega
theorem txt_len {n kk : Int} {F : List (List Int)} (So : StkOk n kk F) : (txtL n kk F).length ≤ 5 * F.length + 5 := by
  have j := joinL_len [32] (txtW n kk F)
  rw [show ([32] : List Nat).length = 1 from rfl, Nat.mul_one] at j
  have s : ∀ G : List (List Int), (∀ f ∈ G, f.length ≤ 4) → ((G.map wrtL).map (·.length)).sum ≤ 4 * G.length := by
    intro G
    induction G with
    | nil => exact fun _ => Nat.zero_le _
    | cons f G ih =>
      intro h
      have h1 := ih fun g hg => h g (List.mem_cons_of_mem _ hg)
      have h2 := wrt_len2 (h f List.mem_cons_self)
      simp only [List.map_cons, List.sum_cons, List.length_cons] at h1 ⊢
      have : max 1 4 = 4 := rfl
      omega
  have h := s F So.len4
  unfold txtL
  unfold txtW at j ⊢
  simp only [List.map_cons, List.sum_cons, List.length_cons, List.length_nil, List.length_map] at j h ⊢
  omega
def litA : List Str := ["1 0: -", "1 0:", "1 1: 0", "4 2: 01 13", "4 2: 13 01", "", " ", "9 2: 01"]
def litB : List Str := ["4 2 : 01", "04 2: 01", "4 2: 01\n", "4 2: 0 1"]
theorem lit_ok : ∀ z ∈ litA ++ litB, TxOk z.cps.toList := by
  have h : ((litA ++ litB).all fun z => decide (z.cps.toList.length ≤ 400) && asc z.cps.toList) = true := by decide +kernel
  intro z hz
  have := List.all_eq_true.mp h z hz
  rw [Bool.and_eq_true, decide_eq_true_eq] at this
  exact this
theorem len84 : (allF 8 4).length = 70 := by
  have h : ((allK 8 4).filter fun g => decide (g.length = 4)).length = 70 := by decide +kernel
  unfold allF
  rw [(sortL_perm _).length_eq]
  exact h
theorem ne_no9 {x y : V} (e : x = y) : V.bl (!decide (x = y)) = V.bl false := by
  rw [decide_eq_true e]
  rfl
section
variable {P : Program} {w : World} {K : PySem.W.Frag} {mg : Str → Option Value} {base : Heap} {Ps : Tbs} {H H' H0 : Hp} {k : Nat} {f c : Addr} {fd : FuncData} {C : Nat → Addr} {CY CS CT PL : Addr}
theorem ok_law {fC cC fP cP fA cA fL cL fN cN fS cS fX cX fO cO fQ cQ fH cH fT cT fR cR : Addr} {fdC fdP fdA fdL fdN fdS fdX fdO fdQ fdH fdT fdR : FuncData} {fd1 cd1 : Addr} {fdK1 : FuncData} (D : Def K mg "law" sLaw ["_law_script"] f fd c) (DC : Def K mg "_law_cell" sCell ["_law_script", "_law_k"] fC fdC cC) (GC : FnOk P w K mg base CX0 (k + 2) fC fdC ["_law_script", "_law_k"] (spCell K)) (DP : Def K mg "_law_pen" sPen ["_law_cell_here"] fP fdP cP) (GP : FnOk P w K mg base CX0 (k + 2) fP fdP ["_law_cell_here"] (spPen Ps)) (DA : Def K mg "_law_all" sAll ["_law_n", "_law_k"] fA fdA cA) (GA : FnOk P w K mg base CX0 (k + 2) fA fdA ["_law_n", "_law_k"] (spAll K Ps)) (DL : Def K mg "_law_stack" sStack ["_law_pen_here", "_law_most"] fL fdL cL) (GL : FnOk P w K mg base CX0 (k + 2) fL fdL ["_law_pen_here", "_law_most"] (spStackM K Ps)) (DN : Def K mg "_law_no_stack" sNoStack ["_law_pen_here", "_law_stack_here"] fN fdN cN) (GN : FnOk P w K mg base CX0 (k + 2) fN fdN ["_law_pen_here", "_law_stack_here"] (spNoStack K Ps)) (DS : Def K mg "_law_same" sSame ["_law_found", "_law_due"] fS fdS cS) (GS : FnOk P w K mg base CX0 (k + 2) fS fdS ["_law_found", "_law_due"] (spSame K Ps 5)) (DX : Def K mg "_law_text" sLText ["_law_stack_here"] fX fdX cX) (GX : FnOk P w K mg base CX0 (k + 2) fX fdX ["_law_stack_here"] (spLText K Ps)) (DO : Def K mg "_law_otherwise" sOther ["_law_pen_here", "_law_text_here"] fO fdO cO) (GO : FnOk P w K mg base CX0 (k + 2) fO fdO ["_law_pen_here", "_law_text_here"] (spOther K Ps)) (DQ : Def K mg "_law_read_right" sReadR ["_law_text_here"] fQ fdQ cQ) (GQ : FnOk P w K mg base CX0 (k + 2) fQ fdQ ["_law_text_here"] (spReadR K Ps)) (DH : Def K mg "shown" sShown ["stack"] fH fdH cH) (GH : FnOk P w K mg base (L2.CX P w) (k) fH fdH ["stack"] (spShown K Ps CS)) (DT : Def K mg "read" sRead ["text"] fT fdT cT) (GT : FnOk P w K mg base (L2.CX P w) (k) fT fdT ["text"] (spRead K Ps CT)) (DR : Def K mg "_law_refused" sRefused ["_law_call"] fR fdR cR) (DKd : Def K mg "_law_kinds" sKinds ["_law_e"] fd1 fdK1 cd1) (G : Kinds mg C) (gL : mg "LayError" = some (.ref CY)) (KT : Kind K C CY 9 CT) (KS : Kind K C CY 0 CS) (TL : LamX.TabB base mg c PL) (hmT : (PL, qualL) ∈ Ps.lam) (mi : mg "isinstance" = none) (mv : mg "ValueError" = none) (mt : mg "tuple" = none) (mr : mg "range" = none) : FnOk P w K mg base CX0 (k + 2 + 1) f fd ["_law_script"] (spLaw K Ps) := by
  refine D.ok (k := k + 2) scLaw (fun vs H Q E h => ?_) (fun A outer s H vs Q E hr h => ?_)
  · obtain ⟨a, ns0, rfl, _⟩ := h
    rfl
  · obtain ⟨a, ns0, rfl, hA, hl, ht, q⟩ := h
    refine ⟨_, (pss_cons (ps_set (i := 1) scLaw.nd rfl (.inl rfl) (pe_tup (pa_cons pe_int (pa_cons pe_int (pa_cons (pe_callTy call_tuple_of (by rfl) mt (by decide +kernel) (pa_cons (pcl DA GA hr (pa_cons pe_int (pa_cons pe_int pa_nil))) pa_nil)) pa_nil))))) (pss_cons (ps_if (PW.pt (pw_or (pt_cmpR op_ne (pclN DH (GH.mono (Nat.le_add_right k 2)) hr (pa_cons (pv 1) pa_nil)) (pcl DX GX hr (pa_cons (pv 1) pa_nil)) (nomark _)) (pw_or1 (pt_cmpR (show OpR _ _ (rNeD K) from op_neD hr.units) (pclN DT (GT.mono (Nat.le_add_right k 2)) hr (pa_cons (pclN DH (GH.mono (Nat.le_add_right k 2)) hr (pa_cons (pv 1) pa_nil)) pa_nil)) (pv 1) (nomark _))))) (pss_one (ps_ret pe_bl)) pss_nil) (pss_cons (ps_for PassesOwn.never rfl (pi_list (pe_lst (pa_cons pe_non (pa_cons pe_int (pa_cons pe_bl (pa_cons (pe_lst (pa_cons pe_str pa_nil)) (pa_cons (pe_tup (pa_cons pe_str pa_nil)) (pa_cons pe_dnewK (pa_cons (pe_tup (pa_cons pe_int (pa_cons pe_int (pa_cons (pe_tup (pa_cons (pe_tup (pa_cons pe_int (pa_cons pe_int pa_nil))) pa_nil)) pa_nil)))) pa_nil))))))))) (pg_name (i := 2) scLaw.nd rfl (.inr rfl)) (pss_one (ps_if (pt_cmpR op_ne (pe_lamX (k := k) DR scRefused (refused_gives (Ps := Ps) (k := k) DKd G gL mi mv hr) TL hmT hr (show LamX.LamS (defScope sLaw) _ from LamX.lamS_by (by decide +kernel)) (fun A outer s H E f d hr2 tk => pclX DT GT hr2 tk (pa_cons (pv 2) pa_nil))) pe_str (nomark _)) (pss_one ps_never) pss_nil))) (pss_cons (ps_set (i := 3) scLaw.nd rfl (.inl rfl) (pe_lst (pa_cons pe_str (pa_cons pe_str (pa_cons pe_str (pa_cons pe_str (pa_cons pe_str (pa_cons pe_str (pa_cons pe_str (pa_cons pe_str pa_nil)))))))))) (pss_cons (ps_for PassesOwn.never rfl (pi_list (pe_op op_cat (pv 3) (pe_lst (pa_cons pe_str (pa_cons pe_str (pa_cons pe_str (pa_cons pe_str pa_nil))))))) (pg_name (i := 4) scLaw.nd rfl (.inr rfl)) (pss_one (ps_if (pt_not (pt_val (pcl DQ GQ hr (pa_cons (pv 4) pa_nil)))) (pss_one (ps_ret pe_bl)) pss_nil))) (pss_cons (ps_for PassesOwn.never rfl (pi_list (pe_op op_cat (pe_lst (pa_cons (pcl DC GC hr (pa_cons (pv 0) (pa_cons pe_int pa_nil))) pa_nil)) (pe_slice sl_list (pv 0) (po_some pe_int) (po_some pe_int)))) (pg_name (i := 5) scLaw.nd rfl (Or.inl rfl)) (pss_cons (ps_set (i := 6) scLaw.nd rfl (.inr rfl) (pcl DP GP hr (pa_cons (pv 5) pa_nil))) (pss_cons (ps_set (i := 7) scLaw.nd rfl (.inl rfl) (pcl DL GL hr (pa_cons (pv 6) (pa_cons pe_int pa_nil)))) (pss_cons (ps_set (i := 4) scLaw.nd rfl (.inr rfl) (pcl DX GX hr (pa_cons (pv 7) pa_nil))) (pss_cons (ps_if (pt_not (pt_val (pcl DS GS hr (pa_cons (pclN DH (GH.mono (Nat.le_add_right k 2)) hr (pa_cons (pv 7) pa_nil)) (pa_cons (pv 4) pa_nil))))) (pss_one (ps_ret pe_bl)) pss_nil) (pss_cons (ps_set (i := 8) scLaw.nd rfl (.inr rfl) (pcl DN GN hr (pa_cons (pv 6) (pa_cons (pv 7) pa_nil)))) (pss_cons (ps_if (pt_cmpR op_ne (pe_lamX (k := k) DR scRefused (refused_gives (Ps := Ps) (k := k) DKd G gL mi mv hr) TL hmT hr (show LamX.LamS (defScope sLaw) _ from LamX.lamS_by (by decide +kernel)) (fun A outer s H E f d hr2 tk => pclX DH GH hr2 tk (pa_cons (pv 8) pa_nil))) pe_str (nomark _)) (pss_one ps_never) pss_nil) (pss_one (ps_for PassesOwn.never rfl (pi_list (pe_op op_cat (pe_lst (pa_cons (pv 4) pa_nil)) (pe_lc (own := [("_law_turn", 10)]) (g := gName 10) (by rfl) scLaw.nd (pi_range1 (by rfl) mr (pa_cons pe_int pa_nil)) (blkOk_by (N := ["_law_script", "_law_every", "_law_thing", "_law_some", "_law_text_here", "_law_cell_here", "_law_pen_here", "_law_stack_here", "_law_bad", "_law_one", "_law_turn"]) (sc := defScope sLaw) (by decide +kernel)) (fun _ _ _ _ _ => pg_name (i := 10) scLaw.nd rfl (Or.inl rfl)) (fun _ _ _ _ _ => pts_nil) (fun _ _ _ _ _ => (pcl DO GO hr (pa_cons (pv 6) (pa_cons (pv 4) pa_nil))))))) (pg_name (i := 9) scLaw.nd rfl (Or.inl rfl)) (pss_one (ps_if (pt_not (pt_val (pcl DQ GQ hr (pa_cons (pv 9) pa_nil)))) (pss_one (ps_ret pe_bl)) pss_nil))))))))))) (pss_one (ps_ret pe_bl)))))))), ?_⟩
    have one : (1 : Nat) ≤ sizeLine := by decide
    have two : (2 : Nat) ≤ sizeLine := by decide
    have c3 : (3 : Nat) ≤ sizeLine := by decide
    have S8 : StkOk 8 4 (allF 8 4) := all_stk (n := 8) (k := 4) (by decide) (by decide) (by decide) (by decide) (by rw [len84]; decide)
    have l84 : (allF 8 4).length = 70 := len84
    -- the wide one
    refine tseq_intro fun R hR => ?_
    refine ⟨8, 4, rfl, by decide, by decide, ht, fun al as HA eA nal hal hap => ⟨al, as, rfl, .inl ⟨.inl (.inl hal), fun tp ntp => ⟨c3, fun wd nwd => ?_⟩⟩⟩⟩
    have e1 := Ext.new (o := .tup as) eA.tb ntp
    have e2 := Ext.new (o := .tup [.int 8, .int 4, .ref tp]) e1.tb nwd
    have E2 := eA.trans (e1.trans e2)
    have htp2 : SqT K (upd (upd HA tp (.tup as)) wd (.tup [.int 8, .int 4, .ref tp])) tp as := e2.sqT (.inl (.inl upd_same))
    have hwd2 : SqT K (upd (upd HA tp (.tup as)) wd (.tup [.int 8, .int 4, .ref tp])) wd [.int 8, .int 4, .ref tp] := .inl (.inl upd_same)
    have hap2 := (e1.trans e2).tups hap
    generalize upd (upd HA tp (.tup as)) wd (.tup [.int 8, .int 4, .ref tp]) = H2 at *
    have hW : Stk K H2 (.ref wd) 8 4 (allF 8 4) := ⟨wd, tp, as, rfl, hwd2, htp2, hap2⟩
    generalize allF 8 4 = FW at *
    show R [some (.ref a), some (.ref wd), none, none, none, none, none, none, none, none, none] H2
    rw [hR]
    clear hR
    have oW := okt_txt S8
    have lW := txt_len S8
    have aW := asc_txt S8
    refine tseq_intro fun R hR => ?_
    refine ⟨.ref wd, rfl, .ref wd, rfl, .inr ⟨8, 4, FW, hW, S8, e2.tb, fun H3 e3 => ?_⟩⟩
    refine ⟨.ref wd, rfl, .ref wd, 8, 4, FW, rfl, e3.stk hW, S8, e3.tb, fun H4 e4 => ⟨rfl, false, ?_, iteF ?_⟩⟩
    · exact ne_no9 rfl
    have E34 := e3.trans e4
    refine ⟨.ref wd, rfl, .ref wd, rfl, .inr ⟨8, 4, FW, E34.stk hW, S8, e4.tb, fun H5 e5 => ?_⟩⟩
    refine ⟨.str (S (txtL 8 4 FW)), rfl, .inr ⟨txtL 8 4 FW, rfl, by omega, e5.tb, fun n2 k2_ F2 ok2 v2 H6 e6 hS2 => ?_, fun hno => absurd ⟨8, 4, FW, oW⟩ hno⟩⟩
    obtain ⟨rfl, rfl, rfl⟩ := stackT_inj (show stackT n2 k2_ F2 = stackT 8 4 FW from ok2.2.1.symm.trans oW.2.1)
    have E6 := E34.trans (e5.trans e6)
    refine ⟨.ref wd, rfl, _, _, dp_stk hS2, dp_stk (E6.stk hW), shp_stk S8, shp_stk S8, false, ?_, iteF ?_⟩
    · rw [eqv_stk83]
      rfl
    show R [some (.ref a), some (.ref wd), none, none, none, none, none, none, none, none, none] H6
    rw [hR]
    clear hR hW hap2 htp2 hwd2
    have T6 := E2.trans E6
    -- things of other kinds
    refine tseq_intro fun R hR => ?_
    refine ⟨one, fun p1 np1 => ?_⟩
    have t1 := Ext.new (o := .lst [.str "1 0: -"]) T6.tb np1
    have h1 : Th K (upd H6 p1 (.lst [.str "1 0: -"])) (.ref p1) (.list [.str "1 0: -"]) := .lst trivial (.inl (.inl upd_same)) (.cons (.str _) .nil)
    generalize upd H6 p1 (.lst [.str "1 0: -"]) = J1 at *
    refine ⟨one, fun p2 np2 => ?_⟩
    have t2 := Ext.new (o := .tup [.str "4 2: 01"]) t1.tb np2
    have h2 : Th K (upd J1 p2 (.tup [.str "4 2: 01"])) (.ref p2) (.tuple [.str "4 2: 01"]) := .tup (.inl (.inl upd_same)) (.cons (.str _) .nil)
    replace h1 := t2.th h1
    generalize upd J1 p2 (.tup [.str "4 2: 01"]) = J2 at *
    refine fun p3 np3 => ?_
    have t3 := Ext.new (o := .dK []) t2.tb np3
    have h3 : Th K (upd J2 p3 (.dK [])) (.ref p3) (.dict []) := .dic trivial upd_same
    replace h1 := t3.th h1
    replace h2 := t3.th h2
    generalize upd J2 p3 (.dK []) = J3 at *
    refine ⟨two, fun p4 np4 => ?_⟩
    have t4 := Ext.new (o := .tup [.int 0, .int 1]) t3.tb np4
    have h4 : Th K (upd J3 p4 (.tup [.int 0, .int 1])) (.ref p4) (.tuple [.int 0, .int 1]) := .tup (.inl (.inl upd_same)) (.cons (.int _) (.cons (.int _) .nil))
    generalize upd J3 p4 (.tup [.int 0, .int 1]) = J4 at *
    refine ⟨one, fun p5 np5 => ?_⟩
    have t5 := Ext.new (o := .tup [.ref p4]) t4.tb np5
    have h5 : Th K (upd J4 p5 (.tup [.ref p4])) (.ref p5) (.tuple [.tuple [.int 0, .int 1]]) := .tup (.inl (.inl upd_same)) (.cons (t5.th h4) .nil)
    generalize upd J4 p5 (.tup [.ref p4]) = J5 at *
    refine ⟨c3, fun p6 np6 => ?_⟩
    have t6 := Ext.new (o := .tup [.int 4, .int 2, .ref p5]) t5.tb np6
    have h6 : Th K (upd J5 p6 (.tup [.int 4, .int 2, .ref p5])) (.ref p6) (.tuple [.int 4, .int 2, .tuple [.tuple [.int 0, .int 1]]]) := .tup (.inl (.inl upd_same)) (.cons (.int _) (.cons (.int _) (.cons (t6.th h5) .nil)))
    generalize upd J5 p6 (.tup [.int 4, .int 2, .ref p5]) = J6 at *
    have t46 := t4.trans (t5.trans t6)
    replace h1 := t46.th h1
    replace h2 := t46.th h2
    replace h3 := t46.th h3
    refine ⟨(by decide : (7 : Nat) ≤ sizeLine), fun LT nLT => ?_⟩
    have t7 := Ext.new (o := .lst [.non, .int 7, .bl true, .ref p1, .ref p2, .ref p3, .ref p6]) t6.tb nLT
    have hLT : upd J6 LT (.lst [.non, .int 7, .bl true, .ref p1, .ref p2, .ref p3, .ref p6]) LT = some (.lst [.non, .int 7, .bl true, .ref p1, .ref p2, .ref p3, .ref p6]) := upd_same
    have T7 := T6.trans (t1.trans (t2.trans (t3.trans (t46.trans t7))))
    replace h1 := t7.th h1
    replace h2 := t7.th h2
    replace h3 := t7.th h3
    replace h6 := t7.th h6
    generalize upd J6 LT (.lst [.non, .int 7, .bl true, .ref p1, .ref p2, .ref p3, .ref p6]) = J7 at *
    have hThg : ∀ (j : Nat) (v : V), ([.non, .int 7, .bl true, .ref p1, .ref p2, .ref p3, .ref p6] : List V)[j]? = some v → ∃ d, Th K J7 v d ∧ tyN d ≠ "str" := fun j v hv => by
      match j, hv with
      | 0, hv => cases hv; exact ⟨_, .non, by decide⟩
      | 1, hv => cases hv; exact ⟨_, .int _, by decide⟩
      | 2, hv => cases hv; exact ⟨_, .bl _, by decide⟩
      | 3, hv => cases hv; exact ⟨_, h1, by decide⟩
      | 4, hv => cases hv; exact ⟨_, h2, by decide⟩
      | 5, hv => cases hv; exact ⟨_, h3, by decide⟩
      | 6, hv => cases hv; exact ⟨_, h6, by decide⟩
    refine ⟨LT, rfl, ⟨_, .inl (.inl hLT)⟩, for_list (K := K) (a := LT) (xs := [.non, .int 7, .bl true, .ref p1, .ref p2, .ref p3, .ref p6]) (fun j σ HX => Ext Ps J7 HX ∧ ∃ y2 : Option V, σ = [some (.ref a), some (.ref wd), y2, none, none, none, none, none, none, none, none]) ⟨Ext.refl t7.tb, _, rfl⟩ (fun j σ HX _ p => p.1.sqL (.inl (.inl hLT))) (fun j v σ HX hv p => ?_) (fun σ HX p => ?_)⟩
    · obtain ⟨eX, y2, rfl⟩ := p
      obtain ⟨d, hd, hne⟩ := hThg j v hv
      exact ⟨eX.tb, fun HS eS => ⟨v, rfl, v, rfl, .inl ⟨d, (eX.trans eS).th hd, hne, eS.tb, fun HU eU => ⟨rfl, 9, CT, rfl, KT, eU.tb, fun HV eV => ⟨rfl, false, ne_no9 rfl, iteF ⟨eX.trans (eS.trans (eU.trans eV)), _, rfl⟩⟩⟩⟩⟩⟩
    obtain ⟨eX, y2, rfl⟩ := p
    show R [some (.ref a), some (.ref wd), y2, none, none, none, none, none, none, none, none] HX
    rw [hR]
    clear hR h1 h2 h3 h4 h5 h6
    have T8 := T7.trans eX
    -- the written texts
    refine tseq_intro fun R hR => ?_
    refine ⟨(by decide : (8 : Nat) ≤ sizeLine), fun LA nLA => ?_⟩
    have u1 := Ext.new (o := .lst [.str "1 0: -", .str "1 0:", .str "1 1: 0", .str "4 2: 01 13", .str "4 2: 13 01", .str "", .str " ", .str "9 2: 01"]) eX.tb nLA
    have hLA : upd HX LA (.lst [.str "1 0: -", .str "1 0:", .str "1 1: 0", .str "4 2: 01 13", .str "4 2: 13 01", .str "", .str " ", .str "9 2: 01"]) LA = some (.lst (litA.map V.str)) := upd_same
    show R [some (.ref a), some (.ref wd), y2, some (.ref LA), none, none, none, none, none, none, none] (upd HX LA (.lst [.str "1 0: -", .str "1 0:", .str "1 1: 0", .str "4 2: 01 13", .str "4 2: 13 01", .str "", .str " ", .str "9 2: 01"]))
    rw [hR]
    clear hR
    generalize upd HX LA (.lst [.str "1 0: -", .str "1 0:", .str "1 1: 0", .str "4 2: 01 13", .str "4 2: 13 01", .str "", .str " ", .str "9 2: 01"]) = J8 at *
    have T9 := T8.trans u1
    refine tseq_intro fun R hR => ?_
    refine ⟨.ref LA, rfl, (by decide : (4 : Nat) ≤ sizeLine), fun LB nLB => ?_⟩
    have u2 := Ext.new (o := .lst [.str "4 2 : 01", .str "04 2: 01", .str "4 2: 01\n", .str "4 2: 0 1"]) u1.tb nLB
    have hLB : upd J8 LB (.lst [.str "4 2 : 01", .str "04 2: 01", .str "4 2: 01\n", .str "4 2: 0 1"]) LB = some (.lst (litB.map V.str)) := upd_same
    have hLA2 := u2.lst hLA
    generalize upd J8 LB (.lst [.str "4 2 : 01", .str "04 2: 01", .str "4 2: 01\n", .str "4 2: 0 1"]) = J9 at *
    refine ⟨LA, LB, _, _, rfl, rfl, hLA2, hLB, (by show 12 ≤ sizeLine; decide), fun LC nLC => ?_⟩
    have u3 := Ext.new (o := .lst (litA.map V.str ++ litB.map V.str)) u2.tb nLC
    have hLC : upd J9 LC (.lst (litA.map V.str ++ litB.map V.str)) LC = some (.lst ((litA ++ litB).map V.str)) := by
      rw [upd_same, List.map_append]
    generalize upd J9 LC (.lst (litA.map V.str ++ litB.map V.str)) = J10 at *
    have T10 := T9.trans (u2.trans u3)
    refine ⟨LC, rfl, ⟨_, .inl (.inl hLC)⟩, for_list (K := K) (a := LC) (xs := (litA ++ litB).map V.str) (fun j σ HX => Ext Ps J10 HX ∧ ∃ y4 : Option V, σ = [some (.ref a), some (.ref wd), y2, some (.ref LA), y4, none, none, none, none, none, none]) ⟨Ext.refl u3.tb, _, rfl⟩ (fun j σ HX _ p => p.1.sqL (.inl (.inl hLC))) (fun j v σ HX hv p => ?_) (fun σ HX p => ?_)⟩
    · obtain ⟨eX, y4, rfl⟩ := p
      obtain ⟨z, hz, rfl⟩ : ∃ z, z ∈ litA ++ litB ∧ v = .str z := by
        obtain ⟨z, hz, rfl⟩ := List.mem_map.mp (List.mem_of_getElem? hv)
        exact ⟨z, hz, rfl⟩
      have ez : V.str z = .str (S z.cps.toList) := by rw [S_tl]
      rw [ez]
      exact ⟨.str (S z.cps.toList), rfl, z.cps.toList, rfl, lit_ok z hz, eX.tb, fun HY eY => ⟨true, rfl, iteF ⟨eX.trans eY, _, rfl⟩⟩⟩
    obtain ⟨eX, y4, rfl⟩ := p
    show R [some (.ref a), some (.ref wd), y2, some (.ref LA), y4, none, none, none, none, none, none] HX
    rw [hR]
    clear hR
    have T11 := T10.trans eX
    replace hA := T11.sqL hA
    replace ht := eX.tb
    clear T11 T10 T9 T8 T7 T6 hLC hLA hLA2 hLB hLT hThg
    refine ⟨.ref a, rfl, a, ns0, rfl, hA, fun z => ⟨one, fun l1 hl1 => ?_⟩⟩
    have x1 : Ext Ps HX (upd HX l1 (.lst [.int z])) := Ext.new ht hl1
    refine ⟨.ref a, rfl, 1, rfl, 8, rfl, a, _, rfl, x1.sqL hA, fun l2 hl2 => ?_⟩
    obtain ⟨cs, hcs, ecs⟩ := cut_ints ns0 (some 1) (some 8)
    have hcl := hcs.length_le
    have e2 := Ext.new (o := .lst (cutV (ns0.map V.int) (some 1) (some 8))) x1.tb hl2
    have x2 := x1.trans e2
    refine ⟨l1, l2, _, _, rfl, rfl, e2.lst upd_same, upd_same, ?_, fun l3 hl3 => ?_⟩
    · rw [ecs, List.length_map]
      exact Nat.le_of_lt (small1000 (by show 1 + cs.length ≤ 1000; omega))
    rw [ecs]
    have eL : [V.int z] ++ cs.map V.int = (z :: cs).map V.int := rfl
    rw [eL]
    have x3 := x2.trans (Ext.new (o := .lst ((z :: cs).map V.int)) x2.tb hl3)
    rw [ecs] at x3
    refine ⟨l3, rfl, ⟨_, .inl (.inl upd_same)⟩, ?_⟩
    have hL3 : (upd (upd (upd HX l1 (.lst [.int z])) l2 (.lst (cs.map V.int))) l3 (.lst ((z :: cs).map V.int))) l3 = some (.lst ((z :: cs).map V.int)) := upd_same
    generalize upd (upd (upd HX l1 (.lst [.int z])) l2 (.lst (cs.map V.int))) l3 (.lst ((z :: cs).map V.int)) = HL at *
    refine for_list (K := K) (a := l3) (xs := (z :: cs).map V.int) (fun i σ H3 => Ext Ps HL H3 ∧ ∃ y1 y2 y3 y4 y5 y6 y7 y8 y9 y10 : Option V, σ = [some (.ref a), y1, y2, y3, y4, y5, y6, y7, y8, y9, y10]) ⟨Ext.refl x3.tb, _, _, _, _, _, _, _, _, _, _, rfl⟩ (fun i σ H3 _ p => p.1.sqL (.inl (.inl hL3))) (fun i x σ H3 hx p => ?_) (fun σ H3 p => q _)
    obtain ⟨e3, y1, y2, y3, y4, y5, y6, y7, y8, y9, y10, rfl⟩ := p
    obtain ⟨cell, _, rfl⟩ := map_int hx
    refine tseq_intro fun R hR => ?_
    refine ⟨.int cell, rfl, cell, rfl, e3.tb, fun pa H4 e4 npa hpa => ?_⟩
    show R [some (.ref a), y1, y2, y3, y4, some (.int cell), some (.ref pa), y7, y8, y9, y10] H4
    rw [hR]
    clear hR
    have hn3 : HL pa = none := e3.free npa
    have npn : ∀ {HX : Hp}, Pen HX pa → ∀ b, HX b = none → b ≠ pa := fun {HX} hp b hb z => by
      obtain ⟨u, v, e⟩ := hp
      rw [z, e] at hb
      cases hb
    -- a stack
    refine tseq_intro fun R hR => ?_
    refine ⟨.ref pa, rfl, pa, 14, rfl, hpa, by decide, by decide, e4.tb, fun sv n kk F H5 P5 hS So l14 => ?_⟩
    show R [some (.ref a), y1, y2, y3, y4, some (.int cell), some (.ref pa), some sv, y8, y9, y10] H5
    rw [hR]
    clear hR
    have oT := okt_txt So
    have lT := txt_len So
    have aT := asc_txt So
    have l14' : F.length ≤ 14 := by omega
    refine tseq_intro fun R hR => ?_
    refine ⟨sv, rfl, sv, n, kk, F, rfl, hS, So, P5.tb, fun H6 e6 => ?_⟩
    generalize hTT : txtL n kk F = t at *
    have tl : t.length ≤ 90 := by omega
    show R [some (.ref a), y1, y2, y3, some (.str (S t)), some (.int cell), some (.ref pa), some sv, y8, y9, y10] H6
    rw [hR]
    clear hR
    refine tseq_intro fun R hR => ?_
    refine ⟨sv, rfl, sv, rfl, .inr ⟨n, kk, F, e6.stk hS, So, e6.tb, fun H7 e7 => ?_⟩⟩
    rw [hTT]
    refine ⟨.str (S t), rfl, .str (S t), .str (S t), .str (S t), rfl, .str _, .str _, by simp [PyData.canLay0, strOk_asc aT], rfl, by simp [PyData.depth], by decide, e7.tb, fun H8 e8 => ⟨true, rfl, iteF ?_⟩⟩
    have e68 := e6.trans (e7.trans e8)
    have P8 := P5.trans (e68.epn P5.pen)
    have hS8 := e68.stk hS
    show R [some (.ref a), y1, y2, y3, some (.str (S t)), some (.int cell), some (.ref pa), some sv, y8, y9, y10] H8
    rw [hR]
    clear hR
    refine tseq_intro fun R hR => ?_
    refine ⟨.ref pa, rfl, sv, rfl, pa, sv, n, kk, F, rfl, P8.pen, hS8, So, P8.tb, fun bv bd H9 P9 hbv wbd hbd => ?_⟩
    have hbv' : Th K H9 bv bd := hbv.th
    show R [some (.ref a), y1, y2, y3, some (.str (S t)), some (.int cell), some (.ref pa), some sv, some bv, y9, y10] H9
    rw [hR]
    clear hR
    refine tseq_intro fun R hR => ?_
    refine ⟨P9.tb, fun HS eS => ⟨bv, rfl, bv, rfl, .inl ⟨bd, eS.th hbv', wbd, hbd, eS.tb, fun HU eU => ⟨rfl, 0, CS, rfl, KS, eU.tb, fun HV eV => ⟨rfl, false, ne_no9 rfl, iteF ?_⟩⟩⟩⟩⟩
    have e9V := eS.trans (eU.trans eV)
    have PV := P8.trans (P9.trans (e9V.epn P9.pen))
    show R [some (.ref a), y1, y2, y3, some (.str (S t)), some (.int cell), some (.ref pa), some sv, some bv, y9, y10] HV
    rw [hR]
    clear hR hbv hbv'
    -- the texts put otherwise
    refine ⟨.str (S t), rfl, one, fun k1 nk1 => ?_⟩
    have v1 := Ext.new (o := .lst [.str (S t)]) PV.tb nk1
    have hk1 : upd HV k1 (.lst [.str (S t)]) k1 = some (.lst [.str (S t)]) := upd_same
    have nk1p : k1 ≠ pa := npn PV.pen k1 nk1
    have PQ := PV.trans (v1.epn PV.pen)
    generalize upd HV k1 (.lst [.str (S t)]) = HQ at *
    refine ⟨8, rfl, by decide, by decide, fun D0 hD => lc_range (lo := 0) (n := (8 : Int).toNat) (fun j HY => Epn Ps pa HQ HY ∧ ∃ ws : List (List Nat), HY D0 = some (.lst ((ws.map S).map V.str)) ∧ ws.length = j ∧ ∀ w ∈ ws, TxOk w) ⟨(Ext.new PQ.tb hD).epn PQ.pen, [], upd_same, rfl, fun w hw => absurd hw (by simp)⟩ (fun j HY hj p => ?_) (fun HY p => ?_)⟩
    · obtain ⟨eY, ws, g1, g2, g3⟩ := p
      have nD : D0 ≠ pa := npn PQ.pen D0 hD
      refine ⟨rfl, yes_ (iteT ⟨.ref pa, rfl, .str (S t), rfl, pa, t, rfl, eY.pen, tl, aT, eY.tb, fun w HZ eZ ok => ?_⟩)⟩
      have g1Z := eZ.lst nD g1
      refine ⟨_, g1Z, ?_, (eY.trans eZ).write hD g1Z (fun q z => by cases z), ws ++ [w], ?_, by rw [List.length_append, g2]; rfl, fun u hu => ?_⟩
      · rw [List.length_map, List.length_map]
        exact small1000 (by omega)
      · rw [upd_same, List.map_append, List.map_append]
        rfl
      · rcases List.mem_append.mp hu with hu | hu
        · exact g3 u hu
        · rw [List.mem_singleton.mp hu]
          exact ok
    obtain ⟨eY, ws, g1, g2, g3⟩ := p
    have PY := PQ.trans eY
    have hk1Y := eY.lst nk1p hk1
    refine ⟨k1, D0, _, _, rfl, rfl, hk1Y, g1, ?_, fun l2 nl2 => ?_⟩
    · rw [List.length_map, List.length_map, g2]
      show 9 ≤ sizeLine
      decide
    have v2 := Ext.new (o := .lst ([.str (S t)] ++ (ws.map S).map V.str)) eY.tb nl2
    have hl2 : upd HY l2 (.lst ([.str (S t)] ++ (ws.map S).map V.str)) l2 = some (.lst (((t :: ws).map S).map V.str)) := upd_same
    have okA : ∀ w ∈ t :: ws, TxOk w := fun w hw => by
      rcases List.mem_cons.mp hw with rfl | hw
      · exact ⟨by omega, aT⟩
      · exact g3 w hw
    generalize upd HY l2 (.lst ([.str (S t)] ++ (ws.map S).map V.str)) = HW at *
    refine ⟨l2, rfl, ⟨_, .inl (.inl hl2)⟩, for_list (K := K) (a := l2) (xs := ((t :: ws).map S).map V.str) (fun j σ HZ => Ext Ps HW HZ ∧ ∃ y9 : Option V, σ = [some (.ref a), y1, y2, y3, some (.str (S t)), some (.int cell), some (.ref pa), some sv, some bv, y9, y10]) ⟨Ext.refl v2.tb, _, rfl⟩ (fun j σ HZ _ p => p.1.sqL (.inl (.inl hl2))) (fun j v σ HZ hv p => ?_) (fun σ HZ p => ?_)⟩
    · obtain ⟨eZ, y9, rfl⟩ := p
      obtain ⟨w, hw, rfl⟩ := map_st hv
      exact ⟨.str (S w), rfl, w, rfl, okA w (List.mem_of_getElem? hw), eZ.tb, fun HN eN => ⟨true, rfl, iteF ⟨eZ.trans eN, _, rfl⟩⟩⟩
    obtain ⟨eZ, y9, rfl⟩ := p
    have vZ := v2.trans eZ
    exact ⟨Epn.ext (e3.trans e4) hn3 (PY.trans (vZ.epn PY.pen)), _, _, _, _, _, _, _, _, _, _, rfl⟩
end
end Lf

set_option maxHeartbeats 4000000
namespace Lf
open PySem PySem.Spec PyProof.Rows L2 GxR GxA SrT
/-- a def of the top, by what the written part says of it -/
theorem def_mk {K : PySem.W.Frag} {h : Heap} {mg : Str → Option Value} {x : Str} {st : Stmt} {ps : List Str} {f c : Addr} {oc : Value} {od an : Option Addr} {osl : Array (Option Value)} {kV doc pm ct : Value} (X : K.In h) (G : h.Ns mainGlobals mg) (a : PySem.W.nsIn K mainGlobals x = some (some (.ref f)))
    (l : K.lookup f = some ⟨oc, od, .func (PySem.W.fnOf x x (defArgs st) (defBody st) (defScope st) .none kV doc pm an (.ref c) ct), osl⟩) (cI : PySem.W.codeIn K (.ref c) x = true) (kI : PySem.W.keepIn K (.ref f) = true)
    (hb : ∀ (kV doc pm : Value) (an : Option Addr) (cdv ct : Value) (us : List Value), us.length = ps.length → bindArgs (PySem.W.fnOf x x (defArgs st) (defBody st) (defScope st) .none kV doc pm an cdv ct) ⟨us, []⟩ = pure (ps.zip us)) :
    Def K mg x st ps f (PySem.W.fnOf x x (defArgs st) (defBody st) (defScope st) .none kV doc pm an (.ref c) ct) c :=
  ⟨⟨⟨oc, od, kV, doc, pm, an, ct, osl, rfl, l, cI⟩, kI⟩, .all (hb kV doc pm an (.ref c) ct), PySem.W.mg_of X G a⟩
/-- the table of a def's code object is empty at the law's call -/
theorem tab_at {K : PySem.W.Frag} {h : Heap} {mg mb : Str → Option Value} {q : Program} {loose : List Str} {mean : ExcName → Option Value} {x : Str} {f c Pt : Addr} {oc e : Value} {od dd : Option Addr} {osl sl : Array (Option Value)} {fd : FuncData} {vs : Array Value} (T : PyProof.Rows.Top q loose mean mg mb h) (X : K.In h)
    (hr : ((PyProof.Rows.recsOf q).any fun e => e.name == x) = true) (hm : mg x = some (.ref f)) (l : K.lookup f = some ⟨oc, od, .func fd, osl⟩) (hc : fd.code = .ref c) (lc : K.lookup c = some ⟨e, dd, .fields vs, sl⟩) (hv : vs[11]? = some (.ref Pt)) :
    PySem.W.CodeHd h c Pt ∧ h.get? Pt = some { cls := .none, data := .fields #[] } := by
  obtain ⟨dL, hmem, hn1⟩ := List.any_eq_true.mp hr
  have hn2 : dL.name = x := beq_iff_eq.mp hn1
  obtain ⟨a', o', fd', c', P', h1, h2, h3, h4, h5, h6⟩ := T.tab dL hmem
  rw [hn2, hm] at h1
  cases h1
  have g1 := X _ _ l
  rw [g1] at h2
  cases h2
  cases h3
  rw [hc] at h4
  cases h4
  have hd := PySem.W.CodeHd.of h5 h6
  obtain ⟨⟨ob, vc, e1, _, e3, e4⟩, hP⟩ := h6
  have g2 := X _ _ lc
  rw [g2] at e1
  cases e1
  cases e3
  rw [hv] at e4
  cases e4
  exact ⟨hd, hP⟩
theorem tabB_of {base : Heap} {mg : Str → Option Value} {c Pt : Addr} (t : LamX.TabB base mg c Pt) : GxR.TabB base mg c Pt := ⟨t.code, t.bm, t.gP⟩
theorem tabG_nil {H : Hp} {Pt : Addr} (h : H Pt = some (.tbl #[])) : TabG H Pt := ⟨#[], h, trivial⟩

theorem walk_tabs {l : PySem.W.OpenLaw} {n k : Nat} {q : Program} {loose : List Str} {XP : (Str → Option Value) → Heap → Prop} {YP : World → Heap → Prop} {d : DefRec} {K : Params → PySem.W.Frag} {CX : World → CXT} {x : Str}
    (hn : l.most = some n) (hn2 : n ≤ sizeLine) (hdf : d.params.defaults = []) (hr : Room k callerA) (hY : ∀ (w : World) (h : Heap), YP w h → (K w.params).In h)
    (F : ∀ (w : World) (mg mb : Str → Option Value) (mean : ExcName → Option Value) (fa : Addr) (h : Heap), PyProof.Rows.Top q (PySem.W.looseW q loose) mean mg mb h → (K w.params).In h → mg d.name = some (.ref fa) → LamX.LawAtS l w (K w.params) (CX w) k n x mg fa h)
    (hCX : ∀ (w : World) (H : Hp) (s : Shared) (e : Value) (s' : Shared), CX w [] H s (fun _ _ _ => False) e s' → False) :
    PySem.W.WalkO q loose XP YP l.row.toRowW d [] (fun f vs => PySem.call f vs) := by
  refine Att.attach_callB hn hdf fun w s₀ s₁ mg mb fa o pm cd doc a vs ns G Y ho hd hcd hmg hobj hints hlen hbits hg => ?_
  have KX := hY w _ Y
  obtain ⟨fd, cs, sp, hT, nT, C, hb, hsp, hF⟩ := F w mg mb _ fa _ G.T KX hmg
  exact LamX.law_callTs KX G.T.g G.T.b G.T.builtins G.T.nolimit hg hT nT C G.T.bmain hobj hints (Nat.le_trans hlen hn2) hr hF hb (fun H hH hS => hsp H a ns hlen hbits hH hS) fun H e s' => hCX w H s₁ e s'
theorem tbs_apart {g : List Addr} {l : List (Addr × Str)} (h : (l.map (·.1) ++ g).Nodup) : ∀ p ∈ l, p.1 ∉ g := fun p hp hg =>
  (List.nodup_append.mp h).2.2 p.1 (List.mem_map.mpr ⟨p, hp, rfl⟩) p.1 hg rfl
theorem tbs_one : ∀ {l : List (Addr × Str)}, (l.map (·.1)).Nodup → ∀ p ∈ l, ∀ q ∈ l, p.1 = q.1 → p.2 = q.2
  | [], _, p, hp, _, _, _ => nomatch hp
  | a :: l, h, p, hp, q, hq, e => by
    rw [List.map_cons, List.nodup_cons] at h
    rcases List.mem_cons.mp hp with e1 | h1
    · rcases List.mem_cons.mp hq with e2 | h2
      · rw [e1, e2]
      · have z : a.1 ∈ l.map (·.1) := List.mem_map.mpr ⟨q, h2, by rw [← e, e1]⟩
        exact absurd z h.1
    · rcases List.mem_cons.mp hq with e2 | h2
      · have z : a.1 ∈ l.map (·.1) := List.mem_map.mpr ⟨p, h1, by rw [e, e2]⟩
        exact absurd z h.1
      · exact tbs_one h.2 p h1 q h2 e
/-- the tables, by their addresses -/
def mkTbs (g : List Addr) (l : List (Addr × Str)) (h : (l.map (·.1) ++ g).Nodup) : Tbs := ⟨g, l, tbs_apart h, tbs_one (List.nodup_append.mp h).1⟩
theorem mkTbs_tb {g : List Addr} {l : List (Addr × Str)} {h : (l.map (·.1) ++ g).Nodup} {H : Hp} (hg : ∀ P ∈ g, H P = some (.tbl #[])) (hl : ∀ p ∈ l, H p.1 = some (.tbl #[])) : Tb (mkTbs g l h) H :=
  ⟨fun P hP => tabG_nil (hg P hP), fun p hp => LamX.TabS.nil (hl p hp)⟩
end Lf

set_option maxHeartbeats 4000000
namespace Lf
open PySem PySem.Spec PyProof.Rows L2 GxR GxA SrT

theorem all_ok {P : Program} {w : World} {K : PySem.W.Frag} {mg : Str → Option Value} {base : Heap} {Ps : Tbs} {f1 c1 f2 c2 f3 c3 f4 c4 f5 c5 f6 c6 f7 c7 f8 c8 f9 c9 f10 c10 f11 c11 f12 c12 f13 c13 f14 c14 f15 c15 f16 c16 f17 c17 f18 c18 f19 c19 f20 c20 f21 c21 f22 c22 f23 c23 f24 c24 f25 c25 f26 c26 f27 c27 f28 c28 f29 c29 f30 c30 : Addr} {d1 d2 d3 d4 d5 d6 d7 d8 d9 d10 d11 d12 d13 d14 d15 d16 d17 d18 d19 d20 d21 d22 d23 d24 d25 d26 d27 d28 d29 d30 : FuncData} {P2 P3 P6 P29 P30 : Addr} {t_MOST_POINTS t_MOST_IN_FACE t_MOST_FACES t_FIGURES t_NO_POINTS : Tok} {k_NoStack k_NoNumber k_NoPart k_NoLot k_NoRow k_NoOrder k_NoNames k_NoRim k_NoTaking k_NoText k_NoLine k_NoDeed k_TooGreat k_Lay : Addr}
    (D1 : Def K mg "is_within" sWithin ["thing", "least", "most"] f1 d1 c1)
    (D2 : Def K mg "all_below" sBelow ["thing", "many"] f2 d2 c2)
    (D3 : Def K mg "rises" sRises ["things"] f3 d3 c3)
    (D4 : Def K mg "is_rising" sRising ["thing", "many"] f4 d4 c4)
    (D5 : Def K mg "is_stack" sIsStack ["thing"] f5 d5 c5)
    (D6 : Def K mg "are_faces" sAreFaces ["n", "k", "thing"] f6 d6 c6)
    (D7 : Def K mg "need_stack" sNeedStack ["stack"] f7 d7 c7)
    (D8 : Def K mg "written" sWritten ["points"] f8 d8 c8)
    (D9 : Def K mg "shown" sShown ["stack"] f9 d9 c9)
    (D10 : Def K mg "points_in" sPointsIn ["word"] f10 d10 c10)
    (D11 : Def K mg "read" sRead ["text"] f11 d11 c11)
    (D12 : Def K mg "_law_kinds" sKinds ["_law_e"] f12 d12 c12)
    (D13 : Def K mg "_law_refused" sRefused ["_law_call"] f13 d13 c13)
    (D14 : Def K mg "_law_same" sSame ["_law_found", "_law_due"] f14 d14 c14)
    (D15 : Def K mg "_law_whole" sWhole ["_law_found"] f15 d15 c15)
    (D16 : Def K mg "_law_cell" sCell ["_law_script", "_law_k"] f16 d16 c16)
    (D17 : Def K mg "_law_pen" sPen ["_law_cell_here"] f17 d17 c17)
    (D18 : Def K mg "_law_draw" sDraw ["_law_pen_here", "_law_many"] f18 d18 c18)
    (D19 : Def K mg "_law_all" sAll ["_law_n", "_law_k"] f19 d19 c19)
    (D20 : Def K mg "_law_stack" sStack ["_law_pen_here", "_law_most"] f20 d20 c20)
    (D21 : Def K mg "_law_rising" sRisingL ["_law_many", "_law_thing"] f21 d21 c21)
    (D22 : Def K mg "_law_is_stack" sIsStackL ["_law_thing"] f22 d22 c22)
    (D23 : Def K mg "_law_no_stack" sNoStack ["_law_pen_here", "_law_stack_here"] f23 d23 c23)
    (D24 : Def K mg "_law_face_in" sFaceIn ["_law_word"] f24 d24 c24)
    (D25 : Def K mg "_law_read" sLRead ["_law_text_here"] f25 d25 c25)
    (D26 : Def K mg "_law_face_text" sFaceText ["_law_face"] f26 d26 c26)
    (D27 : Def K mg "_law_text" sLText ["_law_stack_here"] f27 d27 c27)
    (D28 : Def K mg "_law_otherwise" sOther ["_law_pen_here", "_law_text_here"] f28 d28 c28)
    (D29 : Def K mg "_law_read_right" sReadR ["_law_text_here"] f29 d29 c29)
    (D30 : Def K mg "law" sLaw ["_law_script"] f30 d30 c30)
    (B2 : TabB base mg c2 P2) (M2 : P2 ∈ Ps)
    (B3 : TabB base mg c3 P3) (M3 : P3 ∈ Ps)
    (B6 : TabB base mg c6 P6) (M6 : P6 ∈ Ps)
    (TL29 : LamX.TabB base mg c29 P29) (ML29 : (P29, (envOfC "_law_read_right" (defScope sReadR) 0 0 (.ref 0)).qual ++ "<lambda>") ∈ Ps.lam)
    (TL30 : LamX.TabB base mg c30 P30) (ML30 : (P30, (envOfC "law" (defScope sLaw) 0 0 (.ref 0)).qual ++ "<lambda>") ∈ Ps.lam)
    (m_isinstance : mg "isinstance" = none)
    (m_int : mg "int" = none)
    (m_bool : mg "bool" = none)
    (m_tuple : mg "tuple" = none)
    (m_all : mg "all" = none)
    (m_range : mg "range" = none)
    (m_len : mg "len" = none)
    (m_sorted : mg "sorted" = none)
    (m_min : mg "min" = none)
    (m_set : mg "set" = none)
    (m_list : mg "list" = none)
    (m_str : mg "str" = none)
    (m_zip : mg "zip" = none)
    (m_ValueError : mg "ValueError" = none)
    (n_MOST_POINTS : mg "MOST_POINTS" = some (.int 8 t_MOST_POINTS))
    (n_MOST_IN_FACE : mg "MOST_IN_FACE" = some (.int 4 t_MOST_IN_FACE))
    (n_MOST_FACES : mg "MOST_FACES" = some (.int 70 t_MOST_FACES))
    (n_FIGURES : mg "FIGURES" = some (.str "0123456789" t_FIGURES))
    (n_NO_POINTS : mg "NO_POINTS" = some (.str "-" t_NO_POINTS))
    (G : Kinds mg (fun j => ([k_NoStack, k_NoNumber, k_NoPart, k_NoLot, k_NoRow, k_NoOrder, k_NoNames, k_NoRim, k_NoTaking, k_NoText, k_NoLine, k_NoDeed, k_TooGreat] : List Addr).getD j 0))
    (gL : mg "LayError" = some (.ref k_Lay))
    (R_NoStack : Ref K mg "NoStack" k_NoStack)
    (K_NoStack : Kind K (fun j => ([k_NoStack, k_NoNumber, k_NoPart, k_NoLot, k_NoRow, k_NoOrder, k_NoNames, k_NoRim, k_NoTaking, k_NoText, k_NoLine, k_NoDeed, k_TooGreat] : List Addr).getD j 0) k_Lay 0 k_NoStack)
    (R_NoText : Ref K mg "NoText" k_NoText)
    (K_NoText : Kind K (fun j => ([k_NoStack, k_NoNumber, k_NoPart, k_NoLot, k_NoRow, k_NoOrder, k_NoNames, k_NoRim, k_NoTaking, k_NoText, k_NoLine, k_NoDeed, k_TooGreat] : List Addr).getD j 0) k_Lay 9 k_NoText) :
    FnOk P w K mg base CX0 14 f30 d30 ["_law_script"] (spLaw K Ps) := by
  have within : FnOk P w K mg base CX0 1 f1 d1 ["thing", "least", "most"] spWithin := ok_within (k := 0) D1 m_isinstance m_int m_bool
  have below : FnOk P w K mg base CX0 3 f2 d2 ["thing", "many"] (spBelow K Ps) := ok_below (k := 0) D2 D1 B2 M2 m_isinstance m_int m_bool m_tuple m_all
  have rises : FnOk P w K mg base CX0 2 f3 d3 ["things"] (spRises K Ps) := ok_rises (k := 0) D3 B3 M3 m_all m_range m_len
  have rising : FnOk P w K mg base CX0 4 f4 d4 ["thing", "many"] (spRising K Ps) := ok_rising (k := 0) D4 D2 D3 below (rises.mono (by decide))
  have areFaces : FnOk P w K mg base CX0 6 f6 d6 ["n", "k", "thing"] (spAreFaces K Ps) := ok_areFaces (k := 4) D6 D4 rising D3 (rises.mono (by decide)) B6 M6 m_isinstance m_tuple m_len m_all n_MOST_FACES
  have isStack : FnOk P w K mg base CX0 7 f5 d5 ["thing"] (spIsStack K Ps) := ok_isStack D5 D1 (within.mono (by decide)) D6 areFaces m_isinstance m_tuple m_len m_min n_MOST_POINTS n_MOST_IN_FACE
  have needStack : FnOk P w K mg base CX0 8 f7 d7 ["stack"] (spNeedStack K Ps) := ok_needStack D7 D5 isStack
  have cell : FnOk P w K mg base CX0 1 f16 d16 ["_law_script", "_law_k"] (spCell K) := ok_cell (k := 0) D16 m_len
  have pen : FnOk P w K mg base CX0 1 f17 d17 ["_law_cell_here"] (spPen Ps) := ok_pen (k := 0) D17 m_int
  have draw : FnOk P w K mg base CX0 1 f18 d18 ["_law_pen_here", "_law_many"] spDraw := ok_draw (k := 0) D18
  have all_ : FnOk P w K mg base CX0 1 f19 d19 ["_law_n", "_law_k"] (spAll K Ps) := ok_all (k := 0) D19 m_range m_len m_sorted
  have withinX : FnOk P w K mg base CX0 1 f1 d1 ["thing", "least", "most"] (spWithinX K) := ok_withinX (k := 0) D1 m_isinstance m_int m_bool
  have belowX : FnOk P w K mg base CX0 3 f2 d2 ["thing", "many"] (spBelowX K Ps) := ok_belowX (k := 0) D2 D1 B2 M2 m_isinstance m_int m_bool m_tuple m_all
  have risesX : FnOk P w K mg base CX0 2 f3 d3 ["things"] (spRisesX K Ps) := ok_risesX (k := 0) D3 B3 M3 m_all m_range m_len
  have risingX : FnOk P w K mg base CX0 4 f4 d4 ["thing", "many"] (spRisingX K Ps) := ok_risingX (k := 0) D4 D2 D3 belowX (risesX.mono (by decide))
  have areFacesX : FnOk P w K mg base CX0 6 f6 d6 ["n", "k", "thing"] (spAreFacesX K Ps) := ok_areFacesX (k := 4) D6 D4 risingX D3 (risesX.mono (by decide)) B6 M6 m_isinstance m_tuple m_len m_all n_MOST_FACES
  have isStackX : FnOk P w K mg base CX0 7 f5 d5 ["thing"] (spIsStackX K Ps) := ok_isStackX D5 D1 (withinX.mono (by decide)) D6 areFacesX m_isinstance m_tuple m_len m_min n_MOST_POINTS n_MOST_IN_FACE
  have needStackX : FnOk P w K mg base (L2.CX P w) 8 f7 d7 ["stack"] (spNeedStackX K Ps k_NoStack) := ok_needStackX D7 D5 isStackX R_NoStack
  have needStack2 : FnOk P w K mg base (L2.CX P w) 8 f7 d7 ["stack"] (spNeedStack2 K Ps k_NoStack) := fn_or (fn_lift needStack) needStackX
  have stackM : FnOk P w K mg base CX0 2 f20 d20 ["_law_pen_here", "_law_most"] (spStackM K Ps) := ok_stackM D20 D18 draw D19 all_ m_range m_len m_tuple m_sorted m_set m_min
  have noStack : FnOk P w K mg base CX0 2 f23 d23 ["_law_pen_here", "_law_stack_here"] (spNoStack K Ps) := ok_noStack D23 D18 draw m_list m_len
  have whole : FnOk P w K mg base CX0 1 f15 d15 ["_law_found"] (spWhole K) := ok_whole (k := 0) D15 m_isinstance m_int m_bool
  have risingL : FnOk P w K mg base CX0 2 f21 d21 ["_law_many", "_law_thing"] (spRisingL K Ps) := ok_risingL D21 D15 whole m_isinstance m_tuple m_sorted m_list m_set
  have isStackL : FnOk P w K mg base CX0 3 f22 d22 ["_law_thing"] (spIsStackL K Ps) := ok_isStackL D22 D15 (whole.mono (by decide)) D21 risingL m_isinstance m_tuple m_len m_min m_list m_sorted m_set
  have same_ : FnOk P w K mg base CX0 5 f14 d14 ["_law_found", "_law_due"] (spSame K Ps 5) := ok_same D14 m_isinstance m_list m_tuple m_str m_bool m_int m_len m_all m_zip 5
  have written_ : FnOk P w K mg base CX0 1 f8 d8 ["points"] (spWritten K Ps) := ok_written (k := 0) D8 n_FIGURES n_NO_POINTS
  have pointsIn : FnOk P w K mg base CX0 1 f10 d10 ["word"] (spPointsIn K Ps) := ok_pointsIn (k := 0) D10 n_FIGURES n_NO_POINTS m_tuple
  have shown_ : FnOk P w K mg base (L2.CX P w) 9 f9 d9 ["stack"] (spShown K Ps k_NoStack) := ok_shown D9 D7 needStack2 D8 (fn_lift (written_.mono (by decide)))
  have read_ : FnOk P w K mg base (L2.CX P w) 10 f11 d11 ["text"] (spRead K Ps k_NoText) := ok_read D11 D5 (fn_lift (isStackX.mono (by decide))) D9 shown_ D10 (fn_lift (pointsIn.mono (by decide))) R_NoText n_FIGURES m_isinstance m_str m_tuple
  have faceIn : FnOk P w K mg base CX0 1 f24 d24 ["_law_word"] (spFaceIn K Ps) := ok_faceIn (k := 0) D24 m_tuple m_int
  have lread : FnOk P w K mg base CX0 5 f25 d25 ["_law_text_here"] (spLRead K Ps) := ok_lRead D25 D24 (faceIn.mono (by decide)) D22 (isStackL.mono (by decide)) m_tuple m_int m_len
  have faceText : FnOk P w K mg base CX0 1 f26 d26 ["_law_face"] (spWritten K Ps) := ok_faceText (k := 0) D26 m_str
  have lText : FnOk P w K mg base CX0 2 f27 d27 ["_law_stack_here"] (spLText K Ps) := ok_lText D27 D26 faceText m_str
  have other_ : FnOk P w K mg base CX0 2 f28 d28 ["_law_pen_here", "_law_text_here"] (spOther K Ps) := ok_other D28 D18 draw m_len
  have readR : FnOk P w K mg base CX0 13 f29 d29 ["_law_text_here"] (spReadR K Ps) := ok_readR (k := 10) D29 D25 (lread.mono (by decide)) D11 read_ D14 (same_.mono (by decide)) D13 D12 G gL K_NoText TL29 ML29 m_isinstance m_ValueError
  have lawG : FnOk P w K mg base CX0 14 f30 d30 ["_law_script"] (spLaw K Ps) := ok_law (k := 11) D30 D16 (cell.mono (by decide)) D17 (pen.mono (by decide)) D19 (all_.mono (by decide)) D20 (stackM.mono (by decide)) D23 (noStack.mono (by decide)) D14 (same_.mono (by decide)) D27 (lText.mono (by decide)) D28 (other_.mono (by decide)) D29 readR D9 (shown_.mono (by decide)) D11 (read_.mono (by decide)) D13 D12 G gL K_NoText K_NoStack TL30 ML30 m_isinstance m_ValueError m_tuple m_range
  exact lawG

theorem all_mk {l : PySem.W.OpenLaw} {w : World} {K : PySem.W.Frag} {h : Heap} {mg mb : Str → Option Value} {q : Program} {loose : List Str} {mean : ExcName → Option Value} {fa : Addr} (T : PyProof.Rows.Top q loose mean mg mb h) (X : K.In h) (hfa : mg "law" = some (.ref fa))
    {f1 c1 f2 c2 f3 c3 f4 c4 f5 c5 f6 c6 f7 c7 f8 c8 f9 c9 f10 c10 f11 c11 f12 c12 f13 c13 f14 c14 f15 c15 f16 c16 f17 c17 f18 c18 f19 c19 f20 c20 f21 c21 f22 c22 f23 c23 f24 c24 f25 c25 f26 c26 f27 c27 f28 c28 f29 c29 f30 c30 : Addr} {oc1 kV1 dc1 pm1 ct1 oc2 kV2 dc2 pm2 ct2 oc3 kV3 dc3 pm3 ct3 oc4 kV4 dc4 pm4 ct4 oc5 kV5 dc5 pm5 ct5 oc6 kV6 dc6 pm6 ct6 oc7 kV7 dc7 pm7 ct7 oc8 kV8 dc8 pm8 ct8 oc9 kV9 dc9 pm9 ct9 oc10 kV10 dc10 pm10 ct10 oc11 kV11 dc11 pm11 ct11 oc12 kV12 dc12 pm12 ct12 oc13 kV13 dc13 pm13 ct13 oc14 kV14 dc14 pm14 ct14 oc15 kV15 dc15 pm15 ct15 oc16 kV16 dc16 pm16 ct16 oc17 kV17 dc17 pm17 ct17 oc18 kV18 dc18 pm18 ct18 oc19 kV19 dc19 pm19 ct19 oc20 kV20 dc20 pm20 ct20 oc21 kV21 dc21 pm21 ct21 oc22 kV22 dc22 pm22 ct22 oc23 kV23 dc23 pm23 ct23 oc24 kV24 dc24 pm24 ct24 oc25 kV25 dc25 pm25 ct25 oc26 kV26 dc26 pm26 ct26 oc27 kV27 dc27 pm27 ct27 oc28 kV28 dc28 pm28 ct28 oc29 kV29 dc29 pm29 ct29 oc30 kV30 dc30 pm30 ct30 : Value} {od1 an1 od2 an2 od3 an3 od4 an4 od5 an5 od6 an6 od7 an7 od8 an8 od9 an9 od10 an10 od11 an11 od12 an12 od13 an13 od14 an14 od15 an15 od16 an16 od17 an17 od18 an18 od19 an19 od20 an20 od21 an21 od22 an22 od23 an23 od24 an24 od25 an25 od26 an26 od27 an27 od28 an28 od29 an29 od30 an30 : Option Addr} {sl1 sl2 sl3 sl4 sl5 sl6 sl7 sl8 sl9 sl10 sl11 sl12 sl13 sl14 sl15 sl16 sl17 sl18 sl19 sl20 sl21 sl22 sl23 sl24 sl25 sl26 sl27 sl28 sl29 sl30 : Array (Option Value)}
    {P2 P3 P6 P29 P30 : Addr} {te2 te3 te6 te29 te30 : Value} {td2 td3 td6 td29 td30 : Option Addr} {tv2 tv3 tv6 tv29 tv30 : Array Value} {ts2 ts3 ts6 ts29 ts30 : Array (Option Value)} {t_MOST_POINTS t_MOST_IN_FACE t_MOST_FACES t_FIGURES t_NO_POINTS : Tok} {k_NoStack k_NoNumber k_NoPart k_NoLot k_NoRow k_NoOrder k_NoNames k_NoRim k_NoTaking k_NoText k_NoLine k_NoDeed k_TooGreat k_Lay : Addr}
    (a1 : PySem.W.nsIn K mainGlobals "is_within" = some (some (.ref f1))) (l1 : K.lookup f1 = some ⟨oc1, od1, .func (PySem.W.fnOf "is_within" "is_within" (defArgs sWithin) (defBody sWithin) (defScope sWithin) .none kV1 dc1 pm1 an1 (.ref c1) ct1), sl1⟩) (i1 : PySem.W.codeIn K (.ref c1) "is_within" = true) (k1 : PySem.W.keepIn K (.ref f1) = true)
    (a2 : PySem.W.nsIn K mainGlobals "all_below" = some (some (.ref f2))) (l2 : K.lookup f2 = some ⟨oc2, od2, .func (PySem.W.fnOf "all_below" "all_below" (defArgs sBelow) (defBody sBelow) (defScope sBelow) .none kV2 dc2 pm2 an2 (.ref c2) ct2), sl2⟩) (i2 : PySem.W.codeIn K (.ref c2) "all_below" = true) (k2 : PySem.W.keepIn K (.ref f2) = true)
    (a3 : PySem.W.nsIn K mainGlobals "rises" = some (some (.ref f3))) (l3 : K.lookup f3 = some ⟨oc3, od3, .func (PySem.W.fnOf "rises" "rises" (defArgs sRises) (defBody sRises) (defScope sRises) .none kV3 dc3 pm3 an3 (.ref c3) ct3), sl3⟩) (i3 : PySem.W.codeIn K (.ref c3) "rises" = true) (k3 : PySem.W.keepIn K (.ref f3) = true)
    (a4 : PySem.W.nsIn K mainGlobals "is_rising" = some (some (.ref f4))) (l4 : K.lookup f4 = some ⟨oc4, od4, .func (PySem.W.fnOf "is_rising" "is_rising" (defArgs sRising) (defBody sRising) (defScope sRising) .none kV4 dc4 pm4 an4 (.ref c4) ct4), sl4⟩) (i4 : PySem.W.codeIn K (.ref c4) "is_rising" = true) (k4 : PySem.W.keepIn K (.ref f4) = true)
    (a5 : PySem.W.nsIn K mainGlobals "is_stack" = some (some (.ref f5))) (l5 : K.lookup f5 = some ⟨oc5, od5, .func (PySem.W.fnOf "is_stack" "is_stack" (defArgs sIsStack) (defBody sIsStack) (defScope sIsStack) .none kV5 dc5 pm5 an5 (.ref c5) ct5), sl5⟩) (i5 : PySem.W.codeIn K (.ref c5) "is_stack" = true) (k5 : PySem.W.keepIn K (.ref f5) = true)
    (a6 : PySem.W.nsIn K mainGlobals "are_faces" = some (some (.ref f6))) (l6 : K.lookup f6 = some ⟨oc6, od6, .func (PySem.W.fnOf "are_faces" "are_faces" (defArgs sAreFaces) (defBody sAreFaces) (defScope sAreFaces) .none kV6 dc6 pm6 an6 (.ref c6) ct6), sl6⟩) (i6 : PySem.W.codeIn K (.ref c6) "are_faces" = true) (k6 : PySem.W.keepIn K (.ref f6) = true)
    (a7 : PySem.W.nsIn K mainGlobals "need_stack" = some (some (.ref f7))) (l7 : K.lookup f7 = some ⟨oc7, od7, .func (PySem.W.fnOf "need_stack" "need_stack" (defArgs sNeedStack) (defBody sNeedStack) (defScope sNeedStack) .none kV7 dc7 pm7 an7 (.ref c7) ct7), sl7⟩) (i7 : PySem.W.codeIn K (.ref c7) "need_stack" = true) (k7 : PySem.W.keepIn K (.ref f7) = true)
    (a8 : PySem.W.nsIn K mainGlobals "written" = some (some (.ref f8))) (l8 : K.lookup f8 = some ⟨oc8, od8, .func (PySem.W.fnOf "written" "written" (defArgs sWritten) (defBody sWritten) (defScope sWritten) .none kV8 dc8 pm8 an8 (.ref c8) ct8), sl8⟩) (i8 : PySem.W.codeIn K (.ref c8) "written" = true) (k8 : PySem.W.keepIn K (.ref f8) = true)
    (a9 : PySem.W.nsIn K mainGlobals "shown" = some (some (.ref f9))) (l9 : K.lookup f9 = some ⟨oc9, od9, .func (PySem.W.fnOf "shown" "shown" (defArgs sShown) (defBody sShown) (defScope sShown) .none kV9 dc9 pm9 an9 (.ref c9) ct9), sl9⟩) (i9 : PySem.W.codeIn K (.ref c9) "shown" = true) (k9 : PySem.W.keepIn K (.ref f9) = true)
    (a10 : PySem.W.nsIn K mainGlobals "points_in" = some (some (.ref f10))) (l10 : K.lookup f10 = some ⟨oc10, od10, .func (PySem.W.fnOf "points_in" "points_in" (defArgs sPointsIn) (defBody sPointsIn) (defScope sPointsIn) .none kV10 dc10 pm10 an10 (.ref c10) ct10), sl10⟩) (i10 : PySem.W.codeIn K (.ref c10) "points_in" = true) (k10 : PySem.W.keepIn K (.ref f10) = true)
    (a11 : PySem.W.nsIn K mainGlobals "read" = some (some (.ref f11))) (l11 : K.lookup f11 = some ⟨oc11, od11, .func (PySem.W.fnOf "read" "read" (defArgs sRead) (defBody sRead) (defScope sRead) .none kV11 dc11 pm11 an11 (.ref c11) ct11), sl11⟩) (i11 : PySem.W.codeIn K (.ref c11) "read" = true) (k11 : PySem.W.keepIn K (.ref f11) = true)
    (a12 : PySem.W.nsIn K mainGlobals "_law_kinds" = some (some (.ref f12))) (l12 : K.lookup f12 = some ⟨oc12, od12, .func (PySem.W.fnOf "_law_kinds" "_law_kinds" (defArgs sKinds) (defBody sKinds) (defScope sKinds) .none kV12 dc12 pm12 an12 (.ref c12) ct12), sl12⟩) (i12 : PySem.W.codeIn K (.ref c12) "_law_kinds" = true) (k12 : PySem.W.keepIn K (.ref f12) = true)
    (a13 : PySem.W.nsIn K mainGlobals "_law_refused" = some (some (.ref f13))) (l13 : K.lookup f13 = some ⟨oc13, od13, .func (PySem.W.fnOf "_law_refused" "_law_refused" (defArgs sRefused) (defBody sRefused) (defScope sRefused) .none kV13 dc13 pm13 an13 (.ref c13) ct13), sl13⟩) (i13 : PySem.W.codeIn K (.ref c13) "_law_refused" = true) (k13 : PySem.W.keepIn K (.ref f13) = true)
    (a14 : PySem.W.nsIn K mainGlobals "_law_same" = some (some (.ref f14))) (l14 : K.lookup f14 = some ⟨oc14, od14, .func (PySem.W.fnOf "_law_same" "_law_same" (defArgs sSame) (defBody sSame) (defScope sSame) .none kV14 dc14 pm14 an14 (.ref c14) ct14), sl14⟩) (i14 : PySem.W.codeIn K (.ref c14) "_law_same" = true) (k14 : PySem.W.keepIn K (.ref f14) = true)
    (a15 : PySem.W.nsIn K mainGlobals "_law_whole" = some (some (.ref f15))) (l15 : K.lookup f15 = some ⟨oc15, od15, .func (PySem.W.fnOf "_law_whole" "_law_whole" (defArgs sWhole) (defBody sWhole) (defScope sWhole) .none kV15 dc15 pm15 an15 (.ref c15) ct15), sl15⟩) (i15 : PySem.W.codeIn K (.ref c15) "_law_whole" = true) (k15 : PySem.W.keepIn K (.ref f15) = true)
    (a16 : PySem.W.nsIn K mainGlobals "_law_cell" = some (some (.ref f16))) (l16 : K.lookup f16 = some ⟨oc16, od16, .func (PySem.W.fnOf "_law_cell" "_law_cell" (defArgs sCell) (defBody sCell) (defScope sCell) .none kV16 dc16 pm16 an16 (.ref c16) ct16), sl16⟩) (i16 : PySem.W.codeIn K (.ref c16) "_law_cell" = true) (k16 : PySem.W.keepIn K (.ref f16) = true)
    (a17 : PySem.W.nsIn K mainGlobals "_law_pen" = some (some (.ref f17))) (l17 : K.lookup f17 = some ⟨oc17, od17, .func (PySem.W.fnOf "_law_pen" "_law_pen" (defArgs sPen) (defBody sPen) (defScope sPen) .none kV17 dc17 pm17 an17 (.ref c17) ct17), sl17⟩) (i17 : PySem.W.codeIn K (.ref c17) "_law_pen" = true) (k17 : PySem.W.keepIn K (.ref f17) = true)
    (a18 : PySem.W.nsIn K mainGlobals "_law_draw" = some (some (.ref f18))) (l18 : K.lookup f18 = some ⟨oc18, od18, .func (PySem.W.fnOf "_law_draw" "_law_draw" (defArgs sDraw) (defBody sDraw) (defScope sDraw) .none kV18 dc18 pm18 an18 (.ref c18) ct18), sl18⟩) (i18 : PySem.W.codeIn K (.ref c18) "_law_draw" = true) (k18 : PySem.W.keepIn K (.ref f18) = true)
    (a19 : PySem.W.nsIn K mainGlobals "_law_all" = some (some (.ref f19))) (l19 : K.lookup f19 = some ⟨oc19, od19, .func (PySem.W.fnOf "_law_all" "_law_all" (defArgs sAll) (defBody sAll) (defScope sAll) .none kV19 dc19 pm19 an19 (.ref c19) ct19), sl19⟩) (i19 : PySem.W.codeIn K (.ref c19) "_law_all" = true) (k19 : PySem.W.keepIn K (.ref f19) = true)
    (a20 : PySem.W.nsIn K mainGlobals "_law_stack" = some (some (.ref f20))) (l20 : K.lookup f20 = some ⟨oc20, od20, .func (PySem.W.fnOf "_law_stack" "_law_stack" (defArgs sStack) (defBody sStack) (defScope sStack) .none kV20 dc20 pm20 an20 (.ref c20) ct20), sl20⟩) (i20 : PySem.W.codeIn K (.ref c20) "_law_stack" = true) (k20 : PySem.W.keepIn K (.ref f20) = true)
    (a21 : PySem.W.nsIn K mainGlobals "_law_rising" = some (some (.ref f21))) (l21 : K.lookup f21 = some ⟨oc21, od21, .func (PySem.W.fnOf "_law_rising" "_law_rising" (defArgs sRisingL) (defBody sRisingL) (defScope sRisingL) .none kV21 dc21 pm21 an21 (.ref c21) ct21), sl21⟩) (i21 : PySem.W.codeIn K (.ref c21) "_law_rising" = true) (k21 : PySem.W.keepIn K (.ref f21) = true)
    (a22 : PySem.W.nsIn K mainGlobals "_law_is_stack" = some (some (.ref f22))) (l22 : K.lookup f22 = some ⟨oc22, od22, .func (PySem.W.fnOf "_law_is_stack" "_law_is_stack" (defArgs sIsStackL) (defBody sIsStackL) (defScope sIsStackL) .none kV22 dc22 pm22 an22 (.ref c22) ct22), sl22⟩) (i22 : PySem.W.codeIn K (.ref c22) "_law_is_stack" = true) (k22 : PySem.W.keepIn K (.ref f22) = true)
    (a23 : PySem.W.nsIn K mainGlobals "_law_no_stack" = some (some (.ref f23))) (l23 : K.lookup f23 = some ⟨oc23, od23, .func (PySem.W.fnOf "_law_no_stack" "_law_no_stack" (defArgs sNoStack) (defBody sNoStack) (defScope sNoStack) .none kV23 dc23 pm23 an23 (.ref c23) ct23), sl23⟩) (i23 : PySem.W.codeIn K (.ref c23) "_law_no_stack" = true) (k23 : PySem.W.keepIn K (.ref f23) = true)
    (a24 : PySem.W.nsIn K mainGlobals "_law_face_in" = some (some (.ref f24))) (l24 : K.lookup f24 = some ⟨oc24, od24, .func (PySem.W.fnOf "_law_face_in" "_law_face_in" (defArgs sFaceIn) (defBody sFaceIn) (defScope sFaceIn) .none kV24 dc24 pm24 an24 (.ref c24) ct24), sl24⟩) (i24 : PySem.W.codeIn K (.ref c24) "_law_face_in" = true) (k24 : PySem.W.keepIn K (.ref f24) = true)
    (a25 : PySem.W.nsIn K mainGlobals "_law_read" = some (some (.ref f25))) (l25 : K.lookup f25 = some ⟨oc25, od25, .func (PySem.W.fnOf "_law_read" "_law_read" (defArgs sLRead) (defBody sLRead) (defScope sLRead) .none kV25 dc25 pm25 an25 (.ref c25) ct25), sl25⟩) (i25 : PySem.W.codeIn K (.ref c25) "_law_read" = true) (k25 : PySem.W.keepIn K (.ref f25) = true)
    (a26 : PySem.W.nsIn K mainGlobals "_law_face_text" = some (some (.ref f26))) (l26 : K.lookup f26 = some ⟨oc26, od26, .func (PySem.W.fnOf "_law_face_text" "_law_face_text" (defArgs sFaceText) (defBody sFaceText) (defScope sFaceText) .none kV26 dc26 pm26 an26 (.ref c26) ct26), sl26⟩) (i26 : PySem.W.codeIn K (.ref c26) "_law_face_text" = true) (k26 : PySem.W.keepIn K (.ref f26) = true)
    (a27 : PySem.W.nsIn K mainGlobals "_law_text" = some (some (.ref f27))) (l27 : K.lookup f27 = some ⟨oc27, od27, .func (PySem.W.fnOf "_law_text" "_law_text" (defArgs sLText) (defBody sLText) (defScope sLText) .none kV27 dc27 pm27 an27 (.ref c27) ct27), sl27⟩) (i27 : PySem.W.codeIn K (.ref c27) "_law_text" = true) (k27 : PySem.W.keepIn K (.ref f27) = true)
    (a28 : PySem.W.nsIn K mainGlobals "_law_otherwise" = some (some (.ref f28))) (l28 : K.lookup f28 = some ⟨oc28, od28, .func (PySem.W.fnOf "_law_otherwise" "_law_otherwise" (defArgs sOther) (defBody sOther) (defScope sOther) .none kV28 dc28 pm28 an28 (.ref c28) ct28), sl28⟩) (i28 : PySem.W.codeIn K (.ref c28) "_law_otherwise" = true) (k28 : PySem.W.keepIn K (.ref f28) = true)
    (a29 : PySem.W.nsIn K mainGlobals "_law_read_right" = some (some (.ref f29))) (l29 : K.lookup f29 = some ⟨oc29, od29, .func (PySem.W.fnOf "_law_read_right" "_law_read_right" (defArgs sReadR) (defBody sReadR) (defScope sReadR) .none kV29 dc29 pm29 an29 (.ref c29) ct29), sl29⟩) (i29 : PySem.W.codeIn K (.ref c29) "_law_read_right" = true) (k29 : PySem.W.keepIn K (.ref f29) = true)
    (a30 : PySem.W.nsIn K mainGlobals "law" = some (some (.ref f30))) (l30 : K.lookup f30 = some ⟨oc30, od30, .func (PySem.W.fnOf "law" "law" (defArgs sLaw) (defBody sLaw) (defScope sLaw) .none kV30 dc30 pm30 an30 (.ref c30) ct30), sl30⟩) (i30 : PySem.W.codeIn K (.ref c30) "law" = true) (k30 : PySem.W.keepIn K (.ref f30) = true)
    (u2 : K.lookup c2 = some ⟨te2, td2, .fields tv2, ts2⟩) (v2 : tv2[11]? = some (.ref P2)) (w2 : K.lookup P2 = none) (r2 : ((PyProof.Rows.recsOf q).any fun e => e.name == ("all_below" : Str)) = true)
    (u3 : K.lookup c3 = some ⟨te3, td3, .fields tv3, ts3⟩) (v3 : tv3[11]? = some (.ref P3)) (w3 : K.lookup P3 = none) (r3 : ((PyProof.Rows.recsOf q).any fun e => e.name == ("rises" : Str)) = true)
    (u6 : K.lookup c6 = some ⟨te6, td6, .fields tv6, ts6⟩) (v6 : tv6[11]? = some (.ref P6)) (w6 : K.lookup P6 = none) (r6 : ((PyProof.Rows.recsOf q).any fun e => e.name == ("are_faces" : Str)) = true)
    (u29 : K.lookup c29 = some ⟨te29, td29, .fields tv29, ts29⟩) (v29 : tv29[11]? = some (.ref P29)) (w29 : K.lookup P29 = none) (r29 : ((PyProof.Rows.recsOf q).any fun e => e.name == ("_law_read_right" : Str)) = true)
    (u30 : K.lookup c30 = some ⟨te30, td30, .fields tv30, ts30⟩) (v30 : tv30[11]? = some (.ref P30)) (w30 : K.lookup P30 = none) (r30 : ((PyProof.Rows.recsOf q).any fun e => e.name == ("law" : Str)) = true)
    (z_isinstance : PySem.W.nsIn K mainGlobals "isinstance" = some none)
    (z_int : PySem.W.nsIn K mainGlobals "int" = some none)
    (z_bool : PySem.W.nsIn K mainGlobals "bool" = some none)
    (z_tuple : PySem.W.nsIn K mainGlobals "tuple" = some none)
    (z_all : PySem.W.nsIn K mainGlobals "all" = some none)
    (z_range : PySem.W.nsIn K mainGlobals "range" = some none)
    (z_len : PySem.W.nsIn K mainGlobals "len" = some none)
    (z_sorted : PySem.W.nsIn K mainGlobals "sorted" = some none)
    (z_min : PySem.W.nsIn K mainGlobals "min" = some none)
    (z_set : PySem.W.nsIn K mainGlobals "set" = some none)
    (z_list : PySem.W.nsIn K mainGlobals "list" = some none)
    (z_str : PySem.W.nsIn K mainGlobals "str" = some none)
    (z_zip : PySem.W.nsIn K mainGlobals "zip" = some none)
    (z_ValueError : PySem.W.nsIn K mainGlobals "ValueError" = some none)
    (y_MOST_POINTS : PySem.W.nsIn K mainGlobals "MOST_POINTS" = some (some (.int 8 t_MOST_POINTS)))
    (y_MOST_IN_FACE : PySem.W.nsIn K mainGlobals "MOST_IN_FACE" = some (some (.int 4 t_MOST_IN_FACE)))
    (y_MOST_FACES : PySem.W.nsIn K mainGlobals "MOST_FACES" = some (some (.int 70 t_MOST_FACES)))
    (y_FIGURES : PySem.W.nsIn K mainGlobals "FIGURES" = some (some (.str "0123456789" t_FIGURES)))
    (y_NO_POINTS : PySem.W.nsIn K mainGlobals "NO_POINTS" = some (some (.str "-" t_NO_POINTS)))
    (b_NoStack : PySem.W.nsIn K mainGlobals "NoStack" = some (some (.ref k_NoStack)))
    (b_NoNumber : PySem.W.nsIn K mainGlobals "NoNumber" = some (some (.ref k_NoNumber)))
    (b_NoPart : PySem.W.nsIn K mainGlobals "NoPart" = some (some (.ref k_NoPart)))
    (b_NoLot : PySem.W.nsIn K mainGlobals "NoLot" = some (some (.ref k_NoLot)))
    (b_NoRow : PySem.W.nsIn K mainGlobals "NoRow" = some (some (.ref k_NoRow)))
    (b_NoOrder : PySem.W.nsIn K mainGlobals "NoOrder" = some (some (.ref k_NoOrder)))
    (b_NoNames : PySem.W.nsIn K mainGlobals "NoNames" = some (some (.ref k_NoNames)))
    (b_NoRim : PySem.W.nsIn K mainGlobals "NoRim" = some (some (.ref k_NoRim)))
    (b_NoTaking : PySem.W.nsIn K mainGlobals "NoTaking" = some (some (.ref k_NoTaking)))
    (b_NoText : PySem.W.nsIn K mainGlobals "NoText" = some (some (.ref k_NoText)))
    (b_NoLine : PySem.W.nsIn K mainGlobals "NoLine" = some (some (.ref k_NoLine)))
    (b_NoDeed : PySem.W.nsIn K mainGlobals "NoDeed" = some (some (.ref k_NoDeed)))
    (b_TooGreat : PySem.W.nsIn K mainGlobals "TooGreat" = some (some (.ref k_TooGreat)))
    (b_Lay : PySem.W.nsIn K mainGlobals "LayError" = some (some (.ref k_Lay)))
    (x_NoStack_ex : PySem.W.excIn K k_NoStack [.type "ValueError", .type "Exception", .type "BaseException", .type "object"] "ValueError.__new__" = true)
    (x_NoStack_kp : PySem.W.keepIn K (.ref k_NoStack) = true)
    (x_NoStack_sb : PySem.W.subIn K (.ref k_NoStack) (.type "BaseException") = some true)
    (x_NoStack_ty : PySem.W.typeIn K (.ref k_NoStack) = some (.type "type"))
    (x_NoStack_hg : PySem.W.findIn K (.ref k_NoStack) "__getattribute__" = some (some (.builtin "BaseException.__getattribute__")))
    (x_NoStack_hk : PySem.W.findIn K (.ref k_NoStack) "__getattr__" = some none)
    (x_NoStack_hd : PySem.W.hasDictIn K k_NoStack = true)
    (x_NoStack_ha : PySem.W.findIn K (.ref k_NoStack) "__class__" = some (some (.builtin "object.__class__")))
    (x_NoStack_hn : PySem.W.specialIn K (.builtin "object.__class__") "__get__" = some (some (.builtin "getset_descriptor.__get__")))
    (x_NoStack_ht : PySem.W.takesIn K (.builtin "object.__class__") = some true)
    (x_NoStack_hm : PySem.W.mroIn K k_NoStack (.type "object") = some true)
    (x_NoStack_ve : PySem.W.kitOne K (.ref k_NoStack) (.type "ValueError") = some true)
    (x_NoStack_lay : PySem.W.exmOne K (.ref k_NoStack) (.ref k_Lay) = some true)
    (x_NoStack_q0 : PySem.W.kitOne K (.ref k_NoStack) (.ref k_NoStack) = some true)
    (x_NoStack_q1 : PySem.W.kitOne K (.ref k_NoStack) (.ref k_NoNumber) = some false)
    (x_NoStack_q2 : PySem.W.kitOne K (.ref k_NoStack) (.ref k_NoPart) = some false)
    (x_NoStack_q3 : PySem.W.kitOne K (.ref k_NoStack) (.ref k_NoLot) = some false)
    (x_NoStack_q4 : PySem.W.kitOne K (.ref k_NoStack) (.ref k_NoRow) = some false)
    (x_NoStack_q5 : PySem.W.kitOne K (.ref k_NoStack) (.ref k_NoOrder) = some false)
    (x_NoStack_q6 : PySem.W.kitOne K (.ref k_NoStack) (.ref k_NoNames) = some false)
    (x_NoStack_q7 : PySem.W.kitOne K (.ref k_NoStack) (.ref k_NoRim) = some false)
    (x_NoStack_q8 : PySem.W.kitOne K (.ref k_NoStack) (.ref k_NoTaking) = some false)
    (x_NoStack_q9 : PySem.W.kitOne K (.ref k_NoStack) (.ref k_NoText) = some false)
    (x_NoStack_q10 : PySem.W.kitOne K (.ref k_NoStack) (.ref k_NoLine) = some false)
    (x_NoStack_q11 : PySem.W.kitOne K (.ref k_NoStack) (.ref k_NoDeed) = some false)
    (x_NoStack_q12 : PySem.W.kitOne K (.ref k_NoStack) (.ref k_TooGreat) = some false)
    (x_NoText_ex : PySem.W.excIn K k_NoText [.type "ValueError", .type "Exception", .type "BaseException", .type "object"] "ValueError.__new__" = true)
    (x_NoText_kp : PySem.W.keepIn K (.ref k_NoText) = true)
    (x_NoText_sb : PySem.W.subIn K (.ref k_NoText) (.type "BaseException") = some true)
    (x_NoText_ty : PySem.W.typeIn K (.ref k_NoText) = some (.type "type"))
    (x_NoText_hg : PySem.W.findIn K (.ref k_NoText) "__getattribute__" = some (some (.builtin "BaseException.__getattribute__")))
    (x_NoText_hk : PySem.W.findIn K (.ref k_NoText) "__getattr__" = some none)
    (x_NoText_hd : PySem.W.hasDictIn K k_NoText = true)
    (x_NoText_ha : PySem.W.findIn K (.ref k_NoText) "__class__" = some (some (.builtin "object.__class__")))
    (x_NoText_hn : PySem.W.specialIn K (.builtin "object.__class__") "__get__" = some (some (.builtin "getset_descriptor.__get__")))
    (x_NoText_ht : PySem.W.takesIn K (.builtin "object.__class__") = some true)
    (x_NoText_hm : PySem.W.mroIn K k_NoText (.type "object") = some true)
    (x_NoText_ve : PySem.W.kitOne K (.ref k_NoText) (.type "ValueError") = some true)
    (x_NoText_lay : PySem.W.exmOne K (.ref k_NoText) (.ref k_Lay) = some true)
    (x_NoText_q0 : PySem.W.kitOne K (.ref k_NoText) (.ref k_NoStack) = some false)
    (x_NoText_q1 : PySem.W.kitOne K (.ref k_NoText) (.ref k_NoNumber) = some false)
    (x_NoText_q2 : PySem.W.kitOne K (.ref k_NoText) (.ref k_NoPart) = some false)
    (x_NoText_q3 : PySem.W.kitOne K (.ref k_NoText) (.ref k_NoLot) = some false)
    (x_NoText_q4 : PySem.W.kitOne K (.ref k_NoText) (.ref k_NoRow) = some false)
    (x_NoText_q5 : PySem.W.kitOne K (.ref k_NoText) (.ref k_NoOrder) = some false)
    (x_NoText_q6 : PySem.W.kitOne K (.ref k_NoText) (.ref k_NoNames) = some false)
    (x_NoText_q7 : PySem.W.kitOne K (.ref k_NoText) (.ref k_NoRim) = some false)
    (x_NoText_q8 : PySem.W.kitOne K (.ref k_NoText) (.ref k_NoTaking) = some false)
    (x_NoText_q9 : PySem.W.kitOne K (.ref k_NoText) (.ref k_NoText) = some true)
    (x_NoText_q10 : PySem.W.kitOne K (.ref k_NoText) (.ref k_NoLine) = some false)
    (x_NoText_q11 : PySem.W.kitOne K (.ref k_NoText) (.ref k_NoDeed) = some false)
    (x_NoText_q12 : PySem.W.kitOne K (.ref k_NoText) (.ref k_TooGreat) = some false)
    (dst : (([(P29, (envOfC "_law_read_right" (defScope sReadR) 0 0 (.ref 0)).qual ++ "<lambda>"), (P30, (envOfC "law" (defScope sLaw) 0 0 (.ref 0)).qual ++ "<lambda>")] : List (Addr × Str)).map (fun p : Addr × Str => p.1) ++ ([P2, P3, P6] : List Addr)).Nodup) :
    LamX.LawAtS l w K CX0 14 63 "_law_script" mg fa h := by
  have e := hfa.symm.trans (PySem.W.mg_of X T.g a30)
  cases e
  have D1 := def_mk (ps := ["thing", "least", "most"]) X T.g a1 l1 i1 k1 fun _ _ _ _ _ _ us hl => match us, hl with | [_, _, _], _ => rfl
  have D2 := def_mk (ps := ["thing", "many"]) X T.g a2 l2 i2 k2 fun _ _ _ _ _ _ us hl => match us, hl with | [_, _], _ => rfl
  have D3 := def_mk (ps := ["things"]) X T.g a3 l3 i3 k3 fun _ _ _ _ _ _ us hl => match us, hl with | [_], _ => rfl
  have D4 := def_mk (ps := ["thing", "many"]) X T.g a4 l4 i4 k4 fun _ _ _ _ _ _ us hl => match us, hl with | [_, _], _ => rfl
  have D5 := def_mk (ps := ["thing"]) X T.g a5 l5 i5 k5 fun _ _ _ _ _ _ us hl => match us, hl with | [_], _ => rfl
  have D6 := def_mk (ps := ["n", "k", "thing"]) X T.g a6 l6 i6 k6 fun _ _ _ _ _ _ us hl => match us, hl with | [_, _, _], _ => rfl
  have D7 := def_mk (ps := ["stack"]) X T.g a7 l7 i7 k7 fun _ _ _ _ _ _ us hl => match us, hl with | [_], _ => rfl
  have D8 := def_mk (ps := ["points"]) X T.g a8 l8 i8 k8 fun _ _ _ _ _ _ us hl => match us, hl with | [_], _ => rfl
  have D9 := def_mk (ps := ["stack"]) X T.g a9 l9 i9 k9 fun _ _ _ _ _ _ us hl => match us, hl with | [_], _ => rfl
  have D10 := def_mk (ps := ["word"]) X T.g a10 l10 i10 k10 fun _ _ _ _ _ _ us hl => match us, hl with | [_], _ => rfl
  have D11 := def_mk (ps := ["text"]) X T.g a11 l11 i11 k11 fun _ _ _ _ _ _ us hl => match us, hl with | [_], _ => rfl
  have D12 := def_mk (ps := ["_law_e"]) X T.g a12 l12 i12 k12 fun _ _ _ _ _ _ us hl => match us, hl with | [_], _ => rfl
  have D13 := def_mk (ps := ["_law_call"]) X T.g a13 l13 i13 k13 fun _ _ _ _ _ _ us hl => match us, hl with | [_], _ => rfl
  have D14 := def_mk (ps := ["_law_found", "_law_due"]) X T.g a14 l14 i14 k14 fun _ _ _ _ _ _ us hl => match us, hl with | [_, _], _ => rfl
  have D15 := def_mk (ps := ["_law_found"]) X T.g a15 l15 i15 k15 fun _ _ _ _ _ _ us hl => match us, hl with | [_], _ => rfl
  have D16 := def_mk (ps := ["_law_script", "_law_k"]) X T.g a16 l16 i16 k16 fun _ _ _ _ _ _ us hl => match us, hl with | [_, _], _ => rfl
  have D17 := def_mk (ps := ["_law_cell_here"]) X T.g a17 l17 i17 k17 fun _ _ _ _ _ _ us hl => match us, hl with | [_], _ => rfl
  have D18 := def_mk (ps := ["_law_pen_here", "_law_many"]) X T.g a18 l18 i18 k18 fun _ _ _ _ _ _ us hl => match us, hl with | [_, _], _ => rfl
  have D19 := def_mk (ps := ["_law_n", "_law_k"]) X T.g a19 l19 i19 k19 fun _ _ _ _ _ _ us hl => match us, hl with | [_, _], _ => rfl
  have D20 := def_mk (ps := ["_law_pen_here", "_law_most"]) X T.g a20 l20 i20 k20 fun _ _ _ _ _ _ us hl => match us, hl with | [_, _], _ => rfl
  have D21 := def_mk (ps := ["_law_many", "_law_thing"]) X T.g a21 l21 i21 k21 fun _ _ _ _ _ _ us hl => match us, hl with | [_, _], _ => rfl
  have D22 := def_mk (ps := ["_law_thing"]) X T.g a22 l22 i22 k22 fun _ _ _ _ _ _ us hl => match us, hl with | [_], _ => rfl
  have D23 := def_mk (ps := ["_law_pen_here", "_law_stack_here"]) X T.g a23 l23 i23 k23 fun _ _ _ _ _ _ us hl => match us, hl with | [_, _], _ => rfl
  have D24 := def_mk (ps := ["_law_word"]) X T.g a24 l24 i24 k24 fun _ _ _ _ _ _ us hl => match us, hl with | [_], _ => rfl
  have D25 := def_mk (ps := ["_law_text_here"]) X T.g a25 l25 i25 k25 fun _ _ _ _ _ _ us hl => match us, hl with | [_], _ => rfl
  have D26 := def_mk (ps := ["_law_face"]) X T.g a26 l26 i26 k26 fun _ _ _ _ _ _ us hl => match us, hl with | [_], _ => rfl
  have D27 := def_mk (ps := ["_law_stack_here"]) X T.g a27 l27 i27 k27 fun _ _ _ _ _ _ us hl => match us, hl with | [_], _ => rfl
  have D28 := def_mk (ps := ["_law_pen_here", "_law_text_here"]) X T.g a28 l28 i28 k28 fun _ _ _ _ _ _ us hl => match us, hl with | [_, _], _ => rfl
  have D29 := def_mk (ps := ["_law_text_here"]) X T.g a29 l29 i29 k29 fun _ _ _ _ _ _ us hl => match us, hl with | [_], _ => rfl
  have D30 := def_mk (ps := ["_law_script"]) X T.g a30 l30 i30 k30 fun _ _ _ _ _ _ us hl => match us, hl with | [_], _ => rfl
  have A2 := tab_at T X r2 D2.g l2 rfl u2 v2
  have A3 := tab_at T X r3 D3.g l3 rfl u3 v3
  have A6 := tab_at T X r6 D6.g l6 rfl u6 v6
  have A29 := tab_at T X r29 D29.g l29 rfl u29 v29
  have A30 := tab_at T X r30 D30.g l30 rfl u30 v30
  have G : Kinds mg (fun j => ([k_NoStack, k_NoNumber, k_NoPart, k_NoLot, k_NoRow, k_NoOrder, k_NoNames, k_NoRim, k_NoTaking, k_NoText, k_NoLine, k_NoDeed, k_TooGreat] : List Addr).getD j 0) := ⟨PySem.W.mg_of X T.g b_NoStack, PySem.W.mg_of X T.g b_NoNumber, PySem.W.mg_of X T.g b_NoPart, PySem.W.mg_of X T.g b_NoLot, PySem.W.mg_of X T.g b_NoRow, PySem.W.mg_of X T.g b_NoOrder, PySem.W.mg_of X T.g b_NoNames, PySem.W.mg_of X T.g b_NoRim, PySem.W.mg_of X T.g b_NoTaking, PySem.W.mg_of X T.g b_NoText, PySem.W.mg_of X T.g b_NoLine, PySem.W.mg_of X T.g b_NoDeed, PySem.W.mg_of X T.g b_TooGreat⟩
  have gL := PySem.W.mg_of X T.g b_Lay
  have R_NoStack : Ref K mg "NoStack" k_NoStack := ⟨⟨_, _, _, _, PySem.F.excBase_ValueError, x_NoStack_ex⟩, PySem.W.mg_of X T.g b_NoStack, x_NoStack_kp, x_NoStack_sb, x_NoStack_ty⟩
  have K_NoStack : Kind K (fun j => ([k_NoStack, k_NoNumber, k_NoPart, k_NoLot, k_NoRow, k_NoOrder, k_NoNames, k_NoRim, k_NoTaking, k_NoText, k_NoLine, k_NoDeed, k_TooGreat] : List Addr).getD j 0) k_Lay 0 k_NoStack := ⟨by decide, ⟨x_NoStack_hg, x_NoStack_hk, x_NoStack_sb, x_NoStack_hd, x_NoStack_ha, x_NoStack_hn, x_NoStack_ht, x_NoStack_hm⟩, fun j hj => match j, hj with | 0, _ => x_NoStack_q0 | 1, _ => x_NoStack_q1 | 2, _ => x_NoStack_q2 | 3, _ => x_NoStack_q3 | 4, _ => x_NoStack_q4 | 5, _ => x_NoStack_q5 | 6, _ => x_NoStack_q6 | 7, _ => x_NoStack_q7 | 8, _ => x_NoStack_q8 | 9, _ => x_NoStack_q9 | 10, _ => x_NoStack_q10 | 11, _ => x_NoStack_q11 | 12, _ => x_NoStack_q12 | j + 13, h => absurd h (by omega), x_NoStack_ve, x_NoStack_lay⟩
  have R_NoText : Ref K mg "NoText" k_NoText := ⟨⟨_, _, _, _, PySem.F.excBase_ValueError, x_NoText_ex⟩, PySem.W.mg_of X T.g b_NoText, x_NoText_kp, x_NoText_sb, x_NoText_ty⟩
  have K_NoText : Kind K (fun j => ([k_NoStack, k_NoNumber, k_NoPart, k_NoLot, k_NoRow, k_NoOrder, k_NoNames, k_NoRim, k_NoTaking, k_NoText, k_NoLine, k_NoDeed, k_TooGreat] : List Addr).getD j 0) k_Lay 9 k_NoText := ⟨by decide, ⟨x_NoText_hg, x_NoText_hk, x_NoText_sb, x_NoText_hd, x_NoText_ha, x_NoText_hn, x_NoText_ht, x_NoText_hm⟩, fun j hj => match j, hj with | 0, _ => x_NoText_q0 | 1, _ => x_NoText_q1 | 2, _ => x_NoText_q2 | 3, _ => x_NoText_q3 | 4, _ => x_NoText_q4 | 5, _ => x_NoText_q5 | 6, _ => x_NoText_q6 | 7, _ => x_NoText_q7 | 8, _ => x_NoText_q8 | 9, _ => x_NoText_q9 | 10, _ => x_NoText_q10 | 11, _ => x_NoText_q11 | 12, _ => x_NoText_q12 | j + 13, h => absurd h (by omega), x_NoText_ve, x_NoText_lay⟩
  refine ⟨PySem.W.fnOf "law" "law" (defArgs sLaw) (defBody sLaw) (defScope sLaw) .none kV30 dc30 pm30 an30 (.ref c30) ct30, [(c2, P2), (c3, P3), (c6, P6), (c29, P29), (c30, P30)], spLaw K (mkTbs [P2, P3, P6] [(P29, (envOfC "_law_read_right" (defScope sReadR) 0 0 (.ref 0)).qual ++ "<lambda>"), (P30, (envOfC "law" (defScope sLaw) 0 0 (.ref 0)).qual ++ "<lambda>")] dst), (List.forall_mem_cons.mpr ⟨A2.2, (List.forall_mem_cons.mpr ⟨A3.2, (List.forall_mem_cons.mpr ⟨A6.2, (List.forall_mem_cons.mpr ⟨A29.2, (List.forall_mem_cons.mpr ⟨A30.2, (fun p hp => nomatch hp)⟩)⟩)⟩)⟩)⟩), (List.forall_mem_cons.mpr ⟨w2, (List.forall_mem_cons.mpr ⟨w3, (List.forall_mem_cons.mpr ⟨w6, (List.forall_mem_cons.mpr ⟨w29, (List.forall_mem_cons.mpr ⟨w30, (fun p hp => nomatch hp)⟩)⟩)⟩)⟩)⟩), (List.forall_mem_cons.mpr ⟨A2.1, (List.forall_mem_cons.mpr ⟨A3.1, (List.forall_mem_cons.mpr ⟨A6.1, (List.forall_mem_cons.mpr ⟨A29.1, (List.forall_mem_cons.mpr ⟨A30.1, (fun p hp => nomatch hp)⟩)⟩)⟩)⟩)⟩), fun s u => .of_eq rfl, fun H a ns hl _ hT hS => ⟨a, ns, rfl, hS, hl, ?_, fun _ => rfl⟩, fun base hK hN TB => ?_⟩
  · have h5 : ∀ Q ∈ [(c2, P2), (c3, P3), (c6, P6), (c29, P29), (c30, P30)].map (·.2), H Q = some (.tbl #[]) := fun Q hQ => by
      obtain ⟨p, hp, e⟩ := List.mem_map.mp hQ
      rw [← e]
      exact hT p hp
    refine mkTbs_tb (fun Q hQ => h5 Q ?_) (fun p hp => h5 p.1 ?_)
    · simp only [List.map_cons, List.map_nil, List.mem_cons, List.not_mem_nil, or_false] at hQ ⊢
      rcases hQ with z | z | z <;> simp [z]
    · simp only [List.map_cons, List.map_nil, List.mem_cons, List.not_mem_nil, or_false] at hp ⊢
      rcases hp with rfl | rfl <;> simp
  · exact all_ok D1 D2 D3 D4 D5 D6 D7 D8 D9 D10 D11 D12 D13 D14 D15 D16 D17 D18 D19 D20 D21 D22 D23 D24 D25 D26 D27 D28 D29 D30 (tabB_of (TB (c2, P2) (by simp))) (show P2 ∈ [P2, P3, P6] by simp) (tabB_of (TB (c3, P3) (by simp))) (show P3 ∈ [P2, P3, P6] by simp) (tabB_of (TB (c6, P6) (by simp))) (show P6 ∈ [P2, P3, P6] by simp) (TB (c29, P29) (by simp)) (show _ ∈ [(P29, (envOfC "_law_read_right" (defScope sReadR) 0 0 (.ref 0)).qual ++ "<lambda>"), (P30, (envOfC "law" (defScope sLaw) 0 0 (.ref 0)).qual ++ "<lambda>")] by simp) (TB (c30, P30) (by simp)) (show _ ∈ [(P29, (envOfC "_law_read_right" (defScope sReadR) 0 0 (.ref 0)).qual ++ "<lambda>"), (P30, (envOfC "law" (defScope sLaw) 0 0 (.ref 0)).qual ++ "<lambda>")] by simp) (PySem.W.mg_none_of X T.g z_isinstance) (PySem.W.mg_none_of X T.g z_int) (PySem.W.mg_none_of X T.g z_bool) (PySem.W.mg_none_of X T.g z_tuple) (PySem.W.mg_none_of X T.g z_all) (PySem.W.mg_none_of X T.g z_range) (PySem.W.mg_none_of X T.g z_len) (PySem.W.mg_none_of X T.g z_sorted) (PySem.W.mg_none_of X T.g z_min) (PySem.W.mg_none_of X T.g z_set) (PySem.W.mg_none_of X T.g z_list) (PySem.W.mg_none_of X T.g z_str) (PySem.W.mg_none_of X T.g z_zip) (PySem.W.mg_none_of X T.g z_ValueError) (PySem.W.mg_of X T.g y_MOST_POINTS) (PySem.W.mg_of X T.g y_MOST_IN_FACE) (PySem.W.mg_of X T.g y_MOST_FACES) (PySem.W.mg_of X T.g y_FIGURES) (PySem.W.mg_of X T.g y_NO_POINTS) G gL R_NoStack K_NoStack R_NoText K_NoText
end Lf

open PySem PySem.W PyProof.Rows
set_option maxHeartbeats 0 in
theorem PySem.Challenge.cw_layfaces_k95_stacks_written_and_read_holds : PySem.Challenge.rw_layfaces_k95_stacks_written_and_read.Holds := by
  w_on; o_law; k_head; (case hw => w_witness2)
  k_fill
  refine Lf.walk_tabs (l := PySem.Challenge.rw_layfaces_k95_stacks_written_and_read) (n := 63) (k := 14) (x := "_law_script") (CX := fun _ => L2.CX0) rfl (by decide) rfl ⟨rfl, by decide, by decide⟩ (fun w h Y => PySem.W.km_in_of Y) ?F (fun _ _ _ _ _ h => h)
  case F =>
    intro w mg mb mean fa h T KX hmg
    refine' Lf.all_mk T KX hmg ?a1 ?l1 ?i1 ?k1 ?a2 ?l2 ?i2 ?k2 ?a3 ?l3 ?i3 ?k3 ?a4 ?l4 ?i4 ?k4 ?a5 ?l5 ?i5 ?k5 ?a6 ?l6 ?i6 ?k6 ?a7 ?l7 ?i7 ?k7 ?a8 ?l8 ?i8 ?k8 ?a9 ?l9 ?i9 ?k9 ?a10 ?l10 ?i10 ?k10 ?a11 ?l11 ?i11 ?k11 ?a12 ?l12 ?i12 ?k12 ?a13 ?l13 ?i13 ?k13 ?a14 ?l14 ?i14 ?k14 ?a15 ?l15 ?i15 ?k15 ?a16 ?l16 ?i16 ?k16 ?a17 ?l17 ?i17 ?k17 ?a18 ?l18 ?i18 ?k18 ?a19 ?l19 ?i19 ?k19 ?a20 ?l20 ?i20 ?k20 ?a21 ?l21 ?i21 ?k21 ?a22 ?l22 ?i22 ?k22 ?a23 ?l23 ?i23 ?k23 ?a24 ?l24 ?i24 ?k24 ?a25 ?l25 ?i25 ?k25 ?a26 ?l26 ?i26 ?k26 ?a27 ?l27 ?i27 ?k27 ?a28 ?l28 ?i28 ?k28 ?a29 ?l29 ?i29 ?k29 ?a30 ?l30 ?i30 ?k30 ?u2 ?v2 ?w2 ?r2 ?u3 ?v3 ?w3 ?r3 ?u6 ?v6 ?w6 ?r6 ?u29 ?v29 ?w29 ?r29 ?u30 ?v30 ?w30 ?r30 ?z_isinstance ?z_int ?z_bool ?z_tuple ?z_all ?z_range ?z_len ?z_sorted ?z_min ?z_set ?z_list ?z_str ?z_zip ?z_ValueError ?y_MOST_POINTS ?y_MOST_IN_FACE ?y_MOST_FACES ?y_FIGURES ?y_NO_POINTS ?b_NoStack ?b_NoNumber ?b_NoPart ?b_NoLot ?b_NoRow ?b_NoOrder ?b_NoNames ?b_NoRim ?b_NoTaking ?b_NoText ?b_NoLine ?b_NoDeed ?b_TooGreat ?b_Lay ?x_NoStack_ex ?x_NoStack_kp ?x_NoStack_sb ?x_NoStack_ty ?x_NoStack_hg ?x_NoStack_hk ?x_NoStack_hd ?x_NoStack_ha ?x_NoStack_hn ?x_NoStack_ht ?x_NoStack_hm ?x_NoStack_ve ?x_NoStack_lay ?x_NoStack_q0 ?x_NoStack_q1 ?x_NoStack_q2 ?x_NoStack_q3 ?x_NoStack_q4 ?x_NoStack_q5 ?x_NoStack_q6 ?x_NoStack_q7 ?x_NoStack_q8 ?x_NoStack_q9 ?x_NoStack_q10 ?x_NoStack_q11 ?x_NoStack_q12 ?x_NoText_ex ?x_NoText_kp ?x_NoText_sb ?x_NoText_ty ?x_NoText_hg ?x_NoText_hk ?x_NoText_hd ?x_NoText_ha ?x_NoText_hn ?x_NoText_ht ?x_NoText_hm ?x_NoText_ve ?x_NoText_lay ?x_NoText_q0 ?x_NoText_q1 ?x_NoText_q2 ?x_NoText_q3 ?x_NoText_q4 ?x_NoText_q5 ?x_NoText_q6 ?x_NoText_q7 ?x_NoText_q8 ?x_NoText_q9 ?x_NoText_q10 ?x_NoText_q11 ?x_NoText_q12 ?dst
    (case a1 => k_is)
    (case l1 => k_is)
    (case i1 => k_is)
    (case k1 => k_is)
    (case a2 => k_is)
    (case l2 => k_is)
    (case i2 => k_is)
    (case k2 => k_is)
    (case a3 => k_is)
    (case l3 => k_is)
    (case i3 => k_is)
    (case k3 => k_is)
    (case a4 => k_is)
    (case l4 => k_is)
    (case i4 => k_is)
    (case k4 => k_is)
    (case a5 => k_is)
    (case l5 => k_is)
    (case i5 => k_is)
    (case k5 => k_is)
    (case a6 => k_is)
    (case l6 => k_is)
    (case i6 => k_is)
    (case k6 => k_is)
    (case a7 => k_is)
    (case l7 => k_is)
    (case i7 => k_is)
    (case k7 => k_is)
    (case a8 => k_is)
    (case l8 => k_is)
    (case i8 => k_is)
    (case k8 => k_is)
    (case a9 => k_is)
    (case l9 => k_is)
    (case i9 => k_is)
    (case k9 => k_is)
    (case a10 => k_is)
    (case l10 => k_is)
    (case i10 => k_is)
    (case k10 => k_is)
    (case a11 => k_is)
    (case l11 => k_is)
    (case i11 => k_is)
    (case k11 => k_is)
    (case a12 => k_is)
    (case l12 => k_is)
    (case i12 => k_is)
    (case k12 => k_is)
    (case a13 => k_is)
    (case l13 => k_is)
    (case i13 => k_is)
    (case k13 => k_is)
    (case a14 => k_is)
    (case l14 => k_is)
    (case i14 => k_is)
    (case k14 => k_is)
    (case a15 => k_is)
    (case l15 => k_is)
    (case i15 => k_is)
    (case k15 => k_is)
    (case a16 => k_is)
    (case l16 => k_is)
    (case i16 => k_is)
    (case k16 => k_is)
    (case a17 => k_is)
    (case l17 => k_is)
    (case i17 => k_is)
    (case k17 => k_is)
    (case a18 => k_is)
    (case l18 => k_is)
    (case i18 => k_is)
    (case k18 => k_is)
    (case a19 => k_is)
    (case l19 => k_is)
    (case i19 => k_is)
    (case k19 => k_is)
    (case a20 => k_is)
    (case l20 => k_is)
    (case i20 => k_is)
    (case k20 => k_is)
    (case a21 => k_is)
    (case l21 => k_is)
    (case i21 => k_is)
    (case k21 => k_is)
    (case a22 => k_is)
    (case l22 => k_is)
    (case i22 => k_is)
    (case k22 => k_is)
    (case a23 => k_is)
    (case l23 => k_is)
    (case i23 => k_is)
    (case k23 => k_is)
    (case a24 => k_is)
    (case l24 => k_is)
    (case i24 => k_is)
    (case k24 => k_is)
    (case a25 => k_is)
    (case l25 => k_is)
    (case i25 => k_is)
    (case k25 => k_is)
    (case a26 => k_is)
    (case l26 => k_is)
    (case i26 => k_is)
    (case k26 => k_is)
    (case a27 => k_is)
    (case l27 => k_is)
    (case i27 => k_is)
    (case k27 => k_is)
    (case a28 => k_is)
    (case l28 => k_is)
    (case i28 => k_is)
    (case k28 => k_is)
    (case a29 => k_is)
    (case l29 => k_is)
    (case i29 => k_is)
    (case k29 => k_is)
    (case a30 => k_is)
    (case l30 => k_is)
    (case i30 => k_is)
    (case k30 => k_is)
    (case u2 => k_is)
    (case u3 => k_is)
    (case u6 => k_is)
    (case u29 => k_is)
    (case u30 => k_is)
    (case z_isinstance => k_is)
    (case z_int => k_is)
    (case z_bool => k_is)
    (case z_tuple => k_is)
    (case z_all => k_is)
    (case z_range => k_is)
    (case z_len => k_is)
    (case z_sorted => k_is)
    (case z_min => k_is)
    (case z_set => k_is)
    (case z_list => k_is)
    (case z_str => k_is)
    (case z_zip => k_is)
    (case z_ValueError => k_is)
    (case y_MOST_POINTS => k_is)
    (case y_MOST_IN_FACE => k_is)
    (case y_MOST_FACES => k_is)
    (case y_FIGURES => k_is)
    (case y_NO_POINTS => k_is)
    (case b_NoStack => k_is)
    (case b_NoNumber => k_is)
    (case b_NoPart => k_is)
    (case b_NoLot => k_is)
    (case b_NoRow => k_is)
    (case b_NoOrder => k_is)
    (case b_NoNames => k_is)
    (case b_NoRim => k_is)
    (case b_NoTaking => k_is)
    (case b_NoText => k_is)
    (case b_NoLine => k_is)
    (case b_NoDeed => k_is)
    (case b_TooGreat => k_is)
    (case b_Lay => k_is)
    (case v2 => rfl)
    (case w2 => kernel_rfl)
    (case r2 => kernel_rfl)
    (case v3 => rfl)
    (case w3 => kernel_rfl)
    (case r3 => kernel_rfl)
    (case v6 => rfl)
    (case w6 => kernel_rfl)
    (case r6 => kernel_rfl)
    (case v29 => rfl)
    (case w29 => kernel_rfl)
    (case r29 => kernel_rfl)
    (case v30 => rfl)
    (case w30 => kernel_rfl)
    (case r30 => kernel_rfl)
    (case x_NoStack_ex => first | k_is | kernel_rfl)
    (case x_NoStack_kp => first | k_is | kernel_rfl)
    (case x_NoStack_sb => first | k_is | kernel_rfl)
    (case x_NoStack_ty => first | k_is | kernel_rfl)
    (case x_NoStack_hg => first | k_is | kernel_rfl)
    (case x_NoStack_hk => first | k_is | kernel_rfl)
    (case x_NoStack_hd => first | k_is | kernel_rfl)
    (case x_NoStack_ha => first | k_is | kernel_rfl)
    (case x_NoStack_hn => first | k_is | kernel_rfl)
    (case x_NoStack_ht => first | k_is | kernel_rfl)
    (case x_NoStack_hm => first | k_is | kernel_rfl)
    (case x_NoStack_ve => first | k_is | kernel_rfl)
    (case x_NoStack_lay => first | k_is | kernel_rfl)
    (case x_NoStack_q0 => first | k_is | kernel_rfl)
    (case x_NoStack_q1 => first | k_is | kernel_rfl)
    (case x_NoStack_q2 => first | k_is | kernel_rfl)
    (case x_NoStack_q3 => first | k_is | kernel_rfl)
    (case x_NoStack_q4 => first | k_is | kernel_rfl)
    (case x_NoStack_q5 => first | k_is | kernel_rfl)
    (case x_NoStack_q6 => first | k_is | kernel_rfl)
    (case x_NoStack_q7 => first | k_is | kernel_rfl)
    (case x_NoStack_q8 => first | k_is | kernel_rfl)
    (case x_NoStack_q9 => first | k_is | kernel_rfl)
    (case x_NoStack_q10 => first | k_is | kernel_rfl)
    (case x_NoStack_q11 => first | k_is | kernel_rfl)
    (case x_NoStack_q12 => first | k_is | kernel_rfl)
    (case x_NoText_ex => first | k_is | kernel_rfl)
    (case x_NoText_kp => first | k_is | kernel_rfl)
    (case x_NoText_sb => first | k_is | kernel_rfl)
    (case x_NoText_ty => first | k_is | kernel_rfl)
    (case x_NoText_hg => first | k_is | kernel_rfl)
    (case x_NoText_hk => first | k_is | kernel_rfl)
    (case x_NoText_hd => first | k_is | kernel_rfl)
    (case x_NoText_ha => first | k_is | kernel_rfl)
    (case x_NoText_hn => first | k_is | kernel_rfl)
    (case x_NoText_ht => first | k_is | kernel_rfl)
    (case x_NoText_hm => first | k_is | kernel_rfl)
    (case x_NoText_ve => first | k_is | kernel_rfl)
    (case x_NoText_lay => first | k_is | kernel_rfl)
    (case x_NoText_q0 => first | k_is | kernel_rfl)
    (case x_NoText_q1 => first | k_is | kernel_rfl)
    (case x_NoText_q2 => first | k_is | kernel_rfl)
    (case x_NoText_q3 => first | k_is | kernel_rfl)
    (case x_NoText_q4 => first | k_is | kernel_rfl)
    (case x_NoText_q5 => first | k_is | kernel_rfl)
    (case x_NoText_q6 => first | k_is | kernel_rfl)
    (case x_NoText_q7 => first | k_is | kernel_rfl)
    (case x_NoText_q8 => first | k_is | kernel_rfl)
    (case x_NoText_q9 => first | k_is | kernel_rfl)
    (case x_NoText_q10 => first | k_is | kernel_rfl)
    (case x_NoText_q11 => first | k_is | kernel_rfl)
    (case x_NoText_q12 => first | k_is | kernel_rfl)
    (case dst => decide)
