import PyProof.Rows.All
import Wide.All
import OpenK.AllK
import Wide.FinOn
import HandS.ForMost
import HandS.AnyAll
import HandS.Nested
import HandS.GenOver
import PyProof.GenQ
import HandS.SortOrd
import HandS.NamedTupSort
import HandS.TupSets
import KE.KSortTupAny
import HandS.SetBool
import HandS.SortInts
import KE.KTupSum
import HandS.TupLen
import HandS.IsInst
import HandS.Deep
import HandS.TupAny
import HandS.Star
import HandS.Wide
import HandS.Remove
import HandS.SetFor
import HandS.EndTab
import HandS.Lambda
import HandS.Conv
import KE.GoesMore
import KE.GoesEnum
import HandS.ExcOwn
import HandS.ExcIs
import HandS.WordsExc
import HandS.HotCalls
import KE.DataFind
import HandS.Strs
import HandS.Zip
import HandS.FStr
import HandS.RaiseMore
import HandS.Style
import HandS.Comp
import PyProof.CallFns
import PyProof.ReprRoads
import PyProof.ReprLen
import KE.DataMinMax
import KE.SortData
import HandS.SortKw
import HandS.List
import PyProof.Rows.GenSrcTup
import HandS.WideBits
import HandS.Call
import HandS.TupLe
import PySem.Challenge.RW_layfaces_k53_whole_kinds_are_laid
set_option Elab.async false
set_option linter.all false
set_option maxRecDepth 100000
set_option maxHeartbeats 2000000
/-! all(..), any(..) of a generator expression whose element is any expression of the layer (calls among them). -/
namespace GxA
open PySem PySem.Spec PyProof.Rows L2 GxR GenW

/-- the generator expression's own environment -/
abbrev gE (X : Cx) (sc : Scope) (cd : Value) (C : Addr) : Env := genEnv sc (cloFrom X.env.cells sc.names []) C cd builtinsNs X.env
/-- its context: it runs over the frames of X -/
def gcx (X : Cx) (N : List Str) (sc : Scope) (cd : Value) (C : Addr) (A : Around) (s : Shared) (H : Hp) (fp : List Addr) (pn : List (Addr × Obj)) : Cx where
  prog := X.prog
  w := X.w
  K := X.K
  mg := X.mg
  base := X.base
  A := A.deeper (gE X sc cd C)
  N := N
  s_0 := s
  H_0 := H
  env := gE X sc cd C
  outer := X.stack
  stack := gE X sc cd C :: X.stack
  ex := fp
  fn := fun _ => false
  calm := true
  pn := pn
  xe := fun _ _ => False

theorem over_loopG {A : Around} {elt : Expr} {gs : List Comprehension} {sc : Scope} {p : Pos} {it acc : Value} {env : Env} : A.over (.compLoop (.GeneratorExp elt gs sc p) 0 it acc env) [] = A.deeper env := by
  obtain ⟨a1, a2, a3, a4, a5⟩ := A
  simp [Around.over, Around.deeper, marksOver, frameCount, unitsOf, envsOf, guardsOf, pushEnvs, pushGuards, Code.envs, Code.env?, Code.isFrame, Code.guards, Code.isGuard, Code.weight, Code.frames, Code.isCreation, Code.isCaller, Code.cUnits]
theorem over_startG {A : Around} {elt : Expr} {gs : List Comprehension} {sc : Scope} {p : Pos} {it acc : Value} {env : Env} : A.over (.compStart (.GeneratorExp elt gs sc p) 0 it acc env) [] = A.deeper env := by
  obtain ⟨a1, a2, a3, a4, a5⟩ := A
  simp [Around.over, Around.deeper, marksOver, frameCount, unitsOf, envsOf, guardsOf, pushEnvs, pushGuards, Code.envs, Code.env?, Code.isFrame, Code.guards, Code.isGuard, Code.weight, Code.frames, Code.isCreation, Code.isCaller, Code.cUnits]

/-- the consumer has only looked at a truth -/
structure Still (g : Nat) (s s' : Shared) : Prop where
  heap : s'.heap = s.heap
  os : s'.os = s.os
  bare : AllBare s'.gens
  sz : g < s'.gens.size
theorem inv_still {X : Cx} {pins : List (Addr × Obj)} {σ : L2.St} {H : Hp} {s s' : Shared} {g : Nat} (I : Inv X pins σ H s) (z : Still g s s') : Inv X pins σ H s' :=
  I.call' (ch := []) z.os (by rw [z.heap]; exact Un.refl) (by rw [z.heap]; exact I.hok) z.bare fun b hb => absurd hb (by simp)

def gY (X' : Cx) (g : Nat) (all : Bool) (Q : VK) : Protocol := fun _ _ v s kap =>
  ∃ (b : Bool) (pins : List (Addr × Obj)) (σ : L2.St) (H : Hp), v = .bool b ∧ Inv X' pins σ H s ∧ g < s.gens.size ∧ (b ≠ all → Q (.bl b) H) ∧ (b = all → ∀ s', Still g s s' → kap (.send .none) s')
def gP (X' : Cx) (all : Bool) (Q : VK) : Nat → Shared → Shared → Prop := fun _ _ s =>
  ∃ (pins : List (Addr × Obj)) (σ : L2.St) (H : Hp), Inv X' pins σ H s ∧ Q (.bl all) H
abbrev gR (X' : Cx) (all : Bool) (Q : VK) : GenEnd := fun n s₀ r s₁ => r = .ok .next ∧ gP X' all Q n s₀ s₁

/-- what is to be shown of the walk: W by the turn and how many turns are left -/
def gW (all : Bool) (J : It) (σc : L2.St) (te : TE) (Q : VK) (W : Nat → Nat → Hp → Prop) : Prop := ∀ i m H3, W i m H3 →
  (J.stop i H3 ∧ Q (.bl all) H3) ∨ ∃ m', m = m' + 1 ∧ J.go i H3 ∧ ∀ x H4, J.yld i H3 x H4 → te (some x :: σc) H4 fun v H5 => ∃ b : Bool, v = .bl b ∧ (b = all → W (i + 1) m' H5) ∧ (b ≠ all → Q (.bl b) H5)

section
variable {X : Cx} {N : List Str} {sc : Scope} {cd : Value} {C : Addr} {A : Around} {s2 : Shared} {H1 : Hp} {fp : List Addr} {pn : List (Addr × Obj)} {g : Nat} {all : Bool} {Q : VK} {J : It} {it : Addr} {tn : Nat → Heap → Prop} {x : Str} {px gpos : Pos} {elt iter : Expr} {te : TE} {W : Nat → Nat → Hp → Prop} {σc : L2.St}

theorem seg_loopG (T : Turn X.prog X.w X.K (.Name x px) J fp it tn) (hx : sc.names.lookup x = some .local) (hco : sc.isCoroutine = false) (hnd : N.Nodup) (hN : N[0]? = some x)
    (hel : PE (gcx X N sc cd C A s2 H1 fp pn) elt te) (hW : gW all J σc te Q W) :
    ∀ (m i : Nat) (s₀ s : Shared) (H : Hp) (y : Option V), W i m H → Inv (gcx X N sc cd C A s2 H1 fp pn) [] (y :: σc) H s → (∀ b ∈ fp, FpOk (gcx X N sc cd C A s2 H1 fp pn) [] H b) → tn i s.heap → g < s.gens.size →
      Seg (model X.prog X.w) A (gR (gcx X N sc cd C A s2 H1 fp pn) all Q) (gY (gcx X N sc cd C A s2 H1 fp pn) g all Q) m s₀
        (.compLoop (.GeneratorExp elt [⟨.Name x px, iter, [], 0⟩] sc gpos) 0 (.ref it) .none (gE X sc cd C))
        ((model X.prog X.w).den (.compLoop (.GeneratorExp elt [⟨.Name x px, iter, [], 0⟩] sc gpos) 0 (.ref it) .none (gE X sc cd C))) [] s := by
  have stopped : ∀ (m i : Nat) (s₀ s : Shared) (H : Hp) (y : Option V), J.stop i H → Q (.bl all) H → Inv (gcx X N sc cd C A s2 H1 fp pn) [] (y :: σc) H s → (∀ b ∈ fp, FpOk (gcx X N sc cd C A s2 H1 fp pn) [] H b) → tn i s.heap →
      Seg (model X.prog X.w) A (gR (gcx X N sc cd C A s2 H1 fp pn) all Q) (gY (gcx X N sc cd C A s2 H1 fp pn) g all Q) m s₀
        (.compLoop (.GeneratorExp elt [⟨.Name x px, iter, [], 0⟩] sc gpos) 0 (.ref it) .none (gE X sc cd C))
        ((model X.prog X.w).den (.compLoop (.GeneratorExp elt [⟨.Name x px, iter, [], 0⟩] sc gpos) 0 (.ref it) .none (gE X sc cd C))) [] s := by
    intro m i s₀ s H y hs hq I hf st
    show Seg _ A _ _ _ s₀ _ ((compTurn (.GeneratorExp elt [⟨.Name x px, iter, [], 0⟩] sc gpos) 0 (.ref it) .none (gE X sc cd C)).onRaise (leaving (gE X sc cd C))) [] s
    rw [compTurn_gen, Sem.onRaise_eq_wrap]
    refine seg_bind_wrap (wpAny_standAt ?_)
    refine seg_bind_wrap ?_
    rw [over_loopG]
    refine wpAny_mono (T.done (gcx X N sc cd C A s2 H1 fp pn) rfl rfl rfl rfl i [] s _ H (fun _ _ => False) I hf st hs) (fun r s1 hr => ?_) fun _ _ e => e.elim
    obtain ⟨rfl, I1⟩ := hr
    exact seg_end (.ok .next) ⟨rfl, [], _, H, I1, hq⟩
  intro m
  induction m with
  | zero =>
    intro i s₀ s H y w I hf st hg
    rcases hW i 0 H w with ⟨hs, hq⟩ | ⟨m', e, _⟩
    · exact stopped 0 i s₀ s H y hs hq I hf st
    · exact absurd e (by omega)
  | succ m ih =>
    intro i s₀ s H y w I hf st hg
    rcases hW i (m + 1) H w with ⟨hs, hq⟩ | ⟨m', e, hgo, hturn⟩
    · exact stopped (m + 1) i s₀ s H y hs hq I hf st
    have em : m' = m := by omega
    subst em
    show Seg _ A _ _ _ s₀ _ ((compTurn (.GeneratorExp elt [⟨.Name x px, iter, [], 0⟩] sc gpos) 0 (.ref it) .none (gE X sc cd C)).onRaise (leaving (gE X sc cd C))) [] s
    rw [compTurn_gen, Sem.onRaise_eq_wrap]
    refine seg_bind_wrap (wpAny_standAt ?_)
    refine seg_bind_wrap ?_
    rw [over_loopG]
    refine wpAny_gsz (n := g + 1) hg (wpAny_mono (T.item (gcx X N sc cd C A s2 H1 fp pn) rfl rfl rfl rfl i [] s _ H (fun _ _ => False) I hf st hgo) (fun r s1 hr hg1 => ?_) fun _ _ e => e.elim)
    obtain ⟨u, rfl, hr⟩ := hr
    refine seg_bind_wrap ?_
    rw [over_loopG]
    refine wpAny_gsz (n := g + 1) hg1 (wpAny_mono hr (fun _ s3 h3 hg3 => ?_) fun _ _ e => e.elim)
    obtain ⟨v, H4, I3, rv, hy, st3, hfn⟩ := h3
    have hf3 : ∀ b ∈ fp, FpOk (gcx X N sc cd C A s2 H1 fp pn) [] H4 b := fun b hb => let ⟨_, z⟩ := hf b hb; ⟨hfn b hb, z⟩
    refine seg_bind_wrap (wpAny_assign_Name ?_)
    rw [over_loopG]
    refine wpAny_gsz (n := g + 1) hg3 ?_
    refine store_ok2 (X := gcx X N sc cd C A s2 H1 fp pn) (i := 0) I3 hnd hN (.inl hx) rv (fun s4 I4 hsame hg4 => ?_) (.inr hx)
    obtain ⟨c, sb, hc⟩ := hsame
    have st4 : tn (i + 1) s4.heap := T.keep _ _ _ st3 fun b hb o e => (sb.2 b fun z => by
      obtain ⟨_, f1, _, _, f4, _⟩ := hf3 b hb
      rcases hc with hc | hc
      · exact f1 (z.trans hc)
      · exact f4 x c hc z.symm).trans e
    refine seg_bind_wrap (wpAny_pure ?_)
    simp only [if_true]
    have hyo : ∀ v, yieldOut (gE X sc cd C) v = yieldValue v := fun v => by
      unfold yieldOut
      rw [show (gE X sc cd C).scope.isCoroutine = false from hco]
      rfl
    simp only [hyo]
    rw [Sem.bind_eq_wrap', Sem.bind_eq_wrap', Sem.wrap_wrap, Sem.wrap_wrap]
    refine seg_wrap ?_
    rw [over_loopG]
    have I4' : Inv (gcx X N sc cd C A s2 H1 fp pn) ([] ++ pinsAt fp s4.heap) (some v :: σc) H4 s4 := Inv.pinned I4 hf3 (T.obj _ _ st4)
    refine wpAny_gsz (n := g + 1) hg4 (wpAny_mono (hel.run _ s4 (some v :: σc) H4 _ I4' (hturn v H4 hy)) (fun yv s5 h5 hg5 => ?_) fun _ _ e => e.elim)
    obtain ⟨v5, H5, I5, r5, b, rfl, hb1, hb2⟩ := h5
    obtain rfl : yv = Value.bool b := r5
    refine seg_at (seg_yield rfl rfl rfl ⟨b, _, _, H5, rfl, I5, hg5, hb2, fun hb s6 z => ?_⟩)
    have I6 := inv_still I5 z
    have pinK : ∀ b ∈ fp, ∀ o, s4.heap.get? b = some o → s6.heap.get? b = some o ∧ H5 b = none := fun b hb o e => by
      have q := I6.pin (b, o) (List.mem_append_right _ (List.mem_append_right _ (mem_pinsAt hb e)))
      exact ⟨q.1, q.2.1⟩
    refine seg_again rfl (ih (i + 1) s6 s6 H5 (some v) (hb1 hb) (I6.pins_of fun p hp => absurd hp (by simp)) (fun b hb => ?_) (T.keep _ _ _ st4 fun b hb o e => (pinK b hb o e).1) z.sz)
    obtain ⟨_, f1⟩ := hf3 b hb
    obtain ⟨o, ho, _⟩ := T.obj _ _ st4 b hb
    exact ⟨(pinK b hb o ho).2, f1⟩

theorem seg_startG (T : Turn X.prog X.w X.K (.Name x px) J fp it tn) (hx : sc.names.lookup x = some .local) (hco : sc.isCoroutine = false) (hnd : N.Nodup) (hN : N[0]? = some x)
    (hel : PE (gcx X N sc cd C A s2 H1 fp pn) elt te) (hW : gW all J σc te Q W) (m i : Nat) (s₀ s : Shared) (H : Hp) (y : Option V) (w : W i m H) (I : Inv (gcx X N sc cd C A s2 H1 fp pn) [] (y :: σc) H s)
    (hf : ∀ b ∈ fp, FpOk (gcx X N sc cd C A s2 H1 fp pn) [] H b) (st : tn i s.heap) (hg : g < s.gens.size) :
      Seg (model X.prog X.w) A (gR (gcx X N sc cd C A s2 H1 fp pn) all Q) (gY (gcx X N sc cd C A s2 H1 fp pn) g all Q) m s₀
        (.compStart (.GeneratorExp elt [⟨.Name x px, iter, [], 0⟩] sc gpos) 0 (.ref it) .none (gE X sc cd C))
        ((model X.prog X.w).den (.compStart (.GeneratorExp elt [⟨.Name x px, iter, [], 0⟩] sc gpos) 0 (.ref it) .none (gE X sc cd C))) [] s := by
  have loop := seg_loopG (iter := iter) (gpos := gpos) (g := g) T hx hco hnd hN hel hW m i s₀ s H y w I hf st hg
  show Seg _ A _ _ _ s₀ _ ((compStart (.GeneratorExp elt [⟨.Name x px, iter, [], 0⟩] sc gpos) 0 (.ref it) .none (gE X sc cd C)).onRaise (leaving (gE X sc cd C))) [] s
  unfold compStart
  rw [Sem.onRaise_eq_wrap]
  show Seg _ A _ _ _ s₀ _ ((ask >>= _).wrap _ _ _ _) [] s
  refine seg_bind_wrap (wpAny_askSetting ?_)
  split
  · exact seg_again rfl loop
  · refine seg_bind_wrap (wpAny_rule ?_)
    show Seg _ A _ _ _ s₀ _ ((standAt iter.pos >>= _).wrap _ _ _ _) [] s
    exact seg_bind_wrap (wpAny_standAt (seg_bind_wrap (T.self _ i s _ _ st (seg_again rfl loop))))
end
end GxA

set_option maxHeartbeats 2000000
namespace GxA
open PySem PySem.Spec PyProof.Rows L2 GxR GenW

/-- the generator at a sleeps, m turns are left -/
def Ready (X' : Cx) (P : Program) (w : World) (A : Around) (a : Addr) (g : Nat) (all : Bool) (Q : VK) (m : Nat) (s : Shared) : Prop :=
  s.heap.IsGen a g ∧ s.heap.NoLimit ∧ AllBare s.gens ∧ ∃ gs, s.gens[g]? = some gs ∧ ∀ s', Still g s s' → gs.Goes (model P w) A.in1 (gR X' all Q) (gY X' g all Q) m (.send .none) s'
/-- the walk is over -/
def Over (X' : Cx) (Q : VK) (v : Bool) (s : Shared) : Prop := ∃ (pins : List (Addr × Obj)) (σ : L2.St) (H : Hp), Inv X' pins σ H s ∧ Q (.bl v) H

theorem gens_lt {gens : Array GenState} {g : Nat} {gs : GenState} (h : gens[g]? = some gs) : g < gens.size := by
  rcases Nat.lt_or_ge g gens.size with z | z
  · exact z
  · rw [Array.getElem?_eq_none z] at h
    cases h
theorem bare_set {s : Shared} {g : Nat} {x : GenState} (h : AllBare s.gens) (hx : x.bare = true) : AllBare (s.setGen g x).gens := by
  intro y hy
  unfold Shared.setGen at hy
  rcases Array.mem_or_eq_of_mem_setIfInBounds hy with z | z
  · exact h y z
  · rw [z]
    exact hx

section
variable {X' : Cx} {A : Around} {a : Addr} {g : Nat} {all : Bool} {Q : VK} {go : Obj}
theorem next_G (hA : A.handled = none) (hd : A.depth < recursionLimit) (hp : (a, go) ∈ X'.pn) (hgo : ∀ h : Heap, h.get? a = some go → h.IsGen a g) {m : Nat} {s : Shared} {E : Value → Shared → Prop} (r : Ready X' X'.prog X'.w A a g all Q m s) :
    wpAny (model X'.prog X'.w) A (pyNext (.ref a)) (fun o s' => (o = none ∧ Over X' Q all s') ∨ ∃ b : Bool, o = some (.bool b) ∧ ((b ≠ all ∧ Over X' Q b s') ∨ (b = all ∧ ∃ m', m = m' + 1 ∧ Ready X' X'.prog X'.w A a g all Q m' s'))) E s := by
  obtain ⟨hg, hl, hb, gs, hgs, goes⟩ := r
  have hlt := gens_lt hgs
  have z0 : Still g s (s.setGen g .running) := ⟨rfl, rfl, bare_set hb rfl, by rw [setGen_size]; exact hlt⟩
  refine wpAny_pyNext_genexpQ (P := gP X' all Q) (Y := gY X' g all Q) (n := m) hA hl hd hg hgs (goes _ z0) (fun v s₁ gs' hbare hv => ?_) (fun s₁ hp1 h' hk => ?_)
  · obtain ⟨b, pins, σ, H, rfl, I, hsz, q1, q2⟩ := hv
    have J : Inv X' pins σ H (s₁.setGen g gs') := inv_still (g := g) I ⟨rfl, rfl, bare_set I.bare hbare, by rw [setGen_size]; exact hsz⟩
    refine .inr ⟨b, rfl, ?_⟩
    by_cases hb1 : b = all
    · refine .inr ⟨hb1, ?_⟩
      cases m with
      | zero => exact (q2 hb1 _ ⟨rfl, rfl, I.bare, hsz⟩).elim
      | succ m' =>
        refine ⟨m', rfl, hgo _ (J.pin (a, go) (List.mem_append_left _ hp)).1, J.nolimit, J.bare, gs', ?_, fun s' z => q2 hb1 s' ⟨z.heap, z.os, z.bare, z.sz⟩⟩
        simp [Shared.setGen, hsz]
    · exact .inl ⟨hb1, pins, σ, H, J, q1 hb1⟩
  · obtain ⟨pins, σ, H, I, q⟩ := hp1
    refine .inl ⟨rfl, pins, σ, H, ?_, q⟩
    exact I.call' (s' := { s₁.setGen g .finished with heap := h' }) (ch := []) rfl (Un.kept hk) (I.hok.kept hk) (bare_set I.bare rfl) fun b hb => absurd hb (by simp)

theorem all_G (hA : A.handled = none) (hd : A.depth < recursionLimit) (hp : (a, go) ∈ X'.pn) (hgo : ∀ h : Heap, h.get? a = some go → h.IsGen a g) {R : Result → Shared → Prop} (hR : ∀ b s', Over X' Q b s' → R (.ok (.ret (.bool b))) s') :
    ∀ (m : Nat) (s : Shared), Ready X' X'.prog X'.w A.in1 a g true Q m s → codeAny (model X'.prog X'.w) A (.builtin "all.loop" ⟨[.ref a], []⟩) R s := by
  intro m
  induction m with
  | zero =>
    intro s r
    refine codeAny_builtin F.entry_all_loop ?_
    rw [Around.under_plainId F.plain_all_loop _]
    show wpAny _ A.in1 (pyNext (.ref a) >>= _) _ _ s
    refine wpAny_bind (wpAny_mono (next_G (A := A.in1) hA hd hp hgo r) (fun o s' h => ?_) fun _ _ e => e)
    rcases h with ⟨rfl, ov⟩ | ⟨b, rfl, ⟨hb, ov⟩ | ⟨_, m', e, _⟩⟩
    · exact wpAny_bind (wpAny_rule (wpAny_pure (hR true s' ov)))
    · refine wpAny_bind (wpAny_holding (wpAny_truthy_bool ?_))
      refine wpAny_bind (wpAny_letGo ?_)
      cases b with
      | true => exact absurd rfl hb
      | false =>
        simp only [Bool.false_eq_true, if_false]
        exact wpAny_bind (wpAny_rule (wpAny_pure (hR false s' ov)))
    · exact absurd e (by omega)
  | succ m ih =>
    intro s r
    refine codeAny_builtin F.entry_all_loop ?_
    rw [Around.under_plainId F.plain_all_loop _]
    show wpAny _ A.in1 (pyNext (.ref a) >>= _) _ _ s
    refine wpAny_bind (wpAny_mono (next_G (A := A.in1) hA hd hp hgo r) (fun o s' h => ?_) fun _ _ e => e)
    rcases h with ⟨rfl, ov⟩ | ⟨b, rfl, ⟨hb, ov⟩ | ⟨hb, m', e, rd⟩⟩
    · exact wpAny_bind (wpAny_rule (wpAny_pure (hR true s' ov)))
    · refine wpAny_bind (wpAny_holding (wpAny_truthy_bool ?_))
      refine wpAny_bind (wpAny_letGo ?_)
      cases b with
      | true => exact absurd rfl hb
      | false =>
        simp only [Bool.false_eq_true, if_false]
        exact wpAny_bind (wpAny_rule (wpAny_pure (hR false s' ov)))
    · subst hb
      have em : m' = m := by omega
      subst em
      refine wpAny_bind (wpAny_holding (wpAny_truthy_bool ?_))
      refine wpAny_bind (wpAny_letGo ?_)
      simp only [if_true]
      exact wpAny_pure ⟨plainId_quiet F.plain_all_loop _, ih s' rd⟩

theorem any_G (hA : A.handled = none) (hd : A.depth < recursionLimit) (hp : (a, go) ∈ X'.pn) (hgo : ∀ h : Heap, h.get? a = some go → h.IsGen a g) {R : Result → Shared → Prop} (hR : ∀ b s', Over X' Q b s' → R (.ok (.ret (.bool b))) s') :
    ∀ (m : Nat) (s : Shared), Ready X' X'.prog X'.w A.in1 a g false Q m s → codeAny (model X'.prog X'.w) A (.builtin "any.loop" ⟨[.ref a], []⟩) R s := by
  intro m
  induction m with
  | zero =>
    intro s r
    refine codeAny_builtin F.entry_any_loop ?_
    rw [Around.under_plainId F.plain_any_loop _]
    show wpAny _ A.in1 (pyNext (.ref a) >>= _) _ _ s
    refine wpAny_bind (wpAny_mono (next_G (A := A.in1) hA hd hp hgo r) (fun o s' h => ?_) fun _ _ e => e)
    rcases h with ⟨rfl, ov⟩ | ⟨b, rfl, ⟨hb, ov⟩ | ⟨_, m', e, _⟩⟩
    · exact wpAny_bind (wpAny_rule (wpAny_pure (hR false s' ov)))
    · refine wpAny_bind (wpAny_holding (wpAny_truthy_bool ?_))
      refine wpAny_bind (wpAny_letGo ?_)
      cases b with
      | false => exact absurd rfl hb
      | true =>
        simp only [if_true]
        exact wpAny_bind (wpAny_rule (wpAny_pure (hR true s' ov)))
    · exact absurd e (by omega)
  | succ m ih =>
    intro s r
    refine codeAny_builtin F.entry_any_loop ?_
    rw [Around.under_plainId F.plain_any_loop _]
    show wpAny _ A.in1 (pyNext (.ref a) >>= _) _ _ s
    refine wpAny_bind (wpAny_mono (next_G (A := A.in1) hA hd hp hgo r) (fun o s' h => ?_) fun _ _ e => e)
    rcases h with ⟨rfl, ov⟩ | ⟨b, rfl, ⟨hb, ov⟩ | ⟨hb, m', e, rd⟩⟩
    · exact wpAny_bind (wpAny_rule (wpAny_pure (hR false s' ov)))
    · refine wpAny_bind (wpAny_holding (wpAny_truthy_bool ?_))
      refine wpAny_bind (wpAny_letGo ?_)
      cases b with
      | false => exact absurd rfl hb
      | true =>
        simp only [if_true]
        exact wpAny_bind (wpAny_rule (wpAny_pure (hR true s' ov)))
    · subst hb
      have em : m' = m := by omega
      subst em
      refine wpAny_bind (wpAny_holding (wpAny_truthy_bool ?_))
      refine wpAny_bind (wpAny_letGo ?_)
      simp only [Bool.false_eq_true, if_false]
      exact wpAny_pure ⟨plainId_quiet F.plain_any_loop _, ih s' rd⟩
end

/-- the captured names: the place of each in the def's own slots -/
def CapsOk (X : Cx) (sc : Scope) : List Nat → List Str → Prop
  | [], [] => True
  | i :: is, y :: ys => (X.N[i]? = some y ∧ (X.env.scope.names.lookup y = some .cell ∨ X.env.scope.names.lookup y = some .free) ∧ sc.names.lookup y = some .free) ∧ CapsOk X sc is ys
  | _, _ => False
theorem CapsOk.get {X : Cx} {sc : Scope} : ∀ {is : List Nat} {ys : List Str} {j : Nat} {y : Str}, CapsOk X sc is ys → ys[j]? = some y →
    ∃ i, is[j]? = some i ∧ X.N[i]? = some y ∧ (X.env.scope.names.lookup y = some .cell ∨ X.env.scope.names.lookup y = some .free) ∧ sc.names.lookup y = some .free
  | [], [], _, _, _, e => by simp at e
  | i :: is, y' :: ys, 0, y, h, e => by
    have e' : y' = y := by simpa using e
    subst e'
    exact ⟨i, rfl, h.1⟩
  | i :: is, y' :: ys, j + 1, y, h, e => by
    obtain ⟨i', z⟩ := CapsOk.get (j := j) (y := y) h.2 (by simpa using e)
    exact ⟨i', by simpa using z⟩
  | [], _ :: _, _, _, h, _ => h.elim
  | _ :: _, [], _, _, h, _ => h.elim
theorem CapsOk.len {X : Cx} {sc : Scope} : ∀ {is : List Nat} {ys : List Str}, CapsOk X sc is ys → is.length = ys.length
  | [], [], _ => rfl
  | i :: is, y :: ys, h => by
    rw [List.length_cons, List.length_cons, CapsOk.len h.2]
  | [], _ :: _, h => h.elim
  | _ :: _, [], h => h.elim

/-- the captured slots -/
def capV (caps : List Nat) (σ : L2.St) : L2.St := caps.map fun j => (σ[j]?).getD none

section
variable {X : Cx} {pins : List (Addr × Obj)} {σ : L2.St} {H : Hp} {s : Shared}
/-- the generator's context begins -/
theorem inv_beginG {xs : List Str} {x : Str} {sc : Scope} {caps : List Nat} {cd : Value} {C a : Addr} {A : Around} {s2 s5 : Shared} {H1 H2 : Hp} {fp : List Addr} {go : Obj} {mC : Str → Option Value}
    (I1 : Inv X pins σ H1 s2) (I5 : Inv X pins σ H2 s5) (S : GenS X.env sc x) (hc : CapsOk X sc caps xs) (hA : A.handled = none) (hfr : A.frames = some X.stack)
    (hfp : ∀ b ∈ fp, FpOk X pins H1 b) (hfp2 : ∀ b ∈ fp, H2 b = none ∧ b < s2.heap.objs.size)
    (un : Un (frs X.stack) fp H1 H2 s2.heap s5.heap) (hC : s2.heap.objs.size ≤ C) (hns : s5.heap.Ns C mC) (hHC : H2 C = none) (hCf : C ∉ frs X.stack)
    (ha : s5.heap.get? a = some go) (hHa : H2 a = none) (haC : a ≠ C) (haf : a ∉ frs X.stack) (hgo : ∀ v, go.data ≠ .cell v) :
    Inv (gcx X (x :: xs) sc cd C A s2 H1 fp [(a, go)]) [] (none :: capV caps σ) H2 s5 := by
  have cm : ∀ y c, (cloFrom X.env.cells sc.names []).lookup y = some c → X.env.cells.lookup y = some c := fun y c e => NdefX.clo_cm S.free e
  have stk_lt : ∀ b ∈ frs X.stack, b < s2.heap.objs.size := fun b hb => by
    obtain ⟨_, o, ho, _⟩ := I1.stack.mem hb
    exact Heap.lt_size ho
  have cellLt : ∀ y c, X.env.cells.lookup y = some c → c < s2.heap.objs.size := fun y c e => by
    obtain ⟨v, q⟩ := I1.cell y c e
    exact q.lt
  refine ⟨⟨I1.ok.mod, S.kind, I1.ok.glob, rfl, hC, fun y z c e1 e2 => I1.ok.inj y z c (cm y c e1) (cm z c e2), fun y hy => ?_, fun y c hf _ => Bool.noConfusion hf, fun _ => hA, ?_, .inr ⟨rfl, rfl⟩, fun b hb => ⟨?_, fun y c e z => ?_⟩, I1.bs, Nat.le_trans I1.ok.bsz I1.sz, fun b o e hb => ?_, fun b hb hb2 => ?_, I1.stack, I1.stkFree⟩,
    ?_, I5.bare, un, ⟨mC, hns, fun j y v e1 e2 e3 => ?_⟩, fun y c e => I5.cell y c (cm y c e), hHC, fun y c e => I5.freeC y c (cm y c e), fun p hp => ?_, I5.hok, ?_⟩
  · have hy' : sc.names.lookup y = some .cell ∨ sc.names.lookup y = some .free := hy
    rcases hy' with q | q
    · exact absurd rfl (S.cell _ (PySem.mem_of_lookup q))
    · have hm := PySem.mem_of_lookup q
      obtain ⟨c, e⟩ := S.free _ hm rfl
      exact ⟨c, NdefX.clo_has S.free hm e⟩
  · show A.frames.map (gE X sc cd C :: ·) = some (gE X sc cd C :: X.stack)
    rw [hfr]
    rfl
  · show b ≠ C
    exact Nat.ne_of_lt (Nat.lt_of_lt_of_le (hfp2 b hb).2 hC)
  · obtain ⟨_, _, _, _, f4, _⟩ := hfp b hb
    exact f4 y c (cm y c e) z
  · have q := (hfp b hb).2.2.2.1
    rcases q with q | q
    · exact I1.ok.noex b o e q
    · have h1 := (I1.ok.bs b o e).1
      exact absurd (Nat.lt_of_lt_of_le (Heap.lt_size h1) q) (Nat.lt_irrefl _)
  · obtain ⟨_, f1, f2, _⟩ := hfp b hb
    rcases List.mem_cons.mp (I1.stkSub b hb2) with z | z
    · exact f1 z
    · exact f2 z
  · show s5.os = s2.os
    rw [I5.os, I1.os]
  · cases j with
    | zero =>
      have e2' : (none : Option V) = some v := by simpa using e2
      cases e2'
    | succ j =>
      have e1' : xs[j]? = some y := by
        have q : (x :: xs)[j + 1]? = some y := e1
        simpa using q
      obtain ⟨i, hi, hN, hk, hfree⟩ := hc.get e1'
      have hσ : σ[i]? = some (some v) := by
        have q : (capV caps σ)[j]? = some (some v) := by simpa using e2
        unfold capV at q
        rw [List.getElem?_map, hi] at q
        have q' : (σ[i]?).getD none = some v := by simpa using q
        cases z : σ[i]? with
        | none => rw [z] at q'; cases q'
        | some o => rw [z] at q'; exact congrArg some q'
      obtain ⟨m, hm, hl⟩ := I5.loc
      obtain ⟨u, ru, lk⟩ := hl i y v hN hσ (hk.elim (fun z => .inr (.inl z)) fun z => .inr (.inr z))
      refine ⟨u, ru, .inr ⟨.inr hfree, ?_⟩⟩
      rcases lk with ⟨z, _⟩ | ⟨_, c, e, ic⟩
      · have z' : X.env.scope.names.lookup y = some .local := z
        rcases hk with q | q <;> (rw [z'] at q; cases q)
      · exact ⟨c, NdefX.clo_has S.free (PySem.mem_of_lookup hfree) e, ic⟩
  · have hp' : p = (a, go) := by
      have q : p ∈ [(a, go)] ++ ([] : List (Addr × Obj)) := hp
      simpa using q
    subst hp'
    exact ⟨ha, hHa, haC, haf, hgo⟩
  · show (none :: capV caps σ).length = (x :: xs).length
    unfold capV
    rw [List.length_cons, List.length_cons, List.length_map, hc.len]
end
end GxA

set_option maxHeartbeats 2000000
namespace GxA
open PySem PySem.Spec PyProof.Rows L2 GxR GenW

/-- the reading of all(.. for x in ..), any(.. for x in ..) -/
def tGx (all : Bool) (P : Addr) (caps : List Nat) (wi : TI) (te : TE) : TE := fun σ H Q => wi σ H fun J H1 => TabG H1 P ∧ ∀ H2, Tabbed P H1 H2 →
  ∃ W : Nat → Nat → Hp → Prop, (∃ m, W 0 m H2) ∧ gW all J (capV caps σ) te Q W

section
variable {X : Cx} {pins : List (Addr × Obj)} {σ : L2.St} {H : Hp} {s : Shared}
theorem gen_make {all : Bool} {c P : Addr} {elt iter : Expr} {x : Str} {xs : List Str} {caps : List Nat} {px gpos : Pos} {sc : Scope} {wi : TI} {te : TE} {k : Nat} {Q : VK} {Q' : Value → Shared → Prop}
    (hr : Room (k + 1) X.A) (TB : TabB X.base X.mg c P) (hcode : X.env.code = .ref c) (S : GenS X.env sc x) (hcap : CapsOk X sc caps xs) (hnd : (x :: xs).Nodup) (hi : PI X (.Name x px) iter wi)
    (hel : ∀ (cd : Value) (C : Addr) (A : Around) (s2 : Shared) (H1 : Hp) (fp : List Addr) (pn : List (Addr × Obj)), Room k (A.deeper (gE X sc cd C)) → PE (gcx X (x :: xs) sc cd C A s2 H1 fp pn) elt te)
    (hs : ∀ v, genFold iter X.env v = pure v) (I : Inv X pins σ H s) (h : tGx all P caps wi te σ H Q)
    (hQ : ∀ (X' : Cx) (a : Addr) (g m : Nat) (go : Obj) (s5 : Shared), X'.prog = X.prog → X'.w = X.w → (a, go) ∈ X'.pn → (∀ h : Heap, h.get? a = some go → h.IsGen a g) → Ready X' X.prog X.w X.A.in1 a g all Q m s5 →
      (∀ b s', Over X' Q b s' → ∃ v H', Inv X pins σ H' s' ∧ RelV v (.bool b) ∧ Q v H') → Q' (.ref a) s5) :
    wpAny (model X.prog X.w) X.A (eval (.GeneratorExp elt [⟨.Name x px, iter, [], 0⟩] sc gpos) X.env) Q' X.xe s := by
  have hdep : X.A.depth < recursionLimit := hr.depth
  refine wpAny_GeneratorExp_make S.co (closure_ok S.free) S.cell S.dot S.kind hdep ?_ hs
  refine wpAny_mono (hi.run pins s σ H _ I h) (fun xv s1 h1 => wpAny_mono h1 (fun itv s2 h2 => ?_) fun _ _ e => e) fun _ _ e => e
  obtain ⟨it, fp, tn, J, H1, rfl, I1, T, t0, hfp, ⟨ps, hP, ht⟩, hW⟩ := h2
  refine ⟨I1.nolimit, ?_⟩
  have hPs : s2.heap.get? P = some { cls := .none, data := .fields ps } := I1.hok P _ hP
  have cdh : PySem.W.CodeHd s2.heap c P := TB.code.keeps fun b u e => I1.bk b u e
  have hPlt : P < s2.heap.objs.size := Heap.lt_size hPs
  have main : ∀ (code : Value) (h3 : Heap) (tk : Nat) (ps' : Array Value), Heap.ExtBut P s2.heap h3 → s2.heap.objs.size ≤ h3.objs.size → h3.get? P = some { cls := .none, data := .fields ps' } → (∃ more, ps' = ps ++ more) → TriplesOk ps'.toList →
      wpAny (model X.prog X.w) X.A (builtinsFor X.env.globals X.env.builtins) (fun bi s₄ =>
        ∀ h', h'.Ns s₄.heap.objs.size (fun y => if y = ".0" then some (Value.ref it) else none) → Heap.SameBut s₄.heap.objs.size (s₄.heap.push { cls := .type "frame", data := .dict #[] }) h' →
          Q' (.ref h'.objs.size) { s₄ with
            gens := s₄.gens.push (.fresh (.compStart (.GeneratorExp elt [⟨.Name x px, iter, [], 0⟩] sc gpos) 0 (.ref it) .none (genEnv sc (cloFrom X.env.cells sc.names []) s₄.heap.objs.size code bi X.env))),
            toks := s₄.toks + 1 + 1 + 1,
            heap := h'.push { cls := .type "generator", data := .fields #[.int s₄.gens.size 0, .str "<genexpr>" (s₄.toks + 1), .str (X.env.qual ++ "<genexpr>") (s₄.toks + 1 + 1)] } }) X.xe { s2 with heap := h3, toks := tk } := by
    intro code h3 tk ps' hx hsz hP3 hmore ht3
    obtain ⟨bm, ob, e1, e2, e3, e4, e5, e6, e7, e8⟩ := TB.bm
    have keep3 : ∀ b u, b ≠ P → s2.heap.get? b = some u → h3.get? b = some u := fun b u hb e => hx b u hb e
    refine wpAny_builtinsFor (m := X.mg) (by rw [I1.ok.glob]; exact (I1.mod.glob.keeps I1.bk).extBut hx TB.gP) e1 e2 (keep3 _ _ e4 (I1.bk _ _ e5)) e6 e7 e8 ?_
    intro h' hns hsame
    obtain ⟨more, em⟩ := hmore
    -- names for the new things
    generalize hgo : ({ cls := .type "generator", data := .fields #[.int s2.gens.size 0, .str "<genexpr>" (tk + 1), .str (X.env.qual ++ "<genexpr>") (tk + 1 + 1)] } : Obj) = go
    have szh' : h'.objs.size = h3.objs.size + 1 := by rw [hsame.1, Heap.size_push]
    have keep' : ∀ b o, h3.get? b = some o → h'.get? b = some o := fun b o e => hsame.extBut b o (Nat.ne_of_lt (Heap.lt_size e)) (Heap.get?_push_of_some _ e)
    have keep5 : ∀ b o, h3.get? b = some o → (h'.push go).get? b = some o := fun b o e => Heap.get?_push_of_some _ (keep' b o e)
    have k25 : ∀ b o, b ≠ P → s2.heap.get? b = some o → (h'.push go).get? b = some o := fun b o hb e => keep5 b o (keep3 b o hb e)
    have hP5 : (h'.push go).get? P = some { cls := .none, data := .fields (ps ++ more) } := by
      rw [← em]
      exact keep5 P _ hP3
    have hgoat : (h'.push go).get? h'.objs.size = some go := by
      rw [← hgo]
      exact Heap.get?_push_size _ rfl
    have bare5 : AllBare (s2.gens.push (.fresh (.compStart (.GeneratorExp elt [⟨.Name x px, iter, [], 0⟩] sc gpos) 0 (.ref it) .none (gE X sc code h3.objs.size)))) := I1.bare.push rfl
    have I5 := inv_tab (P := P) (more := more) (h' := h'.push go) (g' := s2.gens.push (.fresh (.compStart (.GeneratorExp elt [⟨.Name x px, iter, [], 0⟩] sc gpos) 0 (.ref it) .none (gE X sc code h3.objs.size)))) (d' := s2.drawn) (t' := tk + 1 + 1 + 1) I1 hP k25 hP5 bare5
    have nP : ∀ b, H1 b = none → b ≠ P := fun b e z => by
      rw [z, hP] at e
      cases e
    have at2 : ∀ b, b ≠ P → upd H1 P (.tbl (ps ++ more)) b = H1 b := fun b hb => upd_ne hb
    have hT2 : Tabbed P H1 (upd H1 P (.tbl (ps ++ more))) := ⟨⟨ps ++ more, upd_same, by rw [← em]; exact ht3⟩, fun b hb => upd_ne hb⟩
    obtain ⟨W, ⟨m, w0⟩, hgW⟩ := hW _ hT2
    have un : Un (frs X.stack) fp H1 (upd H1 P (.tbl (ps ++ more))) s2.heap (h'.push go) := by
      refine ⟨fun b o e n _ _ => k25 b o (nP b n) e, fun b o e n _ _ => ⟨o.slots, k25 b o (nP b n) e⟩, fun b o e n _ => by rw [at2 b (nP b n)]; exact n, fun b o e _ => ?_, fun b zs e => ?_, fun b o u e => ?_, fun b qs e => ?_⟩
      · by_cases hb : b = P
        · rw [hb]
          exact ⟨_, hP5⟩
        · exact ⟨o, k25 b o hb e⟩
      · rw [at2 b fun z => by rw [z, hP] at e; cases e]
        exact e
      · rw [at2 b fun z => by rw [z, hP] at e; cases e]
        exact e
      · by_cases hb : b = P
        · rw [hb, hP] at e
          cases e
          rw [hb, upd_same]
          exact ⟨more, rfl⟩
        · rw [at2 b hb, e]
          exact ⟨#[], by simp⟩
    have young : ∀ b, s2.heap.objs.size ≤ b → H1 b = none ∧ b ∉ frs X.stack := fun b hb => ⟨I1.hok.fresh hb, fun hm => by
      obtain ⟨_, o, ho, _⟩ := I1.stack.mem hm
      exact absurd (Nat.lt_of_lt_of_le (Heap.lt_size ho) hb) (Nat.lt_irrefl _)⟩
    have y3 := young h3.objs.size hsz
    have y5 := young h'.objs.size (by rw [szh']; exact Nat.le_succ_of_le hsz)
    have hfp2 : ∀ b ∈ fp, upd H1 P (.tbl (ps ++ more)) b = none ∧ b < s2.heap.objs.size := fun b hb => by
      have n := (hfp b hb).1
      obtain ⟨o, ho, _⟩ := T.obj _ _ t0 b hb
      exact ⟨by rw [at2 b (nP b n)]; exact n, Heap.lt_size ho⟩
    have hA3 : X.A.in1.in1.handled = none := hr.hd
    have hfr3 : X.A.in1.in1.frames = some X.stack := I1.ok.frames
    have hroom : Room k (X.A.in1.in1.deeper (gE X sc code h3.objs.size)) := ⟨hr.hd, by have := hr.dp; show X.A.depth + 1 + 3 * k + 5 < _; omega, by have := hr.un; show X.A.units + 1 + 1 + 3 + 16 * k + 200 < _; omega⟩
    have hel' := hel code h3.objs.size X.A.in1.in1 s2 H1 fp [(h'.objs.size, go)] hroom
    have neC : h'.objs.size ≠ h3.objs.size := by
      rw [szh']
      exact Nat.succ_ne_self _
    have J5 : Inv (gcx X (x :: xs) sc code h3.objs.size X.A.in1.in1 s2 H1 fp [(h'.objs.size, go)]) [] (none :: capV caps σ) (upd H1 P (.tbl (ps ++ more)))
        { s2 with heap := h'.push go, gens := s2.gens.push (.fresh (.compStart (.GeneratorExp elt [⟨.Name x px, iter, [], 0⟩] sc gpos) 0 (.ref it) .none (gE X sc code h3.objs.size))), drawn := s2.drawn, toks := tk + 1 + 1 + 1 } :=
      inv_beginG (s5 := { s2 with heap := h'.push go, gens := s2.gens.push (.fresh (.compStart (.GeneratorExp elt [⟨.Name x px, iter, [], 0⟩] sc gpos) 0 (.ref it) .none (gE X sc code h3.objs.size))), drawn := s2.drawn, toks := tk + 1 + 1 + 1 })
        I1 I5 S hcap hA3 hfr3 hfp hfp2 un hsz (hns.push go) (by rw [at2 _ (nP _ y3.1)]; exact y3.1) y3.2 hgoat (by rw [at2 _ (nP _ y5.1)]; exact y5.1) neC y5.2 (fun v q => by rw [← hgo] at q; cases q)
    have tn5 : tn 0 (h'.push go) := T.keep _ _ _ t0 fun b hb o e => k25 b o (nP b (hfp b hb).1) e
    have fpG : ∀ b ∈ fp, FpOk (gcx X (x :: xs) sc code h3.objs.size X.A.in1.in1 s2 H1 fp [(h'.objs.size, go)]) [] (upd H1 P (.tbl (ps ++ more))) b := fun b hb => by
      obtain ⟨f0, f1, f2, f3, f4, f5⟩ := hfp b hb
      have lt := (hfp2 b hb).2
      refine ⟨(hfp2 b hb).1, Nat.ne_of_lt (Nat.lt_of_lt_of_le lt hsz), fun hm => ?_, .inl hb, fun y c e => f4 y c (NdefX.clo_cm S.free e), fun p hp z => ?_⟩
      · rcases List.mem_cons.mp (I1.stkSub b hm) with z | z
        · exact f1 z
        · exact f2 z
      · have hp' : p = (h'.objs.size, go) := by
          have q : p ∈ [(h'.objs.size, go)] ++ ([] : List (Addr × Obj)) := hp
          simpa using q
        subst hp'
        have z' : h'.objs.size = b := z
        rw [← z', szh'] at lt
        exact absurd (Nat.lt_of_lt_of_le lt (Nat.le_succ_of_le hsz)) (Nat.lt_irrefl _)
    refine hQ (gcx X (x :: xs) sc code h3.objs.size X.A.in1.in1 s2 H1 fp [(h'.objs.size, go)]) h'.objs.size s2.gens.size m go _ rfl rfl List.mem_cons_self (fun h e => ⟨go, _, _, e, by rw [← hgo], by rw [← hgo], by rw [← hgo]⟩) ?_ (fun b s' ov => ?_)
    · refine ⟨⟨go, _, _, ?_, by rw [← hgo], by rw [← hgo], by rw [← hgo]⟩, ?_, bare5, _, Array.getElem?_push_size .., fun s' z => ⟨rfl, ?_⟩⟩
      · exact hgoat
      · exact J5.nolimit
      · have z' : Still s2.gens.size { s2 with heap := h'.push go, gens := s2.gens.push (.fresh (.compStart (.GeneratorExp elt [⟨.Name x px, iter, [], 0⟩] sc gpos) 0 (.ref it) .none (gE X sc code h3.objs.size))), drawn := s2.drawn, toks := tk + 1 + 1 + 1 } s' :=
          ⟨z.heap, z.os, z.bare, z.sz⟩
        have J6 := inv_still J5 z'
        refine seg_startG (J := J) (W := W) (te := te) (x := x) (σc := capV caps σ) T S.loc S.co hnd rfl hel' hgW m 0 s' s' _ none w0 J6 fpG ?_ z.sz
        rw [z'.heap]
        exact tn5
    · obtain ⟨pins', σ', H', J', q⟩ := ov
      refine ⟨.bl b, H', ?_, rfl, q⟩
      refine I1.call' (ch := fp) (by rw [J'.os]; rfl) J'.base J'.hok J'.bare fun b hb => ?_
      obtain ⟨f0, f1, f2, f3, f4, f5⟩ := hfp b hb
      exact ⟨f3, f1, f4, f5⟩
  cases hf : codeAmong gpos ps.toList with
  | none =>
    refine wpAny_genexprCodeX hcode (cdh.code hPs ht) (cdh.tab hPs) hf fun c' h' tk hx hge hlt hco' _ htab' _ => ?_
    obtain ⟨o1, vs, f1, tf, fl, tg, inF, tx, tt, op, _, _, _, _, _, _, _, _, _, htr, _⟩ := hco'
    exact main _ h' tk _ hx (Nat.le_trans hge (Nat.le_of_lt hlt)) htab'.2 ⟨_, rfl⟩ htr
  | some cv =>
    refine wpAny_genexprCode_hit hcode (cdh.code hPs ht) hf ?_
    exact main cv s2.heap s2.toks ps (Heap.ExtBut.refl _ _) (Nat.le_refl _) hPs ⟨#[], by simp⟩ ht

theorem pe_allG {c P : Addr} {elt iter : Expr} {x : Str} {xs : List Str} {caps : List Nat} {px p pos gpos : Pos} {sc : Scope} {wi : TI} {te : TE} {k : Nat}
    (hr : Room (k + 1) X.A) (hg : Gl X "all") (hm : X.mg "all" = none) (TB : TabB X.base X.mg c P) (hcode : X.env.code = .ref c) (S : GenS X.env sc x) (hcap : CapsOk X sc caps xs) (hnd : (x :: xs).Nodup) (hi : PI X (.Name x px) iter wi)
    (hel : ∀ (cd : Value) (C : Addr) (A : Around) (s2 : Shared) (H1 : Hp) (fp : List Addr) (pn : List (Addr × Obj)), Room k (A.deeper (gE X sc cd C)) → PE (gcx X (x :: xs) sc cd C A s2 H1 fp pn) elt te)
    (hs : ∀ v, genFold iter X.env v = pure v) (hb : bootBuiltins "all" = some (.builtin "all") := by decide +kernel)
    (he : starEach [.GeneratorExp elt [⟨.Name x px, iter, [], 0⟩] sc gpos] X.env = (false, eval (.GeneratorExp elt [⟨.Name x px, iter, [], 0⟩] sc gpos) X.env) :: starEach [] X.env := by rfl) :
    PE X (.Call (.Name "all" p) [.GeneratorExp elt [⟨.Name x px, iter, [], 0⟩] sc gpos] [] pos) (tGx true P caps wi te) := by
  refine ⟨fun pins s σ H Q I h => ?_⟩
  refine wpAny_Call_Name_kw (ld_blt I hg hm hb ?_)
  refine PyProof.Rows.callWith_builtin1 ?_ he (by rfl)
  rw [he]
  show wpAny _ _ (spliced ((false, eval (.GeneratorExp elt [⟨.Name x px, iter, [], 0⟩] sc gpos) X.env) :: backTo pos (starEach [] X.env))) _ _ s
  refine Calls.spliced_cons (gen_make hr TB hcode S hcap hnd hi hel hs I h fun X' a g m go s5 e1 e2 hp hgo rd hfin => ?_)
  refine Calls.spliced_nil ?_
  have hd : X.A.depth < recursionLimit := hr.depth
  refine call_function_tree F.kind_all F.plain_all F.entry_all (F.args_all1 _) ?_
  unfold Builtin.«all»
  refine wpAny_bind (m := oneArg "all" _) (wpAny_pure ?_)
  refine wpAny_bind (wpAny_pyIter_gen rd.1 ?_)
  rw [← e1, ← e2] at rd ⊢
  exact wpAny_pure ⟨plainId_quiet F.plain_all_loop _, all_G (A := X.A) hr.hd hd hp hgo (fun b s' ov => hfin b s' ov) m s5 rd⟩
theorem pe_anyG {c P : Addr} {elt iter : Expr} {x : Str} {xs : List Str} {caps : List Nat} {px p pos gpos : Pos} {sc : Scope} {wi : TI} {te : TE} {k : Nat}
    (hr : Room (k + 1) X.A) (hg : Gl X "any") (hm : X.mg "any" = none) (TB : TabB X.base X.mg c P) (hcode : X.env.code = .ref c) (S : GenS X.env sc x) (hcap : CapsOk X sc caps xs) (hnd : (x :: xs).Nodup) (hi : PI X (.Name x px) iter wi)
    (hel : ∀ (cd : Value) (C : Addr) (A : Around) (s2 : Shared) (H1 : Hp) (fp : List Addr) (pn : List (Addr × Obj)), Room k (A.deeper (gE X sc cd C)) → PE (gcx X (x :: xs) sc cd C A s2 H1 fp pn) elt te)
    (hs : ∀ v, genFold iter X.env v = pure v) (hb : bootBuiltins "any" = some (.builtin "any") := by decide +kernel)
    (he : starEach [.GeneratorExp elt [⟨.Name x px, iter, [], 0⟩] sc gpos] X.env = (false, eval (.GeneratorExp elt [⟨.Name x px, iter, [], 0⟩] sc gpos) X.env) :: starEach [] X.env := by rfl) :
    PE X (.Call (.Name "any" p) [.GeneratorExp elt [⟨.Name x px, iter, [], 0⟩] sc gpos] [] pos) (tGx false P caps wi te) := by
  refine ⟨fun pins s σ H Q I h => ?_⟩
  refine wpAny_Call_Name_kw (ld_blt I hg hm hb ?_)
  refine PyProof.Rows.callWith_builtin1 ?_ he (by rfl)
  rw [he]
  show wpAny _ _ (spliced ((false, eval (.GeneratorExp elt [⟨.Name x px, iter, [], 0⟩] sc gpos) X.env) :: backTo pos (starEach [] X.env))) _ _ s
  refine Calls.spliced_cons (gen_make hr TB hcode S hcap hnd hi hel hs I h fun X' a g m go s5 e1 e2 hp hgo rd hfin => ?_)
  refine Calls.spliced_nil ?_
  have hd : X.A.depth < recursionLimit := hr.depth
  refine call_function_tree F.kind_any F.plain_any F.entry_any (F.args_any1 _) ?_
  unfold Builtin.«any»
  refine wpAny_bind (m := oneArg "any" _) (wpAny_pure ?_)
  refine wpAny_bind (wpAny_pyIter_gen rd.1 ?_)
  rw [← e1, ← e2] at rd ⊢
  exact wpAny_pure ⟨plainId_quiet F.plain_any_loop _, any_G (A := X.A) hr.hd hd hp hgo (fun b s' ov => hfin b s' ov) m s5 rd⟩
end
end GxA

set_option maxHeartbeats 2000000
/-! sorted of lists, and of sets, of tuples of ints: any number, any lengths. -/
namespace SrT
open PySem PySem.Spec PyProof.Rows L2 PySem.W
/-- v is a tuple of the ints ns -/
def IsI (h : Heap) (v : Value) (ns : List Int) : Prop := ∃ (a : Addr) (items : Array Value), v = .ref a ∧ IsTup h a items ∧ IntsAre items.toList ns
theorem IsI.keeps {h h' : Heap} {v : Value} {ns : List Int} (x : IsI h v ns) (k : ∀ b o, v = .ref b → h.get? b = some o → h'.get? b = some o) : IsI h' v ns := by
  obtain ⟨a, items, e, ⟨o, ho, r⟩, i⟩ := x
  exact ⟨a, items, e, ⟨o, k _ _ e ho, r⟩, i⟩
theorem IsI.type {M : Model} {h : Heap} {v : Value} {ns : List Int} (x : IsI h v ns) : Looks M h (typeOf v) (.type "tuple") := by
  obtain ⟨a, items, rfl, ⟨o, ho, hc, n, hd⟩, i⟩ := x
  have q : Looks M h (typeOf (.ref a)) o.cls := (Looks.ld ho).andThen .now
  rw [hc] at q
  exact q
theorem IsI.inj {h : Heap} {v : Value} {ns ms : List Int} (x : IsI h v ns) (y : IsI h v ms) : ns = ms := by
  obtain ⟨a, items, rfl, ⟨o, ho, hc, n, hd⟩, i⟩ := x
  obtain ⟨a', items', e, ⟨o', ho', hc', n', hd'⟩, i'⟩ := y
  cases e
  rw [ho] at ho'
  cases ho'
  rw [hd] at hd'
  cases hd'
  have e1 := i.numsOf
  have e2 := i'.numsOf
  exact e1.symm.trans e2
section
variable {prog : Program} {w : World} {A : Around} {E : Value → Shared → Prop} {s : Shared}
theorem lex_run {b : Bool} {Q : Bool → Shared → Prop} : ∀ (vs us : List Value) (ns ms : List Int) (i : Nat) (fin : Bool), IntsAre vs ns → IntsAre us ms → fin = decide (ns.length < ms.length) → Q (HT.lexLt ns ms) s → KatLex prog w A b fin Q (vs.zip us) i s
  | [], us, ns, ms, i, fin, h1, h2, hf, h => by
    cases h1
    cases h2 with
    | nil =>
      rw [hf]
      exact kat_nil h
    | cons n t h2 =>
      rw [hf]
      exact kat_nil h
  | v :: vs, [], ns, ms, i, fin, h1, h2, hf, h => by
    cases h2
    cases h1 with
    | cons n t h1 =>
      rw [hf]
      exact kat_nil h
  | v :: vs, u :: us, ns, ms, i, fin, h1, h2, hf, h => by
    cases h1 with
    | cons n t h1 =>
      cases h2 with
      | cons m t2 h2 =>
        rename_i ns ms
        rw [List.zip_cons_cons]
        refine kat_cons (wpAny_eqBool_int ?_)
        refine kat_go (fun e => kat_yes ?_) (fun e => kat_no ?_)
        · have hnm : n = m := by simpa using e
          subst hnm
          rw [HT.lexLt_cons, if_pos rfl] at h
          refine lex_run vs us ns ms (i + 1) fin h1 h2 ?_ h
          rw [hf, List.length_cons, List.length_cons]
          simp
        · have hnm : ¬ n = m := by simpa using e
          rw [HT.lexLt_cons, if_neg hnm] at h
          exact oneLt_any_int h
theorem lt_tuples {b : Bool} {v u : Value} {ns ms : List Int} {Q : Bool → Shared → Prop} (hv : IsI s.heap v ns) (hw : IsI s.heap u ms) (h : Q (HT.lexLt ns ms) s) : wpAny (model prog w) A (keyLt' (tuples' b) v u) Q E s := by
  obtain ⟨a, items, rfl, ⟨o, ho, hc, n, hd⟩, i⟩ := hv
  obtain ⟨a', items', rfl, ⟨o', ho', hc', n', hd'⟩, i'⟩ := hw
  refine kat_lt ho hd ho' hd' (lex_run _ _ ns ms 0 _ i i' ?_ h)
  rw [← i.length, ← i'.length, Array.length_toList, Array.length_toList]
theorem rich_lt {v u : Value} {ns ms : List Int} {Q : Value → Shared → Prop} (hu : A.units < cLine) (hv : IsI s.heap v ns) (hw : IsI s.heap u ms) (h : Q (.bool (HT.lexLt ns ms)) s) : wpAny (model prog w) A (richCompare .Lt v u) Q E s := by
  obtain ⟨a, items, rfl, t, i⟩ := hv
  obtain ⟨a', items', rfl, t', i'⟩ := hw
  exact (HT.lt_tupInts t t' i i' hu h : wpAny (model prog w) A (compareOp .Lt (.ref a) (.ref a')) Q E s)
theorem lt_general {v u : Value} {ns ms : List Int} {Q : Bool → Shared → Prop} (hu : A.units < cLine) (hv : IsI s.heap v ns) (hw : IsI s.heap u ms) (h : Q (HT.lexLt ns ms) s) : wpAny (model prog w) A (keyLt' general' v u) Q E s := by
  show wpAny (model prog w) A (oneLt' false v u) Q E s
  rw [oneLt'_eq]
  simp only [Bool.false_eq_true, if_false]
  exact wpAny_bind (rich_lt hu hv hw (wpAny_truthy_bool h))
theorem lt_one {v u : Value} {ns ms : List Int} {Q : Bool → Shared → Prop} (hu : A.units < cLine) (hv : IsI s.heap v ns) (hw : IsI s.heap u ms) (h : Q (HT.lexLt ns ms) s) : wpAny (model prog w) A (keyLt' oneType' v u) Q E s := by
  obtain ⟨a, items, rfl, ⟨⟨cls, dd, data, sl⟩, ho, hc, n, hd⟩, i⟩ := hv
  obtain ⟨a', items', rfl, ⟨⟨cls', dd', data', sl'⟩, ho', hc', n', hd'⟩, i'⟩ := hw
  simp only at hc hd hc' hd'
  subst hc hd hc' hd'
  rw [keyLt'_oneType, oneLt'_eq]
  simp only [if_true]
  refine wpAny_bind (wpAny_cRoomFor hu ?_)
  refine wpAny_bind (wpAny_callSpecialIfBound?_slot (T := "tuple") (name := Str.ofString "__lt__") ⟨_, ho, rfl⟩ PySem.F.slot_tuple_lt ?_)
  refine call_meets PySem.F.slot_tuple_lt ⟨_, ho, rfl⟩ PySem.F.entry_tuple_lt (PySem.F.args_tuple_lt_2 _ _) (HT.tuple_lt_ints a a' items items' n n' dd dd' sl sl' ns ms i i') ⟨ho, ho', ?_⟩
  exact wpAny_truthy_bool h
/-- the first items -/
theorem firsts_run : ∀ (vs : List Value) (k : Value → List Int) {Q : List (Option Value) → Shared → Prop}, (∀ v ∈ vs, IsI s.heap v (k v)) →
    (∀ fs : List (Option Value), Paired (fun (v : Value) (f : Option Value) => match k v with | [] => f = none | x :: _ => ∃ t, f = some (Value.int x t)) vs fs → Q fs s) → wpAny (model prog w) A (vs.mapM firstOfTuple') Q E s
  | [], k, Q, _, h => by
    rw [List.mapM_nil]
    exact wpAny_pure (h [] .nil)
  | v :: vs, k, Q, hv, h => by
    rw [List.mapM_cons]
    refine wpAny_bind ?_
    have hv0 := hv v List.mem_cons_self
    have ht : Looks (model prog w) s.heap (typeOf v) (.type "tuple") := hv0.type
    obtain ⟨a, items, e, ⟨o, ho, hc, n, hd⟩, i⟩ := hv0
    rw [kas_first_eq]
    refine wpAny_bind (ht.here ?_)
    rw [if_neg (by decide +kernel)]
    rw [e]
    refine wpAny_bind (listItems_at ho hd (wpAny_pure ?_))
    refine wpAny_bind (firsts_run vs k (fun u hu => hv u (List.mem_cons_of_mem _ hu)) fun fs hp => wpAny_pure (h _ (.cons ?_ hp)))
    have ei : items[0]? = items.toList[0]? := by rw [Array.getElem?_toList]
    rw [ei]
    cases hk : k v with
    | nil =>
      rw [hk] at i
      generalize items.toList = l at i
      cases i
      rfl
    | cons x r =>
      rw [hk] at i
      generalize items.toList = l at i
      cases i with
      | cons n t i => exact ⟨t, rfl⟩
theorem some_of : ∀ {vs : List Value} {k : Value → List Int} {fs : List (Option Value)}, Paired (fun (v : Value) (f : Option Value) => match k v with | [] => f = none | x :: _ => ∃ t, f = some (Value.int x t)) vs fs →
    (fs.all (·.isSome)) = true → ∃ gs : List Value, fs = gs.map some ∧ ∀ g ∈ gs, ∃ x t, g = Value.int x t
  | _, _, _, .nil, _ => ⟨[], rfl, fun g hg => absurd hg (by simp)⟩
  | v :: vs, k, f :: fs, .cons r p, h => by
    rw [List.all_cons, Bool.and_eq_true] at h
    obtain ⟨gs, e, hg⟩ := some_of p h.2
    cases hk : k v with
    | nil =>
      simp only [hk] at r
      rw [r] at h
      exact absurd h.1 (by simp)
    | cons x y =>
      simp only [hk] at r
      obtain ⟨t, r⟩ := r
      refine ⟨Value.int x t :: gs, by rw [r, e]; rfl, fun g hg' => ?_⟩
      rcases List.mem_cons.mp hg' with z | z
      · exact ⟨x, t, z⟩
      · exact hg g z
/-- the kind that the sort picks -/
def kindT (l : List (List Int)) : SortKind := if l.all (fun k => !k.isEmpty) = true then tuples' true else if (l.head?.elim true (·.isEmpty)) = true then oneType' else general'
theorem kindT_one (l : List (List Int)) : kindT l = general' ∨ kindT l = oneType' ∨ ∃ b, kindT l = tuples' b := by
  unfold kindT
  split
  · exact .inr (.inr ⟨true, rfl⟩)
  · split
    · exact .inr (.inl rfl)
    · exact .inl rfl
theorem all_some : ∀ {vs : List Value} {k : Value → List Int} {fs : List (Option Value)}, Paired (fun (v : Value) (f : Option Value) => match k v with | [] => f = none | x :: _ => ∃ t, f = some (Value.int x t)) vs fs →
    fs.all (·.isSome) = (vs.map k).all (fun k => !k.isEmpty)
  | _, _, _, .nil => rfl
  | v :: vs, k, f :: fs, .cons r p => by
    rw [List.all_cons, List.map_cons, List.all_cons, all_some p]
    cases hk : k v with
    | nil =>
      simp only [hk] at r
      rw [r]
      rfl
    | cons x y =>
      simp only [hk] at r
      obtain ⟨t, r⟩ := r
      rw [r]
      rfl
theorem kind_run {vs : List Value} {k : Value → List Int} {Q : SortKind → Shared → Prop} (h2 : 2 ≤ vs.length) (hv : ∀ v ∈ vs, IsI s.heap v (k v)) (h : Q (kindT (vs.map k)) s) :
    wpAny (model prog w) A (keyKind' vs.toArray) Q E s := by
  rw [keyKind'_eq, List.mapM_toArray, map_eq_pure_bind]
  refine wpAny_bind (wpAny_bind (firsts_run vs k hv fun fs hp => wpAny_pure ?_))
  have hal := all_some hp
  have tr : ∀ (T : Value) (l : List Value) (R : Option Value → Shared → Prop) (hT : (T == T) = true), 0 < l.length → R (some T) s → wpAny (model prog w) A (match ((l.map fun _ => T).toArray)[0]? with
      | some t => pure (if ((l.map fun _ => T).toArray.all (· == t)) = true then some t else none)
      | none => pure none) R E s := by
    intro T l R hT hl hR
    match l, hl with
    | y :: l, _ =>
      have h0 : ((List.map (fun _ => T) (y :: l)).toArray)[0]? = some T := by simp
      rw [h0]
      have h1 : ((List.map (fun _ => T) (y :: l)).toArray.all (· == T)) = true := by
        simp only [List.all_toArray, List.all_map, List.all_eq_true]
        intro _ _
        exact hT
      simp only [h1, if_true]
      exact wpAny_pure hR
  by_cases ha : fs.all (·.isSome) = true
  · rw [if_pos (show fs.toArray.all (·.isSome) = true by simpa using ha)]
    refine wpAny_bind (wpAny_rule ?_)
    obtain ⟨gs, e, hg⟩ := some_of hp ha
    have hfm : (fs.toArray.filterMap id) = gs.toArray := by rw [e]; simp
    have hgl : 0 < gs.length := by
      have q := Paired.length hp
      rw [e, List.length_map] at q
      omega
    rw [hfm, oneTypeOnly'_eq, List.mapM_toArray, map_eq_pure_bind]
    refine wpAny_bind (wpAny_bind (wpAny_bind (kas_mapM (r := Value.type "int") _ (fun v hv' Q' hq => ?_) (wpAny_pure ?_))))
    · obtain ⟨x, t, rfl⟩ := hg v hv'
      exact wpAny_pure hq
    · refine tr (.type "int") gs _ (by rfl) hgl ?_
      refine wpAny_pure ?_
      have e1 : kindT (vs.map k) = tuples' true := by
        unfold kindT
        rw [if_pos (by rw [← hal]; exact ha)]
      rw [e1] at h
      have e2 : ((some (Value.type "int")).any fun x => x != Value.type "tuple") = true := by decide +kernel
      rw [e2]
      exact h
  · rw [if_neg (show ¬ fs.toArray.all (·.isSome) = true by simpa using ha)]
    have hne : ¬ (vs.map k).all (fun k => !k.isEmpty) = true := by
      rw [← hal]
      exact ha
    match vs, fs, hp, h2 with
    | v :: vs, f :: fs, .cons r p, h2 =>
      have hk1 : kindT ((v :: vs).map k) = if (k v).isEmpty = true then oneType' else general' := by
        unfold kindT
        rw [if_neg hne]
        rfl
      rw [hk1] at h
      cases hk : k v with
      | nil =>
        simp only [hk] at r
        rw [hk, if_pos (show ([] : List Int).isEmpty = true from rfl)] at h
        have e0 : ((f :: fs).toArray[0]?.bind id).isSome = false := by
          rw [r]
          rfl
        rw [if_neg (by rw [e0]; exact Bool.false_ne_true), oneTypeOnly'_eq, List.mapM_toArray, map_eq_pure_bind]
        refine wpAny_bind (wpAny_bind (wpAny_bind (kas_mapM (r := Value.type "tuple") _ (fun v hv' Q' hq => (hv v hv').type.here hq) (wpAny_pure ?_))))
        refine tr (.type "tuple") (v :: vs) _ (by rfl) (by simp) ?_
        exact wpAny_pure h
      | cons x y =>
        simp only [hk] at r
        obtain ⟨t, r⟩ := r
        rw [hk, if_neg (by simp)] at h
        have e0 : ((f :: fs).toArray[0]?.bind id).isSome = true := by
          rw [r]
          rfl
        rw [if_pos e0]
        exact wpAny_pure h
end
end SrT

set_option maxHeartbeats 2000000
namespace SrT
open PySem PySem.Spec PyProof.Rows L2 PySem.W
/-! ### the order -/
abbrev lex := HT.lexLt
theorem lex_tot : ∀ xs ys : List Int, lex xs ys = false → lex ys xs = false → xs = ys
  | [], [], _, _ => rfl
  | [], _ :: _, h, _ => by cases h
  | _ :: _, [], _, h => by cases h
  | x :: xs, y :: ys, h1, h2 => by
    have a1 : (if x = y then lex xs ys else decide (x < y)) = false := h1
    have a2 : (if y = x then lex ys xs else decide (y < x)) = false := h2
    by_cases e : x = y
    · subst e
      rw [if_pos rfl] at a1 a2
      rw [lex_tot xs ys a1 a2]
    · rw [if_neg e] at a1
      rw [if_neg (Ne.symm e)] at a2
      have b1 := of_decide_eq_false a1
      have b2 := of_decide_eq_false a2
      omega
theorem lex_irrefl : ∀ xs : List Int, lex xs xs = false
  | [] => rfl
  | x :: xs => by
    show (if x = x then lex xs xs else decide (x < x)) = false
    rw [if_pos rfl]
    exact lex_irrefl xs
/-- a ≤ b -/
abbrev le (a b : List Int) : Bool := !lex b a
theorem le_trans' (a b c : List Int) (h1 : le a b = true) (h2 : le b c = true) : le a c = true := by
  have a1 : lex b a = false := by simpa [le] using h1
  have a2 : lex c b = false := by simpa [le] using h2
  have := (NtL.swo_lexL (fun x : List Int => x)).tr a b c a1 a2
  simpa [le] using this
theorem le_total' (a b : List Int) : (le a b || le b a) = true := by
  cases h : lex b a with
  | false => simp [le, h]
  | true =>
    have := NtL.lex_asym b a h
    simp [le, h, this]
def sortL (l : List (List Int)) : List (List Int) := l.mergeSort le
theorem sortL_perm (l : List (List Int)) : (sortL l).Perm l := List.mergeSort_perm l le
theorem sortL_pw (l : List (List Int)) : (sortL l).Pairwise (fun a b => le a b = true) := List.pairwise_mergeSort le_trans' le_total' l
theorem sorted_eq {l m : List (List Int)} (p : l.Perm m) (hl : l.Pairwise (fun a b => le a b = true)) (hm : m.Pairwise (fun a b => le a b = true)) : l = m := by
  refine List.Perm.eq_of_pairwise (fun a b _ _ h1 h2 => ?_) hl hm p
  exact lex_tot a b (by simpa [le] using h2) (by simpa [le] using h1)
theorem eq_sortL {l m : List (List Int)} (p : l.Perm m) (hl : l.Pairwise (fun a b => le a b = true)) : l = sortL m :=
  sorted_eq (p.trans (sortL_perm m).symm) hl (sortL_pw m)

/-! ### values -/
/-- what an int tuple's value holds -/
noncomputable def keyV (h : Heap) (v : Value) : List Int := by
  classical
  exact if e : ∃ ns, IsI h v ns then e.choose else []
theorem keyV_of {h : Heap} {v : Value} {ns : List Int} (x : IsI h v ns) : keyV h v = ns := by
  have e : ∃ ns, IsI h v ns := ⟨ns, x⟩
  unfold keyV
  rw [dif_pos e]
  exact e.choose_spec.inj x
theorem isI_key {h : Heap} {v : Value} (e : ∃ ns, IsI h v ns) : IsI h v (keyV h v) := by
  obtain ⟨ns, x⟩ := e
  rw [keyV_of x]
  exact x
section
variable {prog : Program} {w : World} {A : Around} {E : Value → Shared → Prop} {s : Shared}
theorem cmp_of {κ : SortKind} (hκ : κ = general' ∨ κ = oneType' ∨ (∃ b, κ = tuples' b)) {vs : List Value} {k : Value → List Int} (hu : A.units < cLine) (hv : ∀ v ∈ vs, IsI s.heap v (k v)) :
    SrtO.Cmp prog w A s κ (fun p => p.1 ∈ vs) (SrtO.lt2 fun v u => lex (k v) (k u)) := by
  intro p q hp hq
  rcases hκ with rfl | rfl | ⟨b, rfl⟩
  · exact lt_general (Q := fun r s' => s' = s ∧ r = lex (k p.1) (k q.1)) (E := fun _ _ => False) hu (hv p.1 hp) (hv q.1 hq) ⟨rfl, rfl⟩
  · exact lt_one (Q := fun r s' => s' = s ∧ r = lex (k p.1) (k q.1)) (E := fun _ _ => False) hu (hv p.1 hp) (hv q.1 hq) ⟨rfl, rfl⟩
  · exact lt_tuples (Q := fun r s' => s' = s ∧ r = lex (k p.1) (k q.1)) (E := fun _ _ => False) (hv p.1 hp) (hv q.1 hq) ⟨rfl, rfl⟩
theorem ti_sortable {a : Addr} {vs : List Value} {k : Value → List Int} (h2 : 2 ≤ vs.length) (hu : A.units < cLine) (hv : ∀ v ∈ vs, IsI s.heap v (k v)) (ha : ∀ v ∈ vs, v ≠ .ref a) :
    SrtO.SortableO prog w A s a vs fun v u => lex (k v) (k u) := by
  intro h' keep
  have hv' : ∀ v ∈ vs, IsI h' v (k v) := fun v hm => (hv v hm).keeps fun b o e g => keep b o (fun z => ha v hm (by rw [e, z])) g
  exact ⟨kindT (vs.map k), fun Q E hq => kind_run (s := { s with heap := h' }) h2 hv' hq, cmp_of (s := { s with heap := h' }) (kindT_one _) hu hv'⟩
end
section
variable {X : Cx} {pins : List (Addr × Obj)} {σ : L2.St} {H : Hp} {s : Shared}
theorem isI_of (I : Inv X pins σ H s) {x : V} {u : Value} {ns : List Int} (h : TupI X.K H x ns) (r : RelV x u) : IsI s.heap u ns := by
  obtain ⟨t, rfl, hs⟩ := h
  cases r
  obtain ⟨its, rv, p, _⟩ := I.tuple hs
  exact ⟨t, its.toArray, rfl, p, by simpa using intsAre_of rv⟩
theorem keys_of (I : Inv X pins σ H s) : ∀ {xs : List V} {us : List Value} {fss : List (List Int)}, Vals xs us → Paired (TupI X.K H) xs fss → us.map (keyV s.heap) = fss ∧ ∀ u ∈ us, IsI s.heap u (keyV s.heap u)
  | _, _, _, .nil, .nil => ⟨rfl, fun u hu => absurd hu (by simp)⟩
  | _, _, _, .cons r t, .cons h q => by
    obtain ⟨e, f⟩ := keys_of I t q
    have hI := isI_of I h r
    refine ⟨by rw [List.map_cons, e, keyV_of hI], fun u hu => ?_⟩
    rcases List.mem_cons.mp hu with z | z
    · rw [z]
      exact isI_key ⟨_, hI⟩
    · exact f u z
theorem mem_refs (I : Inv X pins σ H s) {xs : List V} {us : List Value} {fss : List (List Int)} (r : Vals xs us) (q : Paired (TupI X.K H) xs fss) : ∀ x ∈ xs, ∃ a, x = V.ref a := by
  induction q generalizing us with
  | nil => intro x hx; exact absurd hx (by simp)
  | cons h q ih =>
    cases r with
    | cons _ t =>
      intro x hx
      rcases List.mem_cons.mp hx with z | z
      · obtain ⟨a, e, _⟩ := h
        exact ⟨a, z.trans e⟩
      · exact ih t x z
theorem paired_of {K : PySem.W.Frag} : ∀ {ys : List V} (g : V → List Int), (∀ y ∈ ys, TupI K H y (g y)) → Paired (TupI K H) ys (ys.map g)
  | [], _, _ => .nil
  | y :: ys, g, h => .cons (h y List.mem_cons_self) (paired_of g fun z hz => h z (List.mem_cons_of_mem _ hz))
theorem paired_mem {α β : Type} {F : α → β → Prop} : ∀ {xs : List α} {fs : List β}, Paired F xs fs → ∀ x ∈ xs, ∃ f ∈ fs, F x f
  | _, _, .nil, x, hx => absurd hx (by simp)
  | _, _, .cons h q, x, hx => by
    rcases List.mem_cons.mp hx with z | z
    · subst z
      exact ⟨_, List.mem_cons_self, h⟩
    · obtain ⟨f, hf, r⟩ := paired_mem q x z
      exact ⟨f, List.mem_cons_of_mem _ hf, r⟩
/-- sorted(xs) of tuples of ints -/
def rSortL (K : PySem.W.Frag) : List V → Hp → VK → Prop := fun vs H Q => ∃ (a : Addr) (xs : List V) (fss : List (List Int)), vs = [V.ref a] ∧ SqL K H a xs ∧ Paired (TupI K H) xs fss ∧
  ∀ (ys : List V) (p : Addr), Paired (TupI K H) ys (sortL fss) → (∀ y ∈ ys, y ∈ xs) → H p = none → Q (.ref p) (upd H p (.lst ys))
theorem cr_sortL (hu : X.A.units + 64 < cLine) : CallR X (.builtin "sorted") (rSortL X.K) := by
  intro pins s σ H vs us Q I r h
  obtain ⟨a, xs, fss, rfl, hs, hp, q⟩ := h
  obtain ⟨its, rv, hl, hz⟩ := I.list hs
  rw [Vals.ref1 r]
  obtain ⟨ek, hk⟩ := keys_of I rv hp
  obtain ⟨e1, e2⟩ := bkV_refs rv (mem_refs I rv hp)
  have hlen : its.length ≤ sizeLine := by
    rw [← rv.length]
    exact hz
  refine SrtO.sorted_ord (ltv := fun v u => lex (keyV s.heap v) (keyV s.heap u)) (NtL.swo_lexL (keyV s.heap)) hl.isList hlen (fun h2 h₁ b hb keep => ?_) fun out hs' hst => ?_
  · refine ti_sortable (s := { s with heap := h₁ }) (k := keyV s.heap) h2 (by show X.A.units + 1 + 1 < cLine; omega) (fun v hm => ?_) fun v hm z => ?_
    · exact (hk v hm).keeps fun c o _ e => (keep c o e).2
    · obtain ⟨c, items, e, ⟨o, ho, _⟩, _⟩ := hk v hm
      have z' : Value.ref c = Value.ref b := e.symm.trans z
      injection z' with z'
      exact (keep c o ho).1 z'
  · have hpm : out.Perm its := hst.perm
    have h3 : ∀ u ∈ out, ∃ c, u = Value.ref c := fun u hu => e2 u (hpm.mem_iff.mp hu)
    have hpx : (out.map bkV).Perm xs := by
      rw [e1]
      exact hpm.map bkV
    have hl2 : (out.map bkV).length ≤ sizeLine := by
      rw [hpx.length_eq]
      exact hz
    obtain ⟨ep, he'⟩ := PyProof.Rows.sortedAll_at s.heap its out.toArray
    refine ⟨.ref _, upd H (s.heap.objs.size + 1) (.lst (out.map bkV)), I.laid (t' := s.toks) (fun _ _ => PyProof.Rows.sortedAll_old) (Nat.le_succ _) ⟨hl2, out, ep, bkV_vals h3, by simpa using he'⟩, rfl, q _ _ ?_ (fun y hy => hpx.mem_iff.mp hy) (I.hok.fresh (Nat.le_succ _))⟩
    have es : out.map (keyV s.heap) = sortL fss := by
      refine eq_sortL ?_ ?_
      · rw [← ek]
        exact hpm.map _
      · refine List.pairwise_map.mpr (List.Pairwise.imp (fun {u v} huv => ?_) hs')
        show (!lex (keyV s.heap v) (keyV s.heap u)) = true
        rw [show lex (keyV s.heap v) (keyV s.heap u) = false from huv]
        rfl
    rw [← es]
    clear es hpx hl2 he' hst hs'
    have all : ∀ l : List Value, (∀ u ∈ l, u ∈ its) → Paired (TupI X.K H) (l.map bkV) (l.map (keyV s.heap)) := by
      intro l
      induction l with
      | nil => intro _; exact .nil
      | cons u l ih =>
        intro hl'
        refine .cons ?_ (ih fun v hv => hl' v (List.mem_cons_of_mem _ hv))
        have hm := hl' u List.mem_cons_self
        obtain ⟨c, rfl⟩ := e2 u hm
        have hx : V.ref c ∈ xs := by
          rw [e1]
          exact List.mem_map.mpr ⟨_, hm, rfl⟩
        obtain ⟨f, _, hf⟩ := paired_mem hp _ hx
        have : keyV s.heap (.ref c) = f := keyV_of (isI_of I hf rfl)
        rw [this]
        exact hf
    exact all out fun u hu => hpm.mem_iff.mp hu
end
end SrT

set_option maxHeartbeats 2000000
namespace SrT
open PySem PySem.Spec PyProof.Rows L2 PySem.W
section
variable {P : Program} {w : World} {A : Around} {E : Value → Shared → Prop} {s : Shared}
theorem isI_T {h : Heap} {k : List Int} {b : Addr} (x : IsT P w h k b) : IsI h (.ref b) k := by
  obtain ⟨a, items, e, t, i⟩ := tupInts_of (P := P) (w := w) x
  exact ⟨a, items, e, t, i⟩
theorem sort_call {a : Addr} {vs : List Value} {n : Nat} {k : Value → List Int} {Q : Value → Shared → Prop} (ho : s.heap.get? a = some (seqObj "list" vs.toArray n)) (hz : vs.length ≤ sizeLine) (hu : A.units + 1 < cLine) (hv : ∀ v ∈ vs, IsI s.heap v (k v))
    (h : ∀ out : List Value, out.Pairwise (fun u v => lex (k v) (k u) = false) → out.Perm vs → Q .none { s with heap := sortedHeap s.heap a vs out.toArray }) :
    wpAny (model P w) A (call (.builtin "list.sort") [.ref a]) Q E s := by
  refine wpAny_call_entry slot_list_sort ⟨_, ho, rfl⟩ entry_list_sort (SrtO.list_sort_ord (A := A.in1) (ltv := fun v u => lex (k v) (k u)) (NtL.swo_lexL k) ho hz (fun h2 => ti_sortable h2 hu hv fun v hm z => ?_) fun out hs hb => ⟨_, rfl, h out hs hb.perm⟩) (args_list_sort _)
  obtain ⟨c, items, e, ⟨o, ho2, hc, _⟩, _⟩ := hv v hm
  have z' : Value.ref c = Value.ref a := e.symm.trans z
  injection z' with z'
  rw [z', ho] at ho2
  cases ho2
  exact absurd (Value.type.inj hc) (by decide)
theorem sorted_setS {a : Addr} {L : List (Addr × List Int)} {es : Array (Int × Value)} {ep : Nat} {t : SetTable} {Q : Value → Shared → Prop} (R : SetTR P w s.heap a L es ep t) (hh : A.handled = none) (hu : A.units + 2 < cLine)
    (hQ : ∀ (s' : Shared) (p : Addr) (out : List Value) (c : Nat), (∀ b o, s.heap.get? b = some o → s'.heap.get? b = some o) → s'.gens = s.gens → s'.os = s.os → s.heap.objs.size ≤ p →
      s'.heap.get? p = some (seqObj "list" out.toArray c) → out.Perm (L.map fun q => Value.ref q.1) → out.Pairwise (fun u v => lex (keyV s.heap v) (keyV s.heap u) = false) → Q (.ref p) s') :
    wpAny (model P w) A (call (.builtin "sorted") [.ref a]) Q E s := by
  obtain ⟨o, ho, hex, hd⟩ := R.ob
  have few := R.few
  have size := R.size
  refine Calls.call_function_entry kind_sorted plain_sorted entry_sorted (args_sorted1 _) ?_
  unfold Builtin.«sorted»
  refine wpAny_bind (m := checkCount "sorted" 1 1 _) (wpAny_pure ?_)
  refine wpAny_bind (collect_set (A := A.in1) hh ⟨o, ho, hex.1, hd⟩ R.fits (by unfold scanBound; omega) R.tab.ris R.led fun s1 vs kp hz gens os pm => ?_)
  have rows : es.toList.map (·.2) = L.map fun q => Value.ref q.1 := by
    rw [R.rows]
    unfold L2.rowsOf
    rw [List.map_map] <;> rfl
  rw [rows] at pm
  have lv : vs.length ≤ sizeLine := by
    rw [pm.length_eq, List.length_map, sizeLine_eq]
    omega
  refine wpAny_bind (wpAny_newList ?_ lv)
  have hoL : (s1.heap.push (seqObj "list" vs.toArray 0)).get? s1.heap.objs.size = some (seqObj "list" vs.toArray 0) := Heap.get?_push_size _ rfl
  have ki : ∀ v ∈ vs, IsI (s1.heap.push (seqObj "list" vs.toArray 0)) v (keyV s.heap v) := fun v hv => by
    obtain ⟨q, hq, e⟩ := List.mem_map.mp (pm.mem_iff.mp hv)
    have hi := isI_T (R.tup q hq)
    rw [← e]
    rw [keyV_of hi]
    exact hi.keeps fun b u _ g => Heap.get?_push_of_some _ (kp b u g)
  refine wpAny_bind (wpAny_holding (sort_call (s := { s1 with heap := s1.heap.push (seqObj "list" vs.toArray 0) }) (A := A.in1) hoL lv (by show A.units + 1 + 1 < cLine; omega) ki fun out pw pe => ?_))
  obtain ⟨c, hc⟩ := sortedHeap_at (vs := vs) (out := out.toArray) hoL
  refine wpAny_pure ⟨_, rfl, hQ _ s1.heap.objs.size out c (fun b u e => ?_) gens os hz hc (pe.trans pm) pw⟩
  have q := kp b u e
  have lt := Heap.lt_size q
  show (sortedHeap (s1.heap.push (seqObj "list" vs.toArray 0)) s1.heap.objs.size vs out.toArray).get? b = some u
  rw [sortedHeap_old (Nat.ne_of_lt lt) (by rw [size_push']; exact Nat.lt_succ_of_lt lt)]
  exact Heap.get?_push_of_some _ q
end
section
variable {X : Cx} {pins : List (Addr × Obj)} {σ : L2.St} {H : Hp} {s : Shared}
/-- sorted(a set of tuples of ints) -/
def rSortS (K : PySem.W.Frag) (P : Program) (w : World) : List V → Hp → VK → Prop := fun vs H Q => ∃ (a : Addr) (L : List (Addr × List Int)), vs = [V.ref a] ∧ H a = some (SetTO P w a L) ∧ (∀ p ∈ L, SqT K H p.1 (p.2.map V.int)) ∧
  ∀ (ys : List V) (gss : List (List Int)) (p : Addr), Paired (TupI K H) ys gss → gss.Pairwise (fun x y => lex x y = true) → (∀ z, z ∈ gss ↔ z ∈ L.map (·.2)) → ys.length < 64 → H p = none → Q (.ref p) (upd H p (.lst ys))
theorem cr_sortS (hc : X.calm = true) (hu : X.A.units + 64 < cLine) : CallR X (.builtin "sorted") (rSortS X.K X.prog X.w) := by
  intro pins s σ H vs us Q I r h
  obtain ⟨a, L, rfl, ha, hL, q⟩ := h
  rw [Vals.ref1 r]
  have hT : ∀ p ∈ L, IsT X.prog X.w s.heap p.2 p.1 := fun p hp => Inv.isT I (hL p hp)
  obtain ⟨es, ep, t, R⟩ := SetT0.full (P := X.prog) (w := X.w) (show SetT0 X.prog X.w s.heap a L from (I.hok a _ ha).1) hT
  refine sorted_setS R (I.ok.hd hc) (by omega) fun s' p out c kp gens os hz hc' pm pw => ?_
  have refs : ∀ u ∈ out, ∃ c, u = Value.ref c := fun u hu => by
    obtain ⟨z, hz, e⟩ := List.mem_map.mp (pm.mem_iff.mp hu)
    exact ⟨z.1, e.symm⟩
  have hlen : out.length < 64 := by
    rw [pm.length_eq, List.length_map]
    exact R.few
  have kk : ∀ z ∈ L, keyV s.heap (.ref z.1) = z.2 := fun z hz => keyV_of (isI_T (hT z hz))
  have J : Inv X pins σ (upd H p (.lst (out.map bkV))) s' := by
    obtain ⟨hh, g, d, tk, oo⟩ := s'
    have e1 : g = s.gens := gens
    have e2 : oo = s.os := os
    subst e1 e2
    have J0 := I.laid (a := p) (o := .lst (out.map bkV)) (h' := hh) (t' := tk) kp hz ⟨by rw [List.length_map]; exact Nat.le_of_lt (Nat.lt_trans hlen (by rw [sizeLine_eq]; decide)), out, c, bkV_vals refs, hc'⟩
    exact J0.call' (s' := ⟨hh, s.gens, d, tk, s.os⟩) (ch := []) rfl Un.refl J0.hok J0.bare fun b hb => absurd hb (by simp)
  refine ⟨.ref p, upd H p (.lst (out.map bkV)), J, rfl, q (out.map bkV) (out.map (keyV s.heap)) p ?_ ?_ (fun z => ?_) (by rw [List.length_map]; exact hlen) (I.hok.fresh hz)⟩
  · have all : ∀ l : List Value, (∀ u ∈ l, u ∈ out) → Paired (TupI X.K H) (l.map bkV) (l.map (keyV s.heap)) := by
      intro l
      induction l with
      | nil => intro _; exact .nil
      | cons u l ih =>
        intro hl'
        refine .cons ?_ (ih fun v hv => hl' v (List.mem_cons_of_mem _ hv))
        obtain ⟨z, hz, e⟩ := List.mem_map.mp (pm.mem_iff.mp (hl' u List.mem_cons_self))
        rw [← e, kk z hz]
        exact ⟨z.1, rfl, hL z hz⟩
    exact all out fun u hu => hu
  · have nd : (out.map (keyV s.heap)).Nodup := by
      have e : (L.map fun q => Value.ref q.1).map (keyV s.heap) = L.map (·.2) := by
        rw [List.map_map]
        exact List.map_congr_left fun z hz => kk z hz
      have pm2 := pm.map (keyV s.heap)
      rw [e] at pm2
      exact pm2.nodup_iff.mpr R.nd
    have pw2 : (out.map (keyV s.heap)).Pairwise (fun x y => lex y x = false) := List.pairwise_map.mpr pw
    refine List.Pairwise.imp₂ (fun x y h1 h2 => ?_) pw2 nd
    cases e : lex x y with
    | true => rfl
    | false => exact absurd (lex_tot x y e h1) h2
  · have e : (L.map fun q => Value.ref q.1).map (keyV s.heap) = L.map (·.2) := by
      rw [List.map_map]
      exact List.map_congr_left fun z hz => kk z hz
    have pm2 := pm.map (keyV s.heap)
    rw [e] at pm2
    exact pm2.mem_iff
end
end SrT

set_option maxHeartbeats 2000000
/-! {elt for .. in .. if .. for .. in .. if ..}, elt a tuple of ints; one loop of a comprehension, said once for all clauses. -/
namespace SrT
open PySem PySem.Spec PyProof.Rows L2 PySem.W
section
variable {P : Program} {w : World} {A : Around} {E : Value → Shared → Prop} {s : Shared}
theorem setT_type {a : Addr} {L : List (Addr × List Int)} {es : Array (Int × Value)} {ep : Nat} {t : SetTable} (R : SetTR P w s.heap a L es ep t) : s.TypeIs (.ref a) "set" := by
  obtain ⟨o, ho, hex, _⟩ := R.ob
  exact ⟨o, ho, hex.1⟩
/-- set.add of a tuple of ints, raw -/
theorem addT_raw {a x : Addr} {L : List (Addr × List Int)} {es : Array (Int × Value)} {ep : Nat} {t : SetTable} {k : List Int} {Q : Value → Shared → Prop} (R : SetTR P w s.heap a L es ep t) (hx : IsT P w s.heap k x) (hu : A.units + 1 < cLine) (hfew : L.length + 1 < 64)
    (hQ : ∀ h' tk L' es' ep' t', Heap.SameBut a s.heap h' → SetTR P w h' a L' es' ep' t' → (k ∈ L.map (·.2) → L' = L) → (k ∉ L.map (·.2) → L'.Perm ((x, k) :: L)) → Q .none { s with heap := h', toks := tk }) :
    wpAny (model P w) A (call (.builtin "set.add") [.ref a, .ref x]) Q E s := by
  refine wpAny_call_entry F.slot_set_add (setT_type R) F.entry_set_add ?_ (F.args_set_add_2 _ _)
  unfold Builtin.«set.add» Builtin.Frozenset.oneOther
  simp only [List.isEmpty_nil, bind_assoc]
  unfold Builtin.Frozenset.addrOf setAdd
  refine wpAny_bind (wpAny_pure ?_)
  try dsimp only
  refine wpAny_bind (wpAny_pure ?_)
  try dsimp only
  refine wpAny_bind ?_
  refine wpAny_holding ?_
  refine wpAny_bind (wpAny_pyHash_tuple (A := A.in1) hu hx ?_)
  refine add_at (A := A.in1) (s := { s with toks := s.toks + (k.length + 1) }) R hx hu hfew fun b h' L' es' ep' t' sb r c1 c2 => ?_
  show wpAny _ _ (ret Value.none) _ _ _
  exact wpAny_pure ⟨_, rfl, hQ h' _ L' es' ep' t' sb r c1 c2⟩
end
section
variable {X : Cx} {pins : List (Addr × Obj)} {σ : L2.St} {H : Hp} {s : Shared}
/-- what a set has got by one more -/
def Grown (L : List (Addr × List Int)) (x : Addr) (k : List Int) (L' : List (Addr × List Int)) : Prop := (k ∈ L.map (·.2) → L' = L) ∧ (k ∉ L.map (·.2) → L'.Perm ((x, k) :: L))
theorem addT_ok {E : Value → Shared → Prop} {D x : Addr} {L : List (Addr × List Int)} {k : List Int} {Q : Value → Shared → Prop} (I : Inv X pins σ H s) (hD : H D = some (SetTO X.prog X.w D L)) (hL : ∀ p ∈ L, SqT X.K H p.1 (p.2.map V.int)) (hx : SqT X.K H x (k.map V.int)) (hf : L.length + 1 < 64) (hu : X.A.units + 1 < cLine)
    (h : ∀ L' s', Grown L x k L' → Inv X pins σ (upd H D (SetTO X.prog X.w D L')) s' → Q .none s') : wpAny (model X.prog X.w) X.A (call (.builtin "set.add") [.ref D, .ref x]) Q E s := by
  obtain ⟨es, ep, t, R⟩ := SetT0.full (P := X.prog) (w := X.w) (show SetT0 X.prog X.w s.heap D L from (I.hok D _ hD).1) fun p hp => Inv.isT I (hL p hp)
  refine addT_raw R (Inv.isT I hx) hu hf fun h' tk L' es' ep' t' sb R' c1 c2 => ?_
  have he : ∃ u, h'.get? D = some u := by
    obtain ⟨o, ho, _⟩ := R'.ob
    exact ⟨o, ho⟩
  exact h L' _ ⟨c1, c2⟩ (I.write (e := D) (t' := tk) (by rw [hD]; trivial) (.inl rfl) (fun b u hb hu => (sb.2 b hb).trans hu) he (setTO_new R'.t0))
end
/-! ### one loop of a comprehension -/
/-- a turn: the store, the tests, what is done behind them -/
def turnOf (e : Expr) (d : Nat) (it acc : Value) (env : Env) (p : Pos) (tg : Expr) (ifs : List Expr) (act : Sem PUnit) : Sem PySem.Fin := do
  standAt p
  match ← pyNext it with
  | none => pure (.done .next)
  | some v =>
    letOwnedTupleGo tg it v
    assign tg env v
    let mut ok := true
    for c in ifs do
      if ok then ok ← isTrue c env (eval c env)
    if ok then
      act
    again (.compLoop e d it acc env)
abbrev TD := L2.St → Hp → (Hp → Prop) → Prop
/-- what is to be shown of the walk -/
def tWk (J : It) (σ : L2.St) (vs : List Nat) (g : TG) (tt : TT) (ta : TD) (Qd : Hp → Prop) (W : Nat → Nat → Hp → Prop) : Prop := ∀ i m H, W i m H →
  (J.stop i H ∧ Qd H) ∨ (J.go i H ∧ ∃ Nx : Hp → Prop, (∀ H', Nx H' → ∃ m', m' < m ∧ W (i + 1) m' H') ∧ ∀ x H', J.yld i H x H' → g x (wipe σ vs) H' fun σ2 H2 => wipe σ2 vs = wipe σ vs ∧ tt σ2 H2 fun b H3 => if b = true then ta σ2 H3 Nx else Nx H3)
theorem loopG {Y : Cx} {e : Expr} {d : Nat} {it : Addr} {acc : Value} {p : Pos} {tg : Expr} {ifs : List Expr} {act : Sem PUnit} {J : It} {fp : List Addr} {tn : Nat → Heap → Prop} {g : TG} {tt : TT} {ta : TD} {vs va : List Nat} {pins : List (Addr × Obj)} {σ : L2.St} {R : Result → Shared → Prop} {Qd : Hp → Prop} {W : Nat → Nat → Hp → Prop} {m0 : Nat} {H0 : Hp} {s0 : Shared}
    (hc : Y.calm = true) (hx : Y.xe = fun _ _ => False) (hq : Code.quiet (.compLoop e d (.ref it) acc Y.env) = true) (hden : (model Y.prog Y.w).den (.compLoop e d (.ref it) acc Y.env) = (compTurn e d (.ref it) acc Y.env).onRaise (fun x => do noteFrame x Y.env; theTreesLotGoes x)) (hun : Y.A.under (.compLoop e d (.ref it) acc Y.env) = Y.A)
    (heq : compTurn e d (.ref it) acc Y.env = turnOf e d (.ref it) acc Y.env p tg ifs act)
    (T : Turn Y.prog Y.w Y.K tg J fp it tn) (pg : PG Y tg g) (pt : PTs Y ifs tt)
    (ha : ∀ (p2 : List (Addr × Obj)) (s : Shared) (σ2 : L2.St) (H : Hp) (Nx : Hp → Prop), Inv Y (pins ++ p2) σ2 H s → ta σ2 H Nx → wpAny (model Y.prog Y.w) Y.A act (fun _ s' => ∃ H', Inv Y (pins ++ p2) (wipe σ2 va) H' s' ∧ Nx H') (fun _ _ => False) s)
    (hva : ∀ i ∈ va, i ∈ vs) (turn : tWk J σ vs g tt ta Qd W) (hR : ∀ s' H', Inv Y pins (wipe σ vs) H' s' → Qd H' → R (.ok .next) s') (hf : ∀ H', (∀ b ∈ fp, H' b = none) → ∀ b ∈ fp, FpOk Y pins H' b)
    (I0 : Inv Y pins (wipe σ vs) H0 s0) (st0 : tn 0 s0.heap) (n0 : ∀ b ∈ fp, H0 b = none) (w0 : W 0 m0 H0) : codeAny (model Y.prog Y.w) Y.A (.compLoop e d (.ref it) acc Y.env) R s0 := by
  refine codeAny_loop hq (fun n s' => ∃ i H', Inv Y pins (wipe σ vs) H' s' ∧ tn i s'.heap ∧ (∀ b ∈ fp, H' b = none) ∧ W i n H') (fun n s hI => ?_) m0 ⟨0, H0, I0, st0, n0, w0⟩
  obtain ⟨i, H, I, st, nf, w⟩ := hI
  rw [hden, hun]
  refine wpAny_noted ?_
  rw [heq]
  unfold turnOf
  refine wpAny_bind (wpAny_standAt (wpAny_bind ?_))
  rcases turn i n H w with ⟨stop, qq⟩ | ⟨go, Nx, hNx, step⟩
  · refine thnF (T.done Y rfl rfl rfl hc i pins s _ H (fun _ _ => False) I (hf H nf) st stop) fun r s6 hr => ?_
    obtain ⟨hr, I6⟩ := hr
    subst hr
    exact wpAny_pure (hR s6 H I6 qq)
  · refine thnF (T.item Y rfl rfl rfl hc i pins s _ H (fun _ _ => False) I (hf H nf) st go) fun r s6 hr => ?_
    obtain ⟨u, hr, h6⟩ := hr
    subst hr
    refine wpAny_bind (thnF h6 fun _ s7 h7 => ?_)
    obtain ⟨x, H7, I7, r7, y7, st7, n7⟩ := h7
    have J7 := I7.pinned (hf H7 n7) (T.obj _ _ st7)
    have gp := pg.run _ s7 _ H7 x u _ J7 r7 (step x H7 y7)
    rw [hx] at gp
    refine wpAny_bind (thnF gp fun _ s8 h8 => ?_)
    obtain ⟨σ8, H8, I8, hw8, q8⟩ := h8
    have gt := pt.run _ s8 σ8 H8 _ I8 q8
    rw [hx] at gt
    refine wpAny_bind (thnF gt fun b s9 h9 => ?_)
    obtain ⟨H9, I9, q9⟩ := h9
    have fin : ∀ {σ9 : L2.St} {s' : Shared} {H' : Hp}, Inv Y (pins ++ pinsAt fp s7.heap) σ9 H' s' → (wipe σ vs).length = σ9.length → (∀ (j : Nat) v, (wipe σ vs)[j]? = some (some v) → σ9[j]? = some (some v)) → Nx H' →
        ∃ m, m < n ∧ ∃ i H', Inv Y pins (wipe σ vs) H' s' ∧ tn i s'.heap ∧ (∀ b ∈ fp, H' b = none) ∧ W i m H' := by
      intro σ9 s' H' I' hl hk nx
      obtain ⟨m', hm, w'⟩ := hNx H' nx
      have at7 : ∀ b ∈ fp, ∀ o, s7.heap.get? b = some o → s'.heap.get? b = some o ∧ H' b = none := fun b hb o e0 =>
        have z := I'.pin (b, o) (List.mem_append_right _ (List.mem_append_right _ (mem_pinsAt hb e0)))
        ⟨z.1, z.2.1⟩
      refine ⟨m', hm, i + 1, H', I'.unpinned.weak hl hk, T.keep _ _ _ st7 fun b hb o e0 => (at7 b hb o e0).1, fun b hb => ?_, w'⟩
      obtain ⟨o, e0, _⟩ := T.obj _ _ st7 b hb
      exact (at7 b hb o e0).2
    have len8 : (wipe σ vs).length = σ8.length := by rw [← hw8, wipe_length]
    cases b with
    | false =>
      simp only [Bool.false_eq_true, if_false] at q9 ⊢
      exact wpAny_pure ⟨rfl, fin I9 len8 (fun j v e0 => by rw [← hw8] at e0; exact (wipe_some e0).1) q9⟩
    | true =>
      simp only [if_true] at q9 ⊢
      refine wpAny_bind (thnF (ha _ s9 σ8 H9 Nx I9 q9) fun _ s10 h10 => ?_)
      obtain ⟨H10, I10, nx⟩ := h10
      refine wpAny_pure ⟨rfl, fin I10 (len8.trans (wipe_length σ8 va).symm) (fun j v e0 => ?_) nx⟩
      rw [← hw8] at e0
      obtain ⟨e1, e2⟩ := wipe_some e0
      rw [wipe_out fun z => e2 (hva j z)]
      exact e1
end SrT

set_option maxHeartbeats 2000000
namespace SrT
open PySem PySem.Spec PyProof.Rows L2 PySem.W
section
variable {elt t0 i0 t1 i1 : Expr} {c0 c1 : List Expr} {sc : Scope} {pos : Pos}
abbrev sc2 (elt t0 i0 t1 i1 : Expr) (c0 c1 : List Expr) (sc : Scope) (pos : Pos) : Expr := .SetComp elt [⟨t0, i0, c0, 0⟩, ⟨t1, i1, c1, 0⟩] sc pos
def actOut (elt t0 i0 t1 i1 : Expr) (c0 c1 : List Expr) (sc : Scope) (pos : Pos) (acc : Value) (env : Env) : Sem PUnit := do
  let x ← eval i1 env
  standAt i1.pos
  let x ← foldedSetIterable i1 env x
  let _ ← runOwn (.compStart (sc2 elt t0 i0 t1 i1 c0 c1 sc pos) 1 (← holding [x] (pyIter x)) acc env) env
def actIn (elt : Expr) (acc : Value) (env : Env) : Sem PUnit := do
  let v ← eval elt env
  standAt elt.pos
  let _ ← call (.builtin "set.add") [acc, v]
theorem turn_out (it acc : Value) (env : Env) : compTurn (sc2 elt t0 i0 t1 i1 c0 c1 sc pos) 0 it acc env = turnOf (sc2 elt t0 i0 t1 i1 c0 c1 sc pos) 0 it acc env i0.pos t0 c0 (actOut elt t0 i0 t1 i1 c0 c1 sc pos acc env) := by
  have e : compTurn (sc2 elt t0 i0 t1 i1 c0 c1 sc pos) 0 it acc env = (do
      standAt i0.pos
      match ← pyNext it with
      | none => pure (.done .next)
      | some v =>
        letOwnedTupleGo t0 it v
        assign t0 env v
        let mut ok := true
        for c in c0 do
          if ok then ok ← isTrue c env (eval c env)
        if ok then
          let x ← eval i1 env
          standAt i1.pos
          let x ← foldedSetIterable i1 env x
          let _ ← runOwn (.compStart (sc2 elt t0 i0 t1 i1 c0 c1 sc pos) 1 (← holding [x] (pyIter x)) acc env) env
        again (.compLoop (sc2 elt t0 i0 t1 i1 c0 c1 sc pos) 0 it acc env)) := by rfl
  rw [e]
  unfold turnOf actOut
  refine bind_congr fun _ => bind_congr fun r => ?_
  cases r with
  | none => rfl
  | some v =>
    refine bind_congr fun _ => bind_congr fun _ => bind_congr fun ok => ?_
    cases ok <;> simp only [Bool.false_eq_true, if_false, if_true, bind_assoc, pure_bind]
theorem turn_in (it acc : Value) (env : Env) : compTurn (sc2 elt t0 i0 t1 i1 c0 c1 sc pos) 1 it acc env = turnOf (sc2 elt t0 i0 t1 i1 c0 c1 sc pos) 1 it acc env i1.pos t1 c1 (actIn elt acc env) := by rfl
theorem start_in {prog : Program} {w : World} {A : Around} {R : Result → Shared → Prop} {s : Shared} {it acc : Value} {env : Env} (h0 : codeAny (model prog w) A (.compLoop (sc2 elt t0 i0 t1 i1 c0 c1 sc pos) 1 it acc env) R s)
    (h : wpAny (model prog w) A (pyIter it) (fun it' s' => codeAny (model prog w) A (.compLoop (sc2 elt t0 i0 t1 i1 c0 c1 sc pos) 1 it' acc env) R s') (notedBy (model prog w) A env fun x s' => R (.error x) s') s) :
    codeAny (model prog w) A (.compStart (sc2 elt t0 i0 t1 i1 c0 c1 sc pos) 1 it acc env) R s := by
  refine codeAny_of_tree ?_
  show wpAny _ _ ((compStart (sc2 elt t0 i0 t1 i1 c0 c1 sc pos) 1 it acc env).onRaise (fun x => do noteFrame x env; standAt theWindowsPlace)) _ _ s
  refine wpAny_notedAt ?_
  unfold compStart
  show wpAny _ _ (ask >>= _) _ _ s
  refine wpAny_bind (wpAny_askSetting (wpAny_ite ?_))
  split
  · first
      | exact wpAny_bind (wpAny_pure (wpAny_pure (And.intro rfl h0)))
      | exact wpAny_pure (And.intro rfl h0)
  · first
      | exact wpAny_bind (wpAny_rule (wpAny_bind (wpAny_standAt (wpAny_bind (wpAny_mono h (fun it' s' h' => wpAny_pure (And.intro rfl h')) fun _ _ x => x)))))
      | (refine wpAny_bind (wpAny_rule ?_); show wpAny _ _ (standAt i1.pos >>= _) _ _ s; exact wpAny_bind (wpAny_standAt (wpAny_bind (wpAny_mono h (fun it' s' h' => wpAny_pure (And.intro rfl h')) fun _ _ x => x))))
end
section
variable {X : Cx}
/-- one more into the set at D -/
def tAdd (K : PySem.W.Frag) (P : Program) (w : World) (D : Addr) (te : TE) : TD := fun σ H Nx => te σ H fun y H4 => ∃ (x : Addr) (k : List Int) (L : List (Addr × List Int)), y = .ref x ∧ SqT K H4 x (k.map V.int) ∧ H4 D = some (SetTO P w D L) ∧ (∀ p ∈ L, SqT K H4 p.1 (p.2.map V.int)) ∧ L.length + 1 < 64 ∧ ∀ L', Grown L x k L' → Nx (upd H4 D (SetTO P w D L'))
/-- the second clause's own walk -/
def tInner (wi1 : TI) (g1 : TG) (tt1 : TT) (ta : TD) (vs1 : List Nat) : TD := fun σ2 H Nx => wi1 σ2 H fun J1 H4 => ∃ W1 : Nat → Nat → Hp → Prop, (∃ m, W1 0 m H4) ∧ tWk J1 σ2 vs1 g1 tt1 ta Nx W1
def tSc2 (K : PySem.W.Frag) (P : Program) (w : World) (wi : TI) (g : TG) (tt : TT) (wi1 : TI) (g1 : TG) (tt1 : TT) (te : TE) (vs vs1 : List Nat) : TE := fun σ H Q => wi σ H fun J H1 => ∀ D, H1 D = none → ∃ W : Nat → Nat → Hp → Prop, (∃ m, W 0 m (upd H1 D (SetTO P w D []))) ∧
  tWk J σ vs g tt (tInner wi1 g1 tt1 (tAdd K P w D te) vs1) (fun H' => Q (.ref D) H') W
theorem act_in {Y : Cx} {elt : Expr} {D : Addr} {te : TE} {pins : List (Addr × Obj)} {σ : L2.St} {H : Hp} {s : Shared} {Nx : Hp → Prop} (hu : Y.A.units + 1 < cLine) (hx : Y.xe = fun _ _ => False) (pe : PE Y elt te) (I : Inv Y pins σ H s) (h : tAdd Y.K Y.prog Y.w D te σ H Nx) :
    wpAny (model Y.prog Y.w) Y.A (actIn elt (.ref D) Y.env) (fun _ s' => ∃ H', Inv Y pins (wipe σ []) H' s' ∧ Nx H') (fun _ _ => False) s := by
  unfold actIn
  have z := pe.run pins s σ H _ I h
  rw [hx] at z
  refine wpAny_bind (thnF z fun u s1 h1 => ?_)
  obtain ⟨yv, H1, I1, r1, x, k, L, ey, hxT, hD, hL, hf, nx⟩ := h1
  subst ey
  cases r1
  refine wpAny_bind (wpAny_standAt (wpAny_bind (addT_ok I1 hD hL hxT hf hu fun L' s2 gr I2 => wpAny_pure ?_)))
  exact ⟨_, I2, nx L' gr⟩
theorem act_out {Y : Cx} {elt tg iter tg1 iter1 : Expr} {ifs ifs1 : List Expr} {sc : Scope} {pos : Pos} {D : Addr} {wi1 : TI} {g1 : TG} {tt1 : TT} {te : TE} {vs1 : List Nat} {pins : List (Addr × Obj)} {σ2 : L2.St} {H : Hp} {s : Shared} {Nx : Hp → Prop} (hc : Y.calm = true) (hu : Y.A.units + 1 < cLine) (hx : Y.xe = fun _ _ => False)
    (pi1 : PI Y tg1 iter1 wi1) (pg1 : PG Y tg1 g1) (pt1 : PTs Y ifs1 tt1) (pe : PE Y elt te) (hs1 : ∀ env x, foldedSetIterable iter1 env x = pure x) (I : Inv Y pins σ2 H s) (h : tInner wi1 g1 tt1 (tAdd Y.K Y.prog Y.w D te) vs1 σ2 H Nx) :
    wpAny (model Y.prog Y.w) Y.A (actOut elt tg iter tg1 iter1 ifs ifs1 sc pos (.ref D) Y.env) (fun _ s' => ∃ H', Inv Y pins (wipe σ2 vs1) H' s' ∧ Nx H') (fun _ _ => False) s := by
  unfold actOut
  have z := pi1.run pins s σ2 H _ I h
  rw [hx] at z
  refine wpAny_bind (thnF z fun xv s1 h1 => wpAny_bind (wpAny_standAt (wpAny_bind (wpAny_of_eq (hs1 Y.env xv) (wpAny_bind (wpAny_holding (thnF h1 fun itv s2 h2 => ?_)))))))
  obtain ⟨it1, fp1, tn1, J1, H2, e1, I2, T1, st2, f2, W1, ⟨m1, w1⟩, turn1⟩ := h2
  subst e1
  refine wpAny_bind (wpAny_runOwn ?_)
  rw [Around.mark_none]
  have I2' : Inv Y pins (wipe σ2 vs1) H2 s2 := I2.weak (wipe_length _ _) (fun j v e => (wipe_some e).1)
  have loop : ∀ (R : Result → Shared → Prop), (∀ s' H', Inv Y pins (wipe σ2 vs1) H' s' → Nx H' → R (.ok .next) s') → codeAny (model Y.prog Y.w) Y.A (.compLoop (sc2 elt tg iter tg1 iter1 ifs ifs1 sc pos) 1 (.ref it1) (.ref D) Y.env) R s2 := fun R hR =>
    loopG (va := []) (vs := vs1) (σ := σ2) (ta := tAdd Y.K Y.prog Y.w D te) (act := actIn elt (.ref D) Y.env) hc hx rfl rfl rfl (turn_in _ _ _) T1 pg1 pt1 (fun p2 s σ3 H Nx' I' h' => act_in hu hx pe I' h') (fun i hi => nomatch hi) turn1 hR (fun H' hn b hb => ⟨hn b hb, (f2 b hb).2⟩) I2' st2 (fun b hb => (f2 b hb).1) w1
  have lp := loop (fun r s' => match r with
    | .ok f => wpAny (model Y.prog Y.w) Y.A (pure PUnit.unit) (fun _ s' => ∃ H', Inv Y pins (wipe σ2 vs1) H' s' ∧ Nx H') (fun _ _ => False) s'
    | .error e => False) (fun s' H' I' n' => wpAny_pure ⟨H', I', n'⟩)
  refine codeAny_mono (start_in lp (T1.self Y.A 0 _ _ _ st2 lp)) fun r s' hr => ?_
  cases r with
  | ok f => exact hr
  | error e => exact hr.elim
end
end SrT

set_option maxHeartbeats 2000000
namespace SrT
open PySem PySem.Spec PyProof.Rows L2 PySem.W
section
variable {X : Cx}
theorem pe_sc2 {elt tg iter tg1 iter1 : Expr} {ifs ifs1 : List Expr} {scope : Scope} {own : List (Str × Nat)} {vs1 : List Nat} {pos : Pos} {wi wi1 : TI} {g g1 : TG} {tt tt1 : TT} {te : TE} (hu : X.A.units + 1 < cLine) (hc : X.calm = true) (hN : X.N.Nodup) (hi : PI X tg iter wi) (ok : BlkOk X.N X.env.scope scope own) (hv : ∀ i ∈ vs1, i ∈ own.map (·.2))
    (hg : ∀ (s : Shared) (H : Hp) (C : Addr) (cl : List (Str × Addr)) (fp : List Addr), PG (X.blk s H scope (compEnvC scope cl C X.env) fp) tg g) (ht : ∀ (s : Shared) (H : Hp) (C : Addr) (cl : List (Str × Addr)) (fp : List Addr), PTs (X.blk s H scope (compEnvC scope cl C X.env) fp) ifs tt)
    (hi1 : ∀ (s : Shared) (H : Hp) (C : Addr) (cl : List (Str × Addr)) (fp : List Addr), PI (X.blk s H scope (compEnvC scope cl C X.env) fp) tg1 iter1 wi1) (hg1 : ∀ (s : Shared) (H : Hp) (C : Addr) (cl : List (Str × Addr)) (fp : List Addr), PG (X.blk s H scope (compEnvC scope cl C X.env) fp) tg1 g1)
    (ht1 : ∀ (s : Shared) (H : Hp) (C : Addr) (cl : List (Str × Addr)) (fp : List Addr), PTs (X.blk s H scope (compEnvC scope cl C X.env) fp) ifs1 tt1) (he : ∀ (s : Shared) (H : Hp) (C : Addr) (cl : List (Str × Addr)) (fp : List Addr), PE (X.blk s H scope (compEnvC scope cl C X.env) fp) elt te)
    (hs : ∀ x, foldedSetIterable iter X.env x = pure x := by intro _; rfl) (hs1 : ∀ env x, foldedSetIterable iter1 env x = pure x := by intro _ _; rfl) :
    PE X (sc2 elt tg iter tg1 iter1 ifs ifs1 scope pos) (tSc2 X.K X.prog X.w wi g tt wi1 g1 tt1 te (own.map (·.2)) vs1) := by
  refine ⟨fun pins s σ H Q I h => ?_⟩
  show wpAny _ _ (comprehension (sc2 elt tg iter tg1 iter1 ifs ifs1 scope pos) scope X.env (firstIterPos _ pos) (newSet (.type "set")) _ (firstIter _ X.env) none) _ _ s
  have fr : ∀ y ∈ scope.names, y.2 = .free → ∃ c, X.env.cells.lookup y.1 = some c := by
    intro y hy e
    rcases ok.free y hy e with k | k
    · exact I.ok.has _ (.inl k)
    · exact I.ok.has _ (.inr k)
  refine wpAny_comprehension_free (use := none) rfl hs (closure_ok fr) ok.kind (fun y hy e => by rw [ok.uniq y hy, e]) (thn (hi.run pins s σ H _ I h) fun xv s1 hx => thn hx fun itv s2 h2 => ?_)
  obtain ⟨it, fp, tn, J, H2, e, I2, T, st2, f2, q⟩ := h2
  subst e
  refine PpSet.newSet_ok (newEnv_comp ?_)
  generalize hD : s2.heap.objs.size = D
  obtain ⟨W, ⟨m0, w0⟩, turn⟩ := q D (I2.hok.fresh (Nat.le_of_eq hD))
  generalize hob : ({ cls := .type "set", dict := none, data := .set #[] 0 (.fresh 0 0 (!X.w.params.followText "set-order")) } : Obj) = ob
  generalize hs3 : ({ s2 with heap := s2.heap.push ob } : Shared) = s3
  have hp3 : s3.heap = s2.heap.push ob := by rw [← hs3]
  have I3 : Inv X pins σ (upd H2 D (SetTO X.prog X.w D [])) s3 := by
    rw [← hs3]
    refine I2.laid (t' := s2.toks) (fun b o e => Heap.get?_push_of_some _ e) (Nat.le_of_eq hD) ?_
    rw [← hD]
    exact setTO_new (SetTR.t0 (setTR_fresh (P := X.prog) (w := X.w) (by rw [← hob]; exact Heap.get?_push_size _ rfl)))
  have lt : ∀ b ∈ fp, b < s2.heap.objs.size := by
    intro b hb
    obtain ⟨o, e, _⟩ := T.obj _ _ st2 b hb
    exact Heap.lt_size e
  have f3 : ∀ b ∈ fp, FpOk X pins (upd H2 D (SetTO X.prog X.w D [])) b ∧ b < s3.heap.objs.size := by
    intro b hb
    have hlt := lt b hb
    refine ⟨⟨?_, (f2 b hb).2⟩, by rw [hp3, Heap.size_push]; exact Nat.lt_succ_of_lt hlt⟩
    rw [upd_ne (by rw [← hD]; exact Nat.ne_of_lt hlt)]
    exact (f2 b hb).1
  have I4 := block_start I3 ok hN f3
  show codeAny _ _ (.compStart (sc2 elt tg iter tg1 iter1 ifs ifs1 scope pos) 0 (.ref it) (.ref D) (compEnvC scope (cellsFrom (s3.heap.objs.size + 1) scope.names (cloFrom X.env.cells scope.names [])) s3.heap.objs.size X.env)) (compPost (model X.prog X.w) X.A X.xe none _ (.ref D) s3.heap.objs.size) { s3 with heap := pushCells (s3.heap.push { cls := .type "dict", data := .dict #[] }) scope.names }
  generalize hcl : cellsFrom (s3.heap.objs.size + 1) scope.names (cloFrom X.env.cells scope.names []) = cl at I4 ⊢
  generalize hH3 : upd H2 D (SetTO X.prog X.w D []) = H3 at *
  have pg := hg s3 H3 s3.heap.objs.size cl fp
  have pt := ht s3 H3 s3.heap.objs.size cl fp
  have pe := he s3 H3 s3.heap.objs.size cl fp
  have pi1 := hi1 s3 H3 s3.heap.objs.size cl fp
  have pg1 := hg1 s3 H3 s3.heap.objs.size cl fp
  have pt1 := ht1 s3 H3 s3.heap.objs.size cl fp
  generalize hs4 : ({ s3 with heap := pushCells (s3.heap.push { cls := .type "dict", data := .dict #[] }) scope.names } : Shared) = s4 at I4 ⊢
  have st4 : tn 0 s4.heap := T.keep _ _ _ st2 fun b _ o e => by
    rw [← hs4]
    refine pushCells_keeps _ _ _ _ (Heap.get?_push_of_some _ ?_)
    rw [hp3]
    exact Heap.get?_push_of_some _ e
  have cL : (compEnvC scope cl s3.heap.objs.size X.env).locals = s3.heap.objs.size := rfl
  generalize hce : compEnvC scope cl s3.heap.objs.size X.env = ce at I4 pg pt pe pi1 pg1 pt1 cL ⊢
  have fps : ∀ H', (∀ b ∈ fp, H' b = none) → ∀ b ∈ fp, FpOk (X.blk s3 H3 scope ce fp) [] H' b := fun H' hn b hb =>
    ⟨hn b hb, (I4.ok.exf b hb).1, I4.ok.exfs b hb, .inl hb, fun x c e => (I4.ok.exf b hb).2 x c e, fun p hp => absurd (show p ∈ ([] : List (Addr × Obj)) ++ [] from hp) (by simp)⟩
  have loop := loopG (Y := X.blk s3 H3 scope ce fp) (e := sc2 elt tg iter tg1 iter1 ifs ifs1 scope pos) (d := 0) (it := it) (acc := .ref D) (va := vs1) (R := compPost (model X.prog X.w) X.A X.xe none (fun v s' => ∃ x H', Inv X pins σ H' s' ∧ RelV x v ∧ Q x H') (.ref D) s3.heap.objs.size)
    hc rfl rfl rfl rfl (turn_out _ _ _) T pg pt (fun p2 s' σ2 H' Nx I' h' => act_out (Y := X.blk s3 H3 scope ce fp) hc hu rfl pi1 pg1 pt1 pe hs1 I' h') hv turn (fun s' H' I' qq => ?_) fps I4 st4 (fun b hb => (f3 b hb).1.1) w0
  · exact PpSet.codeAny_compStart_set loop (T.self X.A 0 _ _ _ st4 loop)
  · have I7 : Inv X pins σ H' s' := I3.call' (ch := fp) I'.os I'.base I'.hok I'.bare fun b hb => ⟨(f3 b hb).1.2.2.2.1, (f3 b hb).1.2.1, (f3 b hb).1.2.2.2.2.1, (f3 b hb).1.2.2.2.2.2⟩
    have nC : H' s3.heap.objs.size = none := by
      have z : H' ce.locals = none := I'.free
      rw [cL] at z
      exact z
    obtain ⟨m, hn, _⟩ := I'.loc
    have hn : s'.heap.Ns ce.locals m := hn
    rw [cL] at hn
    obtain ⟨f0, f1, f2, f3, f4, f5⟩ := I3.fpOk (Nat.le_refl _) nC
    exact ⟨m, hn, fun h'' sb => ⟨.ref D, H', I7.turned (t' := s'.toks) (fun b o hb e => (sb.2 b hb).trans e) f0 f1 f3 f4 f5, rfl, qq⟩⟩
end
end SrT

set_option maxHeartbeats 2000000
namespace SrT
open PySem PySem.Spec PyProof.Rows L2 PySem.W
section
variable {P : Program} {w : World} {A : Around} {E : Value → Shared → Prop} {s : Shared}
/-- sorted(t), t a tuple of ints -/
theorem sorted_tupleI {t : Addr} {vs : List Value} {ns : List Int} {Q : Value → Shared → Prop} (ht : IsTup s.heap t vs.toArray) (hi : IntsAre vs ns) (hz : vs.length ≤ sizeLine)
    (hQ : ∀ (h1 h' : Heap) (out : List Value) (c : Nat), (∀ b o, s.heap.get? b = some o → h1.get? b = some o) → (∀ b o, h1.get? b = some o → h'.get? b = some o) → h'.get? h1.objs.size = some (seqObj "list" out.toArray c) → SrtO.Srtd SrtO.ltIv out → SrtO.Stb SrtO.ltIv out vs → Q (.ref h1.objs.size) { s with heap := h' }) :
    wpAny (model P w) A (call (.builtin "sorted") [.ref t]) Q E s := by
  obtain ⟨o, ho, hc, n, hd⟩ := id ht
  refine Calls.call_function_entry kind_sorted plain_sorted entry_sorted (args_sorted1 _) ?_
  unfold Builtin.«sorted»
  refine wpAny_bind (m := checkCount "sorted" 1 1 _) (wpAny_pure ?_)
  refine wpAny_bind (wpAny_collect_seq (A := A.in1) t (.inr rfl) ho hc hd (fun h1 kp => ?_) (by simpa using hz))
  rw [List.toList_toArray]
  refine wpAny_bind (wpAny_newList ?_ hz)
  have hoL : (h1.push (seqObj "list" vs.toArray 0)).get? h1.objs.size = some (seqObj "list" vs.toArray 0) := Heap.get?_push_size _ rfl
  refine wpAny_bind (wpAny_holding (wpAny_call_entry slot_list_sort ⟨_, hoL, rfl⟩ entry_list_sort (SrtO.list_sort_ord (s := { s with heap := h1.push (seqObj "list" vs.toArray 0) }) SrtO.swo_int hoL hz (fun h2 => SrtO.ints_sortable hi h2) fun out hs hb => ⟨_, rfl, ?_⟩) (args_list_sort _)))
  obtain ⟨c, hc2⟩ := sortedHeap_at (vs := vs) (out := out.toArray) hoL
  refine wpAny_pure ⟨_, rfl, hQ h1 _ out c kp (fun b u q => ?_) hc2 hs hb⟩
  have lt := Heap.lt_size q
  show (sortedHeap (h1.push (seqObj "list" vs.toArray 0)) h1.objs.size vs out.toArray).get? b = some u
  rw [sortedHeap_old (Nat.ne_of_lt lt) (by rw [size_push']; exact Nat.lt_succ_of_lt lt)]
  exact Heap.get?_push_of_some _ q
end
section
variable {X : Cx} {pins : List (Addr × Obj)} {σ : L2.St} {H : Hp} {s : Shared}
/-- sorted(t) of a tuple of ints -/
def rSortTI (K : PySem.W.Frag) : List V → Hp → VK → Prop := fun vs H Q => ∃ (a : Addr) (ns : List Int), vs = [V.ref a] ∧ SqT K H a (ns.map V.int) ∧ ∀ (ns' : List Int) (p : Addr), ns'.Perm ns → ns'.Pairwise (· ≤ ·) → H p = none → Q (.ref p) (upd H p (.lst (ns'.map V.int)))
theorem cr_sortTI : CallR X (.builtin "sorted") (rSortTI X.K) := by
  intro pins s σ H vs us Q I r h
  obtain ⟨a, ns, rfl, hs, q⟩ := h
  obtain ⟨its, rv, hl, hz⟩ := I.tuple hs
  rw [Vals.ref1 r]
  have hi := rv.ints
  refine sorted_tupleI hl hi (by rw [← rv.length]; exact hz) fun h1 h' out c kp kp2 hat hs' hb => ?_
  obtain ⟨k1, k2, k3⟩ := SrtO.ints_out hi hs' hb
  have I1 : Inv X pins σ H { s with heap := h1 } := I.kept (t' := s.toks) kp
  have hlen : ((out.map SrtO.iv).map V.int).length ≤ sizeLine := by
    rw [List.length_map, k2.length_eq]
    rw [List.length_map] at hz
    exact hz
  exact ⟨.ref _, upd H h1.objs.size (.lst ((out.map SrtO.iv).map V.int)), I1.laid (t' := s.toks) kp2 (Nat.le_refl _) ⟨hlen, out, c, vals_of_ints k1, hat⟩, rfl, q _ _ k2 k3 (I1.hok.fresh (Nat.le_refl _))⟩
end
end SrT

set_option maxHeartbeats 1000000
namespace SrT
open PySem PySem.Spec PyProof.Rows L2 PySem.W
section
variable {X : Cx}
/-- sum(a tuple of ints) -/
def rSumT (K : PySem.W.Frag) : List V → Hp → VK → Prop := fun vs H Q => ∃ (a : Addr) (ns : List Int), vs = [V.ref a] ∧ SqT K H a (ns.map V.int) ∧ Q (.int ns.sum) H
theorem cr_sumT (hc : X.calm = true) : CallR X (.builtin "sum") (rSumT X.K) := by
  intro pins s σ H vs us Q I r h
  obtain ⟨a, ns, rfl, hs, q⟩ := h
  obtain ⟨its, rv, ht, _⟩ := I.tuple hs
  rw [Vals.ref1 r]
  have hi := rv.ints
  obtain ⟨xs, hx⟩ := hi.allInts.items
  have hn : numsOf its.toArray.toList = ns := by
    rw [show its.toArray.toList = its from rfl, hi.numsOf]
  rw [hx] at ht hn
  rw [nums_intItems] at hn
  refine ktm_sumG (I.ok.hd hc) ht fun h' tk t' hk => ?_
  rw [preSum_eq, List.take_of_length_le (by simp), hn]
  exact ⟨.int ns.sum, H, I.kept hk, ⟨_, rfl⟩, q⟩
theorem vals_int_eq : ∀ {zs : List V} {ns : List Int} {us : List Value}, Vals zs us → Vals (ns.map V.int) us → zs = ns.map V.int
  | _, [], _, r, .nil => by cases r; rfl
  | _, n :: ns, _, r, .cons q t => by
    cases r with
    | cons r t' =>
      obtain ⟨tk, rfl⟩ := q
      rw [List.map_cons, vals_int_eq t' t]
      rename_i x _
      cases x with
      | int m =>
        obtain ⟨t2, e⟩ := r
        injection e with e1 e2
        rw [e1]
      | _ => first | (obtain ⟨t2, e⟩ := r; cases e) | cases r
/-- an own tuple of the heap is what is told of it -/
def KnT (K : PySem.W.Frag) (H : Hp) : Prop := ∀ t zs (ns : List Int), H t = some (.tup zs) → SqT K H t (ns.map V.int) → zs = ns.map V.int
theorem Inv.knT {pins : List (Addr × Obj)} {σ : L2.St} {H : Hp} {s : Shared} (I : Inv X pins σ H s) : KnT X.K H := by
  intro t zs ns h1 h2
  obtain ⟨us, r1, p1, _⟩ := I.tuple (show SqT X.K H t zs from .inl (.inl h1))
  obtain ⟨us2, r2, p2, _⟩ := I.tuple h2
  obtain ⟨o, ho, _, n, hd⟩ := p1
  obtain ⟨o2, ho2, _, n2, hd2⟩ := p2
  rw [ho] at ho2
  cases ho2
  rw [hd] at hd2
  injection hd2 with e1 e2
  have e3 : us = us2 := by simpa using e1
  subst e3
  exact vals_int_eq r1 r2
/-- what is known behind any expression -/
def tKn (K : PySem.W.Frag) (te : TE) : TE := fun σ H Q => te σ H fun v H1 => KnT K H1 → Q v H1
theorem pe_kn {e : Expr} {te : TE} (h : PE X e te) : PE X e (tKn X.K te) := by
  refine ⟨fun pins s σ H Q I q => thn (h.run pins s σ H _ I q) fun v s1 ⟨x, H1, I1, r1, q1⟩ => ⟨x, H1, I1, r1, q1 (Inv.knT I1)⟩⟩
/-- a list of own tuples of ints -/
def TupH (H : Hp) (x : V) (ns : List Int) : Prop := ∃ t, x = .ref t ∧ H t = some (.tup (ns.map V.int))
def OwnT (H : Hp) (x : V) : Prop := ∃ t zs, x = .ref t ∧ H t = some (.tup zs)
theorem TupH.tup {K : PySem.W.Frag} {H : Hp} {x : V} {ns : List Int} (h : TupH H x ns) : TupI K H x ns := let ⟨t, e, h⟩ := h; ⟨t, e, .inl (.inl h)⟩
theorem TupH.own {H : Hp} {x : V} {ns : List Int} (h : TupH H x ns) : OwnT H x := let ⟨t, e, h⟩ := h; ⟨t, _, e, h⟩
theorem tupH_of {K : PySem.W.Frag} {H : Hp} (kn : KnT K H) {x : V} {ns : List Int} (h : OwnT H x) (h2 : TupI K H x ns) : TupH H x ns := by
  obtain ⟨t, zs, rfl, h1⟩ := h
  obtain ⟨t2, e, h3⟩ := h2
  cases e
  exact ⟨t, rfl, by rw [← kn t zs ns h1 h3]; exact h1⟩
theorem tupsH_of {K : PySem.W.Frag} {H : Hp} (kn : KnT K H) : ∀ {xs : List V} {fss : List (List Int)}, (∀ x ∈ xs, OwnT H x) → Paired (TupI K H) xs fss → Paired (TupH H) xs fss
  | _, _, _, .nil => .nil
  | _, _, h, .cons r t => .cons (tupH_of kn (h _ List.mem_cons_self) r) (tupsH_of kn (fun x hx => h x (List.mem_cons_of_mem _ hx)) t)
end
end SrT

namespace Lf
open PySem PySem.Spec PyProof.Rows L2 GxR GxA SrT
/-! ### a def whose code object is told -/
structure FunC (K : PySem.W.Frag) (x : Str) (st : Stmt) (f : Addr) (fd : FuncData) (c : Addr) : Prop where
  ex : ∃ (oc : Value) (od : Option Addr) (kV doc pm : Value) (an : Option Addr) (ct : Value) (osl : Array (Option Value)),
    fd = PySem.W.fnOf x x (defArgs st) (defBody st) (defScope st) .none kV doc pm an (.ref c) ct ∧ K.lookup f = some ⟨oc, od, .func fd, osl⟩ ∧ PySem.W.codeIn K (.ref c) x = true
  kp : PySem.W.keepIn K (.ref f) = true
/-- a def of the top: where it stands, how it is called -/
structure Def (K : PySem.W.Frag) (mg : Str → Option Value) (x : Str) (st : Stmt) (ps : List Str) (f : Addr) (fd : FuncData) (c : Addr) : Prop where
  F : FunC K x st f fd c
  b : Binds K fd ps []
  g : mg x = some (.ref f)
section
variable {P : Program} {w : World} {K : PySem.W.Frag} {mg : Str → Option Value} {base : Heap}
theorem Def.ok {x : Str} {st : Stmt} {f c : Addr} {fd : FuncData} {N ps : List Str} {k : Nat} {sp : Sp} (D : Def K mg x st ps f fd c) (S : FnScope N ps (defScope st)) (len : ∀ vs H Q E, sp vs H Q E → vs.length = ps.length)
    (hbody : ∀ (A : Around) (outer : List Env) (s : Shared) (H : Hp) (vs : List V) (Q : VK) (E : XK), Room k (A.deeper (envOfC x (defScope st) s.heap.objs.size f (.ref c))) → sp vs H Q E →
      ∃ t, PSs (cxOf CX0 P w K mg base N x (defScope st) f (.ref c) A outer s H E).nox (defBody st) t ∧ t { nx := fun _ H' => Q .non H', rt := Q } (start N vs) H) : FnOk P w K mg base CX0 (k + 1) f fd ps sp := by
  obtain ⟨oc, od, kV, doc, pm, an, ct, osl, rfl, lk, hcd⟩ := D.F.ex
  refine fn_of lk hcd S len fun A outer s H vs Q E hr hsp => ?_
  obtain ⟨t, h, q⟩ := hbody A outer s H vs Q E hr hsp
  exact ⟨t, h.nox, q⟩
end
/-- a call of such a def -/
theorem pcl {X : Cx} {x : Str} {st : Stmt} {ps : List Str} {f c : Addr} {fd : FuncData} {k : Nat} {sp : Sp} {e : Expr} {es : List Expr} {t : TA} {p pos : Pos} (D : Def X.K X.mg x st ps f fd c) (G : FnOk X.prog X.w X.K X.mg X.base CX0 k f fd ps sp) (hr : Room k X.A) (ha : PA X (e :: es) t)
    (hg : Gl X x := by rfl) (hdb : (x == ("__debug__" : Str)) = false := by decide) (he : starEach (e :: es) X.env = (false, eval e X.env) :: starEach es X.env := by rfl) (hpl : (backTo pos (starEach es X.env)).any (·.1) = false := by rfl) :
    PE X (.Call (.Name x p) (e :: es) [] pos) (tCall sp [] E0 t) := pe_call G hr hg D.g D.F.kp D.b .nil pass0 ha hdb he hpl
/-! ### the tables of the generator expressions and of the lambdas, and what is kept -/
structure Tbs where
  gen : List Addr
  lam : List (Addr × Str)
  apart : ∀ p ∈ lam, p.1 ∉ gen
  one : ∀ p ∈ lam, ∀ q ∈ lam, p.1 = q.1 → p.2 = q.2
instance : Membership Addr Tbs := ⟨fun Ps P => P ∈ Ps.gen⟩
structure Tb (Ps : Tbs) (H : Hp) : Prop where
  gen : ∀ P, P ∈ Ps → TabG H P
  lam : LamX.Tabs Ps.lam H
structure Ext (Ps : Tbs) (H H' : Hp) : Prop where
  tb : Tb Ps H'
  old : ∀ b o, H b = some o → (∀ q, o ≠ .tbl q) → H' b = some o
  there : ∀ b o, H b = some o → ∃ o', H' b = some o'
section
variable {Ps : Tbs} {H H1 H2 H' : Hp} {K : PySem.W.Frag}
theorem Ext.refl (h : Tb Ps H) : Ext Ps H H := ⟨h, fun _ _ e _ => e, fun _ o e => ⟨o, e⟩⟩
theorem Ext.trans (a : Ext Ps H H1) (b : Ext Ps H1 H2) : Ext Ps H H2 := ⟨b.tb, fun c o e n => b.old c o (a.old c o e n) n, fun c o e => let ⟨o', e'⟩ := a.there c o e; b.there c o' e'⟩
theorem Ext.free (e : Ext Ps H H') {l : Addr} (h : H' l = none) : H l = none := by
  cases q : H l with
  | none => rfl
  | some o =>
    obtain ⟨o', z⟩ := e.there l o q
    rw [z] at h
    cases h
/-- a lambda's table stays one where its own cell and the code objects do -/
theorem tabS_keep {P : Addr} {q : Str} (t : LamX.TabS H P q) (h1 : ∀ ps, H P = some (.tbl ps) → H' P = some (.tbl ps)) (h2 : ∀ c, H c = some (LamX.CodeO c q) → H' c = some (LamX.CodeO c q)) : LamX.TabS H' P q := by
  obtain ⟨ps, a1, a2, a3⟩ := t
  refine ⟨ps, h1 ps a1, a2, fun p' cv hc => ?_⟩
  obtain ⟨c, e1, e2⟩ := a3 p' cv hc
  exact ⟨c, e1, h2 c e2⟩
theorem Ext.of_tabbed {P : Addr} (h : Tb Ps H) (hP : P ∈ Ps) (z : Tabbed P H H') : Ext Ps H H' := by
  obtain ⟨ps0, e0, _⟩ := h.gen P hP
  have nb : ∀ b o, H b = some o → (∀ q, o ≠ .tbl q) → b ≠ P := fun b o e n q => by
    rw [q, e0] at e
    cases e
    exact n _ rfl
  refine ⟨⟨fun Q hQ => ?_, fun p hp => tabS_keep (h.lam p hp) (fun ps e => ?_) fun c e => ?_⟩, fun b o e n => ?_, fun b o e => ?_⟩
  · by_cases e : Q = P
    · rw [e]
      exact z.1
    · obtain ⟨ps, h1, h2⟩ := h.gen Q hQ
      exact ⟨ps, by rw [z.2 Q e]; exact h1, h2⟩
  · rw [z.2 p.1 fun q => Ps.apart p hp (q ▸ hP)]
    exact e
  · rw [z.2 c (nb c _ e fun q y => by cases y)]
    exact e
  · rw [z.2 b (nb b o e n)]
    exact e
  · by_cases eb : b = P
    · obtain ⟨ps, h1, _⟩ := z.1
      rw [eb]
      exact ⟨_, h1⟩
    · exact ⟨o, by rw [z.2 b eb]; exact e⟩
theorem Tb.new {p : Addr} {o : HO} (h : Tb Ps H) (n : H p = none) : Tb Ps (upd H p o) := by
  refine ⟨fun Q hQ => ?_, fun q hq => tabS_keep (h.lam q hq) (fun ps e => ?_) fun c e => ?_⟩
  · obtain ⟨ps, h1, h2⟩ := h.gen Q hQ
    exact ⟨ps, by rw [upd_ne (ne_of_none h1 n)]; exact h1, h2⟩
  · rw [upd_ne (ne_of_none e n)]
    exact e
  · rw [upd_ne (ne_of_none e n)]
    exact e
/-- a heap of that many objects -/
theorem heap_of_size : ∀ n : Nat, ∃ h : Heap, h.objs.size = n
  | 0 => ⟨⟨#[], {}⟩, rfl⟩
  | n + 1 => by
    obtain ⟨h, e⟩ := heap_of_size n
    exact ⟨h.push { cls := .none, data := .fields #[] }, by rw [Heap.size_push, e]⟩
/-- what is true only of sets is no code object -/
theorem ext_ne_code {p : Addr} {q : Str} {f : Heap → Prop} (hf : ∀ h oc vs, f h → h.get? p = some oc → oc.data = .fields vs → False) : HO.ext f ≠ LamX.CodeO p q := fun z => by
  unfold LamX.CodeO at z
  obtain ⟨h, e⟩ := heap_of_size p
  have hz := HO.ext.inj z
  have g : (h.push { cls := .none, data := .fields #[.none, .str q 0] }).get? p = some { cls := .none, data := .fields #[.none, .str q 0] } := by
    rw [← e]
    exact Heap.get?_push_size _ rfl
  have hh : f (h.push { cls := .none, data := .fields #[.none, .str q 0] }) := by
    rw [hz]
    exact ⟨_, _, _, g, rfl, rfl⟩
  exact hf _ _ _ hh g rfl
/-- an object that is neither a table nor a code object is written -/
theorem Tb.put {p : Addr} {o o' : HO} (h : Tb Ps H) (hp : H p = some o) (ho : ∀ q, o ≠ .tbl q) (hx : ∀ q, o ≠ LamX.CodeO p q) : Tb Ps (upd H p o') := by
  have n1 : ∀ Q ps, H Q = some (.tbl ps) → Q ≠ p := fun Q ps e z => by
    rw [z, hp] at e
    cases e
    exact ho _ rfl
  refine ⟨fun Q hQ => ?_, fun q hq => tabS_keep (h.lam q hq) (fun ps e => ?_) fun c e => ?_⟩
  · obtain ⟨ps, h1, h2⟩ := h.gen Q hQ
    exact ⟨ps, by rw [upd_ne (n1 Q ps h1)]; exact h1, h2⟩
  · rw [upd_ne (n1 _ ps e)]
    exact e
  · have ne : c ≠ p := fun z => by
      rw [z] at e
      exact hx _ (Option.some.inj (hp.symm.trans e))
    rw [upd_ne ne]
    exact e
theorem Ext.new {p : Addr} {o : HO} (h : Tb Ps H) (n : H p = none) : Ext Ps H (upd H p o) := by
  refine ⟨h.new n, fun b u e _ => ?_, fun b u e => ⟨u, ?_⟩⟩
  · rw [upd_ne (ne_of_none e n)]
    exact e
  · rw [upd_ne (ne_of_none e n)]
    exact e
theorem Ext.sqL (e : Ext Ps H H') {a : Addr} {xs : List V} (h : SqL K H a xs) : SqL K H' a xs := by
  rcases h with (h | ⟨o, h⟩) | h
  · exact .inl (.inl (e.old _ _ h (fun q z => by cases z)))
  · exact .inl (.inr ⟨o, e.old _ _ h (fun q z => by cases z)⟩)
  · exact .inr h
theorem Ext.sqT (e : Ext Ps H H') {a : Addr} {xs : List V} (h : SqT K H a xs) : SqT K H' a xs := by
  rcases h with (h | ⟨o, h⟩) | h
  · exact .inl (.inl (e.old _ _ h (fun q z => by cases z)))
  · exact .inl (.inr ⟨o, e.old _ _ h (fun q z => by cases z)⟩)
  · exact .inr h
theorem Ext.lst (e : Ext Ps H H') {a : Addr} {xs : List V} (h : H a = some (.lst xs)) : H' a = some (.lst xs) := e.old _ _ h (fun q z => by cases z)
theorem Ext.tupI (e : Ext Ps H H') {x : V} {ns : List Int} (h : TupI K H x ns) : TupI K H' x ns := let ⟨t, e1, e2⟩ := h; ⟨t, e1, e.sqT e2⟩
theorem Ext.tups (e : Ext Ps H H') {xs : List V} {fss : List (List Int)} (h : Paired (TupI K H) xs fss) : Paired (TupI K H') xs fss := L2.Paired.mapP h fun _ _ z => e.tupI z
/-- an object that is ours is written -/
theorem Ext.write {p : Addr} {o o' : HO} (e : Ext Ps H H') (n : H p = none) (hp : H' p = some o) (ho : ∀ q, o ≠ .tbl q) (hx : ∀ q, o ≠ LamX.CodeO p q := by intro q z; unfold LamX.CodeO at z; cases z) : Ext Ps H (upd H' p o') := by
  refine ⟨e.tb.put hp ho hx, fun b u q nt => ?_, fun b u q => ?_⟩
  · rw [upd_ne (ne_of_none q n)]
    exact e.old _ _ q nt
  · rw [upd_ne (ne_of_none q n)]
    exact e.there _ _ q
end
theorem paired_get {α β : Type} {F : α → β → Prop} : ∀ {xs : List α} {fs : List β} {i : Nat} {x : α}, Paired F xs fs → xs[i]? = some x → ∃ f, fs[i]? = some f ∧ F x f
  | _, _, _, _, .nil, e => by simp at e
  | _, _, 0, x, .cons r _, e => by
    have e' := Option.some.inj e
    subst e'
    exact ⟨_, rfl, r⟩
  | _, _, i + 1, x, .cons _ t, e => by
    obtain ⟨f, h1, h2⟩ := paired_get (i := i) (x := x) t (by simpa using e)
    exact ⟨f, by simpa using h1, h2⟩
theorem paired_get' {α β : Type} {F : α → β → Prop} : ∀ {xs : List α} {fs : List β} {i : Nat} {f : β}, Paired F xs fs → fs[i]? = some f → ∃ x, xs[i]? = some x ∧ F x f
  | _, _, _, _, .nil, e => by simp at e
  | _, _, 0, x, .cons r _, e => by
    have e' := Option.some.inj e
    subst e'
    exact ⟨_, rfl, r⟩
  | _, _, i + 1, x, .cons _ t, e => by
    obtain ⟨f, h1, h2⟩ := paired_get' (i := i) (f := x) t (by simpa using e)
    exact ⟨f, by simpa using h1, h2⟩
/-! ### gW for the three kinds of walks -/
section
variable {K : PySem.W.Frag} {all : Bool} {σc : L2.St} {te : TE} {Q : VK}
/-- over a sequence of n things that stands still; Pv: what is kept, by the turn -/
theorem gW_seq {J : It} {n : Nat} {H0 : Hp} (Pv : Nat → Hp → Prop) (h0 : Pv 0 H0) (hstop : ∀ H, Pv n H → J.stop n H ∧ Q (.bl all) H)
    (hgo : ∀ i H, i < n → Pv i H → J.go i H ∧ ∀ x H4, J.yld i H x H4 → te (some x :: σc) H4 fun v H5 => ∃ b : Bool, v = .bl b ∧ (b = all → Pv (i + 1) H5) ∧ (b ≠ all → Q (.bl b) H5)) :
    ∃ W : Nat → Nat → Hp → Prop, (∃ m, W 0 m H0) ∧ gW all J σc te Q W := by
  refine ⟨fun i m H => i + m = n ∧ Pv i H, ⟨n, by omega, h0⟩, ?_⟩
  rintro i m H ⟨e, p⟩
  by_cases hi : i < n
  · obtain ⟨g1, g2⟩ := hgo i H hi p
    refine .inr ⟨m - 1, by omega, g1, fun x H4 hy => ?_⟩
    have q := g2 x H4 hy
    have en : i + 1 + (m - 1) = n := by omega
    have ee : (fun (v : V) (H5 : Hp) => ∃ b : Bool, v = .bl b ∧ (b = all → (i + 1 + (m - 1) = n ∧ Pv (i + 1) H5)) ∧ (b ≠ all → Q (.bl b) H5)) = (fun (v : V) (H5 : Hp) => ∃ b : Bool, v = .bl b ∧ (b = all → Pv (i + 1) H5) ∧ (b ≠ all → Q (.bl b) H5)) := by
      funext v H5
      simp only [en, true_and]
    show te (some x :: σc) H4 (fun (v : V) (H5 : Hp) => ∃ b : Bool, v = .bl b ∧ (b = all → (i + 1 + (m - 1) = n ∧ Pv (i + 1) H5)) ∧ (b ≠ all → Q (.bl b) H5))
    rw [ee]
    exact q
  · have ei : i = n := by omega
    subst ei
    exact .inl (hstop H p)
theorem gW_tup {a : Addr} {xs : List V} {H0 : Hp} (Pv : Nat → Hp → Prop) (h0 : Pv 0 H0) (hl : ∀ i H, Pv i H → SqT K H a xs) (hstop : ∀ H, Pv xs.length H → Q (.bl all) H)
    (hgo : ∀ i H x, xs[i]? = some x → Pv i H → te (some x :: σc) H fun v H5 => ∃ b : Bool, v = .bl b ∧ (b = all → Pv (i + 1) H5) ∧ (b ≠ all → Q (.bl b) H5)) :
    ∃ W : Nat → Nat → Hp → Prop, (∃ m, W 0 m H0) ∧ gW all (Itt K a) σc te Q W := by
  refine gW_seq (n := xs.length) Pv h0 (fun H p => ⟨⟨xs, hl _ H p, Nat.le_refl _⟩, hstop H p⟩) fun i H hi p => ⟨⟨xs, xs[i], hl i H p, List.getElem?_eq_getElem hi⟩, fun x H4 hy => ?_⟩
  obtain ⟨rfl, hy⟩ := hy
  exact hgo i H4 x (hy xs (hl i H4 p)) p
theorem gW_lst {a : Addr} {xs : List V} {H0 : Hp} (Pv : Nat → Hp → Prop) (h0 : Pv 0 H0) (hl : ∀ i H, Pv i H → SqL K H a xs) (hstop : ∀ H, Pv xs.length H → Q (.bl all) H)
    (hgo : ∀ i H x, xs[i]? = some x → Pv i H → te (some x :: σc) H fun v H5 => ∃ b : Bool, v = .bl b ∧ (b = all → Pv (i + 1) H5) ∧ (b ≠ all → Q (.bl b) H5)) :
    ∃ W : Nat → Nat → Hp → Prop, (∃ m, W 0 m H0) ∧ gW all (Itl K a) σc te Q W := by
  refine gW_seq (n := xs.length) Pv h0 (fun H p => ⟨⟨xs, hl _ H p, Nat.le_refl _⟩, hstop H p⟩) fun i H hi p => ⟨⟨xs, xs[i], hl i H p, List.getElem?_eq_getElem hi⟩, fun x H4 hy => ?_⟩
  obtain ⟨rfl, hy⟩ := hy
  exact hgo i H4 x (hy xs (hl i H4 p)) p
theorem gW_rng {lo : Int} {n : Nat} {H0 : Hp} (Pv : Nat → Hp → Prop) (h0 : Pv 0 H0) (hstop : ∀ H, Pv n H → Q (.bl all) H)
    (hgo : ∀ (i : Nat) H, i < n → Pv i H → te (some (.int (lo + i)) :: σc) H fun v H5 => ∃ b : Bool, v = .bl b ∧ (b = all → Pv (i + 1) H5) ∧ (b ≠ all → Q (.bl b) H5)) :
    ∃ W : Nat → Nat → Hp → Prop, (∃ m, W 0 m H0) ∧ gW all (Itr lo n) σc te Q W := by
  refine gW_seq (n := n) Pv h0 (fun H p => ⟨Nat.le_refl n, hstop H p⟩) fun i H hi p => ⟨hi, fun x H4 hy => ?_⟩
  obtain ⟨rfl, rfl⟩ := hy
  exact hgo i H4 hi p
end
/-- the scope of a generator expression over the def's own -/
def genC (dsc sc : Scope) : Bool := sc.names.all fun y => match y.2 with
  | .cell => false
  | .free => (match dsc.names.lookup y.1 with | some .cell => true | _ => false)
  | _ => true
theorem genS {q : Str} {dsc sc : Scope} {n f : Addr} {cd : Value} {x : Str} (h1 : sc.kind = .function) (h2 : sc.isCoroutine = false) (h3 : genC dsc sc = true) (h4 : sc.names.lookup (".0" : Str) = some NameKind.local) (h5 : sc.names.lookup x = some .local) :
    GenS (envOfC q dsc n f cd) sc x := by
  refine ⟨h1, h2, fun y hy e => ?_, h4, h5, fun y hy e => ?_⟩
  · have z := List.all_eq_true.mp h3 y hy
    simp only [e] at z
    cases z
  · have z := List.all_eq_true.mp h3 y hy
    simp only [e] at z
    split at z
    · rename_i hc
      exact cell_has hc
    · cases z
end Lf

namespace Lf
open PySem
/-! ### the text -/
def topS (i : Nat) : Stmt := PySem.Challenge.pw_layfaces_k53_whole_kinds_are_laid.main.body.getD i (.Pass ⟨0, 0, 0, 0⟩)
end Lf

set_option maxHeartbeats 1000000
namespace Lf
open PySem PySem.Spec PyProof.Rows L2 GxR GxA SrT
abbrev sWithin : Stmt := topS 6
abbrev sBelow : Stmt := topS 8
abbrev sRises : Stmt := topS 9
abbrev sRising : Stmt := topS 10
abbrev sHasAll : Stmt := topS 12
abbrev sInSome : Stmt := topS 13
theorem scWithin : FnScope ["thing", "least", "most"] ["thing", "least", "most"] (defScope sWithin) := ⟨rfl, rfl, rfl, by decide +kernel, rfl, by decide +kernel, by decide +kernel⟩
theorem scBelow : FnScope ["thing", "many"] ["thing", "many"] (defScope sBelow) := ⟨rfl, rfl, rfl, by decide +kernel, rfl, by decide +kernel, by decide +kernel⟩
theorem scRises : FnScope ["things"] ["things"] (defScope sRises) := ⟨rfl, rfl, rfl, by decide +kernel, rfl, by decide +kernel, by decide +kernel⟩
theorem scRising : FnScope ["thing", "many"] ["thing", "many"] (defScope sRising) := ⟨rfl, rfl, rfl, by decide +kernel, rfl, by decide +kernel, by decide +kernel⟩
theorem scHasAll : FnScope ["face", "points"] ["face", "points"] (defScope sHasAll) := ⟨rfl, rfl, rfl, by decide +kernel, rfl, by decide +kernel, by decide +kernel⟩
theorem scInSome : FnScope ["points", "faces"] ["points", "faces"] (defScope sInSome) := ⟨rfl, rfl, rfl, by decide +kernel, rfl, by decide +kernel, by decide +kernel⟩
section
variable {P : Program} {w : World} {K : PySem.W.Frag} {mg : Str → Option Value} {base : Heap} {Ps : Tbs}
/-! ### is_within -/
def spWithin : Sp := fun vs H Q _ => ∃ i lo hi : Int, vs = [.int i, .int lo, .int hi] ∧ lo ≤ i ∧ i ≤ hi ∧ Q (.bl true) H
theorem ok_within {f c : Addr} {fd : FuncData} {k : Nat} (D : Def K mg "is_within" sWithin ["thing", "least", "most"] f fd c) (mi : mg "isinstance" = none) (mn : mg "int" = none) (mb : mg "bool" = none) : FnOk P w K mg base CX0 (k + 1) f fd ["thing", "least", "most"] spWithin := by
  refine D.ok scWithin (fun vs H Q E h => ?_) (fun A outer s H vs Q E hr h => ?_)
  · obtain ⟨i, lo, hi, rfl, _⟩ := h
    rfl
  · obtain ⟨i, lo, hi, rfl, h1, h2, q⟩ := h
    refine ⟨_, pss_cons (ps_if (PW.pt (pw_or (pt_not (pt_val (pe_callB call_isi (by rfl) mi (by decide +kernel) (pa_cons (pv 0) (pa_cons (pe_bltn (v := .ty "int") (by rfl) mn (by decide +kernel) rfl) pa_nil)))))
        (pw_or1 (pt_val (pe_callB call_isi (by rfl) mi (by decide +kernel) (pa_cons (pv 0) (pa_cons (pe_bltn (v := .ty "bool") (by rfl) mb (by decide +kernel) rfl) pa_nil))))))) (pss_one (ps_ret pe_bl)) pss_nil)
      (pss_one (ps_ret (pe_chain op_le op_le (pv 1) (pv 0) (pv 2)))), ?_⟩
    refine ⟨.int i, rfl, .int i, .ty "int", .type "int", .type "int", true, rfl, .ty _, .base (.int i), kit_ty (by decide +kernel), true, rfl, iteF ?_⟩
    refine ⟨.int i, rfl, .int i, .ty "bool", .type "int", .type "bool", false, rfl, .ty _, .base (.int i), kit_ty (by decide +kernel), false, rfl, iteF ?_⟩
    refine ⟨.int lo, rfl, .int i, rfl, lo, i, rfl, rfl, _, rfl, ?_⟩
    rw [if_pos (decide_eq_true h1)]
    refine ⟨.int hi, rfl, i, hi, rfl, rfl, ?_⟩
    show Q (.bl (decide (i ≤ hi))) H
    rw [decide_eq_true h2]
    exact q
/-! ### all_below -/
def spBelow (K : PySem.W.Frag) (Ps : Tbs) : Sp := fun vs H Q _ => ∃ (a : Addr) (ns : List Int) (m : Int), vs = [.ref a, .int m] ∧ SqT K H a (ns.map V.int) ∧ (∀ i ∈ ns, 0 ≤ i ∧ i < m) ∧ Tb Ps H ∧ ∀ H', Ext Ps H H' → Q (.bl true) H'
theorem ty_tup {H : Hp} {a : Addr} {xs : List V} (h : SqT K H a xs) : TyX K H (.ref a) (.type "tuple") := by
  rcases h with (h | ⟨o, h⟩) | ⟨o, _, _, h, h2, _⟩
  · exact .base (.tup h)
  · exact .fTuple h
  · exact .kTuple h h2
theorem ok_below {f c fW cW PT : Addr} {fd fdW : FuncData} {k : Nat} (D : Def K mg "all_below" sBelow ["thing", "many"] f fd c) (DW : Def K mg "is_within" sWithin ["thing", "least", "most"] fW fdW cW) (TB : TabB base mg c PT) (hP : PT ∈ Ps)
    (mi : mg "isinstance" = none) (mn : mg "int" = none) (mb : mg "bool" = none) (mt : mg "tuple" = none) (ma : mg "all" = none) : FnOk P w K mg base CX0 (k + 3) f fd ["thing", "many"] (spBelow K Ps) := by
  have GW : FnOk P w K mg base CX0 (k + 1) fW fdW ["thing", "least", "most"] spWithin := ok_within DW mi mn mb
  refine D.ok (k := k + 2) scBelow (fun vs H Q E h => ?_) (fun A outer s H vs Q E hr h => ?_)
  · obtain ⟨a, ns, m, rfl, _⟩ := h
    rfl
  · obtain ⟨a, ns, m, rfl, hS, hb, ht, q⟩ := h
    refine ⟨_, pss_one (ps_ret (pe_and (pe_callB call_isi (by rfl) mi (by decide +kernel) (pa_cons (pv 0) (pa_cons (pe_bltn (v := .ty "tuple") (by rfl) mt (by decide +kernel) rfl) pa_nil)))
      (pe_one (pe_allG (k := k + 1) (caps := [1]) (xs := ["many"]) hr (by rfl) ma TB rfl (genS rfl rfl (by decide +kernel) rfl rfl) ⟨⟨rfl, .inl rfl, rfl⟩, trivial⟩ (by decide +kernel) (pi_tup (pv 0))
        (fun _ _ _ _ _ _ _ hr' => pcl DW GW hr' (pa_cons (pv 0) (pa_cons pe_int (pa_cons (pe_op op_sub (pv 1) pe_int) pa_nil)))) (fun _ => rfl))))), ?_⟩
    refine ⟨.ref a, rfl, .ref a, .ty "tuple", .type "tuple", .type "tuple", true, rfl, .ty _, ty_tup hS, kit_ty (by decide +kernel), true, rfl, iteT ?_⟩
    refine ⟨.ref a, rfl, a, rfl, ⟨_, hS⟩, ht.gen PT hP, fun H2 hT2 => ?_⟩
    have e2 := Ext.of_tabbed ht hP hT2
    refine gW_tup (xs := ns.map V.int) (fun _ H3 => H3 = H2) rfl (fun i H3 e => by rw [e]; exact e2.sqT hS) (fun H3 e => by rw [e]; exact q _ e2) fun i H3 x hx e => ?_
    subst e
    rw [List.getElem?_map] at hx
    obtain ⟨y, hy, rfl⟩ := Option.map_eq_some_iff.mp hx
    have hyb := hb y (List.mem_of_getElem? hy)
    exact ⟨.int y, rfl, .int m, rfl, m, 1, rfl, rfl, y, 0, m - 1, rfl, hyb.1, by omega, true, rfl, fun _ => rfl, fun z => absurd rfl z⟩
/-! ### rises -/
/-- the things of xs rise -/
def Rise (K : PySem.W.Frag) (H : Hp) (xs : List V) : Prop := (∃ ns : List Int, xs = ns.map V.int ∧ ns.Pairwise (· < ·)) ∨ ∃ fss, Paired (TupI K H) xs fss ∧ fss.Pairwise fun x y => lex x y = true
def spRises (K : PySem.W.Frag) (Ps : Tbs) : Sp := fun vs H Q _ => ∃ (a : Addr) (xs : List V), vs = [.ref a] ∧ SqT K H a xs ∧ Rise K H xs ∧ xs.length ≤ 1000 ∧ Tb Ps H ∧ ∀ H', Ext Ps H H' → Q (.bl true) H'
theorem ok_rises {f c PT : Addr} {fd : FuncData} {k : Nat} (D : Def K mg "rises" sRises ["things"] f fd c) (TB : TabB base mg c PT) (hP : PT ∈ Ps) (ma : mg "all" = none) (mr : mg "range" = none) (ml : mg "len" = none) :
    FnOk P w K mg base CX0 (k + 2) f fd ["things"] (spRises K Ps) := by
  refine D.ok (k := k + 1) scRises (fun vs H Q E h => ?_) (fun A outer s H vs Q E hr h => ?_)
  · obtain ⟨a, xs, rfl, _⟩ := h
    rfl
  · obtain ⟨a, xs, rfl, hS, hR, hl, ht, q⟩ := h
    refine ⟨_, pss_one (ps_ret (pe_allG (k := k) (caps := [0]) (xs := ["things"]) hr (by rfl) ma TB rfl (genS rfl rfl (by decide +kernel) rfl rfl) ⟨⟨rfl, .inl rfl, rfl⟩, trivial⟩ (by decide +kernel)
      (pi_range1 (by rfl) mr (pa_cons (pe_op op_sub (pe_callB call_len_seq (by rfl) ml PySem.boot_len (pa_cons (pv 0) pa_nil)) pe_int) pa_nil))
        (fun _ _ _ _ _ _ _ hr' => pe_cmpR (OpR.or op_lt (show OpR _ _ (rLtT K) from op_ltT hr'.units0)) (pe_ix (show IxR _ (rIxT K) from ix_tup) (pv 1) (pv 0) (fun _ _ => rfl)) (pe_ix (show IxR _ (rIxT K) from ix_tup) (pv 1) (pe_op op_add (pv 0) pe_int) (fun _ _ => rfl)) (nomark _)) (fun _ => rfl))), ?_⟩
    refine ⟨.ref a, rfl, a, xs, rfl, .inr hS, (xs.length : Int), 1, rfl, rfl, (xs.length : Int) - 1, rfl, by omega, by omega, ht.gen PT hP, fun H2 hT2 => ?_⟩
    have e2 := Ext.of_tabbed ht hP hT2
    refine gW_rng (fun _ H3 => H3 = H2) rfl (fun H3 e => by rw [e]; exact q _ e2) fun i H3 hi e => ?_
    subst e
    have h1 : i < xs.length := by omega
    have h2 : i + 1 < xs.length := by omega
    refine ⟨.ref a, rfl, .int (0 + i), rfl, a, xs, 0 + i, xs[i], rfl, rfl, e2.sqT hS, ?_, .ref a, rfl, .int (0 + i), rfl, 0 + i, 1, rfl, rfl, a, xs, 0 + i + 1, xs[i + 1], rfl, rfl, e2.sqT hS, ?_, ?_⟩
    · rw [Int.zero_add]
      exact atI_nat (List.getElem?_eq_getElem h1)
    · have : (0 + (i : Int) + 1) = ((i + 1 : Nat) : Int) := by omega
      rw [this]
      exact atI_nat (List.getElem?_eq_getElem h2)
    · rcases hR with ⟨ns, rfl, hp⟩ | ⟨fss, hp, hr2⟩
      · have g1 : i < ns.length := by simpa using h1
        have g2 : i + 1 < ns.length := by simpa using h2
        refine .inl ⟨ns[i], ns[i + 1], by simp, by simp, true, ?_, fun _ => rfl, fun z => absurd rfl z⟩
        exact congrArg V.bl (decide_eq_true (List.pairwise_iff_getElem.mp hp i (i + 1) g1 g2 (by omega)))
      · have hlen := Paired.length hp
        obtain ⟨f1, k1, ⟨t1, z1, s1⟩⟩ := paired_get hp (List.getElem?_eq_getElem h1)
        obtain ⟨f2, k2, ⟨t2, z2, s2⟩⟩ := paired_get hp (List.getElem?_eq_getElem h2)
        refine .inr ⟨t1, t2, f1, f2, z1, z2, e2.sqT s1, e2.sqT s2, true, ?_, fun _ => rfl, fun z => absurd rfl z⟩
        obtain ⟨g1, k1⟩ := List.getElem?_eq_some_iff.mp k1
        obtain ⟨g2, k2⟩ := List.getElem?_eq_some_iff.mp k2
        have := List.pairwise_iff_getElem.mp hr2 i (i + 1) g1 g2 (by omega)
        rw [k1, k2] at this
        exact congrArg V.bl this
end
end Lf

set_option maxHeartbeats 1000000
namespace Lf
open PySem PySem.Spec PyProof.Rows L2 GxR GxA SrT
section
variable {P : Program} {w : World} {K : PySem.W.Frag} {mg : Str → Option Value} {base : Heap} {Ps : Tbs}
/-! ### is_rising -/
def spRising (K : PySem.W.Frag) (Ps : Tbs) : Sp := fun vs H Q _ => ∃ (a : Addr) (ns : List Int) (m : Int), vs = [.ref a, .int m] ∧ SqT K H a (ns.map V.int) ∧ (∀ i ∈ ns, 0 ≤ i ∧ i < m) ∧ ns.Pairwise (· < ·) ∧ ns.length ≤ 1000 ∧ Tb Ps H ∧ ∀ H', Ext Ps H H' → Q (.bl true) H'
theorem ok_rising {f c fB cB fR cR : Addr} {fd fdB fdR : FuncData} {k : Nat} (D : Def K mg "is_rising" sRising ["thing", "many"] f fd c) (DB : Def K mg "all_below" sBelow ["thing", "many"] fB fdB cB) (DR : Def K mg "rises" sRises ["things"] fR fdR cR)
    (GB : FnOk P w K mg base CX0 (k + 3) fB fdB ["thing", "many"] (spBelow K Ps)) (GR : FnOk P w K mg base CX0 (k + 3) fR fdR ["things"] (spRises K Ps)) : FnOk P w K mg base CX0 (k + 4) f fd ["thing", "many"] (spRising K Ps) := by
  refine D.ok (k := k + 3) scRising (fun vs H Q E h => ?_) (fun A outer s H vs Q E hr h => ?_)
  · obtain ⟨a, ns, m, rfl, _⟩ := h
    rfl
  · obtain ⟨a, ns, m, rfl, hS, hb, hp, hl, ht, q⟩ := h
    refine ⟨_, pss_one (ps_ret (pe_and (pcl DB GB hr (pa_cons (pv 0) (pa_cons (pv 1) pa_nil))) (pe_one (pcl DR GR hr (pa_cons (pv 0) pa_nil))))), ?_⟩
    refine ⟨.ref a, rfl, .int m, rfl, a, ns, m, rfl, hS, hb, ht, fun H1 e1 => ⟨true, rfl, iteT ?_⟩⟩
    exact ⟨.ref a, rfl, a, _, rfl, e1.sqT hS, .inl ⟨ns, rfl, hp⟩, by rw [List.length_map]; exact hl, e1.tb, fun H2 e2 => q _ (e1.trans e2)⟩
/-! ### has_all -/
theorem inV_ints (x : Int) (ns : List Int) : inV (.int x) (ns.map V.int) = decide (x ∈ ns) := by
  unfold inV
  rw [List.any_map, Bool.eq_iff_iff, List.any_eq_true, decide_eq_true_eq]
  constructor
  · rintro ⟨y, hy, e⟩
    have : y = x := by simpa [eqV] using e
    exact this ▸ hy
  · intro h
    exact ⟨x, h, by simp [eqV]⟩
theorem flat_ints (ns : List Int) : (ns.map V.int).all flatV = true := by
  rw [List.all_map, List.all_eq_true]
  intro _ _
  rfl
/-- the face has all the points -/
def hasAll (face pts : List Int) : Bool := pts.all fun p => decide (p ∈ face)
def spHasAll (K : PySem.W.Frag) (Ps : Tbs) : Sp := fun vs H Q _ => ∃ (x y : V) (fc pts : List Int), vs = [x, y] ∧ TupI K H x fc ∧ TupI K H y pts ∧ Tb Ps H ∧ ∀ H', Ext Ps H H' → Q (.bl (hasAll fc pts)) H'
theorem hasAll_stop {fc pts : List Int} {i : Nat} {y : Int} (hy : pts[i]? = some y) (h : decide (y ∈ fc) = false) : hasAll fc pts = false := by
  unfold hasAll
  rw [List.all_eq_false]
  exact ⟨y, List.mem_of_getElem? hy, by rw [h]; simp⟩
theorem ok_hasAll {f c PT : Addr} {fd : FuncData} {k : Nat} (D : Def K mg "has_all" sHasAll ["face", "points"] f fd c) (TB : TabB base mg c PT) (hP : PT ∈ Ps) (ma : mg "all" = none) :
    FnOk P w K mg base CX0 (k + 2) f fd ["face", "points"] (spHasAll K Ps) := by
  refine D.ok (k := k + 1) scHasAll (fun vs H Q E h => ?_) (fun A outer s H vs Q E hr h => ?_)
  · obtain ⟨x, y, fc, pts, rfl, _⟩ := h
    rfl
  · obtain ⟨_, _, fc, pts, rfl, ⟨a, rfl, hA⟩, ⟨b, rfl, hB⟩, ht, q⟩ := h
    refine ⟨_, pss_one (ps_ret (pe_allG (k := k) (caps := [0]) (xs := ["face"]) hr (by rfl) ma TB rfl (genS rfl rfl (by decide +kernel) rfl rfl) ⟨⟨rfl, .inl rfl, rfl⟩, trivial⟩ (by decide +kernel) (pi_tup (pv 1))
        (fun _ _ _ _ _ _ _ _ => pe_cmpR (show OpR _ _ (rIn K false) from op_in_seq) (pv 0) (pv 1) (by with_unfolding_all rfl)) (fun _ => rfl))), ?_⟩
    refine ⟨.ref b, rfl, b, rfl, ⟨_, hB⟩, ht.gen PT hP, fun H2 hT2 => ?_⟩
    have e2 := Ext.of_tabbed ht hP hT2
    refine gW_tup (xs := pts.map V.int) (fun i H3 => H3 = H2 ∧ hasAll fc (pts.take i) = true) ⟨rfl, rfl⟩ (fun i H3 e => by rw [e.1]; exact e2.sqT hB) (fun H3 e => ?_) fun i H3 x hx e => ?_
    · obtain ⟨rfl, h2⟩ := e
      rw [List.length_map, List.take_length] at h2
      have := q _ e2
      rw [h2] at this
      exact this
    · obtain ⟨rfl, h2⟩ := e
      rw [List.getElem?_map] at hx
      obtain ⟨y, hy, rfl⟩ := Option.map_eq_some_iff.mp hx
      refine ⟨.int y, rfl, .ref a, rfl, a, _, rfl, .inr (e2.sqT hA), rfl, flat_ints fc, _, rfl, fun hb => ⟨rfl, ?_⟩, fun hb => ?_⟩
      · have hb' : inV (.int y) (fc.map V.int) = true := hb
        rw [inV_ints] at hb'
        rw [List.take_add_one, hy]
        unfold hasAll at h2 ⊢
        rw [List.all_append, h2]
        simpa using hb'
      · have hb' : inV (.int y) (fc.map V.int) = false := by
          have z : ¬ inV (.int y) (fc.map V.int) = true := hb
          simpa using z
        have hq := q _ e2
        rw [hasAll_stop hy (by rw [← inV_ints]; exact hb')] at hq
        show Q (.bl (inV (.int y) (fc.map V.int))) H3
        rw [hb']
        exact hq
/-! ### in_some -/
def inSome (pts : List Int) (fss : List (List Int)) : Bool := fss.any fun fc => hasAll fc pts
def spInSome (K : PySem.W.Frag) (Ps : Tbs) : Sp := fun vs H Q _ => ∃ (x : V) (l : Addr) (xs : List V) (pts : List Int) (fss : List (List Int)), vs = [x, .ref l] ∧ TupI K H x pts ∧ SqL K H l xs ∧ Paired (TupI K H) xs fss ∧ Tb Ps H ∧ ∀ H', Ext Ps H H' → Q (.bl (inSome pts fss)) H'
theorem ok_inSome {f c fH cH PT : Addr} {fd fdH : FuncData} {k : Nat} (D : Def K mg "in_some" sInSome ["points", "faces"] f fd c) (DH : Def K mg "has_all" sHasAll ["face", "points"] fH fdH cH) (GH : FnOk P w K mg base CX0 (k + 2) fH fdH ["face", "points"] (spHasAll K Ps)) (TB : TabB base mg c PT) (hP : PT ∈ Ps) (ma : mg "any" = none) :
    FnOk P w K mg base CX0 (k + 4) f fd ["points", "faces"] (spInSome K Ps) := by
  refine D.ok (k := k + 3) scInSome (fun vs H Q E h => ?_) (fun A outer s H vs Q E hr h => ?_)
  · obtain ⟨x, l, xs, pts, fss, rfl, _⟩ := h
    rfl
  · obtain ⟨_, l, xs, pts, fss, rfl, ⟨a, rfl, hA⟩, hL, hp, ht, q⟩ := h
    refine ⟨_, pss_one (ps_ret (pe_anyG (k := k + 2) (caps := [0]) (xs := ["points"]) hr (by rfl) ma TB rfl (genS rfl rfl (by decide +kernel) rfl rfl) ⟨⟨rfl, .inl rfl, rfl⟩, trivial⟩ (by decide +kernel) (pi_list (pv 1))
        (fun _ _ _ _ _ _ _ hr' => pcl DH GH hr' (pa_cons (pv 0) (pa_cons (pv 1) pa_nil))) (fun _ => rfl))), ?_⟩
    refine ⟨.ref l, rfl, l, rfl, ⟨_, hL⟩, ht.gen PT hP, fun H2 hT2 => ?_⟩
    have e2 := Ext.of_tabbed ht hP hT2
    refine gW_lst (xs := xs) (fun i H3 => Ext Ps H H3 ∧ inSome pts (fss.take i) = false) ⟨e2, rfl⟩ (fun i H3 e => e.1.sqL hL) (fun H3 e => ?_) fun i H3 x hx e => ?_
    · obtain ⟨e3, h2⟩ := e
      rw [Paired.length hp, List.take_length] at h2
      have := q _ e3
      rw [h2] at this
      exact this
    · obtain ⟨e3, h2⟩ := e
      obtain ⟨fc, hf, hI⟩ := paired_get hp hx
      refine ⟨x, rfl, .ref a, rfl, x, .ref a, fc, pts, rfl, e3.tupI hI, ⟨a, rfl, e3.sqT hA⟩, e3.tb, fun H4 e4 => ⟨_, rfl, fun hb => ⟨e3.trans e4, ?_⟩, fun hb => ?_⟩⟩
      · rw [List.take_add_one, hf]
        unfold inSome at h2 ⊢
        rw [List.any_append, h2]
        simpa using hb
      · have hb' : hasAll fc pts = true := by
          have z : ¬ hasAll fc pts = false := hb
          simpa using z
        have e5 : inSome pts fss = true := by
          unfold inSome
          rw [List.any_eq_true]
          exact ⟨fc, List.mem_of_getElem? hf, hb'⟩
        have hq := q _ (e3.trans e4)
        rw [e5] at hq
        rw [hb']
        exact hq
def spInSomeT (K : PySem.W.Frag) (Ps : Tbs) : Sp := fun vs H Q _ => ∃ (x : V) (l : Addr) (xs : List V) (pts : List Int) (fss : List (List Int)), vs = [x, .ref l] ∧ TupI K H x pts ∧ SqT K H l xs ∧ Paired (TupI K H) xs fss ∧ Tb Ps H ∧ ∀ H', Ext Ps H H' → Q (.bl (inSome pts fss)) H'
/-- over a tuple -/
theorem ok_inSomeT {f c fH cH PT : Addr} {fd fdH : FuncData} {k : Nat} (D : Def K mg "in_some" sInSome ["points", "faces"] f fd c) (DH : Def K mg "has_all" sHasAll ["face", "points"] fH fdH cH) (GH : FnOk P w K mg base CX0 (k + 2) fH fdH ["face", "points"] (spHasAll K Ps)) (TB : TabB base mg c PT) (hP : PT ∈ Ps) (ma : mg "any" = none) :
    FnOk P w K mg base CX0 (k + 4) f fd ["points", "faces"] (spInSomeT K Ps) := by
  refine D.ok (k := k + 3) scInSome (fun vs H Q E h => ?_) (fun A outer s H vs Q E hr h => ?_)
  · obtain ⟨x, l, xs, pts, fss, rfl, _⟩ := h
    rfl
  · obtain ⟨_, l, xs, pts, fss, rfl, ⟨a, rfl, hA⟩, hL, hp, ht, q⟩ := h
    refine ⟨_, pss_one (ps_ret (pe_anyG (k := k + 2) (caps := [0]) (xs := ["points"]) hr (by rfl) ma TB rfl (genS rfl rfl (by decide +kernel) rfl rfl) ⟨⟨rfl, .inl rfl, rfl⟩, trivial⟩ (by decide +kernel) (pi_tup (pv 1))
        (fun _ _ _ _ _ _ _ hr' => pcl DH GH hr' (pa_cons (pv 0) (pa_cons (pv 1) pa_nil))) (fun _ => rfl))), ?_⟩
    refine ⟨.ref l, rfl, l, rfl, ⟨_, hL⟩, ht.gen PT hP, fun H2 hT2 => ?_⟩
    have e2 := Ext.of_tabbed ht hP hT2
    refine gW_tup (xs := xs) (fun i H3 => Ext Ps H H3 ∧ inSome pts (fss.take i) = false) ⟨e2, rfl⟩ (fun i H3 e => e.1.sqT hL) (fun H3 e => ?_) fun i H3 x hx e => ?_
    · obtain ⟨e3, h2⟩ := e
      rw [Paired.length hp, List.take_length] at h2
      have := q _ e3
      rw [h2] at this
      exact this
    · obtain ⟨e3, h2⟩ := e
      obtain ⟨fc, hf, hI⟩ := paired_get hp hx
      refine ⟨x, rfl, .ref a, rfl, x, .ref a, fc, pts, rfl, e3.tupI hI, ⟨a, rfl, e3.sqT hA⟩, e3.tb, fun H4 e4 => ⟨_, rfl, fun hb => ⟨e3.trans e4, ?_⟩, fun hb => ?_⟩⟩
      · rw [List.take_add_one, hf]
        unfold inSome at h2 ⊢
        rw [List.any_append, h2]
        simpa using hb
      · have hb' : hasAll fc pts = true := by
          have z : ¬ hasAll fc pts = false := hb
          simpa using z
        have e5 : inSome pts fss = true := by
          unfold inSome
          rw [List.any_eq_true]
          exact ⟨fc, List.mem_of_getElem? hf, hb'⟩
        have hq := q _ (e3.trans e4)
        rw [e5] at hq
        rw [hb']
        exact hq
end
end Lf

set_option maxHeartbeats 1000000
namespace Lf
open PySem PySem.Spec PyProof.Rows L2 GxR GxA SrT
/-! ### a list that grows: what holds between two turns -/
structure Stb (K : PySem.W.Frag) (Ps : Tbs) {β : Type} (F : Hp → V → β → Prop) : Prop where
  ext : ∀ H H' x b, Ext Ps H H' → F H x b → F H' x b
  put : ∀ H D l l' x b, H D = some (.lst l) → F H x b → F (upd H D (.lst l')) x b
def FI : Hp → V → Int → Prop := fun _ x b => x = .int b
theorem stbI {K : PySem.W.Frag} {Ps : Tbs} : Stb K Ps FI := ⟨fun _ _ _ _ _ h => h, fun _ _ _ _ _ _ _ h => h⟩
theorem tupI_put {K : PySem.W.Frag} {H : Hp} {D : Addr} {l l' : List V} {x : V} {b : List Int} (hD : H D = some (.lst l)) (h : TupI K H x b) : TupI K (upd H D (.lst l')) x b := by
  obtain ⟨t, e, hs⟩ := h
  refine ⟨t, e, ?_⟩
  rcases hs with (h | ⟨o, h⟩) | h
  · exact .inl (.inl (by rw [upd_ne (ne_of h hD (by intro z; cases z))]; exact h))
  · exact .inl (.inr ⟨o, by rw [upd_ne (ne_of h hD (by intro z; cases z))]; exact h⟩)
  · exact .inr h
theorem stbT {K : PySem.W.Frag} {Ps : Tbs} : Stb K Ps (TupI K) := ⟨fun _ _ _ _ e h => e.tupI h, fun _ _ _ _ _ _ hD h => tupI_put hD h⟩
structure CP (Ps : Tbs) {β : Type} (F : Hp → V → β → Prop) (H0 : Hp) (D : Addr) (out : List β) (n : Nat) (H : Hp) : Prop where
  ext : Ext Ps H0 H
  at_ : ∃ ys, H D = some (.lst ys) ∧ Paired (F H) ys out ∧ ys.length ≤ n
section
variable {K : PySem.W.Frag} {Ps : Tbs} {β : Type} {F : Hp → V → β → Prop} {H0 H H' : Hp} {D : Addr} {out : List β} {n : Nat}
theorem CP.start (ht : Tb Ps H0) (hD : H0 D = none) : CP Ps F H0 D [] 0 (upd H0 D (.lst [])) := ⟨Ext.new ht hD, [], upd_same, .nil, Nat.le_refl _⟩
theorem CP.mono (h : CP Ps F H0 D out n H) {m : Nat} (hm : n ≤ m) : CP Ps F H0 D out m H := ⟨h.ext, let ⟨ys, a, b, c⟩ := h.at_; ⟨ys, a, b, Nat.le_trans c hm⟩⟩
theorem CP.skip (S : Stb K Ps F) (h : CP Ps F H0 D out n H) (e : Ext Ps H H') : CP Ps F H0 D out n H' := by
  obtain ⟨ys, h1, h2, h3⟩ := h.at_
  exact ⟨h.ext.trans e, ys, e.lst h1, L2.Paired.mapP h2 fun _ _ z => S.ext _ _ _ _ e z, h3⟩
theorem paired_snoc {α γ : Type} {G : α → γ → Prop} {a : α} {c : γ} : ∀ {xs : List α} {ys : List γ}, Paired G xs ys → G a c → Paired G (xs ++ [a]) (ys ++ [c])
  | _, _, .nil, h => .cons h .nil
  | _, _, .cons r t, h => .cons r (paired_snoc t h)
theorem CP.put (S : Stb K Ps F) (hD : H0 D = none) (hn : n ≤ 1000) {y : V} {z : β} (h : CP Ps F H0 D out n H) (hF : F H y z) :
    ∃ acc, H D = some (.lst acc) ∧ acc.length < sizeLine ∧ CP Ps F H0 D (out ++ [z]) (n + 1) (upd H D (.lst (acc ++ [y]))) := by
  obtain ⟨ys, h1, h2, h3⟩ := h.at_
  refine ⟨ys, h1, small1000 (Nat.le_trans h3 hn), ⟨h.ext.write hD h1 (fun q z => by cases z), ys ++ [y], upd_same, ?_, ?_⟩⟩
  · refine paired_snoc (L2.Paired.mapP h2 fun _ _ z => S.put _ _ _ _ _ _ h1 z) (S.put _ _ _ _ _ _ h1 hF)
  · rw [List.length_append]
    exact Nat.add_le_add_right h3 1
end
theorem paired_ints {H : Hp} : ∀ {ys : List V} {ns : List Int}, Paired (FI H) ys ns → ys = ns.map V.int
  | _, _, .nil => rfl
  | _, _, .cons r t => by
    rw [List.map_cons, ← paired_ints t, show _ = V.int _ from r]
theorem ints_paired {H : Hp} : ∀ (ns : List Int), Paired (FI H) (ns.map V.int) ns
  | [] => .nil
  | _ :: ns => .cons rfl (ints_paired ns)
theorem map_int {ns : List Int} {i : Nat} {x : V} (h : (ns.map V.int)[i]? = some x) : ∃ y, ns[i]? = some y ∧ x = .int y := by
  rw [List.getElem?_map] at h
  obtain ⟨y, hy, e⟩ := Option.map_eq_some_iff.mp h
  exact ⟨y, hy, e.symm⟩
theorem filt_take {α : Type} (p : α → Bool) {l : List α} {i : Nat} {y : α} (h : l[i]? = some y) : (l.take (i + 1)).filter p = (l.take i).filter p ++ (if p y = true then [y] else []) := by
  rw [List.take_add_one, h, List.filter_append]
  cases hp : p y <;> simp [hp]

abbrev sLess : Stmt := topS 14
abbrev sParts : Stmt := topS 15
abbrev sFacesAt : Stmt := topS 40
abbrev sBrOn : Stmt := topS 41
abbrev sLies : Stmt := topS 42
theorem scLess : FnScope ["face", "points", "point"] ["face", "points"] (defScope sLess) := ⟨rfl, rfl, rfl, by decide +kernel, rfl, by decide +kernel, by decide +kernel⟩
theorem scParts : FnScope ["face", "found", "point", "part"] ["face"] (defScope sParts) := ⟨rfl, rfl, rfl, by decide +kernel, rfl, by decide +kernel, by decide +kernel⟩
theorem scFacesAt : FnScope ["stack", "lot", "number"] ["stack", "lot"] (defScope sFacesAt) := ⟨rfl, rfl, rfl, by decide +kernel, rfl, by decide +kernel, by decide +kernel⟩
theorem scBrOn : FnScope ["laid", "face", "point"] ["laid", "face"] (defScope sBrOn) := ⟨rfl, rfl, rfl, by decide +kernel, rfl, by decide +kernel, by decide +kernel⟩
theorem scLies : FnScope ["laid", "face"] ["laid", "face"] (defScope sLies) := ⟨rfl, rfl, rfl, by decide +kernel, rfl, by decide +kernel, by decide +kernel⟩
section
variable {P : Program} {w : World} {K : PySem.W.Frag} {mg : Str → Option Value} {base : Heap} {Ps : Tbs}
/-! ### less -/
def lessL (fc pts : List Int) : List Int := fc.filter fun p => !decide (p ∈ pts)
def spLess (K : PySem.W.Frag) (Ps : Tbs) : Sp := fun vs H Q _ => ∃ (x y : V) (fc pts : List Int), vs = [x, y] ∧ TupI K H x fc ∧ TupI K H y pts ∧ fc.length ≤ 100 ∧ Tb Ps H ∧ ∀ v H', Ext Ps H H' → TupI K H' v (lessL fc pts) → Q v H'
theorem ok_less {f c : Addr} {fd : FuncData} {k : Nat} (D : Def K mg "less" sLess ["face", "points"] f fd c) (mt : mg "tuple" = none) : FnOk P w K mg base CX0 (k + 1) f fd ["face", "points"] (spLess K Ps) := by
  refine D.ok (k := k) scLess (fun vs H Q E h => ?_) (fun A outer s H vs Q E hr h => ?_)
  · obtain ⟨x, y, fc, pts, rfl, _⟩ := h
    rfl
  · obtain ⟨_, _, fc, pts, rfl, ⟨a, rfl, hA⟩, ⟨b, rfl, hB⟩, hl, ht, q⟩ := h
    refine ⟨_, pss_one (ps_ret (pe_callTy call_tuple_of (by rfl) mt (by decide +kernel) (pa_cons (pe_lc (own := [("point", 2)]) (g := gName 2) (by rfl) scLess.nd (pi_tup (pv 0)) (blkOk_by (N := ["face", "points", "point"]) (sc := defScope sLess) (by decide +kernel))
      (fun _ _ _ _ _ => pg_name (i := 2) scLess.nd rfl (Or.inl rfl)) (fun _ _ _ _ _ => pts_one (pt_cmpR (show OpR _ _ (rIn K true) from op_notIn_seq) (pv 2) (pv 1) (by with_unfolding_all rfl))) (fun _ _ _ _ _ => pv 2)) pa_nil))), ?_⟩
    refine ⟨.ref a, rfl, a, rfl, ⟨_, hA⟩, fun D0 hD => lc_tup (K := K) (a := a) (xs := fc.map V.int) (fun i H3 => CP Ps FI H D0 (lessL (fc.take i) pts) i H3) (CP.start ht hD) (fun i H3 _ p => p.ext.sqT hA) (fun i x H3 hx p => ?_) (fun H3 p => ?_)⟩
    · obtain ⟨y, hy, rfl⟩ := map_int hx
      have hi : i < fc.length := (List.getElem?_eq_some_iff.mp hy).1
      refine ⟨rfl, .int y, rfl, .ref b, rfl, b, _, rfl, .inr (p.ext.sqT hB), rfl, flat_ints pts, _, rfl, ?_⟩
      show if (!inV (.int y) (pts.map V.int)) = true then _ else _
      rw [inV_ints]
      have hft := filt_take (fun p => !decide (p ∈ pts)) hy
      refine ite2 (fun hc => ?_) (fun hc => ?_)
      · refine ⟨.int y, rfl, ?_⟩
        have r := CP.put (stbI (K := K)) hD (by omega) p (show FI H3 (.int y) y from rfl)
        rw [if_pos hc] at hft
        unfold lessL at r ⊢
        rw [hft]
        exact r
      · rw [if_neg hc, List.append_nil] at hft
        unfold lessL at p ⊢
        rw [hft]
        exact p.mono (Nat.le_succ i)
    · obtain ⟨ys, h1, h2, h3⟩ := p.at_
      rw [List.length_map, List.take_length] at h2
      refine ⟨D0, ys, rfl, .inl ⟨.inl (.inl h1), fun l hl => q (.ref l) _ (p.ext.trans (Ext.new p.ext.tb hl)) ⟨l, rfl, ?_⟩⟩⟩
      rw [← paired_ints h2]
      exact .inl (.inl upd_same)
end
end Lf

set_option maxHeartbeats 1000000
namespace Lf
open PySem PySem.Spec PyProof.Rows L2 GxR GxA SrT
section
variable {P : Program} {w : World} {K : PySem.W.Frag} {mg : Str → Option Value} {base : Heap} {Ps : Tbs}
/-! ### parts_in -/
def grow (l : List (List Int)) (p : Int) : List (List Int) := l ++ l.map (· ++ [p])
def subsL (fc : List Int) : List (List Int) := fc.foldl grow [[]]
theorem foldl_len : ∀ (fc : List Int) (l : List (List Int)), (fc.foldl grow l).length = l.length * 2 ^ fc.length
  | [], l => by simp
  | p :: fc, l => by
    rw [List.foldl_cons, foldl_len fc]
    unfold grow
    rw [List.length_append, List.length_map, List.length_cons, Nat.pow_succ, ← Nat.two_mul, Nat.mul_comm 2, Nat.mul_assoc, Nat.mul_comm 2]
theorem subs_take {fc : List Int} {i : Nat} {y : Int} (h : fc[i]? = some y) : subsL (fc.take (i + 1)) = grow (subsL (fc.take i)) y := by
  unfold subsL
  rw [List.take_add_one, h]
  show ((fc.take i) ++ [y]).foldl grow [[]] = _
  rw [List.foldl_append]
  rfl
theorem subs_len (fc : List Int) : (subsL fc).length = 2 ^ fc.length := by
  unfold subsL
  rw [foldl_len]
  simp
theorem subs_le {fc : List Int} (h : fc.length ≤ 4) (i : Nat) : (subsL (fc.take i)).length ≤ 16 := by
  rw [subs_len]
  have h1 : (fc.take i).length ≤ 4 := by
    rw [List.length_take]
    omega
  calc 2 ^ (fc.take i).length ≤ 2 ^ 4 := Nat.pow_le_pow_right (by omega) h1
    _ = 16 := rfl
theorem mem_fold : ∀ (fc : List Int) (L : List (List Int)) (g : List Int), g ∈ fc.foldl grow L ↔ ∃ a ∈ L, ∃ s : List Int, s.Sublist fc ∧ g = a ++ s
  | [], L, g => by
    constructor
    · intro h
      exact ⟨g, h, [], .slnil, by simp⟩
    · rintro ⟨a, ha, s, hs, rfl⟩
      rw [List.sublist_nil.mp hs, List.append_nil]
      exact ha
  | p :: fc, L, g => by
    rw [List.foldl_cons, mem_fold fc]
    unfold grow
    constructor
    · rintro ⟨a, ha, s, hs, rfl⟩
      rcases List.mem_append.mp ha with h | h
      · exact ⟨a, h, s, hs.cons p, rfl⟩
      · obtain ⟨b, hb, rfl⟩ := List.mem_map.mp h
        exact ⟨b, hb, p :: s, hs.cons_cons p, by simp⟩
    · rintro ⟨a, ha, s, hs, rfl⟩
      rcases List.sublist_cons_iff.mp hs with h | ⟨r, rfl, h⟩
      · exact ⟨a, List.mem_append_left _ ha, s, h, rfl⟩
      · exact ⟨a ++ [p], List.mem_append_right _ (List.mem_map.mpr ⟨a, ha, rfl⟩), r, h, by simp⟩
theorem mem_subs {fc g : List Int} : g ∈ subsL fc ↔ g.Sublist fc := by
  unfold subsL
  rw [mem_fold]
  constructor
  · rintro ⟨a, ha, s, hs, rfl⟩
    rw [List.mem_singleton.mp ha]
    exact hs
  · intro h
    exact ⟨[], List.mem_singleton.mpr rfl, g, h, rfl⟩
theorem yes_ {σ : L2.St} {H : Hp} {Q : Bool → Hp → Prop} (h : Q true H) : tYes σ H Q := h
def spParts (K : PySem.W.Frag) (Ps : Tbs) : Sp := fun vs H Q _ => ∃ (x : V) (fc : List Int), vs = [x] ∧ TupI K H x fc ∧ fc.length ≤ 4 ∧ Tb Ps H ∧ ∀ l ys H', Ext Ps H H' → H l = none → H' l = some (.lst ys) → Paired (TupI K H') ys (sortL (subsL fc)) → Q (.ref l) H'
/-- the same, the parts as new tuples of their own -/
def spPartsH (K : PySem.W.Frag) (Ps : Tbs) : Sp := fun vs H Q _ => ∃ (x : V) (fc : List Int), vs = [x] ∧ TupI K H x fc ∧ fc.length ≤ 4 ∧ Tb Ps H ∧ ∀ l ys H', Ext Ps H H' → H l = none → H' l = some (.lst ys) → Paired (TupH H') ys (sortL (subsL fc)) → Q (.ref l) H'
theorem own_ext {H H' : Hp} {x : V} (e : Ext Ps H H') (h : OwnT H x) : OwnT H' x := let ⟨t, zs, h1, h2⟩ := h; ⟨t, zs, h1, e.old _ _ h2 (fun q z => by cases z)⟩
theorem tupH_ext {H H' : Hp} {x : V} {ns : List Int} (e : Ext Ps H H') (h : TupH H x ns) : TupH H' x ns := let ⟨t, h1, h2⟩ := h; ⟨t, h1, e.old _ _ h2 (fun q z => by cases z)⟩
theorem own_all {H : Hp} : ∀ {xs : List V} {fss : List (List Int)}, Paired (TupH H) xs fss → ∀ x ∈ xs, OwnT H x
  | _, _, .nil, x, h => nomatch h
  | _, _, .cons r t, x, h => by
    rcases List.mem_cons.mp h with e | h
    · rw [e]
      exact r.own
    · exact own_all t x h
theorem paired_app {α γ : Type} {G : α → γ → Prop} : ∀ {xs us : List α} {ys ws : List γ}, Paired G xs ys → Paired G us ws → Paired G (xs ++ us) (ys ++ ws)
  | _, _, _, _, .nil, h => h
  | _, _, _, _, .cons r t, h => .cons r (paired_app t h)
theorem stbH {K : PySem.W.Frag} {Ps : Tbs} : Stb K Ps TupH := ⟨fun _ _ _ _ e h => tupH_ext e h, fun H D l l' x b hD h => let ⟨t, h1, h2⟩ := h; ⟨t, h1, by rw [upd_ne (ne_of h2 hD (by intro z; cases z))]; exact h2⟩⟩
theorem ok_partsH {f c : Addr} {fd : FuncData} {k : Nat} (D : Def K mg "parts_in" sParts ["face"] f fd c) (ms : mg "sorted" = none) : FnOk P w K mg base CX0 (k + 1) f fd ["face"] (spPartsH K Ps) := by
  refine D.ok (k := k) scParts (fun vs H Q E h => ?_) (fun A outer s H vs Q E hr h => ?_)
  · obtain ⟨x, fc, rfl, _⟩ := h
    rfl
  · obtain ⟨_, fc, rfl, ⟨a, rfl, hA⟩, hl, ht, q⟩ := h
    refine ⟨_, pss_cons (ps_set (i := 1) scParts.nd rfl (.inl rfl) (pe_lst (pa_cons (pe_tup pa_nil) pa_nil)))
      (pss_cons (ps_for PassesOwn.never rfl (pi_tup (pv 0)) (pg_name (i := 2) scParts.nd rfl (.inr rfl))
        (pss_one (ps_set (i := 1) scParts.nd rfl (.inl rfl) (pe_op op_cat (pv 1) (pe_lc (own := [("part", 3)]) (g := gName 3) (by rfl) scParts.nd (pi_list (pv 1)) (blkOk_by (N := ["face", "found", "point", "part"]) (sc := defScope sParts) (by decide +kernel))
          (fun _ _ _ _ _ => pg_name (i := 3) scParts.nd rfl (Or.inl rfl)) (fun _ _ _ _ _ => pts_nil) (fun _ _ _ _ _ => pe_tup (show PA _ _ (StX.tStar K _ _) from StX.pa_star (pv 3) (pa_cons (pv 2) pa_nil))))))))
      (pss_one (ps_ret (show PE _ _ (tKn K _) from pe_kn (pe_callB (cr_sortL hr.units) (by rfl) ms (by decide +kernel) (pa_cons (pv 1) pa_nil)))))), ?_⟩
    -- found = [()]
    refine ⟨Nat.zero_le _, fun e he => ⟨(by show 1 ≤ sizeLine; decide), fun l0 hl0 => ?_⟩⟩
    have x1 : Ext Ps H (upd H e (.tup [])) := Ext.new ht he
    have x2 := x1.trans (Ext.new (o := .lst [.ref e]) x1.tb hl0)
    refine ⟨.ref a, rfl, a, rfl, ⟨_, x2.sqT hA⟩, for_tup (K := K) (a := a) (xs := fc.map V.int) (fun i σ H3 => Ext Ps H H3 ∧ ∃ (l : Addr) (ys : List V) (y2 y3 : Option V), σ = [some (.ref a), some (.ref l), y2, y3] ∧ H l = none ∧ H3 l = some (.lst ys) ∧ Paired (TupH H3) ys (subsL (fc.take i))) ?_ (fun i σ H3 _ p => p.1.sqT hA) (fun i x σ H3 hx p => ?_) (fun σ H3 p => ?_)⟩
    · refine ⟨x2, l0, [.ref e], none, none, rfl, x1.free hl0, upd_same, .cons ⟨e, rfl, ?_⟩ .nil⟩
      rw [upd_ne (ne_of_none upd_same hl0)]
      exact upd_same
    · obtain ⟨x3, l, ys, y2, y3, rfl, hn, h3, hp⟩ := p
      obtain ⟨y, hy, rfl⟩ := map_int hx
      have h16 := subs_le hl i
      have hlen : ys.length ≤ 16 := by
        rw [Paired.length hp]
        exact h16
      -- found + [..]
      refine ⟨.ref l, rfl, .ref l, rfl, l, rfl, ⟨_, .inl (.inl h3)⟩, fun D0 hD => lc_list (K := K) (a := l) (xs := ys) (fun j H4 => CP Ps TupH H3 D0 (((subsL (fc.take i)).take j).map (· ++ [y])) j H4) (CP.start x3.tb hD) (fun j H4 _ p => p.ext.sqL (.inl (.inl h3))) (fun j z H4 hz p => ?_) (fun H4 p => ?_)⟩
      · obtain ⟨g, hg, t, rfl, hTH⟩ := paired_get hp hz
        have hT : SqT K H3 t (g.map V.int) := .inl (.inl hTH)
        have hj : j < ys.length := (List.getElem?_eq_some_iff.mp hz).1
        refine ⟨rfl, yes_ (iteT ?_)⟩
        refine ⟨.ref t, rfl, t, g.map V.int, rfl, .inl (p.ext.sqT hT), .int y, rfl, ?_, fun u hu => ?_⟩
        · have hs := (mem_subs.mp (List.mem_of_getElem? hg)).length_le
          rw [List.length_take] at hs
          show (g.map V.int ++ [V.int y]).length ≤ sizeLine
          rw [List.length_append, List.length_map, List.length_singleton]
          exact Nat.le_of_lt (small1000 (by omega))
        · have x5 := Ext.new (o := .tup (g.map V.int ++ [.int y])) p.ext.tb hu
          have p5 := p.skip (stbH (K := K)) x5
          have r := CP.put (stbH (K := K)) hD (by omega) p5 (show TupH _ (.ref u) (g ++ [y]) from ⟨u, rfl, by rw [List.map_append]; exact upd_same⟩)
          rw [List.take_add_one, hg, List.map_append]
          exact r
      · obtain ⟨zs, h4, h5, h6⟩ := p.at_
        refine ⟨l, D0, ys, zs, rfl, rfl, p.ext.lst h3, h4, ?_, fun l2 hl2 => ?_⟩
        · exact Nat.le_of_lt (small1000 (by omega))
        · have x6 := Ext.new (o := .lst (ys ++ zs)) p.ext.tb hl2
          refine ⟨x3.trans (p.ext.trans x6), l2, ys ++ zs, some (.int y), y3, rfl, (x3.trans p.ext).free hl2, upd_same, ?_⟩
          rw [subs_take hy]
          unfold grow
          have e0 : (subsL (fc.take i)).take ys.length = subsL (fc.take i) := by
            rw [Paired.length hp, List.take_length]
          rw [e0] at h5
          exact L2.Paired.mapP (paired_app (L2.Paired.mapP hp fun _ _ z => tupH_ext p.ext z) h5) fun _ _ z => tupH_ext x6 z
    · obtain ⟨x3, l, ys, y2, y3, rfl, hn, h3, hp⟩ := p
      rw [List.length_map, List.take_length] at hp
      refine ⟨.ref l, rfl, l, ys, subsL fc, rfl, .inl (.inl h3), L2.Paired.mapP hp fun _ _ z => z.tup, fun zs u hz hm hu kn => ?_⟩
      have x4 := Ext.new (o := .lst zs) x3.tb hu
      exact q u zs _ (x3.trans x4) (x3.free hu) upd_same (tupsH_of kn (fun x hx => own_ext x4 (own_all hp x (hm x hx))) (x4.tups hz))
theorem ok_parts {f c : Addr} {fd : FuncData} {k : Nat} (D : Def K mg "parts_in" sParts ["face"] f fd c) (ms : mg "sorted" = none) : FnOk P w K mg base CX0 (k + 1) f fd ["face"] (spParts K Ps) :=
  (ok_partsH D ms).imp fun vs H Q E ⟨x, fc, h1, h2, h3, h4, q⟩ => ⟨x, fc, h1, h2, h3, h4, fun l ys H' e n g p => q l ys H' e n g (L2.Paired.mapP p fun _ _ z => z.tup)⟩
end
end Lf

set_option maxHeartbeats 1000000
namespace Lf
open PySem PySem.Spec PyProof.Rows L2 GxR GxA SrT
/-- a list of tuples of ints -/
def LstT (K : PySem.W.Frag) (H : Hp) (v : V) (fss : List (List Int)) : Prop := ∃ (l : Addr) (xs : List V), v = .ref l ∧ SqL K H l xs ∧ Paired (TupI K H) xs fss
/-- a stack -/
def Stk (K : PySem.W.Frag) (H : Hp) (v : V) (n k : Int) (fss : List (List Int)) : Prop := ∃ (a fa : Addr) (xs : List V), v = .ref a ∧ SqT K H a [.int n, .int k, .ref fa] ∧ SqT K H fa xs ∧ Paired (TupI K H) xs fss
structure StkOk (n k : Int) (fss : List (List Int)) : Prop where
  n1 : 1 ≤ n
  n8 : n ≤ 8
  k0 : 0 ≤ k
  kn : k ≤ n
  k4 : k ≤ 4
  l1 : 1 ≤ fss.length
  l70 : fss.length ≤ 70
  len : ∀ f ∈ fss, (f.length : Int) = k
  ris : ∀ f ∈ fss, f.Pairwise (· < ·)
  bel : ∀ f ∈ fss, ∀ i ∈ f, 0 ≤ i ∧ i < n
  srt : fss.Pairwise fun x y => lex x y = true
structure LotOk (m : Nat) (ns : List Int) : Prop where
  bel : ∀ i ∈ ns, 0 ≤ i ∧ i < (m : Int)
  ris : ns.Pairwise (· < ·)
  len : ns.length ≤ 100
theorem StkOk.len4 {n k : Int} {fss : List (List Int)} (S : StkOk n k fss) : ∀ f ∈ fss, f.length ≤ 4 := fun f hf => by
  have h1 := S.len f hf
  have h2 := S.k4
  omega
def facesAt (fss : List (List Int)) (ns : List Int) : List (List Int) := ns.map fun i => fss.getD i.toNat []
section
variable {P : Program} {w : World} {K : PySem.W.Frag} {mg : Str → Option Value} {base : Heap} {Ps : Tbs} {H H' : Hp}
theorem Ext.lstT (e : Ext Ps H H') {v : V} {fss : List (List Int)} (h : LstT K H v fss) : LstT K H' v fss := let ⟨l, xs, h1, h2, h3⟩ := h; ⟨l, xs, h1, e.sqL h2, e.tups h3⟩
theorem Ext.stk (e : Ext Ps H H') {v : V} {n k : Int} {fss : List (List Int)} (h : Stk K H v n k fss) : Stk K H' v n k fss := let ⟨a, fa, xs, h1, h2, h3, h4⟩ := h; ⟨a, fa, xs, h1, e.sqT h2, e.sqT h3, e.tups h4⟩
theorem at2 {n k : Int} {fa : Addr} : atI [V.int n, .int k, .ref fa] 2 = some (.ref fa) := atI_nat (j := 2) rfl
/-- the item at an int place -/
theorem atI_int {xs : List V} {i : Int} {x : V} (h0 : 0 ≤ i) (h : xs[i.toNat]? = some x) : atI xs i = some x := by
  have e : i = (i.toNat : Int) := (Int.toNat_of_nonneg h0).symm
  rw [e]
  exact atI_nat h
/-! ### faces_at -/
def spFacesAt (K : PySem.W.Frag) (Ps : Tbs) : Sp := fun vs H Q _ => ∃ (x y : V) (n k : Int) (fss : List (List Int)) (ns : List Int), vs = [x, y] ∧ Stk K H x n k fss ∧ TupI K H y ns ∧ (∀ i ∈ ns, 0 ≤ i ∧ i < (fss.length : Int)) ∧ ns.length ≤ 100 ∧ Tb Ps H ∧
  ∀ v H', Ext Ps H H' → LstT K H' v (facesAt fss ns) → Q v H'
def spFacesAtF (K : PySem.W.Frag) (Ps : Tbs) : Sp := fun vs H Q _ => ∃ (x y : V) (n k : Int) (fss : List (List Int)) (ns : List Int), vs = [x, y] ∧ Stk K H x n k fss ∧ TupI K H y ns ∧ (∀ i ∈ ns, 0 ≤ i ∧ i < (fss.length : Int)) ∧ ns.length ≤ 100 ∧ Tb Ps H ∧
  ∀ (l : Addr) (ys : List V) (H' : Hp), Ext Ps H H' → H l = none → H' l = some (.lst ys) → Paired (TupI K H') ys (facesAt fss ns) → Q (.ref l) H'
theorem ok_facesAtF {f c : Addr} {fd : FuncData} {k : Nat} (D : Def K mg "faces_at" sFacesAt ["stack", "lot"] f fd c) : FnOk P w K mg base CX0 (k + 1) f fd ["stack", "lot"] (spFacesAtF K Ps) := by
  refine D.ok (k := k) scFacesAt (fun vs H Q E h => ?_) (fun A outer s H vs Q E hr h => ?_)
  · obtain ⟨x, y, n, kk, fss, ns, rfl, _⟩ := h
    rfl
  · obtain ⟨_, _, n, kk, fss, ns, rfl, ⟨a, fa, xs, rfl, h1, h2, h3⟩, ⟨b, rfl, hB⟩, hb, hl, ht, q⟩ := h
    refine ⟨_, pss_one (ps_ret (pe_lc (own := [("number", 2)]) (g := gName 2) (by rfl) scFacesAt.nd (pi_tup (pv 1)) (blkOk_by (N := ["stack", "lot", "number"]) (sc := defScope sFacesAt) (by decide +kernel))
      (fun _ _ _ _ _ => pg_name (i := 2) scFacesAt.nd rfl (Or.inl rfl)) (fun _ _ _ _ _ => pts_nil) (fun _ _ _ _ _ => pe_ix (show IxR _ (rIxT K) from ix_tup) (pe_ix (show IxR _ (rIxT K) from ix_tup) (pv 0) pe_int (fun _ _ => rfl)) (pv 2) (fun _ _ => rfl)))), ?_⟩
    refine ⟨.ref b, rfl, b, rfl, ⟨_, hB⟩, fun D0 hD => lc_tup (K := K) (a := b) (xs := ns.map V.int) (fun i H3 => CP Ps (TupI K) H D0 (facesAt fss (ns.take i)) i H3) (CP.start ht hD) (fun i H3 _ p => p.ext.sqT hB) (fun i x H3 hx p => ?_) (fun H3 p => ?_)⟩
    · obtain ⟨y, hy, rfl⟩ := map_int hx
      have hi : i < ns.length := (List.getElem?_eq_some_iff.mp hy).1
      obtain ⟨b0, b1⟩ := hb y (List.mem_of_getElem? hy)
      have hlt : y.toNat < fss.length := by omega
      obtain ⟨z, hz, hI⟩ := paired_get' h3 (List.getElem?_eq_getElem hlt)
      refine ⟨rfl, yes_ (iteT ?_)⟩
      refine ⟨.ref a, rfl, a, _, 2, .ref fa, rfl, rfl, p.ext.sqT h1, at2, .int y, rfl, fa, xs, y, z, rfl, rfl, p.ext.sqT h2, atI_int b0 hz, ?_⟩
      have r := CP.put (stbT (K := K)) hD (by omega) p (p.ext.tupI hI)
      unfold facesAt at r ⊢
      rw [List.take_add_one, hy, List.map_append]
      have eg : fss.getD y.toNat [] = fss[y.toNat] := by
        rw [List.getD_eq_getElem?_getD, List.getElem?_eq_getElem hlt]
        rfl
      rw [← eg] at r
      exact r
    · obtain ⟨ys, e1, e2, e3⟩ := p.at_
      rw [List.length_map, List.take_length] at e2
      exact q D0 ys H3 p.ext hD e1 e2
theorem ok_facesAt {f c : Addr} {fd : FuncData} {k : Nat} (D : Def K mg "faces_at" sFacesAt ["stack", "lot"] f fd c) : FnOk P w K mg base CX0 (k + 1) f fd ["stack", "lot"] (spFacesAt K Ps) :=
  (ok_facesAtF D).imp fun vs H Q E ⟨x, y, n, k, fss, ns, h1, h2, h3, h4, h5, h6, q⟩ => ⟨x, y, n, k, fss, ns, h1, h2, h3, h4, h5, h6, fun l ys H' e nl hl hp => q (.ref l) H' e ⟨l, ys, rfl, .inl (.inl hl), hp⟩⟩
/-! ### brought_on -/
def brOn (laid : List (List Int)) (fc : List Int) : List Int := fc.filter fun p => inSome (lessL fc [p]) laid
def spBrOn (K : PySem.W.Frag) (Ps : Tbs) : Sp := fun vs H Q _ => ∃ (x y : V) (laid : List (List Int)) (fc : List Int), vs = [x, y] ∧ LstT K H x laid ∧ TupI K H y fc ∧ fc.length ≤ 100 ∧ Tb Ps H ∧ ∀ v H', Ext Ps H H' → TupI K H' v (brOn laid fc) → Q v H'
theorem ok_brOn {f c fI cI fL cL : Addr} {fd fdI fdL : FuncData} {k : Nat} (D : Def K mg "brought_on" sBrOn ["laid", "face"] f fd c) (DI : Def K mg "in_some" sInSome ["points", "faces"] fI fdI cI) (GI : FnOk P w K mg base CX0 k fI fdI ["points", "faces"] (spInSome K Ps))
    (DL : Def K mg "less" sLess ["face", "points"] fL fdL cL) (GL : FnOk P w K mg base CX0 k fL fdL ["face", "points"] (spLess K Ps)) (mt : mg "tuple" = none) : FnOk P w K mg base CX0 (k + 1) f fd ["laid", "face"] (spBrOn K Ps) := by
  refine D.ok (k := k) scBrOn (fun vs H Q E h => ?_) (fun A outer s H vs Q E hr h => ?_)
  · obtain ⟨x, y, laid, fc, rfl, _⟩ := h
    rfl
  · obtain ⟨_, _, laid, fc, rfl, ⟨l, xs, rfl, h1, h2⟩, ⟨a, rfl, hA⟩, hl, ht, q⟩ := h
    refine ⟨_, pss_one (ps_ret (pe_callTy call_tuple_of (by rfl) mt (by decide +kernel) (pa_cons (pe_lc (own := [("point", 2)]) (g := gName 2) (by rfl) scBrOn.nd (pi_tup (pv 1)) (blkOk_by (N := ["laid", "face", "point"]) (sc := defScope sBrOn) (by decide +kernel))
      (fun _ _ _ _ _ => pg_name (i := 2) scBrOn.nd rfl (Or.inl rfl)) (fun _ _ _ _ _ => pts_one (pt_val (pcl DI GI hr (pa_cons (pcl DL GL hr (pa_cons (pv 1) (pa_cons (pe_tup (pa_cons (pv 2) pa_nil)) pa_nil))) (pa_cons (pv 0) pa_nil))))) (fun _ _ _ _ _ => pv 2)) pa_nil))), ?_⟩
    refine ⟨.ref a, rfl, a, rfl, ⟨_, hA⟩, fun D0 hD => lc_tup (K := K) (a := a) (xs := fc.map V.int) (fun i H3 => CP Ps FI H D0 ((fc.take i).filter fun p => inSome (lessL fc [p]) laid) i H3) (CP.start ht hD) (fun i H3 _ p => p.ext.sqT hA) (fun i x H3 hx p => ?_) (fun H3 p => ?_)⟩
    · obtain ⟨y, hy, rfl⟩ := map_int hx
      have hi : i < fc.length := (List.getElem?_eq_some_iff.mp hy).1
      refine ⟨rfl, .ref a, rfl, .int y, rfl, (by show 1 ≤ sizeLine; decide), fun t htp => ?_⟩
      have x4 := Ext.new (o := .tup [.int y]) p.ext.tb htp
      refine ⟨.ref a, .ref t, fc, [y], rfl, ⟨a, rfl, x4.sqT (p.ext.sqT hA)⟩, ⟨t, rfl, .inl (.inl upd_same)⟩, hl, x4.tb, fun v H5 x5 hv => ?_⟩
      have x35 := x4.trans x5
      refine ⟨.ref l, rfl, v, l, xs, _, laid, rfl, hv, x35.sqL (p.ext.sqL h1), x35.tups (p.ext.tups h2), x35.tb, fun H6 x6 => ⟨_, rfl, ?_⟩⟩
      have p6 := p.skip (stbI (K := K)) (x35.trans x6)
      have hft := filt_take (fun p => inSome (lessL fc [p]) laid) hy
      refine ite2 (fun hc => ?_) (fun hc => ?_)
      · refine ⟨.int y, rfl, ?_⟩
        have r := CP.put (stbI (K := K)) hD (by omega) p6 (show FI H6 (.int y) y from rfl)
        rw [if_pos hc] at hft
        rw [hft]
        exact r
      · rw [if_neg hc, List.append_nil] at hft
        rw [hft]
        exact p6.mono (Nat.le_succ i)
    · obtain ⟨ys, e1, e2, e3⟩ := p.at_
      rw [List.length_map, List.take_length] at e2
      refine ⟨D0, ys, rfl, .inl ⟨.inl (.inl e1), fun u hu => q (.ref u) _ (p.ext.trans (Ext.new p.ext.tb hu)) ⟨u, rfl, ?_⟩⟩⟩
      show SqT K _ u ((fc.filter fun p => inSome (lessL fc [p]) laid).map V.int)
      rw [← paired_ints e2]
      exact .inl (.inl upd_same)
/-! ### lies_on -/
def liesOn (laid : List (List Int)) (fc : List Int) : Bool := !inSome (brOn laid fc) laid
def spLies (K : PySem.W.Frag) (Ps : Tbs) : Sp := fun vs H Q _ => ∃ (x y : V) (laid : List (List Int)) (fc : List Int), vs = [x, y] ∧ LstT K H x laid ∧ TupI K H y fc ∧ fc.length ≤ 100 ∧ Tb Ps H ∧ ∀ H', Ext Ps H H' → Q (.bl (liesOn laid fc)) H'
theorem ok_lies {f c fI cI fB cB : Addr} {fd fdI fdB : FuncData} {k : Nat} (D : Def K mg "lies_on" sLies ["laid", "face"] f fd c) (DI : Def K mg "in_some" sInSome ["points", "faces"] fI fdI cI) (GI : FnOk P w K mg base CX0 k fI fdI ["points", "faces"] (spInSome K Ps))
    (DB : Def K mg "brought_on" sBrOn ["laid", "face"] fB fdB cB) (GB : FnOk P w K mg base CX0 k fB fdB ["laid", "face"] (spBrOn K Ps)) : FnOk P w K mg base CX0 (k + 1) f fd ["laid", "face"] (spLies K Ps) := by
  refine D.ok (k := k) scLies (fun vs H Q E h => ?_) (fun A outer s H vs Q E hr h => ?_)
  · obtain ⟨x, y, laid, fc, rfl, _⟩ := h
    rfl
  · obtain ⟨_, y, laid, fc, rfl, hL, hA, hl, ht, q⟩ := h
    obtain ⟨l, xs, rfl, h1, h2⟩ := id hL
    refine ⟨_, pss_one (ps_ret (pe_not (pcl DI GI hr (pa_cons (pcl DB GB hr (pa_cons (pv 0) (pa_cons (pv 1) pa_nil))) (pa_cons (pv 0) pa_nil))))), ?_⟩
    refine ⟨.ref l, rfl, y, rfl, .ref l, y, laid, fc, rfl, hL, hA, hl, ht, fun v H1 x1 hv => ?_⟩
    exact ⟨.ref l, rfl, v, l, xs, _, laid, rfl, hv, x1.sqL h1, x1.tups h2, x1.tb, fun H2 x2 => ⟨_, rfl, q _ (x1.trans x2)⟩⟩
end
end Lf

set_option maxHeartbeats 1000000
namespace Lf
open PySem PySem.Spec PyProof.Rows L2 GxR GxA SrT
/-- len of a list or a tuple -/
def rLenS (K : PySem.W.Frag) : List V → Hp → VK → Prop := fun xs H Q => ∃ p ys, xs = [.ref p] ∧ (SqL K H p ys ∨ SqT K H p ys) ∧ Q (.int ys.length) H
theorem call_lenS {X : Cx} {K : PySem.W.Frag} (e : X.K = K) : CallR X (.builtin "len") (rLenS K) := by
  subst e
  exact call_len_seq
abbrev sNeedWithin : Stmt := topS 7
abbrev sIsStack : Stmt := topS 20
abbrev sAreFaces : Stmt := topS 21
abbrev sNeedStack : Stmt := topS 22
theorem scNeedWithin : FnScope ["number", "least", "most"] ["number", "least", "most"] (defScope sNeedWithin) := ⟨rfl, rfl, rfl, by decide +kernel, rfl, by decide +kernel, by decide +kernel⟩
theorem scIsStack : FnScope ["thing", "n", "k", "faces"] ["thing"] (defScope sIsStack) := ⟨rfl, rfl, rfl, by decide +kernel, rfl, by decide +kernel, by decide +kernel⟩
theorem scAreFaces : FnScope ["n", "k", "thing"] ["n", "k", "thing"] (defScope sAreFaces) := ⟨rfl, rfl, rfl, by decide +kernel, rfl, by decide +kernel, by decide +kernel⟩
theorem scNeedStack : FnScope ["stack"] ["stack"] (defScope sNeedStack) := ⟨rfl, rfl, rfl, by decide +kernel, rfl, by decide +kernel, by decide +kernel⟩
section
variable {P : Program} {w : World} {K : PySem.W.Frag} {mg : Str → Option Value} {base : Heap} {Ps : Tbs} {H H' : Hp}
/-! ### need_within -/
def spNeedWithin : Sp := fun vs H Q _ => ∃ i lo hi : Int, vs = [.int i, .int lo, .int hi] ∧ lo ≤ i ∧ i ≤ hi ∧ Q .non H
theorem ok_needWithin {f c fW cW : Addr} {fd fdW : FuncData} {k : Nat} (D : Def K mg "need_within" sNeedWithin ["number", "least", "most"] f fd c) (DW : Def K mg "is_within" sWithin ["thing", "least", "most"] fW fdW cW) (GW : FnOk P w K mg base CX0 k fW fdW ["thing", "least", "most"] spWithin) :
    FnOk P w K mg base CX0 (k + 1) f fd ["number", "least", "most"] spNeedWithin := by
  refine D.ok (k := k) scNeedWithin (fun vs H Q E h => ?_) (fun A outer s H vs Q E hr h => ?_)
  · obtain ⟨i, lo, hi, rfl, _⟩ := h
    rfl
  · obtain ⟨i, lo, hi, rfl, h1, h2, q⟩ := h
    refine ⟨_, pss_one (ps_if (pt_not (pt_val (pcl DW GW hr (pa_cons (pv 0) (pa_cons (pv 1) (pa_cons (pv 2) pa_nil)))))) (pss_one ps_never) pss_nil), ?_⟩
    exact ⟨.int i, rfl, .int lo, rfl, .int hi, rfl, i, lo, hi, rfl, h1, h2, true, rfl, iteF q⟩
/-! ### are_faces -/
def spAreFaces (K : PySem.W.Frag) (Ps : Tbs) : Sp := fun vs H Q _ => ∃ (n k : Int) (fa : Addr) (xs : List V) (fss : List (List Int)), vs = [.int n, .int k, .ref fa] ∧ SqT K H fa xs ∧ Paired (TupI K H) xs fss ∧ StkOk n k fss ∧ Tb Ps H ∧ ∀ H', Ext Ps H H' → Q (.bl true) H'
theorem ok_areFaces {f c fR cR fS cS PT : Addr} {fd fdR fdS : FuncData} {k : Nat} {t70 : Tok} (D : Def K mg "are_faces" sAreFaces ["n", "k", "thing"] f fd c) (DR : Def K mg "is_rising" sRising ["thing", "many"] fR fdR cR) (GR : FnOk P w K mg base CX0 k fR fdR ["thing", "many"] (spRising K Ps))
    (DS : Def K mg "rises" sRises ["things"] fS fdS cS) (GS : FnOk P w K mg base CX0 (k + 1) fS fdS ["things"] (spRises K Ps)) (TB : TabB base mg c PT) (hP : PT ∈ Ps)
    (mi : mg "isinstance" = none) (mt : mg "tuple" = none) (ml : mg "len" = none) (ma : mg "all" = none) (m70 : mg "MOST_FACES" = some (.int 70 t70)) : FnOk P w K mg base CX0 (k + 2) f fd ["n", "k", "thing"] (spAreFaces K Ps) := by
  refine D.ok (k := k + 1) scAreFaces (fun vs H Q E h => ?_) (fun A outer s H vs Q E hr h => ?_)
  · obtain ⟨n, kk, fa, xs, fss, rfl, _⟩ := h
    rfl
  · obtain ⟨n, kk, fa, xs, fss, rfl, hF, hp, S, ht, q⟩ := h
    have hlen := Paired.length hp
    have l1 := S.l1
    have l70 := S.l70
    refine ⟨_, pss_cons (ps_if (PW.pt (pw_or (pt_not (pt_val (pe_callB call_isi (by rfl) mi (by decide +kernel) (pa_cons (pv 2) (pa_cons (pe_bltn (v := .ty "tuple") (by rfl) mt (by decide +kernel) rfl) pa_nil)))))
        (pw_or1 (pt_not (pt_chain op_le op_le pe_int (pe_callB call_len_seq (by rfl) ml PySem.boot_len (pa_cons (pv 2) pa_nil)) (pe_glob rfl m70 (v := .int 70) ⟨_, rfl⟩)))))) (pss_one (ps_ret pe_bl)) pss_nil)
      (pss_one (ps_ret (pe_and (pe_allG (k := k) (caps := [0, 1]) (xs := ["n", "k"]) hr (by rfl) ma TB rfl (genS rfl rfl (by decide +kernel) rfl rfl) ⟨⟨rfl, .inl rfl, rfl⟩, ⟨rfl, .inl rfl, rfl⟩, trivial⟩ (by decide +kernel) (pi_tup (pv 2))
        (fun _ _ _ _ _ _ _ hr' => pe_and (pcl DR GR hr' (pa_cons (pv 0) (pa_cons (pv 1) pa_nil))) (pe_one (pe_cmpR op_eq (pe_callB (call_lenS (K := K) rfl) (by rfl) ml PySem.boot_len (pa_cons (pv 0) pa_nil)) (pv 2) (nomark _)))) (fun _ => rfl))
        (pe_one (pcl DS GS hr (pa_cons (pv 2) pa_nil)))))), ?_⟩
    refine ⟨.ref fa, rfl, .ref fa, .ty "tuple", .type "tuple", .type "tuple", true, rfl, .ty _, ty_tup hF, kit_ty (by decide +kernel), true, rfl, iteF ?_⟩
    refine ⟨.ref fa, rfl, fa, xs, rfl, .inr hF, 1, (xs.length : Int), rfl, rfl, true, ?_, iteT ?_⟩
    · exact congrArg V.bl (decide_eq_true (by omega))
    refine ⟨(xs.length : Int), 70, rfl, rfl, true, ?_, iteF ?_⟩
    · exact congrArg V.bl (decide_eq_true (by omega))
    refine ⟨.ref fa, rfl, fa, rfl, ⟨_, hF⟩, ht.gen PT hP, fun H2 hT2 => ?_⟩
    have e2 := Ext.of_tabbed ht hP hT2
    refine gW_tup (xs := xs) (fun _ H3 => Ext Ps H H3) e2 (fun i H3 e => e.sqT hF) (fun H3 e => ⟨true, rfl, iteT ?_⟩) fun i H3 x hx e => ?_
    · exact ⟨.ref fa, rfl, fa, xs, rfl, e.sqT hF, .inr ⟨fss, e.tups hp, S.srt⟩, by omega, e.tb, fun H4 e4 => q _ (e.trans e4)⟩
    · obtain ⟨fc, hf, b, rfl, hI⟩ := paired_get hp hx
      have hm := List.mem_of_getElem? hf
      have h4 := S.len4 fc hm
      refine ⟨.ref b, rfl, .int n, rfl, b, fc, n, rfl, e.sqT hI, S.bel fc hm, S.ris fc hm, by omega, e.tb, fun H4 e4 => ⟨true, rfl, iteT ?_⟩⟩
      refine ⟨.ref b, rfl, b, _, rfl, .inr (e4.sqT (e.sqT hI)), .int kk, rfl, rfl, true, ?_, fun _ => e.trans e4, fun z => absurd rfl z⟩
      rw [List.length_map, S.len fc hm]
      exact congrArg V.bl (decide_eq_true rfl)
/-! ### is_stack -/
def spIsStack (K : PySem.W.Frag) (Ps : Tbs) : Sp := fun vs H Q _ => ∃ (x : V) (n k : Int) (fss : List (List Int)), vs = [x] ∧ Stk K H x n k fss ∧ StkOk n k fss ∧ Tb Ps H ∧ ∀ H', Ext Ps H H' → Q (.bl true) H'
theorem ok_isStack {f c fW cW fA cA : Addr} {fd fdW fdA : FuncData} {k : Nat} {t8 t4 : Tok} (D : Def K mg "is_stack" sIsStack ["thing"] f fd c) (DW : Def K mg "is_within" sWithin ["thing", "least", "most"] fW fdW cW) (GW : FnOk P w K mg base CX0 k fW fdW ["thing", "least", "most"] spWithin)
    (DA : Def K mg "are_faces" sAreFaces ["n", "k", "thing"] fA fdA cA) (GA : FnOk P w K mg base CX0 k fA fdA ["n", "k", "thing"] (spAreFaces K Ps))
    (mi : mg "isinstance" = none) (mt : mg "tuple" = none) (ml : mg "len" = none) (mm : mg "min" = none) (m8 : mg "MOST_POINTS" = some (.int 8 t8)) (m4 : mg "MOST_IN_FACE" = some (.int 4 t4)) : FnOk P w K mg base CX0 (k + 1) f fd ["thing"] (spIsStack K Ps) := by
  refine D.ok (k := k) scIsStack (fun vs H Q E h => ?_) (fun A outer s H vs Q E hr h => ?_)
  · obtain ⟨x, n, kk, fss, rfl, _⟩ := h
    rfl
  · obtain ⟨_, n, kk, fss, rfl, ⟨a, fa, xs, rfl, h1, h2, h3⟩, S, ht, q⟩ := h
    have n1 := S.n1
    have n8 := S.n8
    have k0 := S.k0
    have kn := S.kn
    have k4 := S.k4
    refine ⟨_, pss_cons (ps_if (PW.pt (pw_or (pt_not (pt_val (pe_callB call_isi (by rfl) mi (by decide +kernel) (pa_cons (pv 0) (pa_cons (pe_bltn (v := .ty "tuple") (by rfl) mt (by decide +kernel) rfl) pa_nil)))))
        (pw_or1 (pt_cmpR op_ne (pe_callB (call_lenS (K := K) rfl) (by rfl) ml PySem.boot_len (pa_cons (pv 0) pa_nil)) pe_int (nomark _))))) (pss_one (ps_ret pe_bl)) pss_nil)
      (pss_cons (ps_asg (pv 0) (pg_tup (by rfl) (pgs_cons (pg_name (i := 1) scIsStack.nd rfl (.inl rfl)) (pgs_cons (pg_name (i := 2) scIsStack.nd rfl (.inl rfl)) (pgs_cons (pg_name (i := 3) scIsStack.nd rfl (.inl rfl)) pgs_nil)))))
      (pss_cons (ps_if (PW.pt (pw_or (pt_not (pt_val (pcl DW GW hr (pa_cons (pv 1) (pa_cons pe_int (pa_cons (pe_glob rfl m8 (v := .int 8) ⟨_, rfl⟩) pa_nil))))))
        (pw_or1 (pt_not (pt_val (pcl DW GW hr (pa_cons (pv 2) (pa_cons pe_int (pa_cons (pe_callB (call_min2 rfl) (by rfl) mm (by decide +kernel) (pa_cons (pv 1) (pa_cons (pe_glob rfl m4 (v := .int 4) ⟨_, rfl⟩) pa_nil))) pa_nil))))))))) (pss_one (ps_ret pe_bl)) pss_nil)
      (pss_one (ps_ret (pcl DA GA hr (pa_cons (pv 1) (pa_cons (pv 2) (pa_cons (pv 3) pa_nil)))))))), ?_⟩
    refine ⟨.ref a, rfl, .ref a, .ty "tuple", .type "tuple", .type "tuple", true, rfl, .ty _, ty_tup h1, kit_ty (by decide +kernel), true, rfl, iteF ?_⟩
    refine ⟨.ref a, rfl, a, _, rfl, .inr h1, rfl, false, ?_, iteF ?_⟩
    · exact congrArg V.bl (by simp)
    refine ⟨.ref a, rfl, a, _, rfl, h1, rfl, _, _, rfl, _, _, rfl, _, _, rfl, rfl, ?_⟩
    refine ⟨.int n, rfl, n, 1, 8, rfl, n1, n8, true, rfl, iteF ?_⟩
    refine ⟨.int kk, rfl, .int n, rfl, n, 4, rfl, kk, 0, _, rfl, k0, ?_, true, rfl, iteF ?_⟩
    · split <;> omega
    exact ⟨.int n, rfl, .int kk, rfl, .ref fa, rfl, n, kk, fa, xs, fss, rfl, h2, h3, S, ht, q⟩
/-! ### need_stack, need_face, need_lot, need_face_beside -/
def spNeedStack (K : PySem.W.Frag) (Ps : Tbs) : Sp := fun vs H Q _ => ∃ (x : V) (n k : Int) (fss : List (List Int)), vs = [x] ∧ Stk K H x n k fss ∧ StkOk n k fss ∧ Tb Ps H ∧ ∀ H', Ext Ps H H' → Q .non H'
theorem ok_needStack {f c fS cS : Addr} {fd fdS : FuncData} {k : Nat} (D : Def K mg "need_stack" sNeedStack ["stack"] f fd c) (DS : Def K mg "is_stack" sIsStack ["thing"] fS fdS cS) (GS : FnOk P w K mg base CX0 k fS fdS ["thing"] (spIsStack K Ps)) : FnOk P w K mg base CX0 (k + 1) f fd ["stack"] (spNeedStack K Ps) := by
  refine D.ok (k := k) scNeedStack (fun vs H Q E h => ?_) (fun A outer s H vs Q E hr h => ?_)
  · obtain ⟨x, n, kk, fss, rfl, _⟩ := h
    rfl
  · obtain ⟨x, n, kk, fss, rfl, hS, S, ht, q⟩ := h
    refine ⟨_, pss_one (ps_if (pt_not (pt_val (pcl DS GS hr (pa_cons (pv 0) pa_nil)))) (pss_one ps_never) pss_nil), ?_⟩
    exact ⟨x, rfl, x, n, kk, fss, rfl, hS, S, ht, fun H1 e1 => ⟨true, rfl, iteF (q _ e1)⟩⟩
def spNeedFace (K : PySem.W.Frag) : Sp := fun vs H Q _ => ∃ (x : V) (n k i : Int) (fss : List (List Int)), vs = [x, .int i] ∧ Stk K H x n k fss ∧ 0 ≤ i ∧ i < (fss.length : Int) ∧ Q .non H
def spNeedLot (K : PySem.W.Frag) (Ps : Tbs) : Sp := fun vs H Q _ => ∃ (x y : V) (n k : Int) (fss : List (List Int)) (ns : List Int), vs = [x, y] ∧ Stk K H x n k fss ∧ TupI K H y ns ∧ LotOk fss.length ns ∧ Tb Ps H ∧ ∀ H', Ext Ps H H' → Q .non H'
def spBeside (K : PySem.W.Frag) : Sp := fun vs H Q _ => ∃ (x y : V) (n k i : Int) (fss : List (List Int)) (ns : List Int), vs = [x, y, .int i] ∧ Stk K H x n k fss ∧ TupI K H y ns ∧ 0 ≤ i ∧ i < (fss.length : Int) ∧ i ∉ ns ∧ Q .non H
end
end Lf

set_option maxHeartbeats 1000000
namespace Lf
open PySem PySem.Spec PyProof.Rows L2 GxR GxA SrT
section
variable {P : Program} {w : World} {K : PySem.W.Frag} {mg : Str → Option Value} {base : Heap} {Ps : Tbs} {H H' : Hp}
/-- a stack, a lot of it, the number of a face that is not in the lot -/
structure Ask (K : PySem.W.Frag) (Ps : Tbs) (H : Hp) (x y : V) (i : Int) (n k : Int) (fss : List (List Int)) (ns : List Int) : Prop where
  stk : Stk K H x n k fss
  ok : StkOk n k fss
  lot : TupI K H y ns
  lok : LotOk fss.length ns
  i0 : 0 ≤ i
  i1 : i < (fss.length : Int)
  out : i ∉ ns
  tb : Tb Ps H
theorem Ask.ext {x y : V} {i n k : Int} {fss : List (List Int)} {ns : List Int} (h : Ask K Ps H x y i n k fss ns) (e : Ext Ps H H') : Ask K Ps H' x y i n k fss ns := ⟨e.stk h.stk, h.ok, e.tupI h.lot, h.lok, h.i0, h.i1, h.out, e.tb⟩
/-- the face of the number -/
theorem Ask.face {x y : V} {i n k : Int} {fss : List (List Int)} {ns : List Int} (h : Ask K Ps H x y i n k fss ns) : ∃ fc, fss[i.toNat]? = some fc ∧ fc ∈ fss := by
  have hlt : i.toNat < fss.length := by
    have h0 := h.i0
    have h1 := h.i1
    omega
  exact ⟨_, List.getElem?_eq_getElem hlt, List.getElem_mem hlt⟩
/-! ### may_lay -/
def spMayLay (K : PySem.W.Frag) (Ps : Tbs) : Sp := fun vs H Q _ => ∃ (x y : V) (n k i : Int) (fss : List (List Int)) (ns fc : List Int), vs = [x, y, .int i] ∧ Ask K Ps H x y i n k fss ns ∧ fss[i.toNat]? = some fc ∧ ∀ H', Ext Ps H H' → Q (.bl (liesOn (facesAt fss ns) fc)) H'
variable {k : Nat} {f c fS cS fL cL fF cF fA cA fO cO : Addr} {fd fdS fdL fdF fdA fdO : FuncData}
/-! ### brought -/
def spBrought (K : PySem.W.Frag) (Ps : Tbs) : Sp := fun vs H Q _ => ∃ (x y : V) (n k i : Int) (fss : List (List Int)) (ns fc : List Int), vs = [x, y, .int i] ∧ Ask K Ps H x y i n k fss ns ∧ fss[i.toNat]? = some fc ∧ ∀ v H', Ext Ps H H' → TupI K H' v (brOn (facesAt fss ns) fc) → Q v H'
/-! ### new_parts -/
def newParts (laid : List (List Int)) (fc : List Int) : List (List Int) := (sortL (subsL fc)).filter fun p => !inSome p laid
def spNewParts (K : PySem.W.Frag) (Ps : Tbs) : Sp := fun vs H Q _ => ∃ (x y : V) (n k i : Int) (fss : List (List Int)) (ns fc : List Int), vs = [x, y, .int i] ∧ Ask K Ps H x y i n k fss ns ∧ fss[i.toNat]? = some fc ∧ ∀ v H', Ext Ps H H' → LstT K H' v (newParts (facesAt fss ns) fc) → Q v H'
/-- a list of new tuples of ints -/
def LstH (H : Hp) (v : V) (fss : List (List Int)) : Prop := ∃ (l : Addr) (xs : List V), v = .ref l ∧ H l = some (.lst xs) ∧ Paired (TupH H) xs fss
theorem LstH.lst {v : V} {fss : List (List Int)} (h : LstH H v fss) : LstT K H v fss := let ⟨l, xs, h1, h2, h3⟩ := h; ⟨l, xs, h1, .inl (.inl h2), L2.Paired.mapP h3 fun _ _ z => z.tup⟩
theorem lstH_ext {v : V} {fss : List (List Int)} (e : Ext Ps H H') (h : LstH H v fss) : LstH H' v fss := let ⟨l, xs, h1, h2, h3⟩ := h; ⟨l, xs, h1, e.lst h2, L2.Paired.mapP h3 fun _ _ z => tupH_ext e z⟩
def spNewPartsH (K : PySem.W.Frag) (Ps : Tbs) : Sp := fun vs H Q _ => ∃ (x y : V) (n k i : Int) (fss : List (List Int)) (ns fc : List Int), vs = [x, y, .int i] ∧ Ask K Ps H x y i n k fss ns ∧ fss[i.toNat]? = some fc ∧ ∀ v H', Ext Ps H H' → LstH H' v (newParts (facesAt fss ns) fc) → Q v H'
end
end Lf

set_option maxHeartbeats 1000000
namespace Lf
open PySem PySem.Spec PyProof.Rows L2 GxR GxA SrT
abbrev sCell : Stmt := topS 53
abbrev sPen : Stmt := topS 54
abbrev sDraw : Stmt := topS 55
theorem scCell : FnScope ["_law_script", "_law_k"] ["_law_script", "_law_k"] (defScope sCell) := ⟨rfl, rfl, rfl, by decide +kernel, rfl, by decide +kernel, by decide +kernel⟩
theorem scPen : FnScope ["_law_cell_here"] ["_law_cell_here"] (defScope sPen) := ⟨rfl, rfl, rfl, by decide +kernel, rfl, by decide +kernel, by decide +kernel⟩
theorem scDraw : FnScope ["_law_pen_here", "_law_many", "_law_found"] ["_law_pen_here", "_law_many"] (defScope sDraw) := ⟨rfl, rfl, rfl, by decide +kernel, rfl, by decide +kernel, by decide +kernel⟩
/-- a pen: two ints -/
def Pen (H : Hp) (a : Addr) : Prop := ∃ x f : Int, H a = some (.lst [.int x, .int f])
/-- all is kept but the pen, which stays one -/
structure Epn (Ps : Tbs) (a : Addr) (H H' : Hp) : Prop where
  tb : Tb Ps H'
  old : ∀ b o, b ≠ a → H b = some o → (∀ q, o ≠ .tbl q) → H' b = some o
  there : ∀ b o, H b = some o → ∃ o', H' b = some o'
  p0 : Pen H a
  pen : Pen H' a
section
variable {Ps : Tbs} {a : Addr} {H H1 H2 H' : Hp} {K : PySem.W.Frag}
theorem Ext.epn (e : Ext Ps H H') (p : Pen H a) : Epn Ps a H H' := ⟨e.tb, fun b o _ q n => e.old b o q n, e.there, p, let ⟨x, f, h⟩ := p; ⟨x, f, e.lst h⟩⟩
theorem Epn.trans (x : Epn Ps a H H1) (y : Epn Ps a H1 H2) : Epn Ps a H H2 := ⟨y.tb, fun b o n e q => y.old b o n (x.old b o n e q) q, fun b o e => let ⟨o', e'⟩ := x.there b o e; y.there b o' e', x.p0, y.pen⟩
theorem Epn.refl (h : Tb Ps H) (p : Pen H a) : Epn Ps a H H := (Ext.refl h).epn p
theorem Epn.draw (h : Tb Ps H) (p : Pen H a) {x f : Int} : Epn Ps a H (upd H a (.lst [.int x, .int f])) := by
  obtain ⟨x0, f0, e0⟩ := id p
  refine ⟨h.put e0 (fun q z => by cases z) (fun q z => by unfold LamX.CodeO at z; cases z), fun b o n e _ => by rw [upd_ne n]; exact e, fun b o e => ?_, p, x, f, upd_same⟩
  by_cases hb : b = a
  · rw [hb]
    exact ⟨_, upd_same⟩
  · rw [upd_ne hb]
    exact ⟨o, e⟩
theorem Epn.sqT (e : Epn Ps a H H') {t : Addr} {xs : List V} (h : SqT K H t xs) : SqT K H' t xs := by
  obtain ⟨x0, f0, e0⟩ := e.p0
  rcases h with (h | ⟨o, h⟩) | h
  · exact .inl (.inl (e.old _ _ (ne_of h e0 (by intro z; cases z)) h (fun q z => by cases z)))
  · exact .inl (.inr ⟨o, e.old _ _ (ne_of h e0 (by intro z; cases z)) h (fun q z => by cases z)⟩)
  · exact .inr h
theorem Epn.tupI (e : Epn Ps a H H') {x : V} {ns : List Int} (h : TupI K H x ns) : TupI K H' x ns := let ⟨t, e1, e2⟩ := h; ⟨t, e1, e.sqT e2⟩
theorem Epn.tups (e : Epn Ps a H H') {xs : List V} {fss : List (List Int)} (h : Paired (TupI K H) xs fss) : Paired (TupI K H') xs fss := L2.Paired.mapP h fun _ _ z => e.tupI z
theorem Epn.stk (e : Epn Ps a H H') {v : V} {n k : Int} {fss : List (List Int)} (h : Stk K H v n k fss) : Stk K H' v n k fss := let ⟨a, fa, xs, h1, h2, h3, h4⟩ := h; ⟨a, fa, xs, h1, e.sqT h2, e.sqT h3, e.tups h4⟩
theorem Epn.lst (e : Epn Ps a H H') {l : Addr} {xs : List V} (n : l ≠ a) (h : H l = some (.lst xs)) : H' l = some (.lst xs) := e.old _ _ n h (fun q z => by cases z)
theorem Epn.sqL (e : Epn Ps a H H') {l : Addr} {xs : List V} (n : l ≠ a) (h : SqL K H l xs) : SqL K H' l xs := by
  rcases h with (h | ⟨o, h⟩) | h
  · exact .inl (.inl (e.lst n h))
  · exact .inl (.inr ⟨o, e.old _ _ n h (fun q z => by cases z)⟩)
  · exact .inr h
theorem Epn.free (e : Epn Ps a H H') {l : Addr} (h : H' l = none) : H l = none := by
  cases q : H l with
  | none => rfl
  | some o =>
    obtain ⟨o', z⟩ := e.there l o q
    rw [z] at h
    cases h
/-- an object that is ours is written -/
theorem Epn.write {p : Addr} {o o' : HO} (e : Epn Ps a H H') (n : H p = none) (hp : H' p = some o) (ho : ∀ q, o ≠ .tbl q) (hx : ∀ q, o ≠ LamX.CodeO p q := by intro q z; unfold LamX.CodeO at z; cases z) : Epn Ps a H (upd H' p o') := by
  have np : a ≠ p := by
    obtain ⟨x0, f0, e0⟩ := e.p0
    exact ne_of_none e0 n
  refine ⟨e.tb.put hp ho hx, fun b u nb q nt => ?_, fun b u q => ?_, e.p0, ?_⟩
  · rw [upd_ne (ne_of_none q n)]
    exact e.old _ _ nb q nt
  · rw [upd_ne (ne_of_none q n)]
    exact e.there _ _ q
  · obtain ⟨x, f, h⟩ := e.pen
    exact ⟨x, f, by rw [upd_ne np]; exact h⟩
end
section
variable {P : Program} {w : World} {K : PySem.W.Frag} {mg : Str → Option Value} {base : Heap} {Ps : Tbs} {H H' : Hp} {k : Nat} {f c : Addr} {fd : FuncData}
/-! ### _law_cell -/
def spCell (K : PySem.W.Frag) : Sp := fun vs H Q _ => ∃ (a : Addr) (ns : List Int), vs = [.ref a, .int 0] ∧ SqL K H a (ns.map V.int) ∧ ∀ z : Int, Q (.int z) H
theorem ok_cell (D : Def K mg "_law_cell" sCell ["_law_script", "_law_k"] f fd c) (ml : mg "len" = none) : FnOk P w K mg base CX0 (k + 1) f fd ["_law_script", "_law_k"] (spCell K) := by
  refine D.ok (k := k) scCell (fun vs H Q E h => ?_) (fun A outer s H vs Q E hr h => ?_)
  · obtain ⟨a, ns, rfl, _⟩ := h
    rfl
  · obtain ⟨a, ns, rfl, hS, q⟩ := h
    refine ⟨_, pss_cons (ps_if (pt_cmpR op_lt (pv 1) (pe_callB (call_lenS (K := K) rfl) (by rfl) ml PySem.boot_len (pa_cons (pv 0) pa_nil)) (nomark _)) (pss_one (ps_ret (pe_ix ix_list (pv 0) (pv 1) (fun _ _ => rfl)))) pss_nil) (pss_one (ps_ret pe_int)), ?_⟩
    refine ⟨.int 0, rfl, .ref a, rfl, a, _, rfl, .inl hS, 0, _, rfl, rfl, _, rfl, ite2 (fun e => ?_) (fun e => ?_)⟩
    · have e' : (0 : Int) < ((ns.map V.int).length : Int) := of_decide_eq_true e
      rw [List.length_map] at e'
      have h0 : 0 < ns.length := by omega
      exact ⟨.ref a, rfl, .int 0, rfl, a, _, 0, .int ns[0], rfl, rfl, hS, atI_nat (j := 0) (by rw [List.getElem?_map, List.getElem?_eq_getElem h0]; rfl), q _⟩
    · exact q 0
/-! ### _law_pen -/
def spPen (Ps : Tbs) : Sp := fun vs H Q _ => ∃ z : Int, vs = [.int z] ∧ Tb Ps H ∧ ∀ a H', Ext Ps H H' → H a = none → Pen H' a → Q (.ref a) H'
theorem ok_pen (D : Def K mg "_law_pen" sPen ["_law_cell_here"] f fd c) (mn : mg "int" = none) : FnOk P w K mg base CX0 (k + 1) f fd ["_law_cell_here"] (spPen Ps) := by
  refine D.ok (k := k) scPen (fun vs H Q E h => ?_) (fun A outer s H vs Q E hr h => ?_)
  · obtain ⟨z, rfl, _⟩ := h
    rfl
  · obtain ⟨z, rfl, ht, q⟩ := h
    refine ⟨_, pss_one (ps_ret (pe_lst (pa_cons (pv 0) (pa_cons (pe_callTy call_int1 (by rfl) mn (by decide +kernel) (pa_cons (pe_cmpR op_ge (pv 0) (pe_op op_pow pe_int pe_int) (nomark _)) pa_nil)) pa_nil)))), ?_⟩
    refine ⟨.int z, rfl, .int z, rfl, 10, 18, rfl, rfl, ⟨by decide, by decide, by decide⟩, z, _, rfl, rfl, .inr ⟨_, rfl, (by show 2 ≤ sizeLine; decide), fun l hl => ?_⟩⟩
    exact q l _ (Ext.new ht hl) hl ⟨_, _, upd_same⟩
/-! ### _law_draw -/
def spDraw : Sp := fun vs H Q _ => ∃ (a : Addr) (m : Int), vs = [.ref a, .int m] ∧ Pen H a ∧ 1 ≤ m ∧ m ≤ 1000000000000000000000 ∧ ∀ x f r : Int, 0 ≤ r → r < m → Q (.int r) (upd H a (.lst [.int x, .int f]))
theorem ok_draw (D : Def K mg "_law_draw" sDraw ["_law_pen_here", "_law_many"] f fd c) : FnOk P w K mg base CX0 (k + 1) f fd ["_law_pen_here", "_law_many"] spDraw := by
  refine D.ok (k := k) scDraw (fun vs H Q E h => ?_) (fun A outer s H vs Q E hr h => ?_)
  · obtain ⟨a, m, rfl, _⟩ := h
    rfl
  · obtain ⟨a, m, rfl, ⟨x, fl, hA⟩, m1, m2, q⟩ := h
    have s0 : SqL K H a [.int x, .int fl] := .inl (.inl hA)
    have g0 : ∀ {y z : Int}, atI [V.int y, V.int z] 0 = some (.int y) := atI_nat (j := 0) rfl
    have g1 : ∀ {y z : Int}, atI [V.int y, V.int z] 1 = some (.int z) := atI_nat (j := 1) rfl
    refine ⟨_, pss_cons (ps_if (pt_cmpR op_eq (pe_ix ix_list (pv 0) pe_int (fun _ _ => rfl)) pe_int (nomark _))
        (pss_cons (ps_set (i := 2) scDraw.nd rfl (.inl rfl) (pe_op op_mod (pe_ix ix_list (pv 0) pe_int (fun _ _ => rfl)) (pv 1)))
        (pss_cons (ps_asg (pe_op op_fdivW (pe_ix ix_list (pv 0) pe_int (fun _ _ => rfl)) (pv 1)) (pg_sub (pv 0) pe_int set_list)) (pss_one (ps_ret (pv 2))))) pss_nil)
      (pss_cons (ps_asg (pe_op op_mod (pe_op op_add (pe_op op_mul (pe_op op_mod (pe_ix ix_list (pv 0) pe_int (fun _ _ => rfl)) pe_int) pe_int) pe_int) pe_int) (pg_sub (pv 0) pe_int set_list))
      (pss_one (ps_ret (pe_op op_mod (pe_op op_fdiv (pe_op op_mod (pe_op op_add (pe_op op_mul (pe_ix ix_list (pv 0) pe_int (fun _ _ => rfl)) (pe_ix ix_list (pv 0) pe_int (fun _ _ => rfl))) (pe_op op_mul pe_int (pe_ix ix_list (pv 0) pe_int (fun _ _ => rfl)))) pe_int) pe_int) (pv 1))))), ?_⟩
    refine ⟨.ref a, rfl, a, _, 1, .int fl, rfl, rfl, s0, g1, rfl, _, rfl, ite2 (fun e => ?_) (fun e => ?_)⟩
    · refine ⟨.ref a, rfl, a, _, 0, .int x, rfl, rfl, s0, g0, .int m, rfl, x, m, rfl, rfl, by omega, ?_⟩
      refine ⟨.ref a, rfl, a, _, 0, .int x, rfl, rfl, s0, g0, .int m, rfl, x, m, rfl, rfl, ⟨by omega, Nat.lt_of_lt_of_le ((Nat.log2_lt (show m.natAbs ≠ 0 by omega)).mpr (show m.natAbs < 2 ^ 70 by omega)) (by decide)⟩, .ref a, rfl, a, _, 0, 0, rfl, rfl, hA, rfl, ?_⟩
      exact ⟨.int (x % m), rfl, q _ _ _ (Int.emod_nonneg _ (by omega)) (Int.emod_lt_of_pos _ (by omega))⟩
    · have b0 := Int.emod_nonneg x (show (2147483629 : Int) ≠ 0 by decide)
      have b1 := Int.emod_lt_of_pos x (show (0 : Int) < 2147483629 by decide)
      refine ⟨.ref a, rfl, a, _, 0, .int x, rfl, rfl, s0, g0, x, 2147483629, rfl, rfl, (by show (0 : Int) < 2147483629; decide), x % 2147483629, 48271, rfl, rfl, .inr ⟨by decide, by decide⟩, _, 11, rfl, rfl, _, 2147483629, rfl, rfl, (by show (0 : Int) < 2147483629; decide), .ref a, rfl, a, _, 0, 0, rfl, rfl, hA, rfl, ?_⟩
      have c0 := Int.emod_nonneg (x % 2147483629 * 48271 + 11) (show (2147483629 : Int) ≠ 0 by decide)
      have c1 := Int.emod_lt_of_pos (x % 2147483629 * 48271 + 11) (show (0 : Int) < 2147483629 by decide)
      have s1 : SqL K (upd H a (.lst [.int ((x % 2147483629 * 48271 + 11) % 2147483629), .int fl])) a [.int ((x % 2147483629 * 48271 + 11) % 2147483629), .int fl] := .inl (.inl upd_same)
      refine ⟨.ref a, rfl, a, _, 0, .int ((x % 2147483629 * 48271 + 11) % 2147483629), rfl, rfl, s1, g0, .ref a, rfl, a, _, 0, .int ((x % 2147483629 * 48271 + 11) % 2147483629), rfl, rfl, s1, g0, ((x % 2147483629 * 48271 + 11) % 2147483629), ((x % 2147483629 * 48271 + 11) % 2147483629), rfl, rfl, .inl ⟨by omega, by omega⟩, .ref a, rfl, a, _, 0, .int ((x % 2147483629 * 48271 + 11) % 2147483629), rfl, rfl, s1, g0, 40692, ((x % 2147483629 * 48271 + 11) % 2147483629), rfl, rfl, .inl ⟨by decide, by decide⟩, _, _, rfl, rfl,
        _, 2147483647, rfl, rfl, (by show (0 : Int) < 2147483647; decide), _, 8, rfl, rfl, ⟨by decide, by decide⟩, .int m, rfl, _, m, rfl, rfl, (by show (0 : Int) < m; omega), ?_⟩
      exact q _ _ _ (Int.emod_nonneg _ (by omega)) (Int.emod_lt_of_pos _ (by omega))
end
end Lf

set_option maxHeartbeats 1000000
namespace Lf
open PySem PySem.Spec PyProof.Rows L2 GxR GxA SrT
/-! ### data, compared -/
abbrev iD (ns : List Int) : List PyData := ns.map PyData.int
abbrev tD (ns : List Int) : PyData := .tuple (iD ns)
theorem lay_ints : ∀ ns : List Int, PyData.canLayAll0 (iD ns) = true
  | [] => by simp [PyData.canLayAll0]
  | n :: ns => by
    have := lay_ints ns
    simp [PyData.canLayAll0, PyData.canLay0, this]
theorem dep_ints : ∀ ns : List Int, PyData.depthAll (iD ns) = 0
  | [] => by simp [PyData.depthAll]
  | n :: ns => by
    have := dep_ints ns
    simp [PyData.depthAll, PyData.depth, this]
theorem lay_tups : ∀ fs : List (List Int), PyData.canLayAll0 (fs.map tD) = true
  | [] => by simp [PyData.canLayAll0]
  | n :: ns => by
    have := lay_tups ns
    simp [PyData.canLayAll0, PyData.canLay0, this, lay_ints]
theorem dep_tups : ∀ fs : List (List Int), PyData.depthAll (fs.map tD) ≤ 1
  | [] => by simp [PyData.depthAll]
  | n :: ns => by
    have := dep_tups ns
    simp [PyData.depthAll, PyData.depth, this, dep_ints]
theorem shp_list (ns : List Int) : SeqAt.shaped (.list (iD ns)) = true := by
  unfold SeqAt.shaped
  simp [PyData.canLay0, PyData.depth, lay_ints, dep_ints]
theorem shp_tup (ns : List Int) : SeqAt.shaped (tD ns) = true := by
  unfold SeqAt.shaped
  simp [PyData.canLay0, PyData.depth, lay_ints, dep_ints]
theorem shp_tups (fs : List (List Int)) : SeqAt.shaped (.list (fs.map tD)) = true := by
  unfold SeqAt.shaped
  have h1 := dep_tups fs
  have h2 : PyData.canLay0 (.list (fs.map tD)) = true := by
    rw [PyData.canLay0]
    exact lay_tups fs
  have h3 : PyData.depth (.list (fs.map tD)) = PyData.depthAll (fs.map tD) + 1 := by rw [PyData.depth]
  rw [h2, h3, Bool.true_and]
  exact decide_eq_true (by omega)
theorem eqv_ints : ∀ ns ms : List Int, PyData.eqvAll (iD ns) (iD ms) = decide (ns = ms)
  | [], [] => by simp [PyData.eqvAll]
  | [], m :: ms => by simp [PyData.eqvAll]
  | n :: ns, [] => by simp [PyData.eqvAll]
  | n :: ns, m :: ms => by
    have := eqv_ints ns ms
    simp only [List.map_cons, PyData.eqvAll, PyData.eqv, this]
    by_cases h : n = m
    · subst h
      simp
    · simp [h]
theorem eqv_tups : ∀ fs gs : List (List Int), PyData.eqvAll (fs.map tD) (gs.map tD) = decide (fs = gs)
  | [], [] => by simp [PyData.eqvAll]
  | [], m :: ms => by simp [PyData.eqvAll]
  | n :: ns, [] => by simp [PyData.eqvAll]
  | n :: ns, m :: ms => by
    have := eqv_tups ns ms
    simp only [List.map_cons, PyData.eqvAll, PyData.eqv, this, eqv_ints]
    by_cases h : n = m
    · subst h
      simp
    · simp [h]
section
variable {K : PySem.W.Frag} {H : Hp}
theorem dp_ints : ∀ ns : List Int, DpAll K H (ns.map V.int) (iD ns)
  | [] => .nil
  | n :: ns => .cons (.int n) (dp_ints ns)
theorem dp_tup {x : V} {ns : List Int} (h : TupI K H x ns) : Dp K H x (tD ns) := by
  obtain ⟨t, rfl, hs⟩ := h
  exact .tup hs (dp_ints ns)
theorem dp_tups : ∀ {xs : List V} {fs : List (List Int)}, Paired (TupI K H) xs fs → DpAll K H xs (fs.map tD)
  | _, _, .nil => .nil
  | _, _, .cons r t => .cons (dp_tup r) (dp_tups t)
theorem dp_lst {x : V} {fs : List (List Int)} (h : LstT K H x fs) : Dp K H x (.list (fs.map tD)) := by
  obtain ⟨l, xs, rfl, h1, h2⟩ := h
  exact .lst h1 (dp_tups h2)
end
/-! ### all faces: the mathematics -/
def growK (k : Nat) (l : List (List Int)) (p : Int) : List (List Int) := l ++ (l.filter fun g => decide (g.length < k)).map (· ++ [p])
def allK : Nat → Nat → List (List Int)
  | 0, _ => [[]]
  | n + 1, k => growK k (allK n k) n
def allF (n k : Nat) : List (List Int) := sortL ((allK n k).filter fun g => decide (g.length = k))
theorem allK_len : ∀ n k, (allK n k).length ≤ 2 ^ n
  | 0, _ => by simp [allK]
  | n + 1, k => by
    have h := allK_len n k
    show (growK k (allK n k) n).length ≤ _
    unfold growK
    rw [List.length_append, List.length_map, Nat.pow_succ]
    have := List.length_filter_le (fun g : List Int => decide (g.length < k)) (allK n k)
    omega
/-- rising, of points below n -/
def RisB (n : Nat) (g : List Int) : Prop := g.Pairwise (· < ·) ∧ ∀ i ∈ g, 0 ≤ i ∧ i < (n : Int)
theorem mem_allK : ∀ (n k : Nat) (g : List Int), g ∈ allK n k ↔ RisB n g ∧ g.length ≤ k
  | 0, k, g => by
    show g ∈ [[]] ↔ _
    rw [List.mem_singleton]
    constructor
    · rintro rfl
      exact ⟨⟨.nil, fun i hi => absurd hi (by simp)⟩, Nat.zero_le _⟩
    · rintro ⟨⟨_, h⟩, _⟩
      cases g with
      | nil => rfl
      | cons x r =>
        have := h x List.mem_cons_self
        omega
  | n + 1, k, g => by
    have ih := mem_allK n k
    show g ∈ growK k (allK n k) n ↔ _
    unfold growK
    rw [List.mem_append, List.mem_map]
    constructor
    · rintro (h | ⟨h, hm, rfl⟩)
      · obtain ⟨⟨h1, h2⟩, h3⟩ := (ih g).mp h
        exact ⟨⟨h1, fun i hi => let q := h2 i hi; ⟨q.1, by omega⟩⟩, h3⟩
      · obtain ⟨hm1, hm2⟩ := List.mem_filter.mp hm
        obtain ⟨⟨h1, h2⟩, h3⟩ := (ih h).mp hm1
        have h4 := of_decide_eq_true hm2
        refine ⟨⟨List.pairwise_append.mpr ⟨h1, List.pairwise_singleton _ _, fun a ha b hb => ?_⟩, fun i hi => ?_⟩, ?_⟩
        · rw [List.mem_singleton.mp hb]
          exact (h2 a ha).2
        · rcases List.mem_append.mp hi with q | q
          · have := h2 i q
            omega
          · rw [List.mem_singleton.mp q]
            omega
        · rw [List.length_append, List.length_singleton]
          omega
    · rintro ⟨⟨h1, h2⟩, h3⟩
      rcases List.eq_nil_or_concat g with rfl | ⟨h, z, rfl⟩
      · exact .inl ((ih []).mpr ⟨⟨.nil, fun i hi => absurd hi (by simp)⟩, Nat.zero_le _⟩)
      · rw [List.concat_eq_append] at *
        obtain ⟨p1, p2, p3⟩ := List.pairwise_append.mp h1
        have hz := h2 z (List.mem_append_right _ (List.mem_singleton.mpr rfl))
        have hb : ∀ i ∈ h, 0 ≤ i ∧ i < z := fun i hi => ⟨(h2 i (List.mem_append_left _ hi)).1, p3 i hi z (List.mem_singleton.mpr rfl)⟩
        rw [List.length_append, List.length_singleton] at h3
        by_cases e : z = n
        · subst e
          refine .inr ⟨h, List.mem_filter.mpr ⟨(ih h).mpr ⟨⟨p1, hb⟩, by omega⟩, decide_eq_true (by omega)⟩, rfl⟩
        · refine .inl ((ih _).mpr ⟨⟨h1, fun i hi => ?_⟩, by rw [List.length_append, List.length_singleton]; exact h3⟩)
          have hi2 := h2 i hi
          rcases List.mem_append.mp hi with q | q
          · have := hb i q
            omega
          · rw [List.mem_singleton.mp q]
            omega
theorem nodup_allK : ∀ n k, (allK n k).Nodup
  | 0, _ => by
    show ([[]] : List (List Int)).Nodup
    simp
  | n + 1, k => by
    have ih := nodup_allK n k
    show (growK k (allK n k) n).Nodup
    unfold growK
    refine List.nodup_append.mpr ⟨ih, ?_, fun a ha b hb e => ?_⟩
    · refine List.Pairwise.map _ (fun a b hab e => ?_) (ih.filter _)
      exact hab (List.append_cancel_right e)
    · obtain ⟨h, _, rfl⟩ := List.mem_map.mp hb
      have := ((mem_allK n k a).mp ha).1.2 n (by rw [e]; exact List.mem_append_right _ (List.mem_singleton.mpr rfl))
      omega
theorem mem_allF {n k : Nat} {g : List Int} : g ∈ allF n k ↔ RisB n g ∧ g.length = k := by
  unfold allF
  rw [(sortL_perm _).mem_iff, List.mem_filter, mem_allK, decide_eq_true_eq]
  constructor
  · rintro ⟨⟨h, _⟩, h2⟩
    exact ⟨h, h2⟩
  · rintro ⟨h, h2⟩
    exact ⟨⟨h, by omega⟩, h2⟩
theorem nodup_allF (n k : Nat) : (allF n k).Nodup := by
  unfold allF
  exact (sortL_perm _).nodup_iff.mpr ((nodup_allK n k).filter _)
theorem allF_len (n k : Nat) : (allF n k).length ≤ 2 ^ n := by
  unfold allF
  rw [(sortL_perm _).length_eq]
  exact Nat.le_trans (List.length_filter_le _ _) (allK_len n k)
theorem allF_ne {n k : Nat} (h : k ≤ n) : 0 < (allF n k).length := by
  have hm : (List.range k).map (fun i : Nat => (i : Int)) ∈ allF n k := by
    refine mem_allF.mpr ⟨⟨?_, fun i hi => ?_⟩, by simp⟩
    · refine List.Pairwise.map _ (fun a b hab => ?_) List.pairwise_lt_range
      omega
    · obtain ⟨j, hj, rfl⟩ := List.mem_map.mp hi
      have := List.mem_range.mp hj
      omega
  exact List.length_pos_of_mem hm
section
variable {P : Program} {w : World} {K : PySem.W.Frag} {mg : Str → Option Value} {base : Heap} {Ps : Tbs} {H H' : Hp} {k : Nat} {f c : Addr} {fd : FuncData}
def spAll (K : PySem.W.Frag) (Ps : Tbs) : Sp := fun vs H Q _ => ∃ n kk : Nat, vs = [.int n, .int kk] ∧ n ≤ 8 ∧ kk ≤ 8 ∧ Tb Ps H ∧ ∀ l ys H', Ext Ps H H' → H l = none → H' l = some (.lst ys) → Paired (TupI K H') ys (allF n kk) → Q (.ref l) H'
theorem fm_take {α β : Type} (p : α → Bool) (g : α → β) {l : List α} {i : Nat} {y : α} (h : l[i]? = some y) : ((l.take (i + 1)).filter p).map g = ((l.take i).filter p).map g ++ (if p y = true then [g y] else []) := by
  rw [filt_take p h, List.map_append]
  cases hp : p y <;> simp
end
end Lf

set_option maxHeartbeats 1000000
namespace Lf
open PySem PySem.Spec PyProof.Rows L2 GxR GxA SrT
abbrev sCommon : Stmt := topS 60
theorem scCommon : FnScope ["_law_one", "_law_other", "_law_point"] ["_law_one", "_law_other"] (defScope sCommon) := ⟨rfl, rfl, rfl, by decide +kernel, rfl, by decide +kernel, by decide +kernel⟩
/-- a list or a tuple of ints -/
def SeqI (K : PySem.W.Frag) (H : Hp) (x : V) (ns : List Int) : Prop := ∃ a, x = .ref a ∧ (SqL K H a (ns.map V.int) ∨ SqT K H a (ns.map V.int))
/-- a list of ints -/
def LI (K : PySem.W.Frag) (H : Hp) (x : V) (ns : List Int) : Prop := ∃ a, x = .ref a ∧ SqL K H a (ns.map V.int)
section
variable {P : Program} {w : World} {K : PySem.W.Frag} {mg : Str → Option Value} {base : Heap} {Ps : Tbs} {H H' : Hp} {k : Nat} {f c : Addr} {fd : FuncData}
theorem Ext.seqI (e : Ext Ps H H') {x : V} {ns : List Int} (h : SeqI K H x ns) : SeqI K H' x ns := by
  obtain ⟨a, rfl, h⟩ := h
  exact ⟨a, rfl, h.elim (fun z => .inl (e.sqL z)) fun z => .inr (e.sqT z)⟩
theorem Ext.li (e : Ext Ps H H') {x : V} {ns : List Int} (h : LI K H x ns) : LI K H' x ns := let ⟨a, h1, h2⟩ := h; ⟨a, h1, e.sqL h2⟩
theorem TupI.seq {x : V} {ns : List Int} (h : TupI K H x ns) : SeqI K H x ns := let ⟨a, h1, h2⟩ := h; ⟨a, h1, .inr h2⟩
theorem LI.seq {x : V} {ns : List Int} (h : LI K H x ns) : SeqI K H x ns := let ⟨a, h1, h2⟩ := h; ⟨a, h1, .inl h2⟩
theorem hasAll_iff (fc pts : List Int) : hasAll fc pts = decide ((pts.filter fun p => !decide (p ∈ fc)) = []) := by
  unfold hasAll
  rw [Bool.eq_iff_iff, List.all_eq_true, decide_eq_true_eq, List.filter_eq_nil_iff]
  constructor
  · intro h a ha
    simpa using h a ha
  · intro h a ha
    simpa using h a ha
/-! ### _law_within -/
def spWithinL (K : PySem.W.Frag) (Ps : Tbs) : Sp := fun vs H Q _ => ∃ (x y : V) (pts fc : List Int), vs = [x, y] ∧ SeqI K H x pts ∧ SeqI K H y fc ∧ pts.length ≤ 100 ∧ Tb Ps H ∧ ∀ H', Ext Ps H H' → Q (.bl (hasAll fc pts)) H'
/-! ### _law_common -/
def spCommon (K : PySem.W.Frag) (Ps : Tbs) : Sp := fun vs H Q _ => ∃ (x y : V) (pts fc : List Int), vs = [x, y] ∧ TupI K H x pts ∧ TupI K H y fc ∧ pts.length ≤ 100 ∧ Tb Ps H ∧ ∀ (l : Addr) (ns : List Int) (H' : Hp), Ext Ps H H' → H l = none → ns.length ≤ 100 → H' l = some (.lst (ns.map V.int)) → Q (.ref l) H'
theorem ok_common (D : Def K mg "_law_common" sCommon ["_law_one", "_law_other"] f fd c) : FnOk P w K mg base CX0 (k + 1) f fd ["_law_one", "_law_other"] (spCommon K Ps) := by
  refine D.ok (k := k) scCommon (fun vs H Q E h => ?_) (fun A outer s H vs Q E hr h => ?_)
  · obtain ⟨x, y, pts, fc, rfl, _⟩ := h
    rfl
  · obtain ⟨_, _, pts, fc, rfl, ⟨a, rfl, hA⟩, ⟨b, rfl, hB⟩, hl, ht, q⟩ := h
    refine ⟨_, pss_one (ps_ret (pe_lc (own := [("_law_point", 2)]) (g := gName 2) (by rfl) scCommon.nd (pi_tup (pv 0)) (blkOk_by (N := ["_law_one", "_law_other", "_law_point"]) (sc := defScope sCommon) (by decide +kernel))
      (fun _ _ _ _ _ => pg_name (i := 2) scCommon.nd rfl (Or.inl rfl)) (fun _ _ _ _ _ => pts_one (pt_cmpR (show OpR _ _ (rIn K false) from op_in_seq) (pv 2) (pv 1) (by with_unfolding_all rfl))) (fun _ _ _ _ _ => pv 2))), ?_⟩
    refine ⟨.ref a, rfl, a, rfl, ⟨_, hA⟩, fun D0 hD => lc_tup (K := K) (a := a) (xs := pts.map V.int) (fun i H3 => ∃ ns : List Int, CP Ps FI H D0 ns i H3) ⟨[], CP.start ht hD⟩ (fun i H3 _ p => let ⟨_, z⟩ := p; z.ext.sqT hA) (fun i x H3 hx p => ?_) (fun H3 p => ?_)⟩
    · obtain ⟨y, hy, rfl⟩ := map_int hx
      obtain ⟨ns, p⟩ := p
      have hi : i < pts.length := (List.getElem?_eq_some_iff.mp hy).1
      refine ⟨rfl, .int y, rfl, .ref b, rfl, b, _, rfl, .inr (p.ext.sqT hB), rfl, flat_ints fc, _, rfl, ite2 (fun hc => ?_) (fun hc => ?_)⟩
      · obtain ⟨acc, r1, r2, r3⟩ := CP.put (stbI (K := K)) hD (by omega) p (show FI H3 (.int y) y from rfl)
        exact ⟨.int y, rfl, acc, r1, r2, _, r3⟩
      · exact ⟨ns, p.mono (Nat.le_succ i)⟩
    · obtain ⟨ns, p⟩ := p
      obtain ⟨ys, e1, e2, e3⟩ := p.at_
      have e4 := Paired.length e2
      rw [paired_ints e2] at e1
      rw [List.length_map] at e3
      exact q D0 ns H3 p.ext hD (by omega) e1
/-! ### _law_at -/
def spAt (K : PySem.W.Frag) (Ps : Tbs) : Sp := fun vs H Q _ => ∃ (x y : V) (n k : Int) (fss : List (List Int)) (ns : List Int), vs = [x, y] ∧ Stk K H x n k fss ∧ LI K H y ns ∧ (∀ i ∈ ns, 0 ≤ i ∧ i < (fss.length : Int)) ∧ ns.length ≤ 100 ∧ Tb Ps H ∧
  ∀ l ys H', Ext Ps H H' → H l = none → H' l = some (.lst ys) → Paired (TupI K H') ys (facesAt fss ns) → Q (.ref l) H'
/-! ### _law_lot -/
def spLot (K : PySem.W.Frag) (Ps : Tbs) : Sp := fun vs H Q _ => ∃ (a : Addr) (x : V) (n k : Int) (fss : List (List Int)), vs = [.ref a, x] ∧ Pen H a ∧ Stk K H x n k fss ∧ fss.length ≤ 64 ∧ Tb Ps H ∧ ∀ (v : V) (ns : List Int) (H' : Hp), Epn Ps a H H' → TupI K H' v ns → LotOk fss.length ns → Q v H'
end
end Lf

set_option maxHeartbeats 1000000
namespace Lf
open PySem PySem.Spec PyProof.Rows L2 GxR GxA SrT
theorem u65 {k : Nat} {A : Around} (r : Room k A) : A.units + 65 < cLine := by
  have := r.un
  omega
/-! ### lists of lists of ints as data -/
abbrev lD (ns : List Int) : PyData := .list (iD ns)
theorem lay_lls : ∀ fs : List (List Int), PyData.canLayAll0 (fs.map lD) = true
  | [] => by simp [PyData.canLayAll0]
  | n :: ns => by
    have := lay_lls ns
    simp [PyData.canLayAll0, PyData.canLay0, this, lay_ints]
theorem dep_lls : ∀ fs : List (List Int), PyData.depthAll (fs.map lD) ≤ 1
  | [] => by simp [PyData.depthAll]
  | n :: ns => by
    have := dep_lls ns
    simp [PyData.depthAll, PyData.depth, this, dep_ints]
theorem shp_lls (fs : List (List Int)) : SeqAt.shaped (.list (fs.map lD)) = true := by
  unfold SeqAt.shaped
  have h1 := dep_lls fs
  have h2 : PyData.canLay0 (.list (fs.map lD)) = true := by
    rw [PyData.canLay0]
    exact lay_lls fs
  have h3 : PyData.depth (.list (fs.map lD)) = PyData.depthAll (fs.map lD) + 1 := by rw [PyData.depth]
  rw [h2, h3, Bool.true_and]
  exact decide_eq_true (by omega)
/-- a list of ints of ours, that is not the list at D -/
def LIn (D : Addr) : Hp → V → List Int → Prop := fun H x ns => ∃ a, x = .ref a ∧ a ≠ D ∧ H a = some (.lst (ns.map V.int)) ∧ ns.length ≤ 100
section
variable {P : Program} {w : World} {K : PySem.W.Frag} {mg : Str → Option Value} {base : Heap} {Ps : Tbs} {H H' H0 : Hp} {k : Nat} {f c : Addr} {fd : FuncData}
theorem LIn.ext {D : Addr} {x : V} {ns : List Int} (e : Ext Ps H H') (h : LIn D H x ns) : LIn D H' x ns := let ⟨a, h1, h2, h3, h4⟩ := h; ⟨a, h1, h2, e.lst h3, h4⟩
theorem LIn.put {D : Addr} {x : V} {ns : List Int} {l' : List V} (h : LIn D H x ns) : LIn D (upd H D (.lst l')) x ns := let ⟨a, h1, h2, h3, h4⟩ := h; ⟨a, h1, h2, by rw [upd_ne h2]; exact h3, h4⟩
theorem LIn.seq {D : Addr} {x : V} {ns : List Int} (h : LIn D H x ns) : SeqI K H x ns := let ⟨a, h1, h2, h3, h4⟩ := h; ⟨a, h1, .inl (.inl (.inl h3))⟩
theorem LIn.other {D D' : Addr} {x : V} {ns : List Int} (h : LIn D H x ns) (hD : H D' = none) : LIn D' H x ns := let ⟨a, h1, h2, h3, h4⟩ := h; ⟨a, h1, ne_of_none h3 hD, h3, h4⟩
theorem dp_lls {D : Addr} : ∀ {xs : List V} {fs : List (List Int)}, Paired (LIn D H) xs fs → DpAll K H xs (fs.map lD)
  | _, _, .nil => .nil
  | _, _, .cons ⟨a, h1, h2, h3, h4⟩ t => by
    subst h1
    exact .cons (.lst (.inl (.inl h3)) (dp_ints _)) (dp_lls t)
theorem CP.skipL {D : Addr} {out : List (List Int)} {n : Nat} (h : CP Ps (LIn D) H0 D out n H) (e : Ext Ps H H') : CP Ps (LIn D) H0 D out n H' := by
  obtain ⟨ys, h1, h2, h3⟩ := h.at_
  exact ⟨h.ext.trans e, ys, e.lst h1, L2.Paired.mapP h2 fun _ _ z => LIn.ext e z, h3⟩
theorem CP.putL {D : Addr} {out : List (List Int)} {n : Nat} (hD : H0 D = none) (hn : n ≤ 1000) {y : V} {z : List Int} (h : CP Ps (LIn D) H0 D out n H) (hF : LIn D H y z) :
    ∃ acc, H D = some (.lst acc) ∧ acc.length < sizeLine ∧ CP Ps (LIn D) H0 D (out ++ [z]) (n + 1) (upd H D (.lst (acc ++ [y]))) := by
  obtain ⟨ys, h1, h2, h3⟩ := h.at_
  refine ⟨ys, h1, small1000 (Nat.le_trans h3 hn), ⟨h.ext.write hD h1 (fun q z => by cases z), ys ++ [y], upd_same, ?_, ?_⟩⟩
  · exact paired_snoc (L2.Paired.mapP h2 fun _ _ z => LIn.put z) (LIn.put hF)
  · rw [List.length_append]
    exact Nat.add_le_add_right h3 1
/-! ### _law_may -/
def spMay (K : PySem.W.Frag) (Ps : Tbs) : Sp := fun vs H Q _ => ∃ (kk : Int) (y z : V) (fss : List (List Int)) (fc : List Int), vs = [.int kk, y, z] ∧ LstT K H y fss ∧ TupI K H z fc ∧ fss.length ≤ 100 ∧ fc.length ≤ 100 ∧ Tb Ps H ∧ ∀ (b : Bool) (H' : Hp), Ext Ps H H' → Q (.bl b) H'
end
end Lf

set_option maxHeartbeats 1000000
namespace Lf
open PySem PySem.Spec PyProof.Rows L2 GxR GxA SrT
/-- the numbers from 0 on -/
def rng (m : Nat) : List Int := (List.range m).map fun i : Nat => (i : Int)
theorem rng_len (m : Nat) : (rng m).length = m := by simp [rng]
theorem rng_V (m : Nat) : rgV 0 (m : Int) = (rng m).map V.int := by
  unfold rgV rng
  rw [List.map_map]
  have e : ((m : Int) - 0).toNat = m := by omega
  rw [e]
  refine List.map_congr_left fun i _ => ?_
  show V.int (0 + (i : Int)) = V.int i
  rw [Int.zero_add]
theorem mem_rng {m : Nat} {i : Int} (h : i ∈ rng m) : 0 ≤ i ∧ i < (m : Int) := by
  obtain ⟨j, hj, rfl⟩ := List.mem_map.mp h
  have := List.mem_range.mp hj
  omega
theorem nd_rng (m : Nat) : (rng m).Nodup := by
  unfold rng
  refine List.Pairwise.map _ (fun a b hab e => ?_) List.nodup_range
  exact hab (by omega)
theorem find_at {ls : List Int} {v : Int} (nd : ls.Nodup) (h : v ∈ ls) : ∃ j : Nat, ls[j]? = some v ∧ (∀ m : Nat, m < j → ls[m]? ≠ some v) ∧ (v :: ls.eraseIdx j).Perm ls := by
  obtain ⟨j, hj, e⟩ := List.getElem_of_mem h
  refine ⟨j, by rw [List.getElem?_eq_getElem hj, e], fun m hm z => ?_, ?_⟩
  · obtain ⟨hm2, e2⟩ := List.getElem?_eq_some_iff.mp z
    have := (List.getElem_inj nd).mp (e2.trans e.symm)
    omega
  · have e3 : ls = ls.take j ++ v :: ls.drop (j + 1) := by
      rw [← e, ← List.drop_eq_getElem_cons hj, List.take_append_drop]
    rw [List.eraseIdx_eq_take_drop_succ]
    conv => rhs; rw [e3]
    exact List.perm_middle.symm
/-- how many things the list in the fourth slot has -/
def lstLen : Option HO → Nat
  | some (.lst xs) => xs.length
  | _ => 0
def slotLen (H : Hp) : Option (Option V) → Nat
  | some (some (V.ref l)) => lstLen (H l)
  | _ => 0
def lefts (σ : L2.St) (H : Hp) : Nat := slotLen H σ[3]?
section
variable {P : Program} {w : World} {K : PySem.W.Frag} {mg : Str → Option Value} {base : Heap} {Ps : Tbs} {H H' H0 : Hp} {k : Nat} {f c : Addr} {fd : FuncData}
def spLaid (K : PySem.W.Frag) (Ps : Tbs) : Sp := fun vs H Q _ => ∃ (a : Addr) (x : V) (n kk : Int) (fss : List (List Int)), vs = [.ref a, x] ∧ Pen H a ∧ Stk K H x n kk fss ∧ fss.length < 64 ∧ (∀ f ∈ fss, f.length ≤ 4) ∧ Tb Ps H ∧
  ∀ (v : V) (ns : List Int) (H' : Hp), Epn Ps a H H' → TupI K H' v ns → ns.Perm (rng fss.length) → Q v H'
/-- between two turns: the row, what is left, what can be laid -/
structure Rw (Ps : Tbs) (a : Addr) (m : Nat) (H0 H : Hp) (r l cn : Addr) (rs ls cs : List Int) : Prop where
  ext : Epn Ps a H0 H
  hr : H r = some (.lst (rs.map V.int))
  hl : H l = some (.lst (ls.map V.int))
  hc : H cn = some (.lst (cs.map V.int))
  nr : H0 r = none
  nl : H0 l = none
  nc : H0 cn = none
  rl : r ≠ l
  rc : r ≠ cn
  lc : l ≠ cn
  perm : (rs ++ ls).Perm (rng m)
  sub : ∀ z ∈ cs, z ∈ ls
  few : cs.length ≤ 64
theorem Rw.ne {a : Addr} {m : Nat} {r l cn : Addr} {rs ls cs : List Int} (h : Rw Ps a m H0 H r l cn rs ls cs) : r ≠ a ∧ l ≠ a ∧ cn ≠ a := by
  obtain ⟨x, f, e⟩ := h.ext.p0
  exact ⟨Ne.symm (ne_of_none e h.nr), Ne.symm (ne_of_none e h.nl), Ne.symm (ne_of_none e h.nc)⟩
theorem facesAt_len (fss : List (List Int)) (ns : List Int) : (facesAt fss ns).length = ns.length := by simp [facesAt]
end
end Lf

set_option maxHeartbeats 2000000
namespace Lf
open PySem PySem.Spec PyProof.Rows L2 GxR GxA SrT
abbrev nStack : List Str := ["_law_pen_here", "_law_most", "_law_way", "_law_n", "_law_k", "_law_every", "_law_faces", "_law_turn", "_law_face", "_law_out", "_law_others", "_law_into", "_law_rest", "_law_point"]
/-! ### the mathematics of a drawn face -/
theorem filt_split {α : Type} (p : α → Bool) : ∀ l : List α, (l.filter p).length + (l.filter fun x => !p x).length = l.length
  | [] => rfl
  | x :: l => by
    have := filt_split p l
    cases h : p x <;> simp [List.filter_cons, h] <;> omega
theorem RisB.nd {n : Nat} {g : List Int} (h : RisB n g) : g.Nodup := h.1.imp fun {a b} hab e => by omega
theorem in_rng {m : Nat} {i : Int} (h0 : 0 ≤ i) (h1 : i < (m : Int)) : i ∈ rng m := List.mem_map.mpr ⟨i.toNat, List.mem_range.mpr (by omega), by omega⟩
theorem others_len {n : Nat} {g : List Int} (h : RisB n g) : ((rng n).filter fun p => !decide (p ∈ g)).length = n - g.length := by
  have h1 : ((rng n).filter fun p => decide (p ∈ g)).Perm g := by
    refine (List.perm_ext_iff_of_nodup ((nd_rng n).filter _) h.nd).mpr fun z => ?_
    rw [List.mem_filter, decide_eq_true_eq]
    constructor
    · exact fun q => q.2
    · intro q
      exact ⟨in_rng (h.2 z q).1 (h.2 z q).2, q⟩
  have h2 := filt_split (fun p => decide (p ∈ g)) (rng n)
  rw [rng_len, h1.length_eq] at h2
  omega
theorem lt_of_le_nd {l : List Int} (h1 : l.Pairwise (· ≤ ·)) (h2 : l.Nodup) : l.Pairwise (· < ·) := List.Pairwise.imp₂ (fun a b h n => by omega) h1 h2
theorem rest_len {g : List Int} {o : Int} (nd : g.Nodup) (h : o ∈ g) : (g.filter fun p => !decide (p = o)).length + 1 = g.length := by
  have e := nd.filter (fun p => decide (p = o))
  have h1 : (g.filter fun p => decide (p = o)).Perm [o] := by
    refine (List.perm_ext_iff_of_nodup e (by simp)).mpr fun z => ?_
    rw [List.mem_filter, decide_eq_true_eq, List.mem_singleton]
    constructor
    · exact fun q => q.2
    · rintro rfl
      exact ⟨h, rfl⟩
  have h2 := filt_split (fun p => decide (p = o)) g
  rw [h1.length_eq, List.length_singleton] at h2
  omega
theorem swap_ok {n : Nat} {g ns : List Int} {o i : Int} (h : RisB n g) (ho : o ∈ g) (hi : i ∉ g) (h0 : 0 ≤ i) (h1 : i < (n : Int)) (pm : ns.Perm ((g.filter fun p => !decide (p = o)) ++ [i])) (sr : ns.Pairwise (· ≤ ·)) : RisB n ns ∧ ns.length = g.length := by
  have nd : ((g.filter fun p => !decide (p = o)) ++ [i]).Nodup := by
    refine List.nodup_append.mpr ⟨h.nd.filter _, by simp, fun a ha b hb e => ?_⟩
    rw [List.mem_singleton.mp hb] at e
    rw [e] at ha
    exact hi (List.mem_filter.mp ha).1
  refine ⟨⟨lt_of_le_nd sr (pm.nodup_iff.mpr nd), fun z hz => ?_⟩, ?_⟩
  · rcases List.mem_append.mp (pm.mem_iff.mp hz) with q | q
    · exact h.2 z (List.mem_filter.mp q).1
    · rw [List.mem_singleton.mp q]
      exact ⟨h0, h1⟩
  · rw [pm.length_eq, List.length_append, List.length_singleton]
    exact rest_len h.nd ho
theorem RisB.mono {n m : Nat} {g : List Int} (h : RisB n g) (hm : n ≤ m) : RisB m g := ⟨h.1, fun i hi => by have := h.2 i hi; omega⟩
/-- tuples of ints by their addresses -/
theorem keys_at {K : PySem.W.Frag} {H : Hp} : ∀ {ys : List V} {gss : List (List Int)}, Paired (TupI K H) ys gss → ∃ ks : List (Addr × List Int), ys = ks.map (fun p => V.ref p.1) ∧ ks.map (·.2) = gss ∧ ∀ p ∈ ks, SqT K H p.1 (p.2.map V.int)
  | _, _, .nil => ⟨[], rfl, rfl, fun p hp => absurd hp (by simp)⟩
  | _, _, .cons ⟨t, e, hs⟩ q => by
    obtain ⟨ks, e1, e2, e3⟩ := keys_at q
    refine ⟨(t, _) :: ks, by rw [List.map_cons, e, e1], by rw [List.map_cons, e2], fun p hp => ?_⟩
    rcases List.mem_cons.mp hp with z | z
    · rw [z]
      exact hs
    · exact e3 p z
section
variable {P : Program} {w : World} {K : PySem.W.Frag} {mg : Str → Option Value} {base : Heap} {Ps : Tbs} {H H' H0 : Hp} {k : Nat} {f c : Addr} {fd : FuncData}
def spStack (K : PySem.W.Frag) (Ps : Tbs) : Sp := fun vs H Q _ => ∃ (a : Addr) (m : Int), vs = [.ref a, .int m] ∧ Pen H a ∧ 1 ≤ m ∧ m ≤ 40 ∧ Tb Ps H ∧ ∀ (v : V) (n kk : Int) (fss : List (List Int)) (H' : Hp), Epn Ps a H H' → Stk K H' v n kk fss → StkOk n kk fss → fss.length ≤ 40 → Q v H'
/-- between two turns of the loop: all faces, the faces drawn -/
structure Fc (K : PySem.W.Frag) (Ps : Tbs) (a : Addr) (n k : Nat) (H0 H : Hp) (ev fa : Addr) (es ys : List V) (gss : List (List Int)) : Prop where
  ext : Epn Ps a H0 H
  he : H ev = some (.lst es)
  hf : H fa = some (.lst ys)
  ne : H0 ev = none
  nf : H0 fa = none
  ef : ev ≠ fa
  pe : Paired (TupI K H) es (allF n k)
  pf : Paired (TupI K H) ys gss
  ok : ∀ g ∈ gss, RisB n g ∧ g.length = k
theorem Fc.away {a : Addr} {n kk : Nat} {ev fa : Addr} {es ys : List V} {gss : List (List Int)} (h : Fc K Ps a n kk H0 H ev fa es ys gss) : ev ≠ a ∧ fa ≠ a := by
  obtain ⟨x, f, e⟩ := h.ext.p0
  exact ⟨Ne.symm (ne_of_none e h.ne), Ne.symm (ne_of_none e h.nf)⟩
theorem Fc.move {a : Addr} {n kk : Nat} {ev fa : Addr} {es ys : List V} {gss : List (List Int)} (h : Fc K Ps a n kk H0 H ev fa es ys gss) (e : Epn Ps a H H') : Fc K Ps a n kk H0 H' ev fa es ys gss :=
  ⟨h.ext.trans e, e.lst h.away.1 h.he, e.lst h.away.2 h.hf, h.ne, h.nf, h.ef, e.tups h.pe, e.tups h.pf, h.ok⟩
theorem Fc.put {a : Addr} {n kk : Nat} {ev fa : Addr} {es ys : List V} {gss : List (List Int)} {x : V} {g : List Int} (h : Fc K Ps a n kk H0 H ev fa es ys gss) (hx : TupI K H x g) (hg : RisB n g ∧ g.length = kk) : Fc K Ps a n kk H0 (upd H fa (.lst (ys ++ [x]))) ev fa es (ys ++ [x]) (gss ++ [g]) := by
  refine ⟨h.ext.write h.nf h.hf (fun q z => by cases z), by rw [upd_ne h.ef]; exact h.he, upd_same, h.ne, h.nf, h.ef, L2.Paired.mapP h.pe fun _ _ z => tupI_put h.hf z, paired_snoc (L2.Paired.mapP h.pf fun _ _ z => tupI_put h.hf z) (tupI_put h.hf hx), fun z hz => ?_⟩
  rcases List.mem_append.mp hz with q | q
  · exact h.ok z q
  · rw [List.mem_singleton.mp q]
    exact hg
theorem nd_le {α : Type} [BEq α] [LawfulBEq α] : ∀ {l D : List α}, l.Nodup → (∀ x ∈ l, x ∈ D) → l.length ≤ D.length
  | [], _, _, _ => Nat.zero_le _
  | x :: l, D, nd, h => by
    obtain ⟨n1, n2⟩ := List.nodup_cons.mp nd
    have hx := h x List.mem_cons_self
    have z := nd_le (l := l) (D := D.erase x) n2 fun y hy => (List.mem_erase_of_ne (show y ≠ x from fun e => n1 (by rw [← e]; exact hy))).mpr (h y (List.mem_cons_of_mem _ hy))
    rw [List.length_erase_of_mem hx] at z
    have := List.length_pos_of_mem hx
    rw [List.length_cons]
    omega
theorem lex_nd {l : List (List Int)} (h : l.Pairwise fun x y => lex x y = true) : l.Nodup := h.imp fun {a b} hab e => by
  rw [e, SrT.lex_irrefl] at hab
  cases hab
theorem pick {l : List Int} {d : Int} (d0 : 0 ≤ d) (d1 : d < (l.length : Int)) : ∃ z ∈ l, atI (l.map V.int) d = some (.int z) := by
  have hd : d.toNat < l.length := by omega
  exact ⟨_, List.getElem_mem hd, atI_int d0 (by rw [List.getElem?_map, List.getElem?_eq_getElem hd]; rfl)⟩
theorem pickT {K : PySem.W.Frag} {H : Hp} {ys : List V} {gss : List (List Int)} (p : Paired (TupI K H) ys gss) {d : Int} (d0 : 0 ≤ d) (d1 : d < (ys.length : Int)) : ∃ x g, g ∈ gss ∧ TupI K H x g ∧ atI ys d = some x := by
  have hd : d.toNat < ys.length := by omega
  obtain ⟨g, hg, hI⟩ := paired_get p (List.getElem?_eq_getElem hd)
  exact ⟨_, g, List.mem_of_getElem? hg, hI, atI_int d0 (List.getElem?_eq_getElem hd)⟩
end
end Lf

set_option maxHeartbeats 2000000
namespace Lf
open PySem PySem.Spec PyProof.Rows L2 GxR GxA SrT
/-! ### parts: the mathematics -/
theorem sub_of : ∀ {fc g : List Int}, fc.Pairwise (· < ·) → g.Pairwise (· < ·) → (∀ x ∈ g, x ∈ fc) → g.Sublist fc
  | [], [], _, _, _ => .slnil
  | [], x :: g, _, _, h => absurd (h x List.mem_cons_self) (by simp)
  | y :: r, [], _, _, _ => List.nil_sublist _
  | y :: r, x :: g, hf, hg, h => by
    obtain ⟨f1, f2⟩ := List.pairwise_cons.mp hf
    obtain ⟨g1, g2⟩ := List.pairwise_cons.mp hg
    rcases List.mem_cons.mp (h x List.mem_cons_self) with e | e
    · subst e
      refine List.Sublist.cons_cons _ (sub_of f2 g2 fun z hz => ?_)
      rcases List.mem_cons.mp (h z (List.mem_cons_of_mem _ hz)) with q | q
      · have := g1 z hz
        omega
      · exact q
    · refine List.Sublist.cons _ (sub_of f2 hg fun z hz => ?_)
      have hxy := f1 x e
      rcases List.mem_cons.mp (h z hz) with q | q
      · rcases List.mem_cons.mp hz with q2 | q2
        · rw [q2]
          exact e
        · have := g1 z q2
          omega
      · exact q
theorem subs_nodup : ∀ (m : Nat) (l : List Int), l.length = m → l.Nodup → (subsL l).Nodup
  | 0, l, hl, _ => by
    rw [List.length_eq_zero_iff.mp hl]
    show ([[]] : List (List Int)).Nodup
    simp
  | m + 1, l, hl, nd => by
    rcases List.eq_nil_or_concat l with rfl | ⟨r, p, rfl⟩
    · simp at hl
    · rw [List.concat_eq_append] at *
      have hr : r.length = m := by simpa using hl
      obtain ⟨n1, n2, n3⟩ := List.nodup_append.mp nd
      have ih := subs_nodup m r hr n1
      have e : subsL (r ++ [p]) = grow (subsL r) p := by
        unfold subsL
        rw [List.foldl_append]
        rfl
      rw [e]
      unfold grow
      refine List.nodup_append.mpr ⟨ih, ?_, fun a ha b hb e2 => ?_⟩
      · exact List.Pairwise.map _ (fun a b hab e3 => hab (List.append_cancel_right e3)) ih
      · obtain ⟨c, _, rfl⟩ := List.mem_map.mp hb
        have hp : p ∈ a := by
          rw [e2]
          exact List.mem_append_right _ (List.mem_singleton.mpr rfl)
        exact n3 p ((mem_subs.mp ha).subset hp) p (List.mem_singleton.mpr rfl) rfl
theorem hasAll_true {fc pts : List Int} : hasAll fc pts = true ↔ ∀ p ∈ pts, p ∈ fc := by
  unfold hasAll
  rw [List.all_eq_true]
  constructor
  · intro h p hp
    simpa using h p hp
  · intro h p hp
    simpa using h p hp
theorem inSome_true {pts : List Int} {laid : List (List Int)} : inSome pts laid = true ↔ ∃ f ∈ laid, ∀ p ∈ pts, p ∈ f := by
  unfold inSome
  rw [List.any_eq_true]
  constructor
  · rintro ⟨f, hf, h⟩
    exact ⟨f, hf, hasAll_true.mp h⟩
  · rintro ⟨f, hf, h⟩
    exact ⟨f, hf, hasAll_true.mpr h⟩
theorem lex_le {x y : List Int} (h : lex x y = true) : le x y = true := by
  have z := NtL.lex_asym x y h
  simp [le, z]
theorem strict_eq {l m : List (List Int)} (hl : l.Pairwise fun x y => lex x y = true) (hm : m.Pairwise fun x y => le x y = true) (nm : m.Nodup) (h : ∀ z, z ∈ l ↔ z ∈ m) : l = m :=
  sorted_eq ((List.perm_ext_iff_of_nodup (lex_nd hl) nm).mpr h) (hl.imp lex_le) hm
/-- the parts of m points of a stack -/
def partsN (n : Nat) (fss : List (List Int)) (m : Nat) : List (List Int) := (allF n m).filter fun z => inSome z fss
theorem mem_partsN {n m : Nat} {fss : List (List Int)} {z : List Int} : z ∈ partsN n fss m ↔ RisB n z ∧ z.length = m ∧ ∃ f ∈ fss, ∀ x ∈ z, x ∈ f := by
  unfold partsN
  rw [List.mem_filter, mem_allF, inSome_true]
  constructor
  · rintro ⟨⟨h1, h2⟩, h3⟩
    exact ⟨h1, h2, h3⟩
  · rintro ⟨h1, h2, h3⟩
    exact ⟨⟨h1, h2⟩, h3⟩
theorem partsN_pw (n m : Nat) (fss : List (List Int)) : (partsN n fss m).Pairwise fun x y => le x y = true := (sortL_pw _).filter _
theorem partsN_nd (n m : Nat) (fss : List (List Int)) : (partsN n fss m).Nodup := (nodup_allF n m).filter _
/-- the faces of a stack as told -/
structure FacesOk (n k : Nat) (fss : List (List Int)) : Prop where
  len : ∀ f ∈ fss, f.length = k
  ris : ∀ f ∈ fss, RisB n f
theorem StkOk.faces {n k : Int} {fss : List (List Int)} (S : StkOk n k fss) : FacesOk n.toNat k.toNat fss := by
  have h1 := S.n1
  have h2 := S.k0
  exact ⟨fun f hf => by have := S.len f hf; omega, fun f hf => ⟨S.ris f hf, fun i hi => by have := S.bel f hf i hi; omega⟩⟩
theorem mem_partsN' {n k m : Nat} {fss : List (List Int)} (F : FacesOk n k fss) {z : List Int} : z ∈ partsN n fss m ↔ z.length = m ∧ ∃ f ∈ fss, z.Sublist f := by
  rw [mem_partsN]
  constructor
  · rintro ⟨h1, h2, f, hf, h3⟩
    exact ⟨h2, f, hf, sub_of (F.ris f hf).1 h1.1 h3⟩
  · rintro ⟨h2, f, hf, h3⟩
    exact ⟨⟨(F.ris f hf).1.sublist h3, fun i hi => (F.ris f hf).2 i (h3.subset hi)⟩, h2, f, hf, fun x hx => h3.subset hx⟩
theorem few_all : ((List.range 9).all fun n => (List.range 4).all fun m => decide (((allK n m).filter fun g => decide (g.length = m)).length ≤ 56)) = true := by decide +kernel
theorem allF_few {n m : Nat} (hn : n ≤ 8) (hm : m ≤ 3) : (allF n m).length ≤ 56 := by
  unfold allF
  rw [(sortL_perm _).length_eq]
  have z := List.all_eq_true.mp (List.all_eq_true.mp few_all n (List.mem_range.mpr (by omega))) m (List.mem_range.mpr (by omega))
  exact of_decide_eq_true z
/-- few parts of each number of points -/
theorem partsN_few {n k m : Nat} {fss : List (List Int)} (F : FacesOk n k fss) (hn : n ≤ 8) (hk : k ≤ 4) (hm : m ≤ k) (h60 : fss.length ≤ 60) : (partsN n fss m).length ≤ 60 := by
  by_cases h3 : m ≤ 3
  · have := allF_few hn h3
    have h2 := List.length_filter_le (fun z => inSome z fss) (allF n m)
    unfold partsN
    omega
  · have e : m = k := by omega
    refine Nat.le_trans (nd_le (partsN_nd n m fss) fun z hz => ?_) h60
    obtain ⟨h1, f, hf, h2⟩ := (mem_partsN' F).mp hz
    rw [List.Sublist.eq_of_length h2 (by rw [F.len f hf]; omega)]
    exact hf
/-! ### a walk that adds to a set -/
section
variable {K : PySem.W.Frag} {g : TG} {tt : TT} {ta : TD} {vs : List Nat} {σ : L2.St} {Qd : Hp → Prop} {H1 : Hp}
theorem wk_tup {a : Addr} {xs : List V} (Pv : Nat → Hp → Prop) (h0 : Pv 0 H1) (hl : ∀ i H, Pv i H → SqT K H a xs)
    (hs : ∀ i x H, xs[i]? = some x → Pv i H → g x (wipe σ vs) H fun σ2 H2 => wipe σ2 vs = wipe σ vs ∧ tt σ2 H2 fun b H3 => if b = true then ta σ2 H3 (Pv (i + 1)) else Pv (i + 1) H3) (hd : ∀ H, Pv xs.length H → Qd H) :
    ∃ W : Nat → Nat → Hp → Prop, (∃ m, W 0 m H1) ∧ tWk (Itt K a) σ vs g tt ta Qd W := by
  refine ⟨fun i m H => m = xs.length - i ∧ i ≤ xs.length ∧ Pv i H, ⟨xs.length, by simp, Nat.zero_le _, h0⟩, ?_⟩
  rintro i m H ⟨rfl, hi, p⟩
  by_cases hlt : i < xs.length
  · refine .inr ⟨⟨xs, xs[i], hl i H p, List.getElem?_eq_getElem hlt⟩, Pv (i + 1), fun H' p' => ⟨xs.length - (i + 1), by omega, rfl, hlt, p'⟩, fun x H' y => ?_⟩
    obtain ⟨rfl, y⟩ := y
    exact hs i x _ (y xs (hl i _ p)) p
  · have ei : i = xs.length := by omega
    subst ei
    exact .inl ⟨⟨xs, hl _ H p, Nat.le_refl _⟩, hd H p⟩
theorem wk_lst {a : Addr} {xs : List V} (Pv : Nat → Hp → Prop) (h0 : Pv 0 H1) (hl : ∀ i H, Pv i H → SqL K H a xs)
    (hs : ∀ i x H, xs[i]? = some x → Pv i H → g x (wipe σ vs) H fun σ2 H2 => wipe σ2 vs = wipe σ vs ∧ tt σ2 H2 fun b H3 => if b = true then ta σ2 H3 (Pv (i + 1)) else Pv (i + 1) H3) (hd : ∀ H, Pv xs.length H → Qd H) :
    ∃ W : Nat → Nat → Hp → Prop, (∃ m, W 0 m H1) ∧ tWk (Itl K a) σ vs g tt ta Qd W := by
  refine ⟨fun i m H => m = xs.length - i ∧ i ≤ xs.length ∧ Pv i H, ⟨xs.length, by simp, Nat.zero_le _, h0⟩, ?_⟩
  rintro i m H ⟨rfl, hi, p⟩
  by_cases hlt : i < xs.length
  · refine .inr ⟨⟨xs, xs[i], hl i H p, List.getElem?_eq_getElem hlt⟩, Pv (i + 1), fun H' p' => ⟨xs.length - (i + 1), by omega, rfl, hlt, p'⟩, fun x H' y => ?_⟩
    obtain ⟨rfl, y⟩ := y
    exact hs i x _ (y xs (hl i _ p)) p
  · have ei : i = xs.length := by omega
    subst ei
    exact .inl ⟨⟨xs, hl _ H p, Nat.le_refl _⟩, hd H p⟩
end
/-- the set at D has got the tuples of seen -/
structure SP (K : PySem.W.Frag) (P : Program) (w : World) (Ps : Tbs) (H0 : Hp) (D : Addr) (seen : List (List Int)) (H : Hp) : Prop where
  ext : Ext Ps H0 H
  at_ : ∃ L, H D = some (SetTO P w D L) ∧ (∀ p ∈ L, SqT K H p.1 (p.2.map V.int)) ∧ (L.map (·.2)).Nodup ∧ ∀ z, z ∈ L.map (·.2) ↔ z ∈ seen
section
variable {K : PySem.W.Frag} {P : Program} {w : World} {Ps : Tbs} {H0 H H' : Hp} {D : Addr} {seen : List (List Int)}
theorem SP.start (ht : Tb Ps H0) (hD : H0 D = none) : SP K P w Ps H0 D [] (upd H0 D (SetTO P w D [])) := ⟨Ext.new ht hD, [], upd_same, fun p hp => (nomatch hp), List.nodup_nil, fun z => Iff.rfl⟩
theorem SP.skip (h : SP K P w Ps H0 D seen H) (e : Ext Ps H H') : SP K P w Ps H0 D seen H' := by
  obtain ⟨L, h1, h2, h3, h4⟩ := h.at_
  exact ⟨h.ext.trans e, L, e.old _ _ h1 (fun q z => by cases z), fun p hp => e.sqT (h2 p hp), h3, h4⟩
theorem sqT_set {L L' : List (Addr × List Int)} {t : Addr} {xs : List V} (hD : H D = some (SetTO P w D L)) (h : SqT K H t xs) : SqT K (upd H D (SetTO P w D L')) t xs := by
  rcases h with (h | ⟨o, h⟩) | h
  · exact .inl (.inl (by rw [upd_ne (ne_of h hD (by intro z; cases z))]; exact h))
  · exact .inl (.inr ⟨o, by rw [upd_ne (ne_of h hD (by intro z; cases z))]; exact h⟩)
  · exact .inr h
/-- one more -/
theorem SP.put {U : List (List Int)} {x : Addr} {k : List Int} (hD : H0 D = none) (h : SP K P w Ps H0 D seen H) (hx : SqT K H x (k.map V.int)) (hU : U.length ≤ 60) (hs : ∀ z ∈ seen, z ∈ U) :
    ∃ L, H D = some (SetTO P w D L) ∧ (∀ p ∈ L, SqT K H p.1 (p.2.map V.int)) ∧ L.length + 1 < 64 ∧ ∀ L', Grown L x k L' → SP K P w Ps H0 D (seen ++ [k]) (upd H D (SetTO P w D L')) := by
  obtain ⟨L, h1, h2, h3, h4⟩ := h.at_
  refine ⟨L, h1, h2, ?_, fun L' gr => ?_⟩
  · have z := nd_le h3 (D := U) fun z hz => hs z ((h4 z).mp hz)
    rw [List.length_map] at z
    omega
  · have ex : Ext Ps H0 (upd H D (SetTO P w D L')) := h.ext.write hD h1 (fun q z => by cases z) (fun q => ext_ne_code fun h' oc vs R g e => by
      obtain ⟨⟨es, ep, t, ⟨o, e1, e2, e3⟩, _⟩⟩ := R
      rw [e1] at g
      cases g
      rw [e] at e3
      cases e3)
    by_cases hk : k ∈ L.map (·.2)
    · have e := gr.1 hk
      subst e
      refine ⟨ex, L', upd_same, fun p hp => sqT_set h1 (h2 p hp), h3, fun z => ?_⟩
      rw [List.mem_append, ← h4 z]
      constructor
      · exact .inl
      · rintro (q | q)
        · exact q
        · rw [List.mem_singleton.mp q]
          exact hk
    · have pm := gr.2 hk
      have pm2 := pm.map (·.2)
      refine ⟨ex, L', upd_same, fun p hp => ?_, ?_, fun z => ?_⟩
      · rcases List.mem_cons.mp (pm.mem_iff.mp hp) with e | q
        · rw [e]
          exact sqT_set h1 hx
        · exact sqT_set h1 (h2 p q)
      · rw [pm2.nodup_iff, List.map_cons, List.nodup_cons]
        exact ⟨hk, h3⟩
      · rw [pm2.mem_iff, List.map_cons, List.mem_cons, List.mem_append, List.mem_singleton, h4 z]
        exact Or.comm
end
end Lf

set_option maxHeartbeats 2000000
namespace Lf
open PySem PySem.Spec PyProof.Rows L2 GxR GxA SrT
abbrev sPartsOf : Stmt := topS 23
abbrev sCounts : Stmt := topS 24
abbrev nPartsOf : List Str := ["stack", "many", "face", "part"]
theorem scPartsOf : FnScope nPartsOf ["stack", "many"] (defScope sPartsOf) := ⟨rfl, rfl, rfl, by decide +kernel, rfl, by decide +kernel, by decide +kernel⟩
theorem scCounts : FnScope ["stack", "many"] ["stack"] (defScope sCounts) := ⟨rfl, rfl, rfl, by decide +kernel, rfl, by decide +kernel, by decide +kernel⟩
section
variable {P : Program} {w : World} {K : PySem.W.Frag} {mg : Str → Option Value} {base : Heap} {Ps : Tbs} {H H' H0 : Hp} {k : Nat} {f c : Addr} {fd : FuncData}
/-- what the set has got from the first faces -/
def gotP (fss : List (List Int)) (m : Nat) : List (List Int) := fss.flatMap fun f => (sortL (subsL f)).filter fun p => decide (p.length = m)
theorem mem_gotP {fss : List (List Int)} {m : Nat} {z : List Int} : z ∈ gotP fss m ↔ z.length = m ∧ ∃ f ∈ fss, z.Sublist f := by
  unfold gotP
  rw [List.mem_flatMap]
  constructor
  · rintro ⟨f, hf, h⟩
    obtain ⟨h1, h2⟩ := List.mem_filter.mp h
    exact ⟨of_decide_eq_true h2, f, hf, mem_subs.mp ((sortL_perm _).mem_iff.mp h1)⟩
  · rintro ⟨h1, f, hf, h2⟩
    exact ⟨f, hf, List.mem_filter.mpr ⟨(sortL_perm _).mem_iff.mpr (mem_subs.mpr h2), decide_eq_true h1⟩⟩
theorem gotP_take {fss : List (List Int)} {m i : Nat} {f : List Int} (h : fss[i]? = some f) : gotP (fss.take (i + 1)) m = gotP (fss.take i) m ++ (sortL (subsL f)).filter fun p => decide (p.length = m) := by
  unfold gotP
  rw [List.take_add_one, h, List.flatMap_append]
  simp
def spPartsOf (K : PySem.W.Frag) (Ps : Tbs) : Sp := fun vs H Q _ => ∃ (x : V) (n kk m : Int) (fss : List (List Int)), vs = [x, .int m] ∧ Stk K H x n kk fss ∧ StkOk n kk fss ∧ fss.length ≤ 60 ∧ 0 ≤ m ∧ m ≤ kk ∧ Tb Ps H ∧
  ∀ (l : Addr) (ys : List V) (H' : Hp), Ext Ps H H' → H l = none → H' l = some (.lst ys) → Paired (TupI K H') ys (partsN n.toNat fss m.toNat) → Q (.ref l) H'
theorem ok_partsOf {fS cS fW cW fP cP : Addr} {fdS fdW fdP : FuncData} (D : Def K mg "parts_of" sPartsOf ["stack", "many"] f fd c) (DS : Def K mg "need_stack" sNeedStack ["stack"] fS fdS cS) (GS : FnOk P w K mg base CX0 k fS fdS ["stack"] (spNeedStack K Ps))
    (DW : Def K mg "need_within" sNeedWithin ["number", "least", "most"] fW fdW cW) (GW : FnOk P w K mg base CX0 k fW fdW ["number", "least", "most"] spNeedWithin) (DP : Def K mg "parts_in" sParts ["face"] fP fdP cP) (GP : FnOk P w K mg base CX0 k fP fdP ["face"] (spPartsH K Ps))
    (ms : mg "sorted" = none) (ml : mg "len" = none) : FnOk P w K mg base CX0 (k + 1) f fd ["stack", "many"] (spPartsOf K Ps) := by
  refine D.ok (k := k) scPartsOf (fun vs H Q E h => ?_) (fun A outer s H vs Q E hr h => ?_)
  · obtain ⟨x, n, kk, m, fss, rfl, _⟩ := h
    rfl
  · obtain ⟨x, n, kk, m, fss, rfl, hS, S, h60, m0, mk, ht, q⟩ := h
    have hu := hr.units
    refine ⟨_, pss_cons (ps_expr (pcl DS GS hr (pa_cons (pv 0) pa_nil))) (pss_cons (ps_expr (pcl DW GW hr (pa_cons (pv 1) (pa_cons pe_int (pa_cons (pe_ix ix_tup (pv 0) pe_int (fun _ _ => rfl)) pa_nil)))))
      (pss_one (ps_ret (pe_callB (cr_sortS rfl hr.units) (by rfl) ms (by decide +kernel) (pa_cons (show PE _ _ (tSc2 K P w _ _ _ _ _ _ _ [2, 3] [3]) from pe_sc2 (own := [("face", 2), ("part", 3)]) (vs1 := [3]) (g := gName 2) (g1 := gName 3) (Nat.lt_of_le_of_lt (Nat.add_le_add_left (by decide) _) hu) (by rfl) scPartsOf.nd (pi_tup (pe_ix ix_tup (pv 0) pe_int (fun _ _ => rfl))) (blkOk_by (N := nPartsOf) (sc := defScope sPartsOf) (by decide +kernel)) (fun i hi => by simp at hi; subst hi; simp)
        (fun _ _ _ _ _ => pg_name (i := 2) scPartsOf.nd rfl (Or.inl rfl)) (fun _ _ _ _ _ => pts_nil) (fun _ _ _ _ _ => (show PI _ _ _ (iList K _) from pi_list (pcl DP GP hr (pa_cons (pv 2) pa_nil)))) (fun _ _ _ _ _ => pg_name (i := 3) scPartsOf.nd rfl (Or.inl rfl))
        (fun _ _ _ _ _ => pts_one (pt_cmpR op_eq (pe_callB (call_lenS (K := K) rfl) (by rfl) ml PySem.boot_len (pa_cons (pv 3) pa_nil)) (pv 1) (by with_unfolding_all rfl))) (fun _ _ _ _ _ => pv 3)) pa_nil))))), ?_⟩
    refine ⟨x, rfl, x, n, kk, fss, rfl, hS, S, ht, fun H1 e1 => ?_⟩
    obtain ⟨a, fa, xs, rfl, h1, h2, h3⟩ := e1.stk hS
    refine ⟨.int m, rfl, .ref a, rfl, a, _, 1, .int kk, rfl, rfl, h1, atI_nat (j := 1) rfl, m, 0, kk, rfl, m0, mk, ?_⟩
    have F := S.faces
    have hn8 := S.n8
    have hk4 := S.k4
    have hk0 := S.k0
    have hfew := partsN_few (m := m.toNat) F (by omega) (by omega) (by omega) h60
    have sub : ∀ (i : Nat) z, z ∈ gotP (fss.take i) m.toNat → z ∈ partsN n.toNat fss m.toNat := fun i z hz => by
      obtain ⟨g1, f1, g2, g3⟩ := mem_gotP.mp hz
      exact (mem_partsN' F).mpr ⟨g1, f1, List.mem_of_mem_take g2, g3⟩
    refine ⟨.ref a, rfl, a, _, 2, .ref fa, rfl, rfl, h1, at2, fa, rfl, ⟨_, h2⟩, fun D0 hD => wk_tup (K := K) (a := fa) (xs := xs) (fun i H3 => SP K P w Ps H1 D0 (gotP (fss.take i) m.toNat) H3) (SP.start e1.tb hD) (fun i H3 p => p.ext.sqT h2) (fun i x H3 hx p => ?_) (fun H3 p => ?_)⟩
    · obtain ⟨fc, hfc, hI⟩ := paired_get h3 hx
      have hfm := List.mem_of_getElem? hfc
      refine ⟨rfl, yes_ (iteT ?_)⟩
      refine ⟨x, rfl, x, fc, rfl, p.ext.tupI hI, S.len4 fc hfm, p.ext.tb, fun l ys H4 e4 nl hl hp => ⟨l, rfl, ⟨_, .inl (.inl hl)⟩, ?_⟩⟩
      have hD4 : H4 D0 ≠ none := by
        obtain ⟨L, q1, _⟩ := p.at_
        rw [e4.old _ _ q1 (fun q z => by cases z)]
        simp
      refine wk_lst (K := K) (a := l) (xs := ys) (fun j H5 => SP K P w Ps H1 D0 (gotP (fss.take i) m.toNat ++ ((sortL (subsL fc)).take j).filter fun p => decide (p.length = m.toNat)) H5 ∧ H5 l = some (.lst ys) ∧ Paired (TupI K H5) ys (sortL (subsL fc))) ?_ (fun j H5 p => .inl (.inl p.2.1)) (fun j y H5 hy p => ?_) (fun H5 p => ?_)
      · refine ⟨?_, hl, L2.Paired.mapP hp fun _ _ z => z.tup⟩
        rw [List.take_zero, List.filter_nil, List.append_nil]
        exact p.skip e4
      · obtain ⟨p5, hl5, hp5⟩ := p
        obtain ⟨g, hg, t, rfl, hT⟩ := paired_get hp5 hy
        have hft := filt_take (fun p : List Int => decide (p.length = m.toNat)) hg
        refine ⟨rfl, .ref t, rfl, t, _, rfl, .inr hT, .int m, rfl, rfl, _, rfl, ?_⟩
        rw [List.length_map]
        have ed : decide (V.int (g.length : Int) = V.int m) = decide (g.length = m.toNat) := by
          by_cases e : g.length = m.toNat
          · rw [decide_eq_true e, decide_eq_true]
            exact congrArg V.int (by omega)
          · rw [decide_eq_false e, decide_eq_false]
            intro z
            injection z with z
            omega
        first | rw [ed] | (rw [show decide ((g.length : Int) = m) = decide (g.length = m.toNat) from by
          by_cases e : g.length = m.toNat
          · rw [decide_eq_true e, decide_eq_true]
            omega
          · rw [decide_eq_false e, decide_eq_false]
            omega])
        refine ite2 (fun hc => ?_) (fun hc => ?_)
        · rw [if_pos hc] at hft
          have hmem : ∀ z ∈ gotP (fss.take i) m.toNat ++ ((sortL (subsL fc)).take j).filter (fun p => decide (p.length = m.toNat)), z ∈ partsN n.toNat fss m.toNat := fun z hz => by
            rcases List.mem_append.mp hz with q1 | q1
            · exact sub i z q1
            · obtain ⟨q2, q3⟩ := List.mem_filter.mp q1
              exact (mem_partsN' F).mpr ⟨of_decide_eq_true q3, fc, hfm, mem_subs.mp ((sortL_perm _).mem_iff.mp (List.mem_of_mem_take q2))⟩
          obtain ⟨L, r1, r2, r3, r4⟩ := SP.put hD p5 hT hfew hmem
          refine ⟨.ref t, rfl, t, g, L, rfl, hT, r1, r2, r3, fun L' gr => ?_⟩
          have z := r4 L' gr
          rw [List.append_assoc, ← hft] at z
          refine ⟨z, ?_, L2.Paired.mapP hp5 fun _ _ y => let ⟨b, e, hb⟩ := y; ⟨b, e, sqT_set r1 hb⟩⟩
          rw [upd_ne (ne_of hl5 r1 (by intro z; cases z))]
          exact hl5
        · rw [if_neg hc, List.append_nil] at hft
          refine ⟨?_, hl5, hp5⟩
          rw [hft]
          exact p5
      · have z := p.1
        rw [Paired.length hp, List.take_length] at z
        show SP K P w Ps H1 D0 (gotP (fss.take (i + 1)) m.toNat) H5
        rw [gotP_take hfc]
        exact z
    · rw [Paired.length h3, List.take_length] at p
      obtain ⟨L, r1, r2, r3, r4⟩ := p.at_
      refine ⟨D0, L, rfl, r1, r2, fun ys gss p' hp pw mem l64 np => ?_⟩
      have x4 := Ext.new (o := .lst ys) p.ext.tb np
      have eq : gss = partsN n.toNat fss m.toNat := strict_eq pw (partsN_pw _ _ _) (partsN_nd _ _ _) fun z => by rw [mem z, r4 z, mem_gotP, mem_partsN' F]
      subst eq
      exact q p' ys _ (e1.trans (p.ext.trans x4)) ((e1.trans p.ext).free np) upd_same (x4.tups hp)
end
end Lf

set_option maxHeartbeats 1000000
/-! for i, x in enumerate(t), t a tuple. -/
namespace EnT
open PySem PySem.Spec PyProof.Rows L2
theorem new_enum {v : Value} {o : Obj} {Hh : Heap → Prop} (B : Begins v o Hh) :
    Meets (Builtin.«enumerate.__new__» ⟨[.type "enumerate", v], []⟩) (fun _ R s => Hh s.heap ∧
      R (.ok (.ret (.ref (s.heap.push o).objs.size))) { s with heap := (s.heap.push o).push { cls := .type "enumerate", data := .fields #[.none, .bool false, .ref s.heap.objs.size, rawInt 0, .none, .none] } }) :=
  .of_wp fun prog w A R s h => by
    obtain ⟨hp, g, d, tk, os⟩ := s
    obtain ⟨h1, h⟩ := h
    have hs := sub_enumerate
    have it1 : ∀ {A' : Around} {E : Value → Shared → Prop} {Q : Value → Shared → Prop}, Q (.ref hp.objs.size) ⟨hp.push o, g, d, tk, os⟩ → wpAny (model prog w) A' (pyIter v) Q E ⟨hp, g, d, tk, os⟩ :=
      fun q => B.iter prog w _ _ ⟨hp, g, d, tk, os⟩ _ h1 q
    wp_walk using it1
    refine wpAny_stack_any fun st => wpAny_pure ?_
    split
    · rename_i cc _ _ _ _ _
      cases (cc == Value.type "enumerate")
      · wp_walk using it1
        exact ⟨_, rfl, h⟩
      · wp_walk using it1
        exact ⟨_, rfl, h⟩
    · wp_walk using it1
      exact ⟨_, rfl, h⟩
section
variable {prog : Program} {w : World} {A : Around} {E : Value → Shared → Prop} {s : Shared}
theorem call_enumT {t : Addr} {items : Array Value} {Q : Value → Shared → Prop} (ht : s.heap.IsTuple t items)
    (h : ∀ h', IsEnum h' (s.heap.objs.size + 1) s.heap.objs.size 0 .none → h'.IsTupleIter s.heap.objs.size t 0 → (∀ b o, s.heap.get? b = some o → h'.get? b = some o) → Q (.ref (s.heap.objs.size + 1)) { s with heap := h' }) :
    wpAny (model prog w) A (call (.type "enumerate") [.ref t]) Q E s := by
  refine callType_new F.called_enumerate (by decide) (F.typeCall_enumerate_1 _) (F.newCall_enumerate_1 _) (fun obj => F.args_object_init_2 obj _) F.entry_enumerate_new (new_enum (begins_tuple t items)) ⟨ht, ?_⟩
  have z1 : (s.heap.push { cls := .type "tuple_iterator", data := .fields #[.ref t, .int 0 0] }).objs.size = s.heap.objs.size + 1 := Heap.size_push ..
  show _ ∧ _
  rw [z1]
  have he : IsEnum ((s.heap.push { cls := .type "tuple_iterator", data := .fields #[.ref t, .int 0 0] }).push { cls := .type "enumerate", data := .fields #[.none, .bool false, .ref s.heap.objs.size, rawInt 0, .none, .none] }) (s.heap.objs.size + 1) s.heap.objs.size 0 .none := by
    have q := Heap.get?_push_size (s.heap.push { cls := .type "tuple_iterator", data := .fields #[.ref t, .int 0 0] }) (o := { cls := .type "enumerate", data := .fields #[.none, .bool false, .ref s.heap.objs.size, rawInt 0, .none, .none] }) rfl
    rw [z1] at q
    exact q
  exact ⟨⟨_, he, rfl⟩, h _ he ⟨_, Heap.get?_push_of_some _ (Heap.get?_push_size _ rfl), rfl, rfl⟩ fun b o x => Heap.get?_push_of_some _ (Heap.get?_push_of_some _ x)⟩
end
/-- the tuple at a: the index and the item in a new pair -/
def ItT (K : PySem.W.Frag) (a : Addr) : It :=
  ⟨fun i H => ∃ (xs : List V) (x : V), SqT K H a xs ∧ xs[i]? = some x, fun i H v H' => ∃ T x, v = .ref T ∧ H T = none ∧ H' = upd H T (.tup [.int (i : Nat), x]) ∧ ∀ xs, SqT K H a xs → xs[i]? = some x, fun i H => ∃ xs : List V, SqT K H a xs ∧ xs.length = i⟩
theorem turn_enumT {P : Program} {w : World} {K : PySem.W.Frag} {elts : List Expr} {kk : Nat} {tpos : Pos} (a e it : Addr) (hae : a ≠ e) (hai : a ≠ it) :
    Turn P w K (.Tuple elts kk tpos) (ItT K a) [e, it] e (fun i h => (∃ old, IsEnum h e it ((i : Nat) : Int) old) ∧ h.IsTupleIter it a i ∧ e ≠ it) where
  mem := by simp
  obj := fun i h st b hb => by
    obtain ⟨⟨old, he⟩, ⟨o, ho, hc, hd⟩, _⟩ := st
    have e' : b = e ∨ b = it := by simpa using hb
    rcases e' with z | z
    · rw [z]
      exact ⟨_, he, fun v q => nomatch q⟩
    · rw [z]
      exact ⟨o, ho, fun v q => by rw [hd] at q; cases q⟩
  keep := fun i h h' st k => let ⟨⟨old, he⟩, hi, hne⟩ := st; ⟨⟨old, k e (by simp) _ he⟩, hi.at fun o q => k it (by simp) o q, hne⟩
  item := by
    intro X hP hw hK hc i pins s σ H E I hf st hg
    subst hP hw hK
    obtain ⟨⟨old, he⟩, hit, hne⟩ := st
    obtain ⟨xs, x, hq, hx⟩ := hg
    obtain ⟨its, rv, p, hz⟩ := I.tuple hq
    obtain ⟨u, hu, ru⟩ := rv.get hx
    have hel : e < s.heap.objs.size := Heap.lt_size he
    have hil : it < s.heap.objs.size := by
      obtain ⟨_, q, _⟩ := hit
      exact Heap.lt_size q
    have hT0 : s.heap.IsTuple a its.toArray := p
    have hlen : i < its.toArray.size := by
      have := (List.getElem?_eq_some_iff.mp hu).1
      simpa using this
    have DD := Draws.tuple (prog := X.prog) (w := X.w) (A := X.A.in1) (I.ok.hd hc) it a hai its.toArray
    refine wpAny_pyNext_enum_itemD DD he ⟨hit, hT0⟩ hlen hne (by simp [hne, Ne.symm hae]) fun x' h' tk hPx ho hit' hT hsz hk => ?_
    have ex : x' = u := by
      have h1 : its.toArray[i]? = some x' := hPx
      have h2 : its.toArray[i]? = some u := by simpa using hu
      rw [h1] at h2
      exact Option.some.inj h2
    subst ex
    refine ⟨_, rfl, wpAny_letOwnedTupleGo_enum (s := { s with heap := h', toks := tk + 1 }) ho fun h'' he' sb => ?_⟩
    have hT2 : h''.get? s.heap.objs.size = some { cls := .type "tuple", data := .seq #[.int i tk, x'] } := (sb.2 _ (Nat.ne_of_gt hel)).trans hT
    have new : ObjOk X.prog X.w (upd H s.heap.objs.size (.tup [.int (i : Nat), x])) h'' s.heap.objs.size (.tup [.int (i : Nat), x]) :=
      ⟨by show 2 ≤ sizeLine; decide, [.int i tk, x'], .cons ⟨_, rfl⟩ (.cons ru .nil), ⟨_, hT2, rfl, _, rfl⟩⟩
    have I1 : Inv X pins σ (upd H s.heap.objs.size (.tup [.int (i : Nat), x])) { s with heap := h'', toks := tk + 1 } :=
      I.turnedNew (ch := [e, it]) (fun b ob hb q => (sb.2 b (fun z => hb (by simp [z]))).trans (hk b ob (fun z => hb (by simp [z])) (fun z => hb (by simp [z])) q)) hf (Nat.le_refl _) new
    refine ⟨.ref s.heap.objs.size, _, I1, rfl, ⟨_, x, rfl, I.hok.fresh (Nat.le_refl _), rfl, fun ys hy => by rw [I.tuple_inj hy hq]; exact hx⟩, ⟨⟨x', ?_⟩, hit'.1.at fun o q => (sb.2 it (Ne.symm hne)).trans q, hne⟩, fun b hb => ?_⟩
    · have e1 : ((i + 1 : Nat) : Int) = (i : Int) + 1 := by omega
      rw [e1]
      exact he'
    · have hb' : b < s.heap.objs.size := by
        have e' : b = e ∨ b = it := by simpa using hb
        rcases e' with z | z
        · rw [z]
          exact hel
        · rw [z]
          exact hil
      rw [upd_ne (Nat.ne_of_lt hb')]
      exact (hf b hb).1
  done := by
    intro X hP hw hK hc i pins s σ H E I hf st hg
    subst hP hw hK
    obtain ⟨⟨old, he⟩, hit, hne⟩ := st
    obtain ⟨xs, hq, hx⟩ := hg
    obtain ⟨its, rv, p, hz⟩ := I.tuple hq
    obtain ⟨f0, f1, f2, f3, f4, f5⟩ := hf it (by simp)
    have hl := rv.length
    have hT0 : s.heap.IsTuple a its.toArray := p
    have DD := Draws.tuple (prog := X.prog) (w := X.w) (A := X.A.in1) (I.ok.hd hc) it a hai its.toArray
    have en : its.toArray.size = i := by
      rw [List.size_toArray]
      omega
    refine wpAny_pyNext_enum_endD DD he ⟨by rw [en]; exact hit, hT0⟩ fun h' eb => ⟨rfl, I.turned (t' := s.toks) (fun b o hb q => eb b o hb q) f0 f1 f3 f4 f5⟩
  self := fun A i s Q E st h => let ⟨⟨_, he⟩, _⟩ := st; wpAny_pyIter_enum he h
def iEnT (K : PySem.W.Frag) (ta : TA) : TI := fun σ H R => ta σ H fun vs H1 => ∃ a xs, vs = [.ref a] ∧ SqT K H1 a xs ∧ R (ItT K a) H1
theorem pi_enumT {X : Cx} {e : Expr} {ta : TA} {p pos tpos : Pos} {elts : List Expr} {kk : Nat} (hg : Gl X "enumerate") (hm : X.mg "enumerate" = none) (ha : PA X [e] ta) (hs : starEach [e] X.env = [(false, eval e X.env)] := by rfl) :
    PI X (.Tuple elts kk tpos) (.Call (.Name "enumerate" p) [e] [] pos) (iEnT X.K ta) := by
  refine ⟨fun pins s σ H R I h => ?_⟩
  refine Call_ (ld_blt I hg hm boot_enumerate (PyProof.Rows.callWith_type1 (thn (ha.run pos pins s σ H _ I h) fun us s1 ⟨vs, H1, I1, r1, q1⟩ => ?_) hs rfl))
  obtain ⟨a, xs, ex, hq, q⟩ := q1
  subst ex
  cases r1 with
  | cons r rr =>
    cases rr
    cases r
    obtain ⟨its, rv, p', hz⟩ := I1.tuple hq
    have hT0 : s1.heap.IsTuple a its.toArray := p'
    have hal : a < s1.heap.objs.size := by
      obtain ⟨o, ho, _⟩ := hT0
      exact Heap.lt_size ho
    refine call_enumT hT0 fun h' he hit hk => wpAny_pyIter_enum he ?_
    have I2 : Inv X pins σ H1 { s1 with heap := h' } := I1.kept (t' := s1.toks) hk
    refine ⟨s1.heap.objs.size + 1, [s1.heap.objs.size + 1, s1.heap.objs.size], _, _, H1, rfl, I2, turn_enumT a (s1.heap.objs.size + 1) s1.heap.objs.size (Nat.ne_of_lt (Nat.lt_succ_of_lt hal)) (Nat.ne_of_lt hal), ⟨⟨.none, he⟩, hit, Nat.succ_ne_self _⟩, fun b hb => ?_, q⟩
    have e' : b = s1.heap.objs.size + 1 ∨ b = s1.heap.objs.size := by simpa using hb
    have hle : s1.heap.objs.size ≤ b := by
      rcases e' with z | z
      · rw [z]
        exact Nat.le_add_right _ _
      · rw [z]
        exact Nat.le_refl _
    exact I1.fpOk hle (I1.hok.fresh hle)
end EnT

set_option maxHeartbeats 2000000
namespace Lf
open PySem PySem.Spec PyProof.Rows L2 GxR GxA SrT EnT
abbrev sIsRow : Stmt := topS 43
abbrev sWrong : Stmt := topS 44
abbrev sIsOrder : Stmt := topS 45
abbrev sEach : Stmt := topS 11
theorem scEach : FnScope ["thing", "many"] ["thing", "many"] (defScope sEach) := ⟨rfl, rfl, rfl, by decide +kernel, rfl, by decide +kernel, by decide +kernel⟩
theorem scIsRow : FnScope ["stack", "thing"] ["stack", "thing"] (defScope sIsRow) := ⟨rfl, rfl, rfl, by decide +kernel, rfl, by decide +kernel, by decide +kernel⟩
theorem scWrong : FnScope ["stack", "row", "laid", "place", "face"] ["stack", "row"] (defScope sWrong) := ⟨rfl, rfl, rfl, by decide +kernel, rfl, by decide +kernel, by decide +kernel⟩
theorem scIsOrder : FnScope ["stack", "thing"] ["stack", "thing"] (defScope sIsOrder) := ⟨rfl, rfl, rfl, by decide +kernel, rfl, by decide +kernel, by decide +kernel⟩
/-- for i, x in enumerate(a list that stands still) -/
theorem for_enL {K : PySem.W.Frag} {a : Addr} {xs : List V} {g : TG} {tb : TS} {D : Ends} {σ : L2.St} {H : Hp} (Pv : Nat → L2.St → Hp → Prop) (h0 : Pv 0 σ H) (hl : ∀ i σ H, Pv i σ H → SqL K H a xs)
    (hs : ∀ i x σ H T, xs[i]? = some x → Pv i σ H → H T = none → g (.ref T) σ (upd H T (.tup [.int (i : Nat), x])) fun σ2 H2 => tb { D with nx := Pv (i + 1), ct := Pv (i + 1), bk := D.nx } σ2 H2) (hd : ∀ σ H, Pv xs.length σ H → D.nx σ H) :
    ∃ W : Nat → Nat → L2.St → Hp → Prop, (∃ m, W 0 m σ H) ∧ ∀ i m σ H, W i m σ H →
      ((Ite K a).stop i H ∧ D.nx σ H) ∨ ((Ite K a).go i H ∧ ∃ N : L2.St → Hp → Prop, (∀ σ' H', N σ' H' → ∃ m', m' < m ∧ W (i + 1) m' σ' H') ∧ ∀ x H', (Ite K a).yld i H x H' → g x σ H' fun σ2 H2 => tb { D with nx := N, ct := N, bk := D.nx } σ2 H2) := by
  refine ⟨fun i m σ H => m = xs.length - i ∧ i ≤ xs.length ∧ Pv i σ H, ⟨xs.length, by simp, Nat.zero_le _, h0⟩, ?_⟩
  rintro i m σ H ⟨rfl, hi, p⟩
  have q := hl i σ H p
  by_cases hlt : i < xs.length
  · refine .inr ⟨⟨xs, xs[i], q, List.getElem?_eq_getElem hlt⟩, Pv (i + 1), fun σ' H' p' => ⟨xs.length - (i + 1), by omega, rfl, hlt, p'⟩, fun x H' y => ?_⟩
    obtain ⟨T, z, rfl, hT, rfl, hz⟩ := y
    exact hs i z σ H T (hz xs q) p hT
  · have e : i = xs.length := by omega
    subst e
    exact .inl ⟨⟨xs, q, Nat.le_refl _⟩, hd σ H p⟩
/-- [.. for i, x in enumerate(a list that stands still)] -/
theorem lc_enL {K : PySem.W.Frag} {a : Addr} {xs : List V} {g : TG} {tt : TT} {te : TE} {vs : List Nat} {σ : L2.St} {H1 : Hp} {D : Addr} {Qd : Hp → Prop} (Pv : Nat → Hp → Prop) (h0 : Pv 0 (upd H1 D (.lst []))) (hl : ∀ i H, Pv i H → SqL K H a xs)
    (hs : ∀ i x H T, xs[i]? = some x → Pv i H → H T = none → g (.ref T) (wipe σ vs) (upd H T (.tup [.int (i : Nat), x])) fun σ2 H2 => wipe σ2 vs = wipe σ vs ∧ tt σ2 H2 fun b H3 =>
      if b = true then te σ2 H3 fun y H4 => ∃ acc, H4 D = some (.lst acc) ∧ acc.length < sizeLine ∧ Pv (i + 1) (upd H4 D (.lst (acc ++ [y]))) else Pv (i + 1) H3) (hd : ∀ H, Pv xs.length H → Qd H) :
    ∃ W : Nat → Nat → Hp → Prop, (∃ m, W 0 m (upd H1 D (.lst []))) ∧ ∀ i m H, W i m H →
      ((Ite K a).stop i H ∧ Qd H) ∨ ((Ite K a).go i H ∧ ∃ Nx : Hp → Prop, (∀ H', Nx H' → ∃ m', m' < m ∧ W (i + 1) m' H') ∧ ∀ x H', (Ite K a).yld i H x H' → g x (wipe σ vs) H' fun σ2 H2 => wipe σ2 vs = wipe σ vs ∧ tt σ2 H2 fun b H3 =>
        if b = true then te σ2 H3 fun y H4 => ∃ acc, H4 D = some (.lst acc) ∧ acc.length < sizeLine ∧ Nx (upd H4 D (.lst (acc ++ [y]))) else Nx H3) := by
  refine ⟨fun i m H => m = xs.length - i ∧ i ≤ xs.length ∧ Pv i H, ⟨xs.length, by simp, Nat.zero_le _, h0⟩, ?_⟩
  rintro i m H ⟨rfl, hi, p⟩
  have q := hl i H p
  by_cases hlt : i < xs.length
  · refine .inr ⟨⟨xs, xs[i], q, List.getElem?_eq_getElem hlt⟩, Pv (i + 1), fun H' p' => ⟨xs.length - (i + 1), by omega, rfl, hlt, p'⟩, fun x H' y => ?_⟩
    obtain ⟨T, z, rfl, hT, rfl, hz⟩ := y
    exact hs i z H T (hz xs q) p hT
  · have e : i = xs.length := by omega
    subst e
    exact .inl ⟨⟨xs, q, Nat.le_refl _⟩, hd H p⟩
section
variable {P : Program} {w : World} {K : PySem.W.Frag} {mg : Str → Option Value} {base : Heap} {Ps : Tbs} {H H' H0 : Hp} {k : Nat} {f c : Addr} {fd : FuncData}
/-! ### counts -/
def countsN (n kk : Nat) (fss : List (List Int)) : List Int := (List.range (kk + 1)).map fun m => ((partsN n fss m).length : Int)
def spCounts (K : PySem.W.Frag) (Ps : Tbs) : Sp := fun vs H Q _ => ∃ (x : V) (n kk : Int) (fss : List (List Int)), vs = [x] ∧ Stk K H x n kk fss ∧ StkOk n kk fss ∧ fss.length ≤ 60 ∧ Tb Ps H ∧
  ∀ v H', Ext Ps H H' → TupI K H' v (countsN n.toNat kk.toNat fss) → Q v H'
theorem ok_counts {fS cS fP cP : Addr} {fdS fdP : FuncData} (D : Def K mg "counts" sCounts ["stack"] f fd c) (DS : Def K mg "need_stack" sNeedStack ["stack"] fS fdS cS) (GS : FnOk P w K mg base CX0 k fS fdS ["stack"] (spNeedStack K Ps))
    (DP : Def K mg "parts_of" sPartsOf ["stack", "many"] fP fdP cP) (GP : FnOk P w K mg base CX0 k fP fdP ["stack", "many"] (spPartsOf K Ps)) (mr : mg "range" = none) (ml : mg "len" = none) (mt : mg "tuple" = none) : FnOk P w K mg base CX0 (k + 1) f fd ["stack"] (spCounts K Ps) := by
  refine D.ok (k := k) scCounts (fun vs H Q E h => ?_) (fun A outer s H vs Q E hr h => ?_)
  · obtain ⟨x, n, kk, fss, rfl, _⟩ := h
    rfl
  · obtain ⟨x, n, kk, fss, rfl, hS, S, h60, ht, q⟩ := h
    have hk4 := S.k4
    have hk0 := S.k0
    refine ⟨_, pss_cons (ps_expr (pcl DS GS hr (pa_cons (pv 0) pa_nil))) (pss_one (ps_ret (pe_callTy call_tuple_of (by rfl) mt (by decide +kernel) (pa_cons (pe_lc (own := [("many", 1)]) (g := gName 1) (by rfl) scCounts.nd (pi_range1 (by rfl) mr (pa_cons (pe_op op_add (pe_ix ix_tup (pv 0) pe_int (fun _ _ => rfl)) pe_int) pa_nil)) (blkOk_by (N := ["stack", "many"]) (sc := defScope sCounts) (by decide +kernel))
      (fun _ _ _ _ _ => pg_name (i := 1) scCounts.nd rfl (Or.inl rfl)) (fun _ _ _ _ _ => pts_nil) (fun _ _ _ _ _ => pe_callB (call_lenS (K := K) rfl) (by rfl) ml PySem.boot_len (pa_cons (pcl DP GP hr (pa_cons (pv 0) (pa_cons (pv 1) pa_nil))) pa_nil))) pa_nil)))), ?_⟩
    refine ⟨x, rfl, x, n, kk, fss, rfl, hS, S, ht, fun H1 e1 => ?_⟩
    have hS1 := e1.stk hS
    obtain ⟨a, fa, xs, rfl, h1, h2, h3⟩ := id hS1
    refine ⟨.ref a, rfl, a, _, 1, .int kk, rfl, rfl, h1, atI_nat (j := 1) rfl, kk, 1, rfl, rfl, kk + 1, rfl, by omega, by omega, fun D0 hD => lc_range (lo := 0) (n := (kk + 1).toNat) (fun i H3 => CP Ps FI H1 D0 ((List.range i).map fun m => ((partsN n.toNat fss m).length : Int)) i H3) (CP.start e1.tb hD) (fun i H3 hi p => ?_) (fun H3 p => ?_)⟩
    · refine ⟨rfl, yes_ (iteT ?_)⟩
      refine ⟨.ref a, rfl, .int (0 + i), rfl, .ref a, n, kk, 0 + i, fss, rfl, p.ext.stk hS1, S, h60, by omega, by omega, p.ext.tb, fun l ys H4 e4 nl hl hp => ⟨l, ys, rfl, .inl (.inl (.inl hl)), ?_⟩⟩
      have p4 := p.skip (stbI (K := K)) e4
      have r := CP.put (stbI (K := K)) hD (by omega) p4 (show FI H4 (.int (ys.length : Int)) (ys.length : Int) from rfl)
      rw [List.range_succ, List.map_append]
      have ei : (0 + (i : Int)).toNat = i := by omega
      rw [Paired.length hp, ei] at r
      rw [Paired.length hp, ei]
      exact r
    · obtain ⟨ys, g1, g2, g3⟩ := p.at_
      have en : (kk + 1).toNat = kk.toNat + 1 := by omega
      rw [en] at g2
      refine ⟨D0, ys, rfl, .inl ⟨.inl (.inl g1), fun l hl => q (.ref l) _ (e1.trans (p.ext.trans (Ext.new p.ext.tb hl))) ⟨l, rfl, ?_⟩⟩⟩
      unfold countsN
      rw [← paired_ints g2]
      exact .inl (.inl upd_same)
/-! ### is_row -/
/-- a stack, and a tuple of numbers of its faces -/
structure AskR (K : PySem.W.Frag) (Ps : Tbs) (H : Hp) (x y : V) (n k : Int) (fss : List (List Int)) (ns : List Int) : Prop where
  stk : Stk K H x n k fss
  ok : StkOk n k fss
  row : TupI K H y ns
  bel : ∀ i ∈ ns, 0 ≤ i ∧ i < (fss.length : Int)
  len : ns.length ≤ 100
  tb : Tb Ps H
theorem AskR.ext {x y : V} {n k : Int} {fss : List (List Int)} {ns : List Int} (h : AskR K Ps H x y n k fss ns) (e : Ext Ps H H') : AskR K Ps H' x y n k fss ns := ⟨e.stk h.stk, h.ok, e.tupI h.row, h.bel, h.len, e.tb⟩
def spIsRow (K : PySem.W.Frag) (Ps : Tbs) : Sp := fun vs H Q _ => ∃ (x y : V) (n kk : Int) (fss : List (List Int)) (ns : List Int), vs = [x, y] ∧ AskR K Ps H x y n kk fss ns ∧ ∀ b H', (b = true ↔ ns.Perm (rng fss.length)) → Ext Ps H H' → Q (.bl b) H'
theorem le_perm_eq {us vs : List Int} (p : us.Perm vs) (h1 : us.Pairwise (· ≤ ·)) (h2 : vs.Pairwise (· ≤ ·)) : us = vs := List.Perm.eq_of_pairwise (fun a b _ _ h1 h2 => by omega) h1 h2 p
theorem rng_le (m : Nat) : (rng m).Pairwise (· ≤ ·) := by
  unfold rng
  rw [List.pairwise_map]
  exact List.Pairwise.imp (fun {a b} h => by omega) List.pairwise_lt_range
def spEach (K : PySem.W.Frag) (Ps : Tbs) : Sp := fun vs H Q _ => ∃ (y : V) (m : Nat) (ns : List Int), vs = [y, .int m] ∧ TupI K H y ns ∧ (∀ i ∈ ns, 0 ≤ i ∧ i < (m : Int)) ∧ m ≤ 1000 ∧ Tb Ps H ∧ ∀ b H', (b = true ↔ ns.Perm (rng m)) → Ext Ps H H' → Q (.bl b) H'
theorem ok_each {fB cB : Addr} {fdB : FuncData} (D : Def K mg "is_each_once" sEach ["thing", "many"] f fd c) (DB : Def K mg "all_below" sBelow ["thing", "many"] fB fdB cB) (GB : FnOk P w K mg base CX0 k fB fdB ["thing", "many"] (spBelow K Ps))
    (ms : mg "sorted" = none) (mL : mg "list" = none) (mr : mg "range" = none) : FnOk P w K mg base CX0 (k + 1) f fd ["thing", "many"] (spEach K Ps) := by
  refine D.ok (k := k) scEach (fun vs H Q E h => ?_) (fun A outer s H vs Q E hr h => ?_)
  · obtain ⟨y, m, ns, rfl, _⟩ := h
    rfl
  · obtain ⟨_, m, ns, rfl, ⟨t, rfl, hT⟩, hb, hm, ht, q⟩ := h
    refine ⟨_, pss_one (ps_ret (pe_and (pcl DB GB hr (pa_cons (pv 0) (pa_cons (pv 1) pa_nil))) (pe_one (pe_cmpR (op_eqD hr.units) (pe_callB cr_sortTI (by rfl) ms (by decide +kernel) (pa_cons (pv 0) pa_nil)) (pe_listRg (by rfl) (by rfl) mL (prg_1 (by rfl) mr (pv 1))) (nomark _))))), ?_⟩
    refine ⟨.ref t, rfl, .int (m : Int), rfl, t, ns, (m : Int), rfl, hT, hb, ht, fun H1 e1 => ⟨true, rfl, iteT ?_⟩⟩
    refine ⟨.ref t, rfl, t, ns, rfl, e1.sqT hT, fun us p pm sr np => ?_⟩
    have e2 := Ext.new (o := .lst (us.map V.int)) e1.tb np
    refine ⟨.int (m : Int), rfl, (m : Int), rfl, RgOk.of_le (by omega) (by omega) (by omega) (by omega), fun l nl => ?_⟩
    rw [rng_V]
    have e3 := Ext.new (o := .lst ((rng m).map V.int)) e2.tb nl
    refine ⟨.list (iD us), .list (iD (rng m)), .lst (.inl (.inl (e3.lst upd_same))) (dp_ints us), .lst (.inl (.inl upd_same)) (dp_ints _), shp_list us, shp_list _, ?_⟩
    refine q _ _ ?_ (e1.trans (e2.trans e3))
    rw [PyData.eqv, eqv_ints, decide_eq_true_eq]
    constructor
    · intro e
      rw [← e]
      exact pm.symm
    · intro e
      exact le_perm_eq (pm.trans e) sr (rng_le _)
theorem ok_isRow {fB cB : Addr} {fdB : FuncData} (D : Def K mg "is_row" sIsRow ["stack", "thing"] f fd c) (DB : Def K mg "is_each_once" sEach ["thing", "many"] fB fdB cB) (GB : FnOk P w K mg base CX0 k fB fdB ["thing", "many"] (spEach K Ps))
    (ml : mg "len" = none) : FnOk P w K mg base CX0 (k + 1) f fd ["stack", "thing"] (spIsRow K Ps) := by
  refine D.ok (k := k) scIsRow (fun vs H Q E h => ?_) (fun A outer s H vs Q E hr h => ?_)
  · obtain ⟨x, y, n, kk, fss, ns, rfl, _⟩ := h
    rfl
  · obtain ⟨x, y, n, kk, fss, ns, rfl, h0, q⟩ := h
    obtain ⟨a, fa, xs, rfl, h1, h2, h3⟩ := id h0.stk
    have hlen := Paired.length h3
    have l70 := h0.ok.l70
    refine ⟨_, pss_one (ps_ret (pcl DB GB hr (pa_cons (pv 1) (pa_cons (pe_callB (call_lenS (K := K) rfl) (by rfl) ml PySem.boot_len (pa_cons (pe_ix ix_tup (pv 0) pe_int (fun _ _ => rfl)) pa_nil)) pa_nil)))), ?_⟩
    exact ⟨y, rfl, .ref a, rfl, a, _, 2, .ref fa, rfl, rfl, h1, at2, fa, xs, rfl, .inr h2, y, xs.length, ns, rfl, h0.row, by rw [hlen]; exact h0.bel, by omega, h0.tb, fun b H' hb e => q b H' (by rw [← hlen]; exact hb) e⟩
end
end Lf

set_option maxHeartbeats 2000000
namespace Lf
open PySem PySem.Spec PyProof.Rows L2 GxR GxA SrT EnT
theorem cut_take {xs : List V} {i : Nat} (h : i ≤ xs.length) : cutV xs none (some (i : Int)) = xs.take i := by
  unfold cutV
  rw [HT.sIx_nat]
  show (xs.drop 0).take (min i xs.length - 0) = xs.take i
  rw [List.drop_zero, Nat.sub_zero, Nat.min_eq_left h]
theorem paired_take {α β : Type} {F : α → β → Prop} : ∀ {xs : List α} {ys : List β}, Paired F xs ys → ∀ i, Paired F (xs.take i) (ys.take i)
  | _, _, .nil, i => by simp only [List.take_nil]; exact .nil
  | _, _, .cons r t, 0 => .nil
  | _, _, .cons r t, i + 1 => .cons r (paired_take t i)
/-- the first place at which a face may not be laid -/
def wrongAt : List (List Int) → List (List Int) → Nat → Option Nat
  | _, [], _ => none
  | laid, fc :: r, i => if liesOn laid fc = true then wrongAt (laid ++ [fc]) r (i + 1) else some i
def placeV : Option Nat → V
  | none => .non
  | some i => .int (i : Int)
theorem wrong_step {fs : List (List Int)} {i : Nat} {fc : List Int} (h : fs[i]? = some fc) : wrongAt (fs.take i) (fs.drop i) i = if liesOn (fs.take i) fc = true then wrongAt (fs.take (i + 1)) (fs.drop (i + 1)) (i + 1) else some i := by
  obtain ⟨hi, e⟩ := List.getElem?_eq_some_iff.mp h
  rw [List.drop_eq_getElem_cons hi, e, List.take_add_one, h]
  rfl
section
variable {P : Program} {w : World} {K : PySem.W.Frag} {mg : Str → Option Value} {base : Heap} {Ps : Tbs} {H H' H0 : Hp} {k : Nat} {f c : Addr} {fd : FuncData}
theorem facesAt_4 {n kk : Int} {fss : List (List Int)} {ns : List Int} (S : StkOk n kk fss) (hb : ∀ i ∈ ns, 0 ≤ i ∧ i < (fss.length : Int)) : ∀ g ∈ facesAt fss ns, g ∈ fss := by
  intro g hg
  unfold facesAt at hg
  obtain ⟨i, hi, e⟩ := List.mem_map.mp hg
  obtain ⟨b0, b1⟩ := hb i hi
  have hlt : i.toNat < fss.length := by omega
  rw [List.getD_eq_getElem?_getD, List.getElem?_eq_getElem hlt] at e
  rw [← e]
  exact List.getElem_mem hlt
/-! ### wrong_place -/
def spWrong (K : PySem.W.Frag) (Ps : Tbs) : Sp := fun vs H Q _ => ∃ (x y : V) (n kk : Int) (fss : List (List Int)) (ns : List Int), vs = [x, y] ∧ AskR K Ps H x y n kk fss ns ∧ ∀ H', Ext Ps H H' → Q (placeV (wrongAt [] (facesAt fss ns) 0)) H'
theorem ok_wrong {fA cA fO cO : Addr} {fdA fdO : FuncData} (D : Def K mg "wrong_place" sWrong ["stack", "row"] f fd c) (DA : Def K mg "faces_at" sFacesAt ["stack", "lot"] fA fdA cA) (GA : FnOk P w K mg base CX0 k fA fdA ["stack", "lot"] (spFacesAtF K Ps))
    (DO : Def K mg "lies_on" sLies ["laid", "face"] fO fdO cO) (GO : FnOk P w K mg base CX0 k fO fdO ["laid", "face"] (spLies K Ps)) (me : mg "enumerate" = none) : FnOk P w K mg base CX0 (k + 1) f fd ["stack", "row"] (spWrong K Ps) := by
  refine D.ok (k := k) scWrong (fun vs H Q E h => ?_) (fun A outer s H vs Q E hr h => ?_)
  · obtain ⟨x, y, n, kk, fss, ns, rfl, _⟩ := h
    rfl
  · obtain ⟨x, y, n, kk, fss, ns, rfl, h0, q⟩ := h
    have f4 := facesAt_4 h0.ok h0.bel
    have l100 := h0.len
    refine ⟨_, pss_cons (ps_set (i := 2) scWrong.nd rfl (.inl rfl) (pe_lst pa_nil))
      (pss_cons (ps_for PassesOwn.never rfl (pi_enum (by rfl) me (pa_cons (pcl DA GA hr (pa_cons (pv 0) (pa_cons (pv 1) pa_nil))) pa_nil)) (pg_tup rfl (pgs_cons (pg_name (i := 3) scWrong.nd rfl (.inl rfl)) (pgs_cons (pg_name (i := 4) scWrong.nd rfl (.inl rfl)) pgs_nil)))
        (pss_cons (ps_if (pt_not (pt_val (pcl DO GO hr (pa_cons (pv 2) (pa_cons (pv 4) pa_nil))))) (pss_one (ps_ret (pv 3))) pss_nil)
        (pss_one (ps_expr (pe_bm PySem.F.plainAttrs_list PySem.F.slot_list_append PySem.F.type_list_append mt_append (pv 2) (pa_cons (pv 4) pa_nil))))))
      (pss_one (ps_ret pe_non))), ?_⟩
    refine ⟨Nat.zero_le _, fun D0 hD => ?_⟩
    have e1 : Ext Ps H (upd H D0 (.lst [])) := Ext.new h0.tb hD
    have a1 := h0.ext e1
    refine ⟨x, rfl, y, rfl, x, y, n, kk, fss, ns, rfl, a1.stk, a1.row, a1.bel, a1.len, a1.tb, fun l xs H2 e2 nl hl hp => ?_⟩
    have hlen := Paired.length hp
    have hxl : xs.length ≤ 100 := by rw [hlen, facesAt_len]; exact l100
    have ne : l ≠ D0 := fun z => by
      rw [z, upd_same] at nl
      cases nl
    have c2 : CP Ps (TupI K) H D0 [] 0 H2 := (CP.start (F := TupI K) h0.tb hD).skip (stbT (K := K)) e2
    refine ⟨l, xs, rfl, .inl (.inl hl), for_enL (K := K) (a := l) (xs := xs) (fun i σ H3 => CP Ps (TupI K) H D0 ((facesAt fss ns).take i) i H3 ∧ H3 l = some (.lst xs) ∧ Paired (TupI K H3) xs (facesAt fss ns) ∧ wrongAt [] (facesAt fss ns) 0 = wrongAt ((facesAt fss ns).take i) ((facesAt fss ns).drop i) i ∧ ∃ y3 y4 : Option V, σ = [some x, some y, some (.ref D0), y3, y4])
      ⟨by rw [List.take_zero]; exact c2, hl, hp, rfl, none, none, rfl⟩ (fun i σ H3 p => .inl (.inl p.2.1)) (fun i z σ H3 T hz p hT => ?_) (fun σ H3 p => ?_)⟩
    · obtain ⟨p3, hl3, hp3, hw, y3, y4, rfl⟩ := p
      obtain ⟨fc, hfc, hI⟩ := paired_get hp3 hz
      have hfm := f4 fc (List.mem_of_getElem? hfc)
      have hf4 := h0.ok.len4 fc hfm
      have eT := Ext.new (o := .tup [.int (i : Nat), z]) p3.ext.tb hT
      have p4 := p3.skip (stbT (K := K)) eT
      have hT4 : SqT K (upd H3 T (.tup [.int (i : Nat), z])) T [.int (i : Nat), z] := .inl (.inl upd_same)
      have hl4 := eT.lst hl3
      have hp4 := eT.tups hp3
      have hI4 := eT.tupI hI
      generalize upd H3 T (.tup [.int (i : Nat), z]) = H4 at *
      obtain ⟨zs, g1, g2, g3⟩ := p4.at_
      refine ⟨T, _, rfl, hT4, rfl, _, _, rfl, _, _, rfl, rfl, ?_⟩
      refine ⟨.ref D0, rfl, z, rfl, .ref D0, z, (facesAt fss ns).take i, fc, rfl, ⟨D0, zs, rfl, .inl (.inl g1), g2⟩, hI4, by omega, p4.ext.tb, fun H5 e5 => ⟨_, rfl, ?_⟩⟩
      have p5 := p4.skip (stbT (K := K)) e5
      have hi : i < xs.length := (List.getElem?_eq_some_iff.mp hz).1
      rw [wrong_step hfc] at hw
      refine ite2 (fun hc => ?_) (fun hc => ?_)
      · have hno : ¬ liesOn ((facesAt fss ns).take i) fc = true := by simpa using hc
        rw [if_neg hno] at hw
        have z := q H5 p5.ext
        rw [hw] at z
        exact ⟨.int (i : Nat), rfl, z⟩
      · have hyes : liesOn ((facesAt fss ns).take i) fc = true := by simpa using hc
        rw [if_pos hyes] at hw
        obtain ⟨acc, r1, r2, r3⟩ := CP.put (stbT (K := K)) hD (by omega) p5 (e5.tupI hI4)
        refine ⟨.ref D0, rfl, .inl ⟨rfl, _, .inl (.inl r1)⟩, z, rfl, D0, acc, z, rfl, rfl, r1, r2, ?_, ?_, ?_, hw, _, _, rfl⟩
        · rw [List.take_add_one, hfc]
          exact r3
        · rw [upd_ne ne]
          exact e5.lst hl4
        · exact L2.Paired.mapP (e5.tups hp4) fun _ _ z => tupI_put r1 z
    · obtain ⟨p3, hl3, hp3, hw, y3, y4, rfl⟩ := p
      rw [hlen, List.drop_length] at hw
      have z := q H3 p3.ext
      rw [hw] at z
      exact z
/-! ### is_order -/
def isOrd (fss : List (List Int)) (ns : List Int) : Prop := ns.Perm (rng fss.length) ∧ wrongAt [] (facesAt fss ns) 0 = none
def spIsOrder (K : PySem.W.Frag) (Ps : Tbs) : Sp := fun vs H Q _ => ∃ (x y : V) (n kk : Int) (fss : List (List Int)) (ns : List Int), vs = [x, y] ∧ AskR K Ps H x y n kk fss ns ∧ ∀ b H', (b = true ↔ isOrd fss ns) → Ext Ps H H' → Q (.bl b) H'
theorem ok_isOrder {fS cS fR cR fW cW : Addr} {fdS fdR fdW : FuncData} (D : Def K mg "is_order" sIsOrder ["stack", "thing"] f fd c) (DS : Def K mg "need_stack" sNeedStack ["stack"] fS fdS cS) (GS : FnOk P w K mg base CX0 k fS fdS ["stack"] (spNeedStack K Ps))
    (DR : Def K mg "is_row" sIsRow ["stack", "thing"] fR fdR cR) (GR : FnOk P w K mg base CX0 k fR fdR ["stack", "thing"] (spIsRow K Ps)) (DW : Def K mg "wrong_place" sWrong ["stack", "row"] fW fdW cW) (GW : FnOk P w K mg base CX0 k fW fdW ["stack", "row"] (spWrong K Ps)) :
    FnOk P w K mg base CX0 (k + 1) f fd ["stack", "thing"] (spIsOrder K Ps) := by
  refine D.ok (k := k) scIsOrder (fun vs H Q E h => ?_) (fun A outer s H vs Q E hr h => ?_)
  · obtain ⟨x, y, n, kk, fss, ns, rfl, _⟩ := h
    rfl
  · obtain ⟨x, y, n, kk, fss, ns, rfl, h0, q⟩ := h
    refine ⟨_, pss_cons (ps_expr (pcl DS GS hr (pa_cons (pv 0) pa_nil))) (pss_one (ps_ret (pe_and (pcl DR GR hr (pa_cons (pv 0) (pa_cons (pv 1) pa_nil))) (pe_one (pe_cmpR op_isN (pcl DW GW hr (pa_cons (pv 0) (pa_cons (pv 1) pa_nil))) pe_non (nomark _)))))), ?_⟩
    refine ⟨x, rfl, x, n, kk, fss, rfl, h0.stk, h0.ok, h0.tb, fun H1 e1 => ?_⟩
    refine ⟨x, rfl, y, rfl, x, y, n, kk, fss, ns, rfl, h0.ext e1, fun b H2 hb e2 => ⟨b, rfl, ?_⟩⟩
    cases b with
    | false =>
      refine iteF (q false _ ?_ (e1.trans e2))
      constructor
      · intro z
        cases z
      · intro z
        exact absurd (hb.mpr z.1) (by simp)
    | true =>
      refine iteT ⟨x, rfl, y, rfl, x, y, n, kk, fss, ns, rfl, h0.ext (e1.trans e2), fun H3 e3 => ⟨rfl, ?_⟩⟩
      refine q _ _ ?_ (e1.trans (e2.trans e3))
      unfold isOrd
      cases hw : wrongAt [] (facesAt fss ns) 0 with
      | none => exact ⟨fun _ => ⟨hb.mp rfl, rfl⟩, fun _ => decide_eq_true rfl⟩
      | some p => exact ⟨fun z => absurd (of_decide_eq_true z) (by intro q; cases q), fun z => nomatch z.2⟩
/-! ### need_order, brings -/
def spNeedOrder (K : PySem.W.Frag) (Ps : Tbs) : Sp := fun vs H Q _ => ∃ (x y : V) (n kk : Int) (fss : List (List Int)) (ns : List Int), vs = [x, y] ∧ AskR K Ps H x y n kk fss ns ∧ isOrd fss ns ∧ ∀ H', Ext Ps H H' → Q .non H'
def bringsL (fs : List (List Int)) : Nat → List (List Int)
  | 0 => []
  | i + 1 => bringsL fs i ++ [brOn (fs.take i) (fs.getD i [])]
def spBrings (K : PySem.W.Frag) (Ps : Tbs) : Sp := fun vs H Q _ => ∃ (x y : V) (n kk : Int) (fss : List (List Int)) (ns : List Int), vs = [x, y] ∧ AskR K Ps H x y n kk fss ns ∧ isOrd fss ns ∧ ∀ v H', Ext Ps H H' → LstT K H' v (bringsL (facesAt fss ns) ns.length) → Q v H'
end
end Lf

set_option maxHeartbeats 1000000
namespace Lf
/-! what may be laid, told in two ways -/
def comL (fc g : List Int) : List Int := fc.filter fun p => decide (p ∈ g)
def mayL (kk : Int) (fss : List (List Int)) (fc : List Int) : Bool :=
  ((fss.map (comL fc)).all fun own => ((fss.map (comL fc)).filter fun o => decide ((o.length : Int) = kk - 1)).any fun one => hasAll one own) && !decide (fc ∈ fss)
theorem hasAll_all {face pts : List Int} : hasAll face pts = true ↔ ∀ p ∈ pts, p ∈ face := by
  unfold hasAll
  rw [List.all_eq_true]
  simp only [decide_eq_true_eq]
theorem inSome_ex {pts : List Int} {fss : List (List Int)} : inSome pts fss = true ↔ ∃ g ∈ fss, ∀ p ∈ pts, p ∈ g := by
  unfold inSome
  rw [List.any_eq_true]
  simp only [hasAll_all]
theorem mem_less1 {fc : List Int} {p q : Int} : q ∈ lessL fc [p] ↔ q ∈ fc ∧ q ≠ p := by
  unfold lessL
  rw [List.mem_filter]
  simp
theorem mem_brOn {laid : List (List Int)} {fc : List Int} {p : Int} : p ∈ brOn laid fc ↔ p ∈ fc ∧ ∃ g ∈ laid, ∀ q ∈ fc, q ≠ p → q ∈ g := by
  unfold brOn
  rw [List.mem_filter, inSome_ex]
  simp only [mem_less1, and_imp]
theorem lies_iff {laid : List (List Int)} {fc : List Int} : liesOn laid fc = true ↔ ∀ g ∈ laid, ∃ p ∈ brOn laid fc, p ∉ g := by
  unfold liesOn
  rw [Bool.not_eq_true', ← Bool.not_eq_true, inSome_ex]
  constructor
  · intro h g hg
    apply Classical.byContradiction
    intro z
    exact h ⟨g, hg, fun p hp => Classical.byContradiction fun n => z ⟨p, hp, n⟩⟩
  · rintro h ⟨g, hg, z⟩
    obtain ⟨p, hp, n⟩ := h g hg
    exact n (z p hp)
theorem mem_comL {fc g : List Int} {p : Int} : p ∈ comL fc g ↔ p ∈ fc ∧ p ∈ g := by
  unfold comL
  rw [List.mem_filter, decide_eq_true_eq]
theorem may_iff {kk : Int} {fss : List (List Int)} {fc : List Int} : mayL kk fss fc = true ↔ (∀ g ∈ fss, ∃ h ∈ fss, ((comL fc h).length : Int) = kk - 1 ∧ ∀ p ∈ fc, p ∈ g → p ∈ h) ∧ fc ∉ fss := by
  unfold mayL
  rw [Bool.and_eq_true, List.all_eq_true]
  refine and_congr ?_ (by simp)
  constructor
  · intro z g hg
    have z1 := z _ (List.mem_map.mpr ⟨g, hg, rfl⟩)
    rw [List.any_eq_true] at z1
    obtain ⟨o, ho, hh⟩ := z1
    obtain ⟨ho1, ho2⟩ := List.mem_filter.mp ho
    obtain ⟨h, hh1, rfl⟩ := List.mem_map.mp ho1
    exact ⟨h, hh1, of_decide_eq_true ho2, fun p hp hg => (mem_comL.mp (hasAll_all.mp hh p (mem_comL.mpr ⟨hp, hg⟩))).2⟩
  · intro z o ho
    obtain ⟨g, hg, rfl⟩ := List.mem_map.mp ho
    obtain ⟨h, h1, h2, h3⟩ := z g hg
    rw [List.any_eq_true]
    exact ⟨comL fc h, List.mem_filter.mpr ⟨List.mem_map.mpr ⟨h, h1, rfl⟩, decide_eq_true h2⟩, hasAll_all.mpr fun p hp => mem_comL.mpr ⟨(mem_comL.mp hp).1, h3 p (mem_comL.mp hp).1 (mem_comL.mp hp).2⟩⟩
theorem len_filter_add (l : List Int) (q : Int → Bool) : (l.filter q).length + (l.filter fun x => !q x).length = l.length := by
  induction l with
  | nil => rfl
  | cons x l ih =>
    by_cases h : q x = true
    · simp only [List.filter_cons, h, if_true, Bool.not_true, Bool.false_eq_true, if_false, List.length_cons]
      omega
    · have h' : q x = false := by simpa using h
      simp only [List.filter_cons, h', if_false, Bool.not_false, Bool.false_eq_true, if_true, List.length_cons]
      omega
theorem ris_eq {f g : List Int} (hf : f.Pairwise (· < ·)) (hg : g.Pairwise (· < ·)) (hl : f.length = g.length) (h : ∀ p ∈ f, p ∈ g) : f = g := by
  have nf : f.Nodup := hf.imp (fun {a b} h => by omega)
  have ng : g.Nodup := hg.imp (fun {a b} h => by omega)
  have back : ∀ p ∈ g, p ∈ f := fun p hp => Classical.byContradiction fun n => by
    have z := List.Nodup.length_le_of_subset (l₁ := p :: f) (l₂ := g) (List.nodup_cons.mpr ⟨n, nf⟩) fun q hq => (List.mem_cons.mp hq).elim (fun e => e ▸ hp) (h q)
    rw [List.length_cons] at z
    omega
  have pm : f.Perm g := (List.perm_ext_iff_of_nodup nf ng).mpr fun p => ⟨h p, back p⟩
  exact List.Perm.eq_of_pairwise (fun a b _ _ h1 h2 => by omega) hf hg pm
/-- the law's way and the program's way -/
theorem may_lies {kk : Int} {fss : List (List Int)} {fc : List Int} (hl : ∀ g ∈ fss, (g.length : Int) = kk) (hs : ∀ g ∈ fss, g.Pairwise (· < ·)) (fl : (fc.length : Int) = kk) (fs : fc.Pairwise (· < ·)) : mayL kk fss fc = liesOn fss fc := by
  have nf : fc.Nodup := fs.imp (fun {a b} h => by omega)
  rw [Bool.eq_iff_iff, may_iff, lies_iff]
  have one : ∀ h : List Int, ((comL fc h).length : Int) = kk - 1 → ∃ p ∈ fc, p ∉ h ∧ ∀ q ∈ fc, q ≠ p → q ∈ h := by
    intro h e
    have e2 := len_filter_add fc fun p => decide (p ∈ h)
    have e3 : (fc.filter fun p => !decide (p ∈ h)).length = 1 := by
      have : (comL fc h).length = (fc.filter fun p => decide (p ∈ h)).length := rfl
      omega
    obtain ⟨p, hp⟩ := List.length_eq_one_iff.mp e3
    have mp : ∀ q, q ∈ fc ∧ q ∉ h ↔ q = p := fun q => by
      have : q ∈ fc.filter (fun p => !decide (p ∈ h)) ↔ q ∈ [p] := by rw [hp]
      rw [List.mem_filter, List.mem_singleton] at this
      simpa using this
    have m0 := (mp p).mpr rfl
    exact ⟨p, m0.1, m0.2, fun q hq hn => Classical.byContradiction fun z => hn ((mp q).mp ⟨hq, z⟩)⟩
  constructor
  · rintro ⟨z, n⟩ g hg
    obtain ⟨h, h1, h2, h3⟩ := z g hg
    obtain ⟨p, p1, p2, p3⟩ := one h h2
    exact ⟨p, mem_brOn.mpr ⟨p1, h, h1, p3⟩, fun pg => p2 (h3 p p1 pg)⟩
  · intro z
    have n : fc ∉ fss := fun hm => by
      obtain ⟨p, hp, hn⟩ := z fc hm
      exact hn (mem_brOn.mp hp).1
    refine ⟨fun g hg => ?_, n⟩
    obtain ⟨p, hp, hn⟩ := z g hg
    obtain ⟨p1, h, h1, h2⟩ := mem_brOn.mp hp
    have ph : p ∉ h := fun ph => by
      have e : fc = h := ris_eq fs (hs h h1) (by have := hl h h1; omega) fun q hq => by
        by_cases e : q = p
        · rw [e]
          exact ph
        · exact h2 q hq e
      exact n (e ▸ h1)
    refine ⟨h, h1, ?_, fun q hq hg => h2 q hq fun e => hn (e ▸ hg)⟩
    have e2 := len_filter_add fc fun p => decide (p ∈ h)
    have e3 : (fc.filter fun q => !decide (q ∈ h)) = fc.filter fun q => decide (q = p) := List.filter_congr fun q hq => by
      by_cases e : q = p
      · rw [e, decide_eq_false ph, decide_eq_true rfl]
        rfl
      · rw [decide_eq_true (h2 q hq e), decide_eq_false e]
        rfl
    have e4 : (fc.filter fun q => decide (q = p)).length = 1 := by
      rw [← List.countP_eq_length_filter]
      have this := nf.count (a := p)
      rw [if_pos p1, List.count] at this
      rw [← this]
      refine List.countP_congr fun q _ => ?_
      simp
    have : (comL fc h).length = (fc.filter fun p => decide (p ∈ h)).length := rfl
    rw [e3, e4] at e2
    omega
end Lf

set_option maxHeartbeats 2000000
namespace Lf
open PySem PySem.Spec PyProof.Rows L2 GxR GxA SrT
theorem filter_step {α : Type} {l : List α} {q : α → Bool} {i : Nat} {y : α} (h : l[i]? = some y) : (l.take (i + 1)).filter q = (l.take i).filter q ++ (if q y = true then [y] else []) := by
  rw [List.take_add_one, h, List.filter_append]
  show _ ++ List.filter q [y] = _
  by_cases e : q y = true
  · rw [if_pos e, List.filter_cons_of_pos e, List.filter_nil]
  · rw [if_neg e, List.filter_cons_of_neg e, List.filter_nil]
theorem comL_len (fc g : List Int) : (comL fc g).length ≤ fc.length := List.length_filter_le _ _
theorem eqv_tD (f g : List Int) : PyData.eqv (tD f) (tD g) = decide (f = g) := by
  show PyData.eqv (.tuple (iD f)) (.tuple (iD g)) = _
  rw [PyData.eqv, eqv_ints]
section
variable {P : Program} {w : World} {K : PySem.W.Frag} {mg : Str → Option Value} {base : Heap} {Ps : Tbs} {H H' H0 : Hp} {k : Nat} {f c : Addr} {fd : FuncData}
/-! ### _law_common, told -/
def spCommonE (K : PySem.W.Frag) (Ps : Tbs) : Sp := fun vs H Q _ => ∃ (x y : V) (pts fc : List Int), vs = [x, y] ∧ TupI K H x pts ∧ TupI K H y fc ∧ pts.length ≤ 100 ∧ Tb Ps H ∧ ∀ (l : Addr) (H' : Hp), Ext Ps H H' → H l = none → H' l = some (.lst ((comL pts fc).map V.int)) → Q (.ref l) H'
theorem ok_commonE (D : Def K mg "_law_common" sCommon ["_law_one", "_law_other"] f fd c) : FnOk P w K mg base CX0 (k + 1) f fd ["_law_one", "_law_other"] (spCommonE K Ps) := by
  refine D.ok (k := k) scCommon (fun vs H Q E h => ?_) (fun A outer s H vs Q E hr h => ?_)
  · obtain ⟨x, y, pts, fc, rfl, _⟩ := h
    rfl
  · obtain ⟨_, _, pts, fc, rfl, ⟨a, rfl, hA⟩, ⟨b, rfl, hB⟩, hl, ht, q⟩ := h
    refine ⟨_, pss_one (ps_ret (pe_lc (own := [("_law_point", 2)]) (g := gName 2) (by rfl) scCommon.nd (pi_tup (pv 0)) (blkOk_by (N := ["_law_one", "_law_other", "_law_point"]) (sc := defScope sCommon) (by decide +kernel))
      (fun _ _ _ _ _ => pg_name (i := 2) scCommon.nd rfl (Or.inl rfl)) (fun _ _ _ _ _ => pts_one (pt_cmpR (show OpR _ _ (rIn K false) from op_in_seq) (pv 2) (pv 1) (by with_unfolding_all rfl))) (fun _ _ _ _ _ => pv 2))), ?_⟩
    refine ⟨.ref a, rfl, a, rfl, ⟨_, hA⟩, fun D0 hD => lc_tup (K := K) (a := a) (xs := pts.map V.int) (fun i H3 => CP Ps FI H D0 (comL (pts.take i) fc) i H3) (CP.start ht hD) (fun i H3 _ p => p.ext.sqT hA) (fun i x H3 hx p => ?_) (fun H3 p => ?_)⟩
    · obtain ⟨y, hy, rfl⟩ := map_int hx
      have hi : i < pts.length := (List.getElem?_eq_some_iff.mp hy).1
      have e : comL (pts.take (i + 1)) fc = comL (pts.take i) fc ++ (if decide (y ∈ fc) = true then [y] else []) := filter_step (q := fun p => decide (p ∈ fc)) hy
      refine ⟨rfl, .int y, rfl, .ref b, rfl, b, _, rfl, .inr (p.ext.sqT hB), rfl, flat_ints fc, _, rfl, ite2 (fun hc => ?_) (fun hc => ?_)⟩
      · have hc' : decide (y ∈ fc) = true := (inV_ints y fc).symm.trans hc
        obtain ⟨acc, r1, r2, r3⟩ := CP.put (stbI (K := K)) hD (by omega) p (show FI H3 (.int y) y from rfl)
        rw [if_pos hc'] at e
        exact ⟨.int y, rfl, acc, r1, r2, by rw [e]; exact r3⟩
      · have hc' : ¬ decide (y ∈ fc) = true := fun z => hc ((inV_ints y fc).trans z)
        rw [if_neg hc', List.append_nil] at e
        rw [e]
        exact p.mono (Nat.le_succ i)
    · rw [List.length_map, List.take_length] at p
      obtain ⟨ys, e1, e2, e3⟩ := p.at_
      rw [paired_ints e2] at e1
      exact q D0 H3 p.ext hD e1
/-! ### _law_may, told -/
def spMayE (K : PySem.W.Frag) (Ps : Tbs) : Sp := fun vs H Q _ => ∃ (kk : Int) (y z : V) (fss : List (List Int)) (fc : List Int), vs = [.int kk, y, z] ∧ LstT K H y fss ∧ TupI K H z fc ∧ fss.length ≤ 100 ∧ fc.length ≤ 100 ∧ Tb Ps H ∧ ∀ (H' : Hp), Ext Ps H H' → Q (.bl (mayL kk fss fc)) H'
end
end Lf

set_option maxHeartbeats 1000000
/-! defs that refuse, lambdas handed to a def that catches -/
namespace Lf
open PySem PySem.Spec PyProof.Rows L2 GxR GxA SrT
section
variable {P : Program} {w : World} {K : PySem.W.Frag} {mg : Str → Option Value} {base : Heap}
/-- a def that may refuse -/
theorem Def.okX {x : Str} {st : Stmt} {f c : Addr} {fd : FuncData} {N ps : List Str} {k : Nat} {sp : Sp} (D : Def K mg x st ps f fd c) (S : FnScope N ps (defScope st)) (len : ∀ vs H Q E, sp vs H Q E → vs.length = ps.length)
    (hbody : ∀ (A : Around) (outer : List Env) (s : Shared) (H : Hp) (vs : List V) (Q : VK) (E : XK), Room k (A.deeper (envOfC x (defScope st) s.heap.objs.size f (.ref c))) → Takes (cxOf (L2.CX P w) P w K mg base N x (defScope st) f (.ref c) A outer s H E) (fun cls d _ H' => E cls d H') → sp vs H Q E →
      ∃ t, PSs (cxOf (L2.CX P w) P w K mg base N x (defScope st) f (.ref c) A outer s H E) (defBody st) t ∧ t { nx := fun _ H' => Q .non H', rt := Q } (start N vs) H) : FnOk P w K mg base (L2.CX P w) (k + 1) f fd ps sp := by
  obtain ⟨oc, od, kV, doc, pm, an, ct, osl, rfl, lk, hcd⟩ := D.F.ex
  exact fn_of lk hcd S len fun A outer s H vs Q E hr hsp => hbody A outer s H vs Q E hr (takes_of (E := E) rfl rfl rfl rfl) hsp
end
/-- a call of a def that may refuse; what it lets out is taken -/
theorem pclX {X : Cx} {x : Str} {st : Stmt} {ps : List Str} {f c : Addr} {fd : FuncData} {k : Nat} {sp : Sp} {e : Expr} {es : List Expr} {t : TA} {p pos : Pos} {E : XK} (D : Def X.K X.mg x st ps f fd c) (G : FnOk X.prog X.w X.K X.mg X.base (L2.CX X.prog X.w) k f fd ps sp) (hr : Room k X.A) (tk : Takes X fun cls d _ H => E cls d H) (ha : PA X (e :: es) t)
    (hg : Gl X x := by rfl) (hdb : (x == ("__debug__" : Str)) = false := by decide) (he : starEach (e :: es) X.env = (false, eval e X.env) :: starEach es X.env := by rfl) (hpl : (backTo pos (starEach es X.env)).any (·.1) = false := by rfl) :
    PE X (.Call (.Name x p) (e :: es) [] pos) (tCall sp [] E t) := pe_call G hr hg D.g D.F.kp D.b .nil (passes_call tk fun _ _ _ _ h => h) ha hdb he hpl
/-- the same, where it refuses nothing -/
theorem pclN {X : Cx} {x : Str} {st : Stmt} {ps : List Str} {f c : Addr} {fd : FuncData} {k : Nat} {sp : Sp} {e : Expr} {es : List Expr} {t : TA} {p pos : Pos} (D : Def X.K X.mg x st ps f fd c) (G : FnOk X.prog X.w X.K X.mg X.base (L2.CX X.prog X.w) k f fd ps sp) (hr : Room k X.A) (ha : PA X (e :: es) t)
    (hg : Gl X x := by rfl) (hdb : (x == ("__debug__" : Str)) = false := by decide) (he : starEach (e :: es) X.env = (false, eval e X.env) :: starEach es X.env := by rfl) (hpl : (backTo pos (starEach es X.env)).any (·.1) = false := by rfl) :
    PE X (.Call (.Name x p) (e :: es) [] pos) (tCall sp [] E0 t) := pe_call G hr hg D.g D.F.kp D.b .nil passL ha hdb he hpl
/-- a class of refusals -/
structure Ref (K : PySem.W.Frag) (mg : Str → Option Value) (x : Str) (C : Addr) : Prop where
  ex : ∃ (B newId initId : String) (bmB : List Value), ExcBaseFacts B newId initId bmB ∧ PySem.W.excIn K C bmB newId = true
  g : mg x = some (.ref C)
  kp : PySem.W.keepIn K (.ref C) = true
  sub : PySem.W.subIn K (.ref C) (.type "BaseException") = some true
  ty : PySem.W.typeIn K (.ref C) = some (.type "type")
/-- raise x('..') -/
theorem ps_refuse {X : Cx} {x m : Str} {C : Addr} {j : Nat} {p p2 pos pos' : Pos} {E : XK} (R : Ref X.K X.mg x C) (tk : Takes X fun cls d _ H => E cls d H) (hc : X.calm = true := by rfl) (hg : Gl X x := by rfl) (hdb : (x == ("__debug__" : Str)) = false := by decide) :
    PS X (.Raise (some (.Call (.Name x p) [.Constant (.str m) j p2] [] pos)) none pos') (fun _ _ H => E (.ref C) none H) := by
  obtain ⟨B, nI, iI, bmB, F, q⟩ := R.ex
  exact ps_raise hc tk (pmk_own F q R.g R.kp (raises_own R.sub R.ty) hg hdb)
/-- isinstance(e, c), e a pinned refusal -/
theorem call_isP {X : Cx} {a D : Addr} {oe : Obj} (C : ExcC X.K D) (hz : Zc (.ref D) none oe) (hf : ∃ vs, oe.data = .fields vs) (hp : (a, oe) ∈ X.pn) : CallR X (.builtin "isinstance") (rIsE X.K D a) := by
  intro pins s σ H xs us Q I r h
  obtain ⟨c, cv, b, rfl, hcv, e, q⟩ := h
  obtain ⟨u1, u2, rfl, r1, r2⟩ := vals2 r
  cases r1
  have ec := hcv _ r2
  subst ec
  have hget := (I.pin (a, oe) (List.mem_append_left _ hp)).1
  obtain ⟨vs, hv⟩ := hf
  obtain ⟨hz1, hz2⟩ := hz
  have J : PySem.W.InstAt s.heap a oe D none := by
    cases oe
    cases hz1
    cases hz2
    cases hv
    exact ⟨hget, rfl, rfl, trivial⟩
  refine PySem.W.kia_one (PySem.W.handS_kitx_exc C.hg C.hk C.hs C.hd C.ha C.hn C.ht C.hm) I.kIn J e (fun z => nomatch z) fun tk => ?_
  exact ⟨.bl b, H, I.kept (t' := tk) fun _ _ z => z, rfl, q⟩
/-- l.count(x), data -/
def rCountD (K : PySem.W.Frag) : V → List V → Hp → VK → Prop := fun x xs H Q => ∃ (a : Addr) (y : V) (d : PyData) (ds : List PyData), x = V.ref a ∧ xs = [y] ∧ Dp K H (V.ref a) (.list ds) ∧ Dp K H y d ∧ PyData.plainAll ds = true ∧ d.plain = true ∧ d.depth ≤ 60 ∧ Q (.int ((ds.countP fun z => PyData.eqv z d : Nat) : Int)) H
theorem mt_countD {X : Cx} (hu : X.A.units + 65 < cLine) : MtR X "list.count" (rCountD X.K) := by
  intro pins s σ H x xs v us Q I rx rxs h
  obtain ⟨a, y, d, ds, rfl, rfl, hl, hy, pl, pd, dd, q⟩ := h
  cases rx
  obtain ⟨u, rfl, ru⟩ := rxs.one
  obtain ⟨bs, r1⟩ := Dp.reads I d y u hy ru
  cases hl with
  | lst hs ha =>
    obtain ⟨its, rv, li, hlen⟩ := I.list hs
    obtain ⟨as, h4⟩ := Dp.readsAll I ds _ its ha rv
    refine PySem.SeqAt.count_list_data (as := as) (xs := ds) (vs := its.toArray) li.isList (by simpa using h4) r1 pl pd (by omega) ?_
    exact ⟨.int ((ds.countP fun z => PyData.eqv z d : Nat) : Int), H, I.tok _, ⟨_, rfl⟩, q⟩
/-! ### a lambda is made -/
theorem lam_mk {X : Cx} {pins : List (Addr × Obj)} {σ : L2.St} {H : Hp} {s : Shared} {Ps : Tbs} {c P : Addr} {params : Arguments} {body : Expr} {scope : Scope} {pos : Pos} {E : Value → Shared → Prop} {Q : Value → Shared → Prop} (I : Inv X pins σ H s) (TB : LamX.TabB X.base X.mg c P) (hcode : X.env.code = .ref c)
    (hm : (P, X.env.qual ++ "<lambda>") ∈ Ps.lam) (ht : Tb Ps H) (hdef : defaultsOf params X.env = ([], [])) (hfree : ∀ y ∈ scope.names, y.2 = .free → ∃ d, X.env.cells.lookup y.1 = some d)
    (h : ∀ (f d : Addr) (pm ctv : Value) (H1 : Hp) (s' : Shared), Inv X pins σ H1 s' → Ext Ps H H1 → s'.heap.get? f = some (PySem.W.kla_obj "<lambda>" (X.env.qual ++ "<lambda>") params body scope (cloFrom X.env.cells scope.names []) pm d ctv) →
      H1 f = none → f ∉ frs X.stack → H1 d = some (LamX.CodeO d (X.env.qual ++ "<lambda>")) → Q (.ref f) s') :
    wpAny (model X.prog X.w) X.A (eval (.Lambda params body scope pos) X.env) Q E s := by
  obtain ⟨ps, hP, tr, codes⟩ := ht.lam _ hm
  have bP := TB.bm.keeps I.bk
  have gP : s.heap.get? P = some { cls := .none, data := .fields ps } := I.hok P _ hP
  have out : ∀ f, s.heap.objs.size ≤ f → f ∉ frs X.stack := fun f hf z => (List.mem_cons.mp (I.stkSub _ z)).elim (fun e => by
    have lt := I.lt
    rw [← e] at lt
    exact absurd (Nat.lt_of_lt_of_le lt hf) (Nat.lt_irrefl _)) fun e => I.nofs hf e
  have cl := closure_ok hfree
  have gl := I.mod.glob.keeps I.bk
  have hd := TB.code.keeps I.bk
  refine PySem.W.kla_eval hdef ?_
  rcases hc : codeAmong pos ps.toList with _ | cv
  · refine PySem.W.kla_makeFunction (mg := X.mg) (P := P) (ps := ps) cl I.ok.glob gl hcode hd gP tr hc TB.gP bP fun d ctv h' tk hx hge hlt hrec htb => ?_
    obtain ⟨d2, od, vs, t, e2, hod, hdd, hv⟩ := hrec
    cases e2
    have hsz : s.heap.objs.size ≤ h'.objs.size := by omega
    have nD : H d = none := I.hok.fresh hge
    have nPd : P ≠ d := ne_of_none hP nD
    let ob := PySem.W.kla_obj "<lambda>" (X.env.qual ++ "<lambda>") params body scope (cloFrom X.env.cells scope.names []) ((X.mg "__name__").getD .none) d ctv
    have I1 := LamX.inv_table (t' := tk) (more := #[rawInt pos.line, rawInt pos.col, .ref d]) (h' := h'.push ob) I hP (fun b o hb e => Heap.get?_push_of_some _ (hx b o hb e)) (Heap.get?_push_of_some _ htb) hge ⟨od, vs, t, Heap.get?_push_of_some _ hod, hdd, hv⟩
    have at0 : ∀ b o, H b = some o → b ≠ P → (upd (upd H P (.tbl (ps ++ #[rawInt pos.line, rawInt pos.col, .ref d]))) d (LamX.CodeO d (X.env.qual ++ "<lambda>"))) b = some o := fun b o e n => by
      rw [upd_ne (ne_of_none e nD), upd_ne n]
      exact e
    have atP : (upd (upd H P (.tbl (ps ++ #[rawInt pos.line, rawInt pos.col, .ref d]))) d (LamX.CodeO d (X.env.qual ++ "<lambda>"))) P = some (.tbl (ps ++ #[rawInt pos.line, rawInt pos.col, .ref d])) := by
      rw [upd_ne nPd, upd_same]
    have noT : ∀ b o, H b = some o → (∀ q, o ≠ .tbl q) → b ≠ P := fun b o e n z => by
      rw [z, hP] at e
      cases e
      exact n _ rfl
    have eL : (ps ++ #[rawInt pos.line, rawInt pos.col, .ref d]).toList = ps.toList ++ [rawInt pos.line, rawInt pos.col, .ref d] := by simp
    have atD : (upd (upd H P (.tbl (ps ++ #[rawInt pos.line, rawInt pos.col, .ref d]))) d (LamX.CodeO d (X.env.qual ++ "<lambda>"))) d = some (LamX.CodeO d (X.env.qual ++ "<lambda>")) := upd_same
    refine h h'.objs.size d ((X.mg "__name__").getD .none) ctv _ _ I1 ⟨⟨fun Q hQ => ?_, fun p hp => ?_⟩, fun b o e n => at0 b o e (noT b o e n), fun b o e => ?_⟩ (Heap.get?_push_size _ rfl) ?_ (out _ hsz) atD
    · obtain ⟨qs, h1, h2⟩ := ht.gen Q hQ
      exact ⟨qs, at0 Q _ h1 (fun z => Ps.apart _ hm (show P ∈ Ps.gen from z ▸ hQ)), h2⟩
    · by_cases hb : p.1 = P
      · have e2 : p.2 = X.env.qual ++ "<lambda>" := Ps.one p hp _ hm hb
        rw [hb, e2]
        refine ⟨_, atP, by rw [eL]; exact PySem.TriplesOk_snoc _ _ _ _ tr, fun p' cv hcv => ?_⟩
        rw [eL] at hcv
        rcases LamX.among_app _ tr hcv with z | z
        · obtain ⟨c0, e3, e4⟩ := codes p' cv z
          exact ⟨c0, e3, at0 _ _ e4 (noT _ _ e4 LamX.codeO_ne)⟩
        · exact ⟨d, z, atD⟩
      · exact tabS_keep (ht.lam p hp) (fun qs e => at0 _ _ e hb) fun b e => at0 _ _ e (noT _ _ e LamX.codeO_ne)
    · by_cases hb : b = P
      · exact ⟨_, by rw [hb]; exact atP⟩
      · exact ⟨o, at0 b o e hb⟩
    · have n1 : h'.objs.size ≠ d := by omega
      have n2 : h'.objs.size ≠ P := fun z => by
        have lt := Heap.lt_size gP
        rw [← z] at lt
        exact absurd (Nat.lt_of_lt_of_le lt hsz) (Nat.lt_irrefl _)
      rw [upd_ne n1, upd_ne n2]
      exact I.hok.fresh hsz
  · obtain ⟨d, rfl, hco⟩ := codes pos cv hc
    refine PySem.W.kla_makeFunctionHit (mg := X.mg) (P := P) (ps := ps) cl I.ok.glob gl hcode hd gP tr hc bP fun ctv h' tk hx hsz => ?_
    exact h h'.objs.size d ((X.mg "__name__").getD .none) ctv H _ (I.kept fun b o e => Heap.get?_push_of_some _ (hx b o e)) (Ext.refl ht) (Heap.get?_push_size _ rfl) (I.hok.fresh hsz) (out _ hsz) hco
end Lf

set_option maxHeartbeats 1000000
namespace Lf
open PySem PySem.Spec PyProof.Rows L2 GxR GxA SrT
/-- the reading of x(lambda: ..) -/
def tLamX (Ps : Tbs) (TT : (XK → Hp → VK → Prop) → Hp → VK → Prop) (t : XK → TE) : TE := fun σ H Q => Tb Ps H ∧ ∀ H1, Ext Ps H H1 → TT (fun E H' Q' => t E σ H' Q') H1 Q
theorem pe_lamX {X : Cx} {Ps : Tbs} {TT : (XK → Hp → VK → Prop) → Hp → VK → Prop} {x a : Str} {st : Stmt} {g cg c P : Addr} {k : Nat} {fd : FuncData} {Ng : List Str} {params : Arguments} {body : Expr} {scope : Scope} {t : XK → TE} {p lpos pos : Pos}
    (D : Def X.K X.mg x st [a] g fd cg) (Sg : FnScope Ng [a] (defScope st)) (hG : LamX.GivesTo X Ng x (defScope st) g (.ref cg) (defBody st) a (X.env.qual ++ "<lambda>") TT) (TB : LamX.TabB X.base X.mg c P) (hmT : (P, X.env.qual ++ "<lambda>") ∈ Ps.lam) (hr : Room (k + 2) X.A)
    (L : LamX.LamS X.env.scope scope) (hbody : ∀ (A : Around) (outer : List Env) (s : Shared) (H : Hp) (E : XK) (f d : Addr), Room k (A.deeper (LamX.lamEnv X scope s.heap.objs.size f d)) → Takes (LamX.lamCx X A outer s H E scope f d) (fun cls d _ H' => E cls d H') → PE (LamX.lamCx X A outer s H E scope f d) body (t E))
    (hcode : X.env.code = .ref c := by rfl) (hNg : Ng[0]? = some a := by rfl) (hva : Vis (defScope st) a := by exact Or.inl rfl) (hg : Gl X x := by rfl) (hdef : defaultsOf params X.env = ([], []) := by rfl)
    (hbind : ∀ (q : Str) (cl : List (Str × Addr)) (pm cv ctv : Value), bindArgs (PySem.W.kla_fn "<lambda>" q params body scope cl pm cv ctv) ⟨[], []⟩ = pure [] := by intros; rfl) (hdb : (x == ("__debug__" : Str)) = false := by decide) (hd : (a == ("__debug__" : Str)) = false := by decide) (hcd : (a == ("__classdict__" : Str)) = false := by decide) :
    PE X (.Call (.Name x p) [.Lambda params body scope lpos] [] pos) (tLamX Ps TT t) := by
  obtain ⟨oc, od, kV, doc, pm, an, ct, osl, efd, lk, hcg⟩ := D.F.ex
  subst efd
  refine ⟨fun pins s σ H Q I h => ?_⟩
  refine wpAny_Call_Name_kw (ld_glob I hg D.g ?_ hdb)
  refine PySem.W.callWith_K (h₀ := X.base) I.ok.mod.kin D.F.kp ?_ (by rfl) (by rfl)
  show wpAny _ _ (spliced ((false, eval (.Lambda params body scope lpos) X.env) :: backTo pos (starEach [] X.env))) _ _ _
  refine Calls.spliced_cons (lam_mk I TB hcode hmT h.1 hdef (L.has I.ok) fun f d pm' ctv H1 s' I1 e1 hf hfn hfr hco => Calls.spliced_nil ⟨I1.kIn, ?_⟩)
  have run : codeAny (model X.prog X.w) X.A (.call (.ref g) ⟨[.ref f], []⟩) (CR C8.CX0 X.stack X.prog X.w H1 s' Q C8.E0) s' := by
    refine LamX.run_ofS (N := Ng) (ps := [a]) (us := [.ref f]) (vs := [.ref f]) lk hcg Sg hr I1.env0 (D.b s' [.ref f] I1.kIn rfl) (.cons rfl .nil) rfl fun hr' => ?_
    obtain ⟨t', q1, q2⟩ := hG f d s' H1 Q (fun E H' Q' => t E σ H' Q')
      (fun W pn xe E p1 p2 tk hW => LamX.pe_act (i := 0) I1 L hf hfn hfr (hbind _ _ _ _ _) tk hW hr' (fun A outer s H hr2 => hbody A outer s H E f d hr2 (takes_of (E := E) rfl rfl rfl rfl)) hNg hva hd hcd) hco (h.2 H1 e1)
    exact ⟨t', q1.nox, q2⟩
  refine wpAny_call (codeAny_mono run fun r s2 hq => ?_)
  match r, hq with
  | .ok (.ret u), hq => exact I1.after hq
  | .error e, hq => exact False.elim hq
/-- a def called where an exception is handled -/
theorem pe_hot {X : Cx} {x : Str} {st : Stmt} {N ps : List Str} {f c : Addr} {fd : FuncData} {k : Nat} {sp : Sp} {e : Expr} {es : List Expr} {t : TA} {p pos : Pos} (D : Def X.K X.mg x st ps f fd c) (S : FnScope N ps (defScope st)) {pn : Addr × Obj} (hp : pn ∈ X.pn) (hr : L2H.RoomH (k + 1) X.A) (ha : PA X (e :: es) t) (len : ∀ vs H Q E, sp vs H Q E → vs.length = ps.length)
    (hbody : ∀ (s : Shared) (H : Hp) (vs : List V) (Q : VK), L2H.RoomH k (X.A.deeper (envOfC x (defScope st) s.heap.objs.size f (.ref c))) → sp vs H Q E0 →
      ∃ u, PSs (L2H.cxH CX0 X.prog X.w X.K X.mg X.base N x (defScope st) f (.ref c) X.A X.stack s H E0 pn) (defBody st) u ∧ u { nx := fun _ H' => Q .non H', rt := Q } (start N vs) H)
    (hg : Gl X x := by rfl) (hdb : (x == ("__debug__" : Str)) = false := by decide) (he : starEach (e :: es) X.env = (false, eval e X.env) :: starEach es X.env := by rfl) (hpl : (backTo pos (starEach es X.env)).any (·.1) = false := by rfl) :
    PE X (.Call (.Name x p) (e :: es) [] pos) (tCall sp [] E0 t) := by
  obtain ⟨oc, od, kV, doc, pm, an, ct, osl, efd, lk, hcd⟩ := D.F.ex
  subst efd
  refine ⟨fun pins s0 σ H0 Q I0 h => ?_⟩
  refine wpAny_Call_Name_kw (ld_glob I0 hg D.g ?_ hdb)
  refine PySem.W.callWith_K (h₀ := X.base) I0.ok.mod.kin D.F.kp (thn (ha.run pos pins s0 σ H0 _ I0 h) fun us s hh => ?_) he hpl
  obtain ⟨vs, H, I, rv, q⟩ := hh
  rw [List.append_nil] at q
  have hl := len _ _ _ _ q
  have P1 := I.pin pn (List.mem_append_left _ hp)
  have pin : L2H.PinOk X.stack H s pn := ⟨P1.1, P1.2.1, fun hm => (List.mem_cons.mp (I.stkSub _ hm)).elim P1.2.2.1 P1.2.2.2.1, P1.2.2.2.2⟩
  have bd := D.b s us I.kIn (by rw [List.append_nil, ← rv.length]; exact hl)
  rw [List.append_nil] at bd
  refine ⟨I.kIn, wpAny_call (codeAny_mono (R := CR CX0 X.stack X.prog X.w H s Q E0) ?_ fun r s2 hq => ?_)⟩
  · have kinds : ∀ y ∈ ps.zip us, (defScope st).names.lookup y.1 = some .local ∨ ((defScope st).names.lookup y.1 = some .cell ∧ ((cellsFrom (s.heap.objs.size + 1) (defScope st).names []).lookup y.1).isSome = true) := fun y hy => by
      have hy1 : y.1 ∈ ps := (List.of_mem_zip (show (y.1, y.2) ∈ ps.zip us from hy)).1
      exact (S.par y.1 hy1).imp (fun z => z) fun z => ⟨z, PySem.W.cellsFrom_some _ _ _ (.inl z)⟩
    refine codeAny_call_function hr.depth (I.kIn _ _ lk) rfl S.co S.gen rfl (PySem.W.codeRec_of I.kIn hcd) (bd _ _ _ _ (wpAny_newFunctionEnv_cells S.kind kinds fun env he2 s1 x1 => ?_))
    subst he2
    refine ⟨I.nolimit.keeps x1.toInCall.keep, codeAny_func ?_⟩
    obtain ⟨u, hu, hq⟩ := hbody s H vs Q (hr.deeper _) q
    have J := L2H.inv_startH (CX := CX0) (E := E0) (qual := x) (f := f) (cd := .ref c) S pin I.env0 hl rv x1
    refine wpAny_mono (hu.run [] s1 (start N vs) H _ J hq) (fun fl s' hs => ?_) fun e2 s' hs => hs
    match fl, hs with
    | .ret u2, ⟨v, σ', H', J2, r2, q2⟩ => exact ⟨v, H', J2.os, J2.bare, J2.base, J2.hok, r2, q2⟩
    | .next, ⟨σ', H', J2, q2⟩ => exact ⟨V.non, H', J2.os, J2.bare, J2.base, J2.hok, rfl, q2⟩
    | .brk, ⟨_, _, _, q2⟩ => exact q2.elim
    | .cont, ⟨_, _, _, q2⟩ => exact q2.elim
  · match r, hq with
    | .ok (.ret u), hq => exact I.after hq
    | .error e2, hq => exact False.elim hq
/-- a block's reading is wanted only of as many slots as there are names -/
theorem pss_len {X : Cx} {sts : List Stmt} {t : TS} {n : Nat} (hn : X.N.length = n) (h : PSs X sts t) : PSs X sts (fun D σ H => σ.length = n → t D σ H) :=
  ⟨fun pins s σ H D I q => h.run pins s σ H D I (q (I.len.trans hn))⟩
end Lf

set_option maxHeartbeats 1000000
/-! tuples that are known to their object: methods of them -/
namespace Lf
open PySem PySem.Spec PyProof.Rows L2
def FzT (H : Hp) (t : Addr) : Prop := ∃ (o : Obj) (u : HO), H t = some (.frz o u) ∧ o.cls = .type "tuple" ∧ o.dict = none
section
variable {X : Cx}
theorem call_tuple_frz : CallR X (.type "tuple") (fun xs H Q => ∃ p ys, xs = [.ref p] ∧ SqL X.K H p ys ∧ ∀ (l : Addr) (o : Obj), o.cls = .type "tuple" → o.dict = none → H l = none → Q (.ref l) (upd H l (.frz o (.tup ys)))) := by
  intro pins s σ H xs us Q I r h
  obtain ⟨p, ys, rfl, hq, q⟩ := h
  obtain ⟨u, rfl, rx⟩ := vals1 r
  cases rx
  obtain ⟨its, r', pl, hz⟩ := I.list hq
  have hlen := r'.length
  refine call_tuple_list pl.isList (fun h' kp => ?_) (by simp only [List.size_toArray] <;> omega)
  have I1 : L2.Inv X pins σ H { s with heap := h' } := I.kept (t' := s.toks) kp
  have I2 : L2.Inv X pins σ (upd H h'.objs.size (.frz { cls := .type "tuple", data := .seq its.toArray } (.tup ys))) { s with heap := h'.push { cls := .type "tuple", data := .seq its.toArray } } :=
    I1.laid (t' := s.toks) (fun b o e => Heap.get?_push_of_some _ e) (Nat.le_refl _) (show ObjOk X.prog X.w _ _ _ (.frz _ (.tup ys)) from ⟨Heap.get?_push_size _ rfl, hz, its, r', IsTup.new _ _⟩)
  exact ⟨.ref h'.objs.size, _, I2, rfl, q _ _ rfl rfl (I1.hok.fresh (Nat.le_refl _))⟩
def tyT (x : V) (H : Hp) : Prop := ∃ t, x = .ref t ∧ FzT H t
theorem tyT_is {pins : List (Addr × Obj)} {σ : L2.St} {H : Hp} {s : Shared} {x : V} {v : Value} (I : L2.Inv X pins σ H s) (r : RelV x v) (ty : tyT x H) :
    s.TypeIs v "tuple" ∧ ∀ a, v = .ref a → ∃ ob, s.heap.get? a = some ob ∧ ob.dict = none := by
  obtain ⟨t, rfl, o, u, h, hc, hd⟩ := ty
  cases r
  obtain ⟨e, _⟩ := (show ObjOk X.prog X.w H s.heap t (.frz o u) from I.hok t _ h)
  refine ⟨⟨o, e, hc⟩, fun a e2 => ?_⟩
  cases e2
  exact ⟨o, e, hd⟩
def tBMT (r : V → List V → Hp → VK → Prop) (to : TE) (t : TA) : TE := fun σ H Q => to σ H fun x H1 => tyT x H1 ∧ t σ H1 fun xs H2 => r x xs H2 Q
variable {o e : Expr} {es : List Expr} {to : TE} {t : TA} {name : Str} {apos cpos : Pos} {id : String} {r : V → List V → Hp → VK → Prop}
theorem pe_bmT (slot : Slot "tuple" name id) (hty : typeOf (.builtin id) = pure (.type "method_descriptor")) (hm : MtR X id r) (ho : PE X o to) (ha : PA X (e :: es) t)
    (hbase : attributeBase o name X.env (eval o X.env) = eval o X.env := by rfl)
    (hfew : ((backTo cpos (starEach (e :: es) X.env)).all (fun x => !x.1) && (backToKw cpos (keywordEach [] X.env)).all (fun x => x.1.isSome)
      && decide ((e :: es).length + ([] : List Keyword).length + (if ([] : List Keyword).isEmpty then 0 else 1) < 30)) = true := by rfl)
    (hline : (apos.endLine == cpos.line) = true := by rfl) (hs : starEach (e :: es) X.env = (false, eval e X.env) :: starEach es X.env := by rfl) (hplain : (backTo cpos (starEach es X.env)).any (·.1) = false := by rfl) :
    PE X (.Call (.Attribute o name apos) (e :: es) [] cpos) (tBMT r to t) := by
  refine ⟨fun pins s σ H Q I h => ?_⟩
  refine wpAny_Call_method_late hbase hfew hline rfl (thn (ho.run pins s σ H _ I h) fun v s1 ⟨x, H1, I1, r1, ty, q1⟩ => ?_)
  obtain ⟨h1, h2⟩ := tyT_is I1 r1 ty
  refine ⟨"tuple", id, PySem.F.plainAttrs_tuple, slot, hty, h1, h2, ?_⟩
  have hA := ha.run cpos pins s1 σ H1 _ I1 q1
  rw [hs] at hA ⊢
  refine Calls.callWith_builtin (by show (false || (backTo cpos (starEach es X.env)).any (·.1)) = false; rw [hplain] <;> rfl) (Calls.evalArgs_plain ?_)
  exact thn hA fun us s2 ⟨vs, H2, I2, r2, q2⟩ => hm pins s2 σ H2 x vs v us Q I2 r1 r2 q2
end
section
variable {Ps : Tbs} {H H' : Hp} {t : Addr}
theorem Ext.fzT (e : Ext Ps H H') (h : FzT H t) : FzT H' t := by
  obtain ⟨o, u, h1, h2, h3⟩ := h
  exact ⟨o, u, e.old t _ h1 (fun q z => by cases z), h2, h3⟩
end
end Lf

set_option maxHeartbeats 2000000
namespace Lf
open PySem PySem.Spec PyProof.Rows L2 GxR GxA SrT RZ
/-! ### data that stand in the heap -/
section
variable {K : PySem.W.Frag} {Ps : Tbs} {H H' : Hp}
mutual
theorem Ext.dp (e : Ext Ps H H') : ∀ {d : PyData} {x : V}, Dp K H x d → Dp K H' x d
  | .none, _, h => by cases h; exact .non
  | .bool b, _, h => by cases h; exact .bl b
  | .int i, _, h => by cases h; exact .int i
  | .str y, _, h => by cases h; exact .str y
  | .list ds, _, h => by
    cases h with
    | lst hs ha => exact .lst (e.sqL hs) (Ext.dpAll e ha)
  | .tuple ds, _, h => by
    cases h with
    | tup hs ha => exact .tup (e.sqT hs) (Ext.dpAll e ha)
  | .dict _, _, h => nomatch h
theorem Ext.dpAll (e : Ext Ps H H') : ∀ {ds : List PyData} {xs : List V}, DpAll K H xs ds → DpAll K H' xs ds
  | [], _, h => by cases h; exact .nil
  | d :: ds, _, h => by
    cases h with
    | cons h1 h2 => exact .cons (Ext.dp e h1) (Ext.dpAll e h2)
end
theorem dpAll_len : ∀ {ds : List PyData} {xs : List V}, DpAll K H xs ds → xs.length = ds.length
  | [], _, h => by cases h; rfl
  | d :: ds, _, h => by
    cases h with
    | cons h1 h2 => rw [List.length_cons, List.length_cons, dpAll_len h2]
theorem dpAll_get : ∀ {ds : List PyData} {xs : List V} {i : Nat} {x : V}, DpAll K H xs ds → xs[i]? = some x → ∃ d, ds[i]? = some d ∧ Dp K H x d
  | [], _, i, x, h, e => by
    cases h
    simp at e
  | d :: ds, _, 0, x, h, e => by
    cases h with
    | cons h1 h2 =>
      cases e
      exact ⟨d, rfl, h1⟩
  | d :: ds, _, i + 1, x, h, e => by
    cases h with
    | cons h1 h2 =>
      obtain ⟨d', q1, q2⟩ := dpAll_get (i := i) (x := x) h2 (by simpa using e)
      exact ⟨d', by simpa using q1, q2⟩
/-- the type's name -/
def tyN : PyData → String
  | .none => "NoneType"
  | .bool _ => "bool"
  | .int _ => "int"
  | .str _ => "str"
  | .list _ => "list"
  | .tuple _ => "tuple"
  | .dict _ => "dict"
theorem ty_lst {a : Addr} {xs : List V} (h : SqL K H a xs) : TyX K H (.ref a) (.type "list") := by
  rcases h with (h | ⟨o, h⟩) | ⟨o, _, _, h, h2, _⟩
  · exact .base (.lst h)
  · exact .base (.frz h)
  · exact .kList h h2
theorem dp_ty {x : V} {d : PyData} (h : Dp K H x d) : TyX K H x (.type (tyN d)) := by
  cases h with
  | non => exact .base .non
  | bl b => exact .base (.bl b)
  | int i => exact .base (.int i)
  | str y => exact .base (.str y)
  | lst hs ha => exact ty_lst hs
  | tup hs ha => exact ty_tup hs
end
def FBl : Hp → V → Bool → Prop := fun _ x b => x = .bl b
theorem stbB {K : PySem.W.Frag} {Ps : Tbs} : Stb K Ps FBl := ⟨fun _ _ _ _ _ h => h, fun _ _ _ _ _ _ _ h => h⟩
theorem paired_bls {H : Hp} : ∀ {ys : List V} {bs : List Bool}, Paired (FBl H) ys bs → ys = bs.map V.bl
  | _, _, .nil => rfl
  | _, _, .cons r t => by
    rw [List.map_cons, ← paired_bls t, show _ = V.bl _ from r]
/-- [.. for x, y in zip(two lists)] -/
theorem lc_zipL {K : PySem.W.Frag} {a b : Addr} {xs ys : List V} {g : TG} {tt : TT} {te : TE} {vs : List Nat} {σ : L2.St} {H1 : Hp} {D : Addr} {Qd : Hp → Prop} (hl : xs.length = ys.length) (Pv : Nat → Hp → Prop) (h0 : Pv 0 (upd H1 D (.lst []))) (hq : ∀ i H, Pv i H → SqL K H a xs ∧ SqL K H b ys)
    (hs : ∀ i x y H T, xs[i]? = some x → ys[i]? = some y → Pv i H → H T = none → g (.ref T) (wipe σ vs) (upd H T (.tup [x, y])) fun σ2 H2 => wipe σ2 vs = wipe σ vs ∧ tt σ2 H2 fun b H3 =>
      if b = true then te σ2 H3 fun y H4 => ∃ acc, H4 D = some (.lst acc) ∧ acc.length < sizeLine ∧ Pv (i + 1) (upd H4 D (.lst (acc ++ [y]))) else Pv (i + 1) H3) (hd : ∀ H, Pv xs.length H → Qd H) :
    ∃ W : Nat → Nat → Hp → Prop, (∃ m, W 0 m (upd H1 D (.lst []))) ∧ ∀ i m H, W i m H →
      ((Itz K a b).stop i H ∧ Qd H) ∨ ((Itz K a b).go i H ∧ ∃ Nx : Hp → Prop, (∀ H', Nx H' → ∃ m', m' < m ∧ W (i + 1) m' H') ∧ ∀ x H', (Itz K a b).yld i H x H' → g x (wipe σ vs) H' fun σ2 H2 => wipe σ2 vs = wipe σ vs ∧ tt σ2 H2 fun b H3 =>
        if b = true then te σ2 H3 fun y H4 => ∃ acc, H4 D = some (.lst acc) ∧ acc.length < sizeLine ∧ Nx (upd H4 D (.lst (acc ++ [y]))) else Nx H3) := by
  refine ⟨fun i m H => m = xs.length - i ∧ i ≤ xs.length ∧ Pv i H, ⟨xs.length, by simp, Nat.zero_le _, h0⟩, ?_⟩
  rintro i m H ⟨rfl, hi, p⟩
  obtain ⟨q1, q2⟩ := hq i H p
  by_cases hlt : i < xs.length
  · have hlt2 : i < ys.length := by omega
    refine .inr ⟨⟨xs, ys, xs[i], ys[i], q1, q2, List.getElem?_eq_getElem hlt, List.getElem?_eq_getElem hlt2⟩, Pv (i + 1), fun H' p' => ⟨xs.length - (i + 1), by omega, rfl, hlt, p'⟩, fun x H' y => ?_⟩
    obtain ⟨T, z, u, rfl, hT, rfl, hz, hu⟩ := y
    exact hs i z u H T (hz xs q1) (hu ys q2) p hT
  · have e : i = xs.length := by omega
    subst e
    exact .inl ⟨⟨xs, ys, q1, q2, .inl (Nat.le_refl _)⟩, hd H p⟩
theorem lc_zipT {K : PySem.W.Frag} {a b : Addr} {xs ys : List V} {g : TG} {tt : TT} {te : TE} {vs : List Nat} {σ : L2.St} {H1 : Hp} {D : Addr} {Qd : Hp → Prop} (hl : xs.length = ys.length) (Pv : Nat → Hp → Prop) (h0 : Pv 0 (upd H1 D (.lst []))) (hq : ∀ i H, Pv i H → SqT K H a xs ∧ SqT K H b ys)
    (hs : ∀ i x y H T, xs[i]? = some x → ys[i]? = some y → Pv i H → H T = none → g (.ref T) (wipe σ vs) (upd H T (.tup [x, y])) fun σ2 H2 => wipe σ2 vs = wipe σ vs ∧ tt σ2 H2 fun b H3 =>
      if b = true then te σ2 H3 fun y H4 => ∃ acc, H4 D = some (.lst acc) ∧ acc.length < sizeLine ∧ Pv (i + 1) (upd H4 D (.lst (acc ++ [y]))) else Pv (i + 1) H3) (hd : ∀ H, Pv xs.length H → Qd H) :
    ∃ W : Nat → Nat → Hp → Prop, (∃ m, W 0 m (upd H1 D (.lst []))) ∧ ∀ i m H, W i m H →
      ((ItzT K a b).stop i H ∧ Qd H) ∨ ((ItzT K a b).go i H ∧ ∃ Nx : Hp → Prop, (∀ H', Nx H' → ∃ m', m' < m ∧ W (i + 1) m' H') ∧ ∀ x H', (ItzT K a b).yld i H x H' → g x (wipe σ vs) H' fun σ2 H2 => wipe σ2 vs = wipe σ vs ∧ tt σ2 H2 fun b H3 =>
        if b = true then te σ2 H3 fun y H4 => ∃ acc, H4 D = some (.lst acc) ∧ acc.length < sizeLine ∧ Nx (upd H4 D (.lst (acc ++ [y]))) else Nx H3) := by
  refine ⟨fun i m H => m = xs.length - i ∧ i ≤ xs.length ∧ Pv i H, ⟨xs.length, by simp, Nat.zero_le _, h0⟩, ?_⟩
  rintro i m H ⟨rfl, hi, p⟩
  obtain ⟨q1, q2⟩ := hq i H p
  by_cases hlt : i < xs.length
  · have hlt2 : i < ys.length := by omega
    refine .inr ⟨⟨xs, ys, xs[i], ys[i], q1, q2, List.getElem?_eq_getElem hlt, List.getElem?_eq_getElem hlt2⟩, Pv (i + 1), fun H' p' => ⟨xs.length - (i + 1), by omega, rfl, hlt, p'⟩, fun x H' y => ?_⟩
    obtain ⟨T, z, u, rfl, hT, rfl, hz, hu⟩ := y
    exact hs i z u H T (hz xs q1) (hu ys q2) p hT
  · have e : i = xs.length := by omega
    subst e
    exact .inl ⟨⟨xs, ys, q1, q2, .inl (Nat.le_refl _)⟩, hd H p⟩
end Lf

set_option maxHeartbeats 4000000
namespace Lf
open PySem PySem.Spec PyProof.Rows L2 GxR GxA SrT RZ
abbrev nSame : List Str := ["_law_found", "_law_due", "_law_one", "_law_other"]
theorem lay_mem : ∀ {ds : List PyData} {d : PyData}, PyData.canLayAll0 ds = true → d ∈ ds → d.canLay0 = true
  | e :: ds, d, h, hd => by
    rw [PyData.canLayAll0, Bool.and_eq_true] at h
    rcases List.mem_cons.mp hd with q | q
    · rw [q]
      exact h.1
    · exact lay_mem h.2 q
theorem dep_mem : ∀ {ds : List PyData} {d : PyData}, d ∈ ds → d.depth ≤ PyData.depthAll ds
  | e :: ds, d, hd => by
    rw [PyData.depthAll]
    rcases List.mem_cons.mp hd with q | q
    · rw [q]
      exact Nat.le_max_left _ _
    · exact Nat.le_trans (dep_mem q) (Nat.le_max_right _ _)
mutual
/-- no list and no tuple of more than a thousand -/
def wide : PyData → Bool
  | .list ds => decide (ds.length ≤ 1000) && wideAll ds
  | .tuple ds => decide (ds.length ≤ 1000) && wideAll ds
  | .dict _ => true
  | .none => true
  | .bool _ => true
  | .int _ => true
  | .str _ => true
def wideAll : List PyData → Bool
  | [] => true
  | d :: ds => wide d && wideAll ds
end
theorem wideAll_mem : ∀ {ds : List PyData} {d : PyData}, wideAll ds = true → d ∈ ds → wide d = true
  | e :: ds, d, h, hd => by
    rw [wideAll, Bool.and_eq_true] at h
    rcases List.mem_cons.mp hd with q | q
    · rw [q]
      exact h.1
    · exact wideAll_mem h.2 q
/-- isinstance of data, by the type's name -/
theorem isi_b {K : PySem.W.Frag} {b : String} {d : PyData} {r : Bool} (h : kitB (tyN d) b = some r) : PySem.W.kitOne K (.type (tyN d)) (.type b) = some r := kit_ty h
section
variable {P : Program} {w : World} {K : PySem.W.Frag} {mg : Str → Option Value} {base : Heap} {Ps : Tbs} {H H' H0 : Hp} {f c : Addr} {fd : FuncData}
/-- the same data are told to be the same -/
def spSame (K : PySem.W.Frag) (Ps : Tbs) : Nat → Sp
  | 0 => fun _ _ _ _ => False
  | m + 1 => fun vs H Q _ => ∃ (x y : V) (d : PyData), vs = [x, y] ∧ Dp K H x d ∧ Dp K H y d ∧ d.canLay0 = true ∧ wide d = true ∧ d.depth ≤ m ∧ m ≤ 60 ∧ Tb Ps H ∧ ∀ H', Ext Ps H H' → Q (.bl true) H'
end
end Lf

set_option maxHeartbeats 2000000
namespace Lf
open PySem PySem.Spec PyProof.Rows L2 GxR GxA SrT
abbrev nLink : List Str := ["stack", "part", "n", "k", "faces", "rest", "face"]
section
variable {P : Program} {w : World} {K : PySem.W.Frag} {mg : Str → Option Value} {base : Heap} {Ps : Tbs} {H H' H0 : Hp} {k : Nat} {f c : Addr} {fd : FuncData}
/-- a stack, and a rising tuple of points -/
structure AskP (K : PySem.W.Frag) (Ps : Tbs) (H : Hp) (x y : V) (n k : Int) (fss : List (List Int)) (z : List Int) : Prop where
  stk : Stk K H x n k fss
  ok : StkOk n k fss
  part : TupI K H y z
  ris : RisB n.toNat z
  tb : Tb Ps H
theorem AskP.ext {x y : V} {n k : Int} {fss : List (List Int)} {z : List Int} (h : AskP K Ps H x y n k fss z) (e : Ext Ps H H') : AskP K Ps H' x y n k fss z := ⟨e.stk h.stk, h.ok, e.tupI h.part, h.ris, e.tb⟩
theorem RisB.len {n : Nat} {g : List Int} (h : RisB n g) : g.length ≤ n := by
  have z := nd_le h.nd (D := rng n) fun x hx => in_rng (h.2 x hx).1 (h.2 x hx).2
  rw [rng_len] at z
  exact z
/-! ### is_part, need_part -/
def spIsPart (K : PySem.W.Frag) (Ps : Tbs) : Sp := fun vs H Q _ => ∃ (x y : V) (n kk : Int) (fss : List (List Int)) (z : List Int), vs = [x, y] ∧ AskP K Ps H x y n kk fss z ∧ ∀ H', Ext Ps H H' → Q (.bl (inSome z fss)) H'
def spNeedPart (K : PySem.W.Frag) (Ps : Tbs) : Sp := fun vs H Q _ => ∃ (x y : V) (n kk : Int) (fss : List (List Int)) (z : List Int), vs = [x, y] ∧ AskP K Ps H x y n kk fss z ∧ inSome z fss = true ∧ ∀ H', Ext Ps H H' → Q .non H'
/-! ### sides -/
def sidesN (fc : List Int) (kk : Int) : List (List Int) := (sortL (subsL fc)).filter fun p => decide ((p.length : Int) = kk - 1)
def spSides (K : PySem.W.Frag) (Ps : Tbs) : Sp := fun vs H Q _ => ∃ (x : V) (n kk i : Int) (fss : List (List Int)) (fc : List Int), vs = [x, .int i] ∧ Stk K H x n kk fss ∧ StkOk n kk fss ∧ 0 ≤ i ∧ i < (fss.length : Int) ∧ fss[i.toNat]? = some fc ∧ Tb Ps H ∧
  ∀ (l : Addr) (ys : List V) (H' : Hp), Ext Ps H H' → H l = none → H' l = some (.lst ys) → Paired (TupI K H') ys (sidesN fc kk) → Q (.ref l) H'
end
end Lf

set_option maxHeartbeats 2000000
namespace Lf
open PySem PySem.Spec PyProof.Rows L2 GxR GxA SrT
/-! ### links: the mathematics -/
def restL (fss : List (List Int)) (z : List Int) : List (List Int) := (fss.filter fun f => hasAll f z).map fun f => lessL f z
def linkL (fss : List (List Int)) (z : List Int) : List (List Int) := sortL (restL fss z)
theorem mem_lessL {f z : List Int} {x : Int} : x ∈ lessL f z ↔ x ∈ f ∧ x ∉ z := by
  unfold lessL
  rw [List.mem_filter]
  simp
theorem lessL_sub (f z : List Int) : (lessL f z).Sublist f := List.filter_sublist
theorem mem_linkL {fss : List (List Int)} {z g : List Int} : g ∈ linkL fss z ↔ ∃ f ∈ fss, (∀ x ∈ z, x ∈ f) ∧ g = lessL f z := by
  unfold linkL restL
  rw [(sortL_perm _).mem_iff, List.mem_map]
  constructor
  · rintro ⟨f, hf, e⟩
    obtain ⟨h1, h2⟩ := List.mem_filter.mp hf
    exact ⟨f, h1, hasAll_true.mp h2, e.symm⟩
  · rintro ⟨f, h1, h2, e⟩
    exact ⟨f, List.mem_filter.mpr ⟨h1, hasAll_true.mpr h2⟩, e.symm⟩
/-- how many are left -/
theorem lessL_len {f z : List Int} (hf : f.Nodup) (hz : z.Nodup) (h : ∀ x ∈ z, x ∈ f) : (lessL f z).length + z.length = f.length := by
  have e1 := filt_split (fun p => !decide (p ∈ z)) f
  have e2 : (f.filter fun x => !!decide (x ∈ z)).length = z.length := by
    have p : (f.filter fun x => !!decide (x ∈ z)).Perm z := (List.perm_ext_iff_of_nodup (hf.filter _) hz).mpr fun x => by
      rw [List.mem_filter]
      constructor
      · rintro ⟨_, h2⟩
        simpa using h2
      · intro hx
        exact ⟨h x hx, by simpa using hx⟩
    exact p.length_eq
  unfold lessL
  omega
/-- two rising ones of which the same is left are the same -/
theorem lessL_inj {n : Nat} {f g z : List Int} (hf : RisB n f) (hg : RisB n g) (h1 : ∀ x ∈ z, x ∈ f) (h2 : ∀ x ∈ z, x ∈ g) (e : lessL f z = lessL g z) : f = g := by
  have p : f.Perm g := (List.perm_ext_iff_of_nodup hf.nd hg.nd).mpr fun x => by
    by_cases hx : x ∈ z
    · exact ⟨fun _ => h2 x hx, fun _ => h1 x hx⟩
    · have e' : x ∈ lessL f z ↔ x ∈ lessL g z := by rw [e]
      rw [mem_lessL, mem_lessL] at e'
      constructor
      · intro h
        exact (e'.mp ⟨h, hx⟩).1
      · intro h
        exact (e'.mpr ⟨h, hx⟩).1
  exact List.Perm.eq_of_pairwise (fun a b _ _ h1 h2 => by omega) hf.1 hg.1 p
theorem nd_restL {n : Nat} {fss : List (List Int)} {z : List Int} (hr : ∀ f ∈ fss, RisB n f) (nd : fss.Nodup) : (restL fss z).Nodup := by
  unfold restL
  rw [List.nodup_iff_pairwise_ne, List.pairwise_map]
  refine List.Pairwise.imp_of_mem (fun {a b} ha hb hab e => ?_) (nd.filter _)
  obtain ⟨a1, a2⟩ := List.mem_filter.mp ha
  obtain ⟨b1, b2⟩ := List.mem_filter.mp hb
  exact hab (lessL_inj (hr a a1) (hr b b1) (hasAll_true.mp a2) (hasAll_true.mp b2) e)
theorem le_strict {l : List (List Int)} (h : l.Pairwise fun x y => le x y = true) (nd : l.Nodup) : l.Pairwise fun x y => lex x y = true :=
  List.Pairwise.imp₂ (fun a b h1 h2 => by
    cases e : lex a b with
    | true => rfl
    | false =>
      have e2 : lex b a = false := by simpa [le] using h1
      exact absurd (lex_tot a b e e2) h2) h nd
/-- a link is a stack -/
theorem StkOk.link {n k : Int} {fss : List (List Int)} {z : List Int} (S : StkOk n k fss) (hz : RisB n.toNat z) (hp : inSome z fss = true) : StkOk n (k - z.length) (linkL fss z) := by
  have F := S.faces
  have hn1 := S.n1
  have hk0 := S.k0
  have hk4 := S.k4
  have hkn := S.kn
  have hn8 := S.n8
  have nd : fss.Nodup := lex_nd S.srt
  obtain ⟨f0, hf0, hs0⟩ := inSome_true.mp hp
  have hl : ∀ g ∈ linkL fss z, g.length + z.length = k.toNat ∧ RisB n.toNat g := fun g hg => by
    obtain ⟨f, hf, hs, rfl⟩ := mem_linkL.mp hg
    have hr := F.ris f hf
    refine ⟨?_, hr.1.sublist (lessL_sub f z), fun i hi => hr.2 i ((lessL_sub f z).subset hi)⟩
    rw [← F.len f hf]
    exact lessL_len hr.nd hz.nd hs
  have h0 := hl _ (mem_linkL.mpr ⟨f0, hf0, hs0, rfl⟩)
  refine ⟨hn1, hn8, by omega, by omega, by omega, ?_, ?_, fun g hg => by have := (hl g hg).1; omega, fun g hg => (hl g hg).2.1, fun g hg i hi => by have := (hl g hg).2.2 i hi; omega, le_strict (sortL_pw _) ((sortL_perm _).nodup_iff.mpr (nd_restL F.ris nd))⟩
  · exact List.length_pos_of_mem (mem_linkL.mpr ⟨f0, hf0, hs0, rfl⟩)
  · unfold linkL restL
    rw [(sortL_perm _).length_eq, List.length_map]
    exact Nat.le_trans (List.length_filter_le _ _) S.l70
theorem linkL_le (fss : List (List Int)) (z : List Int) : (linkL fss z).length ≤ fss.length := by
  unfold linkL restL
  rw [(sortL_perm _).length_eq, List.length_map]
  exact List.length_filter_le _ _
section
variable {P : Program} {w : World} {K : PySem.W.Frag} {mg : Str → Option Value} {base : Heap} {Ps : Tbs} {H H' H0 : Hp} {k : Nat} {f c : Addr} {fd : FuncData}
def spLink (K : PySem.W.Frag) (Ps : Tbs) : Sp := fun vs H Q _ => ∃ (x y : V) (n kk : Int) (fss : List (List Int)) (z : List Int), vs = [x, y] ∧ AskP K Ps H x y n kk fss z ∧ inSome z fss = true ∧ ∀ v H', Ext Ps H H' → Stk K H' v n (kk - z.length) (linkL fss z) → Q v H'
theorem fmap_take {α β : Type} (p : α → Bool) (g : α → β) {l : List α} {i : Nat} {y : α} (h : l[i]? = some y) : ((l.take (i + 1)).filter p).map g = ((l.take i).filter p).map g ++ (if p y = true then [g y] else []) := by
  rw [filt_take p h, List.map_append]
  cases p y <;> rfl
end
end Lf

set_option maxHeartbeats 2000000
namespace Lf
open PySem PySem.Spec PyProof.Rows L2 GxR GxA SrT
/-! ### a stack's data -/
def stkD (n k : Int) (fss : List (List Int)) : PyData := .tuple [.int n, .int k, .tuple (fss.map tD)]
section
variable {K : PySem.W.Frag} {H : Hp}
theorem dp_stk {v : V} {n k : Int} {fss : List (List Int)} (h : Stk K H v n k fss) : Dp K H v (stkD n k fss) := by
  obtain ⟨a, fa, xs, rfl, h1, h2, h3⟩ := h
  exact .tup h1 (.cons (.int n) (.cons (.int k) (.cons (.tup h2 (dp_tups h3)) .nil)))
end
theorem wide_ints : ∀ ns : List Int, wideAll (iD ns) = true
  | [] => rfl
  | i :: ns => by
    show wideAll (.int i :: iD ns) = true
    rw [wideAll, wide_ints ns]
    rfl
theorem wide_tups {fss : List (List Int)} (h : ∀ f ∈ fss, f.length ≤ 1000) : wideAll (fss.map tD) = true := by
  induction fss with
  | nil => rfl
  | cons f fss ih =>
    rw [List.map_cons, wideAll, ih fun g hg => h g (List.mem_cons_of_mem _ hg), Bool.and_true]
    show wide (.tuple (iD f)) = true
    rw [wide, wide_ints, Bool.and_true]
    refine decide_eq_true ?_
    rw [List.length_map]
    exact h f List.mem_cons_self
theorem stkD_ok {n k : Int} {fss : List (List Int)} (h : fss.length ≤ 1000) (h4 : ∀ f ∈ fss, f.length ≤ 4) : (stkD n k fss).canLay0 = true ∧ wide (stkD n k fss) = true ∧ (stkD n k fss).depth ≤ 3 := by
  refine ⟨?_, ?_, ?_⟩
  · simp [stkD, PyData.canLay0, PyData.canLayAll0, lay_tups]
  · have z := wide_tups (fss := fss) fun f hf => by have := h4 f hf; omega
    unfold stkD
    rw [wide, wideAll, wideAll, wideAll, wideAll, wide, wide, wide, z, Bool.and_true, Bool.and_true]
    simp only [List.length_cons, List.length_nil, List.length_map, Bool.true_and, Bool.and_eq_true, decide_eq_true_eq]
    omega
  · have z := dep_tups fss
    simp only [stkD, PyData.depth, PyData.depthAll]
    omega
theorem StkOk.data {n k : Int} {fss : List (List Int)} (S : StkOk n k fss) : (stkD n k fss).canLay0 = true ∧ wide (stkD n k fss) = true ∧ (stkD n k fss).depth ≤ 3 := stkD_ok (by have := S.l70; omega) S.len4
/-- all faces of so many points -/
theorem all_stk {n k : Nat} (h1 : 1 ≤ n) (h8 : n ≤ 8) (hk : k ≤ n) (h4 : k ≤ 4) (hl : (allF n k).length ≤ 70) : StkOk n k (allF n k) := by
  refine ⟨by omega, by omega, by omega, by omega, by omega, allF_ne hk, hl, fun f hf => ?_, fun f hf => (mem_allF.mp hf).1.1, fun f hf i hi => (mem_allF.mp hf).1.2 i hi, le_strict (sortL_pw _) (nodup_allF n k)⟩
  have := (mem_allF.mp hf).2
  omega
theorem paired_drop {α γ : Type} {G : α → γ → Prop} : ∀ {m : Nat} {xs : List α} {ys : List γ}, Paired G xs ys → Paired G (xs.drop m) (ys.drop m)
  | 0, _, _, h => h
  | m + 1, _, _, .nil => .nil
  | m + 1, _, _, .cons _ t => paired_drop (m := m) t
/-- t[m:] -/
theorem cut_from {xs : List V} {m : Nat} (h : m ≤ xs.length) : cutV xs (some (m : Int)) none = xs.drop m := by
  unfold cutV
  rw [HT.sIx_nat, HT.sIx_none, Nat.min_eq_left h, List.take_of_length_le]
  rw [List.length_drop]
  omega
/-- the faces of k of m points from lo on, as they rise -/
def pickF : Nat → Nat → Nat → List (List Int)
  | _, _, 0 => [[]]
  | 0, _, _ + 1 => []
  | m + 1, lo, k + 1 => (pickF m (lo + 1) k).map (fun g => (lo : Int) :: g) ++ pickF m (lo + 1) (k + 1)
theorem pick83 : allF 8 3 = pickF 8 0 3 := by
  unfold allF
  exact (eq_sortL (by decide +kernel) (by decide +kernel)).symm
theorem pick84 : allF 8 4 = pickF 8 0 4 := by
  unfold allF
  exact (eq_sortL (by decide +kernel) (by decide +kernel)).symm
end Lf

set_option maxHeartbeats 2000000
/-! things of any kind, and what the program makes of them -/
namespace Lf
open PySem PySem.Spec PyProof.Rows L2 GxR GxA SrT
mutual
/-- the thing x is the data d; its lists and dicts stand where F says -/
inductive ThF (K : PySem.W.Frag) (H : Hp) (F : Addr → Prop) : V → PyData → Prop
  | non : ThF K H F .non .none
  | bl (b : Bool) : ThF K H F (.bl b) (.bool b)
  | int (i : Int) : ThF K H F (.int i) (.int i)
  | str (z : Str) : ThF K H F (.str z) (.str z)
  | lst {a : Addr} {xs : List V} {ds : List PyData} : F a → SqL K H a xs → ThAllF K H F xs ds → ThF K H F (.ref a) (.list ds)
  | tup {a : Addr} {xs : List V} {ds : List PyData} : SqT K H a xs → ThAllF K H F xs ds → ThF K H F (.ref a) (.tuple ds)
  | dic {a : Addr} : F a → H a = some (.dK []) → ThF K H F (.ref a) (.dict [])
inductive ThAllF (K : PySem.W.Frag) (H : Hp) (F : Addr → Prop) : List V → List PyData → Prop
  | nil : ThAllF K H F [] []
  | cons {v : V} {vs : List V} {d : PyData} {ds : List PyData} : ThF K H F v d → ThAllF K H F vs ds → ThAllF K H F (v :: vs) (d :: ds)
end
abbrev Th (K : PySem.W.Frag) (H : Hp) : V → PyData → Prop := ThF K H fun _ => True
abbrev ThAll (K : PySem.W.Frag) (H : Hp) : List V → List PyData → Prop := ThAllF K H fun _ => True
section
variable {K : PySem.W.Frag} {Ps : Tbs} {H H' : Hp} {F F' : Addr → Prop}
mutual
theorem Ext.th (e : Ext Ps H H') : ∀ {d : PyData} {x : V}, ThF K H F x d → ThF K H' F x d
  | .none, _, h => by cases h; exact .non
  | .bool b, _, h => by cases h; exact .bl b
  | .int i, _, h => by cases h; exact .int i
  | .str y, _, h => by cases h; exact .str y
  | .list ds, _, h => by
    cases h with
    | lst hf hs ha => exact .lst hf (e.sqL hs) (Ext.thAll e ha)
  | .tuple ds, _, h => by
    cases h with
    | tup hs ha => exact .tup (e.sqT hs) (Ext.thAll e ha)
  | .dict _, _, h => by
    cases h with
    | dic hf hd => exact .dic hf (e.old _ _ hd fun q z => by cases z)
theorem Ext.thAll (e : Ext Ps H H') : ∀ {ds : List PyData} {xs : List V}, ThAllF K H F xs ds → ThAllF K H' F xs ds
  | [], _, h => by cases h; exact .nil
  | d :: ds, _, h => by
    cases h with
    | cons h1 h2 => exact .cons (Ext.th e h1) (Ext.thAll e h2)
end
mutual
theorem ThF.imp (e : ∀ a, F a → F' a) : ∀ {d : PyData} {x : V}, ThF K H F x d → ThF K H F' x d
  | .none, _, h => by cases h; exact .non
  | .bool b, _, h => by cases h; exact .bl b
  | .int i, _, h => by cases h; exact .int i
  | .str y, _, h => by cases h; exact .str y
  | .list ds, _, h => by
    cases h with
    | lst hf hs ha => exact .lst (e _ hf) hs (ThAllF.imp e ha)
  | .tuple ds, _, h => by
    cases h with
    | tup hs ha => exact .tup hs (ThAllF.imp e ha)
  | .dict _, _, h => by
    cases h with
    | dic hf hd => exact .dic (e _ hf) hd
theorem ThAllF.imp (e : ∀ a, F a → F' a) : ∀ {ds : List PyData} {xs : List V}, ThAllF K H F xs ds → ThAllF K H F' xs ds
  | [], _, h => by cases h; exact .nil
  | d :: ds, _, h => by
    cases h with
    | cons h1 h2 => exact .cons (ThF.imp e h1) (ThAllF.imp e h2)
end
theorem ThF.th {x : V} {d : PyData} (h : ThF K H F x d) : Th K H x d := h.imp fun _ _ => trivial
theorem ThAllF.th {xs : List V} {ds : List PyData} (h : ThAllF K H F xs ds) : ThAll K H xs ds := h.imp fun _ _ => trivial
mutual
/-- a list that is none of its own is written -/
theorem ThF.put {r : Addr} {l l' : List V} (hr : H r = some (.lst l)) (hn : ∀ a, F a → a ≠ r) : ∀ {d : PyData} {x : V}, ThF K H F x d → ThF K (upd H r (.lst l')) F x d
  | .none, _, h => by cases h; exact .non
  | .bool b, _, h => by cases h; exact .bl b
  | .int i, _, h => by cases h; exact .int i
  | .str y, _, h => by cases h; exact .str y
  | .list ds, _, h => by
    cases h with
    | lst hf hs ha =>
      refine .lst hf ?_ (ThAllF.put hr hn ha)
      rcases hs with (h | ⟨o, h⟩) | h
      · exact .inl (.inl (by rw [upd_ne (hn _ hf)]; exact h))
      · exact .inl (.inr ⟨o, by rw [upd_ne (hn _ hf)]; exact h⟩)
      · exact .inr h
  | .tuple ds, _, h => by
    cases h with
    | tup hs ha =>
      refine .tup ?_ (ThAllF.put hr hn ha)
      rcases hs with (h | ⟨o, h⟩) | h
      · exact .inl (.inl (by rw [upd_ne (ne_of h hr (by intro z; cases z))]; exact h))
      · exact .inl (.inr ⟨o, by rw [upd_ne (ne_of h hr (by intro z; cases z))]; exact h⟩)
      · exact .inr h
  | .dict _, _, h => by
    cases h with
    | dic hf hd => exact .dic hf (by rw [upd_ne (hn _ hf)]; exact hd)
theorem ThAllF.put {r : Addr} {l l' : List V} (hr : H r = some (.lst l)) (hn : ∀ a, F a → a ≠ r) : ∀ {ds : List PyData} {xs : List V}, ThAllF K H F xs ds → ThAllF K (upd H r (.lst l')) F xs ds
  | [], _, h => by cases h; exact .nil
  | d :: ds, _, h => by
    cases h with
    | cons h1 h2 => exact .cons (ThF.put hr hn h1) (ThAllF.put hr hn h2)
end
theorem thAll_len : ∀ {ds : List PyData} {xs : List V}, ThAllF K H F xs ds → xs.length = ds.length
  | [], _, h => by cases h; rfl
  | d :: ds, _, h => by
    cases h with
    | cons h1 h2 => rw [List.length_cons, List.length_cons, thAll_len h2]
theorem thAll_get : ∀ {ds : List PyData} {xs : List V} {i : Nat} {x : V}, ThAllF K H F xs ds → xs[i]? = some x → ∃ d, ds[i]? = some d ∧ ThF K H F x d
  | [], _, i, x, h, e => by
    cases h
    simp at e
  | d :: ds, _, 0, x, h, e => by
    cases h with
    | cons h1 h2 =>
      cases e
      exact ⟨d, rfl, h1⟩
  | d :: ds, _, i + 1, x, h, e => by
    cases h with
    | cons h1 h2 =>
      obtain ⟨d', q1, q2⟩ := thAll_get (i := i) (x := x) h2 (by simpa using e)
      exact ⟨d', by simpa using q1, q2⟩
theorem thAll_app : ∀ {ds es : List PyData} {xs ys : List V}, ThAllF K H F xs ds → ThAllF K H F ys es → ThAllF K H F (xs ++ ys) (ds ++ es)
  | [], _, _, _, h, h2 => by cases h; exact h2
  | d :: ds, _, _, _, h, h2 => by
    cases h with
    | cons h1 ht => exact .cons h1 (thAll_app ht h2)
theorem th_ints : ∀ ns : List Int, ThAllF K H F (ns.map V.int) (iD ns)
  | [] => .nil
  | n :: ns => .cons (.int n) (th_ints ns)
theorem th_tup {x : V} {ns : List Int} (h : TupI K H x ns) : ThF K H F x (tD ns) := by
  obtain ⟨t, rfl, hs⟩ := h
  exact .tup hs (th_ints ns)
theorem th_tups : ∀ {xs : List V} {fs : List (List Int)}, Paired (TupI K H) xs fs → ThAllF K H F xs (fs.map tD)
  | _, _, .nil => .nil
  | _, _, .cons h t => .cons (th_tup h) (th_tups t)
theorem th_stk {v : V} {n k : Int} {fss : List (List Int)} (h : Stk K H v n k fss) : ThF K H F v (stkD n k fss) := by
  obtain ⟨a, fa, xs, rfl, h1, h2, h3⟩ := h
  exact .tup h1 (.cons (.int n) (.cons (.int k) (.cons (.tup h2 (th_tups h3)) .nil)))
theorem th_ty {x : V} {d : PyData} (h : ThF K H F x d) : TyX K H x (.type (tyN d)) := by
  cases h with
  | non => exact .base .non
  | bl b => exact .base (.bl b)
  | int i => exact .base (.int i)
  | str y => exact .base (.str y)
  | lst hf hs ha => exact ty_lst hs
  | tup hs ha => exact ty_tup hs
  | dic hf hd => exact .base (.dK hd)
/-- a thing that is a tuple of ints -/
theorem th_asInts : ∀ {ds : List PyData} {xs : List V}, ThAllF K H F xs ds → (∀ d ∈ ds, ∃ i, d = .int i) → ∃ ns : List Int, xs = ns.map V.int ∧ ds = iD ns
  | [], _, h, _ => by cases h; exact ⟨[], rfl, rfl⟩
  | d :: ds, _, h, hd => by
    cases h with
    | cons h1 h2 =>
      obtain ⟨i, e⟩ := hd d List.mem_cons_self
      subst e
      cases h1
      obtain ⟨ns, e1, e2⟩ := th_asInts h2 fun d hd' => hd d (List.mem_cons_of_mem _ hd')
      exact ⟨i :: ns, by rw [e1]; rfl, by rw [e2]; rfl⟩
theorem th_asTups : ∀ {ds : List PyData} {xs : List V}, ThAllF K H F xs ds → (∀ d ∈ ds, ∃ ns, d = tD ns) → ∃ fss : List (List Int), Paired (TupI K H) xs fss ∧ ds = fss.map tD
  | [], _, h, _ => by cases h; exact ⟨[], .nil, rfl⟩
  | d :: ds, _, h, hd => by
    cases h with
    | cons h1 h2 =>
      obtain ⟨ns, e⟩ := hd d List.mem_cons_self
      subst e
      obtain ⟨fss, e1, e2⟩ := th_asTups h2 fun d hd' => hd d (List.mem_cons_of_mem _ hd')
      cases h1 with
      | tup hs ha =>
        obtain ⟨ms, e3, e4⟩ := th_asInts ha fun d hd => by
          obtain ⟨i, _, rfl⟩ := List.mem_map.mp hd
          exact ⟨i, rfl⟩
        have e5 : ns = ms := List.map_inj_right (fun a b h => by cases h; rfl) |>.mp (show ns.map PyData.int = ms.map PyData.int from e4)
        subst e5
        rw [e3] at hs
        exact ⟨ns :: fss, .cons ⟨_, rfl, hs⟩ e1, by rw [e2]; rfl⟩
end
/-! ### what is asked of data -/
def intIn (d : PyData) (lo hi : Int) : Bool := match d with
  | .int i => decide (lo ≤ i) && decide (i ≤ hi)
  | _ => false
def belowD (d : PyData) (m : Int) : Bool := match d with
  | .tuple ds => ds.all fun e => intIn e 0 (m - 1)
  | _ => false
def intsOf : PyData → List Int
  | .tuple ds => ds.map fun e => match e with
    | .int i => i
    | _ => 0
  | _ => []
theorem intsOf_tD (ns : List Int) : intsOf (tD ns) = ns := by
  show (ns.map PyData.int).map _ = ns
  rw [List.map_map]
  exact List.map_id' ns
def adjB {α : Type} (lt : α → α → Bool) : List α → Bool
  | x :: y :: r => lt x y && adjB lt (y :: r)
  | _ => true
theorem adjB_iff {α : Type} {lt : α → α → Bool} : ∀ {l : List α}, adjB lt l = true ↔ ∀ (i : Nat) (h : i + 1 < l.length), lt l[i] l[i + 1] = true
  | [] => by simp [adjB]
  | [x] => by simp [adjB]
  | x :: y :: r => by
    rw [adjB, Bool.and_eq_true, adjB_iff]
    constructor
    · rintro ⟨h1, h2⟩ i h
      cases i with
      | zero => exact h1
      | succ i => exact h2 i (by simpa using h)
    · intro h
      exact ⟨h 0 (by simp), fun i hi => h (i + 1) (by simpa using hi)⟩
theorem adjB_pw {α : Type} {lt : α → α → Bool} (tr : ∀ a b c, lt a b = true → lt b c = true → lt a c = true) : ∀ {l : List α}, adjB lt l = true ↔ l.Pairwise fun x y => lt x y = true
  | [] => by simp [adjB]
  | [x] => by simp [adjB]
  | x :: y :: r => by
    rw [adjB, Bool.and_eq_true, adjB_pw tr]
    constructor
    · rintro ⟨h1, h2⟩
      refine List.pairwise_cons.mpr ⟨fun a ha => ?_, h2⟩
      rcases List.mem_cons.mp ha with rfl | ha
      · exact h1
      · exact tr _ _ _ h1 ((List.pairwise_cons.mp h2).1 a ha)
    · intro h
      obtain ⟨h1, h2⟩ := List.pairwise_cons.mp h
      exact ⟨h1 y List.mem_cons_self, h2⟩
def ltI (a b : Int) : Bool := decide (a < b)
theorem adjI_pw {ns : List Int} : adjB ltI ns = true ↔ ns.Pairwise (· < ·) := by
  rw [adjB_pw (lt := ltI) fun a b c h1 h2 => decide_eq_true (by have := of_decide_eq_true h1; have := of_decide_eq_true h2; omega)]
  unfold ltI
  simp only [decide_eq_true_eq]
def risD (d : PyData) (m : Int) : Bool := belowD d m && adjB ltI (intsOf d)
def lenD : PyData → Nat
  | .tuple ds => ds.length
  | _ => 0
def facesD (n k : Int) (d : PyData) : Bool := match d with
  | .tuple ds => decide (1 ≤ ds.length ∧ ds.length ≤ 70) && (ds.all fun f => risD f n && decide ((lenD f : Int) = k)) && adjB lex (ds.map intsOf)
  | _ => false
def isStackD (d : PyData) : Bool := match d with
  | .tuple [.int n, .int k, f] => decide (1 ≤ n ∧ n ≤ 8) && decide (0 ≤ k ∧ k ≤ n ∧ k ≤ 4) && facesD n k f
  | _ => false
/-- below: a tuple of ints -/
theorem below_ints {d : PyData} {m : Int} (h : belowD d m = true) : ∃ ns, d = tD ns ∧ ∀ i ∈ ns, 0 ≤ i ∧ i < m := by
  cases d with
  | tuple ds =>
    have h' : ∀ e ∈ ds, intIn e 0 (m - 1) = true := List.all_eq_true.mp h
    have key : ∀ ds : List PyData, (∀ e ∈ ds, intIn e 0 (m - 1) = true) → ∃ ns : List Int, ds = iD ns ∧ ∀ i ∈ ns, 0 ≤ i ∧ i < m := by
      intro ds
      induction ds with
      | nil => intro _; exact ⟨[], rfl, fun i hi => by cases hi⟩
      | cons e ds ih =>
        intro h
        obtain ⟨ns, e1, e2⟩ := ih fun e he => h e (List.mem_cons_of_mem _ he)
        have h0 := h e List.mem_cons_self
        cases e with
        | int i =>
          have h0' : (decide (0 ≤ i) && decide (i ≤ m - 1)) = true := h0
          rw [Bool.and_eq_true, decide_eq_true_eq, decide_eq_true_eq] at h0'
          refine ⟨i :: ns, by rw [e1]; rfl, fun j hj => ?_⟩
          rcases List.mem_cons.mp hj with rfl | hj
          · omega
          · exact e2 j hj
        | _ => cases h0
    obtain ⟨ns, e1, e2⟩ := key ds h'
    exact ⟨ns, by subst e1; rfl, e2⟩
  | _ => cases h
theorem below_tD {ns : List Int} {m : Int} (h : ∀ i ∈ ns, 0 ≤ i ∧ i < m) : belowD (tD ns) m = true := by
  show (ns.map PyData.int).all _ = true
  rw [List.all_map, List.all_eq_true]
  intro i hi
  have := h i hi
  show (decide (0 ≤ i) && decide (i ≤ m - 1)) = true
  rw [decide_eq_true this.1, decide_eq_true (by omega)]
  rfl
theorem risD_iff {d : PyData} {m : Int} : risD d m = true ↔ ∃ ns, d = tD ns ∧ (∀ i ∈ ns, 0 ≤ i ∧ i < m) ∧ ns.Pairwise (· < ·) := by
  unfold risD
  rw [Bool.and_eq_true]
  constructor
  · rintro ⟨h1, h2⟩
    obtain ⟨ns, rfl, h3⟩ := below_ints h1
    rw [intsOf_tD, adjI_pw] at h2
    exact ⟨ns, rfl, h3, h2⟩
  · rintro ⟨ns, rfl, h1, h2⟩
    exact ⟨below_tD h1, by rw [intsOf_tD, adjI_pw]; exact h2⟩
end Lf

set_option maxHeartbeats 2000000
namespace Lf
open PySem PySem.Spec PyProof.Rows L2 GxR GxA SrT
section
variable {P : Program} {w : World} {K : PySem.W.Frag} {mg : Str → Option Value} {base : Heap} {Ps : Tbs} {H H' H0 : Hp} {k : Nat} {f c : Addr} {fd : FuncData}
/-! ### is_within of any thing -/
def spWithinX (K : PySem.W.Frag) : Sp := fun vs H Q _ => ∃ (x : V) (d : PyData) (lo hi : Int), vs = [x, .int lo, .int hi] ∧ Th K H x d ∧ Q (.bl (intIn d lo hi)) H
theorem ok_withinX (D : Def K mg "is_within" sWithin ["thing", "least", "most"] f fd c) (mi : mg "isinstance" = none) (mn : mg "int" = none) (mb : mg "bool" = none) : FnOk P w K mg base CX0 (k + 1) f fd ["thing", "least", "most"] (spWithinX K) := by
  refine D.ok scWithin (fun vs H Q E h => ?_) (fun A outer s H vs Q E hr h => ?_)
  · obtain ⟨x, d, lo, hi, rfl, _⟩ := h
    rfl
  · obtain ⟨x, d, lo, hi, rfl, hx, q⟩ := h
    refine ⟨_, pss_cons (ps_if (PW.pt (pw_or (pt_not (pt_val (pe_callB call_isi (by rfl) mi (by decide +kernel) (pa_cons (pv 0) (pa_cons (pe_bltn (v := .ty "int") (by rfl) mn (by decide +kernel) rfl) pa_nil)))))
        (pw_or1 (pt_val (pe_callB call_isi (by rfl) mi (by decide +kernel) (pa_cons (pv 0) (pa_cons (pe_bltn (v := .ty "bool") (by rfl) mb (by decide +kernel) rfl) pa_nil))))))) (pss_one (ps_ret pe_bl)) pss_nil)
      (pss_one (ps_ret (pe_chain op_le op_le (pv 1) (pv 0) (pv 2)))), ?_⟩
    have ty := th_ty hx
    cases d with
    | int i =>
      cases hx
      refine ⟨.int i, rfl, .int i, .ty "int", .type "int", .type "int", true, rfl, .ty _, ty, kit_ty (by decide +kernel), true, rfl, iteF ?_⟩
      refine ⟨.int i, rfl, .int i, .ty "bool", .type "int", .type "bool", false, rfl, .ty _, ty, kit_ty (by decide +kernel), false, rfl, iteF ?_⟩
      refine ⟨.int lo, rfl, .int i, rfl, lo, i, rfl, rfl, _, rfl, ?_⟩
      have q' : Q (.bl (decide (lo ≤ i) && decide (i ≤ hi))) H := q
      refine ite2 (fun hc => ?_) (fun hc => ?_)
      · have hc' : decide (lo ≤ i) = true := hc
        rw [hc', Bool.true_and] at q'
        exact ⟨.int hi, rfl, i, hi, rfl, rfl, q'⟩
      · have hc' : decide (lo ≤ i) = false := by
          cases e : decide (lo ≤ i) with
          | false => rfl
          | true => exact absurd e hc
        rw [hc', Bool.false_and] at q'
        exact q'
    | bool b =>
      cases hx
      refine ⟨.bl b, rfl, .bl b, .ty "int", .type "bool", .type "int", true, rfl, .ty _, ty, kit_ty (by decide +kernel), true, rfl, iteF ?_⟩
      exact ⟨.bl b, rfl, .bl b, .ty "bool", .type "bool", .type "bool", true, rfl, .ty _, ty, kit_ty (by decide +kernel), true, rfl, iteT q⟩
    | none => exact ⟨x, rfl, x, .ty "int", .type "NoneType", .type "int", false, rfl, .ty _, ty, kit_ty (by decide +kernel), false, rfl, iteT q⟩
    | str z => exact ⟨x, rfl, x, .ty "int", .type "str", .type "int", false, rfl, .ty _, ty, kit_ty (by decide +kernel), false, rfl, iteT q⟩
    | list ds => exact ⟨x, rfl, x, .ty "int", .type "list", .type "int", false, rfl, .ty _, ty, kit_ty (by decide +kernel), false, rfl, iteT q⟩
    | tuple ds => exact ⟨x, rfl, x, .ty "int", .type "tuple", .type "int", false, rfl, .ty _, ty, kit_ty (by decide +kernel), false, rfl, iteT q⟩
    | dict kvs => exact ⟨x, rfl, x, .ty "int", .type "dict", .type "int", false, rfl, .ty _, ty, kit_ty (by decide +kernel), false, rfl, iteT q⟩
/-- whether a thing is a tuple -/
def isTup : PyData → Bool
  | .tuple _ => true
  | _ => false
theorem tup_kit {x : V} {d : PyData} (hx : Th K H x d) : ∃ t : String, TyX K H x (.type t) ∧ kitB t "tuple" = some (isTup d) := by
  refine ⟨tyN d, th_ty hx, ?_⟩
  cases d with
  | none => exact (show kitB "NoneType" "tuple" = some false by decide +kernel)
  | bool b => exact (show kitB "bool" "tuple" = some false by decide +kernel)
  | int i => exact (show kitB "int" "tuple" = some false by decide +kernel)
  | str z => exact (show kitB "str" "tuple" = some false by decide +kernel)
  | list ds => exact (show kitB "list" "tuple" = some false by decide +kernel)
  | tuple ds => exact (show kitB "tuple" "tuple" = some true by decide +kernel)
  | dict kvs => exact (show kitB "dict" "tuple" = some false by decide +kernel)
/-! ### all_below of any thing -/
def spBelowX (K : PySem.W.Frag) (Ps : Tbs) : Sp := fun vs H Q _ => ∃ (x : V) (d : PyData) (m : Int), vs = [x, .int m] ∧ Th K H x d ∧ Tb Ps H ∧ ∀ H', Ext Ps H H' → Q (.bl (belowD d m)) H'
theorem ok_belowX {fW cW PT : Addr} {fdW : FuncData} (D : Def K mg "all_below" sBelow ["thing", "many"] f fd c) (DW : Def K mg "is_within" sWithin ["thing", "least", "most"] fW fdW cW) (TB : TabB base mg c PT) (hP : PT ∈ Ps)
    (mi : mg "isinstance" = none) (mn : mg "int" = none) (mb : mg "bool" = none) (mt : mg "tuple" = none) (ma : mg "all" = none) : FnOk P w K mg base CX0 (k + 3) f fd ["thing", "many"] (spBelowX K Ps) := by
  have GW : FnOk P w K mg base CX0 (k + 1) fW fdW ["thing", "least", "most"] (spWithinX K) := ok_withinX DW mi mn mb
  refine D.ok (k := k + 2) scBelow (fun vs H Q E h => ?_) (fun A outer s H vs Q E hr h => ?_)
  · obtain ⟨x, d, m, rfl, _⟩ := h
    rfl
  · obtain ⟨x, d, m, rfl, hx, ht, q⟩ := h
    refine ⟨_, pss_one (ps_ret (pe_and (pe_callB call_isi (by rfl) mi (by decide +kernel) (pa_cons (pv 0) (pa_cons (pe_bltn (v := .ty "tuple") (by rfl) mt (by decide +kernel) rfl) pa_nil)))
      (pe_one (pe_allG (k := k + 1) (caps := [1]) (xs := ["many"]) hr (by rfl) ma TB rfl (genS rfl rfl (by decide +kernel) rfl rfl) ⟨⟨rfl, .inl rfl, rfl⟩, trivial⟩ (by decide +kernel) (pi_tup (pv 0))
        (fun _ _ _ _ _ _ _ hr' => pcl DW GW hr' (pa_cons (pv 0) (pa_cons pe_int (pa_cons (pe_op op_sub (pv 1) pe_int) pa_nil)))) (fun _ => rfl))))), ?_⟩
    obtain ⟨t, ty, hk⟩ := tup_kit hx
    refine ⟨x, rfl, x, .ty "tuple", .type t, .type "tuple", isTup d, rfl, .ty _, ty, kit_ty hk, isTup d, rfl, ?_⟩
    cases d with
    | tuple ds =>
      cases hx with
      | @tup a xs _ hS ha =>
      refine iteT ⟨.ref a, rfl, a, rfl, ⟨_, hS⟩, ht.gen PT hP, fun H2 hT2 => ?_⟩
      have e2 := Ext.of_tabbed ht hP hT2
      refine gW_tup (xs := xs) (fun i H3 => H3 = H2 ∧ (ds.take i).all (fun e => intIn e 0 (m - 1)) = true) ⟨rfl, rfl⟩ (fun i H3 e => by rw [e.1]; exact e2.sqT hS) (fun H3 e => ?_) fun i H3 y hy e => ?_
      · obtain ⟨rfl, h2⟩ := e
        rw [thAll_len ha, List.take_length] at h2
        have z := q _ e2
        rw [show belowD (.tuple ds) m = true from h2] at z
        exact z
      · obtain ⟨rfl, h2⟩ := e
        obtain ⟨d', hd, hy'⟩ := thAll_get ha hy
        refine ⟨y, rfl, .int m, rfl, m, 1, rfl, rfl, y, d', 0, m - 1, rfl, e2.th hy', _, rfl, fun hb => ⟨rfl, ?_⟩, fun hb => ?_⟩
        · rw [List.take_add_one, hd, List.all_append, h2]
          simpa using hb
        · have z := q _ e2
          have hb' : intIn d' 0 (m - 1) = false := by simpa using hb
          have e5 : belowD (.tuple ds) m = false := by
            show ds.all _ = false
            rw [List.all_eq_false]
            exact ⟨d', List.mem_of_getElem? hd, by rw [hb']; simp⟩
          rw [e5] at z
          rw [hb']
          exact z
    | none => exact iteF (q _ (Ext.refl ht))
    | bool b => exact iteF (q _ (Ext.refl ht))
    | int i => exact iteF (q _ (Ext.refl ht))
    | str z => exact iteF (q _ (Ext.refl ht))
    | list ds => exact iteF (q _ (Ext.refl ht))
    | dict kvs => exact iteF (q _ (Ext.refl ht))
/-! ### rises, either way -/
/-- the things of xs, and whether each is less than the next -/
def AdjV (K : PySem.W.Frag) (H : Hp) (xs : List V) (b : Bool) : Prop := (∃ ns : List Int, xs = ns.map V.int ∧ b = adjB ltI ns) ∨ ∃ fss, Paired (TupI K H) xs fss ∧ b = adjB lex fss
def spRisesX (K : PySem.W.Frag) (Ps : Tbs) : Sp := fun vs H Q _ => ∃ (a : Addr) (xs : List V) (b : Bool), vs = [.ref a] ∧ SqT K H a xs ∧ AdjV K H xs b ∧ xs.length ≤ 1000 ∧ Tb Ps H ∧ ∀ H', Ext Ps H H' → Q (.bl b) H'
theorem ok_risesX {PT : Addr} (D : Def K mg "rises" sRises ["things"] f fd c) (TB : TabB base mg c PT) (hP : PT ∈ Ps) (ma : mg "all" = none) (mr : mg "range" = none) (ml : mg "len" = none) :
    FnOk P w K mg base CX0 (k + 2) f fd ["things"] (spRisesX K Ps) := by
  refine D.ok (k := k + 1) scRises (fun vs H Q E h => ?_) (fun A outer s H vs Q E hr h => ?_)
  · obtain ⟨a, xs, b, rfl, _⟩ := h
    rfl
  · obtain ⟨a, xs, b, rfl, hS, hR, hl, ht, q⟩ := h
    refine ⟨_, pss_one (ps_ret (pe_allG (k := k) (caps := [0]) (xs := ["things"]) hr (by rfl) ma TB rfl (genS rfl rfl (by decide +kernel) rfl rfl) ⟨⟨rfl, .inl rfl, rfl⟩, trivial⟩ (by decide +kernel)
      (pi_range1 (by rfl) mr (pa_cons (pe_op op_sub (pe_callB call_len_seq (by rfl) ml PySem.boot_len (pa_cons (pv 0) pa_nil)) pe_int) pa_nil))
        (fun _ _ _ _ _ _ _ hr' => pe_cmpR (OpR.or op_lt (show OpR _ _ (rLtT K) from op_ltT hr'.units0)) (pe_ix (show IxR _ (rIxT K) from ix_tup) (pv 1) (pv 0) (fun _ _ => rfl)) (pe_ix (show IxR _ (rIxT K) from ix_tup) (pv 1) (pe_op op_add (pv 0) pe_int) (fun _ _ => rfl)) (nomark _)) (fun _ => rfl))), ?_⟩
    refine ⟨.ref a, rfl, a, xs, rfl, .inr hS, (xs.length : Int), 1, rfl, rfl, (xs.length : Int) - 1, rfl, by omega, by omega, ht.gen PT hP, fun H2 hT2 => ?_⟩
    have e2 := Ext.of_tabbed ht hP hT2
    rcases hR with ⟨ns, rfl, rfl⟩ | ⟨fss, hp, rfl⟩
    · refine gW_rng (fun i H3 => H3 = H2 ∧ ∀ (j : Nat) (h : j + 1 < ns.length), j < i → ltI ns[j] ns[j + 1] = true) ⟨rfl, fun j _ hj => by omega⟩ (fun H3 e => ?_) fun i H3 hi e => ?_
      · obtain ⟨rfl, e⟩ := e
        have z := q _ e2
        rw [adjB_iff.mpr fun j hj => e j hj (by rw [List.length_map]; omega)] at z
        exact z
      · obtain ⟨rfl, e⟩ := e
        rw [List.length_map] at hi
        have h1 : i < ns.length := by omega
        have h2 : i + 1 < ns.length := by omega
        refine ⟨.ref a, rfl, .int (0 + i), rfl, a, _, 0 + i, .int ns[i], rfl, rfl, e2.sqT hS, ?_, .ref a, rfl, .int (0 + i), rfl, 0 + i, 1, rfl, rfl, a, _, 0 + i + 1, .int ns[i + 1], rfl, rfl, e2.sqT hS, ?_, ?_⟩
        · rw [Int.zero_add]
          exact atI_nat (by rw [List.getElem?_map, List.getElem?_eq_getElem h1]; rfl)
        · have : (0 + (i : Int) + 1) = ((i + 1 : Nat) : Int) := by omega
          rw [this]
          exact atI_nat (by rw [List.getElem?_map, List.getElem?_eq_getElem h2]; rfl)
        · refine .inl ⟨ns[i], ns[i + 1], rfl, rfl, ltI ns[i] ns[i + 1], rfl, fun hb => ⟨rfl, fun j hj hji => ?_⟩, fun hb => ?_⟩
          · by_cases eij : j = i
            · subst eij
              exact hb
            · exact e j hj (by omega)
          · have hb' : ltI ns[i] ns[i + 1] = false := by simpa using hb
            have z := q _ e2
            have e5 : adjB ltI ns = false := by
              cases e6 : adjB ltI ns with
              | false => rfl
              | true =>
                rw [adjB_iff.mp e6 i h2] at hb'
                cases hb'
            rw [e5] at z
            rw [hb']
            exact z
    · have hlen := Paired.length hp
      refine gW_rng (fun i H3 => H3 = H2 ∧ ∀ (j : Nat) (h : j + 1 < fss.length), j < i → lex fss[j] fss[j + 1] = true) ⟨rfl, fun j _ hj => by omega⟩ (fun H3 e => ?_) fun i H3 hi e => ?_
      · obtain ⟨rfl, e⟩ := e
        have z := q _ e2
        rw [adjB_iff.mpr fun j hj => e j hj (by omega)] at z
        exact z
      · obtain ⟨rfl, e⟩ := e
        have h1 : i < xs.length := by omega
        have h2 : i + 1 < xs.length := by omega
        refine ⟨.ref a, rfl, .int (0 + i), rfl, a, xs, 0 + i, xs[i], rfl, rfl, e2.sqT hS, ?_, .ref a, rfl, .int (0 + i), rfl, 0 + i, 1, rfl, rfl, a, xs, 0 + i + 1, xs[i + 1], rfl, rfl, e2.sqT hS, ?_, ?_⟩
        · rw [Int.zero_add]
          exact atI_nat (List.getElem?_eq_getElem h1)
        · have : (0 + (i : Int) + 1) = ((i + 1 : Nat) : Int) := by omega
          rw [this]
          exact atI_nat (List.getElem?_eq_getElem h2)
        · obtain ⟨f1, k1, ⟨t1, z1, s1⟩⟩ := paired_get hp (List.getElem?_eq_getElem h1)
          obtain ⟨f2, k2, ⟨t2, z2, s2⟩⟩ := paired_get hp (List.getElem?_eq_getElem h2)
          obtain ⟨g1, k1⟩ := List.getElem?_eq_some_iff.mp k1
          obtain ⟨g2, k2⟩ := List.getElem?_eq_some_iff.mp k2
          refine .inr ⟨t1, t2, f1, f2, z1, z2, e2.sqT s1, e2.sqT s2, lex f1 f2, rfl, fun hb => ⟨rfl, fun j hj hji => ?_⟩, fun hb => ?_⟩
          · by_cases eij : j = i
            · subst eij
              rw [k1, k2]
              exact hb
            · exact e j hj (by omega)
          · have hb' : lex f1 f2 = false := by simpa using hb
            have z := q _ e2
            have e5 : adjB lex fss = false := by
              cases e6 : adjB lex fss with
              | false => rfl
              | true =>
                have := adjB_iff.mp e6 i g2
                rw [k1, k2, hb'] at this
                cases this
            rw [e5] at z
            rw [hb']
            exact z
/-! ### is_rising of any thing -/
def spRisingX (K : PySem.W.Frag) (Ps : Tbs) : Sp := fun vs H Q _ => ∃ (x : V) (d : PyData) (m : Int), vs = [x, .int m] ∧ Th K H x d ∧ wide d = true ∧ Tb Ps H ∧ ∀ H', Ext Ps H H' → Q (.bl (risD d m)) H'
theorem ok_risingX {fB cB fR cR : Addr} {fdB fdR : FuncData} (D : Def K mg "is_rising" sRising ["thing", "many"] f fd c) (DB : Def K mg "all_below" sBelow ["thing", "many"] fB fdB cB) (DR : Def K mg "rises" sRises ["things"] fR fdR cR)
    (GB : FnOk P w K mg base CX0 (k + 3) fB fdB ["thing", "many"] (spBelowX K Ps)) (GR : FnOk P w K mg base CX0 (k + 3) fR fdR ["things"] (spRisesX K Ps)) : FnOk P w K mg base CX0 (k + 4) f fd ["thing", "many"] (spRisingX K Ps) := by
  refine D.ok (k := k + 3) scRising (fun vs H Q E h => ?_) (fun A outer s H vs Q E hr h => ?_)
  · obtain ⟨x, d, m, rfl, _⟩ := h
    rfl
  · obtain ⟨x, d, m, rfl, hx, hw, ht, q⟩ := h
    refine ⟨_, pss_one (ps_ret (pe_and (pcl DB GB hr (pa_cons (pv 0) (pa_cons (pv 1) pa_nil))) (pe_one (pcl DR GR hr (pa_cons (pv 0) pa_nil))))), ?_⟩
    refine ⟨x, rfl, .int m, rfl, x, d, m, rfl, hx, ht, fun H1 e1 => ⟨belowD d m, rfl, ?_⟩⟩
    cases hb : belowD d m with
    | false =>
      have e5 : risD d m = false := by
        unfold risD
        rw [hb]
        rfl
      have z := q _ e1
      rw [e5] at z
      exact iteF z
    | true =>
      obtain ⟨ns, rfl, hns⟩ := below_ints hb
      have e5 : risD (tD ns) m = adjB ltI ns := by
        unfold risD
        rw [hb, intsOf_tD]
        rfl
      have hl : ns.length ≤ 1000 := by
        have h0 : wide (.tuple (iD ns)) = true := hw
        rw [wide, Bool.and_eq_true, decide_eq_true_eq, List.length_map] at h0
        exact h0.1
      rw [e5] at q
      cases hx with
      | @tup a xs _ hS ha =>
      obtain ⟨ms, rfl, e4⟩ := th_asInts ha fun d hd => by
        obtain ⟨i, _, rfl⟩ := List.mem_map.mp hd
        exact ⟨i, rfl⟩
      have e6 : ns = ms := List.map_inj_right (fun a b h => by cases h; rfl) |>.mp (show ns.map PyData.int = ms.map PyData.int from e4)
      subst e6
      exact iteT ⟨.ref a, rfl, a, _, adjB ltI ns, rfl, e1.sqT hS, .inl ⟨ns, rfl, rfl⟩, by rw [List.length_map]; exact hl, e1.tb, fun H2 e2 => q _ (e1.trans e2)⟩
end
end Lf

set_option maxHeartbeats 2000000
namespace Lf
open PySem PySem.Spec PyProof.Rows L2 GxR GxA SrT
theorem lexT : ∀ {a b c : List Int}, lex a b = true → lex b c = true → lex a c = true
  | [], [], _, h, _ => by cases h
  | [], _ :: _, [], _, h => by cases h
  | [], _ :: _, _ :: _, _, _ => rfl
  | _ :: _, [], _, h, _ => by cases h
  | _ :: _, _ :: _, [], _, h => by cases h
  | x :: xs, y :: ys, z :: zs, h1, h2 => by
    have a1 : (if x = y then lex xs ys else decide (x < y)) = true := h1
    have a2 : (if y = z then lex ys zs else decide (y < z)) = true := h2
    show (if x = z then lex xs zs else decide (x < z)) = true
    by_cases e1 : x = y
    · by_cases e2 : y = z
      · rw [if_pos e1] at a1
        rw [if_pos e2] at a2
        rw [if_pos (e1.trans e2)]
        exact lexT a1 a2
      · rw [if_neg e2] at a2
        rw [if_neg (by omega)]
        have := of_decide_eq_true a2
        exact decide_eq_true (by omega)
    · rw [if_neg e1] at a1
      have b1 := of_decide_eq_true a1
      by_cases e2 : y = z
      · rw [if_neg (by omega)]
        exact decide_eq_true (by omega)
      · rw [if_neg e2] at a2
        have b2 := of_decide_eq_true a2
        rw [if_neg (by omega)]
        exact decide_eq_true (by omega)
theorem wide_tup {ds : List PyData} (h : wide (.tuple ds) = true) : ds.length ≤ 1000 ∧ ∀ d ∈ ds, wide d = true := by
  rw [wide, Bool.and_eq_true, decide_eq_true_eq] at h
  exact ⟨h.1, fun d hd => wideAll_mem h.2 hd⟩
/-- where all are rising, they are tuples of ints -/
theorem all_ris {ds : List PyData} {n k : Int} (h : (ds.all fun f => risD f n && decide ((lenD f : Int) = k)) = true) : ∃ fss : List (List Int), ds = fss.map tD ∧ ∀ g ∈ fss, (∀ i ∈ g, 0 ≤ i ∧ i < n) ∧ g.Pairwise (· < ·) ∧ (g.length : Int) = k := by
  induction ds with
  | nil => exact ⟨[], rfl, fun g hg => by cases hg⟩
  | cons d ds ih =>
    rw [List.all_cons, Bool.and_eq_true, Bool.and_eq_true, decide_eq_true_eq] at h
    obtain ⟨⟨h1, h2⟩, h3⟩ := h
    obtain ⟨fss, e1, e2⟩ := ih h3
    obtain ⟨ns, rfl, h4, h5⟩ := risD_iff.mp h1
    have h6 : (ns.length : Int) = k := by
      have z : lenD (tD ns) = ns.length := List.length_map ..
      rw [z] at h2
      exact h2
    refine ⟨ns :: fss, by rw [e1]; rfl, fun g hg => ?_⟩
    rcases List.mem_cons.mp hg with rfl | hg
    · exact ⟨h4, h5, h6⟩
    · exact e2 g hg
theorem map_ints (fss : List (List Int)) : (fss.map tD).map intsOf = fss := by
  rw [List.map_map]
  have e : (intsOf ∘ tD) = id := by
    funext g
    exact intsOf_tD g
  rw [e, List.map_id]
/-- a stack by its data -/
theorem isStackD_iff {d : PyData} : isStackD d = true ↔ ∃ n k fss, d = stkD n k fss ∧ StkOk n k fss := by
  constructor
  · intro h
    unfold isStackD at h
    split at h
    · rename_i n k f
      rw [Bool.and_eq_true, Bool.and_eq_true, decide_eq_true_eq, decide_eq_true_eq] at h
      obtain ⟨⟨hn, hk⟩, hf⟩ := h
      unfold facesD at hf
      split at hf
      · rename_i ds
        rw [Bool.and_eq_true, Bool.and_eq_true, decide_eq_true_eq] at hf
        obtain ⟨⟨hl, ha⟩, hs⟩ := hf
        obtain ⟨fss, rfl, hg⟩ := all_ris ha
        rw [map_ints, adjB_pw (lt := lex) fun a b c h1 h2 => lexT h1 h2] at hs
        rw [List.length_map] at hl
        exact ⟨n, k, fss, rfl, hn.1, hn.2, hk.1, hk.2.1, hk.2.2, hl.1, hl.2, fun g h => (hg g h).2.2, fun g h => (hg g h).2.1, fun g h => (hg g h).1, hs⟩
      · cases hf
    · cases h
  · rintro ⟨n, k, fss, rfl, S⟩
    show (decide (1 ≤ n ∧ n ≤ 8) && decide (0 ≤ k ∧ k ≤ n ∧ k ≤ 4) && facesD n k (.tuple (fss.map tD))) = true
    rw [decide_eq_true ⟨S.n1, S.n8⟩, decide_eq_true ⟨S.k0, S.kn, S.k4⟩, Bool.and_self, Bool.true_and]
    show (decide (1 ≤ (fss.map tD).length ∧ (fss.map tD).length ≤ 70) && ((fss.map tD).all fun f => risD f n && decide ((lenD f : Int) = k)) && adjB lex ((fss.map tD).map intsOf)) = true
    rw [map_ints, (adjB_pw (lt := lex) fun a b c h1 h2 => lexT h1 h2).mpr S.srt, List.length_map, decide_eq_true ⟨S.l1, S.l70⟩, Bool.true_and, Bool.and_true, List.all_map, List.all_eq_true]
    intro g hg
    show (risD (tD g) n && decide ((lenD (tD g) : Int) = k)) = true
    rw [risD_iff.mpr ⟨g, rfl, S.bel g hg, S.ris g hg⟩, Bool.true_and]
    have z : lenD (tD g) = g.length := List.length_map ..
    rw [z]
    exact decide_eq_true (S.len g hg)
section
variable {P : Program} {w : World} {K : PySem.W.Frag} {mg : Str → Option Value} {base : Heap} {Ps : Tbs} {H H' H0 : Hp} {k : Nat} {f c : Addr} {fd : FuncData}
/-! ### are_faces of any thing -/
def spAreFacesX (K : PySem.W.Frag) (Ps : Tbs) : Sp := fun vs H Q _ => ∃ (n k : Int) (x : V) (d : PyData), vs = [.int n, .int k, x] ∧ Th K H x d ∧ wide d = true ∧ Tb Ps H ∧ ∀ H', Ext Ps H H' → Q (.bl (facesD n k d)) H'
theorem ok_areFacesX {fR cR fS cS PT : Addr} {fdR fdS : FuncData} {t70 : Tok} (D : Def K mg "are_faces" sAreFaces ["n", "k", "thing"] f fd c) (DR : Def K mg "is_rising" sRising ["thing", "many"] fR fdR cR) (GR : FnOk P w K mg base CX0 k fR fdR ["thing", "many"] (spRisingX K Ps))
    (DS : Def K mg "rises" sRises ["things"] fS fdS cS) (GS : FnOk P w K mg base CX0 (k + 1) fS fdS ["things"] (spRisesX K Ps)) (TB : TabB base mg c PT) (hP : PT ∈ Ps)
    (mi : mg "isinstance" = none) (mt : mg "tuple" = none) (ml : mg "len" = none) (ma : mg "all" = none) (m70 : mg "MOST_FACES" = some (.int 70 t70)) : FnOk P w K mg base CX0 (k + 2) f fd ["n", "k", "thing"] (spAreFacesX K Ps) := by
  refine D.ok (k := k + 1) scAreFaces (fun vs H Q E h => ?_) (fun A outer s H vs Q E hr h => ?_)
  · obtain ⟨n, kk, x, d, rfl, _⟩ := h
    rfl
  · obtain ⟨n, kk, x, d, rfl, hx, hw, ht, q⟩ := h
    refine ⟨_, pss_cons (ps_if (PW.pt (pw_or (pt_not (pt_val (pe_callB call_isi (by rfl) mi (by decide +kernel) (pa_cons (pv 2) (pa_cons (pe_bltn (v := .ty "tuple") (by rfl) mt (by decide +kernel) rfl) pa_nil)))))
        (pw_or1 (pt_not (pt_chain op_le op_le pe_int (pe_callB call_len_seq (by rfl) ml PySem.boot_len (pa_cons (pv 2) pa_nil)) (pe_glob rfl m70 (v := .int 70) ⟨_, rfl⟩)))))) (pss_one (ps_ret pe_bl)) pss_nil)
      (pss_one (ps_ret (pe_and (pe_allG (k := k) (caps := [0, 1]) (xs := ["n", "k"]) hr (by rfl) ma TB rfl (genS rfl rfl (by decide +kernel) rfl rfl) ⟨⟨rfl, .inl rfl, rfl⟩, ⟨rfl, .inl rfl, rfl⟩, trivial⟩ (by decide +kernel) (pi_tup (pv 2))
        (fun _ _ _ _ _ _ _ hr' => pe_and (pcl DR GR hr' (pa_cons (pv 0) (pa_cons (pv 1) pa_nil))) (pe_one (pe_cmpR op_eq (pe_callB (call_lenS (K := K) rfl) (by rfl) ml PySem.boot_len (pa_cons (pv 0) pa_nil)) (pv 2) (nomark _)))) (fun _ => rfl))
        (pe_one (pcl DS GS hr (pa_cons (pv 2) pa_nil)))))), ?_⟩
    obtain ⟨t, ty, hk⟩ := tup_kit hx
    refine ⟨x, rfl, x, .ty "tuple", .type t, .type "tuple", isTup d, rfl, .ty _, ty, kit_ty hk, isTup d, rfl, ?_⟩
    have no : isTup d = false → facesD n kk d = false := by
      intro e
      cases d with
      | tuple ds => cases e
      | _ => rfl
    cases hd : isTup d with
    | false =>
      have z := q _ (Ext.refl ht)
      rw [no hd] at z
      exact iteT z
    | true =>
      cases d with
      | tuple ds =>
        cases hx with
        | @tup a xs _ hS ha =>
        have hlen := thAll_len ha
        obtain ⟨hw1, hw2⟩ := wide_tup hw
        refine iteF ⟨.ref a, rfl, a, xs, rfl, .inr hS, 1, (xs.length : Int), rfl, rfl, decide ((1 : Int) ≤ (xs.length : Int)), rfl, ?_⟩
        by_cases c1 : 1 ≤ ds.length ∧ ds.length ≤ 70
        · rw [decide_eq_true (show (1 : Int) ≤ (xs.length : Int) by omega)]
          refine iteT ⟨(xs.length : Int), 70, rfl, rfl, decide ((xs.length : Int) ≤ 70), rfl, ?_⟩
          rw [decide_eq_true (show (xs.length : Int) ≤ 70 by omega)]
          refine iteF ⟨.ref a, rfl, a, rfl, ⟨_, hS⟩, ht.gen PT hP, fun H2 hT2 => ?_⟩
          have e2 := Ext.of_tabbed ht hP hT2
          refine gW_tup (xs := xs) (fun i H3 => Ext Ps H H3 ∧ ((ds.take i).all fun f => risD f n && decide ((lenD f : Int) = kk)) = true) ⟨e2, rfl⟩ (fun i H3 e => e.1.sqT hS) (fun H3 e => ?_) fun i H3 y hy e => ?_
          · obtain ⟨e, h2⟩ := e
            rw [hlen, List.take_length] at h2
            have ef : facesD n kk (.tuple ds) = adjB lex (ds.map intsOf) := by
              show (decide (1 ≤ ds.length ∧ ds.length ≤ 70) && (ds.all fun f => risD f n && decide ((lenD f : Int) = kk)) && adjB lex (ds.map intsOf)) = _
              rw [decide_eq_true c1, h2]
              rfl
            rw [ef] at q
            obtain ⟨fss, rfl, hg⟩ := all_ris h2
            rw [map_ints] at q
            obtain ⟨gss, hp, e4⟩ := th_asTups (e.thAll ha) fun d hd => by
              obtain ⟨g, _, rfl⟩ := List.mem_map.mp hd
              exact ⟨g, rfl⟩
            have e5 : fss = gss := by
              have z := congrArg (List.map intsOf) e4
              rw [map_ints, map_ints] at z
              exact z
            subst e5
            exact ⟨true, rfl, iteT ⟨.ref a, rfl, a, xs, _, rfl, e.sqT hS, .inr ⟨fss, hp, rfl⟩, by omega, e.tb, fun H4 e4 => q _ (e.trans e4)⟩⟩
          · obtain ⟨e, h2⟩ := e
            obtain ⟨d', hd', hy'⟩ := thAll_get ha hy
            have hm := List.mem_of_getElem? hd'
            have wrong : (risD d' n && decide ((lenD d' : Int) = kk)) = false → facesD n kk (.tuple ds) = false := fun hb => by
              have z : (ds.all fun f => risD f n && decide ((lenD f : Int) = kk)) = false := by
                rw [List.all_eq_false]
                exact ⟨d', hm, by rw [hb]; simp⟩
              show (decide (1 ≤ ds.length ∧ ds.length ≤ 70) && (ds.all fun f => risD f n && decide ((lenD f : Int) = kk)) && adjB lex (ds.map intsOf)) = false
              rw [z, Bool.and_false, Bool.false_and]
            refine ⟨y, rfl, .int n, rfl, y, d', n, rfl, e.th hy', hw2 d' hm, e.tb, fun H4 e4 => ⟨risD d' n, rfl, ?_⟩⟩
            cases hb : risD d' n with
            | false =>
              have z := q _ (e.trans e4)
              rw [wrong (by rw [hb]; rfl)] at z
              exact iteF ⟨false, rfl, (fun y => by cases y), fun _ => ⟨false, rfl, iteF z⟩⟩
            | true =>
              obtain ⟨g, rfl, hg1, hg2⟩ := risD_iff.mp hb
              obtain ⟨gt, rfl, hgs⟩ : TupI K H4 y g := by
                cases (e4.th (e.th hy')) with
                | @tup b zs _ hS2 ha2 =>
                obtain ⟨ms, rfl, e7⟩ := th_asInts ha2 fun d hd => by
                  obtain ⟨i, _, rfl⟩ := List.mem_map.mp hd
                  exact ⟨i, rfl⟩
                have e8 : g = ms := List.map_inj_right (fun a b h => by cases h; rfl) |>.mp (show g.map PyData.int = ms.map PyData.int from e7)
                subst e8
                exact ⟨b, rfl, hS2⟩
              have el : lenD (tD g) = g.length := List.length_map ..
              refine iteT ⟨.ref gt, rfl, gt, _, rfl, .inr hgs, .int kk, rfl, rfl, decide ((g.length : Int) = kk), ?_, fun hb2 => ⟨e.trans e4, ?_⟩, fun hb2 => ?_⟩
              · rw [List.length_map]
                refine congrArg V.bl ?_
                by_cases e9 : (g.length : Int) = kk
                · rw [decide_eq_true e9, decide_eq_true (congrArg V.int e9)]
                · rw [decide_eq_false e9, decide_eq_false (fun z => e9 (V.int.inj z))]
              · rw [List.take_add_one, hd', List.all_append, h2]
                simp only [Bool.true_and, Option.toList_some, List.all_cons, List.all_nil, Bool.and_true]
                rw [hb, el, hb2]
                rfl
              · have z := q _ (e.trans e4)
                have hb3 : decide ((g.length : Int) = kk) = false := by simpa using hb2
                rw [wrong (by rw [hb, el, hb3]; rfl)] at z
                refine ⟨decide ((g.length : Int) = kk), rfl, ?_⟩
                rw [hb3]
                exact iteF z
        · have ef : facesD n kk (.tuple ds) = false := by
            show (decide (1 ≤ ds.length ∧ ds.length ≤ 70) && (ds.all fun f => risD f n && decide ((lenD f : Int) = kk)) && adjB lex (ds.map intsOf)) = false
            rw [decide_eq_false c1]
            rfl
          have z := q _ (Ext.refl ht)
          rw [ef] at z
          by_cases c2 : 1 ≤ ds.length
          · rw [decide_eq_true (show (1 : Int) ≤ (xs.length : Int) by omega)]
            refine iteT ⟨(xs.length : Int), 70, rfl, rfl, decide ((xs.length : Int) ≤ 70), rfl, ?_⟩
            rw [decide_eq_false (show ¬ (xs.length : Int) ≤ 70 by omega)]
            exact iteT z
          · rw [decide_eq_false (show ¬ (1 : Int) ≤ (xs.length : Int) by omega)]
            exact iteF ⟨false, rfl, iteT z⟩
      | _ => cases hd
end
end Lf

set_option maxHeartbeats 2000000
namespace Lf
open PySem PySem.Spec PyProof.Rows L2 GxR GxA SrT
section
variable {P : Program} {w : World} {K : PySem.W.Frag} {mg : Str → Option Value} {base : Heap} {Ps : Tbs} {H H' H0 : Hp} {k : Nat} {f c : Addr} {fd : FuncData}
/-- two promises of one def -/
theorem fn_or {CX : CXT} {ps : List Str} {sp sp' : Sp} (F : FnOk P w K mg base CX k f fd ps sp) (G : FnOk P w K mg base CX k f fd ps sp') : FnOk P w K mg base CX k f fd ps (fun vs H Q E => sp vs H Q E ∨ sp' vs H Q E) :=
  ⟨fun vs H Q E h => h.elim (F.len vs H Q E) (G.len vs H Q E), fun A outer s H args us vs Q E r0 r1 r2 r3 h => h.elim (F.run A outer s H args us vs Q E r0 r1 r2 r3) (G.run A outer s H args us vs Q E r0 r1 r2 r3)⟩
/-- a def that refuses nothing, among those that may -/
theorem fn_lift {ps : List Str} {sp : Sp} (F : FnOk P w K mg base CX0 k f fd ps sp) : FnOk P w K mg base (L2.CX P w) k f fd ps sp :=
  ⟨F.len, fun A outer s H args us vs Q E r0 r1 r2 r3 h => codeAny_mono (F.run A outer s H args us vs Q E r0 r1 r2 r3 h) fun r s' hq => match r, hq with
    | .ok (.ret _), hq => hq
    | .error _, hq => False.elim hq⟩
theorem isStackD_len {ds : List PyData} (h : ds.length ≠ 3) : isStackD (.tuple ds) = false := by
  unfold isStackD
  split
  · rename_i n k f e
    cases e
    exact absurd rfl h
  · rfl
/-- is_stack of three things -/
theorem isStackD_3 (d1 d2 d3 : PyData) : isStackD (.tuple [d1, d2, d3]) = true → ∃ n k, d1 = .int n ∧ d2 = .int k ∧ 1 ≤ n ∧ n ≤ 8 ∧ 0 ≤ k ∧ k ≤ n ∧ k ≤ 4 ∧ facesD n k d3 = true := by
  intro h
  unfold isStackD at h
  split at h
  · rename_i n k f e
    simp only [PyData.tuple.injEq, List.cons.injEq, and_true] at e
    obtain ⟨rfl, rfl, rfl⟩ := e
    rw [Bool.and_eq_true, Bool.and_eq_true, decide_eq_true_eq, decide_eq_true_eq] at h
    exact ⟨n, k, rfl, rfl, h.1.1.1, h.1.1.2, h.1.2.1, h.1.2.2.1, h.1.2.2.2, h.2⟩
  · cases h
def spIsStackX (K : PySem.W.Frag) (Ps : Tbs) : Sp := fun vs H Q _ => ∃ (x : V) (d : PyData), vs = [x] ∧ Th K H x d ∧ wide d = true ∧ Tb Ps H ∧ ∀ H', Ext Ps H H' → Q (.bl (isStackD d)) H'
theorem ok_isStackX {fW cW fA cA : Addr} {fdW fdA : FuncData} {t8 t4 : Tok} (D : Def K mg "is_stack" sIsStack ["thing"] f fd c) (DW : Def K mg "is_within" sWithin ["thing", "least", "most"] fW fdW cW) (GW : FnOk P w K mg base CX0 k fW fdW ["thing", "least", "most"] (spWithinX K))
    (DA : Def K mg "are_faces" sAreFaces ["n", "k", "thing"] fA fdA cA) (GA : FnOk P w K mg base CX0 k fA fdA ["n", "k", "thing"] (spAreFacesX K Ps))
    (mi : mg "isinstance" = none) (mt : mg "tuple" = none) (ml : mg "len" = none) (mm : mg "min" = none) (m8 : mg "MOST_POINTS" = some (.int 8 t8)) (m4 : mg "MOST_IN_FACE" = some (.int 4 t4)) : FnOk P w K mg base CX0 (k + 1) f fd ["thing"] (spIsStackX K Ps) := by
  refine D.ok (k := k) scIsStack (fun vs H Q E h => ?_) (fun A outer s H vs Q E hr h => ?_)
  · obtain ⟨x, d, rfl, _⟩ := h
    rfl
  · obtain ⟨x, d, rfl, hx, hw, ht, q⟩ := h
    refine ⟨_, pss_cons (ps_if (PW.pt (pw_or (pt_not (pt_val (pe_callB call_isi (by rfl) mi (by decide +kernel) (pa_cons (pv 0) (pa_cons (pe_bltn (v := .ty "tuple") (by rfl) mt (by decide +kernel) rfl) pa_nil)))))
        (pw_or1 (pt_cmpR op_ne (pe_callB (call_lenS (K := K) rfl) (by rfl) ml PySem.boot_len (pa_cons (pv 0) pa_nil)) pe_int (nomark _))))) (pss_one (ps_ret pe_bl)) pss_nil)
      (pss_cons (ps_asg (pv 0) (pg_tup (by rfl) (pgs_cons (pg_name (i := 1) scIsStack.nd rfl (.inl rfl)) (pgs_cons (pg_name (i := 2) scIsStack.nd rfl (.inl rfl)) (pgs_cons (pg_name (i := 3) scIsStack.nd rfl (.inl rfl)) pgs_nil)))))
      (pss_cons (ps_if (PW.pt (pw_or (pt_not (pt_val (pcl DW GW hr (pa_cons (pv 1) (pa_cons pe_int (pa_cons (pe_glob rfl m8 (v := .int 8) ⟨_, rfl⟩) pa_nil))))))
        (pw_or1 (pt_not (pt_val (pcl DW GW hr (pa_cons (pv 2) (pa_cons pe_int (pa_cons (pe_callB (call_min2 rfl) (by rfl) mm (by decide +kernel) (pa_cons (pv 1) (pa_cons (pe_glob rfl m4 (v := .int 4) ⟨_, rfl⟩) pa_nil))) pa_nil))))))))) (pss_one (ps_ret pe_bl)) pss_nil)
      (pss_one (ps_ret (pcl DA GA hr (pa_cons (pv 1) (pa_cons (pv 2) (pa_cons (pv 3) pa_nil)))))))), ?_⟩
    obtain ⟨t, ty, hk⟩ := tup_kit hx
    have qf : isStackD d = false → Q (.bl false) H := fun e => by
      have z := q _ (Ext.refl ht)
      rw [e] at z
      exact z
    refine ⟨x, rfl, x, .ty "tuple", .type t, .type "tuple", isTup d, rfl, .ty _, ty, kit_ty hk, isTup d, rfl, ?_⟩
    cases d with
    | tuple ds =>
      cases hx with
      | @tup a xs _ hS ha =>
      have hlen := thAll_len ha
      refine iteF ⟨.ref a, rfl, a, xs, rfl, .inr hS, rfl, !decide (xs.length = 3), ?_, ?_⟩
      · refine congrArg V.bl ?_
        by_cases e : xs.length = 3
        · rw [decide_eq_true e, decide_eq_true (by rw [e]; rfl)]
        · rw [decide_eq_false e, decide_eq_false (fun z => e (by have := V.int.inj z; omega))]
      match ds, xs, ha, hlen with
      | [d1, d2, d3], [x1, x2, x3], .cons h1 (.cons h2 (.cons h3 .nil)), _ =>
        obtain ⟨_, hw2⟩ := wide_tup hw
        refine iteF ⟨.ref a, rfl, a, _, rfl, hS, rfl, _, _, rfl, _, _, rfl, _, _, rfl, rfl, ?_⟩
        refine ⟨x1, rfl, x1, d1, 1, 8, rfl, h1, intIn d1 1 8, rfl, ?_⟩
        cases b1 : intIn d1 1 8 with
        | false =>
          refine iteT (qf ?_)
          cases e : isStackD (.tuple [d1, d2, d3]) with
          | false => rfl
          | true =>
            obtain ⟨n, kk, rfl, rfl, e1, e2, _⟩ := isStackD_3 _ _ _ e
            rw [show intIn (.int n) 1 8 = true from by show (decide (1 ≤ n) && decide (n ≤ 8)) = true; rw [decide_eq_true e1, decide_eq_true e2]; rfl] at b1
            cases b1
        | true =>
          cases d1 with
          | int n =>
            cases h1
            have hn : 1 ≤ n ∧ n ≤ 8 := by
              have z : (decide (1 ≤ n) && decide (n ≤ 8)) = true := b1
              rw [Bool.and_eq_true, decide_eq_true_eq, decide_eq_true_eq] at z
              exact z
            have hmin : ∀ m : Int, (m ≤ n ∧ m ≤ 4 ∧ (m = n ∨ m = 4)) → (∃ b : Bool, V.bl (intIn d2 0 m) = V.bl b ∧ (if (!b) = true then Q (.bl false) H else tCall (spAreFacesX K Ps) [] E0 (tCons (tVar 1) (tCons (tVar 2) (tCons (tVar 3) tNil))) [some (.ref a), some (.int n), some x2, some x3] H Q)) := by
              intro m hm
              refine ⟨intIn d2 0 m, rfl, ?_⟩
              cases b2 : intIn d2 0 m with
              | false =>
                refine iteT (qf ?_)
                cases e : isStackD (.tuple [.int n, d2, d3]) with
                | false => rfl
                | true =>
                  obtain ⟨n', kk, e0, rfl, e1, e2, e3, e4, e5, _⟩ := isStackD_3 _ _ _ e
                  cases e0
                  rw [show intIn (.int kk) 0 m = true from by show (decide (0 ≤ kk) && decide (kk ≤ m)) = true; rw [decide_eq_true e3, decide_eq_true (by omega)]; rfl] at b2
                  cases b2
              | true =>
                cases d2 with
                | int kk =>
                  cases h2
                  have hkk : 0 ≤ kk ∧ kk ≤ m := by
                    have z : (decide (0 ≤ kk) && decide (kk ≤ m)) = true := b2
                    rw [Bool.and_eq_true, decide_eq_true_eq, decide_eq_true_eq] at z
                    exact z
                  have hk2 : kk ≤ n ∧ kk ≤ 4 := by omega
                  have e6 : isStackD (.tuple [.int n, .int kk, d3]) = facesD n kk d3 := by
                    show (decide (1 ≤ n ∧ n ≤ 8) && decide (0 ≤ kk ∧ kk ≤ n ∧ kk ≤ 4) && facesD n kk d3) = _
                    rw [decide_eq_true hn, decide_eq_true ⟨hkk.1, hk2.1, hk2.2⟩]
                    rfl
                  refine iteF ⟨.int n, rfl, .int kk, rfl, x3, rfl, n, kk, x3, d3, rfl, h3, hw2 d3 (by simp), ht, fun H' e => ?_⟩
                  rw [← e6]
                  exact q H' e
                | _ => cases b2
            refine iteF ⟨x2, rfl, .int n, rfl, n, 4, rfl, x2, d2, 0, _, rfl, h2, ?_⟩
            obtain ⟨b, e1, e2⟩ := hmin _ (show (if (4 : Int) < n then (4 : Int) else n) ≤ n ∧ _ from by split <;> omega)
            exact ⟨b, e1, e2⟩
          | _ => cases b1
      | [], [], _, _ => exact iteT (qf (isStackD_len (by simp)))
      | [_], [_], _, _ => exact iteT (qf (isStackD_len (by simp)))
      | [_, _], [_, _], _, _ => exact iteT (qf (isStackD_len (by simp)))
      | d1 :: d2 :: d3 :: d4 :: ds, x1 :: x2 :: x3 :: x4 :: xs, _, _ =>
        have e3 : decide ((x1 :: x2 :: x3 :: x4 :: xs).length = 3) = false := decide_eq_false (by simp)
        rw [e3]
        exact iteT (qf (isStackD_len (by simp)))
    | none => exact iteT (qf rfl)
    | bool b => exact iteT (qf rfl)
    | int i => exact iteT (qf rfl)
    | str z => exact iteT (qf rfl)
    | list ds => exact iteT (qf rfl)
    | dict kvs => exact iteT (qf rfl)
end
end Lf

set_option maxHeartbeats 4000000
namespace Lf
open PySem PySem.Spec PyProof.Rows L2 GxR GxA SrT
/-- the classes of refusals by their names -/
structure Kinds (mg : Str → Option Value) (C : Nat → Addr) : Prop where
  n0 : mg "NoStack" = some (.ref (C 0))
  n1 : mg "NoNumber" = some (.ref (C 1))
  n2 : mg "NoPart" = some (.ref (C 2))
  n3 : mg "NoLot" = some (.ref (C 3))
  n4 : mg "NoRow" = some (.ref (C 4))
  n5 : mg "NoOrder" = some (.ref (C 5))
  n6 : mg "NoNames" = some (.ref (C 6))
  n7 : mg "NoRim" = some (.ref (C 7))
  n8 : mg "NoTaking" = some (.ref (C 8))
  n9 : mg "NoText" = some (.ref (C 9))
  n10 : mg "NoLine" = some (.ref (C 10))
  n11 : mg "NoDeed" = some (.ref (C 11))
  n12 : mg "TooGreat" = some (.ref (C 12))
/-- the class at D is the i-th -/
structure Kind (K : PySem.W.Frag) (C : Nat → Addr) (CL : Addr) (i : Nat) (D : Addr) : Prop where
  lt : i < 12
  exc : ExcC K D
  kit : ∀ j, j < 13 → PySem.W.kitOne K (.ref D) (.ref (C j)) = some (decide (j = i))
  ve : PySem.W.kitOne K (.ref D) (.type "ValueError") = some true
  lay : PySem.W.exmOne K (.ref D) (.ref CL) = some true
def words : List Str := ["stack", "number", "part", "lot", "row", "order", "names", "rim", "taking", "text", "line", "deed"]
def wordOf (i : Nat) : Str := words.getD i ""
def boolsAt (i : Nat) : List Bool := (List.range 13).map fun j => decide (j = i)
theorem bools_dp {K : PySem.W.Frag} {H : Hp} : ∀ bs : List Bool, DpAll K H (bs.map V.bl) (bs.map PyData.bool)
  | [] => .nil
  | b :: bs => .cons (.bl b) (bools_dp bs)
theorem eqv_bools : PyData.eqv (.bool true) (.bool true) = true ∧ PyData.eqv (.bool false) (.bool true) = false := ⟨by simp [PyData.eqv], by simp [PyData.eqv]⟩
theorem bools_count (i : Nat) (h : i < 12) : ((boolsAt i).map PyData.bool).countP (fun z => PyData.eqv z (.bool true)) = 1 := by
  have e : ∀ b : Bool, PyData.eqv (.bool b) (.bool true) = b := fun b => by cases b <;> simp [PyData.eqv]
  rw [List.countP_map]
  have e2 : ((fun z => PyData.eqv z (.bool true)) ∘ PyData.bool) = id := by
    funext b
    exact e b
  rw [e2]
  have z : ((List.range 12).all fun i => decide ((boolsAt i).countP id = 1)) = true := by decide +kernel
  exact of_decide_eq_true (List.all_eq_true.mp z i (List.mem_range.mpr h))
theorem bools_at {i j : Nat} (h : j < 13) : ((boolsAt i).map PyData.bool)[j]? = some (.bool (decide (j = i))) := by
  unfold boolsAt
  rw [List.getElem?_map, List.getElem?_map, List.getElem?_range h]
  rfl
theorem bools_plain : ∀ bs : List Bool, PyData.plainAll (bs.map PyData.bool) = true ∧ PyData.canLayAll0 (bs.map PyData.bool) = true ∧ PyData.depthAll (bs.map PyData.bool) = 0
  | [] => ⟨by simp [PyData.plainAll], by simp [PyData.canLayAll0], by simp [PyData.depthAll]⟩
  | b :: bs => by
    obtain ⟨h1, h2, h3⟩ := bools_plain bs
    exact ⟨by simp [PyData.plainAll, PyData.plain, h1], by simp [PyData.canLayAll0, PyData.canLay0, h2], by simp [PyData.depthAll, PyData.depth, h3]⟩
section
variable {K : PySem.W.Frag} {mg : Str → Option Value} {C : Nat → Addr} {CL : Addr}
/-- what the kinds are told to be -/
def spKinds (Ps : Tbs) (a : Addr) (i : Nat) : Sp := fun vs H Q _ => vs = [.ref a] ∧ Tb Ps H ∧ ∀ H', Ext Ps H H' → Q (.str (wordOf i)) H'
end
end Lf

set_option maxHeartbeats 4000000
namespace Lf
open PySem PySem.Spec PyProof.Rows L2 GxR GxA SrT
section
variable {K : PySem.W.Frag} {mg : Str → Option Value} {C : Nat → Addr} {CL : Addr}
/-- what a call of _law_refused makes of the lambda's reading -/
def TRef (K : PySem.W.Frag) (C : Nat → Addr) (CL : Addr) (Ps : Tbs) : (XK → Hp → VK → Prop) → Hp → VK → Prop := fun tl H Q =>
  tl (fun cls d H' => d = none ∧ ∃ i D, cls = .ref D ∧ Kind K C CL i D ∧ Tb Ps H' ∧ ∀ H2, Ext Ps H' H2 → Q (.str (wordOf i)) H2) H (fun _ H' => Q (.str "told") H')
end
end Lf

set_option maxHeartbeats 1000000
namespace Lf
open PySem PySem.Spec PyProof.Rows L2 GxR GxA SrT
section
variable {P : Program} {w : World} {K : PySem.W.Frag} {mg : Str → Option Value} {base : Heap} {Ps : Tbs} {H H' H0 : Hp} {k : Nat} {f c : Addr} {fd : FuncData}
theorem cut_ints (ns : List Int) (lo hi : Option Int) : ∃ ms : List Int, ms.Sublist ns ∧ cutV (ns.map V.int) lo hi = ms.map V.int := by
  refine ⟨(ns.drop (HT.sIx (ns.map V.int).length 0 lo)).take (HT.sIx (ns.map V.int).length (ns.map V.int).length hi - HT.sIx (ns.map V.int).length 0 lo), (List.take_sublist _ _).trans (List.drop_sublist _ _), ?_⟩
  unfold cutV
  rw [List.map_take, List.map_drop]
theorem Epn.ext {a : Addr} (e : Ext Ps H0 H) (n : H0 a = none) (p : Epn Ps a H H') : Ext Ps H0 H' := by
  refine ⟨p.tb, fun b o q nt => p.old b o (ne_of_none q n) (e.old b o q nt) nt, fun b o q => ?_⟩
  obtain ⟨o', q'⟩ := e.there b o q
  exact p.there b o' q'
def spLaw (K : PySem.W.Frag) (Ps : Tbs) : Sp := fun vs H Q _ => ∃ (a : Addr) (ns : List Int), vs = [.ref a] ∧ SqL K H a (ns.map V.int) ∧ ns.length ≤ 63 ∧ Tb Ps H ∧ ∀ H', Q (.bl true) H'
end
end Lf

set_option maxHeartbeats 2000000
namespace Lf
open PySem PySem.Spec PyProof.Rows L2 GxR GxA SrT
abbrev nWithout : List Str := ["stack", "point", "n", "k", "faces", "rest", "face"]
abbrev nPartsL : List Str := ["_law_stack_here", "_law_many", "_law_found", "_law_one", "_law_face"]
abbrev nLinkL : List Str := ["_law_stack_here", "_law_part", "_law_rest", "_law_face", "_law_point"]
/-! ### the mathematics -/
def withoutL (fss : List (List Int)) (p : Int) : List (List Int) := fss.filter fun f => !decide (p ∈ f)
theorem allF_le {n k : Nat} (h : n ≤ 8) : (allF n k).length ≤ 256 := by
  unfold allF
  rw [(sortL_perm _).length_eq]
  have h1 := allK_len n k
  have h2 : 2 ^ n ≤ 2 ^ 8 := Nat.pow_le_pow_right (by omega) h
  have h3 : ((allK n k).filter fun g => decide (g.length = k)).length ≤ (allK n k).length := List.length_filter_le _ _
  omega
theorem partsN_le {n m : Nat} {fss : List (List Int)} (h : n ≤ 8) : (partsN n fss m).length ≤ 256 := Nat.le_trans (List.length_filter_le _ _) (allF_le h)
def everyN (n k : Nat) (fss : List (List Int)) : List (List Int) := (List.range k).flatMap fun m => partsN n fss m
theorem everyN_succ (n k : Nat) (fss : List (List Int)) : everyN n (k + 1) fss = everyN n k fss ++ partsN n fss k := by
  unfold everyN
  rw [List.range_succ, List.flatMap_append]
  simp
theorem everyN_le {n k : Nat} {fss : List (List Int)} (h : n ≤ 8) : (everyN n k fss).length ≤ 256 * k := by
  induction k with
  | zero => simp [everyN]
  | succ k ih =>
    rw [everyN_succ, List.length_append]
    have := partsN_le (m := k) (fss := fss) h
    omega
theorem eqv_nil (gs : List (List Int)) : PyData.eqv (.list (gs.map tD)) (.list []) = gs.isEmpty := by
  cases gs with
  | nil => simp [PyData.eqv, PyData.eqvAll]
  | cons g gs => simp [PyData.eqv, PyData.eqvAll]
theorem inSome_filt (g : List Int) (fss : List (List Int)) : (!(fss.filter fun fc => hasAll fc g).isEmpty) = inSome g fss := by
  unfold inSome
  rw [Bool.eq_iff_iff, Bool.not_eq_true', List.any_eq_true, List.isEmpty_eq_false_iff_exists_mem]
  constructor
  · rintro ⟨f, hf⟩
    obtain ⟨h1, h2⟩ := List.mem_filter.mp hf
    exact ⟨f, h1, h2⟩
  · rintro ⟨f, h1, h2⟩
    exact ⟨f, List.mem_filter.mpr ⟨h1, h2⟩⟩
theorem StkOk.without {n k : Int} {fss : List (List Int)} {p : Int} (S : StkOk n k fss) (h : withoutL fss p ≠ []) : StkOk n k (withoutL fss p) := by
  have sub : (withoutL fss p).Sublist fss := List.filter_sublist
  refine ⟨S.n1, S.n8, S.k0, S.kn, S.k4, ?_, Nat.le_trans sub.length_le S.l70, fun f hf => S.len f (sub.subset hf), fun f hf => S.ris f (sub.subset hf), fun f hf => S.bel f (sub.subset hf), S.srt.sublist sub⟩
  cases e : withoutL fss p with
  | nil => exact absurd e h
  | cons _ _ => simp
theorem tupI_seqI {K : PySem.W.Frag} {H : Hp} {x : V} {ns : List Int} (h : TupI K H x ns) : SeqI K H x ns := let ⟨t, e, hs⟩ := h; ⟨t, e, .inr hs⟩
section
variable {P : Program} {w : World} {K : PySem.W.Frag} {mg : Str → Option Value} {base : Heap} {Ps : Tbs} {H H' H0 : Hp} {k : Nat} {f c : Addr} {fd : FuncData}
/-! ### without -/
def spWithout (K : PySem.W.Frag) (Ps : Tbs) (CN : Addr) : Sp := fun vs H Q E => ∃ (x : V) (n kk i : Int) (fss : List (List Int)), vs = [x, .int i] ∧ Stk K H x n kk fss ∧ StkOk n kk fss ∧ 0 ≤ i ∧ i < n ∧ Tb Ps H ∧
  (withoutL fss i ≠ [] → ∀ v H', Ext Ps H H' → Stk K H' v n kk (withoutL fss i) → Q v H') ∧ (withoutL fss i = [] → ∀ H', Ext Ps H H' → E (.ref CN) none H')
/-! ### _law_parts -/
def spPartsL (K : PySem.W.Frag) (Ps : Tbs) : Sp := fun vs H Q _ => ∃ (x : V) (n kk m : Int) (fss : List (List Int)), vs = [x, .int m] ∧ Stk K H x n kk fss ∧ StkOk n kk fss ∧ 0 ≤ m ∧ m ≤ kk ∧ Tb Ps H ∧
  ∀ (l : Addr) (ys : List V) (H' : Hp), Ext Ps H H' → H l = none → H' l = some (.lst ys) → Paired (TupI K H') ys (partsN n.toNat fss m.toNat) → Q (.ref l) H'
/-! ### _law_every_part -/
def spEvery (K : PySem.W.Frag) (Ps : Tbs) : Sp := fun vs H Q _ => ∃ (x : V) (n kk : Int) (fss : List (List Int)), vs = [x] ∧ Stk K H x n kk fss ∧ StkOk n kk fss ∧ Tb Ps H ∧
  ∀ (l : Addr) (ys : List V) (H' : Hp), Ext Ps H H' → H l = none → H' l = some (.lst ys) → Paired (TupI K H') ys (everyN n.toNat (kk.toNat + 1) fss) → Q (.ref l) H'
/-! ### _law_link -/
def spLinkL (K : PySem.W.Frag) (Ps : Tbs) : Sp := fun vs H Q _ => ∃ (x y : V) (n kk : Int) (fss : List (List Int)) (z : List Int), vs = [x, y] ∧ AskP K Ps H x y n kk fss z ∧ ∀ v H', Ext Ps H H' → Stk K H' v n (kk - z.length) (linkL fss z) → Q v H'
end
end Lf

set_option maxHeartbeats 2000000
namespace Lf
open PySem PySem.Spec PyProof.Rows L2 GxR GxA SrT
/-- raise x(e) -/
theorem ps_refuse1 {X : Cx} {x : Str} {C : Addr} {e : Expr} {ta : TE} {p pos pos' : Pos} {E : XK} (R : Ref X.K X.mg x C) (tk : Takes X fun cls d _ H => E cls d H) (he : PE X e ta) (hc : X.calm = true := by rfl) (hg : Gl X x := by rfl) (hs : starEach [e] X.env = (false, eval e X.env) :: starEach [] X.env := by rfl) (hdb : (x == ("__debug__" : Str)) = false := by decide) :
    PS X (.Raise (some (.Call (.Name x p) [e] [] pos)) none pos') (fun _ σ H => ta σ H fun _ H1 => E (.ref C) none H1) := by
  obtain ⟨B, nI, iI, bmB, F, q⟩ := R.ex
  exact ps_raise hc tk (SkE.pmk_own1 F q R.g R.kp (raises_own R.sub R.ty) hg he hs hdb)
theorem log_small {i : Int} (h : i.natAbs ≤ 1000) : i.natAbs.log2 < 11 := by
  by_cases e : i.natAbs = 0
  · rw [e]
    decide
  · exact (Nat.log2_lt e).mpr (by omega)
theorem text_small {i : Int} (h : i.natAbs ≤ 1000) : (Str.ofString (toString i)).length ≤ 12 := by
  rw [PySem.ofString_length]
  exact int_text_length_le (by decide) (log_small h)
section
variable {P : Program} {w : World} {K : PySem.W.Frag} {mg : Str → Option Value} {base : Heap} {Ps : Tbs} {H H' H0 : Hp} {k : Nat} {f c : Addr} {fd : FuncData} {CS CN CL CR CO CP : Addr}
/-! ### need_stack, need_within, need_face, need_lot, refusing -/
def spNeedStackX (K : PySem.W.Frag) (Ps : Tbs) (CS : Addr) : Sp := fun vs H _ E => ∃ (x : V) (d : PyData), vs = [x] ∧ Th K H x d ∧ wide d = true ∧ isStackD d = false ∧ Tb Ps H ∧ ∀ H', Ext Ps H H' → E (.ref CS) none H'
theorem ok_needStackX {fS cS : Addr} {fdS : FuncData} (D : Def K mg "need_stack" sNeedStack ["stack"] f fd c) (DS : Def K mg "is_stack" sIsStack ["thing"] fS fdS cS) (GS : FnOk P w K mg base CX0 k fS fdS ["thing"] (spIsStackX K Ps)) (RS : Ref K mg "NoStack" CS) : FnOk P w K mg base (L2.CX P w) (k + 1) f fd ["stack"] (spNeedStackX K Ps CS) := by
  refine D.okX (k := k) scNeedStack (fun vs H Q E h => ?_) (fun A outer s H vs Q E hr tk h => ?_)
  · obtain ⟨x, d, rfl, _⟩ := h
    rfl
  · obtain ⟨x, d, rfl, hx, hw, hd, ht, q⟩ := h
    refine ⟨_, pss_one (ps_if (pt_not (pt_val (pcl DS GS hr (pa_cons (pv 0) pa_nil)))) (pss_one (ps_refuse RS tk)) pss_nil), ?_⟩
    refine ⟨x, rfl, x, d, rfl, hx, hw, ht, fun H1 e1 => ⟨false, by rw [hd], iteT (q _ e1)⟩⟩
def spNeedWithinX (K : PySem.W.Frag) (CN : Addr) : Sp := fun vs H _ E => ∃ (x : V) (d : PyData) (lo hi : Int), vs = [x, .int lo, .int hi] ∧ Th K H x d ∧ intIn d lo hi = false ∧ lo.natAbs ≤ 1000 ∧ hi.natAbs ≤ 1000 ∧ E (.ref CN) none H
theorem ok_needWithinX {fW cW : Addr} {fdW : FuncData} (D : Def K mg "need_within" sNeedWithin ["number", "least", "most"] f fd c) (DW : Def K mg "is_within" sWithin ["thing", "least", "most"] fW fdW cW) (GW : FnOk P w K mg base CX0 k fW fdW ["thing", "least", "most"] (spWithinX K)) (RN : Ref K mg "NoNumber" CN) :
    FnOk P w K mg base (L2.CX P w) (k + 1) f fd ["number", "least", "most"] (spNeedWithinX K CN) := by
  refine D.okX (k := k) scNeedWithin (fun vs H Q E h => ?_) (fun A outer s H vs Q E hr tk h => ?_)
  · obtain ⟨x, d, lo, hi, rfl, _⟩ := h
    rfl
  · obtain ⟨x, d, lo, hi, rfl, hx, hd, b1, b2, q⟩ := h
    refine ⟨_, pss_one (ps_if (pt_not (pt_val (pcl DW GW hr (pa_cons (pv 0) (pa_cons (pv 1) (pa_cons (pv 2) pa_nil)))))) (pss_one (ps_refuse1 RN tk (pe_joined (.cons pe_str (.cons (pe_fmt (pv 1)) (.cons pe_str (.cons (pe_fmt (pv 2)) .nil))))))) pss_nil), ?_⟩
    refine ⟨x, rfl, .int lo, rfl, .int hi, rfl, x, d, lo, hi, rfl, hx, false, by rw [hd], iteT ?_⟩
    have t1 := text_small b1
    have t2 := text_small b2
    have sl := sizeLine_eq
    have l0 : (Str.empty ++ ("no whole number from " : Str)).length = 21 := by decide
    have l1 : (" to " : Str).length = 4 := by decide
    refine ⟨_, rfl, by rw [l0]; decide, .int lo, rfl, .inr ⟨lo, rfl, Nat.lt_of_lt_of_le (log_small b1) (by decide), _, rfl, ?_, _, rfl, ?_, .int hi, rfl, .inr ⟨hi, rfl, Nat.lt_of_lt_of_le (log_small b2) (by decide), _, rfl, ?_, q⟩⟩⟩
    · rw [Str.length_append, l0]
      omega
    · rw [Str.length_append, Str.length_append, l0, l1]
      omega
    · rw [Str.length_append, Str.length_append, Str.length_append, l0, l1]
      omega
def spNeedFaceX (K : PySem.W.Frag) (CN : Addr) : Sp := fun vs H _ E => ∃ (x y : V) (n kk : Int) (fss : List (List Int)) (d : PyData), vs = [x, y] ∧ Stk K H x n kk fss ∧ fss.length ≤ 70 ∧ Th K H y d ∧ intIn d 0 ((fss.length : Int) - 1) = false ∧ E (.ref CN) none H
def spNeedLotX (K : PySem.W.Frag) (Ps : Tbs) (CL : Addr) : Sp := fun vs H _ E => ∃ (x y : V) (n kk : Int) (fss : List (List Int)) (d : PyData), vs = [x, y] ∧ Stk K H x n kk fss ∧ Th K H y d ∧ wide d = true ∧ risD d fss.length = false ∧ Tb Ps H ∧ ∀ H', Ext Ps H H' → E (.ref CL) none H'
end
end Lf

set_option maxHeartbeats 2000000
namespace Lf
open PySem PySem.Spec PyProof.Rows L2 GxR GxA SrT
theorem thAll_take {K : PySem.W.Frag} {H : Hp} {F : Addr → Prop} : ∀ {m : Nat} {ds : List PyData} {xs : List V}, ThAllF K H F xs ds → ThAllF K H F (xs.take m) (ds.take m)
  | 0, _, _, _ => by
    rw [List.take_zero, List.take_zero]
    exact .nil
  | m + 1, [], _, h => by cases h; exact .nil
  | m + 1, d :: ds, _, h => by
    cases h with
    | cons h1 h2 => exact .cons h1 (thAll_take h2)
theorem thAll_drop {K : PySem.W.Frag} {H : Hp} {F : Addr → Prop} : ∀ {m : Nat} {ds : List PyData} {xs : List V}, ThAllF K H F xs ds → ThAllF K H F (xs.drop m) (ds.drop m)
  | 0, _, _, h => h
  | m + 1, [], _, h => by cases h; exact .nil
  | m + 1, d :: ds, _, h => by
    cases h with
    | cons h1 h2 => exact thAll_drop (m := m) h2
/-- the cut of data -/
def cutD (ds : List PyData) (lo hi : Option Int) : List PyData := (ds.drop (HT.sIx ds.length 0 lo)).take (HT.sIx ds.length ds.length hi - HT.sIx ds.length 0 lo)
theorem thAll_cut {K : PySem.W.Frag} {H : Hp} {F : Addr → Prop} {ds : List PyData} {xs : List V} {lo hi : Option Int} (h : ThAllF K H F xs ds) : ThAllF K H F (cutV xs lo hi) (cutD ds lo hi) := by
  unfold cutV cutD
  rw [thAll_len h]
  exact thAll_take (thAll_drop h)
/-- ds[m:] -/
theorem cutD_from {ds : List PyData} {m : Nat} (h : m ≤ ds.length) : cutD ds (some (m : Int)) none = ds.drop m := by
  unfold cutD
  rw [HT.sIx_nat, HT.sIx_none, Nat.min_eq_left h, List.take_of_length_le]
  rw [List.length_drop]
  omega
/-- ds[:m] -/
theorem cutD_to {ds : List PyData} {m : Nat} (h : m ≤ ds.length) : cutD ds none (some (m : Int)) = ds.take m := by
  unfold cutD
  rw [HT.sIx_nat, HT.sIx_none, Nat.min_eq_left h, List.drop_zero, Nat.sub_zero]
section
variable {X : Cx} {Ps : Tbs} {F : Addr → Prop}
/-- t + u, two tuples of things -/
def rCatTh (K : PySem.W.Frag) (Ps : Tbs) : R2 := fun x y H Q => ∃ (F : Addr → Prop) (ds es : List PyData), ThF K H F x (.tuple ds) ∧ ThF K H F y (.tuple es) ∧ ds.length + es.length ≤ 1000 ∧ Tb Ps H ∧ ∀ v H3, Ext Ps H H3 → ThF K H3 F v (.tuple (ds ++ es)) → Q v H3
theorem op_catTh : OpR X (binaryOp .Add) (rCatTh X.K Ps) := by
  intro pins s σ H x y v u Q I rx ry h
  obtain ⟨F, ds, es, hx, hy, hl, ht, q⟩ := h
  cases hx with
  | @tup a xs _ ha hxa =>
  cases hy with
  | @tup b ys _ hb hyb =>
  have l1 := thAll_len hxa
  have l2 := thAll_len hyb
  refine op_catA pins s σ H _ _ v u Q I rx ry ⟨a, b, _, _, rfl, rfl, ha, hb, ?_, fun e => ?_, fun _ e => ?_, fun _ _ p np => ?_⟩
  · rw [sizeLine_eq]
    omega
  · subst e
    have e2 : ds = [] := List.length_eq_zero_iff.mp (by rw [← l1]; rfl)
    subst e2
    exact q _ _ (Ext.refl ht) (.tup hb hyb)
  · subst e
    have e2 : es = [] := List.length_eq_zero_iff.mp (by rw [← l2]; rfl)
    subst e2
    exact q _ _ (Ext.refl ht) (by rw [List.append_nil]; exact .tup ha hxa)
  · have e := Ext.new (o := .tup (xs ++ ys)) ht np
    exact q _ _ e (.tup (.inl (.inl upd_same)) (thAll_app (e.thAll hxa) (e.thAll hyb)))
/-- t[i:j] of a tuple of things -/
def rSlTh (K : PySem.W.Frag) (Ps : Tbs) : V → Option Int → Option Int → Hp → VK → Prop := fun x lo hi H Q => ∃ (F : Addr → Prop) (ds : List PyData), ThF K H F x (.tuple ds) ∧ Tb Ps H ∧ ∀ v H3, Ext Ps H H3 → ThF K H3 F v (.tuple (cutD ds lo hi)) → Q v H3
theorem sl_Th : SlR X (rSlTh X.K Ps) := by
  intro pins s σ H x v vl vu lo hi sl Q I rx hs pl pu h
  obtain ⟨F, ds, hx, ht, q⟩ := h
  cases hx with
  | @tup a xs _ ha hxa =>
  have l1 := thAll_len hxa
  refine sl_tupA pins s σ H _ v vl vu lo hi sl Q I rx hs pl pu ⟨a, _, rfl, ha, fun z => ?_, fun _ p np => ?_⟩
  · refine q _ _ (Ext.refl ht) ?_
    have e : cutD ds lo hi = ds := by
      rw [l1] at z
      unfold cutD
      rw [z.1, z.2, List.drop_zero, Nat.sub_zero, List.take_length]
    rw [e]
    exact .tup ha hxa
  · have e := Ext.new (o := .tup (cutV xs lo hi)) ht np
    exact q _ _ e (.tup (.inl (.inl upd_same)) (e.thAll (thAll_cut hxa)))
end
/-- a tuple just laid -/
theorem th_new {K : PySem.W.Frag} {H : Hp} {F : Addr → Prop} {p : Addr} {xs : List V} {ds : List PyData} {Ps : Tbs} (ht : Tb Ps H) (np : H p = none) (h : ThAllF K H F xs ds) : ThF K (upd H p (.tup xs)) F (.ref p) (.tuple ds) := .tup (.inl (.inl upd_same)) ((Ext.new (Ps := Ps) ht np).thAll h)
theorem th_newL {K : PySem.W.Frag} {H : Hp} {F : Addr → Prop} {p : Addr} {xs : List V} {ds : List PyData} {Ps : Tbs} (ht : Tb Ps H) (np : H p = none) (hF : F p) (h : ThAllF K H F xs ds) : ThF K (upd H p (.lst xs)) F (.ref p) (.list ds) := .lst hF (.inl (.inl upd_same)) ((Ext.new (Ps := Ps) ht np).thAll h)
/-- what follows a statement, by a name -/
theorem tseq_intro {t u : TS} {D : Ends} {σ : L2.St} {H : Hp} (h : ∀ R, R = u D → t { D with nx := R } σ H) : tSeq t u D σ H := h _ rfl
/-! ### the lists and dicts of a thing: new since H, standing in Y, such as S says -/
def FS (S : Addr → Prop) (H Y : Hp) : Addr → Prop := fun b => H b = none ∧ Y b ≠ none ∧ S b
section
variable {K : PySem.W.Frag} {Ps : Tbs} {H Y Y' : Hp} {S S' : Addr → Prop} {x : V} {d : PyData} {xs : List V} {ds : List PyData}
theorem fs_mono (e : Ext Ps Y Y') : ∀ b, FS S H Y b → FS S H Y' b := fun b h => ⟨h.1, fun z => h.2.1 (e.free z), h.2.2⟩
theorem Ext.thS (e : Ext Ps Y Y') (h : ThF K Y (FS S H Y) x d) : ThF K Y' (FS S H Y') x d := (e.th h).imp (fs_mono e)
theorem Ext.thAllS (e : Ext Ps Y Y') (h : ThAllF K Y (FS S H Y) xs ds) : ThAllF K Y' (FS S H Y') xs ds := (e.thAll h).imp (fs_mono e)
theorem fs_new {p : Addr} {o : HO} (z : H p = none) (hS : S p) : FS S H (upd Y p o) p := ⟨z, by rw [upd_same]; exact Option.some_ne_none _, hS⟩
theorem th_newS {p : Addr} (ht : Tb Ps Y) (np : Y p = none) (h : ThAllF K Y (FS S H Y) xs ds) : ThF K (upd Y p (.tup xs)) (FS S H (upd Y p (.tup xs))) (.ref p) (.tuple ds) := .tup (.inl (.inl upd_same)) ((Ext.new (Ps := Ps) ht np).thAllS h)
theorem th_newLS {p : Addr} (ht : Tb Ps Y) (np : Y p = none) (z : H p = none) (hS : S p) (h : ThAllF K Y (FS S H Y) xs ds) : ThF K (upd Y p (.lst xs)) (FS S H (upd Y p (.lst xs))) (.ref p) (.list ds) := .lst (fs_new z hS) (.inl (.inl upd_same)) ((Ext.new (Ps := Ps) ht np).thAllS h)
theorem th_newDS {p : Addr} (z : H p = none) (hS : S p) : ThF K (upd Y p (.dK [])) (FS S H (upd Y p (.dK []))) (.ref p) (.dict []) := .dic (fs_new z hS) upd_same
/-- a list is laid that none of them is -/
theorem thAll_hold {r : Addr} {o : HO} (ht : Tb Ps Y) (nr : Y r = none) (h : ThAllF K Y (FS S H Y) xs ds) : ThAllF K (upd Y r o) (FS (fun b => b ≠ r) H (upd Y r o)) xs ds :=
  ((Ext.new (Ps := Ps) (o := o) ht nr).thAll h).imp fun b hb => ⟨hb.1, fun z => hb.2.1 ((Ext.new (Ps := Ps) (o := o) ht nr).free z), fun z => hb.2.1 (by rw [z]; exact nr)⟩
theorem th_hold {r : Addr} {o : HO} (ht : Tb Ps Y) (nr : Y r = none) (h : ThF K Y (FS S H Y) x d) : ThF K (upd Y r o) (FS (fun b => b ≠ r) H (upd Y r o)) x d :=
  ((Ext.new (Ps := Ps) (o := o) ht nr).th h).imp fun b hb => ⟨hb.1, fun z => hb.2.1 ((Ext.new (Ps := Ps) (o := o) ht nr).free z), fun z => hb.2.1 (by rw [z]; exact nr)⟩
theorem fs_put {r : Addr} {l l' : List V} (hr : Y r = some (.lst l)) : ∀ b, FS S H Y b → FS S H (upd Y r (.lst l')) b := fun b h => ⟨h.1, fun z => by
  by_cases e : b = r
  · rw [e, upd_same] at z
    cases z
  · rw [upd_ne e] at z
    exact h.2.1 z, h.2.2⟩
theorem thAll_put {r : Addr} {l l' : List V} (hr : Y r = some (.lst l)) (h : ThAllF K Y (FS (fun b => b ≠ r) H Y) xs ds) : ThAllF K (upd Y r (.lst l')) (FS (fun b => b ≠ r) H (upd Y r (.lst l'))) xs ds := (ThAllF.put hr (fun a ha => ha.2.2) h).imp (fs_put hr)
theorem th_put {r : Addr} {l l' : List V} (hr : Y r = some (.lst l)) (h : ThF K Y (FS (fun b => b ≠ r) H Y) x d) : ThF K (upd Y r (.lst l')) (FS (fun b => b ≠ r) H (upd Y r (.lst l'))) x d := (ThF.put hr (fun a ha => ha.2.2) h).imp (fs_put hr)
theorem sqT_put {r t : Addr} {l l' ys : List V} (hr : Y r = some (.lst l)) (h : SqT K Y t ys) : SqT K (upd Y r (.lst l')) t ys := by
  rcases h with (h | ⟨o, h⟩) | h
  · exact .inl (.inl (by rw [upd_ne (ne_of h hr (by intro z; cases z))]; exact h))
  · exact .inl (.inr ⟨o, by rw [upd_ne (ne_of h hr (by intro z; cases z))]; exact h⟩)
  · exact .inr h
theorem stk_put {r : Addr} {l l' : List V} {v : V} {n k : Int} {fss : List (List Int)} (hr : Y r = some (.lst l)) (h : Stk K Y v n k fss) : Stk K (upd Y r (.lst l')) v n k fss :=
  let ⟨a, fa, zs, h1, h2, h3, h4⟩ := h
  ⟨a, fa, zs, h1, sqT_put hr h2, sqT_put hr h3, L2.Paired.mapP h4 fun _ _ z => tupI_put hr z⟩
end
/-- no stack -/
theorem bad_of {d : PyData} (h : ∀ n k fss, d = stkD n k fss → StkOk n k fss → False) : isStackD d = false := by
  cases e : isStackD d with
  | false => rfl
  | true =>
    obtain ⟨n, k, fss, e1, e2⟩ := isStackD_iff.mp e
    exact (h n k fss e1 e2).elim
theorem tD_inj {f g : List Int} (h : tD f = tD g) : f = g := by
  have := congrArg intsOf h
  rwa [intsOf_tD, intsOf_tD] at this
theorem tDs_inj {f g : List (List Int)} (h : f.map tD = g.map tD) : f = g := by
  have := congrArg (List.map intsOf) h
  rwa [map_ints, map_ints] at this
end Lf

set_option maxHeartbeats 2000000
namespace Lf
open PySem PySem.Spec PyProof.Rows L2 GxR GxA SrT EnT
/-! ### rows and orders of any thing -/
def RowD (d : PyData) (m : Nat) : Prop := ∃ ns : List Int, d = tD ns ∧ ns.Perm (rng m)
def OrdD (d : PyData) (fss : List (List Int)) : Prop := ∃ ns : List Int, d = tD ns ∧ isOrd fss ns
theorem OrdD.row {d : PyData} {fss : List (List Int)} (h : OrdD d fss) : RowD d fss.length := let ⟨ns, e, h1, _⟩ := h; ⟨ns, e, h1⟩
theorem th_tupI {K : PySem.W.Frag} {H : Hp} {F : Addr → Prop} {x : V} {ns : List Int} (h : ThF K H F x (tD ns)) : TupI K H x ns := by
  cases h with
  | @tup a xs _ hs ha =>
    obtain ⟨ms, e3, e4⟩ := th_asInts ha fun d hd => by
      obtain ⟨i, _, rfl⟩ := List.mem_map.mp hd
      exact ⟨i, rfl⟩
    have e5 : ns = ms := List.map_inj_right (fun a b h => by cases h; rfl) |>.mp (show ns.map PyData.int = ms.map PyData.int from e4)
    subst e5
    rw [e3] at hs
    exact ⟨_, rfl, hs⟩
theorem row_bel {ns : List Int} {m : Nat} (h : ns.Perm (rng m)) : ∀ i ∈ ns, 0 ≤ i ∧ i < (m : Int) := by
  intro i hi
  have z := h.mem_iff.mp hi
  unfold rng at z
  obtain ⟨j, hj, rfl⟩ := List.mem_map.mp z
  have := List.mem_range.mp hj
  omega
theorem row_len {ns : List Int} {m : Nat} (h : ns.Perm (rng m)) : ns.length = m := by
  rw [h.length_eq]
  unfold rng
  rw [List.length_map, List.length_range]
section
variable {P : Program} {w : World} {K : PySem.W.Frag} {mg : Str → Option Value} {base : Heap} {Ps : Tbs} {H H' H0 : Hp} {k : Nat} {f c : Addr} {fd : FuncData} {CS CN CL CR CO CP : Addr}
/-- a stack and any thing -/
structure AskX (K : PySem.W.Frag) (Ps : Tbs) (H : Hp) (x y : V) (n k : Int) (fss : List (List Int)) (d : PyData) : Prop where
  stk : Stk K H x n k fss
  ok : StkOk n k fss
  th : Th K H y d
  wd : wide d = true
  tb : Tb Ps H
theorem AskX.ext {x y : V} {n k : Int} {fss : List (List Int)} {d : PyData} (h : AskX K Ps H x y n k fss d) (e : Ext Ps H H') : AskX K Ps H' x y n k fss d := ⟨e.stk h.stk, h.ok, e.th h.th, h.wd, e.tb⟩
theorem AskX.row {x y : V} {n k : Int} {fss : List (List Int)} {ns : List Int} (h : AskX K Ps H x y n k fss (tD ns)) (hp : ns.Perm (rng fss.length)) : AskR K Ps H x y n k fss ns :=
  ⟨h.stk, h.ok, th_tupI h.th, row_bel hp, by rw [row_len hp]; have := h.ok.l70; omega, h.tb⟩
def spIsRowX (K : PySem.W.Frag) (Ps : Tbs) : Sp := fun vs H Q _ => ∃ (x y : V) (n kk : Int) (fss : List (List Int)) (d : PyData), vs = [x, y] ∧ AskX K Ps H x y n kk fss d ∧ ∀ b H', (b = true ↔ RowD d fss.length) → Ext Ps H H' → Q (.bl b) H'
def spEachX (K : PySem.W.Frag) (Ps : Tbs) : Sp := fun vs H Q _ => ∃ (y : V) (m : Nat) (d : PyData), vs = [y, .int m] ∧ Th K H y d ∧ m ≤ 1000 ∧ Tb Ps H ∧ ∀ b H', (b = true ↔ RowD d m) → Ext Ps H H' → Q (.bl b) H'
theorem ok_eachX {fB cB : Addr} {fdB : FuncData} (D : Def K mg "is_each_once" sEach ["thing", "many"] f fd c) (DB : Def K mg "all_below" sBelow ["thing", "many"] fB fdB cB) (GB : FnOk P w K mg base CX0 k fB fdB ["thing", "many"] (spBelowX K Ps))
    (ms : mg "sorted" = none) (mL : mg "list" = none) (mr : mg "range" = none) : FnOk P w K mg base CX0 (k + 1) f fd ["thing", "many"] (spEachX K Ps) := by
  refine D.ok (k := k) scEach (fun vs H Q E h => ?_) (fun A outer s H vs Q E hr h => ?_)
  · obtain ⟨y, m, d, rfl, _⟩ := h
    rfl
  · obtain ⟨y, m, d, rfl, hth, hm, ht, q⟩ := h
    refine ⟨_, pss_one (ps_ret (pe_and (pcl DB GB hr (pa_cons (pv 0) (pa_cons (pv 1) pa_nil))) (pe_one (pe_cmpR (op_eqD hr.units) (pe_callB cr_sortTI (by rfl) ms (by decide +kernel) (pa_cons (pv 0) pa_nil)) (pe_listRg (by rfl) (by rfl) mL (prg_1 (by rfl) mr (pv 1))) (nomark _))))), ?_⟩
    refine ⟨y, rfl, .int (m : Int), rfl, y, d, (m : Int), rfl, hth, ht, fun H1 e1 => ⟨_, rfl, ite2 (fun hc => ?_) (fun hc => ?_)⟩⟩
    · have hb : belowD d (m : Int) = true := hc
      obtain ⟨ns, rfl, hbn⟩ := below_ints hb
      obtain ⟨t, rfl, hT⟩ := th_tupI hth
      refine ⟨.ref t, rfl, t, ns, rfl, e1.sqT hT, fun us p pm sr np => ?_⟩
      have e2 := Ext.new (o := .lst (us.map V.int)) e1.tb np
      refine ⟨.int (m : Int), rfl, (m : Int), rfl, RgOk.of_le (by omega) (by omega) (by omega) (by omega), fun l nl => ?_⟩
      rw [rng_V]
      have e3 := Ext.new (o := .lst ((rng m).map V.int)) e2.tb nl
      refine ⟨.list (iD us), .list (iD (rng m)), .lst (.inl (.inl (e3.lst upd_same))) (dp_ints us), .lst (.inl (.inl upd_same)) (dp_ints _), shp_list us, shp_list _, ?_⟩
      refine q _ _ ?_ (e1.trans (e2.trans e3))
      rw [PyData.eqv, eqv_ints, decide_eq_true_eq]
      constructor
      · intro e
        exact ⟨ns, rfl, by rw [← e]; exact pm.symm⟩
      · rintro ⟨ms', em, hm⟩
        rw [← tD_inj em] at hm
        exact le_perm_eq (pm.trans hm) sr (rng_le _)
    · have hb : belowD d (m : Int) = false := by
        cases e : belowD d (m : Int) with
        | false => rfl
        | true => exact absurd e hc
      have z := q false _ ?_ e1
      · exact z
      constructor
      · intro z
        cases z
      · rintro ⟨ns, rfl, hp⟩
        rw [below_tD (row_bel hp)] at hb
        exact absurd hb (by simp)
theorem ok_isRowX {fB cB : Addr} {fdB : FuncData} (D : Def K mg "is_row" sIsRow ["stack", "thing"] f fd c) (DB : Def K mg "is_each_once" sEach ["thing", "many"] fB fdB cB) (GB : FnOk P w K mg base CX0 k fB fdB ["thing", "many"] (spEachX K Ps))
    (ml : mg "len" = none) : FnOk P w K mg base CX0 (k + 1) f fd ["stack", "thing"] (spIsRowX K Ps) := by
  refine D.ok (k := k) scIsRow (fun vs H Q E h => ?_) (fun A outer s H vs Q E hr h => ?_)
  · obtain ⟨x, y, n, kk, fss, d, rfl, _⟩ := h
    rfl
  · obtain ⟨x, y, n, kk, fss, d, rfl, h0, q⟩ := h
    obtain ⟨a, fa, xs, rfl, h1, h2, h3⟩ := id h0.stk
    have hlen := Paired.length h3
    have l70 := h0.ok.l70
    refine ⟨_, pss_one (ps_ret (pcl DB GB hr (pa_cons (pv 1) (pa_cons (pe_callB (call_lenS (K := K) rfl) (by rfl) ml PySem.boot_len (pa_cons (pe_ix ix_tup (pv 0) pe_int (fun _ _ => rfl)) pa_nil)) pa_nil)))), ?_⟩
    exact ⟨y, rfl, .ref a, rfl, a, _, 2, .ref fa, rfl, rfl, h1, at2, fa, xs, rfl, .inr h2, y, xs.length, d, rfl, h0.th, by omega, h0.tb, fun b H' hb e => q b H' (by rw [← hlen]; exact hb) e⟩
/-! ### what refuses: no stack, and then -/
def BadS (K : PySem.W.Frag) (Ps : Tbs) (CS : Addr) (x : V) (H : Hp) (E : XK) : Prop := ∃ d, Th K H x d ∧ wide d = true ∧ isStackD d = false ∧ Tb Ps H ∧ ∀ H', Ext Ps H H' → E (.ref CS) none H'
/-- need_stack, both ways -/
def spNeedStack2 (K : PySem.W.Frag) (Ps : Tbs) (CS : Addr) : Sp := fun vs H Q E => spNeedStack K Ps vs H Q E ∨ spNeedStackX K Ps CS vs H Q E
def spIsOrderX (K : PySem.W.Frag) (Ps : Tbs) (CS : Addr) : Sp := fun vs H Q E => ∃ (x y : V), vs = [x, y] ∧ (BadS K Ps CS x H E ∨ ∃ (n kk : Int) (fss : List (List Int)) (d : PyData), AskX K Ps H x y n kk fss d ∧ ∀ b H', (b = true ↔ OrdD d fss) → Ext Ps H H' → Q (.bl b) H')
theorem ok_isOrderX {fS cS fR cR fW cW : Addr} {fdS fdR fdW : FuncData} (D : Def K mg "is_order" sIsOrder ["stack", "thing"] f fd c) (DS : Def K mg "need_stack" sNeedStack ["stack"] fS fdS cS) (GS : FnOk P w K mg base (L2.CX P w) k fS fdS ["stack"] (spNeedStack2 K Ps CS))
    (DR : Def K mg "is_row" sIsRow ["stack", "thing"] fR fdR cR) (GR : FnOk P w K mg base CX0 k fR fdR ["stack", "thing"] (spIsRowX K Ps)) (DW : Def K mg "wrong_place" sWrong ["stack", "row"] fW fdW cW) (GW : FnOk P w K mg base CX0 k fW fdW ["stack", "row"] (spWrong K Ps)) :
    FnOk P w K mg base (L2.CX P w) (k + 1) f fd ["stack", "thing"] (spIsOrderX K Ps CS) := by
  refine D.okX (k := k) scIsOrder (fun vs H Q E h => ?_) (fun A outer s H vs Q E hr tk h => ?_)
  · obtain ⟨x, y, rfl, _⟩ := h
    rfl
  · obtain ⟨x, y, rfl, h⟩ := h
    refine ⟨_, pss_cons (ps_expr (pclX DS GS hr tk (pa_cons (pv 0) pa_nil))) (pss_one (ps_ret (pe_and (pcl DR GR hr (pa_cons (pv 0) (pa_cons (pv 1) pa_nil))) (pe_one (pe_cmpR op_isN (pcl DW GW hr (pa_cons (pv 0) (pa_cons (pv 1) pa_nil))) pe_non (nomark _)))))), ?_⟩
    rcases h with ⟨d, b1, b2, b3, b4, q⟩ | ⟨n, kk, fss, d, h0, q⟩
    · exact ⟨x, rfl, .inr ⟨x, d, rfl, b1, b2, b3, b4, q⟩⟩
    refine ⟨x, rfl, .inl ⟨x, n, kk, fss, rfl, h0.stk, h0.ok, h0.tb, fun H1 e1 => ?_⟩⟩
    refine ⟨x, rfl, y, rfl, x, y, n, kk, fss, d, rfl, h0.ext e1, fun b H2 hb e2 => ⟨b, rfl, ?_⟩⟩
    cases b with
    | false =>
      refine iteF (q false _ ?_ (e1.trans e2))
      constructor
      · intro z
        cases z
      · intro z
        exact absurd (hb.mpr z.row) (by simp)
    | true =>
      obtain ⟨ns, rfl, hp⟩ := hb.mp rfl
      refine iteT ⟨x, rfl, y, rfl, x, y, n, kk, fss, ns, rfl, (h0.ext (e1.trans e2)).row hp, fun H3 e3 => ⟨rfl, ?_⟩⟩
      refine q _ _ ?_ (e1.trans (e2.trans e3))
      cases hw : wrongAt [] (facesAt fss ns) 0 with
      | none => exact ⟨fun _ => ⟨ns, rfl, hp, hw⟩, fun _ => decide_eq_true rfl⟩
      | some p => exact ⟨fun z => absurd (of_decide_eq_true z) (by intro q; cases q), fun ⟨ms, em, z⟩ => by
          rw [← tD_inj em] at z
          exact absurd (z.2.symm.trans hw) (by simp)⟩
/-- need_order of any thing -/
def spNeedOrderX (K : PySem.W.Frag) (Ps : Tbs) (CO : Addr) : Sp := fun vs H Q E => ∃ (x y : V) (n kk : Int) (fss : List (List Int)) (d : PyData), vs = [x, y] ∧ AskX K Ps H x y n kk fss d ∧ ∀ H', Ext Ps H H' → (OrdD d fss → Q .non H') ∧ (¬ OrdD d fss → E (.ref CO) none H')
/-! ### first_wrong, brings, refusing -/
def spFirstWrongX (K : PySem.W.Frag) (Ps : Tbs) (CS CR : Addr) : Sp := fun vs H Q E => ∃ (x y : V), vs = [x, y] ∧ (BadS K Ps CS x H E ∨ ∃ (n kk : Int) (fss : List (List Int)) (d : PyData), AskX K Ps H x y n kk fss d ∧ ¬ RowD d fss.length ∧ ∀ H', Ext Ps H H' → E (.ref CR) none H')
def spBringsX (K : PySem.W.Frag) (Ps : Tbs) (CS CO : Addr) : Sp := fun vs H Q E => ∃ (x y : V), vs = [x, y] ∧ (BadS K Ps CS x H E ∨ ∃ (n kk : Int) (fss : List (List Int)) (d : PyData), AskX K Ps H x y n kk fss d ∧ ¬ OrdD d fss ∧ ∀ H', Ext Ps H H' → E (.ref CO) none H')
/-! ### may_lay, brought, new_parts, refusing -/
/-- why a lot and a number are refused -/
def BadL (K : PySem.W.Frag) (Ps : Tbs) (CS CL CN : Addr) (x y z : V) (H : Hp) (E : XK) : Prop :=
  BadS K Ps CS x H E ∨ (∃ (n kk : Int) (fss : List (List Int)) (d : PyData), AskX K Ps H x y n kk fss d ∧ risD d fss.length = false ∧ ∀ H', Ext Ps H H' → E (.ref CL) none H') ∨
  (∃ (n kk : Int) (fss : List (List Int)) (d : PyData) (ns : List Int), AskX K Ps H x z n kk fss d ∧ TupI K H y ns ∧ LotOk fss.length ns ∧ intIn d 0 ((fss.length : Int) - 1) = false ∧ ∀ H', Ext Ps H H' → E (.ref CN) none H')
def spLotX (K : PySem.W.Frag) (Ps : Tbs) (CS CL CN : Addr) : Sp := fun vs H Q E => ∃ (x y z : V), vs = [x, y, z] ∧ BadL K Ps CS CL CN x y z H E
def spNeedLot2 (K : PySem.W.Frag) (Ps : Tbs) (CL : Addr) : Sp := fun vs H Q E => spNeedLot K Ps vs H Q E ∨ spNeedLotX K Ps CL vs H Q E
variable {fS cS fL cL fF cF : Addr} {fdS fdL fdF : FuncData}
end
end Lf

set_option maxHeartbeats 1000000
namespace Lf
open PySem PySem.Spec PyProof.Rows L2 GxR GxA SrT
section
variable {X : Cx} {Ps : Tbs}
/-- t + u, two tuples of ints: some tuple of both -/
def rCatI (K : PySem.W.Frag) (Ps : Tbs) : R2 := fun x y H Q => ∃ us vs : List Int, TupI K H x us ∧ TupI K H y vs ∧ us.length + vs.length ≤ 1000 ∧ Tb Ps H ∧ ∀ v H3, Ext Ps H H3 → TupI K H3 v (us ++ vs) → Q v H3
theorem op_catI : OpR X (binaryOp .Add) (rCatI X.K Ps) := by
  intro pins s σ H x y v u Q I rx ry h
  obtain ⟨us, vs, ⟨a, rfl, ha⟩, ⟨b, rfl, hb⟩, hl, ht, q⟩ := h
  refine op_catA pins s σ H _ _ v u Q I rx ry ⟨a, b, _, _, rfl, rfl, ha, hb, ?_, fun e => ?_, fun _ e => ?_, fun _ _ p np => ?_⟩
  · rw [List.length_map, List.length_map, sizeLine_eq]
    omega
  · have e1 : us = [] := List.map_eq_nil_iff.mp e
    subst e1
    exact q _ _ (Ext.refl ht) ⟨b, rfl, hb⟩
  · have e1 : vs = [] := List.map_eq_nil_iff.mp e
    subst e1
    exact q _ _ (Ext.refl ht) ⟨a, rfl, by rw [List.append_nil]; exact ha⟩
  · exact q _ _ (Ext.new ht np) ⟨p, rfl, .inl (.inl (by rw [List.map_append]; exact upd_same))⟩
/-- t[:i], t[i:]: some tuple of those -/
def rSlI (K : PySem.W.Frag) (Ps : Tbs) : V → Option Int → Option Int → Hp → VK → Prop := fun x lo hi H Q => ∃ us ws : List Int, TupI K H x us ∧ Tb Ps H ∧ cutV (us.map V.int) lo hi = ws.map V.int ∧ ∀ v H3, Ext Ps H H3 → TupI K H3 v ws → Q v H3
theorem sl_tupI : SlR X (rSlI X.K Ps) := by
  intro pins s σ H x v vl vu lo hi sl Q I rx hs pl pu h
  obtain ⟨us, ws, ⟨a, rfl, ha⟩, ht, hw, q⟩ := h
  refine sl_tupA pins s σ H _ v vl vu lo hi sl Q I rx hs pl pu ⟨a, _, rfl, ha, fun z => ?_, fun _ p np => ?_⟩
  · refine q _ _ (Ext.refl ht) ⟨a, rfl, ?_⟩
    have e : cutV (us.map V.int) lo hi = us.map V.int := by
      unfold cutV
      rw [z.1, z.2, List.drop_zero, Nat.sub_zero, List.take_length]
    rw [← hw, e]
    exact ha
  · exact q _ _ (Ext.new ht np) ⟨p, rfl, .inl (.inl (by rw [← hw]; exact upd_same))⟩
end
end Lf

set_option maxHeartbeats 4000000
namespace Lf
open PySem PySem.Spec PyProof.Rows L2 GxR GxA SrT
/-! ### a list of two for: over a list, then over a tuple -/
section
variable {K : PySem.W.Frag} {a t : Addr} {xs ys : List V} {g g1 : TG} {tt tt1 : TT} {wi1 : TI} {te : TE} {vs vs1 : List Nat} {σ σ2 : L2.St} {H1 H4 : Hp} {D : Addr} {Qd Nx : Hp → Prop}
/-- the inner loop's claim -/
def In2 (J1 : It) (g1 : TG) (tt1 : TT) (te : TE) (vs1 : List Nat) (D : Addr) (σ2 : L2.St) (H4 : Hp) (Nx : Hp → Prop) : Prop := ∃ W1 : Nat → Nat → Hp → Prop, (∃ m, W1 0 m H4) ∧ ∀ j k H, W1 j k H → (J1.stop j H ∧ Nx H) ∨ (J1.go j H ∧ ∃ N1 : Hp → Prop, (∀ H', N1 H' → ∃ k', k' < k ∧ W1 (j + 1) k' H') ∧
  ∀ x H', J1.yld j H x H' → g1 x (wipe σ2 vs1) H' fun σ3 H5 => wipe σ3 vs1 = wipe σ2 vs1 ∧ tt1 σ3 H5 fun b H6 => if b = true then te σ3 H6 fun y H7 => ∃ acc, H7 D = some (.lst acc) ∧ acc.length < sizeLine ∧ N1 (upd H7 D (.lst (acc ++ [y]))) else N1 H6)
theorem lc2_list (Pv : Nat → Hp → Prop) (h0 : Pv 0 (upd H1 D (.lst []))) (hl : ∀ i H, i ≤ xs.length → Pv i H → SqL K H a xs)
    (hs : ∀ i x H, xs[i]? = some x → Pv i H → g x (wipe σ vs) H fun σ2 H2 => wipe σ2 vs = wipe σ vs ∧ tt σ2 H2 fun b H3 => if b = true then wi1 σ2 H3 fun J1 H4 => In2 J1 g1 tt1 te vs1 D σ2 H4 (Pv (i + 1)) else Pv (i + 1) H3) (hd : ∀ H, Pv xs.length H → Qd H) :
    ∃ W : Nat → Nat → Hp → Prop, (∃ m, W 0 m (upd H1 D (.lst []))) ∧ ∀ i m H, W i m H → ((Itl K a).stop i H ∧ Qd H) ∨ ((Itl K a).go i H ∧ ∃ N : Hp → Prop, (∀ H', N H' → ∃ m', m' < m ∧ W (i + 1) m' H') ∧
      ∀ x H', (Itl K a).yld i H x H' → g x (wipe σ vs) H' fun σ2 H2 => wipe σ2 vs = wipe σ vs ∧ tt σ2 H2 fun b H3 => if b = true then wi1 σ2 H3 fun J1 H4 => In2 J1 g1 tt1 te vs1 D σ2 H4 N else N H3) := by
  refine ⟨fun u v HH => v = xs.length - u ∧ u ≤ xs.length ∧ Pv u HH, ⟨xs.length, (by omega), (Nat.zero_le _), h0⟩, ?_⟩
  rintro u v HH ⟨rfl, hu, pu⟩
  have qu := hl u HH hu pu
  by_cases lt : u < xs.length
  · refine Or.inr ⟨⟨xs, xs[u], qu, (by simp [lt])⟩, Pv (u + 1), fun H9 p9 => ⟨xs.length - (u + 1), (by omega), rfl, lt, p9⟩, fun x H9 y9 => ?_⟩
    obtain ⟨e9, z9⟩ := y9
    subst e9
    exact hs u x _ (z9 xs qu) pu
  · obtain rfl : u = xs.length := by omega
    exact Or.inl ⟨⟨xs, qu, Nat.le_refl _⟩, hd HH pu⟩
theorem in2_tup (Pv : Nat → Hp → Prop) (h0 : Pv 0 H4) (hl : ∀ i H, i ≤ ys.length → Pv i H → SqT K H t ys)
    (hs : ∀ j x H, ys[j]? = some x → Pv j H → g1 x (wipe σ2 vs1) H fun σ3 H5 => wipe σ3 vs1 = wipe σ2 vs1 ∧ tt1 σ3 H5 fun b H6 => if b = true then te σ3 H6 fun y H7 => ∃ acc, H7 D = some (.lst acc) ∧ acc.length < sizeLine ∧ Pv (j + 1) (upd H7 D (.lst (acc ++ [y]))) else Pv (j + 1) H6)
    (hd : ∀ H, Pv ys.length H → Nx H) : In2 (Itt K t) g1 tt1 te vs1 D σ2 H4 Nx := by
  refine ⟨fun u v HH => v = ys.length - u ∧ u ≤ ys.length ∧ Pv u HH, ⟨ys.length, (by omega), (Nat.zero_le _), h0⟩, ?_⟩
  rintro u v HH ⟨rfl, hu, pu⟩
  have qu := hl u HH hu pu
  by_cases lt : u < ys.length
  · refine Or.inr ⟨⟨ys, ys[u], qu, (by simp [lt])⟩, Pv (u + 1), fun H9 p9 => ⟨ys.length - (u + 1), (by omega), rfl, lt, p9⟩, fun x H9 y9 => ?_⟩
    obtain ⟨e9, z9⟩ := y9
    subst e9
    exact hs u x _ (z9 ys qu) pu
  · obtain rfl : u = ys.length := by omega
    exact Or.inl ⟨⟨ys, qu, Nat.le_refl _⟩, hd HH pu⟩
end
/-! ### parts of up to eight points -/
theorem subs_le8 {fc : List Int} (h : fc.length ≤ 8) (i : Nat) : (subsL (fc.take i)).length ≤ 256 := by
  rw [subs_len]
  have : (fc.take i).length ≤ 8 := by rw [List.length_take]; omega
  exact Nat.le_trans (Nat.pow_le_pow_right (by decide) this) (by decide)
section
variable {P : Program} {w : World} {K : PySem.W.Frag} {mg : Str → Option Value} {base : Heap} {Ps : Tbs}
def spParts8 (K : PySem.W.Frag) (Ps : Tbs) : Sp := fun vs H Q _ => ∃ (x : V) (fc : List Int), vs = [x] ∧ TupI K H x fc ∧ fc.length ≤ 8 ∧ Tb Ps H ∧ ∀ l ys H', Ext Ps H H' → H l = none → H' l = some (.lst ys) → Paired (TupI K H') ys (sortL (subsL fc)) → Q (.ref l) H'
theorem ok_parts8 {f c : Addr} {fd : FuncData} {k : Nat} (D : Def K mg "parts_in" sParts ["face"] f fd c) (ms : mg "sorted" = none) : FnOk P w K mg base CX0 (k + 1) f fd ["face"] (spParts8 K Ps) := by
  refine D.ok (k := k) scParts (fun vs H Q E h => ?_) (fun A outer s H vs Q E hr h => ?_)
  · obtain ⟨x, fc, rfl, _⟩ := h
    rfl
  · obtain ⟨_, fc, rfl, ⟨a, rfl, hA⟩, hl, ht, q⟩ := h
    refine ⟨_, pss_cons (ps_set (i := 1) scParts.nd rfl (.inl rfl) (pe_lst (pa_cons (pe_tup pa_nil) pa_nil)))
      (pss_cons (ps_for PassesOwn.never rfl (pi_tup (pv 0)) (pg_name (i := 2) scParts.nd rfl (.inr rfl))
        (pss_one (ps_set (i := 1) scParts.nd rfl (.inl rfl) (pe_op op_cat (pv 1) (pe_lc (own := [("part", 3)]) (g := gName 3) (by rfl) scParts.nd (pi_list (pv 1)) (blkOk_by (N := ["face", "found", "point", "part"]) (sc := defScope sParts) (by decide +kernel))
          (fun _ _ _ _ _ => pg_name (i := 3) scParts.nd rfl (Or.inl rfl)) (fun _ _ _ _ _ => pts_nil) (fun _ _ _ _ _ => pe_tup (show PA _ _ (StX.tStar K _ _) from StX.pa_star (pv 3) (pa_cons (pv 2) pa_nil))))))))
      (pss_one (ps_ret (show PE _ _ (tKn K _) from pe_kn (pe_callB (cr_sortL hr.units) (by rfl) ms (by decide +kernel) (pa_cons (pv 1) pa_nil)))))), ?_⟩
    -- found = [()]
    refine ⟨Nat.zero_le _, fun e he => ⟨(by show 1 ≤ sizeLine; decide), fun l0 hl0 => ?_⟩⟩
    have x1 : Ext Ps H (upd H e (.tup [])) := Ext.new ht he
    have x2 := x1.trans (Ext.new (o := .lst [.ref e]) x1.tb hl0)
    refine ⟨.ref a, rfl, a, rfl, ⟨_, x2.sqT hA⟩, for_tup (K := K) (a := a) (xs := fc.map V.int) (fun i σ H3 => Ext Ps H H3 ∧ ∃ (l : Addr) (ys : List V) (y2 y3 : Option V), σ = [some (.ref a), some (.ref l), y2, y3] ∧ H l = none ∧ H3 l = some (.lst ys) ∧ Paired (TupH H3) ys (subsL (fc.take i))) ?_ (fun i σ H3 _ p => p.1.sqT hA) (fun i x σ H3 hx p => ?_) (fun σ H3 p => ?_)⟩
    · refine ⟨x2, l0, [.ref e], none, none, rfl, x1.free hl0, upd_same, .cons ⟨e, rfl, ?_⟩ .nil⟩
      rw [upd_ne (ne_of_none upd_same hl0)]
      exact upd_same
    · obtain ⟨x3, l, ys, y2, y3, rfl, hn, h3, hp⟩ := p
      obtain ⟨y, hy, rfl⟩ := map_int hx
      have h16 := subs_le8 hl i
      have hlen : ys.length ≤ 256 := by
        rw [Paired.length hp]
        exact h16
      -- found + [..]
      refine ⟨.ref l, rfl, .ref l, rfl, l, rfl, ⟨_, .inl (.inl h3)⟩, fun D0 hD => lc_list (K := K) (a := l) (xs := ys) (fun j H4 => CP Ps TupH H3 D0 (((subsL (fc.take i)).take j).map (· ++ [y])) j H4) (CP.start x3.tb hD) (fun j H4 _ p => p.ext.sqL (.inl (.inl h3))) (fun j z H4 hz p => ?_) (fun H4 p => ?_)⟩
      · obtain ⟨g, hg, t, rfl, hTH⟩ := paired_get hp hz
        have hT : SqT K H3 t (g.map V.int) := .inl (.inl hTH)
        have hj : j < ys.length := (List.getElem?_eq_some_iff.mp hz).1
        refine ⟨rfl, yes_ (iteT ?_)⟩
        refine ⟨.ref t, rfl, t, g.map V.int, rfl, .inl (p.ext.sqT hT), .int y, rfl, ?_, fun u hu => ?_⟩
        · have hs := (mem_subs.mp (List.mem_of_getElem? hg)).length_le
          rw [List.length_take] at hs
          show (g.map V.int ++ [V.int y]).length ≤ sizeLine
          rw [List.length_append, List.length_map, List.length_singleton]
          exact Nat.le_of_lt (small1000 (by omega))
        · have x5 := Ext.new (o := .tup (g.map V.int ++ [.int y])) p.ext.tb hu
          have p5 := p.skip (stbH (K := K)) x5
          have r := CP.put (stbH (K := K)) hD (by omega) p5 (show TupH _ (.ref u) (g ++ [y]) from ⟨u, rfl, by rw [List.map_append]; exact upd_same⟩)
          rw [List.take_add_one, hg, List.map_append]
          exact r
      · obtain ⟨zs, h4, h5, h6⟩ := p.at_
        refine ⟨l, D0, ys, zs, rfl, rfl, p.ext.lst h3, h4, ?_, fun l2 hl2 => ?_⟩
        · exact Nat.le_of_lt (small1000 (by omega))
        · have x6 := Ext.new (o := .lst (ys ++ zs)) p.ext.tb hl2
          refine ⟨x3.trans (p.ext.trans x6), l2, ys ++ zs, some (.int y), y3, rfl, (x3.trans p.ext).free hl2, upd_same, ?_⟩
          rw [subs_take hy]
          unfold grow
          have e0 : (subsL (fc.take i)).take ys.length = subsL (fc.take i) := by
            rw [Paired.length hp, List.take_length]
          rw [e0] at h5
          exact L2.Paired.mapP (paired_app (L2.Paired.mapP hp fun _ _ z => tupH_ext p.ext z) h5) fun _ _ z => tupH_ext x6 z
    · obtain ⟨x3, l, ys, y2, y3, rfl, hn, h3, hp⟩ := p
      rw [List.length_map, List.take_length] at hp
      refine ⟨.ref l, rfl, l, ys, subsL fc, rfl, .inl (.inl h3), L2.Paired.mapP hp fun _ _ z => z.tup, fun zs u hz hm hu kn => ?_⟩
      have x4 := Ext.new (o := .lst zs) x3.tb hu
      exact q u zs _ (x3.trans x4) (x3.free hu) upd_same (x4.tups hz)
end
end Lf

set_option maxHeartbeats 4000000
namespace Lf
open PySem PySem.Spec PyProof.Rows L2 GxR GxA SrT
abbrev sFull : Stmt := topS 26
abbrev sPairs : Stmt := topS 27
abbrev sSteps : Stmt := topS 28
abbrev sRow : Stmt := topS 29
abbrev sRing : Stmt := topS 30
theorem scFull : FnScope ["n", "k", "face"] ["n", "k"] (defScope sFull) := ⟨rfl, rfl, rfl, by decide +kernel, rfl, by decide +kernel, by decide +kernel⟩
theorem scPairs : FnScope ["d", "faces", "i", "face", "point"] ["d"] (defScope sPairs) := ⟨rfl, rfl, rfl, by decide +kernel, rfl, by decide +kernel, by decide +kernel⟩
theorem scSteps : FnScope ["n", "point"] ["n"] (defScope sSteps) := ⟨rfl, rfl, rfl, by decide +kernel, rfl, by decide +kernel, by decide +kernel⟩
theorem scRow : FnScope ["n"] ["n"] (defScope sRow) := ⟨rfl, rfl, rfl, by decide +kernel, rfl, by decide +kernel, by decide +kernel⟩
theorem scRing : FnScope ["n"] ["n"] (defScope sRing) := ⟨rfl, rfl, rfl, by decide +kernel, rfl, by decide +kernel, by decide +kernel⟩
def fullL (n k : Nat) : List (List Int) := (sortL (subsL (rng n))).filter fun g => decide (g.length = k)
def stepsL (m : Nat) : List (List Int) := (List.range m).map fun i : Nat => [(i : Int), (i : Int) + 1]
def ringL (n : Nat) : List (List Int) := sortL (stepsL (n - 1) ++ [[0, (n : Int) - 1]])
def pairsP : Nat → List (List Int)
  | 0 => [[]]
  | i + 1 => (pairsP i).flatMap fun g => [g ++ [2 * (i : Int)], g ++ [2 * (i : Int) + 1]]
theorem pairsP_len : ∀ i, (pairsP i).length = 2 ^ i ∧ ∀ g ∈ pairsP i, g.length = i
  | 0 => ⟨rfl, fun g hg => by rw [List.mem_singleton.mp hg]; rfl⟩
  | i + 1 => by
    obtain ⟨h1, h2⟩ := pairsP_len i
    constructor
    · show (List.flatMap _ (pairsP i)).length = _
      rw [List.length_flatMap]
      have : ∀ l : List (List Int), (l.map fun g : List Int => ([g ++ [2 * (i : Int)], g ++ [2 * (i : Int) + 1]] : List (List Int)).length).sum = 2 * l.length := fun l => by
        induction l with
        | nil => rfl
        | cons g l ih =>
          rw [List.map_cons, List.sum_cons, ih, List.length_cons]
          simp
          omega
      rw [this, h1, Nat.pow_succ]
      omega
    · intro g hg
      obtain ⟨g0, hg0, hg1⟩ := List.mem_flatMap.mp hg
      have := h2 g0 hg0
      simp only [List.mem_cons, List.not_mem_nil, or_false] at hg1
      rcases hg1 with rfl | rfl <;> simp [this]
section
variable {P : Program} {w : World} {K : PySem.W.Frag} {mg : Str → Option Value} {base : Heap} {Ps : Tbs} {H H' H0 : Hp} {k : Nat} {f c : Addr} {fd : FuncData} {CN : Addr}
/-! ### full_stack -/
def spFull (K : PySem.W.Frag) (Ps : Tbs) : Sp := fun vs H Q _ => ∃ n kk : Nat, vs = [.int n, .int kk] ∧ 1 ≤ n ∧ n ≤ 8 ∧ kk ≤ n ∧ kk ≤ 4 ∧ Tb Ps H ∧ ∀ v H', Ext Ps H H' → Stk K H' v n kk (fullL n kk) → Q v H'
theorem ok_full {fW cW fP cP : Addr} {fdW fdP : FuncData} {t8 t4 : Tok} (D : Def K mg "full_stack" sFull ["n", "k"] f fd c) (DW : Def K mg "need_within" sNeedWithin ["number", "least", "most"] fW fdW cW) (GW : FnOk P w K mg base CX0 k fW fdW ["number", "least", "most"] spNeedWithin)
    (DP : Def K mg "parts_in" sParts ["face"] fP fdP cP) (GP : FnOk P w K mg base CX0 k fP fdP ["face"] (spParts8 K Ps)) (m8 : mg "MOST_POINTS" = some (.int 8 t8)) (m4 : mg "MOST_IN_FACE" = some (.int 4 t4)) (mm : mg "min" = none) (mt : mg "tuple" = none) (mr : mg "range" = none) (ml : mg "len" = none) : FnOk P w K mg base CX0 (k + 1) f fd ["n", "k"] (spFull K Ps) := by
  refine D.ok (k := k) scFull (fun vs H Q E h => ?_) (fun A outer s H vs Q E hr h => ?_)
  · obtain ⟨n, kk, rfl, _⟩ := h
    rfl
  · obtain ⟨n, kk, rfl, n1, n8, kn, k4, ht, q⟩ := h
    refine ⟨_, (pss_cons (ps_expr (pcl DW GW hr (pa_cons (pv 0) (pa_cons pe_int (pa_cons (pe_glob rfl m8 (v := .int 8) ⟨_, rfl⟩) pa_nil))))) (pss_cons (ps_expr (pcl DW GW hr (pa_cons (pv 1) (pa_cons pe_int (pa_cons (pe_callB (call_min2 rfl) (by rfl) mm (by decide +kernel) (pa_cons (pv 0) (pa_cons (pe_glob rfl m4 (v := .int 4) ⟨_, rfl⟩) pa_nil))) pa_nil))))) (pss_one (ps_ret (pe_tup (pa_cons (pv 0) (pa_cons (pv 1) (pa_cons (pe_callTy call_tuple_of (by rfl) mt (by decide +kernel) (pa_cons (pe_lc (own := [("face", 2)]) (g := gName 2) (by rfl) scFull.nd (pi_list (pcl DP GP hr (pa_cons (pe_tupRg (by rfl) (by rfl) mt (prg_1 (by rfl) mr (pv 0))) pa_nil))) (blkOk_by (N := ["n", "k", "face"]) (sc := defScope sFull) (by decide +kernel)) (fun _ _ _ _ _ => pg_name (i := 2) scFull.nd rfl (Or.inl rfl)) (fun _ _ _ _ _ => pts_one (pt_cmpR op_eq (pe_callB (call_lenS (K := K) rfl) (by rfl) ml PySem.boot_len (pa_cons (pv 2) pa_nil)) (pv 1) (nomark _))) (fun _ _ _ _ _ => (pv 2))) pa_nil)) pa_nil)))))))), ?_⟩
    refine ⟨.int n, rfl, n, 1, 8, rfl, by omega, by omega, ?_⟩
    refine ⟨.int kk, rfl, .int n, rfl, n, 4, rfl, kk, 0, _, rfl, by omega, ?_, ?_⟩
    · split <;> omega
    refine ⟨.int n, rfl, .int kk, rfl, .int n, rfl, (n : Int), rfl, RgOk.of_le (by omega) (by omega) (by omega) (by omega), fun t nt => ?_⟩
    rw [rng_V]
    have x1 := Ext.new (o := .tup ((rng n).map V.int)) ht nt
    refine ⟨.ref t, rng n, rfl, ⟨t, rfl, .inl (.inl upd_same)⟩, by rw [rng_len]; exact n8, x1.tb, fun l ys H2 e2 nl hl hp => ?_⟩
    have E2 := x1.trans e2
    have hlen : ys.length ≤ 256 := by
      rw [Paired.length hp, (sortL_perm _).length_eq]
      have := subs_le8 (fc := rng n) (by rw [rng_len]; exact n8) n
      rw [List.take_of_length_le (by rw [rng_len]; exact Nat.le_refl _)] at this
      exact this
    refine ⟨l, rfl, ⟨_, .inl (.inl hl)⟩, fun D0 hD => lc_list (K := K) (a := l) (xs := ys) (fun j H4 => CP Ps (TupI K) H2 D0 (((sortL (subsL (rng n))).take j).filter fun g => decide (g.length = kk)) j H4) (by rw [List.take_zero]; exact CP.start e2.tb hD) (fun j H4 _ p => p.ext.sqL (.inl (.inl hl))) (fun j z H4 hz p => ?_) (fun H4 p => ?_)⟩
    · obtain ⟨g, hg, t2, rfl, hT⟩ := paired_get hp hz
      have hj : j < ys.length := (List.getElem?_eq_some_iff.mp hz).1
      have hft := filt_take (fun g : List Int => decide (g.length = kk)) hg
      refine ⟨rfl, .ref t2, rfl, t2, _, rfl, .inr (p.ext.sqT hT), .int kk, rfl, rfl, _, rfl, ?_⟩
      have ed : decide (V.int ((g.map V.int).length : Int) = V.int (kk : Int)) = decide (g.length = kk) := by
        rw [List.length_map]
        congr 1
        exact propext ⟨fun z => by injection z with z; omega, fun z => by rw [z]⟩
      rw [ed]
      refine ite2 (fun hc => ?_) (fun hc => ?_)
      · refine ⟨.ref t2, rfl, ?_⟩
        have r := CP.put (stbT (K := K)) hD (by omega) p (show TupI K H4 (.ref t2) g from ⟨t2, rfl, p.ext.sqT hT⟩)
        rw [if_pos hc] at hft
        rw [hft]
        exact r
      · rw [if_neg hc, List.append_nil] at hft
        rw [hft]
        exact p.mono (Nat.le_succ j)
    · obtain ⟨zs, g1, g2, g3⟩ := p.at_
      rw [Paired.length hp, List.take_length] at g2
      refine ⟨D0, zs, rfl, .inl ⟨.inl (.inl g1), fun tf ntf => ⟨(by show 3 ≤ sizeLine; decide), fun ts nts => ?_⟩⟩⟩
      have x5 := Ext.new (o := .tup zs) p.ext.tb ntf
      have x6 := Ext.new (o := .tup [.int n, .int kk, .ref tf]) x5.tb nts
      exact q _ _ (E2.trans (p.ext.trans (x5.trans x6))) ⟨ts, tf, zs, rfl, .inl (.inl upd_same), x6.sqT (.inl (.inl upd_same)), (x5.trans x6).tups g2⟩
def spBadFull (K : PySem.W.Frag) (CN : Addr) : Sp := fun vs H _ E => ∃ (x y : V) (d : PyData), vs = [x, y] ∧ Th K H x d ∧ intIn d 1 8 = false ∧ E (.ref CN) none H
theorem ok_badFull {fW cW : Addr} {fdW : FuncData} {t8 : Tok} (D : Def K mg "full_stack" sFull ["n", "k"] f fd c) (DW : Def K mg "need_within" sNeedWithin ["number", "least", "most"] fW fdW cW) (GW : FnOk P w K mg base (L2.CX P w) k fW fdW ["number", "least", "most"] (spNeedWithinX K CN)) (m8 : mg "MOST_POINTS" = some (.int 8 t8)) : FnOk P w K mg base (L2.CX P w) (k + 1) f fd ["n", "k"] (spBadFull K CN) := by
  refine D.okX (k := k) scFull (fun vs H Q E h => ?_) (fun A outer s H vs Q E hr tk h => ?_)
  · obtain ⟨x, y, d, rfl, _⟩ := h
    rfl
  · obtain ⟨x, y, d, rfl, hx, hd, q⟩ := h
    refine ⟨_, pss_cons (ps_expr (pclX DW GW hr tk (pa_cons (pv 0) (pa_cons pe_int (pa_cons (pe_glob rfl m8 (v := .int 8) ⟨_, rfl⟩) pa_nil))))) (pss_cons ps_never (pss_one ps_never)), ?_⟩
    exact ⟨x, rfl, x, d, 1, 8, rfl, hx, hd, by decide, by decide, q⟩

def spBadFullK (K : PySem.W.Frag) (CN : Addr) : Sp := fun vs H _ E => ∃ (n : Nat) (y : V) (d : PyData), vs = [.int n, y] ∧ 1 ≤ n ∧ n ≤ 8 ∧ Th K H y d ∧ intIn d 0 (if (4 : Int) < n then 4 else n) = false ∧ E (.ref CN) none H
theorem ok_badFullK {fW cW : Addr} {fdW : FuncData} {t8 t4 : Tok} (D : Def K mg "full_stack" sFull ["n", "k"] f fd c) (DW : Def K mg "need_within" sNeedWithin ["number", "least", "most"] fW fdW cW) (GW : FnOk P w K mg base (L2.CX P w) k fW fdW ["number", "least", "most"] (spNeedWithinX K CN)) (G0 : FnOk P w K mg base CX0 k fW fdW ["number", "least", "most"] spNeedWithin) (m8 : mg "MOST_POINTS" = some (.int 8 t8)) (m4 : mg "MOST_IN_FACE" = some (.int 4 t4)) (mm : mg "min" = none) : FnOk P w K mg base (L2.CX P w) (k + 1) f fd ["n", "k"] (spBadFullK K CN) := by
  refine D.okX (k := k) scFull (fun vs H Q E h => ?_) (fun A outer s H vs Q E hr tk h => ?_)
  · obtain ⟨n, y, d, rfl, _⟩ := h
    rfl
  · obtain ⟨n, y, d, rfl, n1, n8, hy, hd, q⟩ := h
    refine ⟨_, pss_cons (ps_expr (pcl DW G0 hr (pa_cons (pv 0) (pa_cons pe_int (pa_cons (pe_glob rfl m8 (v := .int 8) ⟨_, rfl⟩) pa_nil))))) (pss_cons (ps_expr (pclX DW GW hr tk (pa_cons (pv 1) (pa_cons pe_int (pa_cons (pe_callB (call_min2 rfl) (by rfl) mm (by decide +kernel) (pa_cons (pv 0) (pa_cons (pe_glob rfl m4 (v := .int 4) ⟨_, rfl⟩) pa_nil))) pa_nil))))) (pss_one ps_never)), ?_⟩
    refine ⟨.int n, rfl, n, 1, 8, rfl, by omega, by omega, ?_⟩
    exact ⟨y, rfl, .int n, rfl, n, 4, rfl, y, d, 0, _, rfl, hy, hd, by decide, by split <;> omega, q⟩
/-! ### steps, row_stack, ring_stack -/
def spSteps (K : PySem.W.Frag) (Ps : Tbs) : Sp := fun vs H Q _ => ∃ n : Nat, vs = [.int n] ∧ 1 ≤ n ∧ n ≤ 8 ∧ Tb Ps H ∧ ∀ l ys H', Ext Ps H H' → H l = none → H' l = some (.lst ys) → Paired (TupI K H') ys (stepsL (n - 1)) → Q (.ref l) H'
theorem stepsL_succ (m : Nat) : stepsL (m + 1) = stepsL m ++ [[(m : Int), (m : Int) + 1]] := by
  unfold stepsL
  rw [List.range_succ, List.map_append]
  rfl
theorem ok_steps (D : Def K mg "steps" sSteps ["n"] f fd c) (mr : mg "range" = none) : FnOk P w K mg base CX0 (k + 1) f fd ["n"] (spSteps K Ps) := by
  refine D.ok (k := k) scSteps (fun vs H Q E h => ?_) (fun A outer s H vs Q E hr h => ?_)
  · obtain ⟨n, rfl, _⟩ := h
    rfl
  · obtain ⟨n, rfl, n1, n8, ht, q⟩ := h
    refine ⟨_, (pss_one (ps_ret (pe_lc (own := [("point", 1)]) (g := gName 1) (by rfl) scSteps.nd (pi_range1 (by rfl) mr (pa_cons (pe_op op_sub (pv 0) pe_int) pa_nil)) (blkOk_by (N := ["n", "point"]) (sc := defScope sSteps) (by decide +kernel)) (fun _ _ _ _ _ => pg_name (i := 1) scSteps.nd rfl (Or.inl rfl)) (fun _ _ _ _ _ => pts_nil) (fun _ _ _ _ _ => (pe_tup (pa_cons (pv 1) (pa_cons (pe_op op_add (pv 1) pe_int) pa_nil))))))), ?_⟩
    refine ⟨.int n, rfl, n, 1, rfl, rfl, (n : Int) - 1, rfl, by omega, by omega, fun D0 hD => lc_range (lo := 0) (n := ((n : Int) - 1).toNat) (fun j H4 => CP Ps (TupI K) H D0 (stepsL j) j H4) (CP.start ht hD) (fun j H4 hj p => ?_) (fun H4 p => ?_)⟩
    · have hj' : j < n := by omega
      refine ⟨rfl, yes_ (iteT ⟨.int (0 + (j : Nat)), rfl, .int (0 + (j : Nat)), rfl, _, 1, rfl, rfl, (by show 2 ≤ sizeLine; decide), fun u hu => ?_⟩)⟩
      have x5 := Ext.new (o := .tup [.int (0 + (j : Nat)), .int (0 + (j : Nat) + 1)]) p.ext.tb hu
      have r := CP.put (stbT (K := K)) hD (by omega) (p.skip (stbT (K := K)) x5) (show TupI K _ (.ref u) [(j : Int), (j : Int) + 1] from ⟨u, rfl, .inl (.inl (by rw [upd_same]; simp))⟩)
      rw [stepsL_succ]
      exact r
    · obtain ⟨zs, g1, g2, g3⟩ := p.at_
      rw [show ((n : Int) - 1).toNat = n - 1 by omega] at g2
      exact q D0 zs _ p.ext hD g1 g2
def spRow (K : PySem.W.Frag) (Ps : Tbs) : Sp := fun vs H Q _ => ∃ n : Nat, vs = [.int n] ∧ 2 ≤ n ∧ n ≤ 8 ∧ Tb Ps H ∧ ∀ v H', Ext Ps H H' → Stk K H' v n 2 (stepsL (n - 1)) → Q v H'
theorem ok_row {fW cW fT cT : Addr} {fdW fdT : FuncData} {t8 : Tok} (D : Def K mg "row_stack" sRow ["n"] f fd c) (DW : Def K mg "need_within" sNeedWithin ["number", "least", "most"] fW fdW cW) (GW : FnOk P w K mg base CX0 k fW fdW ["number", "least", "most"] spNeedWithin) (DT : Def K mg "steps" sSteps ["n"] fT fdT cT) (GT : FnOk P w K mg base CX0 k fT fdT ["n"] (spSteps K Ps)) (m8 : mg "MOST_POINTS" = some (.int 8 t8)) (mt : mg "tuple" = none) : FnOk P w K mg base CX0 (k + 1) f fd ["n"] (spRow K Ps) := by
  refine D.ok (k := k) scRow (fun vs H Q E h => ?_) (fun A outer s H vs Q E hr h => ?_)
  · obtain ⟨n, rfl, _⟩ := h
    rfl
  · obtain ⟨n, rfl, n1, n8, ht, q⟩ := h
    refine ⟨_, (pss_cons (ps_expr (pcl DW GW hr (pa_cons (pv 0) (pa_cons pe_int (pa_cons (pe_glob rfl m8 (v := .int 8) ⟨_, rfl⟩) pa_nil))))) (pss_one (ps_ret (pe_tup (pa_cons (pv 0) (pa_cons pe_int (pa_cons (pe_callTy call_tuple_of (by rfl) mt (by decide +kernel) (pa_cons (pcl DT GT hr (pa_cons (pv 0) pa_nil)) pa_nil)) pa_nil))))))), ?_⟩
    refine ⟨.int n, rfl, n, 2, 8, rfl, by omega, by omega, .int n, rfl, .int n, rfl, n, rfl, by omega, n8, ht, fun l ys H2 e2 nl hl hp => ⟨l, ys, rfl, .inl ⟨.inl (.inl hl), fun tf ntf => ⟨(by show 3 ≤ sizeLine; decide), fun ts nts => ?_⟩⟩⟩⟩
    have x5 := Ext.new (o := .tup ys) e2.tb ntf
    have x6 := Ext.new (o := .tup [.int n, .int 2, .ref tf]) x5.tb nts
    exact q _ _ (e2.trans (x5.trans x6)) ⟨ts, tf, ys, rfl, .inl (.inl upd_same), x6.sqT (.inl (.inl upd_same)), (x5.trans x6).tups hp⟩
def spBadRow (K : PySem.W.Frag) (CN : Addr) : Sp := fun vs H _ E => ∃ (x : V) (d : PyData), vs = [x] ∧ Th K H x d ∧ intIn d 2 8 = false ∧ E (.ref CN) none H
theorem ok_badRow {fW cW : Addr} {fdW : FuncData} {t8 : Tok} (D : Def K mg "row_stack" sRow ["n"] f fd c) (DW : Def K mg "need_within" sNeedWithin ["number", "least", "most"] fW fdW cW) (GW : FnOk P w K mg base (L2.CX P w) k fW fdW ["number", "least", "most"] (spNeedWithinX K CN)) (m8 : mg "MOST_POINTS" = some (.int 8 t8)) : FnOk P w K mg base (L2.CX P w) (k + 1) f fd ["n"] (spBadRow K CN) := by
  refine D.okX (k := k) scRow (fun vs H Q E h => ?_) (fun A outer s H vs Q E hr tk h => ?_)
  · obtain ⟨x, d, rfl, _⟩ := h
    rfl
  · obtain ⟨x, d, rfl, hx, hd, q⟩ := h
    refine ⟨_, pss_cons (ps_expr (pclX DW GW hr tk (pa_cons (pv 0) (pa_cons pe_int (pa_cons (pe_glob rfl m8 (v := .int 8) ⟨_, rfl⟩) pa_nil))))) (pss_one ps_never), ?_⟩
    exact ⟨x, rfl, x, d, 2, 8, rfl, hx, hd, by decide, by decide, q⟩

def spRing (K : PySem.W.Frag) (Ps : Tbs) : Sp := fun vs H Q _ => ∃ n : Nat, vs = [.int n] ∧ 3 ≤ n ∧ n ≤ 8 ∧ Tb Ps H ∧ ∀ v H', Ext Ps H H' → Stk K H' v n 2 (ringL n) → Q v H'
theorem ok_ring {fW cW fT cT : Addr} {fdW fdT : FuncData} {t8 : Tok} (D : Def K mg "ring_stack" sRing ["n"] f fd c) (DW : Def K mg "need_within" sNeedWithin ["number", "least", "most"] fW fdW cW) (GW : FnOk P w K mg base CX0 k fW fdW ["number", "least", "most"] spNeedWithin) (DT : Def K mg "steps" sSteps ["n"] fT fdT cT) (GT : FnOk P w K mg base CX0 k fT fdT ["n"] (spSteps K Ps)) (m8 : mg "MOST_POINTS" = some (.int 8 t8)) (mt : mg "tuple" = none) (ms : mg "sorted" = none) : FnOk P w K mg base CX0 (k + 1) f fd ["n"] (spRing K Ps) := by
  refine D.ok (k := k) scRing (fun vs H Q E h => ?_) (fun A outer s H vs Q E hr h => ?_)
  · obtain ⟨n, rfl, _⟩ := h
    rfl
  · obtain ⟨n, rfl, n1, n8, ht, q⟩ := h
    refine ⟨_, (pss_cons (ps_expr (pcl DW GW hr (pa_cons (pv 0) (pa_cons pe_int (pa_cons (pe_glob rfl m8 (v := .int 8) ⟨_, rfl⟩) pa_nil))))) (pss_one (ps_ret (pe_tup (pa_cons (pv 0) (pa_cons pe_int (pa_cons (pe_callTy call_tuple_of (by rfl) mt (by decide +kernel) (pa_cons (pe_callB (cr_sortL hr.units) (by rfl) ms (by decide +kernel) (pa_cons (pe_lst (show PA _ _ (StX.tStar K _ _) from StX.pa_star (pcl DT GT hr (pa_cons (pv 0) pa_nil)) (pa_cons (pe_tup (pa_cons pe_int (pa_cons (pe_op op_sub (pv 0) pe_int) pa_nil))) pa_nil))) pa_nil)) pa_nil)) pa_nil))))))), ?_⟩
    refine ⟨.int n, rfl, n, 3, 8, rfl, by omega, by omega, .int n, rfl, .int n, rfl, n, rfl, by omega, n8, ht, fun l ys H2 e2 nl hl hp => ⟨l, ys, rfl, .inr (.inl (.inl hl)), .int n, rfl, n, 1, rfl, rfl, (by show 2 ≤ sizeLine; decide), fun u nu => ?_⟩⟩
    have x3 := Ext.new (o := .tup [.int 0, .int ((n : Int) - 1)]) e2.tb nu
    have hu : TupI K (upd H2 u (.tup [.int 0, .int ((n : Int) - 1)])) (.ref u) [0, (n : Int) - 1] := ⟨u, rfl, .inl (.inl upd_same)⟩
    have hyl : ys.length ≤ 8 := by
      rw [Paired.length hp]
      simp [stepsL]
      omega
    refine ⟨Nat.le_of_lt (small1000 (by rw [List.length_append]; simp; omega)), fun L nL => ?_⟩
    have x4 := Ext.new (o := .lst (ys ++ [.ref u])) x3.tb nL
    refine ⟨L, _, stepsL (n - 1) ++ [[0, (n : Int) - 1]], rfl, .inl (.inl upd_same), paired_app ((x3.trans x4).tups hp) (.cons (x4.tupI hu) .nil), fun zs p hz _ np => ?_⟩
    have x5 := Ext.new (o := .lst zs) x4.tb np
    refine ⟨p, zs, rfl, .inl ⟨.inl (.inl upd_same), fun tf ntf => ⟨(by show 3 ≤ sizeLine; decide), fun ts nts => ?_⟩⟩⟩
    have x6 := Ext.new (o := .tup zs) x5.tb ntf
    have x7 := Ext.new (o := .tup [.int n, .int 2, .ref tf]) x6.tb nts
    exact q _ _ (e2.trans (x3.trans (x4.trans (x5.trans (x6.trans x7))))) ⟨ts, tf, zs, rfl, .inl (.inl upd_same), x7.sqT (.inl (.inl upd_same)), (x5.trans (x6.trans x7)).tups hz⟩
def spBadRing (K : PySem.W.Frag) (CN : Addr) : Sp := fun vs H _ E => ∃ (x : V) (d : PyData), vs = [x] ∧ Th K H x d ∧ intIn d 3 8 = false ∧ E (.ref CN) none H
theorem ok_badRing {fW cW : Addr} {fdW : FuncData} {t8 : Tok} (D : Def K mg "ring_stack" sRing ["n"] f fd c) (DW : Def K mg "need_within" sNeedWithin ["number", "least", "most"] fW fdW cW) (GW : FnOk P w K mg base (L2.CX P w) k fW fdW ["number", "least", "most"] (spNeedWithinX K CN)) (m8 : mg "MOST_POINTS" = some (.int 8 t8)) : FnOk P w K mg base (L2.CX P w) (k + 1) f fd ["n"] (spBadRing K CN) := by
  refine D.okX (k := k) scRing (fun vs H Q E h => ?_) (fun A outer s H vs Q E hr tk h => ?_)
  · obtain ⟨x, d, rfl, _⟩ := h
    rfl
  · obtain ⟨x, d, rfl, hx, hd, q⟩ := h
    refine ⟨_, pss_cons (ps_expr (pclX DW GW hr tk (pa_cons (pv 0) (pa_cons pe_int (pa_cons (pe_glob rfl m8 (v := .int 8) ⟨_, rfl⟩) pa_nil))))) (pss_one ps_never), ?_⟩
    exact ⟨x, rfl, x, d, 3, 8, rfl, hx, hd, by decide, by decide, q⟩

/-! ### pairs_stack -/
def spPairs (K : PySem.W.Frag) (Ps : Tbs) : Sp := fun vs H Q _ => ∃ n : Nat, vs = [.int n] ∧ 1 ≤ n ∧ n ≤ 4 ∧ Tb Ps H ∧ ∀ v H', Ext Ps H H' → Stk K H' v (2 * (n : Int)) n (pairsP n) → Q v H'
theorem ok_pairs {fW cW : Addr} {fdW : FuncData} {t4 : Tok} (D : Def K mg "pairs_stack" sPairs ["d"] f fd c) (DW : Def K mg "need_within" sNeedWithin ["number", "least", "most"] fW fdW cW) (GW : FnOk P w K mg base CX0 k fW fdW ["number", "least", "most"] spNeedWithin) (m4 : mg "MOST_IN_FACE" = some (.int 4 t4)) (mt : mg "tuple" = none) (mr : mg "range" = none) : FnOk P w K mg base CX0 (k + 1) f fd ["d"] (spPairs K Ps) := by
  refine D.ok (k := k) scPairs (fun vs H Q E h => ?_) (fun A outer s H vs Q E hr h => ?_)
  · obtain ⟨n, rfl, _⟩ := h
    rfl
  · obtain ⟨n, rfl, n1, n4, ht, q⟩ := h
    refine ⟨_, (pss_cons (ps_expr (pcl DW GW hr (pa_cons (pv 0) (pa_cons pe_int (pa_cons (pe_glob rfl m4 (v := .int 4) ⟨_, rfl⟩) pa_nil))))) (pss_cons (ps_set (i := 1) scPairs.nd rfl (.inl rfl) (pe_lst (pa_cons (pe_tup pa_nil) pa_nil))) (pss_cons (ps_for PassesOwn.never rfl (pi_range1 (by rfl) mr (pa_cons (pv 0) pa_nil)) (pg_name (i := 2) scPairs.nd rfl (.inr rfl)) (pss_one (ps_setLc2 (i := 1) (own := [("face", 3), ("point", 4)]) (vs1 := [4]) (g := gName 3) (g1 := gName 4) (by rfl) scPairs.nd rfl rfl (by rfl) (pi_list (pv 1)) (blkOk_by (N := ["d", "faces", "i", "face", "point"]) (sc := defScope sPairs) (by decide +kernel)) (by decide) (fun _ _ _ _ _ => pg_name (i := 3) scPairs.nd rfl (Or.inl rfl)) (fun _ _ _ _ _ => pts_nil) (fun _ _ _ _ _ => show PI _ _ _ (iTup K _) from pi_tup (pe_tup (pa_cons (pe_op op_mul pe_int (pv 2)) (pa_cons (pe_op op_add (pe_op op_mul pe_int (pv 2)) pe_int) pa_nil)))) (fun _ _ _ _ _ => pg_name (i := 4) scPairs.nd rfl (Or.inl rfl)) (fun _ _ _ _ _ => pts_nil) (fun _ _ _ _ _ => pe_tup (show PA _ _ (StX.tStar K _ _) from StX.pa_star (pv 3) (pa_cons (pv 4) pa_nil)))))) (pss_one (ps_ret (pe_tup (pa_cons (pe_op op_mul pe_int (pv 0)) (pa_cons (pv 0) (pa_cons (pe_callTy call_tuple_of (by rfl) mt (by decide +kernel) (pa_cons (pv 1) pa_nil)) pa_nil))))))))), ?_⟩
    refine ⟨.int n, rfl, n, 1, 4, rfl, by omega, by omega, Nat.zero_le _, fun e he => ⟨(by show 1 ≤ sizeLine; decide), fun l0 hl0 => ?_⟩⟩
    have x1 : Ext Ps H (upd H e (.tup [])) := Ext.new ht he
    have x2 := x1.trans (Ext.new (o := .lst [.ref e]) x1.tb hl0)
    refine ⟨.int n, rfl, (n : Int), rfl, by omega, by omega, for_range (lo := 0) (n := (n : Int).toNat) (fun i σ H3 => Ext Ps H H3 ∧ ∃ (l : Addr) (ys : List V) (y2 : Option V), σ = [some (.int n), some (.ref l), y2, none, none] ∧ H l = none ∧ H3 l = some (.lst ys) ∧ Paired (TupI K H3) ys (pairsP i)) ?_ (fun i σ H3 hi p => ?_) (fun σ H3 p => ?_)⟩
    · refine ⟨x2, l0, [.ref e], none, rfl, x1.free hl0, upd_same, .cons ⟨e, rfl, .inl (.inl ?_)⟩ .nil⟩
      rw [upd_ne (ne_of_none upd_same hl0)]
      exact upd_same
    · obtain ⟨x3, l, ys, y2, rfl, hnl, h3, hp⟩ := p
      have hi4 : i < 4 := by omega
      have hl2 := (pairsP_len i).1
      have hylen : ys.length ≤ 16 := by
        rw [Paired.length hp, hl2]
        exact Nat.le_trans (Nat.pow_le_pow_right (by decide) (show i ≤ 4 by omega)) (by decide)
      refine ⟨.ref l, rfl, l, rfl, ⟨_, .inl (.inl h3)⟩, fun D0 hD => lc2_list (K := K) (a := l) (xs := ys) (fun j H4 => CP Ps (TupI K) H3 D0 (((pairsP i).take j).flatMap fun g => [g ++ [2 * (i : Int)], g ++ [2 * (i : Int) + 1]]) (2 * j) H4) (by rw [List.take_zero]; exact CP.start x3.tb hD) (fun j H4 _ p => p.ext.sqL (.inl (.inl h3))) (fun j z H4 hz p => ?_) (fun H4 p => ?_)⟩
      · obtain ⟨g, hg, t2, rfl, hT⟩ := paired_get hp hz
        have hj : j < ys.length := (List.getElem?_eq_some_iff.mp hz).1
        have hgl := (pairsP_len i).2 g (List.mem_of_getElem? hg)
        refine ⟨rfl, yes_ (iteT ⟨.int (0 + (i : Nat)), rfl, 2, _, rfl, rfl, .inl ⟨by decide, by decide⟩, .int (0 + (i : Nat)), rfl, 2, _, rfl, rfl, .inl ⟨by decide, by decide⟩, _, 1, rfl, rfl, (by show 2 ≤ sizeLine; decide), fun tp ntp => ?_⟩)⟩
        have x5 := Ext.new (o := .tup [.int (2 * (0 + (i : Nat))), .int (2 * (0 + (i : Nat)) + 1)]) p.ext.tb ntp
        have p5 := p.skip (stbT (K := K)) x5
        have htp : SqT K (upd H4 tp (.tup [.int (2 * (0 + (i : Nat))), .int (2 * (0 + (i : Nat)) + 1)])) tp [.int (2 * (0 + (i : Nat))), .int (2 * (0 + (i : Nat)) + 1)] := .inl (.inl upd_same)
        generalize upd H4 tp (.tup [.int (2 * (0 + (i : Nat))), .int (2 * (0 + (i : Nat)) + 1)]) = H5 at *
        have hft : ((pairsP i).take (j + 1)).flatMap (fun g => [g ++ [2 * (i : Int)], g ++ [2 * (i : Int) + 1]]) = ((pairsP i).take j).flatMap (fun g => [g ++ [2 * (i : Int)], g ++ [2 * (i : Int) + 1]]) ++ [g ++ [2 * (i : Int)]] ++ [g ++ [2 * (i : Int) + 1]] := by
          rw [List.take_add_one, hg, List.flatMap_append]
          simp
        have e0 : (0 : Int) + (i : Nat) = (i : Nat) := by omega
        refine ⟨tp, rfl, ⟨_, htp⟩, in2_tup (K := K) (t := tp) (ys := [.int (2 * (0 + (i : Nat))), .int (2 * (0 + (i : Nat)) + 1)]) (fun u HX => CP Ps (TupI K) H3 D0 (((pairsP i).take j).flatMap (fun g => [g ++ [2 * (i : Int)], g ++ [2 * (i : Int) + 1]]) ++ ([g ++ [2 * (i : Int)], g ++ [2 * (i : Int) + 1]].take u)) (2 * j + u) HX ∧ SqT K HX tp [.int (2 * (0 + (i : Nat))), .int (2 * (0 + (i : Nat)) + 1)]) ⟨by rw [List.take_zero, List.append_nil]; exact p5, htp⟩ (fun u HX _ p => p.2) (fun u x HX hx p => ?_) (fun HX p => ?_)⟩
        · obtain ⟨p6, htp6⟩ := p
          have hT6 := p6.ext.sqT hT
          obtain ⟨pt, hpt, hu2, hnew⟩ : ∃ pt : Int, x = .int pt ∧ u < 2 ∧ [g ++ [2 * (i : Int)], g ++ [2 * (i : Int) + 1]].take (u + 1) = [g ++ [2 * (i : Int)], g ++ [2 * (i : Int) + 1]].take u ++ [g ++ [pt]] := by
            match u, hx with
            | 0, hx => cases hx; exact ⟨_, rfl, by decide, by rw [e0]; rfl⟩
            | 1, hx => cases hx; exact ⟨_, rfl, by decide, by rw [e0]; rfl⟩
            | u + 2, hx => simp at hx
          subst hpt
          refine ⟨rfl, yes_ (iteT ⟨.ref t2, rfl, t2, g.map V.int, rfl, .inl hT6, .int pt, rfl, ?_, fun v hv => ?_⟩)⟩
          · show (g.map V.int ++ [V.int pt]).length ≤ sizeLine
            rw [List.length_append, List.length_map, List.length_singleton]
            exact Nat.le_of_lt (small1000 (by omega))
          · have x7 := Ext.new (o := .tup (g.map V.int ++ [.int pt])) p6.ext.tb hv
            have r := CP.put (stbT (K := K)) hD (by omega) (p6.skip (stbT (K := K)) x7) (show TupI K _ (.ref v) (g ++ [pt]) from ⟨v, rfl, .inl (.inl (by rw [List.map_append]; exact upd_same))⟩)
            obtain ⟨acc, r1, r2, r3⟩ := r
            refine ⟨acc, r1, r2, ?_, ?_⟩
            · rw [hnew, ← List.append_assoc]
              exact r3
            · refine sqT_put r1 (x7.sqT htp6)
        · have := p.1
          rw [hft, List.append_assoc]
          exact this
      · obtain ⟨zs, g1, g2, g3⟩ := p.at_
        rw [Paired.length hp, List.take_length] at g2
        exact ⟨x3.trans p.ext, D0, zs, some (.int (0 + (i : Nat))), rfl, x3.free hD, g1, g2⟩
    · obtain ⟨x3, l, ys, y2, rfl, hnl, h3, hp⟩ := p
      rw [Int.toNat_natCast] at hp
      refine ⟨.int n, rfl, 2, n, rfl, rfl, .inl ⟨by decide, by decide⟩, .int n, rfl, .ref l, rfl, l, ys, rfl, .inl ⟨.inl (.inl h3), fun tf ntf => ⟨(by show 3 ≤ sizeLine; decide), fun ts nts => ?_⟩⟩⟩
      have x5 := Ext.new (o := .tup ys) x3.tb ntf
      have x6 := Ext.new (o := .tup [.int (2 * (n : Int)), .int n, .ref tf]) x5.tb nts
      exact q _ _ (x3.trans (x5.trans x6)) ⟨ts, tf, ys, rfl, .inl (.inl upd_same), x6.sqT (.inl (.inl upd_same)), (x5.trans x6).tups hp⟩
def spBadPairs (K : PySem.W.Frag) (CN : Addr) : Sp := fun vs H _ E => ∃ (x : V) (d : PyData), vs = [x] ∧ Th K H x d ∧ intIn d 1 4 = false ∧ E (.ref CN) none H
theorem ok_badPairs {fW cW : Addr} {fdW : FuncData} {t4 : Tok} (D : Def K mg "pairs_stack" sPairs ["d"] f fd c) (DW : Def K mg "need_within" sNeedWithin ["number", "least", "most"] fW fdW cW) (GW : FnOk P w K mg base (L2.CX P w) k fW fdW ["number", "least", "most"] (spNeedWithinX K CN)) (m4 : mg "MOST_IN_FACE" = some (.int 4 t4)) : FnOk P w K mg base (L2.CX P w) (k + 1) f fd ["d"] (spBadPairs K CN) := by
  refine D.okX (k := k) scPairs (fun vs H Q E h => ?_) (fun A outer s H vs Q E hr tk h => ?_)
  · obtain ⟨x, d, rfl, _⟩ := h
    rfl
  · obtain ⟨x, d, rfl, hx, hd, q⟩ := h
    refine ⟨_, pss_cons (ps_expr (pclX DW GW hr tk (pa_cons (pv 0) (pa_cons pe_int (pa_cons (pe_glob rfl m4 (v := .int 4) ⟨_, rfl⟩) pa_nil))))) (pss_cons ps_never (pss_cons ps_never (pss_one ps_never))), ?_⟩
    exact ⟨x, rfl, x, d, 1, 4, rfl, hx, hd, by decide, by decide, q⟩

end
end Lf

set_option maxHeartbeats 4000000
namespace Lf
open PySem PySem.Spec PyProof.Rows L2 GxR GxA SrT
abbrev sEveryL : Stmt := topS 56
abbrev sMade : Stmt := topS 58
abbrev sPairsL : Stmt := topS 63
theorem scEveryL : FnScope ["_law_n", "_law_k", "_law_found", "_law_point", "_law_one"] ["_law_n", "_law_k"] (defScope sEveryL) := ⟨rfl, rfl, rfl, by decide +kernel, rfl, by decide +kernel, by decide +kernel⟩
theorem scMade : FnScope ["_law_n", "_law_k", "_law_faces"] ["_law_n", "_law_k", "_law_faces"] (defScope sMade) := ⟨rfl, rfl, rfl, by decide +kernel, rfl, by decide +kernel, by decide +kernel⟩
theorem scPairsL : FnScope ["_law_d", "_law_found", "_law_place", "_law_one"] ["_law_d"] (defScope sPairsL) := ⟨rfl, rfl, rfl, by decide +kernel, rfl, by decide +kernel, by decide +kernel⟩
def everyL (n k : Nat) : List (List Int) := sortL ((subsL (rng n)).filter fun g => decide (g.length = k))
def pairsQ : Nat → List (List Int)
  | 0 => [[]]
  | i + 1 => (pairsQ i).map (· ++ [2 * (i : Int)]) ++ (pairsQ i).map (· ++ [2 * (i : Int) + 1])
theorem pairsQ_len : ∀ i, (pairsQ i).length = 2 ^ i ∧ ∀ g ∈ pairsQ i, g.length = i
  | 0 => ⟨rfl, fun g hg => by rw [List.mem_singleton.mp hg]; rfl⟩
  | i + 1 => by
    obtain ⟨h1, h2⟩ := pairsQ_len i
    constructor
    · show (List.map _ (pairsQ i) ++ List.map _ (pairsQ i)).length = _
      rw [List.length_append, List.length_map, List.length_map, h1, Nat.pow_succ]
      omega
    · intro g hg
      rcases List.mem_append.mp hg with hg | hg
      · obtain ⟨g0, hg0, rfl⟩ := List.mem_map.mp hg
        simp [h2 g0 hg0]
      · obtain ⟨g0, hg0, rfl⟩ := List.mem_map.mp hg
        simp [h2 g0 hg0]
section
variable {P : Program} {w : World} {K : PySem.W.Frag} {mg : Str → Option Value} {base : Heap} {Ps : Tbs} {H H' H0 : Hp} {k : Nat} {f c : Addr} {fd : FuncData}
/-- the reading of [one + (point,) for one in found] -/
theorem rd_grow {D0 : Addr} {ys : List V} {gss : List (List Int)} {pt : Int} {H3 H4 : Hp} {j : Nat} {g : List Int} {t u : Addr} (hD : H3 D0 = none) (hy : ys.length ≤ 256) (hj : j < ys.length) (hg : gss[j]? = some g) (hgl : g.length ≤ 8) (hT : SqT K H4 t (g.map V.int))
    (p : CP Ps (TupI K) H3 D0 ((gss.take j).map (· ++ [pt])) j H4) (hu : H4 u = none) : rCatI K Ps (.ref t) (.ref u) (upd H4 u (.tup [.int pt])) (fun v H6 => ∃ acc, H6 D0 = some (.lst acc) ∧ acc.length < sizeLine ∧ CP Ps (TupI K) H3 D0 ((gss.take (j + 1)).map (· ++ [pt])) (j + 1) (upd H6 D0 (.lst (acc ++ [v])))) := by
  have x5 := Ext.new (o := .tup [.int pt]) p.ext.tb hu
  refine ⟨g, [pt], ⟨t, rfl, x5.sqT hT⟩, ⟨u, rfl, .inl (.inl upd_same)⟩, by simp; omega, x5.tb, fun v H6 e6 hv => ?_⟩
  have r := CP.put (stbT (K := K)) hD (by omega) (p.skip (stbT (K := K)) (x5.trans e6)) hv
  rw [List.take_add_one, hg, List.map_append]
  exact r
/-! ### _law_every -/
def spEveryK (K : PySem.W.Frag) (Ps : Tbs) : Sp := fun vs H Q _ => ∃ n kk : Nat, vs = [.int n, .int kk] ∧ n ≤ 8 ∧ kk ≤ 8 ∧ Tb Ps H ∧ ∀ l ys H', Ext Ps H H' → H l = none → H' l = some (.lst ys) → Paired (TupI K H') ys (everyL n kk) → Q (.ref l) H'
theorem ok_everyL (D : Def K mg "_law_every" sEveryL ["_law_n", "_law_k"] f fd c) (mr : mg "range" = none) (ml : mg "len" = none) (ms : mg "sorted" = none) : FnOk P w K mg base CX0 (k + 1) f fd ["_law_n", "_law_k"] (spEveryK K Ps) := by
  refine D.ok (k := k) scEveryL (fun vs H Q E h => ?_) (fun A outer s H vs Q E hr h => ?_)
  · obtain ⟨n, kk, rfl, _⟩ := h
    rfl
  · obtain ⟨n, kk, rfl, hn, hk, ht, q⟩ := h
    refine ⟨_, (pss_cons (ps_set (i := 2) scEveryL.nd rfl (.inl rfl) (pe_lst (pa_cons (pe_tup pa_nil) pa_nil))) (pss_cons (ps_for PassesOwn.never rfl (pi_range1 (by rfl) mr (pa_cons (pv 0) pa_nil)) (pg_name (i := 3) scEveryL.nd rfl (.inr rfl)) (pss_one (ps_set (i := 2) scEveryL.nd rfl (.inl rfl) (pe_op op_cat (pv 2) (pe_lc (own := [("_law_one", 4)]) (g := gName 4) (by rfl) scEveryL.nd (pi_list (pv 2)) (blkOk_by (N := ["_law_n", "_law_k", "_law_found", "_law_point", "_law_one"]) (sc := defScope sEveryL) (by decide +kernel)) (fun _ _ _ _ _ => pg_name (i := 4) scEveryL.nd rfl (Or.inl rfl)) (fun _ _ _ _ _ => pts_nil) (fun _ _ _ _ _ => (pe_op (show OpR _ _ (rCatI K Ps) from op_catI) (pv 4) (pe_tup (pa_cons (pv 3) pa_nil))))))))) (pss_one (ps_ret (pe_callB (cr_sortL hr.units) (by rfl) ms (by decide +kernel) (pa_cons (pe_lc (own := [("_law_one", 4)]) (g := gName 4) (by rfl) scEveryL.nd (pi_list (pv 2)) (blkOk_by (N := ["_law_n", "_law_k", "_law_found", "_law_point", "_law_one"]) (sc := defScope sEveryL) (by decide +kernel)) (fun _ _ _ _ _ => pg_name (i := 4) scEveryL.nd rfl (Or.inl rfl)) (fun _ _ _ _ _ => pts_one (pt_cmpR op_eq (pe_callB (call_lenS (K := K) rfl) (by rfl) ml PySem.boot_len (pa_cons (pv 4) pa_nil)) (pv 1) (nomark _))) (fun _ _ _ _ _ => (pv 4))) pa_nil)))))), ?_⟩
    refine ⟨Nat.zero_le _, fun e he => ⟨(by show 1 ≤ sizeLine; decide), fun l0 hl0 => ?_⟩⟩
    have x1 : Ext Ps H (upd H e (.tup [])) := Ext.new ht he
    have x2 := x1.trans (Ext.new (o := .lst [.ref e]) x1.tb hl0)
    have h8 : (rng n).length ≤ 8 := by rw [rng_len]; exact hn
    refine ⟨.int n, rfl, (n : Int), rfl, by omega, by omega, for_range (lo := 0) (n := (n : Int).toNat) (fun i σ H3 => Ext Ps H H3 ∧ ∃ (l : Addr) (ys : List V) (y3 : Option V), σ = [some (.int n), some (.int kk), some (.ref l), y3, none] ∧ H l = none ∧ H3 l = some (.lst ys) ∧ Paired (TupI K H3) ys (subsL ((rng n).take i))) ?_ (fun i σ H3 hi p => ?_) (fun σ H3 p => ?_)⟩
    · refine ⟨x2, l0, [.ref e], none, rfl, x1.free hl0, upd_same, .cons ⟨e, rfl, .inl (.inl ?_)⟩ .nil⟩
      rw [upd_ne (ne_of_none upd_same hl0)]
      exact upd_same
    · obtain ⟨x3, l, ys, y3, rfl, hnl, h3, hp⟩ := p
      have hin : i < n := by omega
      have h256 := subs_le8 h8 i
      have hlen : ys.length ≤ 256 := by
        rw [Paired.length hp]
        exact h256
      have e0 : (0 : Int) + (i : Nat) = (i : Nat) := by omega
      have hri : (rng n)[i]? = some (i : Int) := by
        unfold rng
        rw [List.getElem?_map, List.getElem?_range hin]
        rfl
      refine ⟨.ref l, rfl, .ref l, rfl, l, rfl, ⟨_, .inl (.inl h3)⟩, fun D0 hD => lc_list (K := K) (a := l) (xs := ys) (fun j H4 => CP Ps (TupI K) H3 D0 (((subsL ((rng n).take i)).take j).map (· ++ [(i : Int)])) j H4) (CP.start x3.tb hD) (fun j H4 _ p => p.ext.sqL (.inl (.inl h3))) (fun j z H4 hz p => ?_) (fun H4 p => ?_)⟩
      · obtain ⟨g, hg, t, rfl, hT⟩ := paired_get hp hz
        have hj : j < ys.length := (List.getElem?_eq_some_iff.mp hz).1
        have hgl : g.length ≤ 8 := by
          have := (mem_subs.mp (List.mem_of_getElem? hg)).length_le
          rw [List.length_take] at this
          omega
        refine ⟨rfl, yes_ (iteT ⟨.ref t, rfl, .int (0 + (i : Nat)), rfl, (by show 1 ≤ sizeLine; decide), fun u hu => ?_⟩)⟩
        rw [e0]
        exact rd_grow (K := K) hD hlen hj hg hgl (p.ext.sqT hT) p hu
      · obtain ⟨zs, h4, h5, h6⟩ := p.at_
        refine ⟨l, D0, ys, zs, rfl, rfl, p.ext.lst h3, h4, Nat.le_of_lt (small1000 (by omega)), fun l2 hl2 => ?_⟩
        have x6 := Ext.new (o := .lst (ys ++ zs)) p.ext.tb hl2
        refine ⟨x3.trans (p.ext.trans x6), l2, ys ++ zs, some (.int (0 + (i : Nat))), rfl, (x3.trans p.ext).free hl2, upd_same, ?_⟩
        rw [subs_take hri]
        unfold grow
        have e9 : (subsL ((rng n).take i)).take ys.length = subsL ((rng n).take i) := by
          rw [Paired.length hp, List.take_length]
        rw [e9] at h5
        exact x6.tups (paired_app (p.ext.tups hp) h5)
    · obtain ⟨x3, l, ys, y3, rfl, hnl, h3, hp⟩ := p
      rw [Int.toNat_natCast, List.take_of_length_le (by rw [rng_len]; exact Nat.le_refl _)] at hp
      have hlen : ys.length ≤ 256 := by
        have := subs_le8 h8 n
        rw [List.take_of_length_le (by rw [rng_len]; exact Nat.le_refl _)] at this
        rw [Paired.length hp]
        exact this
      refine ⟨.ref l, rfl, l, rfl, ⟨_, .inl (.inl h3)⟩, fun D0 hD => lc_list (K := K) (a := l) (xs := ys) (fun j H4 => CP Ps (TupI K) H3 D0 (((subsL (rng n)).take j).filter fun g => decide (g.length = kk)) j H4) (by rw [List.take_zero]; exact CP.start x3.tb hD) (fun j H4 _ p => p.ext.sqL (.inl (.inl h3))) (fun j z H4 hz p => ?_) (fun H4 p => ?_)⟩
      · obtain ⟨g, hg, t2, rfl, hT⟩ := paired_get hp hz
        have hj : j < ys.length := (List.getElem?_eq_some_iff.mp hz).1
        have hft := filt_take (fun g : List Int => decide (g.length = kk)) hg
        refine ⟨rfl, .ref t2, rfl, t2, _, rfl, .inr (p.ext.sqT hT), .int kk, rfl, rfl, _, rfl, ?_⟩
        have ed : decide (V.int ((g.map V.int).length : Int) = V.int (kk : Int)) = decide (g.length = kk) := by
          rw [List.length_map]
          congr 1
          exact propext ⟨fun z => by injection z with z; omega, fun z => by rw [z]⟩
        rw [ed]
        refine ite2 (fun hc => ?_) (fun hc => ?_)
        · refine ⟨.ref t2, rfl, ?_⟩
          have r := CP.put (stbT (K := K)) hD (by omega) p (show TupI K H4 (.ref t2) g from ⟨t2, rfl, p.ext.sqT hT⟩)
          rw [if_pos hc] at hft
          rw [hft]
          exact r
        · rw [if_neg hc, List.append_nil] at hft
          rw [hft]
          exact p.mono (Nat.le_succ j)
      · obtain ⟨zs, g1, g2, g3⟩ := p.at_
        rw [Paired.length hp, List.take_length] at g2
        refine ⟨D0, zs, _, rfl, .inl (.inl g1), g2, fun ws u hw _ nu => ?_⟩
        have x7 := Ext.new (o := .lst ws) p.ext.tb nu
        exact q u ws _ (x3.trans (p.ext.trans x7)) ((x3.trans p.ext).free nu) upd_same (x7.tups hw)
/-! ### _law_made -/
def spMade (K : PySem.W.Frag) (Ps : Tbs) : Sp := fun vs H Q _ => ∃ (n kk : Int) (l : Addr) (xs : List V) (fss : List (List Int)), vs = [.int n, .int kk, .ref l] ∧ SqL K H l xs ∧ Paired (TupI K H) xs fss ∧ Tb Ps H ∧ ∀ v H', Ext Ps H H' → Stk K H' v n kk (sortL fss) → Q v H'
theorem ok_made (D : Def K mg "_law_made" sMade ["_law_n", "_law_k", "_law_faces"] f fd c) (mt : mg "tuple" = none) (ms : mg "sorted" = none) : FnOk P w K mg base CX0 (k + 1) f fd ["_law_n", "_law_k", "_law_faces"] (spMade K Ps) := by
  refine D.ok (k := k) scMade (fun vs H Q E h => ?_) (fun A outer s H vs Q E hr h => ?_)
  · obtain ⟨n, kk, l, xs, fss, rfl, _⟩ := h
    rfl
  · obtain ⟨n, kk, l, xs, fss, rfl, hl, hp, ht, q⟩ := h
    refine ⟨_, (pss_one (ps_ret (pe_tup (pa_cons (pv 0) (pa_cons (pv 1) (pa_cons (pe_callTy call_tuple_of (by rfl) mt (by decide +kernel) (pa_cons (pe_callB (cr_sortL hr.units) (by rfl) ms (by decide +kernel) (pa_cons (pv 2) pa_nil)) pa_nil)) pa_nil)))))), ?_⟩
    refine ⟨.int n, rfl, .int kk, rfl, .ref l, rfl, l, xs, fss, rfl, hl, hp, fun zs p hz _ np => ?_⟩
    have x5 := Ext.new (o := .lst zs) ht np
    refine ⟨p, zs, rfl, .inl ⟨.inl (.inl upd_same), fun tf ntf => ⟨(by show 3 ≤ sizeLine; decide), fun ts nts => ?_⟩⟩⟩
    have x6 := Ext.new (o := .tup zs) x5.tb ntf
    have x7 := Ext.new (o := .tup [.int n, .int kk, .ref tf]) x6.tb nts
    exact q _ _ (x5.trans (x6.trans x7)) ⟨ts, tf, zs, rfl, .inl (.inl upd_same), x7.sqT (.inl (.inl upd_same)), (x5.trans (x6.trans x7)).tups hz⟩
/-! ### _law_pairs -/
def spPairsL (K : PySem.W.Frag) (Ps : Tbs) : Sp := fun vs H Q _ => ∃ d : Nat, vs = [.int d] ∧ d ≤ 4 ∧ Tb Ps H ∧ ∀ l ys H', Ext Ps H H' → H l = none → H' l = some (.lst ys) → Paired (TupI K H') ys (sortL (pairsQ d)) → Q (.ref l) H'
theorem ok_pairsL (D : Def K mg "_law_pairs" sPairsL ["_law_d"] f fd c) (mr : mg "range" = none) (ms : mg "sorted" = none) : FnOk P w K mg base CX0 (k + 1) f fd ["_law_d"] (spPairsL K Ps) := by
  refine D.ok (k := k) scPairsL (fun vs H Q E h => ?_) (fun A outer s H vs Q E hr h => ?_)
  · obtain ⟨d, rfl, _⟩ := h
    rfl
  · obtain ⟨d, rfl, d4, ht, q⟩ := h
    refine ⟨_, (pss_cons (ps_set (i := 1) scPairsL.nd rfl (.inl rfl) (pe_lst (pa_cons (pe_tup pa_nil) pa_nil))) (pss_cons (ps_for PassesOwn.never rfl (pi_range1 (by rfl) mr (pa_cons (pv 0) pa_nil)) (pg_name (i := 2) scPairsL.nd rfl (.inr rfl)) (pss_one (ps_set (i := 1) scPairsL.nd rfl (.inl rfl) (pe_op op_cat (pe_lc (own := [("_law_one", 3)]) (g := gName 3) (by rfl) scPairsL.nd (pi_list (pv 1)) (blkOk_by (N := ["_law_d", "_law_found", "_law_place", "_law_one"]) (sc := defScope sPairsL) (by decide +kernel)) (fun _ _ _ _ _ => pg_name (i := 3) scPairsL.nd rfl (Or.inl rfl)) (fun _ _ _ _ _ => pts_nil) (fun _ _ _ _ _ => (pe_op (show OpR _ _ (rCatI K Ps) from op_catI) (pv 3) (pe_tup (pa_cons (pe_op op_mul pe_int (pv 2)) pa_nil))))) (pe_lc (own := [("_law_one", 3)]) (g := gName 3) (by rfl) scPairsL.nd (pi_list (pv 1)) (blkOk_by (N := ["_law_d", "_law_found", "_law_place", "_law_one"]) (sc := defScope sPairsL) (by decide +kernel)) (fun _ _ _ _ _ => pg_name (i := 3) scPairsL.nd rfl (Or.inl rfl)) (fun _ _ _ _ _ => pts_nil) (fun _ _ _ _ _ => (pe_op (show OpR _ _ (rCatI K Ps) from op_catI) (pv 3) (pe_tup (pa_cons (pe_op op_add (pe_op op_mul pe_int (pv 2)) pe_int) pa_nil))))))))) (pss_one (ps_ret (pe_callB (cr_sortL hr.units) (by rfl) ms (by decide +kernel) (pa_cons (pv 1) pa_nil)))))), ?_⟩
    refine ⟨Nat.zero_le _, fun e he => ⟨(by show 1 ≤ sizeLine; decide), fun l0 hl0 => ?_⟩⟩
    have x1 : Ext Ps H (upd H e (.tup [])) := Ext.new ht he
    have x2 := x1.trans (Ext.new (o := .lst [.ref e]) x1.tb hl0)
    refine ⟨.int d, rfl, (d : Int), rfl, by omega, by omega, for_range (lo := 0) (n := (d : Int).toNat) (fun i σ H3 => Ext Ps H H3 ∧ ∃ (l : Addr) (ys : List V) (y2 : Option V), σ = [some (.int d), some (.ref l), y2, none] ∧ H l = none ∧ H3 l = some (.lst ys) ∧ Paired (TupI K H3) ys (pairsQ i)) ?_ (fun i σ H3 hi p => ?_) (fun σ H3 p => ?_)⟩
    · refine ⟨x2, l0, [.ref e], none, rfl, x1.free hl0, upd_same, .cons ⟨e, rfl, .inl (.inl ?_)⟩ .nil⟩
      rw [upd_ne (ne_of_none upd_same hl0)]
      exact upd_same
    · obtain ⟨x3, l, ys, y2, rfl, hnl, h3, hp⟩ := p
      have hid : i < d := by omega
      have hlen : ys.length ≤ 16 := by
        rw [Paired.length hp, (pairsQ_len i).1]
        exact Nat.le_trans (Nat.pow_le_pow_right (by decide) (show i ≤ 4 by omega)) (by decide)
      have e0 : (0 : Int) + (i : Nat) = (i : Nat) := by omega
      have e9 : (pairsQ i).take ys.length = pairsQ i := by rw [Paired.length hp, List.take_length]
      refine ⟨.ref l, rfl, l, rfl, ⟨_, .inl (.inl h3)⟩, fun D0 hD => lc_list (K := K) (a := l) (xs := ys) (fun j H4 => CP Ps (TupI K) H3 D0 (((pairsQ i).take j).map (· ++ [2 * (i : Int)])) j H4) (CP.start x3.tb hD) (fun j H4 _ p => p.ext.sqL (.inl (.inl h3))) (fun j z H4 hz p => ?_) (fun H4 p => ?_)⟩
      · obtain ⟨g, hg, t, rfl, hT⟩ := paired_get hp hz
        have hj : j < ys.length := (List.getElem?_eq_some_iff.mp hz).1
        have hgl : g.length ≤ 8 := by have := (pairsQ_len i).2 g (List.mem_of_getElem? hg); omega
        refine ⟨rfl, yes_ (iteT ⟨.ref t, rfl, .int (0 + (i : Nat)), rfl, 2, _, rfl, rfl, .inl ⟨by decide, by decide⟩, (by show 1 ≤ sizeLine; decide), fun u hu => ?_⟩)⟩
        rw [e0]
        exact rd_grow (K := K) hD (by omega) hj hg hgl (p.ext.sqT hT) p hu
      · obtain ⟨zs, h4, h5, h6⟩ := p.at_
        rw [e9] at h5
        have x4 := x3.trans p.ext
        have h34 := p.ext.lst h3
        have hp4 := p.ext.tups hp
        refine ⟨.ref l, rfl, l, rfl, ⟨_, .inl (.inl h34)⟩, fun D1 hD1 => lc_list (K := K) (a := l) (xs := ys) (fun j H5 => CP Ps (TupI K) H4 D1 (((pairsQ i).take j).map (· ++ [2 * (i : Int) + 1])) j H5) (CP.start x4.tb hD1) (fun j H5 _ p => p.ext.sqL (.inl (.inl h34))) (fun j z H5 hz p2 => ?_) (fun H5 p2 => ?_)⟩
        · obtain ⟨g, hg, t, rfl, hT⟩ := paired_get hp4 hz
          have hj : j < ys.length := (List.getElem?_eq_some_iff.mp hz).1
          have hgl : g.length ≤ 8 := by have := (pairsQ_len i).2 g (List.mem_of_getElem? hg); omega
          refine ⟨rfl, yes_ (iteT ⟨.ref t, rfl, .int (0 + (i : Nat)), rfl, 2, _, rfl, rfl, .inl ⟨by decide, by decide⟩, _, 1, rfl, rfl, (by show 1 ≤ sizeLine; decide), fun u hu => ?_⟩)⟩
          rw [e0]
          exact rd_grow (K := K) hD1 (by omega) hj hg hgl (p2.ext.sqT hT) p2 hu
        · obtain ⟨ws, k4, k5, k6⟩ := p2.at_
          rw [e9] at k5
          refine ⟨D0, D1, zs, ws, rfl, rfl, p2.ext.lst h4, k4, Nat.le_of_lt (small1000 (by omega)), fun l2 hl2 => ?_⟩
          have x6 := Ext.new (o := .lst (zs ++ ws)) p2.ext.tb hl2
          exact ⟨x4.trans (p2.ext.trans x6), l2, zs ++ ws, some (.int (0 + (i : Nat))), rfl, (x4.trans p2.ext).free hl2, upd_same, x6.tups (paired_app (p2.ext.tups h5) k5)⟩
    · obtain ⟨x3, l, ys, y2, rfl, hnl, h3, hp⟩ := p
      rw [Int.toNat_natCast] at hp
      refine ⟨.ref l, rfl, l, ys, _, rfl, .inl (.inl h3), hp, fun ws u hw _ nu => ?_⟩
      have x7 := Ext.new (o := .lst ws) x3.tb nu
      exact q u ws _ (x3.trans x7) (x3.free nu) upd_same (x7.tups hw)
end
end Lf

set_option maxHeartbeats 4000000
namespace Lf
open PySem PySem.Spec PyProof.Rows L2 GxR GxA SrT
theorem eqv_nilT' (gs : List (List Int)) : PyData.eqv (.tuple (gs.map tD)) (.tuple []) = gs.isEmpty := by
  cases gs with
  | nil => simp [PyData.eqv, PyData.eqvAll]
  | cons g gs => simp [PyData.eqv, PyData.eqvAll]
theorem shp_tupsT' (fs : List (List Int)) : SeqAt.shaped (.tuple (fs.map tD)) = true := by
  have z := dep_tups fs
  unfold SeqAt.shaped
  rw [PyData.canLay0, lay_tups, PyData.depth, Bool.true_and]
  exact decide_eq_true (by omega)
def lackL (fss : List (List Int)) (p : Int) : List (List Int) := fss.filter fun g => !decide (p ∈ g)
def arF (fss : List (List Int)) (p : Int) : List (List Int) := (fss.filter fun g => decide (p ∈ g)).map fun g => lessL g [p]
def comesB (fss : List (List Int)) (p : Int) : Bool := !(arF fss p).isEmpty && (arF fss p).all fun g => inSome g (lackL fss p)
def takL (n : Nat) (fss : List (List Int)) : List Int := ((List.range n).map fun i : Nat => (i : Int)).filter fun p => comesB fss p
section
variable {P : Program} {w : World} {K : PySem.W.Frag} {mg : Str → Option Value} {base : Heap} {Ps : Tbs} {H H' H0 : Hp} {k : Nat} {f c : Addr} {fd : FuncData}
variable {CS CN : Addr}
def spLack (K : PySem.W.Frag) (Ps : Tbs) : Sp := fun vs H Q _ => ∃ (fa : Addr) (p : Int) (xs : List V) (fss : List (List Int)), vs = [.ref fa, .int p] ∧ SqT K H fa xs ∧ Paired (TupI K H) xs fss ∧ fss.length ≤ 70 ∧ Tb Ps H ∧ ∀ (t : Addr) (ys : List V) (H' : Hp), Ext Ps H H' → SqT K H' t ys → Paired (TupI K H') ys (lackL fss p) → Q (.ref t) H'
def spArF (K : PySem.W.Frag) (Ps : Tbs) : Sp := fun vs H Q _ => ∃ (fa : Addr) (p : Int) (xs : List V) (fss : List (List Int)), vs = [.ref fa, .int p] ∧ SqT K H fa xs ∧ Paired (TupI K H) xs fss ∧ fss.length ≤ 70 ∧ (∀ g ∈ fss, g.length ≤ 8) ∧ Tb Ps H ∧ ∀ (t : Addr) (ys : List V) (H' : Hp), Ext Ps H H' → SqT K H' t ys → Paired (TupI K H') ys (arF fss p) → Q (.ref t) H'
def spComes (K : PySem.W.Frag) (Ps : Tbs) : Sp := fun vs H Q _ => ∃ (fa : Addr) (p : Int) (xs : List V) (fss : List (List Int)), vs = [.ref fa, .int p] ∧ SqT K H fa xs ∧ Paired (TupI K H) xs fss ∧ fss.length ≤ 70 ∧ (∀ g ∈ fss, g.length ≤ 8) ∧ Tb Ps H ∧ ∀ H', Ext Ps H H' → Q (.bl (comesB fss p)) H'
/-! ### may_take, takable -/
def spMayTake (K : PySem.W.Frag) (Ps : Tbs) : Sp := fun vs H Q _ => ∃ (x : V) (n kk p : Int) (fss : List (List Int)), vs = [x, .int p] ∧ Stk K H x n kk fss ∧ StkOk n kk fss ∧ 0 ≤ p ∧ p < n ∧ Tb Ps H ∧ ∀ H', Ext Ps H H' → Q (.bl (comesB fss p)) H'
def spTakable (K : PySem.W.Frag) (Ps : Tbs) : Sp := fun vs H Q _ => ∃ (x : V) (n kk : Int) (fss : List (List Int)), vs = [x] ∧ Stk K H x n kk fss ∧ StkOk n kk fss ∧ Tb Ps H ∧ ∀ (l : Addr) (H' : Hp), Ext Ps H H' → H l = none → H' l = some (.lst ((takL n.toNat fss).map V.int)) → Q (.ref l) H'
/-! ### refused -/
def spMayTakeX (K : PySem.W.Frag) (Ps : Tbs) (CS CN : Addr) : Sp := fun vs H _ E => ∃ (x y : V), vs = [x, y] ∧ (BadS K Ps CS x H E ∨ ∃ (n kk : Int) (fss : List (List Int)) (d : PyData), Stk K H x n kk fss ∧ StkOk n kk fss ∧ Th K H y d ∧ intIn d 0 (n - 1) = false ∧ Tb Ps H ∧ ∀ H', Ext Ps H H' → E (.ref CN) none H')
def spTakableX (K : PySem.W.Frag) (Ps : Tbs) (CS : Addr) : Sp := fun vs H _ E => ∃ (x : V), vs = [x] ∧ BadS K Ps CS x H E
end
end Lf

set_option maxHeartbeats 4000000
namespace Lf
open PySem PySem.Spec PyProof.Rows L2 GxR GxA SrT
section
variable {X : Cx}
/-- t.index(z), a tuple of numbers -/
def rTixI (K : PySem.W.Frag) : V → List V → Hp → VK → Prop := fun x xs H Q => ∃ (p : Addr) (ys : List Int) (z : Int) (j : Nat), x = .ref p ∧ xs = [.int z] ∧ SqT K H p (ys.map V.int) ∧ ys[j]? = some z ∧ (∀ m, m < j → ys[m]? ≠ some z) ∧ Q (.int (j : Nat)) H
theorem mt_tixI : MtR X "tuple.index" (rTixI X.K) := by
  intro pins s σ H x xs v us Q I rx rs h
  obtain ⟨p, ys, z, j, rfl, rfl, hq, hy, hno, q⟩ := h
  cases rx
  obtain ⟨u, rfl, t, rfl⟩ := vals1 rs
  obtain ⟨its, r, pl, hz⟩ := I.tuple hq
  obtain ⟨⟨cls, dd, dt, sl⟩, ho, hc, n, hd⟩ := pl
  simp only at hc hd
  subst hc
  subst hd
  have hl : its.toArray.size = ys.length := by rw [List.size_toArray, ← r.length, List.length_map]
  have hj : j < its.toArray.size := by rw [hl]; exact (List.getElem?_eq_some_iff.mp hy).1
  have at' : ∀ (m : Nat) (hm : m < its.toArray.size), ∃ y t', ys[m]? = some y ∧ its.toArray[m] = Value.int y t' := fun m hm => by
    have hm' : m < ys.length := by rw [← hl]; exact hm
    obtain ⟨w, hw, t', hw'⟩ := r.get (i := m) (x := .int ys[m]) (by simp [hm'])
    refine ⟨ys[m], t', List.getElem?_eq_getElem hm', ?_⟩
    have e := (List.getElem?_eq_some_iff.mp hw).2
    rw [← hw', ← e]
    simp
  refine call_meets PySem.F.slot_tuple_index ⟨_, ho, rfl⟩ PySem.F.entry_tuple_index (PySem.F.args_tuple_index_2 _ _) (TI.tuple_indexAt p its.toArray n dd sl (.int z t) (eqU (.int z)) j hj ?_ ?_)
    ⟨ho, fun w hw => mem_eqAt (x := .int z) ⟨t, rfl⟩ rfl r (flat_ints ys) w (by simpa using hw), ⟨.int (j : Nat), H, I.tok _, ⟨_, rfl⟩, q⟩⟩
  · obtain ⟨y, t', h1, h2⟩ := at' j hj
    rw [hy] at h1
    cases h1
    rw [h2]
    show (z == z) = true
    exact beq_self_eq_true z
  · intro m hm hmj
    obtain ⟨y, t', h1, h2⟩ := at' m hm
    rw [h2]
    show (y == z) = false
    exact beq_eq_false_iff_ne.mpr fun e => hno m hmj (e ▸ h1)
end
/-! ### names -/
def srtI (l : List Int) : List Int := l.mergeSort fun a b => decide (a ≤ b)
theorem srtI_perm (l : List Int) : (srtI l).Perm l := List.mergeSort_perm l _
theorem srtI_pw (l : List Int) : (srtI l).Pairwise (· ≤ ·) := by
  have h := List.pairwise_mergeSort (le := fun a b : Int => decide (a ≤ b)) (fun a b c h1 h2 => by simp at *; omega) (fun a b => by simp; omega) l
  exact h.imp fun {a b} z => by simpa using z
theorem eq_srtI {us l : List Int} (p : us.Perm l) (h : us.Pairwise (· ≤ ·)) : us = srtI l := le_perm_eq (p.trans (srtI_perm l).symm) h (srtI_pw l)
def ntI (ns : List Int) (p : Int) : Int := ns.getD p.toNat 0
def nmF (ns fc : List Int) : List Int := srtI (fc.map (ntI ns))
theorem nmF_len (ns fc : List Int) : (nmF ns fc).length = fc.length := by
  unfold nmF
  rw [(srtI_perm _).length_eq, List.length_map]
def bkL (n : Nat) (ns : List Int) : List Int := (rng n).map fun z => (ns.idxOf z : Int)
theorem rng_get {n i : Nat} (h : i < n) : (rng n)[i]? = some (i : Int) := by
  unfold rng
  rw [List.getElem?_map, List.getElem?_range h]
  rfl
theorem rng_succ (n : Nat) : rng (n + 1) = rng n ++ [(n : Int)] := by
  unfold rng
  rw [List.range_succ, List.map_append]
  rfl
theorem bkL_succ (n : Nat) (ns : List Int) : bkL (n + 1) ns = bkL n ns ++ [(ns.idxOf (n : Int) : Int)] := by
  unfold bkL
  rw [rng_succ, List.map_append]
  rfl
theorem idx_get {ns : List Int} {z : Int} (h : z ∈ ns) : ns[ns.idxOf z]? = some z ∧ ∀ m, m < ns.idxOf z → ns[m]? ≠ some z := by
  induction ns with
  | nil => cases h
  | cons y ns ih =>
    by_cases e : y = z
    · subst e
      have e0 : (y :: ns).idxOf y = 0 := by simp
      rw [e0]
      exact ⟨rfl, fun m hm => by omega⟩
    · have e0 : (y :: ns).idxOf z = ns.idxOf z + 1 := by
        rw [List.idxOf_cons, beq_false_of_ne e]
        rfl
      rw [e0]
      rcases List.mem_cons.mp h with h | h
      · exact absurd h.symm e
      obtain ⟨h1, h2⟩ := ih h
      refine ⟨h1, fun m hm => ?_⟩
      match m with
      | 0 => exact fun z => e (by injection z)
      | m + 1 => exact h2 m (by omega)
theorem mem_perm_rng {ns : List Int} {n i : Nat} (p : ns.Perm (rng n)) (h : i < n) : (i : Int) ∈ ns := p.mem_iff.mpr (List.mem_of_getElem? (rng_get h))
theorem len_perm_rng {ns : List Int} {n : Nat} (p : ns.Perm (rng n)) : ns.length = n := by
  rw [p.length_eq]
  unfold rng
  rw [List.length_map, List.length_range]
abbrev sNeedNames : Stmt := topS 36
abbrev sToldBy : Stmt := topS 37
abbrev sNamed : Stmt := topS 51
theorem scNeedNames : FnScope ["stack", "names"] ["stack", "names"] (defScope sNeedNames) := ⟨rfl, rfl, rfl, by decide +kernel, rfl, by decide +kernel, by decide +kernel⟩
theorem scToldBy : FnScope ["face", "names", "point"] ["face", "names"] (defScope sToldBy) := ⟨rfl, rfl, rfl, by decide +kernel, rfl, by decide +kernel, by decide +kernel⟩
theorem scNamed : FnScope ["stack", "names", "n", "k", "faces", "face"] ["stack", "names"] (defScope sNamed) := ⟨rfl, rfl, rfl, by decide +kernel, rfl, by decide +kernel, by decide +kernel⟩
section
variable {P : Program} {w : World} {K : PySem.W.Frag} {mg : Str → Option Value} {base : Heap} {Ps : Tbs} {H H' H0 : Hp} {k : Nat} {f c : Addr} {fd : FuncData}
variable {CS CM : Addr}
/-! ### need_names -/
def spNeedNames (K : PySem.W.Frag) (Ps : Tbs) : Sp := fun vs H Q _ => ∃ (x y : V) (n kk : Int) (fss : List (List Int)) (ns : List Int), vs = [x, y] ∧ Stk K H x n kk fss ∧ StkOk n kk fss ∧ TupI K H y ns ∧ ns.Perm (rng n.toNat) ∧ Tb Ps H ∧ ∀ H', Ext Ps H H' → Q .non H'
def spNeedNamesX (K : PySem.W.Frag) (Ps : Tbs) (CM : Addr) : Sp := fun vs H _ E => ∃ (x y : V) (n kk : Int) (fss : List (List Int)) (d : PyData), vs = [x, y] ∧ Stk K H x n kk fss ∧ StkOk n kk fss ∧ Th K H y d ∧ ¬ RowD d n.toNat ∧ Tb Ps H ∧ ∀ H', Ext Ps H H' → E (.ref CM) none H'
theorem ok_needNames {fE cE : Addr} {fdE : FuncData} (D : Def K mg "need_names" sNeedNames ["stack", "names"] f fd c) (DE : Def K mg "is_each_once" sEach ["thing", "many"] fE fdE cE) (GE : FnOk P w K mg base CX0 k fE fdE ["thing", "many"] (spEachX K Ps)) :
    FnOk P w K mg base CX0 (k + 1) f fd ["stack", "names"] (spNeedNames K Ps) := by
  refine D.ok (k := k) scNeedNames (fun vs H Q E h => ?_) (fun A outer s H vs Q E hr h => ?_)
  · obtain ⟨x, y, n, kk, fss, ns, rfl, _⟩ := h
    rfl
  · obtain ⟨x, y, n, kk, fss, ns, rfl, hS, S, hy, hp, ht, q⟩ := h
    have hn1 := S.n1
    have hn8 := S.n8
    obtain ⟨m, rfl⟩ := Int.eq_ofNat_of_zero_le (show 0 ≤ n by omega)
    refine ⟨_, pss_one (ps_if (pt_not (pt_val (pcl DE GE hr (pa_cons (pv 1) (pa_cons (pe_ix (show IxR _ (rIxT K) from ix_tup) (pv 0) pe_int (fun _ _ => rfl)) pa_nil))))) (pss_one ps_never) pss_nil), ?_⟩
    obtain ⟨a, fa, xs, rfl, h1, h2, h3⟩ := hS
    refine ⟨y, rfl, .ref a, rfl, a, _, 0, .int m, rfl, rfl, h1, atI_nat (j := 0) rfl, y, m, tD ns, rfl, th_tup hy, by omega, ht, fun b H1 hb e1 => ?_⟩
    obtain rfl : b = true := hb.mpr ⟨ns, rfl, hp⟩
    exact ⟨true, rfl, iteF (q _ e1)⟩
theorem ok_needNamesX {fE cE : Addr} {fdE : FuncData} (D : Def K mg "need_names" sNeedNames ["stack", "names"] f fd c) (DE : Def K mg "is_each_once" sEach ["thing", "many"] fE fdE cE) (GE : FnOk P w K mg base CX0 k fE fdE ["thing", "many"] (spEachX K Ps)) (RM : Ref K mg "NoNames" CM) :
    FnOk P w K mg base (L2.CX P w) (k + 1) f fd ["stack", "names"] (spNeedNamesX K Ps CM) := by
  refine D.okX (k := k) scNeedNames (fun vs H Q E h => ?_) (fun A outer s H vs Q E hr tk h => ?_)
  · obtain ⟨x, y, n, kk, fss, d, rfl, _⟩ := h
    rfl
  · obtain ⟨x, y, n, kk, fss, d, rfl, hS, S, hy, hp, ht, q⟩ := h
    have hn1 := S.n1
    have hn8 := S.n8
    obtain ⟨m, rfl⟩ := Int.eq_ofNat_of_zero_le (show 0 ≤ n by omega)
    refine ⟨_, pss_one (ps_if (pt_not (pt_val (pcl DE GE hr (pa_cons (pv 1) (pa_cons (pe_ix (show IxR _ (rIxT K) from ix_tup) (pv 0) pe_int (fun _ _ => rfl)) pa_nil))))) (pss_one (ps_refuse RM tk)) pss_nil), ?_⟩
    obtain ⟨a, fa, xs, rfl, h1, h2, h3⟩ := hS
    refine ⟨y, rfl, .ref a, rfl, a, _, 0, .int m, rfl, rfl, h1, atI_nat (j := 0) rfl, y, m, d, rfl, hy, by omega, ht, fun b H1 hb e1 => ⟨b, rfl, ?_⟩⟩
    cases b with
    | true => exact absurd (hb.mp rfl) hp
    | false => exact iteT (q _ e1)
/-! ### told_by -/
def spToldBy (K : PySem.W.Frag) (Ps : Tbs) : Sp := fun vs H Q _ => ∃ (x y : V) (fc ns : List Int), vs = [x, y] ∧ TupI K H x fc ∧ TupI K H y ns ∧ (∀ p ∈ fc, 0 ≤ p ∧ p < ns.length) ∧ fc.length ≤ 8 ∧ Tb Ps H ∧ ∀ v H', Ext Ps H H' → TupI K H' v (nmF ns fc) → Q v H'
theorem ok_toldBy (D : Def K mg "told_by" sToldBy ["face", "names"] f fd c) (mt : mg "tuple" = none) (ms : mg "sorted" = none) : FnOk P w K mg base CX0 (k + 1) f fd ["face", "names"] (spToldBy K Ps) := by
  refine D.ok (k := k) scToldBy (fun vs H Q E h => ?_) (fun A outer s H vs Q E hr h => ?_)
  · obtain ⟨x, y, fc, ns, rfl, _⟩ := h
    rfl
  · obtain ⟨_, _, fc, ns, rfl, ⟨t, rfl, hT⟩, ⟨u, rfl, hU⟩, hb, f8, ht, q⟩ := h
    refine ⟨_, (pss_one (ps_ret (pe_callTy call_tuple_of (by rfl) mt (by decide +kernel) (pa_cons (pe_callB (show CallR _ _ (rSorted K) from cr_sorted) (by rfl) ms (by decide +kernel) (pa_cons (pe_lc (own := [("point", 2)]) (g := gName 2) (by rfl) scToldBy.nd (pi_tup (pv 0)) (blkOk_by (N := ["face", "names", "point"]) (sc := defScope sToldBy) (by decide +kernel)) (fun _ _ _ _ _ => pg_name (i := 2) scToldBy.nd rfl (Or.inl rfl)) (fun _ _ _ _ _ => pts_nil) (fun _ _ _ _ _ => (pe_ix (show IxR _ (rIxT K) from ix_tup) (pv 1) (pv 2) (fun _ _ => rfl)))) pa_nil)) pa_nil)))), ?_⟩
    refine ⟨.ref t, rfl, t, rfl, ⟨_, hT⟩, fun D0 hD => lc_tup (K := K) (a := t) (xs := fc.map V.int) (fun i H3 => CP Ps FI H D0 ((fc.take i).map (ntI ns)) i H3) (CP.start ht hD) (fun i H3 _ p => p.ext.sqT hT) (fun i v H3 hv p3 => ?_) (fun H3 p3 => ?_)⟩
    · obtain ⟨y, hy, rfl⟩ := map_int hv
      have hi : i < fc.length := (List.getElem?_eq_some_iff.mp hy).1
      obtain ⟨b0, b1⟩ := hb y (List.mem_of_getElem? hy)
      have hyn : y.toNat < ns.length := by omega
      refine ⟨rfl, yes_ (iteT ⟨.ref u, rfl, .int y, rfl, u, _, y, .int (ntI ns y), rfl, rfl, p3.ext.sqT hU, ?_, ?_⟩)⟩
      · have ey : y = ((y.toNat : Nat) : Int) := (Int.toNat_of_nonneg b0).symm
        rw [ey]
        refine atI_nat ?_
        rw [List.getElem?_map, List.getElem?_eq_getElem hyn]
        unfold ntI
        rw [Int.toNat_natCast, List.getD_eq_getElem?_getD, List.getElem?_eq_getElem hyn]
        rfl
      · have r := CP.put (stbI (K := K)) hD (by omega) p3 (show FI H3 (.int (ntI ns y)) (ntI ns y) from rfl)
        rw [List.take_add_one, hy, List.map_append]
        exact r
    · rw [List.length_map, List.take_length] at p3
      obtain ⟨zs, g1, g2, g3⟩ := p3.at_
      rw [paired_ints g2] at g1
      refine ⟨D0, _, rfl, .inl (.inl g1), by rw [List.length_map]; omega, fun us p pm sr np => ?_⟩
      obtain rfl : us = nmF ns fc := eq_srtI pm sr
      have e5 := Ext.new (o := .lst ((nmF ns fc).map V.int)) p3.ext.tb np
      refine ⟨p, _, rfl, .inl ⟨.inl (.inl upd_same), fun tf ntf => ?_⟩⟩
      exact q _ _ (p3.ext.trans (e5.trans (Ext.new e5.tb ntf))) ⟨tf, rfl, .inl (.inl upd_same)⟩
/-! ### named -/
def spNamed (K : PySem.W.Frag) (Ps : Tbs) : Sp := fun vs H Q _ => ∃ (x y : V) (n kk : Int) (fss : List (List Int)) (ns : List Int), vs = [x, y] ∧ Stk K H x n kk fss ∧ StkOk n kk fss ∧ TupI K H y ns ∧ ns.Perm (rng n.toNat) ∧ Tb Ps H ∧ ∀ v H', Ext Ps H H' → Stk K H' v n kk (sortL (fss.map (nmF ns))) → Q v H'
theorem ok_named {fS cS fN cN fT cT : Addr} {fdS fdN fdT : FuncData} (D : Def K mg "named" sNamed ["stack", "names"] f fd c) (DS : Def K mg "need_stack" sNeedStack ["stack"] fS fdS cS) (GS : FnOk P w K mg base CX0 k fS fdS ["stack"] (spNeedStack K Ps))
    (DN : Def K mg "need_names" sNeedNames ["stack", "names"] fN fdN cN) (GN : FnOk P w K mg base CX0 k fN fdN ["stack", "names"] (spNeedNames K Ps)) (DT : Def K mg "told_by" sToldBy ["face", "names"] fT fdT cT) (GT : FnOk P w K mg base CX0 k fT fdT ["face", "names"] (spToldBy K Ps)) (mt : mg "tuple" = none) (ms : mg "sorted" = none) : FnOk P w K mg base CX0 (k + 1) f fd ["stack", "names"] (spNamed K Ps) := by
  refine D.ok (k := k) scNamed (fun vs H Q E h => ?_) (fun A outer s H vs Q E hr h => ?_)
  · obtain ⟨x, y, n, kk, fss, ns, rfl, _⟩ := h
    rfl
  · obtain ⟨x, y, n, kk, fss, ns, rfl, hS, S, hy, hp, ht, q⟩ := h
    refine ⟨_, (pss_cons (ps_expr (pcl DS GS hr (pa_cons (pv 0) pa_nil))) (pss_cons (ps_expr (pcl DN GN hr (pa_cons (pv 0) (pa_cons (pv 1) pa_nil)))) (pss_cons (ps_asg (pv 0) (pg_tup (by rfl) (pgs_cons (pg_name (i := 2) scNamed.nd rfl (Or.inl rfl)) (pgs_cons (pg_name (i := 3) scNamed.nd rfl (Or.inl rfl)) (pgs_cons (pg_name (i := 4) scNamed.nd rfl (Or.inl rfl)) pgs_nil))))) (pss_one (ps_ret (pe_tup (pa_cons (pv 2) (pa_cons (pv 3) (pa_cons (pe_callTy call_tuple_of (by rfl) mt (by decide +kernel) (pa_cons (pe_callB (cr_sortL hr.units) (by rfl) ms (by decide +kernel) (pa_cons (pe_lc (own := [("face", 5)]) (g := gName 5) (by rfl) scNamed.nd (pi_tup (pv 4)) (blkOk_by (N := ["stack", "names", "n", "k", "faces", "face"]) (sc := defScope sNamed) (by decide +kernel)) (fun _ _ _ _ _ => pg_name (i := 5) scNamed.nd rfl (Or.inl rfl)) (fun _ _ _ _ _ => pts_nil) (fun _ _ _ _ _ => (pcl DT GT hr (pa_cons (pv 5) (pa_cons (pv 1) pa_nil))))) pa_nil)) pa_nil)) pa_nil))))))))), ?_⟩
    have hn1 := S.n1
    have hnl := len_perm_rng hp
    have l70 := S.l70
    refine tseq_intro fun R hR => ?_
    refine ⟨x, rfl, x, n, kk, fss, rfl, hS, S, ht, fun H1 e1 => ?_⟩
    show R [some x, some y, none, none, none, none] H1
    rw [hR]
    clear hR
    refine tseq_intro fun R hR => ?_
    refine ⟨x, rfl, y, rfl, x, y, n, kk, fss, ns, rfl, e1.stk hS, S, e1.tupI hy, hp, e1.tb, fun H2 e2 => ?_⟩
    show R [some x, some y, none, none, none, none] H2
    rw [hR]
    clear hR
    have E2 := e1.trans e2
    obtain ⟨a, fa, xs, rfl, h1, h2, h3⟩ := E2.stk hS
    have hxl := Paired.length h3
    refine tseq_intro fun R hR => ?_
    refine ⟨.ref a, rfl, a, _, rfl, h1, rfl, _, _, rfl, _, _, rfl, _, _, rfl, rfl, ?_⟩
    show R [some (.ref a), some y, some (.int n), some (.int kk), some (.ref fa), none] H2
    rw [hR]
    clear hR
    refine ⟨.int n, rfl, .int kk, rfl, .ref fa, rfl, fa, rfl, ⟨_, h2⟩, fun D0 hD => lc_tup (K := K) (a := fa) (xs := xs) (fun i H3 => CP Ps (TupI K) H2 D0 ((fss.take i).map (nmF ns)) i H3) (CP.start E2.tb hD) (fun i H3 _ p => p.ext.sqT h2) (fun i v H3 hv p3 => ?_) (fun H3 p3 => ?_)⟩
    · obtain ⟨g, hg, hI⟩ := paired_get h3 hv
      have hi : i < xs.length := (List.getElem?_eq_some_iff.mp hv).1
      have hgm := List.mem_of_getElem? hg
      have hg4 := S.len4 g hgm
      refine ⟨rfl, yes_ (iteT ⟨v, rfl, y, rfl, v, y, g, ns, rfl, p3.ext.tupI hI, p3.ext.tupI (E2.tupI hy), fun p hpg => by have := S.bel g hgm p hpg; omega, by omega, p3.ext.tb, fun z H4 e4 hz => ?_⟩)⟩
      have r := CP.put (stbT (K := K)) hD (by omega) (p3.skip (stbT (K := K)) e4) hz
      rw [List.take_add_one, hg, List.map_append]
      exact r
    · rw [hxl, List.take_length] at p3
      obtain ⟨zs, g1, g2, g3⟩ := p3.at_
      refine ⟨D0, zs, _, rfl, .inl (.inl g1), g2, fun us p hz _ np => ?_⟩
      have x5 := Ext.new (o := .lst us) p3.ext.tb np
      refine ⟨p, us, rfl, .inl ⟨.inl (.inl upd_same), fun tf ntf => ⟨(by show 3 ≤ sizeLine; decide), fun ts nts => ?_⟩⟩⟩
      have x6 := Ext.new (o := .tup us) x5.tb ntf
      have x7 := Ext.new (o := .tup [.int n, .int kk, .ref tf]) x6.tb nts
      exact q _ _ (E2.trans (p3.ext.trans (x5.trans (x6.trans x7)))) ⟨ts, tf, us, rfl, .inl (.inl upd_same), x7.sqT (.inl (.inl upd_same)), (x5.trans (x6.trans x7)).tups hz⟩
/-! ### named_back -/
def spBack (K : PySem.W.Frag) (Ps : Tbs) : Sp := fun vs H Q _ => ∃ (x : V) (t : Addr) (n kk : Int) (fss : List (List Int)) (ns : List Int), vs = [x, .ref t] ∧ Stk K H x n kk fss ∧ StkOk n kk fss ∧ SqT K H t (ns.map V.int) ∧ FzT H t ∧ ns.Perm (rng n.toNat) ∧ Tb Ps H ∧ ∀ v H', Ext Ps H H' → TupI K H' v (bkL n.toNat ns) → Q v H'
/-! ### refused -/
def spNmX (K : PySem.W.Frag) (Ps : Tbs) (CS CM : Addr) : Sp := fun vs H _ E => ∃ (x y : V), vs = [x, y] ∧ (BadS K Ps CS x H E ∨ ∃ (n kk : Int) (fss : List (List Int)) (d : PyData), Stk K H x n kk fss ∧ StkOk n kk fss ∧ Th K H y d ∧ ¬ RowD d n.toNat ∧ Tb Ps H ∧ ∀ H', Ext Ps H H' → E (.ref CM) none H')
theorem ok_namedX {fS cS fN cN : Addr} {fdS fdN : FuncData} (D : Def K mg "named" sNamed ["stack", "names"] f fd c) (DS : Def K mg "need_stack" sNeedStack ["stack"] fS fdS cS) (GS : FnOk P w K mg base (L2.CX P w) k fS fdS ["stack"] (spNeedStack2 K Ps CS))
    (DN : Def K mg "need_names" sNeedNames ["stack", "names"] fN fdN cN) (GN : FnOk P w K mg base (L2.CX P w) k fN fdN ["stack", "names"] (spNeedNamesX K Ps CM)) : FnOk P w K mg base (L2.CX P w) (k + 1) f fd ["stack", "names"] (spNmX K Ps CS CM) := by
  refine D.okX (k := k) scNamed (fun vs H Q E h => ?_) (fun A outer s H vs Q E hr tk h => ?_)
  · obtain ⟨x, y, rfl, _⟩ := h
    rfl
  · obtain ⟨x, y, rfl, h⟩ := h
    refine ⟨_, pss_cons (ps_expr (pclX DS GS hr tk (pa_cons (pv 0) pa_nil))) (pss_cons (ps_expr (pclX DN GN hr tk (pa_cons (pv 0) (pa_cons (pv 1) pa_nil)))) (pss_cons ps_never (pss_one ps_never))), ?_⟩
    rcases h with ⟨d, h1, h2, h3, h4, h5⟩ | ⟨n, kk, fss, d, hS, S, hy, hd, ht, q⟩
    · exact ⟨x, rfl, .inr ⟨x, d, rfl, h1, h2, h3, h4, h5⟩⟩
    · exact ⟨x, rfl, .inl ⟨x, n, kk, fss, rfl, hS, S, ht, fun H1 e1 => ⟨x, rfl, y, rfl, x, y, n, kk, fss, d, rfl, e1.stk hS, S, e1.th hy, hd, e1.tb, fun H2 e2 => q _ (e1.trans e2)⟩⟩⟩
end
end Lf

set_option maxHeartbeats 2000000
namespace Lf
open PySem PySem.Spec PyProof.Rows L2 GxR GxA SrT
/-! ### repr of a thing -/
mutual
def noList : PyData → Bool
  | .list _ => false
  | .tuple ds => noLists ds
  | _ => true
def noLists : List PyData → Bool
  | [] => true
  | d :: ds => noList d && noLists ds
end
section
variable {X : Cx} {H : Hp} {pins : List (Addr × Obj)} {σ : L2.St} {s : Shared} {F : Addr → Prop}
mutual
theorem ThF.reads (I : L2.Inv X pins σ H s) : ∀ (d : PyData) (v : V) (u : Value), ThF X.K H F v d → RelV v u → ∃ as, Reads s.heap u d as ∧ (noList d = true → sysModules ∉ as)
  | .none, _, _, h, r => by
    cases h
    cases r
    exact ⟨_, Reads.none, fun _ z => nomatch z⟩
  | .bool b, _, _, h, r => by
    cases h
    cases r
    exact ⟨_, Reads.bool b, fun _ z => nomatch z⟩
  | .int i, _, _, h, r => by
    cases h
    obtain ⟨t, rfl⟩ := r
    exact ⟨_, Reads.int i t, fun _ z => nomatch z⟩
  | .str x, _, _, h, r => by
    cases h
    obtain ⟨t, rfl⟩ := r
    exact ⟨_, Reads.str x t, fun _ z => nomatch z⟩
  | .list ds, _, _, h, r => by
    cases h with
    | lst hf hs ha =>
      cases r
      obtain ⟨its, rv, ⟨o, n, ho, hc, _, hd⟩, _⟩ := I.list hs
      obtain ⟨as, hr, _⟩ := ThAllF.reads I ds _ its ha rv
      exact ⟨_, Reads.list ho hc hd hr, fun z => nomatch z⟩
  | .tuple ds, _, _, h, r => by
    cases h with
    | tup hs ha =>
      cases r
      obtain ⟨its, rv, ⟨o, ho, hc, n, hd⟩, _⟩ := I.tuple hs
      obtain ⟨as, hr, hm⟩ := ThAllF.reads I ds _ its ha rv
      exact ⟨_, Reads.tuple ho hc hd hr, fun z => hm z⟩
  | .dict kvs, _, _, h, r => by
    cases h with
    | dic hf hd =>
      cases r
      obtain ⟨_, low, vs, hkv, o, es, ep, ho, hex, hdt, _, hes, _⟩ := I.hok _ _ hd
      cases hkv
      have he0 : es.toList = [] := by
        cases e : es.toList with
        | nil => rfl
        | cons _ _ =>
          rw [e] at hes
          cases hes
      refine ⟨_, Reads.dict (kvs := []) ho hex.1 hdt (by rw [he0]; exact .nil) (by rw [he0]; exact .nil), fun _ z => ?_⟩
      have e := List.mem_singleton.mp z
      rw [← e] at low
      simp at low
theorem ThAllF.reads (I : L2.Inv X pins σ H s) : ∀ (ds : List PyData) (vs : List V) (us : List Value), ThAllF X.K H F vs ds → Vals vs us → ∃ as, ReadsAll s.heap us ds as ∧ (noLists ds = true → sysModules ∉ as)
  | [], _, _, h, r => by
    cases h
    cases r
    exact ⟨_, .nil, fun _ z => nomatch z⟩
  | d :: ds, _, _, h, r => by
    cases h with
    | cons h1 h2 =>
      cases r with
      | cons r1 r2 =>
        obtain ⟨as, a1, a2⟩ := ThF.reads I d _ _ h1 r1
        obtain ⟨bs, b1, b2⟩ := ThAllF.reads I ds _ _ h2 r2
        refine ⟨_, .cons a1 b1, fun z m => ?_⟩
        rw [noLists, Bool.and_eq_true] at z
        rcases List.mem_append.mp m with m | m
        · exact a2 z.1 m
        · exact b2 z.2 m
end
/-- what repr tells -/
def rpD : PyData → Str
  | .none => "None"
  | .bool b => if b then "True" else "False"
  | .int i => toString i
  | .str x => reprText x
  | d => d.shown
structure RpOk (d : PyData) : Prop where
  int : ∀ i, d = .int i → i.natAbs.log2 < 1920
  str : ∀ x, d = .str x → (reprText x).length ≤ sizeLine
  sh : d.showable = true
  sz : d.shown.length ≤ sizeLine
  dp : d.depth + 1 ≤ 60
  mix : d.hasDict = true → noList d = true
def rRepr (K : PySem.W.Frag) : List V → Hp → VK → Prop := fun vs H Q => ∃ (F : Addr → Prop) (x : V) (d : PyData), vs = [x] ∧ ThF K H F x d ∧ RpOk d ∧ Q (.str (rpD d)) H
theorem cr_repr (gd : X.A.guards = some []) (hu : X.A.units + 64 < cLine) : CallR X (.builtin "repr") (rRepr X.K) := by
  intro pins s σ H vs us Q I r h
  obtain ⟨F, x, d, rfl, hx, ok, q⟩ := h
  cases r with
  | cons r1 r2 =>
    cases r2
    obtain ⟨as, rd, hm⟩ := ThF.reads I d x _ hx r1
    have hdp := ok.dp
    cases hx with
    | non => cases r1; exact PySem.P.repr_of_none ⟨.str _, H, I.kept (fun _ _ e => e), ⟨_, rfl⟩, q⟩
    | bl b => cases r1; exact PySem.P.repr_of_bool ⟨.str _, H, I.kept (fun _ _ e => e), ⟨_, rfl⟩, q⟩
    | int i => obtain ⟨t, rfl⟩ := r1; exact PySem.P.repr_of_int (ok.int i rfl) ⟨.str _, H, I.kept (fun _ _ e => e), ⟨_, rfl⟩, q⟩
    | str z => obtain ⟨t, rfl⟩ := r1; exact PySem.P.repr_of_str ⟨.str _, H, I.kept (fun _ _ e => e), ⟨_, rfl⟩, q⟩ (ok.str z rfl)
    | lst hf hs ha =>
      cases r1
      exact repr_of_reads' rd ok.sh (fun z => hm (ok.mix z)) gd (by omega) (fun _ _ e => e) (fun h' u tk hk => ⟨.str _, H, I.kept hk, ⟨_, rfl⟩, q⟩) ok.sz
    | tup hs ha =>
      cases r1
      exact repr_of_reads' rd ok.sh (fun z => hm (ok.mix z)) gd (by omega) (fun _ _ e => e) (fun h' u tk hk => ⟨.str _, H, I.kept hk, ⟨_, rfl⟩, q⟩) ok.sz
    | dic hf hd =>
      cases r1
      exact repr_of_reads' rd ok.sh (fun z => hm (ok.mix z)) gd (by omega) (fun _ _ e => e) (fun h' u tk hk => ⟨.str _, H, I.kept hk, ⟨_, rfl⟩, q⟩) ok.sz
end
end Lf

set_option maxHeartbeats 4000000
namespace Lf
open PySem PySem.Spec PyProof.Rows L2 GxR GxA SrT
/-! ### a tuple among the faces -/
section
variable {X : Cx}
def rInTT (K : PySem.W.Frag) (neg : Bool) : R2 := fun x y H Q => ∃ (p : Addr) (xs : List V) (g : List Int) (fss : List (List Int)), y = .ref p ∧ TupI K H x g ∧ SqT K H p xs ∧ Paired (TupI K H) xs fss ∧ Q (.bl (if neg then !decide (g ∈ fss) else decide (g ∈ fss))) H
theorem any_tD (g : List Int) (fss : List (List Int)) : ((fss.map tD).any fun z => PyData.eqv z (tD g)) = decide (g ∈ fss) := by
  rw [List.any_map, Bool.eq_iff_iff, List.any_eq_true, decide_eq_true_eq]
  constructor
  · rintro ⟨f, hf, e⟩
    have e' : PyData.eqv (tD f) (tD g) = true := e
    rw [eqv_tD] at e'
    rw [← of_decide_eq_true e']
    exact hf
  · intro h
    refine ⟨g, h, ?_⟩
    show PyData.eqv (tD g) (tD g) = true
    rw [eqv_tD]
    exact decide_eq_true rfl
theorem op_inTT (hu : X.A.units + 64 < cLine) : OpR X (compareOp .In) (rInTT X.K false) := by
  intro pins s σ H x y v u Q I rx ry h
  obtain ⟨p, xs, g, fss, rfl, hx, hp, hq, q⟩ := h
  obtain ⟨as, r1⟩ := Dp.reads I (tD g) x v (dp_tup hx) rx
  obtain ⟨bs, r2⟩ := Dp.reads I (.tuple (fss.map tD)) (.ref p) u (.tup hp (dp_tups hq)) ry
  refine SeqAt.in_tuple_reads r2 r1 (lay_tups fss) (SeqAt.canLay_of_shaped (shp_tup g)) ?_ ⟨.bl _, H, I, rfl, ?_⟩
  · have := dep_tups fss
    omega
  · rw [any_tD]
    exact q
theorem op_notInTT (hu : X.A.units + 64 < cLine) : OpR X (compareOp .NotIn) (rInTT X.K true) := by
  intro pins s σ H x y v u Q I rx ry h
  obtain ⟨p, xs, g, fss, rfl, hx, hp, hq, q⟩ := h
  obtain ⟨as, r1⟩ := Dp.reads I (tD g) x v (dp_tup hx) rx
  obtain ⟨bs, r2⟩ := Dp.reads I (.tuple (fss.map tD)) (.ref p) u (.tup hp (dp_tups hq)) ry
  refine SeqAt.notIn_tuple_reads r2 r1 (lay_tups fss) (SeqAt.canLay_of_shaped (shp_tup g)) ?_ ⟨.bl _, H, I, rfl, ?_⟩
  · have := dep_tups fss
    omega
  · rw [any_tD]
    exact q
theorem vals_get {xs : List V} {us : List Value} {i : Nat} {u : Value} (r : Vals xs us) (h : us[i]? = some u) : ∃ x, xs[i]? = some x ∧ RelV x u := by
  have hl := r.length
  have hi : i < us.length := (List.getElem?_eq_some_iff.mp h).1
  have hx : i < xs.length := by omega
  obtain ⟨w, hw, rw_⟩ := r.get (List.getElem?_eq_getElem hx)
  rw [h] at hw
  cases hw
  exact ⟨_, List.getElem?_eq_getElem hx, rw_⟩
/-! ### min(rows, default=None) -/
theorem readsAll_ints {h : Heap} : ∀ {vs : List Value} {a b : List Int} {as bs : List Addr}, ReadsAll h vs (iD a) as → ReadsAll h vs (iD b) bs → a = b
  | [], [], [], _, _, _, _ => rfl
  | [], [], _ :: _, _, _, _, r2 => nomatch r2
  | [], _ :: _, _, _, _, r1, _ => nomatch r1
  | _ :: _, [], _, _, _, r1, _ => nomatch r1
  | _ :: _, _ :: _, [], _, _, _, r2 => nomatch r2
  | v :: vs, x :: a, y :: b, _, _, r1, r2 => by
    cases r1 with
    | cons r1 t1 =>
      cases r2 with
      | cons r2 t2 =>
        have e := readsAll_ints t1 t2
        cases r1
        cases r2
        rw [e]
theorem reads_tD {h : Heap} {v : Value} {a b : List Int} {as bs : List Addr} (r1 : Reads h v (tD a) as) (r2 : Reads h v (tD b) bs) : a = b := by
  cases r1 with
  | tuple h1 h2 h3 h4 =>
    cases r2 with
    | tuple k1 k2 k3 k4 =>
      rw [h1] at k1
      cases k1
      rw [h3] at k3
      cases k3
      exact readsAll_ints h4 k4
theorem alike_ints : ∀ a b : List Int, PySem.W.alikeAll (iD a) (iD b) = true
  | [], _ => by
    show PySem.W.alikeAll [] _ = true
    rw [PySem.W.alikeAll]
  | _ :: _, [] => by
    show PySem.W.alikeAll (_ :: _) [] = true
    rw [PySem.W.alikeAll]
  | x :: a, y :: b => by
    show PySem.W.alikeAll (.int x :: iD a) (.int y :: iD b) = true
    rw [PySem.W.alikeAll, PySem.W.alike, alike_ints a b]
    rfl
theorem minD_first {y : List Int} : ∀ {ys : List (List Int)}, (∀ z ∈ ys, y < z) → PySem.W.minD (tD y) (ys.map tD) = tD y
  | [], _ => rfl
  | z :: ys, h => by
    have hz := h z List.mem_cons_self
    have hn : ¬ z < y := fun k => absurd (List.lt_trans hz k) (List.lt_irrefl y)
    have e : PySem.W.dataLt (tD z) (tD y) = false := by
      show PySem.W.dataLt (.tuple (iD z)) (.tuple (iD y)) = false
      rw [PySem.W.dataLt_tuple]
      show PySem.W.rowLt (z.map .int) (y.map .int) = false
      rw [PySem.W.dataLt_ints]
      exact decide_eq_false hn
    have ih := minD_first (ys := ys) fun w hw => h w (List.mem_cons_of_mem _ hw)
    unfold PySem.W.minD at ih ⊢
    rw [List.map_cons, List.foldl_cons, e]
    exact ih
/-- rows of whole numbers that rise: the first one, or what is told for none -/
def rMinTT (K : PySem.W.Frag) : List V → List V → Hp → VK → Prop := fun vs zs H Q => ∃ (a : Addr) (xs : List V) (F : List (List Int)) (z : V), vs = [.ref a] ∧ zs = [z] ∧ SqL K H a xs ∧ Paired (TupI K H) xs F ∧ F.Pairwise (· < ·) ∧ (F = [] → Q z H) ∧ (∀ y ys v, F = y :: ys → TupI K H v y → Q v H)
theorem cr_minTT (hc : X.calm = true) (hu : X.A.units + 64 < cLine) : CallRK X (.builtin "min") ["default"] (rMinTT X.K) := by
  intro pins s σ H vs zs us ws Q I r rz h
  obtain ⟨a, xs, F, z, rfl, rfl, hs, hp, pw, q0, q1⟩ := h
  obtain ⟨its, rv, hl, _⟩ := I.list hs
  rw [Vals.ref1 r]
  obtain ⟨d, rfl, rd⟩ := vals1 rz
  obtain ⟨as, ra⟩ := Dp.readsAll I (F.map tD) _ its (dp_tups hp) rv
  have hd := dep_tups F
  refine PySem.W.min_list_default (I.ok.hd hc) hl.isList (vs := its.toArray) (xs := F.map tD) (as := as) ra ⟨fun x hx y hy => ?_, fun x hx e => ?_⟩ (by omega) (fun e h' tk hk => ?_) (fun y ys i v h' tk bs e hi hr hk => ?_)
  · obtain ⟨f, _, rfl⟩ := List.mem_map.mp hx
    obtain ⟨g, _, rfl⟩ := List.mem_map.mp hy
    show PySem.W.alike (.tuple (iD f)) (.tuple (iD g)) = true
    rw [PySem.W.alike]
    exact alike_ints f g
  · obtain ⟨f, _, rfl⟩ := List.mem_map.mp hx
    cases e
  · exact ⟨z, H, I.kept hk, rd, q0 (List.map_eq_nil_iff.mp e)⟩
  · cases F with
    | nil => cases e
    | cons g gs =>
      obtain ⟨e1, e2⟩ := List.cons.inj e
      subst e1 e2
      rw [minD_first fun w hw => List.rel_of_pairwise_cons pw hw] at hr
      have hi' : its[i]? = some v := by simpa using hi
      obtain ⟨x, hx, rx⟩ := vals_get rv hi'
      obtain ⟨f, hf, hT⟩ := paired_get hp hx
      have I' : L2.Inv X pins σ H { s with heap := h', toks := tk } := I.kept hk
      obtain ⟨cs, r3⟩ := Dp.reads I' (tD f) x v (dp_tup hT) rx
      rw [reads_tD r3 hr] at hT
      exact ⟨x, H, I', rx, q1 g gs x rfl hT⟩
end
/-! ### trades and pushes -/
def putF (f : List Int) (p o : Int) : List Int := srtI (lessL f [p] ++ [o])
def trB (fss : List (List Int)) (f g : List Int) (p : Int) : Bool := (lessL g f).any fun o => decide (putF f p o ∈ fss)
def cellT (fss : List (List Int)) (f : List Int) (i : Nat) (g : List Int) (j : Nat) : List (List Int) := ((lessL f g).filter fun p => !trB fss f g p).map fun p => [(i : Int), (j : Int), p]
def rowT (fss : List (List Int)) (f : List Int) (i m : Nat) : List (List Int) := (List.range m).flatMap fun j => cellT fss f i (fss.getD j []) j
def unT (fss : List (List Int)) (m : Nat) : List (List Int) := (List.range m).flatMap fun i => rowT fss (fss.getD i []) i fss.length
def cellP (fss : List (List Int)) (f : List Int) (i : Nat) (p : Int) : List (List Int) := ((lessL (rng p.toNat) f).filter fun l => !decide (putF f p l ∈ fss)).map fun l => [(i : Int), p, l]
def rowP (fss : List (List Int)) (f : List Int) (i : Nat) (ps : List Int) : List (List Int) := ps.flatMap (cellP fss f i)
def unP (fss : List (List Int)) (m : Nat) : List (List Int) := (List.range m).flatMap fun i => rowP fss (fss.getD i []) i (fss.getD i [])
theorem range_split {n i : Nat} (h : i < n) : List.range n = List.range i ++ i :: (List.range' (i + 1) (n - i - 1)) := by
  rw [List.range_eq_range', List.range_eq_range']
  have e : n = i + (1 + (n - i - 1)) := by omega
  conv => lhs; rw [e]
  rw [← List.range'_append_1, Nat.add_comm 1, List.range'_succ, Nat.zero_add]
theorem flat_head {α β : Type} {f : α → List β} {l1 l2 : List α} {a : α} {x : β} (h1 : l1.flatMap f = []) (h2 : (f a).head? = some x) : ((l1 ++ a :: l2).flatMap f).head? = some x := by
  rw [List.flatMap_append, h1, List.nil_append, List.flatMap_cons, List.head?_append, h2]
  rfl
theorem filt_head {p : Int → Bool} {g : Int → List Int} {l : List Int} {e : Nat} {x : Int} (h1 : (l.take e).filter p = []) (hx : l[e]? = some x) (hp : p x = true) : ((l.filter p).map g).head? = some (g x) := by
  have he : e < l.length := (List.getElem?_eq_some_iff.mp hx).1
  have hs : l = l.take e ++ x :: l.drop (e + 1) := by
    conv => lhs; rw [← List.take_append_drop e l, List.drop_eq_getElem_cons he]
    rw [(List.getElem?_eq_some_iff.mp hx).2]
  rw [hs, List.filter_append, h1, List.nil_append, List.filter_cons, if_pos hp]
  rfl
theorem lt3_a {i j : Nat} {p q r s : Int} (h : i < j) : [(i : Int), p, q] < [(j : Int), r, s] := by
  rw [List.cons_lt_cons_iff]
  exact .inl (by omega)
theorem lt3_b {i : Int} {j k : Int} {q s : Int} (h : j < k) : [i, j, q] < [i, k, s] := by
  rw [List.cons_lt_cons_iff]
  refine .inr ⟨rfl, ?_⟩
  rw [List.cons_lt_cons_iff]
  exact .inl h
theorem lt3_c {i j p q : Int} (h : p < q) : [i, j, p] < [i, j, q] := by
  rw [List.cons_lt_cons_iff]
  refine .inr ⟨rfl, ?_⟩
  rw [List.cons_lt_cons_iff]
  refine .inr ⟨rfl, ?_⟩
  rw [List.cons_lt_cons_iff]
  exact .inl h
theorem unT_pw {fss : List (List Int)} (hr : ∀ f ∈ fss, f.Pairwise (· < ·)) : (unT fss fss.length).Pairwise (· < ·) := by
  have hf : ∀ i, (fss.getD i []).Pairwise (· < ·) := fun i => by
    rw [List.getD_eq_getElem?_getD]
    cases h : fss[i]? with
    | none => exact .nil
    | some f => exact hr f (List.mem_of_getElem? h)
  unfold unT
  rw [List.pairwise_flatMap]
  constructor
  · intro i _
    unfold rowT
    rw [List.pairwise_flatMap]
    constructor
    · intro j _
      unfold cellT
      rw [List.pairwise_map]
      exact (((hf i).sublist List.filter_sublist).sublist List.filter_sublist).imp fun h => lt3_c h
    · refine List.pairwise_lt_range.imp fun {a b} hab x hx y hy => ?_
      obtain ⟨p, _, rfl⟩ := List.mem_map.mp hx
      obtain ⟨q, _, rfl⟩ := List.mem_map.mp hy
      exact lt3_b (by omega)
  · refine List.pairwise_lt_range.imp fun {a b} hab x hx y hy => ?_
    obtain ⟨j, _, hx⟩ := List.mem_flatMap.mp hx
    obtain ⟨k, _, hy⟩ := List.mem_flatMap.mp hy
    obtain ⟨p, _, rfl⟩ := List.mem_map.mp hx
    obtain ⟨q, _, rfl⟩ := List.mem_map.mp hy
    exact lt3_a hab
theorem rng_lt (n : Nat) : (rng n).Pairwise (· < ·) := by
  unfold rng
  rw [List.pairwise_map]
  exact List.pairwise_lt_range.imp fun h => by omega
theorem unP_pw {fss : List (List Int)} (hr : ∀ f ∈ fss, f.Pairwise (· < ·)) : (unP fss fss.length).Pairwise (· < ·) := by
  have hf : ∀ i, (fss.getD i []).Pairwise (· < ·) := fun i => by
    rw [List.getD_eq_getElem?_getD]
    cases h : fss[i]? with
    | none => exact .nil
    | some f => exact hr f (List.mem_of_getElem? h)
  unfold unP
  rw [List.pairwise_flatMap]
  constructor
  · intro i _
    unfold rowP
    rw [List.pairwise_flatMap]
    constructor
    · intro p _
      unfold cellP
      rw [List.pairwise_map]
      exact (((rng_lt p.toNat).sublist List.filter_sublist).sublist List.filter_sublist).imp fun h => lt3_c h
    · refine (hf i).imp fun {a b} hab x hx y hy => ?_
      obtain ⟨p, _, rfl⟩ := List.mem_map.mp hx
      obtain ⟨q, _, rfl⟩ := List.mem_map.mp hy
      exact lt3_b hab
  · refine List.pairwise_lt_range.imp fun {a b} hab x hx y hy => ?_
    obtain ⟨j, _, hx⟩ := List.mem_flatMap.mp hx
    obtain ⟨k, _, hy⟩ := List.mem_flatMap.mp hy
    obtain ⟨p, _, rfl⟩ := List.mem_map.mp hx
    obtain ⟨q, _, rfl⟩ := List.mem_map.mp hy
    exact lt3_a hab
end Lf

namespace Lf
open PySem PySem.Spec PyProof.Rows L2 GxR GxA SrT EnT
theorem for_enT {K : PySem.W.Frag} {a : Addr} {xs : List V} {g : TG} {tb : TS} {D : Ends} {σ : L2.St} {H : Hp} (Pv : Nat → L2.St → Hp → Prop) (h0 : Pv 0 σ H) (hl : ∀ i σ H, Pv i σ H → SqT K H a xs)
    (hs : ∀ i x σ H T, xs[i]? = some x → Pv i σ H → H T = none → g (.ref T) σ (upd H T (.tup [.int (i : Nat), x])) fun σ2 H2 => tb { D with nx := Pv (i + 1), ct := Pv (i + 1), bk := D.nx } σ2 H2) (hd : ∀ σ H, Pv xs.length σ H → D.nx σ H) :
    ∃ W : Nat → Nat → L2.St → Hp → Prop, (∃ m, W 0 m σ H) ∧ ∀ i m σ H, W i m σ H →
      ((ItT K a).stop i H ∧ D.nx σ H) ∨ ((ItT K a).go i H ∧ ∃ N : L2.St → Hp → Prop, (∀ σ' H', N σ' H' → ∃ m', m' < m ∧ W (i + 1) m' σ' H') ∧ ∀ x H', (ItT K a).yld i H x H' → g x σ H' fun σ2 H2 => tb { D with nx := N, ct := N, bk := D.nx } σ2 H2) := by
  refine ⟨fun i m σ H => m = xs.length - i ∧ i ≤ xs.length ∧ Pv i σ H, ⟨xs.length, by simp, Nat.zero_le _, h0⟩, ?_⟩
  rintro i m σ H ⟨rfl, hi, p⟩
  have q := hl i σ H p
  by_cases hlt : i < xs.length
  · refine .inr ⟨⟨xs, xs[i], q, List.getElem?_eq_getElem hlt⟩, Pv (i + 1), fun σ' H' p' => ⟨xs.length - (i + 1), by omega, rfl, hlt, p'⟩, fun x H' y => ?_⟩
    obtain ⟨T, z, rfl, hT, rfl, hz⟩ := y
    exact hs i z σ H T (hz xs q) p hT
  · have e : i = xs.length := by omega
    subst e
    exact .inl ⟨⟨xs, q, rfl⟩, hd σ H p⟩
end Lf

set_option maxHeartbeats 4000000
namespace Lf
open PySem PySem.Spec PyProof.Rows L2 GxR GxA SrT
abbrev sSize : Stmt := topS 57
abbrev sDrawn : Stmt := topS 59
theorem scSize : FnScope ["_law_pen_here", "_law_k"] ["_law_pen_here"] (defScope sSize) := ⟨rfl, rfl, rfl, by decide +kernel, rfl, by decide +kernel, by decide +kernel⟩
theorem scDrawn : FnScope ["_law_pen_here", "_law_n", "_law_k", "_law_most", "_law_left", "_law_many", "_law_turn"] ["_law_pen_here", "_law_n", "_law_k", "_law_most"] (defScope sDrawn) := ⟨rfl, rfl, rfl, by decide +kernel, rfl, by decide +kernel, by decide +kernel⟩
theorem mem_everyL {n k : Nat} {g : List Int} : g ∈ everyL n k ↔ g.Sublist (rng n) ∧ g.length = k := by
  unfold everyL
  rw [(sortL_perm _).mem_iff, List.mem_filter, mem_subs, decide_eq_true_eq]
theorem nodup_everyL (n k : Nat) : (everyL n k).Nodup := by
  unfold everyL
  exact (sortL_perm _).nodup_iff.mpr ((subs_nodup _ (rng n) rfl (nd_rng n)).filter _)
theorem everyL_len {n k : Nat} (h : n ≤ 8) : (everyL n k).length ≤ 256 := by
  unfold everyL
  rw [(sortL_perm _).length_eq]
  refine Nat.le_trans (List.length_filter_le _ _) ?_
  rw [subs_len, rng_len]
  exact Nat.le_trans (Nat.pow_le_pow_right (by decide) h) (by decide)
theorem everyL_pos : ∀ n, n < 9 → ∀ k, k < 5 → k ≤ n → 0 < ((subsL (rng n)).filter fun g => decide (g.length = k)).length := by decide +kernel
theorem every_pos {n k : Nat} (h8 : n ≤ 8) (h4 : k ≤ 4) (hk : k ≤ n) : 1 ≤ (everyL n k).length := by
  unfold everyL
  rw [(sortL_perm _).length_eq]
  exact everyL_pos n (by omega) k (by omega) hk
theorem seqIx {m j : Nat} (h : j < m) : seqIndex? (j : Int) m = some j := by
  have e : (if (j : Int) < 0 then (j : Int) + m else (j : Int)) = (j : Int) := if_neg (by omega)
  unfold seqIndex?
  simp only [e]
  rw [decide_eq_true (show (0 : Int) ≤ j by omega), decide_eq_true (show (j : Int) < m by omega)]
  simp
section
variable {P : Program} {w : World} {K : PySem.W.Frag} {mg : Str → Option Value} {base : Heap} {Ps : Tbs} {H H' H0 : Hp} {k : Nat} {f c : Addr} {fd : FuncData}
theorem tups_put {r : Addr} {l l' xs : List V} {fss : List (List Int)} (hr : H r = some (.lst l)) (h : Paired (TupI K H) xs fss) : Paired (TupI K (upd H r (.lst l'))) xs fss := L2.Paired.mapP h fun _ _ z => let ⟨t, e, s⟩ := z; ⟨t, e, sqT_put hr s⟩
theorem paired_erase {α γ : Type} {G : α → γ → Prop} : ∀ {xs : List α} {ys : List γ} (j : Nat), Paired G xs ys → Paired G (xs.eraseIdx j) (ys.eraseIdx j)
  | _, _, _, .nil => .nil
  | _, _, 0, .cons r t => t
  | _, _, j + 1, .cons r t => .cons r (paired_erase j t)
theorem perm_erase {α : Type} : ∀ {l : List α} {j : Nat} {y : α}, l[j]? = some y → (y :: l.eraseIdx j).Perm l
  | [], j, y, h => by simp at h
  | x :: l, 0, y, h => by
    cases h
    exact List.Perm.refl _
  | x :: l, j + 1, y, h => by
    have := perm_erase (l := l) (j := j) h
    exact (List.Perm.swap x y _).trans (this.cons x)
/-! ### _law_size -/
def spSize (K : PySem.W.Frag) (Ps : Tbs) : Sp := fun vs H Q _ => ∃ a : Addr, vs = [.ref a] ∧ Pen H a ∧ Tb Ps H ∧ ∀ (t : Addr) (n kk : Nat) (H' : Hp), Epn Ps a H H' → SqT K H' t [.int n, .int kk] → 1 ≤ n → n ≤ 8 → kk ≤ n → kk ≤ 4 → Q (.ref t) H'
theorem ok_size {fD cD : Addr} {fdD : FuncData} (D : Def K mg "_law_size" sSize ["_law_pen_here"] f fd c) (DD : Def K mg "_law_draw" sDraw ["_law_pen_here", "_law_many"] fD fdD cD) (GD : FnOk P w K mg base CX0 k fD fdD ["_law_pen_here", "_law_many"] spDraw) (mx : mg "max" = none) : FnOk P w K mg base CX0 (k + 1) f fd ["_law_pen_here"] (spSize K Ps) := by
  refine D.ok (k := k) scSize (fun vs H Q E h => ?_) (fun A outer s H vs Q E hr h => ?_)
  · obtain ⟨a, rfl, _⟩ := h
    rfl
  · obtain ⟨a, rfl, hP, ht, q⟩ := h
    refine ⟨_, (pss_cons (ps_set (i := 1) scSize.nd rfl (.inl rfl) (pe_ix ix_list (pe_lst (pa_cons pe_int (pa_cons pe_int (pa_cons pe_int (pa_cons pe_int (pa_cons pe_int (pa_cons pe_int (pa_cons pe_int (pa_cons pe_int pa_nil))))))))) (pcl DD GD hr (pa_cons (pv 0) (pa_cons pe_int pa_nil))) (fun _ _ => rfl))) (pss_one (ps_ret (pe_tup (pa_cons (pe_op op_add (pe_callB (call_max2 rfl) (by rfl) mx (by decide +kernel) (pa_cons pe_int (pa_cons (pv 1) pa_nil))) (pcl DD GD hr (pa_cons (pv 0) (pa_cons (pe_op op_sub pe_int (pe_callB (call_max2 rfl) (by rfl) mx (by decide +kernel) (pa_cons pe_int (pa_cons (pv 1) pa_nil)))) pa_nil)))) (pa_cons (pv 1) pa_nil)))))), ?_⟩
    refine tseq_intro fun R hR => ?_
    refine ⟨(by show 8 ≤ sizeLine; decide), fun l nl => ?_⟩
    have x1 := Ext.new (o := .lst [.int 2, .int 3, .int 2, .int 3, .int 1, .int 4, .int 0, .int 2]) ht nl
    have hl : upd H l (.lst [.int 2, .int 3, .int 2, .int 3, .int 1, .int 4, .int 0, .int 2]) l = some (.lst [.int 2, .int 3, .int 2, .int 3, .int 1, .int 4, .int 0, .int 2]) := upd_same
    have e1 := x1.epn hP
    have nla : l ≠ a := by
      obtain ⟨u, v, e⟩ := hP
      exact (ne_of_none e nl).symm
    generalize upd H l (.lst [.int 2, .int 3, .int 2, .int 3, .int 1, .int 4, .int 0, .int 2]) = H1 at *
    refine ⟨.ref a, rfl, a, 8, rfl, e1.pen, by decide, by decide, fun u1 f1 r1 r10 r11 => ?_⟩
    have e2 : Epn Ps a H (upd H1 a (.lst [.int u1, .int f1])) := e1.trans (Epn.draw e1.tb e1.pen)
    have hl2 := (Epn.draw (x := u1) (f := f1) e1.tb e1.pen).lst nla hl
    generalize upd H1 a (.lst [.int u1, .int f1]) = H2 at *
    obtain ⟨j, rfl⟩ := Int.eq_ofNat_of_zero_le r10
    obtain ⟨kk, hk, hk4⟩ : ∃ kk : Nat, [V.int 2, .int 3, .int 2, .int 3, .int 1, .int 4, .int 0, .int 2][j]? = some (.int kk) ∧ kk ≤ 4 := by
      have hj : j < 8 := by omega
      match j, hj with
      | 0, _ => exact ⟨2, rfl, by decide⟩
      | 1, _ => exact ⟨3, rfl, by decide⟩
      | 2, _ => exact ⟨2, rfl, by decide⟩
      | 3, _ => exact ⟨3, rfl, by decide⟩
      | 4, _ => exact ⟨1, rfl, by decide⟩
      | 5, _ => exact ⟨4, rfl, by decide⟩
      | 6, _ => exact ⟨0, rfl, by decide⟩
      | 7, _ => exact ⟨2, rfl, by decide⟩
    refine ⟨l, _, (j : Int), .int kk, rfl, rfl, .inl (.inl hl2), atI_nat hk, ?_⟩
    show R [some (.ref a), some (.int kk)] H2
    rw [hR]
    refine ⟨.int kk, rfl, 1, kk, rfl, .ref a, rfl, .int kk, rfl, 1, kk, rfl, 9, _, rfl, rfl, a, _, rfl, e2.pen, ?_, ?_, fun u2 f2 r2 r20 r21 => ?_⟩
    · split <;> omega
    · split <;> omega
    have e3 : Epn Ps a H (upd H2 a (.lst [.int u2, .int f2])) := e2.trans (Epn.draw e2.tb e2.pen)
    generalize upd H2 a (.lst [.int u2, .int f2]) = H3 at *
    refine ⟨_, _, rfl, rfl, .int kk, rfl, (by show 2 ≤ sizeLine; decide), fun t nt => ?_⟩
    have x4 := Ext.new (o := .tup [.int ((if (kk : Int) > 1 then (kk : Int) else 1) + r2), .int kk]) e3.tb nt
    obtain ⟨m, hm⟩ : ∃ m : Nat, (if (kk : Int) > 1 then (kk : Int) else 1) + r2 = (m : Int) := ⟨((if (kk : Int) > 1 then (kk : Int) else 1) + r2).toNat, by split <;> omega⟩
    have b1 : 1 ≤ m ∧ m ≤ 8 ∧ kk ≤ m := by
      split at hm <;> split at r21 <;> omega
    refine q t m kk _ (e3.trans (x4.epn e3.pen)) (.inl (.inl ?_)) b1.1 b1.2.1 b1.2.2 hk4
    rw [upd_same, ← hm]
/-! ### _law_drawn -/
def spDrawn (K : PySem.W.Frag) (Ps : Tbs) : Sp := fun vs H Q _ => ∃ (a : Addr) (n kk m : Nat), vs = [.ref a, .int n, .int kk, .int m] ∧ Pen H a ∧ n ≤ 8 ∧ kk ≤ n ∧ kk ≤ 4 ∧ 1 ≤ m ∧ m ≤ 100 ∧ Tb Ps H ∧ ∀ (l : Addr) (ys : List V) (df : List (List Int)) (H' : Hp), Epn Ps a H H' → H l = none → H' l = some (.lst ys) → Paired (TupI K H') ys df → df.Nodup → (∀ g ∈ df, g ∈ everyL n kk) → 1 ≤ df.length → df.length ≤ m → Q (.ref l) H'
theorem ok_drawn {fD cD fE cE : Addr} {fdD fdE : FuncData} (D : Def K mg "_law_drawn" sDrawn ["_law_pen_here", "_law_n", "_law_k", "_law_most"] f fd c) (DD : Def K mg "_law_draw" sDraw ["_law_pen_here", "_law_many"] fD fdD cD) (GD : FnOk P w K mg base CX0 k fD fdD ["_law_pen_here", "_law_many"] spDraw)
    (DE : Def K mg "_law_every" sEveryL ["_law_n", "_law_k"] fE fdE cE) (GE : FnOk P w K mg base CX0 k fE fdE ["_law_n", "_law_k"] (spEveryK K Ps)) (mm : mg "min" = none) (mr : mg "range" = none) (ml : mg "len" = none) : FnOk P w K mg base CX0 (k + 1) f fd ["_law_pen_here", "_law_n", "_law_k", "_law_most"] (spDrawn K Ps) := by
  refine D.ok (k := k) scDrawn (fun vs H Q E h => ?_) (fun A outer s H vs Q E hr h => ?_)
  · obtain ⟨a, n, kk, m, rfl, _⟩ := h
    rfl
  · obtain ⟨a, n, kk, m, rfl, hP, n8, hkn, hk4, m1, m100, ht, q⟩ := h
    refine ⟨_, (pss_cons (ps_set (i := 4) scDrawn.nd rfl (.inr rfl) (pcl DE GE hr (pa_cons (pv 1) (pa_cons (pv 2) pa_nil)))) (pss_cons (ps_set (i := 5) scDrawn.nd rfl (.inl rfl) (pe_op op_add pe_int (pcl DD GD hr (pa_cons (pv 0) (pa_cons (pe_callB (call_min2 rfl) (by rfl) mm (by decide +kernel) (pa_cons (pv 3) (pa_cons (pe_callB (call_lenS (K := K) rfl) (by rfl) ml PySem.boot_len (pa_cons (pv 4) pa_nil)) pa_nil))) pa_nil))))) (pss_one (ps_ret (pe_lc (own := [("_law_turn", 6)]) (g := gName 6) (by rfl) scDrawn.nd (pi_range1 (by rfl) mr (pa_cons (pv 5) pa_nil)) (blkOk_by (N := ["_law_pen_here", "_law_n", "_law_k", "_law_most", "_law_left", "_law_many", "_law_turn"]) (sc := defScope sDrawn) (by decide +kernel)) (fun _ _ _ _ _ => pg_name (i := 6) scDrawn.nd rfl (Or.inl rfl)) (fun _ _ _ _ _ => pts_nil) (fun _ _ _ _ _ => (show PE _ _ (tBM K "list" rPopAt _ _) from pe_bm PySem.F.plainAttrs_list PySem.F.slot_list_pop PySem.F.type_list_pop mt_popAt (pv 4) (pa_cons (pcl DD GD hr (pa_cons (pv 0) (pa_cons (pe_callB (call_lenS (K := K) rfl) (by rfl) ml PySem.boot_len (pa_cons (pv 4) pa_nil)) pa_nil))) pa_nil)))))))), ?_⟩
    refine ⟨.int n, rfl, .int kk, rfl, n, kk, rfl, n8, by omega, ht, fun L ls H1 e1 nL hL hls => ?_⟩
    have lenL := Paired.length hls
    have l256 := everyL_len (k := kk) n8
    have lpos := every_pos n8 hk4 hkn
    have E1 := e1.epn hP
    have nLa : L ≠ a := by
      obtain ⟨u, v, e⟩ := hP
      exact (ne_of_none e nL).symm
    refine ⟨.ref a, rfl, .int m, rfl, .ref L, rfl, L, ls, rfl, .inl (.inl (.inl hL)), m, _, rfl, a, _, rfl, E1.pen, ?_, ?_, fun u1 f1 r1 r10 r11 => ⟨1, r1, rfl, rfl, ?_⟩⟩
    · split <;> omega
    · split <;> omega
    have e2 : Epn Ps a H1 (upd H1 a (.lst [.int u1, .int f1])) := Epn.draw E1.tb E1.pen
    have E2 := E1.trans e2
    have hL2 := e2.lst nLa hL
    have hls2 := e2.tups hls
    generalize upd H1 a (.lst [.int u1, .int f1]) = H2 at *
    obtain ⟨j, rfl⟩ := Int.eq_ofNat_of_zero_le r10
    have hjm : 1 + j ≤ m ∧ 1 + j ≤ ls.length := by
      split at r11 <;> omega
    refine ⟨.int (1 + (j : Int)), rfl, 1 + (j : Int), rfl, by omega, by omega, fun D0 hD => ?_⟩
    have nDa : D0 ≠ a := by
      obtain ⟨u, v, e⟩ := E2.pen
      exact (ne_of_none e hD).symm
    have nDL : L ≠ D0 := ne_of_none hL2 hD
    have hD' := E2.free hD
    refine lc_range (lo := 0) (n := (1 + (j : Int)).toNat) (fun i H3 => Epn Ps a H H3 ∧ ∃ (ls ds : List V) (lf df : List (List Int)), H3 L = some (.lst ls) ∧ H3 D0 = some (.lst ds) ∧ Paired (TupI K H3) ls lf ∧ Paired (TupI K H3) ds df ∧ (df ++ lf).Perm (everyL n kk) ∧ df.length = i) ?_ (fun i H3 hi p => ?_) (fun H3 p => ?_)
    · have x3 := Ext.new (o := .lst []) E2.tb hD
      exact ⟨E2.trans (x3.epn E2.pen), ls, [], everyL n kk, [], x3.lst hL2, upd_same, x3.tups hls2, .nil, List.Perm.refl _, rfl⟩
    · obtain ⟨E3, ls3, ds3, lf3, df3, hL3, hD3, hp3, hq3, hperm, hdl⟩ := p
      have hll := hperm.length_eq
      rw [List.length_append] at hll
      have hl3 := Paired.length hp3
      have hd3 := Paired.length hq3
      have hi' : i < 1 + j := by omega
      refine ⟨rfl, yes_ (iteT ⟨.ref L, rfl, .inl ⟨rfl, _, .inl (.inl hL3)⟩, .ref a, rfl, .ref L, rfl, L, ls3, rfl, .inl (.inl (.inl hL3)), a, _, rfl, E3.pen, by omega, by omega, fun u2 f2 r2 r20 r21 => ?_⟩)⟩
      have e4 : Epn Ps a H3 (upd H3 a (.lst [.int u2, .int f2])) := Epn.draw E3.tb E3.pen
      have E4 := E3.trans e4
      have hL4 := e4.lst nLa hL3
      have hD4 := e4.lst nDa hD3
      have hp4 := e4.tups hp3
      have hq4 := e4.tups hq3
      generalize upd H3 a (.lst [.int u2, .int f2]) = H4 at *
      obtain ⟨o, rfl⟩ := Int.eq_ofNat_of_zero_le r20
      have ho : o < ls3.length := by omega
      obtain ⟨y, hy⟩ : ∃ y, ls3[o]? = some y := ⟨_, List.getElem?_eq_getElem ho⟩
      obtain ⟨g, hg, hI⟩ := paired_get hp4 hy
      refine ⟨L, ls3, (o : Int), o, y, rfl, rfl, hL4, by omega, by omega, seqIx ho, hy, ds3, ?_, by exact Nat.lt_of_le_of_lt (show ds3.length ≤ 256 by omega) (small1000 (by decide)), ?_⟩
      · rw [upd_ne (Ne.symm nDL)]
        exact hD4
      have E5 := E4.write (o' := .lst (ls3.eraseIdx o)) nL hL4 (fun q z => by cases z)
      have hL5 : upd H4 L (.lst (ls3.eraseIdx o)) L = some (.lst (ls3.eraseIdx o)) := upd_same
      have hD5 : upd H4 L (.lst (ls3.eraseIdx o)) D0 = some (.lst ds3) := by
        rw [upd_ne (Ne.symm nDL)]
        exact hD4
      have hp5 := tups_put (l' := ls3.eraseIdx o) hL4 (paired_erase o hp4)
      have hq5 := tups_put (l' := ls3.eraseIdx o) hL4 hq4
      have hI5 := tups_put (l' := ls3.eraseIdx o) hL4 (.cons hI .nil : Paired (TupI K H4) [y] [g])
      generalize upd H4 L (.lst (ls3.eraseIdx o)) = H5 at *
      refine ⟨E5.write hD' hD5 (fun q z => by cases z), ls3.eraseIdx o, ds3 ++ [y], lf3.eraseIdx o, df3 ++ [g], ?_, upd_same, tups_put hD5 hp5, tups_put hD5 (paired_app hq5 hI5), ?_, by rw [List.length_append]; simp; omega⟩
      · rw [upd_ne nDL]
        exact hL5
      · rw [List.append_assoc]
        exact (List.Perm.append_left df3 (perm_erase hg)).trans hperm
    · obtain ⟨E3, ls3, ds3, lf3, df3, hL3, hD3, hp3, hq3, hperm, hdl⟩ := p
      have nd := hperm.nodup_iff.mpr (nodup_everyL n kk)
      exact q D0 ds3 df3 _ E3 hD' hD3 hq3 (List.nodup_append.mp nd).1 (fun g hg => hperm.mem_iff.mp (List.mem_append_left _ hg)) (by omega) (by omega)
end
end Lf

set_option maxHeartbeats 4000000
namespace Lf
open PySem PySem.Spec PyProof.Rows L2 GxR GxA SrT
abbrev sMayN : Stmt := topS 61
abbrev sGrown : Stmt := topS 62
theorem scMayN : FnScope ["_law_laid", "_law_face", "_law_beside", "_law_one", "_law_other", "_law_both"] ["_law_laid", "_law_face"] (defScope sMayN) := ⟨rfl, rfl, rfl, by decide +kernel, rfl, by decide +kernel, by decide +kernel⟩
theorem scGrown : FnScope ["_law_pen_here", "_law_n", "_law_k", "_law_most", "_law_left", "_law_many", "_law_laid", "_law_turn", "_law_face"] ["_law_pen_here", "_law_n", "_law_k", "_law_most"] (defScope sGrown) := ⟨rfl, rfl, rfl, by decide +kernel, rfl, by decide +kernel, by decide +kernel⟩
def besideL (laid : List (List Int)) (fc : List Int) : List (List Int) := laid.filter fun one => decide (((comL fc one).length : Int) = (fc.length : Int) - 1)
def mayB (laid : List (List Int)) (fc : List Int) : Bool := laid.all fun o => !((besideL laid fc).filter fun one => decide ((comL (comL fc o) one).length = (comL fc o).length)).isEmpty
section
variable {P : Program} {w : World} {K : PySem.W.Frag} {mg : Str → Option Value} {base : Heap} {Ps : Tbs} {H H' H0 : Hp} {k : Nat} {f c : Addr} {fd : FuncData}
/-! ### _law_common of a list -/
def spCommonLE (K : PySem.W.Frag) (Ps : Tbs) : Sp := fun vs H Q _ => ∃ (l0 : Addr) (y : V) (pts fc : List Int), vs = [.ref l0, y] ∧ SqL K H l0 (pts.map V.int) ∧ TupI K H y fc ∧ pts.length ≤ 100 ∧ Tb Ps H ∧ ∀ (l : Addr) (H' : Hp), Ext Ps H H' → H l = none → H' l = some (.lst ((comL pts fc).map V.int)) → Q (.ref l) H'
theorem ok_commonLE (D : Def K mg "_law_common" sCommon ["_law_one", "_law_other"] f fd c) : FnOk P w K mg base CX0 (k + 1) f fd ["_law_one", "_law_other"] (spCommonLE K Ps) := by
  refine D.ok (k := k) scCommon (fun vs H Q E h => ?_) (fun A outer s H vs Q E hr h => ?_)
  · obtain ⟨x, y, pts, fc, rfl, _⟩ := h
    rfl
  · obtain ⟨a, _, pts, fc, rfl, hA, ⟨b, rfl, hB⟩, hl, ht, q⟩ := h
    refine ⟨_, pss_one (ps_ret (pe_lc (own := [("_law_point", 2)]) (g := gName 2) (by rfl) scCommon.nd (pi_list (pv 0)) (blkOk_by (N := ["_law_one", "_law_other", "_law_point"]) (sc := defScope sCommon) (by decide +kernel))
      (fun _ _ _ _ _ => pg_name (i := 2) scCommon.nd rfl (Or.inl rfl)) (fun _ _ _ _ _ => pts_one (pt_cmpR (show OpR _ _ (rIn K false) from op_in_seq) (pv 2) (pv 1) (by with_unfolding_all rfl))) (fun _ _ _ _ _ => pv 2))), ?_⟩
    refine ⟨.ref a, rfl, a, rfl, ⟨_, hA⟩, fun D0 hD => lc_list (K := K) (a := a) (xs := pts.map V.int) (fun i H3 => CP Ps FI H D0 (comL (pts.take i) fc) i H3) (CP.start ht hD) (fun i H3 _ p => p.ext.sqL hA) (fun i x H3 hx p => ?_) (fun H3 p => ?_)⟩
    · obtain ⟨y, hy, rfl⟩ := map_int hx
      have hi : i < pts.length := (List.getElem?_eq_some_iff.mp hy).1
      have e : comL (pts.take (i + 1)) fc = comL (pts.take i) fc ++ (if decide (y ∈ fc) = true then [y] else []) := filter_step (q := fun p => decide (p ∈ fc)) hy
      refine ⟨rfl, .int y, rfl, .ref b, rfl, b, _, rfl, .inr (p.ext.sqT hB), rfl, flat_ints fc, _, rfl, ite2 (fun hc => ?_) (fun hc => ?_)⟩
      · have hc' : decide (y ∈ fc) = true := (inV_ints y fc).symm.trans hc
        obtain ⟨acc, r1, r2, r3⟩ := CP.put (stbI (K := K)) hD (by omega) p (show FI H3 (.int y) y from rfl)
        rw [if_pos hc'] at e
        exact ⟨.int y, rfl, acc, r1, r2, by rw [e]; exact r3⟩
      · have hc' : ¬ decide (y ∈ fc) = true := fun z => hc ((inV_ints y fc).trans z)
        rw [if_neg hc', List.append_nil] at e
        rw [e]
        exact p.mono (Nat.le_succ i)
    · rw [List.length_map, List.take_length] at p
      obtain ⟨ys, e1, e2, e3⟩ := p.at_
      rw [paired_ints e2] at e1
      exact q D0 H3 p.ext hD e1
def spCommon2 (K : PySem.W.Frag) (Ps : Tbs) : Sp := fun vs H Q E => spCommonE K Ps vs H Q E ∨ spCommonLE K Ps vs H Q E
/-! ### _law_may -/
def spMayB (K : PySem.W.Frag) (Ps : Tbs) : Sp := fun vs H Q _ => ∃ (l : Addr) (xs : List V) (z : V) (fss : List (List Int)) (fc : List Int), vs = [.ref l, z] ∧ SqL K H l xs ∧ Paired (TupI K H) xs fss ∧ TupI K H z fc ∧ fss.length ≤ 100 ∧ fc.length ≤ 100 ∧ Tb Ps H ∧ ∀ (H' : Hp), Ext Ps H H' → Q (.bl (mayB fss fc)) H'
theorem ok_mayN {fC cC : Addr} {fdC : FuncData} (D : Def K mg "_law_may" sMayN ["_law_laid", "_law_face"] f fd c) (DC : Def K mg "_law_common" sCommon ["_law_one", "_law_other"] fC fdC cC) (GC : FnOk P w K mg base CX0 k fC fdC ["_law_one", "_law_other"] (spCommon2 K Ps)) (ml : mg "len" = none) : FnOk P w K mg base CX0 (k + 1) f fd ["_law_laid", "_law_face"] (spMayB K Ps) := by
  refine D.ok (k := k) scMayN (fun vs H Q E h => ?_) (fun A outer s H vs Q E hr h => ?_)
  · obtain ⟨l, xs, z, fss, fc, rfl, _⟩ := h
    rfl
  · obtain ⟨l, xs, _, fss, fc, rfl, hL, hp, ⟨zt, rfl, hZ⟩, hfl, hcl, ht, q⟩ := h
    refine ⟨_, (pss_cons (ps_setLc (i := 2) (own := [("_law_one", 3)]) (g := gName 3) (by rfl) scMayN.nd rfl rfl (by rfl) (pi_list (pv 0)) (blkOk_by (N := ["_law_laid", "_law_face", "_law_beside", "_law_one", "_law_other", "_law_both"]) (sc := defScope sMayN) (by decide +kernel)) (fun _ _ _ _ _ => pg_name (i := 3) scMayN.nd rfl (Or.inl rfl)) (fun _ _ _ _ _ => pts_one (pt_cmpR op_eq (pe_callB (call_lenS (K := K) rfl) (by rfl) ml PySem.boot_len (pa_cons (pcl DC GC hr (pa_cons (pv 1) (pa_cons (pv 3) pa_nil))) pa_nil)) (pe_op op_sub (pe_callB (call_lenS (K := K) rfl) (by rfl) ml PySem.boot_len (pa_cons (pv 1) pa_nil)) pe_int) (nomark _))) (fun _ _ _ _ _ => (pv 3))) (pss_cons (ps_for PassesOwn.never rfl (pi_list (pv 0)) (pg_name (i := 4) scMayN.nd rfl (.inl rfl)) (pss_cons (ps_set (i := 5) scMayN.nd rfl (.inr rfl) (pcl DC GC hr (pa_cons (pv 1) (pa_cons (pv 4) pa_nil)))) (pss_one (ps_if (pt_cmpR (op_eqD hr.units) (pe_lc (own := [("_law_one", 3)]) (g := gName 3) (by rfl) scMayN.nd (pi_list (pv 2)) (blkOk_by (N := ["_law_laid", "_law_face", "_law_beside", "_law_one", "_law_other", "_law_both"]) (sc := defScope sMayN) (by decide +kernel)) (fun _ _ _ _ _ => pg_name (i := 3) scMayN.nd rfl (Or.inl rfl)) (fun _ _ _ _ _ => pts_one (pt_cmpR op_eq (pe_callB (call_lenS (K := K) rfl) (by rfl) ml PySem.boot_len (pa_cons (pcl DC GC hr (pa_cons (pv 5) (pa_cons (pv 3) pa_nil))) pa_nil)) (pe_callB (call_lenS (K := K) rfl) (by rfl) ml PySem.boot_len (pa_cons (pv 5) pa_nil)) (nomark _))) (fun _ _ _ _ _ => (pv 3))) (pe_lst pa_nil) (nomark _)) (pss_one (ps_ret pe_bl)) pss_nil)))) (pss_one (ps_ret pe_bl)))), ?_⟩
    have hxl := Paired.length hp
    refine ⟨.ref l, rfl, l, rfl, ⟨_, hL⟩, fun D0 hD => lc_list (K := K) (a := l) (xs := xs) (fun i H3 => CP Ps (TupI K) H D0 (besideL (fss.take i) fc) i H3) (CP.start ht hD) (fun i H3 _ p => p.ext.sqL hL) (fun i x H3 hx p => ?_) (fun H3 p => ?_)⟩
    · have hi : i < xs.length := (List.getElem?_eq_some_iff.mp hx).1
      obtain ⟨g, hg, hI⟩ := paired_get hp hx
      have e := filter_step (q := fun one : List Int => decide (((comL fc one).length : Int) = (fc.length : Int) - 1)) hg
      refine ⟨rfl, .ref zt, rfl, x, rfl, .inl ⟨.ref zt, x, fc, g, rfl, ⟨zt, rfl, p.ext.sqT hZ⟩, p.ext.tupI hI, hcl, p.ext.tb, fun u H4 e4 hu h4 => ?_⟩⟩
      have p4 := p.skip (stbT (K := K)) e4
      refine ⟨u, _, rfl, .inl (.inl (.inl h4)), .ref zt, rfl, zt, _, rfl, .inr (p4.ext.sqT hZ), _, 1, rfl, rfl, rfl, _, rfl, ?_⟩
      have ed : decide (V.int (((comL fc g).map V.int).length : Int) = V.int (((fc.map V.int).length : Int) - 1)) = decide (((comL fc g).length : Int) = (fc.length : Int) - 1) := by
        rw [List.length_map, List.length_map]
        congr 1
        exact propext ⟨fun z => by injection z, fun z => by rw [z]⟩
      rw [ed]
      refine ite2 (fun hc => ?_) (fun hc => ?_)
      · rw [if_pos hc] at e
        refine ⟨x, rfl, ?_⟩
        obtain ⟨acc, r1, r2, r3⟩ := CP.put (stbT (K := K)) hD (by omega) p4 (p4.ext.tupI hI)
        exact ⟨acc, r1, r2, by show CP Ps (TupI K) H D0 ((fss.take (i + 1)).filter _) (i + 1) _; rw [e]; exact r3⟩
      · rw [if_neg hc, List.append_nil] at e
        show CP Ps (TupI K) H D0 ((fss.take (i + 1)).filter _) (i + 1) _
        rw [e]
        exact p4.mono (Nat.le_succ i)
    rw [hxl, List.take_length] at p
    obtain ⟨bs, b1, b2, b3⟩ := p.at_
    have x3 := p.ext
    refine ⟨.ref l, rfl, l, rfl, ⟨_, x3.sqL hL⟩, for_list (K := K) (a := l) (xs := xs) (fun i σ H5 => Ext Ps H3 H5 ∧ (fss.take i).all (fun o => !((besideL fss fc).filter fun one => decide ((comL (comL fc o) one).length = (comL fc o).length)).isEmpty) = true ∧ ∃ y4 y5, σ = [some (.ref l), some (.ref zt), some (.ref D0), none, y4, y5]) ⟨Ext.refl x3.tb, rfl, none, none, rfl⟩ (fun i σ H5 _ p => p.1.sqL (x3.sqL hL)) (fun i x σ H5 hx p => ?_) (fun σ H5 p => ?_)⟩
    · obtain ⟨e5, ha, y4, y5, rfl⟩ := p
      obtain ⟨g, hg, hI⟩ := paired_get hp hx
      have x5 := x3.trans e5
      refine ⟨.ref zt, rfl, x, rfl, .inl ⟨.ref zt, x, fc, g, rfl, ⟨zt, rfl, x5.sqT hZ⟩, x5.tupI hI, hcl, e5.tb, fun bo H6 e6 hbo h6 => ?_⟩⟩
      have hcl2 := comL_len fc g
      have hb6 := (e5.trans e6).lst b1
      have hbl := Paired.length b2
      have hbf : (besideL fss fc).length ≤ fss.length := List.length_filter_le _ _
      refine ⟨.ref D0, rfl, D0, rfl, ⟨_, .inl (.inl hb6)⟩, fun D1 hD1 => lc_list (K := K) (a := D0) (xs := bs) (fun j H7 => CP Ps (TupI K) H6 D1 (((besideL fss fc).take j).filter fun one => decide ((comL (comL fc g) one).length = (comL fc g).length)) j H7) (CP.start e6.tb hD1) (fun j H7 _ p => p.ext.sqL (.inl (.inl hb6))) (fun j u H7 hu p7 => ?_) (fun H7 p7 => ?_)⟩
      · have hj : j < bs.length := (List.getElem?_eq_some_iff.mp hu).1
        obtain ⟨o, ho, hIo⟩ := paired_get b2 hu
        have e := filter_step (q := fun one : List Int => decide ((comL (comL fc g) one).length = (comL fc g).length)) ho
        have x7 := (e5.trans e6).trans p7.ext
        refine ⟨rfl, .ref bo, rfl, u, rfl, .inr ⟨bo, u, comL fc g, o, rfl, .inl (.inl (p7.ext.lst h6)), x7.tupI hIo, by omega, p7.ext.tb, fun v H8 e8 hv h8 => ?_⟩⟩
        have p8 := p7.skip (stbT (K := K)) e8
        refine ⟨v, _, rfl, .inl (.inl (.inl h8)), .ref bo, rfl, bo, _, rfl, .inl (.inl (.inl (p8.ext.lst h6))), rfl, _, rfl, ?_⟩
        have ed : decide (V.int (((comL (comL fc g) o).map V.int).length : Int) = V.int (((comL fc g).map V.int).length : Int)) = decide ((comL (comL fc g) o).length = (comL fc g).length) := by
          rw [List.length_map, List.length_map]
          congr 1
          exact propext ⟨fun z => by injection z with z; omega, fun z => by rw [z]⟩
        rw [ed]
        refine ite2 (fun hc => ?_) (fun hc => ?_)
        · rw [if_pos hc] at e
          refine ⟨u, rfl, ?_⟩
          obtain ⟨acc, r1, r2, r3⟩ := CP.put (stbT (K := K)) hD1 (by omega) p8 ((x7.trans e8).tupI hIo)
          exact ⟨acc, r1, r2, by rw [e]; exact r3⟩
        · rw [if_neg hc, List.append_nil] at e
          rw [e]
          exact p8.mono (Nat.le_succ j)
      · rw [hbl, List.take_length] at p7
        obtain ⟨ws, c1, c2, c3⟩ := p7.at_
        refine ⟨Nat.zero_le _, fun el nel => ?_⟩
        have e9 := Ext.new (o := .lst []) p7.ext.tb nel
        refine ⟨.list (((besideL fss fc).filter fun one => decide ((comL (comL fc g) one).length = (comL fc g).length)).map tD), .list [], .lst (.inl (.inl (e9.lst c1))) (dp_tups (e9.tups c2)), .lst (xs := []) (.inl (.inl upd_same)) .nil, shp_tups _, by rfl, _, rfl, ?_⟩
        rw [eqv_nil]
        refine ite2 (fun hc => ?_) (fun hc => ?_)
        · have hf : mayB fss fc = false := by
            unfold mayB
            rw [List.all_eq_false]
            exact ⟨g, List.mem_of_getElem? hg, by rw [hc]; simp⟩
          have := q _ (x5.trans (e6.trans (p7.ext.trans e9)))
          rw [hf] at this
          exact this
        · refine ⟨e5.trans (e6.trans (p7.ext.trans e9)), ?_, _, _, rfl⟩
          rw [List.take_add_one, hg, List.all_append, ha, Bool.true_and]
          simp only [Option.toList_some, List.all_cons, List.all_nil, Bool.and_true]
          cases he : ((besideL fss fc).filter fun one => decide ((comL (comL fc g) one).length = (comL fc g).length)).isEmpty with
          | true => exact absurd he hc
          | false => rfl
    · obtain ⟨e5, ha, y4, y5, rfl⟩ := p
      rw [hxl, List.take_length] at ha
      have := q _ (x3.trans e5)
      unfold mayB at this
      rw [ha] at this
      exact this
/-! ### _law_grown -/
theorem permA {gf lf rest : List (List Int)} {o : Nat} {g : List Int} (h : lf[o]? = some g) : ((gf ++ [g]) ++ lf.eraseIdx o ++ rest).Perm (gf ++ lf ++ rest) := by
  refine List.Perm.append_right rest ?_
  rw [List.append_assoc]
  exact List.Perm.append_left gf (perm_erase h)
theorem permB {gf lf rest : List (List Int)} {o : Nat} {g : List Int} (h : lf[o]? = some g) : (gf ++ lf.eraseIdx o ++ (g :: rest)).Perm (gf ++ lf ++ rest) := by
  rw [List.append_assoc, List.append_assoc]
  refine List.Perm.append_left gf ?_
  exact List.perm_middle.trans (List.Perm.append_right rest (perm_erase h))
def OrdG (gf : List (List Int)) : Prop := ∀ i, 0 < i → ∀ g, gf[i]? = some g → mayB (gf.take i) g = true
theorem OrdG.snoc {gf : List (List Int)} {g : List Int} (h : OrdG gf) (hg : mayB gf g = true) : OrdG (gf ++ [g]) := by
  intro i hi g' hg'
  by_cases hl : i < gf.length
  · rw [List.getElem?_append_left hl] at hg'
    rw [List.take_append_of_le_length (by omega)]
    exact h i hi g' hg'
  · rw [List.getElem?_append_right (by omega)] at hg'
    have e : i - gf.length = 0 := by
      cases hh : i - gf.length with
      | zero => rfl
      | succ j => rw [hh] at hg'; simp at hg'
    rw [e] at hg'
    cases hg'
    rw [show i = gf.length by omega, List.take_append_of_le_length (Nat.le_refl _), List.take_length]
    exact hg
def spGrown (K : PySem.W.Frag) (Ps : Tbs) : Sp := fun vs H Q _ => ∃ (a : Addr) (n kk m : Nat), vs = [.ref a, .int n, .int kk, .int m] ∧ Pen H a ∧ n ≤ 8 ∧ kk ≤ n ∧ kk ≤ 4 ∧ 1 ≤ m ∧ m ≤ 90 ∧ Tb Ps H ∧ ∀ (l : Addr) (ys : List V) (df : List (List Int)) (H' : Hp), Epn Ps a H H' → H l = none → H' l = some (.lst ys) → Paired (TupI K H') ys df → df.Nodup → (∀ g ∈ df, g ∈ everyL n kk) → 1 ≤ df.length → df.length ≤ m → (∀ i, 0 < i → ∀ g, df[i]? = some g → mayB (df.take i) g = true) → Q (.ref l) H'
theorem ok_grown {fD cD fE cE fM cM : Addr} {fdD fdE fdM : FuncData} (D : Def K mg "_law_grown" sGrown ["_law_pen_here", "_law_n", "_law_k", "_law_most"] f fd c) (DD : Def K mg "_law_draw" sDraw ["_law_pen_here", "_law_many"] fD fdD cD) (GD : FnOk P w K mg base CX0 k fD fdD ["_law_pen_here", "_law_many"] spDraw)
    (DE : Def K mg "_law_every" sEveryL ["_law_n", "_law_k"] fE fdE cE) (GE : FnOk P w K mg base CX0 k fE fdE ["_law_n", "_law_k"] (spEveryK K Ps)) (DM : Def K mg "_law_may" sMayN ["_law_laid", "_law_face"] fM fdM cM) (GM : FnOk P w K mg base CX0 k fM fdM ["_law_laid", "_law_face"] (spMayB K Ps)) (mr : mg "range" = none) (ml : mg "len" = none) : FnOk P w K mg base CX0 (k + 1) f fd ["_law_pen_here", "_law_n", "_law_k", "_law_most"] (spGrown K Ps) := by
  refine D.ok (k := k) scGrown (fun vs H Q E h => ?_) (fun A outer s H vs Q E hr h => ?_)
  · obtain ⟨a, n, kk, m, rfl, _⟩ := h
    rfl
  · obtain ⟨a, n, kk, m, rfl, hP, n8, hkn, hk4, m1, m90, ht, q⟩ := h
    refine ⟨_, (pss_cons (ps_set (i := 4) scGrown.nd rfl (.inl rfl) (pcl DE GE hr (pa_cons (pv 1) (pa_cons (pv 2) pa_nil)))) (pss_cons (ps_set (i := 5) scGrown.nd rfl (.inl rfl) (pe_op op_add pe_int (pcl DD GD hr (pa_cons (pv 0) (pa_cons (pv 3) pa_nil))))) (pss_cons (ps_set (i := 6) scGrown.nd rfl (.inl rfl) (pe_lst (pa_cons (show PE _ _ (tBM K "list" rPopAt _ _) from pe_bm PySem.F.plainAttrs_list PySem.F.slot_list_pop PySem.F.type_list_pop mt_popAt (pv 4) (pa_cons (pcl DD GD hr (pa_cons (pv 0) (pa_cons (pe_callB (call_lenS (K := K) rfl) (by rfl) ml PySem.boot_len (pa_cons (pv 4) pa_nil)) pa_nil))) pa_nil)) pa_nil))) (pss_cons (ps_for PassesOwn.never rfl (pi_range1 (by rfl) mr (pa_cons (pe_op op_mul pe_int (pv 3)) pa_nil)) (pg_name (i := 7) scGrown.nd rfl (.inl rfl)) (pss_one (ps_if (PW.pt (pw_and (pt_cmpR (show OpR _ _ (rNeD K) from op_neD hr.units) (pv 4) (pe_lst pa_nil) (nomark _)) (pw_and1 (pt_cmpR op_lt (pe_callB (call_lenS (K := K) rfl) (by rfl) ml PySem.boot_len (pa_cons (pv 6) pa_nil)) (pv 5) (nomark _))))) (pss_cons (ps_set (i := 8) scGrown.nd rfl (.inl rfl) (show PE _ _ (tBM K "list" rPopAt _ _) from pe_bm PySem.F.plainAttrs_list PySem.F.slot_list_pop PySem.F.type_list_pop mt_popAt (pv 4) (pa_cons (pcl DD GD hr (pa_cons (pv 0) (pa_cons (pe_callB (call_lenS (K := K) rfl) (by rfl) ml PySem.boot_len (pa_cons (pv 4) pa_nil)) pa_nil))) pa_nil))) (pss_one (ps_if (pt_val (pcl DM GM hr (pa_cons (pv 6) (pa_cons (pv 8) pa_nil)))) (pss_one (ps_expr (pe_bm PySem.F.plainAttrs_list PySem.F.slot_list_append PySem.F.type_list_append mt_append (pv 6) (pa_cons (pv 8) pa_nil)))) pss_nil))) pss_nil))) (pss_one (ps_ret (pv 6))))))), ?_⟩
    refine ⟨.int n, rfl, .int kk, rfl, n, kk, rfl, n8, by omega, ht, fun L ls H1 e1 nL hL hls => ?_⟩
    have lenL := Paired.length hls
    have l256 := everyL_len (k := kk) n8
    have lpos := every_pos n8 hk4 hkn
    have E1 := e1.epn hP
    have nLa : L ≠ a := by
      obtain ⟨u, v, e⟩ := hP
      exact (ne_of_none e nL).symm
    refine ⟨.ref a, rfl, .int m, rfl, a, m, rfl, E1.pen, by omega, by omega, fun u1 f1 r1 r10 r11 => ⟨1, r1, rfl, rfl, ?_⟩⟩
    have e2 : Epn Ps a H1 (upd H1 a (.lst [.int u1, .int f1])) := Epn.draw E1.tb E1.pen
    have E2 := E1.trans e2
    have hL2 := e2.lst nLa hL
    have hls2 := e2.tups hls
    generalize upd H1 a (.lst [.int u1, .int f1]) = H2 at *
    obtain ⟨j, rfl⟩ := Int.eq_ofNat_of_zero_le r10
    -- the first
    refine ⟨.ref L, rfl, .inl ⟨rfl, _, .inl (.inl hL2)⟩, .ref a, rfl, .ref L, rfl, L, ls, rfl, .inl (.inl (.inl hL2)), a, _, rfl, E2.pen, by omega, by omega, fun u2 f2 r2 r20 r21 => ?_⟩
    have e3 : Epn Ps a H2 (upd H2 a (.lst [.int u2, .int f2])) := Epn.draw E2.tb E2.pen
    have E3 := E2.trans e3
    have hL3 := e3.lst nLa hL2
    have hls3 := e3.tups hls2
    generalize upd H2 a (.lst [.int u2, .int f2]) = H3 at *
    obtain ⟨o, rfl⟩ := Int.eq_ofNat_of_zero_le r20
    have ho : o < ls.length := by omega
    obtain ⟨y, hy⟩ : ∃ y, ls[o]? = some y := ⟨_, List.getElem?_eq_getElem ho⟩
    obtain ⟨g, hg, hI⟩ := paired_get hls3 hy
    refine ⟨L, ls, (o : Int), o, y, rfl, rfl, hL3, by omega, by omega, seqIx ho, hy, (by show 1 ≤ sizeLine; decide), fun G nG => ?_⟩
    have E4 := E3.write (o' := .lst (ls.eraseIdx o)) nL hL3 (fun q z => by cases z)
    have hL4 : upd H3 L (.lst (ls.eraseIdx o)) L = some (.lst (ls.eraseIdx o)) := upd_same
    have hls4 := tups_put (l' := ls.eraseIdx o) hL3 (paired_erase o hls3)
    have hI4 := tups_put (l' := ls.eraseIdx o) hL3 (.cons hI .nil : Paired (TupI K H3) [y] [g])
    generalize upd H3 L (.lst (ls.eraseIdx o)) = H4 at *
    have x5 := Ext.new (o := .lst [y]) E4.tb nG
    have nGH := E4.free nG
    have nGa : G ≠ a := by
      obtain ⟨u, v, e⟩ := hP
      exact (ne_of_none e nGH).symm
    have nGL : L ≠ G := ne_of_none hL4 nG
    refine ⟨.int m, rfl, 3, m, rfl, rfl, .inl ⟨by decide, by decide⟩, 3 * (m : Int), rfl, by omega, by omega, for_range (lo := 0) (n := (3 * (m : Int)).toNat) (fun i σ H5 => Epn Ps a H H5 ∧ ∃ (ls gs : List V) (lf gf rest : List (List Int)) (y7 y8 : Option V), H5 L = some (.lst ls) ∧ H5 G = some (.lst gs) ∧ Paired (TupI K H5) ls lf ∧ Paired (TupI K H5) gs gf ∧ (gf ++ lf ++ rest).Perm (everyL n kk) ∧ 1 ≤ gf.length ∧ gf.length ≤ 1 + j ∧ OrdG gf ∧ σ = [some (.ref a), some (.int n), some (.int kk), some (.int m), some (.ref L), some (.int (1 + (j : Int))), some (.ref G), y7, y8]) ?_ (fun i σ H5 hi p => ?_) (fun σ H5 p => ?_)⟩
    · refine ⟨E4.trans (x5.epn E4.pen), ls.eraseIdx o, [y], (everyL n kk).eraseIdx o, [g], [], none, none, x5.lst hL4, upd_same, x5.tups hls4, x5.tups hI4, ?_, by simp, by simp, ?_, rfl⟩
      · rw [List.append_nil]
        exact perm_erase hg
      · intro i hi g' hg'
        cases i with
        | zero => omega
        | succ i => simp at hg'
    · obtain ⟨E5, ls5, gs5, lf5, gf5, rest, y7, y8, hL5, hG5, hp5, hq5, hperm, hg1, hgj, hord, rfl⟩ := p
      have hll := hperm.length_eq
      rw [List.length_append, List.length_append] at hll
      have hl5 := Paired.length hp5
      have hd5 := Paired.length hq5
      refine ⟨.ref L, rfl, Nat.zero_le _, fun e0 ne0 => ?_⟩
      have x6 := Ext.new (o := .lst []) E5.tb ne0
      have E6 := E5.trans (x6.epn E5.pen)
      have hL6 := x6.lst hL5
      have hG6 := x6.lst hG5
      have hp6 := x6.tups hp5
      have hq6 := x6.tups hq5
      have hz6 : upd H5 e0 (.lst []) e0 = some (.lst []) := upd_same
      generalize upd H5 e0 (.lst []) = H6 at *
      refine ⟨.list (lf5.map tD), .list [], .lst (.inl (.inl hL6)) (dp_tups hp6), .lst (xs := []) (.inl (.inl hz6)) .nil, shp_tups _, by rfl, _, rfl, ?_⟩
      rw [eqv_nil]
      have keep : Epn Ps a H H6 ∧ ∃ (ls gs : List V) (lf gf rest : List (List Int)) (y7' y8' : Option V), H6 L = some (.lst ls) ∧ H6 G = some (.lst gs) ∧ Paired (TupI K H6) ls lf ∧ Paired (TupI K H6) gs gf ∧ (gf ++ lf ++ rest).Perm (everyL n kk) ∧ 1 ≤ gf.length ∧ gf.length ≤ 1 + j ∧ OrdG gf ∧ [some (.ref a), some (.int n), some (.int kk), some (.int m), some (.ref L), some (.int (1 + (j : Int))), some (.ref G), some (.int (0 + (i : Nat))), y8] = [some (.ref a), some (.int n), some (.int kk), some (.int m), some (.ref L), some (.int (1 + (j : Int))), some (.ref G), y7', y8'] := ⟨E6, ls5, gs5, lf5, gf5, rest, _, _, hL6, hG6, hp6, hq6, hperm, hg1, hgj, hord, rfl⟩
      refine ite2 (fun hc => ?_) (fun hc => keep)
      refine ⟨.ref G, rfl, G, gs5, rfl, .inl (.inl (.inl hG6)), .int (1 + (j : Int)), rfl, _, _, rfl, rfl, _, rfl, ite2 (fun hc2 => ?_) (fun hc2 => keep)⟩
      have hlt : (gs5.length : Int) < 1 + (j : Int) := of_decide_eq_true hc2
      have hne : 0 < lf5.length := by
        cases lf5 with
        | nil => simp at hc
        | cons u v => simp
      refine ⟨.ref L, rfl, .inl ⟨rfl, _, .inl (.inl hL6)⟩, .ref a, rfl, .ref L, rfl, L, ls5, rfl, .inl (.inl (.inl hL6)), a, _, rfl, E6.pen, by omega, by omega, fun u3 f3 r3 r30 r31 => ?_⟩
      have e7 : Epn Ps a H6 (upd H6 a (.lst [.int u3, .int f3])) := Epn.draw E6.tb E6.pen
      have E7 := E6.trans e7
      have hL7 := e7.lst nLa hL6
      have hG7 := e7.lst nGa hG6
      have hp7 := e7.tups hp6
      have hq7 := e7.tups hq6
      generalize upd H6 a (.lst [.int u3, .int f3]) = H7 at *
      obtain ⟨o2, rfl⟩ := Int.eq_ofNat_of_zero_le r30
      have ho2 : o2 < ls5.length := by omega
      obtain ⟨y2, hy2⟩ : ∃ y, ls5[o2]? = some y := ⟨_, List.getElem?_eq_getElem ho2⟩
      obtain ⟨g2, hg2, hI2⟩ := paired_get hp7 hy2
      refine ⟨L, ls5, (o2 : Int), o2, y2, rfl, rfl, hL7, by omega, by omega, seqIx ho2, hy2, ?_⟩
      have E8 := E7.write (o' := .lst (ls5.eraseIdx o2)) nL hL7 (fun q z => by cases z)
      have hL8 : upd H7 L (.lst (ls5.eraseIdx o2)) L = some (.lst (ls5.eraseIdx o2)) := upd_same
      have hG8 : upd H7 L (.lst (ls5.eraseIdx o2)) G = some (.lst gs5) := by
        rw [upd_ne (Ne.symm nGL)]
        exact hG7
      have hp8 := tups_put (l' := ls5.eraseIdx o2) hL7 (paired_erase o2 hp7)
      have hq8 := tups_put (l' := ls5.eraseIdx o2) hL7 hq7
      have hI8 := tups_put (l' := ls5.eraseIdx o2) hL7 (.cons hI2 .nil : Paired (TupI K H7) [y2] [g2])
      generalize upd H7 L (.lst (ls5.eraseIdx o2)) = H8 at *
      have hmem : g2 ∈ everyL n kk := hperm.mem_iff.mp (List.mem_append_left _ (List.mem_append_right _ (List.mem_of_getElem? hg2)))
      have hg2l := (mem_everyL.mp hmem).2
      have hI9 : TupI K H8 y2 g2 := by
        cases hI8 with
        | cons r t => exact r
      refine ⟨.ref G, rfl, y2, rfl, G, gs5, y2, gf5, g2, rfl, .inl (.inl hG8), hq8, hI9, by omega, by omega, E8.tb, fun H9 e9 => ⟨_, rfl, ?_⟩⟩
      have E9 := E8.trans (e9.epn E8.pen)
      have hL9 := e9.lst hL8
      have hG9 := e9.lst hG8
      refine ite2 (fun hm => ?_) (fun hm => ?_)
      · refine ⟨.ref G, rfl, .inl ⟨rfl, _, .inl (.inl hG9)⟩, y2, rfl, G, gs5, y2, rfl, rfl, hG9, Nat.lt_of_le_of_lt (show gs5.length ≤ 256 by omega) (small1000 (by decide)), ?_⟩
        refine ⟨E9.write nGH hG9 (fun q z => by cases z), ls5.eraseIdx o2, gs5 ++ [y2], lf5.eraseIdx o2, gf5 ++ [g2], rest, _, _, ?_, upd_same, tups_put hG9 (e9.tups hp8), tups_put hG9 (paired_app (e9.tups hq8) (e9.tups hI8)), (permA hg2).trans hperm, by rw [List.length_append]; simp, by rw [List.length_append]; simp; omega, hord.snoc hm, rfl⟩
        rw [upd_ne nGL]
        exact hL9
      · exact ⟨E9, ls5.eraseIdx o2, gs5, lf5.eraseIdx o2, gf5, g2 :: rest, _, _, hL9, hG9, e9.tups hp8, e9.tups hq8, (permB hg2).trans hperm, hg1, hgj, hord, rfl⟩
    · obtain ⟨E5, ls5, gs5, lf5, gf5, rest, y7, y8, hL5, hG5, hp5, hq5, hperm, hg1, hgj, hord, rfl⟩ := p
      have nd := hperm.nodup_iff.mpr (nodup_everyL n kk)
      rw [List.append_assoc] at nd
      exact ⟨.ref G, rfl, q G gs5 gf5 _ E5 nGH hG5 hq5 (List.nodup_append.mp nd).1 (fun g hg => hperm.mem_iff.mp (List.mem_append_left _ (List.mem_append_left _ hg))) hg1 (by omega) hord⟩
end
end Lf

set_option maxHeartbeats 4000000
namespace Lf
open PySem PySem.Spec PyProof.Rows L2 GxR GxA SrT
abbrev sKindly : Stmt := topS 64
abbrev sStackN : Stmt := topS 65
theorem scKindly : FnScope ["_law_pen_here", "_law_most", "_law_way", "_law_more", "_law_n", "_law_k", "_law_ties", "_law_point"] ["_law_pen_here", "_law_most"] (defScope sKindly) := ⟨rfl, rfl, rfl, by decide +kernel, rfl, by decide +kernel, by decide +kernel⟩
theorem scStackN : FnScope ["_law_pen_here", "_law_most", "_law_way", "_law_n", "_law_k"] ["_law_pen_here", "_law_most"] (defScope sStackN) := ⟨rfl, rfl, rfl, by decide +kernel, rfl, by decide +kernel, by decide +kernel⟩
theorem cut_to (xs : List V) (m : Nat) : cutV xs none (some (m : Int)) = xs.take m := by
  unfold cutV
  rw [HT.sIx_nat, HT.sIx_none, List.drop_zero, Nat.sub_zero]
  by_cases h : m ≤ xs.length
  · rw [Nat.min_eq_left h]
  · rw [Nat.min_eq_right (by omega), List.take_length, List.take_of_length_le (by omega)]
theorem paired_cut {γ : Type} {G : V → γ → Prop} {xs : List V} {ys : List γ} (h : Paired G xs ys) (m : Nat) : Paired G (cutV xs none (some (m : Int))) (ys.take m) := by
  rw [cut_to]
  exact paired_take h m
/-- faces of k of n points, each once -/
structure FacesB (n k : Nat) (df : List (List Int)) : Prop where
  nd : df.Nodup
  ris : ∀ g ∈ df, RisB n g ∧ g.length = k
theorem ris_rng {n : Nat} {g : List Int} (h : g.Sublist (rng n)) : RisB n g := by
  refine ⟨List.Pairwise.sublist h ?_, fun i hi => mem_rng (h.subset hi)⟩
  unfold rng
  rw [List.pairwise_map]
  exact List.pairwise_lt_range.imp fun h => by omega
theorem FacesB.every {n k : Nat} {df : List (List Int)} (nd : df.Nodup) (h : ∀ g ∈ df, g ∈ everyL n k) : FacesB n k df := ⟨nd, fun g hg => let z := mem_everyL.mp (h g hg); ⟨ris_rng z.1, z.2⟩⟩
theorem FacesB.take {n k : Nat} {df : List (List Int)} (F : FacesB n k df) (m : Nat) : FacesB n k (df.take m) := ⟨F.nd.sublist (List.take_sublist _ _), fun g hg => F.ris g (List.mem_of_mem_take hg)⟩
theorem FacesB.sort {n k : Nat} {df : List (List Int)} (F : FacesB n k df) : FacesB n k (sortL df) := ⟨(sortL_perm _).nodup_iff.mpr F.nd, fun g hg => F.ris g ((sortL_perm _).mem_iff.mp hg)⟩
theorem FacesB.stk {n k : Nat} {df : List (List Int)} (F : FacesB n k df) (n1 : 1 ≤ n) (n8 : n ≤ 8) (hkn : k ≤ n) (hk4 : k ≤ 4) (l1 : 1 ≤ df.length) (l70 : df.length ≤ 70) : StkOk n k (sortL df) := by
  have G := F.sort
  refine ⟨by omega, by omega, by omega, by omega, by omega, by rw [(sortL_perm _).length_eq]; exact l1, by rw [(sortL_perm _).length_eq]; exact l70, fun f hf => by rw [(G.ris f hf).2], fun f hf => (G.ris f hf).1.1, fun f hf i hi => (G.ris f hf).1.2 i hi, le_strict (sortL_pw _) G.nd⟩
theorem pairs_sub : ∀ d, d < 5 → (∀ g ∈ pairsQ d, g.Sublist (rng (2 * d)) ∧ g.length = d) ∧ (pairsQ d).Nodup := by decide +kernel
theorem ring_sub : ∀ m, m < 8 → 2 ≤ m → (∀ g ∈ stepsL m ++ [[0, (m : Int)]], g.Sublist (rng (m + 1)) ∧ g.length = 2) ∧ (stepsL m ++ [[0, (m : Int)]]).Nodup := by decide +kernel
theorem facesB_pairs {d : Nat} (h : d ≤ 4) : FacesB (2 * d) d (sortL (pairsQ d)) := FacesB.sort ⟨(pairs_sub d (by omega)).2, fun g hg => let z := (pairs_sub d (by omega)).1 g hg; ⟨ris_rng z.1, z.2⟩⟩
theorem facesB_ring {m : Nat} (h : m ≤ 7) (h2 : 2 ≤ m) : FacesB (m + 1) 2 (stepsL m ++ [[0, (m : Int)]]) := ⟨(ring_sub m (by omega) h2).2, fun g hg => let z := (ring_sub m (by omega) h2).1 g hg; ⟨ris_rng z.1, z.2⟩⟩
theorem facesB_steps {m : Nat} (h : m ≤ 7) (h2 : 2 ≤ m) : FacesB (m + 1) 2 (stepsL m) := by
  have F := facesB_ring h h2
  exact ⟨(List.nodup_append.mp F.nd).1, fun g hg => F.ris g (List.mem_append_left _ hg)⟩
section
variable {P : Program} {w : World} {K : PySem.W.Frag} {mg : Str → Option Value} {base : Heap} {Ps : Tbs} {H H' H0 : Hp} {k : Nat} {f c : Addr} {fd : FuncData}
/-! ### _law_kindly -/
def spStackN (K : PySem.W.Frag) (Ps : Tbs) : Sp := fun vs H Q _ => ∃ (a : Addr) (m : Nat), vs = [.ref a, .int m] ∧ Pen H a ∧ 1 ≤ m ∧ m ≤ 70 ∧ Tb Ps H ∧ ∀ (v : V) (n kk : Int) (fss : List (List Int)) (H' : Hp), Epn Ps a H H' → Stk K H' v n kk fss → StkOk n kk fss → fss.length ≤ m → Q v H'
theorem ok_kindly {fD cD fE cE fP cP fM cM : Addr} {fdD fdE fdP fdM : FuncData} (D : Def K mg "_law_kindly" sKindly ["_law_pen_here", "_law_most"] f fd c) (DD : Def K mg "_law_draw" sDraw ["_law_pen_here", "_law_many"] fD fdD cD) (GD : FnOk P w K mg base CX0 k fD fdD ["_law_pen_here", "_law_many"] spDraw)
    (DE : Def K mg "_law_every" sEveryL ["_law_n", "_law_k"] fE fdE cE) (GE : FnOk P w K mg base CX0 k fE fdE ["_law_n", "_law_k"] (spEveryK K Ps)) (DP : Def K mg "_law_pairs" sPairsL ["_law_d"] fP fdP cP) (GP : FnOk P w K mg base CX0 k fP fdP ["_law_d"] (spPairsL K Ps))
    (DM : Def K mg "_law_made" sMade ["_law_n", "_law_k", "_law_faces"] fM fdM cM) (GM : FnOk P w K mg base CX0 k fM fdM ["_law_n", "_law_k", "_law_faces"] (spMade K Ps)) (mr : mg "range" = none) (ms : mg "sorted" = none) : FnOk P w K mg base CX0 (k + 1) f fd ["_law_pen_here", "_law_most"] (spStackN K Ps) := by
  refine D.ok (k := k) scKindly (fun vs H Q E h => ?_) (fun A outer s H vs Q E hr h => ?_)
  · obtain ⟨a, m, rfl, _⟩ := h
    rfl
  · obtain ⟨a, m, rfl, hP, m1, m70, ht, q⟩ := h
    refine ⟨_, (pss_cons (ps_par (i := 2) (j := 3) (by rfl) scKindly.nd rfl rfl (by decide) rfl rfl (pa_cons (pcl DD GD hr (pa_cons (pv 0) (pa_cons pe_int pa_nil))) (pa_cons (pcl DD GD hr (pa_cons (pv 0) (pa_cons pe_int pa_nil))) pa_nil)) (by rfl)) (pss_cons (ps_if (pt_cmpR op_eq (pv 2) pe_int (nomark _)) (pss_cons (ps_asg (pe_ix ix_list (pe_lst (pa_cons (pe_tup (pa_cons pe_int (pa_cons pe_int pa_nil))) (pa_cons (pe_tup (pa_cons pe_int (pa_cons pe_int pa_nil))) (pa_cons (pe_tup (pa_cons pe_int (pa_cons pe_int pa_nil))) (pa_cons (pe_tup (pa_cons pe_int (pa_cons pe_int pa_nil))) (pa_cons (pe_tup (pa_cons pe_int (pa_cons pe_int pa_nil))) (pa_cons (pe_tup (pa_cons pe_int (pa_cons pe_int pa_nil))) pa_nil))))))) (pv 3) (fun _ _ => rfl)) (pg_tup (by rfl) (pgs_cons (pg_name (i := 4) scKindly.nd rfl (.inl rfl)) (pgs_cons (pg_name (i := 5) scKindly.nd rfl (.inl rfl)) pgs_nil)))) (pss_one (ps_ret (pcl DM GM hr (pa_cons (pv 4) (pa_cons (pv 5) (pa_cons (pe_slice sl_list (pcl DE GE hr (pa_cons (pv 4) (pa_cons (pv 5) pa_nil))) po_none (po_some (pv 1))) pa_nil))))))) pss_nil) (pss_cons (ps_if (pt_cmpR op_eq (pv 2) pe_int (nomark _)) (pss_one (ps_ret (pcl DM GM hr (pa_cons (pe_op op_add pe_int (pe_op op_mul pe_int (pe_op op_mod (pv 3) pe_int))) (pa_cons (pe_op op_add pe_int (pe_op op_mod (pv 3) pe_int)) (pa_cons (pe_slice sl_list (pcl DP GP hr (pa_cons (pe_op op_add pe_int (pe_op op_mod (pv 3) pe_int)) pa_nil)) po_none (po_some (pv 1))) pa_nil)))))) pss_nil) (pss_cons (ps_setLc (i := 6) (own := [("_law_point", 7)]) (g := gName 7) (by rfl) scKindly.nd rfl rfl (by rfl) (pi_range1 (by rfl) mr (pa_cons (pe_op op_add pe_int (pv 3)) pa_nil)) (blkOk_by (N := ["_law_pen_here", "_law_most", "_law_way", "_law_more", "_law_n", "_law_k", "_law_ties", "_law_point"]) (sc := defScope sKindly) (by decide +kernel)) (fun _ _ _ _ _ => pg_name (i := 7) scKindly.nd rfl (Or.inl rfl)) (fun _ _ _ _ _ => pts_nil) (fun _ _ _ _ _ => (pe_tup (pa_cons (pv 7) (pa_cons (pe_op op_add (pv 7) pe_int) pa_nil))))) (pss_cons (ps_if (pt_cmpR op_eq (pv 2) pe_int (nomark _)) (pss_one (ps_set (i := 6) scKindly.nd rfl (.inl rfl) (pe_callB (cr_sortL hr.units) (by rfl) ms (by decide +kernel) (pa_cons (pe_op op_cat (pv 6) (pe_lst (pa_cons (pe_tup (pa_cons pe_int (pa_cons (pe_op op_add pe_int (pv 3)) pa_nil))) pa_nil))) pa_nil)))) pss_nil) (pss_one (ps_ret (pcl DM GM hr (pa_cons (pe_op op_add pe_int (pv 3)) (pa_cons pe_int (pa_cons (pe_slice sl_list (pv 6) po_none (po_some (pv 1))) pa_nil))))))))))), ?_⟩
    refine tseq_intro fun R hR => ?_
    refine ⟨.ref a, rfl, a, 4, rfl, hP, by decide, by decide, fun u1 f1 wy0 w0 w1 => ?_⟩
    have e1 : Epn Ps a H (upd H a (.lst [.int u1, .int f1])) := Epn.draw ht hP
    generalize upd H a (.lst [.int u1, .int f1]) = H1 at *
    refine ⟨.ref a, rfl, a, 6, rfl, e1.pen, by decide, by decide, fun u2 f2 mo0 mo00 mo1 => ?_⟩
    have e2 : Epn Ps a H (upd H1 a (.lst [.int u2, .int f2])) := e1.trans (Epn.draw e1.tb e1.pen)
    generalize upd H1 a (.lst [.int u2, .int f2]) = H2 at *
    refine ⟨.int wy0, .int mo0, rfl, ?_⟩
    obtain ⟨wy, rfl⟩ := Int.eq_ofNat_of_zero_le w0
    obtain ⟨mo, rfl⟩ := Int.eq_ofNat_of_zero_le mo00
    have hmo : mo < 6 := by omega
    show R [some (.ref a), some (.int m), some (.int wy), some (.int mo), none, none, none, none] H2
    rw [hR]
    clear hR
    refine tseq_intro fun R hR => ?_
    by_cases w0' : wy = 0
    · clear hR
      subst w0'
      refine ⟨.int (0 : Nat), rfl, rfl, true, by simp, iteT ?_⟩
      refine ⟨(by show 2 ≤ sizeLine; decide), fun t0 m0 => ?_⟩
      have w0 := Ext.new (o := .tup [.int 4, .int 2]) e2.tb m0
      have g0 : SqT K (upd H2 t0 (.tup [.int 4, .int 2])) t0 [.int 4, .int 2] := .inl (.inl upd_same)
      generalize upd H2 t0 (.tup [.int 4, .int 2]) = X0 at *
      refine ⟨(by show 2 ≤ sizeLine; decide), fun t1 m1 => ?_⟩
      have w1 := Ext.new (o := .tup [.int 4, .int 3]) w0.tb m1
      have g1 : SqT K (upd X0 t1 (.tup [.int 4, .int 3])) t1 [.int 4, .int 3] := .inl (.inl upd_same)
      generalize upd X0 t1 (.tup [.int 4, .int 3]) = X1 at *
      refine ⟨(by show 2 ≤ sizeLine; decide), fun t2 m2 => ?_⟩
      have w2 := Ext.new (o := .tup [.int 5, .int 2]) w1.tb m2
      have g2 : SqT K (upd X1 t2 (.tup [.int 5, .int 2])) t2 [.int 5, .int 2] := .inl (.inl upd_same)
      generalize upd X1 t2 (.tup [.int 5, .int 2]) = X2 at *
      refine ⟨(by show 2 ≤ sizeLine; decide), fun t3 m3 => ?_⟩
      have w3 := Ext.new (o := .tup [.int 5, .int 4]) w2.tb m3
      have g3 : SqT K (upd X2 t3 (.tup [.int 5, .int 4])) t3 [.int 5, .int 4] := .inl (.inl upd_same)
      generalize upd X2 t3 (.tup [.int 5, .int 4]) = X3 at *
      refine ⟨(by show 2 ≤ sizeLine; decide), fun t4 m4 => ?_⟩
      have w4 := Ext.new (o := .tup [.int 5, .int 3]) w3.tb m4
      have g4 : SqT K (upd X3 t4 (.tup [.int 5, .int 3])) t4 [.int 5, .int 3] := .inl (.inl upd_same)
      generalize upd X3 t4 (.tup [.int 5, .int 3]) = X4 at *
      refine ⟨(by show 2 ≤ sizeLine; decide), fun t5 m5 => ?_⟩
      have w5 := Ext.new (o := .tup [.int 3, .int 2]) w4.tb m5
      have g5 : SqT K (upd X4 t5 (.tup [.int 3, .int 2])) t5 [.int 3, .int 2] := .inl (.inl upd_same)
      generalize upd X4 t5 (.tup [.int 3, .int 2]) = X5 at *
      refine ⟨(by show 6 ≤ sizeLine; decide), fun L6 nL6 => ?_⟩
      have w6 := Ext.new (o := .lst [.ref t0, .ref t1, .ref t2, .ref t3, .ref t4, .ref t5]) w5.tb nL6
      have hL6 : upd X5 L6 (.lst [.ref t0, .ref t1, .ref t2, .ref t3, .ref t4, .ref t5]) L6 = some (.lst [.ref t0, .ref t1, .ref t2, .ref t3, .ref t4, .ref t5]) := upd_same
      have k0 := (w1.trans (w2.trans (w3.trans (w4.trans (w5.trans w6))))).sqT g0
      have k1 := (w2.trans (w3.trans (w4.trans (w5.trans w6)))).sqT g1
      have k2 := (w3.trans (w4.trans (w5.trans w6))).sqT g2
      have k3 := (w4.trans (w5.trans w6)).sqT g3
      have k4 := (w5.trans w6).sqT g4
      have k5 := w6.sqT g5
      have W6 := w0.trans (w1.trans (w2.trans (w3.trans (w4.trans (w5.trans w6)))))
      generalize upd X5 L6 (.lst [.ref t0, .ref t1, .ref t2, .ref t3, .ref t4, .ref t5]) = X6 at *
      obtain ⟨t, n, kk, hat, hT, n1, n8, hkn, hk4⟩ : ∃ (t : Addr) (n kk : Nat), ([.ref t0, .ref t1, .ref t2, .ref t3, .ref t4, .ref t5] : List V)[mo]? = some (.ref t) ∧ SqT K X6 t [.int n, .int kk] ∧ 1 ≤ n ∧ n ≤ 8 ∧ kk ≤ n ∧ kk ≤ 4 := by
        match mo, hmo with
        | 0, _ => exact ⟨t0, 4, 2, rfl, k0, by decide, by decide, by decide, by decide⟩
        | 1, _ => exact ⟨t1, 4, 3, rfl, k1, by decide, by decide, by decide, by decide⟩
        | 2, _ => exact ⟨t2, 5, 2, rfl, k2, by decide, by decide, by decide, by decide⟩
        | 3, _ => exact ⟨t3, 5, 4, rfl, k3, by decide, by decide, by decide, by decide⟩
        | 4, _ => exact ⟨t4, 5, 3, rfl, k4, by decide, by decide, by decide, by decide⟩
        | 5, _ => exact ⟨t5, 3, 2, rfl, k5, by decide, by decide, by decide, by decide⟩

      refine ⟨.int mo, rfl, L6, _, (mo : Int), .ref t, rfl, rfl, .inl (.inl hL6), atI_nat hat, t, _, rfl, hT, rfl, _, _, rfl, _, _, rfl, rfl, ?_⟩
      have P6 := e2.trans (W6.epn e2.pen)
      refine ⟨.int n, rfl, .int kk, rfl, .int n, rfl, .int kk, rfl, n, kk, rfl, n8, by omega, P6.tb, fun l ys H3 e3 nl hl hp => ?_⟩
      refine ⟨.int m, rfl, m, rfl, l, ys, rfl, .inl (.inl hl), fun p np => ?_⟩
      have x4 := Ext.new (o := .lst (cutV ys none (some (m : Int)))) e3.tb np
      have F := (FacesB.every (nodup_everyL n kk) (fun g hg => hg)).take m
      have lpos := every_pos n8 hk4 hkn
      refine ⟨n, kk, p, cutV ys none (some (m : Int)), (everyL n kk).take m, rfl, .inl (.inl upd_same), paired_cut (x4.tups hp) m, x4.tb, fun v H5 e5 hv => ?_⟩
      have hlt : ((everyL n kk).take m).length ≤ m := by rw [List.length_take]; omega
      exact q v n kk _ _ (P6.trans ((e3.trans (x4.trans e5)).epn P6.pen)) hv (F.stk n1 n8 hkn hk4 (by rw [List.length_take]; omega) (by omega)) (by rw [(sortL_perm _).length_eq]; exact hlt)
    refine ⟨.int wy, rfl, rfl, false, ?_, iteF ?_⟩
    · congr 1
      exact decide_eq_false fun z => w0' (by injection z with z; omega)
    show R [some (.ref a), some (.int m), some (.int wy), some (.int mo), none, none, none, none] H2
    rw [hR]
    clear hR
    refine tseq_intro fun R hR => ?_
    by_cases w1' : wy = 1
    · clear hR
      subst w1'
      refine ⟨.int (1 : Nat), rfl, rfl, true, by simp, iteT ?_⟩
      obtain ⟨d, hd⟩ : ∃ d : Nat, d = 1 + mo % 4 := ⟨_, rfl⟩
      have d4 : 1 ≤ d ∧ d ≤ 4 := by omega
      have ed : (1 : Int) + (mo : Int) % 4 = (d : Int) := by omega
      have en : (2 : Int) + 2 * ((mo : Int) % 4) = ((2 * d : Nat) : Int) := by omega
      refine ⟨.int mo, rfl, _, 4, rfl, rfl, (by show (0 : Int) < 4; decide), 2, _, rfl, rfl, .inl ⟨by decide, by decide⟩, 2, _, rfl, rfl, .int mo, rfl, _, 4, rfl, rfl, (by show (0 : Int) < 4; decide), 1, _, rfl, rfl, .int mo, rfl, _, 4, rfl, rfl, (by show (0 : Int) < 4; decide), 1, _, rfl, rfl, ?_⟩
      refine ⟨d, by rw [← ed]; rfl, d4.2, e2.tb, fun l ys H3 e3 nl hl hp => ?_⟩
      refine ⟨.int m, rfl, m, rfl, l, ys, rfl, .inl (.inl hl), fun p np => ?_⟩
      have x4 := Ext.new (o := .lst (cutV ys none (some (m : Int)))) e3.tb np
      have F := (facesB_pairs d4.2).take m
      have lp : (sortL (pairsQ d)).length = 2 ^ d := by rw [(sortL_perm _).length_eq]; exact (pairsQ_len d).1
      have lp1 : 1 ≤ 2 ^ d := Nat.one_le_two_pow
      refine ⟨((2 * d : Nat) : Int), d, p, cutV ys none (some (m : Int)), (sortL (pairsQ d)).take m, by rw [← ed, ← en]; rfl, .inl (.inl upd_same), paired_cut (x4.tups hp) m, x4.tb, fun v H5 e5 hv => ?_⟩
      have hlt : ((sortL (pairsQ d)).take m).length ≤ m := by rw [List.length_take]; omega
      exact q v _ _ _ _ (e2.trans ((e3.trans (x4.trans e5)).epn e2.pen)) hv (F.stk (by omega) (by omega) (by omega) d4.2 (by rw [List.length_take, lp]; omega) (by omega)) (by rw [(sortL_perm _).length_eq]; exact hlt)
    refine ⟨.int wy, rfl, rfl, false, ?_, iteF ?_⟩
    · congr 1
      exact decide_eq_false fun z => w1' (by injection z with z; omega)
    show R [some (.ref a), some (.int m), some (.int wy), some (.int mo), none, none, none, none] H2
    rw [hR]
    clear hR
    -- ties
    obtain ⟨b, hb⟩ : ∃ b : Nat, b = 2 + mo := ⟨_, rfl⟩
    have eb : (2 : Int) + (mo : Int) = (b : Int) := by omega
    refine tseq_intro fun R hR => ?_
    refine ⟨.int mo, rfl, 2, mo, rfl, rfl, 2 + (mo : Int), rfl, by omega, by omega, fun D0 hD => lc_range (lo := 0) (n := (2 + (mo : Int)).toNat) (fun j H4 => CP Ps (TupI K) H2 D0 (stepsL j) j H4) (CP.start e2.tb hD) (fun j H4 hj p => ?_) (fun H4 p => ?_)⟩
    · refine ⟨rfl, yes_ (iteT ⟨.int (0 + (j : Nat)), rfl, .int (0 + (j : Nat)), rfl, _, 1, rfl, rfl, (by show 2 ≤ sizeLine; decide), fun u hu => ?_⟩)⟩
      have x5 := Ext.new (o := .tup [.int (0 + (j : Nat)), .int (0 + (j : Nat) + 1)]) p.ext.tb hu
      have r := CP.put (stbT (K := K)) hD (by omega) (p.skip (stbT (K := K)) x5) (show TupI K _ (.ref u) [(j : Int), (j : Int) + 1] from ⟨u, rfl, .inl (.inl (by rw [upd_same]; simp))⟩)
      rw [stepsL_succ]
      exact r
    obtain ⟨zs, g1, g2, g3⟩ := p.at_
    rw [show (2 + (mo : Int)).toNat = b by omega] at g2
    have P4 := e2.trans (p.ext.epn e2.pen)
    have hzl : zs.length ≤ 8 := by
      rw [Paired.length g2]
      simp [stepsL]
      omega
    show R [some (.ref a), some (.int m), some (.int wy), some (.int mo), none, none, some (.ref D0), none] H4
    rw [hR]
    clear hR
    refine tseq_intro fun R hR => ?_
    have tail : ∀ (HX : Hp) (l : Addr) (ys : List V) (df : List (List Int)), Epn Ps a H HX → HX l = some (.lst ys) → Paired (TupI K HX) ys df → FacesB (b + 1) 2 df → 1 ≤ df.length → R [some (.ref a), some (.int m), some (.int wy), some (.int mo), none, none, some (.ref l), none] HX := by
      intro HX l ys df EX hl hp F l1
      rw [hR]
      refine ⟨.int mo, rfl, 3, mo, rfl, rfl, .ref l, rfl, .int m, rfl, m, rfl, l, ys, rfl, .inl (.inl hl), fun p np => ?_⟩
      have x4 := Ext.new (o := .lst (cutV ys none (some (m : Int)))) EX.tb np
      refine ⟨((b + 1 : Nat) : Int), ((2 : Nat) : Int), p, cutV ys none (some (m : Int)), df.take m, by rw [show ((b + 1 : Nat) : Int) = 3 + (mo : Int) by omega]; rfl, .inl (.inl upd_same), paired_cut (x4.tups hp) m, x4.tb, fun v H5 e5 hv => ?_⟩
      have hlt : (df.take m).length ≤ m := by rw [List.length_take]; omega
      exact q v _ _ _ _ (EX.trans ((x4.trans e5).epn EX.pen)) hv ((F.take m).stk (by omega) (by omega) (by omega) (by decide) (by rw [List.length_take]; omega) (by omega)) (by rw [(sortL_perm _).length_eq]; exact hlt)
    have slen : (stepsL b).length = b := by simp [stepsL]
    by_cases w2' : wy = 2
    · subst w2'
      refine ⟨.int (2 : Nat), rfl, rfl, true, by simp, iteT ?_⟩
      refine ⟨.ref D0, rfl, .int mo, rfl, 2, mo, rfl, rfl, (by show 2 ≤ sizeLine; decide), fun u nu => ?_⟩
      have x5 := Ext.new (o := .tup [.int 0, .int (2 + (mo : Int))]) P4.tb nu
      have hu : TupI K (upd H4 u (.tup [.int 0, .int (2 + (mo : Int))])) (.ref u) [0, (b : Int)] := ⟨u, rfl, .inl (.inl (by rw [upd_same, eb]; rfl))⟩
      generalize upd H4 u (.tup [.int 0, .int (2 + (mo : Int))]) = H5 at *
      refine ⟨(by show 1 ≤ sizeLine; decide), fun l1 nl1 => ?_⟩
      have x6 := Ext.new (o := .lst [.ref u]) x5.tb nl1
      refine ⟨D0, l1, _, _, rfl, rfl, (x5.trans x6).lst g1, upd_same, Nat.le_of_lt (small1000 (by show zs.length + 1 ≤ 1000; omega)), fun l2 nl2 => ?_⟩
      have x7 := Ext.new (o := .lst (zs ++ [.ref u])) x6.tb nl2
      have X7 := x5.trans (x6.trans x7)
      refine ⟨l2, _, stepsL b ++ [[0, (b : Int)]], rfl, .inl (.inl upd_same), paired_app (X7.tups g2) (.cons ((x6.trans x7).tupI hu) .nil), fun ws p hw _ np => ?_⟩
      have x8 := Ext.new (o := .lst ws) x7.tb np
      refine tail _ p ws _ (P4.trans ((X7.trans x8).epn P4.pen)) upd_same (x8.tups hw) (facesB_ring (by omega) (by omega)).sort ?_
      rw [(sortL_perm _).length_eq, List.length_append]
      simp
    · refine ⟨.int wy, rfl, rfl, false, ?_, iteF ?_⟩
      · congr 1
        exact decide_eq_false fun z => w2' (by injection z with z; omega)
      exact tail _ D0 zs _ P4 g1 g2 (facesB_steps (by omega) (by omega)) (by omega)
/-! ### _law_stack -/
theorem ok_stackN {fD cD fS cS fK cK fW cW fG cG fM cM : Addr} {fdD fdS fdK fdW fdG fdM : FuncData} (D : Def K mg "_law_stack" sStackN ["_law_pen_here", "_law_most"] f fd c) (DD : Def K mg "_law_draw" sDraw ["_law_pen_here", "_law_many"] fD fdD cD) (GD : FnOk P w K mg base CX0 k fD fdD ["_law_pen_here", "_law_many"] spDraw)
    (DS : Def K mg "_law_size" sSize ["_law_pen_here"] fS fdS cS) (GS : FnOk P w K mg base CX0 k fS fdS ["_law_pen_here"] (spSize K Ps)) (DK : Def K mg "_law_kindly" sKindly ["_law_pen_here", "_law_most"] fK fdK cK) (GK : FnOk P w K mg base CX0 k fK fdK ["_law_pen_here", "_law_most"] (spStackN K Ps))
    (DW : Def K mg "_law_drawn" sDrawn ["_law_pen_here", "_law_n", "_law_k", "_law_most"] fW fdW cW) (GW : FnOk P w K mg base CX0 k fW fdW ["_law_pen_here", "_law_n", "_law_k", "_law_most"] (spDrawn K Ps)) (DG : Def K mg "_law_grown" sGrown ["_law_pen_here", "_law_n", "_law_k", "_law_most"] fG fdG cG) (GG : FnOk P w K mg base CX0 k fG fdG ["_law_pen_here", "_law_n", "_law_k", "_law_most"] (spGrown K Ps))
    (DM : Def K mg "_law_made" sMade ["_law_n", "_law_k", "_law_faces"] fM fdM cM) (GM : FnOk P w K mg base CX0 k fM fdM ["_law_n", "_law_k", "_law_faces"] (spMade K Ps)) : FnOk P w K mg base CX0 (k + 1) f fd ["_law_pen_here", "_law_most"] (spStackN K Ps) := by
  refine D.ok (k := k) scStackN (fun vs H Q E h => ?_) (fun A outer s H vs Q E hr h => ?_)
  · obtain ⟨a, m, rfl, _⟩ := h
    rfl
  · obtain ⟨a, m, rfl, hP, m1, m70, ht, q⟩ := h
    refine ⟨_, (pss_cons (ps_set (i := 2) scStackN.nd rfl (.inl rfl) (pcl DD GD hr (pa_cons (pv 0) (pa_cons pe_int pa_nil)))) (pss_cons (ps_asg (pcl DS GS hr (pa_cons (pv 0) pa_nil)) (pg_tup (by rfl) (pgs_cons (pg_name (i := 3) scStackN.nd rfl (.inl rfl)) (pgs_cons (pg_name (i := 4) scStackN.nd rfl (.inl rfl)) pgs_nil)))) (pss_cons (ps_if (pt_cmpR op_eq (pv 2) pe_int (nomark _)) (pss_one (ps_ret (pcl DK GK hr (pa_cons (pv 0) (pa_cons (pv 1) pa_nil))))) pss_nil) (pss_cons (ps_if (pt_cmpR op_lt (pv 2) pe_int (nomark _)) (pss_one (ps_ret (pcl DM GM hr (pa_cons (pv 3) (pa_cons (pv 4) (pa_cons (pcl DW GW hr (pa_cons (pv 0) (pa_cons (pv 3) (pa_cons (pv 4) (pa_cons (pv 1) pa_nil))))) pa_nil)))))) pss_nil) (pss_one (ps_ret (pcl DM GM hr (pa_cons (pv 3) (pa_cons (pv 4) (pa_cons (pcl DG GG hr (pa_cons (pv 0) (pa_cons (pv 3) (pa_cons (pv 4) (pa_cons (pv 1) pa_nil))))) pa_nil)))))))))), ?_⟩
    refine tseq_intro fun R hR => ?_
    refine ⟨.ref a, rfl, a, 5, rfl, hP, by decide, by decide, fun u1 f1 wy0 w0 w1 => ?_⟩
    have e1 : Epn Ps a H (upd H a (.lst [.int u1, .int f1])) := Epn.draw ht hP
    generalize upd H a (.lst [.int u1, .int f1]) = H1 at *
    obtain ⟨wy, rfl⟩ := Int.eq_ofNat_of_zero_le w0
    show R [some (.ref a), some (.int m), some (.int wy), none, none] H1
    rw [hR]
    clear hR
    refine tseq_intro fun R hR => ?_
    refine ⟨.ref a, rfl, a, rfl, e1.pen, e1.tb, fun t n kk H2 e2 hT n1 n8 hkn hk4 => ?_⟩
    refine ⟨t, _, rfl, hT, rfl, _, _, rfl, _, _, rfl, rfl, ?_⟩
    have P2 := e1.trans e2
    show R [some (.ref a), some (.int m), some (.int wy), some (.int n), some (.int kk)] H2
    rw [hR]
    clear hR
    by_cases w0' : wy = 0
    · subst w0'
      refine ⟨.int (0 : Nat), rfl, rfl, true, by simp, iteT ?_⟩
      exact ⟨.ref a, rfl, .int m, rfl, a, m, rfl, P2.pen, m1, m70, P2.tb, fun v n' k' fss H3 e3 hv S hl => q v n' k' fss _ (P2.trans e3) hv S hl⟩
    refine ⟨.int wy, rfl, rfl, false, ?_, iteF ?_⟩
    · congr 1
      exact decide_eq_false fun z => w0' (by injection z with z; omega)
    have fin : ∀ (l : Addr) (ys : List V) (df : List (List Int)) (H3 : Hp), Epn Ps a H H3 → H3 l = some (.lst ys) → Paired (TupI K H3) ys df → df.Nodup → (∀ g ∈ df, g ∈ everyL n kk) → 1 ≤ df.length → df.length ≤ m → spMade K Ps [.int n, .int kk, .ref l] H3 Q E0 := fun l ys df H3 E3 hl hp nd hin l1 lm => ⟨n, kk, l, ys, df, rfl, .inl (.inl hl), hp, E3.tb, fun v H4 e4 hv => q v n kk _ _ (E3.trans (e4.epn E3.pen)) hv ((FacesB.every nd hin).stk n1 n8 hkn hk4 l1 (by omega)) (by rw [(sortL_perm _).length_eq]; exact lm)⟩
    by_cases w3 : wy < 3
    · refine ⟨.int wy, rfl, wy, 3, rfl, rfl, true, ?_, iteT ?_⟩
      · exact congrArg V.bl (decide_eq_true (show (wy : Int) < 3 by omega))
      exact ⟨.int n, rfl, .int kk, rfl, .ref a, rfl, .int n, rfl, .int kk, rfl, .int m, rfl, a, n, kk, m, rfl, P2.pen, n8, hkn, hk4, m1, by omega, P2.tb, fun l ys df H3 e3 nl hl hp nd hin l1 lm => fin l ys df H3 (P2.trans e3) hl hp nd hin l1 lm⟩
    · refine ⟨.int wy, rfl, wy, 3, rfl, rfl, false, ?_, iteF ?_⟩
      · exact congrArg V.bl (decide_eq_false (show ¬ (wy : Int) < 3 by omega))
      exact ⟨.int n, rfl, .int kk, rfl, .ref a, rfl, .int n, rfl, .int kk, rfl, .int m, rfl, a, n, kk, m, rfl, P2.pen, n8, hkn, hk4, m1, by omega, P2.tb, fun l ys df H3 e3 nl hl hp nd hin l1 lm _ => fin l ys df H3 (P2.trans e3) hl hp nd hin l1 lm⟩
end
end Lf

set_option maxHeartbeats 2000000
namespace Lf
open PySem PySem.Spec PyProof.Rows L2 GxR GxA SrT
section
variable {X : Cx}
/-- t.index(g), a tuple of tuples of numbers -/
def rTix (K : PySem.W.Frag) : V → List V → Hp → VK → Prop := fun x xs H Q => ∃ (t : Addr) (y : V) (ws : List V) (fss : List (List Int)) (g : List Int) (j : Nat), x = V.ref t ∧ xs = [y] ∧ SqT K H t ws ∧ Paired (TupI K H) ws fss ∧ TupI K H y g ∧ fss[j]? = some g ∧ (∀ m, m < j → fss[m]? ≠ some g) ∧ Q (.int (j : Nat)) H
theorem mt_tix (room : X.A.units + 65 < cLine) : MtR X "tuple.index" (rTix X.K) := by
  intro pins s σ H x xs v us Q I rx rxs h
  obtain ⟨t, y, ws, fss, g, j, rfl, rfl, hT, hp, hy, hj, hno, q⟩ := h
  cases rx
  obtain ⟨uy, rfl, ry⟩ := vals1 rxs
  obtain ⟨bs, ry1⟩ := Dp.reads I (tD g) y uy (dp_tup hy) ry
  obtain ⟨its, rv, ⟨⟨cls, dd, data, sls⟩, ho, hc, n, hdt⟩, hlen⟩ := I.tuple hT
  simp only at hc hdt
  subst hc hdt
  obtain ⟨as, ra⟩ := Dp.readsAll I (fss.map tD) _ its (dp_tups hp) rv
  have lay : PyData.canLayAll0 (fss.map tD) = true := lay_tups fss
  have lenE : its.length = (fss.map tD).length := SeqAt.ReadsAll.length (fss.map tD) its as ra
  have asD : its.map (SeqAt.readOf s.heap) = fss.map tD := SeqAt.readsAll_map (fss.map tD) its as lay ra
  rw [List.length_map] at lenE
  have jl : j < fss.length := (List.getElem?_eq_some_iff.mp hj).1
  have js : j < its.toArray.size := by
    rw [List.size_toArray]
    omega
  have rd : ∀ (m : Nat) (hm : m < its.toArray.size) (z : List Int), fss[m]? = some z → SeqAt.readOf s.heap its.toArray[m] = tD z := fun m hm z hz => by
    have hml : m < its.length := by simpa using hm
    have e : (its.map (SeqAt.readOf s.heap))[m]? = some (tD z) := by rw [asD, List.getElem?_map, hz]; rfl
    rw [List.getElem?_map, List.getElem?_eq_getElem hml] at e
    simpa using Option.some.inj e
  refine call_meets PySem.F.slot_tuple_index ⟨_, ho, rfl⟩ PySem.F.entry_tuple_index (PySem.F.args_tuple_index_2 _ _) (TI.tuple_indexAt t its.toArray n dd sls uy (fun u => PyData.eqv (SeqAt.readOf s.heap u) (tD g)) j js ?_ ?_) ⟨ho, SeqAt.items_eqAt (vs := its.toArray) (show ReadsAll s.heap its.toArray.toList (fss.map tD) as from ra) ry1 lay (SeqAt.canLay_of_shaped (shp_tup g)) (room_in_shaped (shp_tup g) room), ⟨.int (j : Nat), H, I.tok _, ⟨_, rfl⟩, q⟩⟩
  · show PyData.eqv (SeqAt.readOf s.heap its.toArray[j]) (tD g) = true
    rw [rd j js g hj, eqv_tD]
    exact decide_eq_true rfl
  · intro m hm hmj
    have ml : m < fss.length := by omega
    show PyData.eqv (SeqAt.readOf s.heap its.toArray[m]) (tD g) = false
    rw [rd m hm _ (List.getElem?_eq_getElem ml), eqv_tD]
    refine decide_eq_false fun e => hno m hmj ?_
    rw [List.getElem?_eq_getElem ml, e]
end
end Lf

set_option maxHeartbeats 4000000
namespace Lf
open PySem PySem.Spec PyProof.Rows L2 GxR GxA SrT
theorem idxG_get {ns : List (List Int)} {z : List Int} (h : z ∈ ns) : ns[ns.idxOf z]? = some z ∧ ∀ m, m < ns.idxOf z → ns[m]? ≠ some z := by
  induction ns with
  | nil => cases h
  | cons y ns ih =>
    by_cases e : y = z
    · subst e
      have e0 : (y :: ns).idxOf y = 0 := by simp
      rw [e0]
      exact ⟨rfl, fun m hm => by omega⟩
    · have e0 : (y :: ns).idxOf z = ns.idxOf z + 1 := by
        rw [List.idxOf_cons, beq_false_of_ne e]
        rfl
      rw [e0]
      rcases List.mem_cons.mp h with h | h
      · exact absurd h.symm e
      obtain ⟨h1, h2⟩ := ih h
      refine ⟨h1, fun m hm => ?_⟩
      match m with
      | 0 => exact fun z => e (by injection z)
      | m + 1 => exact h2 m (by omega)
theorem idx_rng {l : List (List Int)} (nd : l.Nodup) : (l.map fun g => (l.idxOf g : Int)) = rng l.length := by
  apply List.ext_getElem?
  intro i
  rw [List.getElem?_map]
  by_cases h : i < l.length
  · rw [List.getElem?_eq_getElem h, rng_get h]
    obtain ⟨h1, h2⟩ := idxG_get (List.getElem_mem h)
    have hi : l.idxOf l[i] = i := by
      obtain ⟨h3, h4⟩ := List.getElem?_eq_some_iff.mp h1
      have pw := List.pairwise_iff_getElem.mp nd
      rcases Nat.lt_trichotomy (l.idxOf l[i]) i with h5 | h5 | h5
      · exact absurd h4 (pw _ _ h3 h h5)
      · exact h5
      · exact absurd h4.symm (pw _ _ h h3 h5)
    show some ((l.idxOf l[i] : Nat) : Int) = _
    rw [hi]
  · rw [List.getElem?_eq_none (by omega), List.getElem?_eq_none (by rw [rng_len]; omega)]
    rfl
theorem idx_perm {df : List (List Int)} (nd : df.Nodup) : (df.map fun g => ((sortL df).idxOf g : Int)).Perm (rng (sortL df).length) := by
  have nd2 : (sortL df).Nodup := (sortL_perm df).nodup_iff.mpr nd
  rw [← idx_rng nd2]
  exact (sortL_perm df).symm.map _
section
variable {P : Program} {w : World} {K : PySem.W.Frag} {mg : Str → Option Value} {base : Heap} {Ps : Tbs} {H H' H0 : Hp} {k : Nat} {f c : Addr} {fd : FuncData}
def spMadeF (K : PySem.W.Frag) (Ps : Tbs) : Sp := fun vs H Q _ => ∃ (n kk : Int) (l : Addr) (xs : List V) (fss : List (List Int)), vs = [.int n, .int kk, .ref l] ∧ SqL K H l xs ∧ Paired (TupI K H) xs fss ∧ Tb Ps H ∧ ∀ (ts tf : Addr) (zs : List V) (H' : Hp), Ext Ps H H' → SqT K H' ts [.int n, .int kk, .ref tf] → SqT K H' tf zs → FzT H' tf → Paired (TupI K H') zs (sortL fss) → Q (.ref ts) H'
theorem ok_madeF (D : Def K mg "_law_made" sMade ["_law_n", "_law_k", "_law_faces"] f fd c) (mt : mg "tuple" = none) (ms : mg "sorted" = none) : FnOk P w K mg base CX0 (k + 1) f fd ["_law_n", "_law_k", "_law_faces"] (spMadeF K Ps) := by
  refine D.ok (k := k) scMade (fun vs H Q E h => ?_) (fun A outer s H vs Q E hr h => ?_)
  · obtain ⟨n, kk, l, xs, fss, rfl, _⟩ := h
    rfl
  · obtain ⟨n, kk, l, xs, fss, rfl, hl, hp, ht, q⟩ := h
    refine ⟨_, (pss_one (ps_ret (pe_tup (pa_cons (pv 0) (pa_cons (pv 1) (pa_cons (pe_callTy call_tuple_frz (by rfl) mt (by decide +kernel) (pa_cons (pe_callB (cr_sortL hr.units) (by rfl) ms (by decide +kernel) (pa_cons (pv 2) pa_nil)) pa_nil)) pa_nil)))))), ?_⟩
    refine ⟨.int n, rfl, .int kk, rfl, .ref l, rfl, l, xs, fss, rfl, hl, hp, fun zs p hz _ np => ?_⟩
    have x5 := Ext.new (o := .lst zs) ht np
    refine ⟨p, zs, rfl, .inl (.inl upd_same), fun tf oT oc od ntf => ⟨(by show 3 ≤ sizeLine; decide), fun ts nts => ?_⟩⟩
    have x6 := Ext.new (o := .frz oT (.tup zs)) x5.tb ntf
    have x7 := Ext.new (o := .tup [.int n, .int kk, .ref tf]) x6.tb nts
    exact q ts tf zs _ (x5.trans (x6.trans x7)) (.inl (.inl upd_same)) (x7.sqT (.inl (.inr ⟨_, upd_same⟩))) (x7.fzT ⟨_, _, upd_same, oc, od⟩) ((x5.trans (x6.trans x7)).tups hz)
def spLaidN (K : PySem.W.Frag) (Ps : Tbs) : Sp := fun vs H Q _ => ∃ (a : Addr) (m : Nat), vs = [.ref a, .int m] ∧ Pen H a ∧ 1 ≤ m ∧ m ≤ 70 ∧ Tb Ps H ∧ ∀ (t : Addr) (v w : V) (n kk : Int) (fss : List (List Int)) (ns : List Int) (H' : Hp), Epn Ps a H H' → SqT K H' t [v, w] → Stk K H' v n kk fss → StkOk n kk fss → fss.length ≤ m → TupI K H' w ns → ns.Perm (rng fss.length) → Q (.ref t) H'
end
end Lf

set_option maxHeartbeats 4000000
namespace Lf
open PySem PySem.Spec PyProof.Rows L2 GxR GxA SrT EnT
abbrev sPutFor : Stmt := topS 31
abbrev sMayTr : Stmt := topS 32
abbrev sUnT : Stmt := topS 33
theorem scPutFor : FnScope ["face", "point", "other"] ["face", "point", "other"] (defScope sPutFor) := ⟨rfl, rfl, rfl, by decide +kernel, rfl, by decide +kernel, by decide +kernel⟩
theorem scMayTr : FnScope ["faces", "first", "second", "point"] ["faces", "first", "second", "point"] (defScope sMayTr) := ⟨rfl, rfl, rfl, by decide +kernel, rfl, by decide +kernel, by decide +kernel⟩
abbrev nUnT : List Str := ["stack", "faces", "one", "first", "other", "second", "point"]
theorem scUnT : FnScope nUnT ["stack"] (defScope sUnT) := ⟨rfl, rfl, rfl, by decide +kernel, rfl, by decide +kernel, by decide +kernel⟩
def HeadV (K : PySem.W.Frag) (H : Hp) (F : List (List Int)) (v : V) : Prop := (F = [] ∧ v = .non) ∨ ∃ t, F.head? = some t ∧ TupI K H v t
section
variable {P : Program} {w : World} {K : PySem.W.Frag} {mg : Str → Option Value} {base : Heap} {Ps : Tbs} {H H' H0 : Hp} {k : Nat} {f c : Addr} {fd : FuncData}
variable {CS : Addr}
def spPutF (K : PySem.W.Frag) (Ps : Tbs) : Sp := fun vs H Q _ => ∃ (x : V) (p o : Int) (fc : List Int), vs = [x, .int p, .int o] ∧ TupI K H x fc ∧ fc.length ≤ 8 ∧ Tb Ps H ∧ ∀ v H', Ext Ps H H' → TupI K H' v (putF fc p o) → Q v H'
theorem ok_putF {fL cL : Addr} {fdL : FuncData} (D : Def K mg "put_for" sPutFor ["face", "point", "other"] f fd c) (DL : Def K mg "less" sLess ["face", "points"] fL fdL cL) (GL : FnOk P w K mg base CX0 (k) fL fdL ["face", "points"] (spLess K Ps)) (mt : mg "tuple" = none) (ms : mg "sorted" = none) : FnOk P w K mg base CX0 (k + 1) f fd ["face", "point", "other"] (spPutF K Ps) := by
  refine D.ok (k := k) scPutFor (fun vs H Q E h => ?_) (fun A outer s H vs Q E hr h => ?_)
  · obtain ⟨x, p, o, fc, rfl, _⟩ := h
    rfl
  · obtain ⟨x, p, o, fc, rfl, hx, l8, ht, q⟩ := h
    refine ⟨_, (pss_one (ps_ret (pe_callTy call_tuple_of (by rfl) mt (by decide +kernel) (pa_cons (pe_callB (show CallR _ _ (rSorted K) from cr_sorted) (by rfl) ms (by decide +kernel) (pa_cons (pe_lst (show PA _ _ (StX.tStar K _ _) from StX.pa_star (pcl DL GL hr (pa_cons (pv 0) (pa_cons (pe_tup (pa_cons (pv 1) pa_nil)) pa_nil))) (pa_cons (pv 2) pa_nil))) pa_nil)) pa_nil)))), ?_⟩
    have one : (1 : Nat) ≤ sizeLine := by decide
    refine ⟨x, rfl, .int p, rfl, one, fun o1 no1 => ?_⟩
    have e1 := Ext.new (o := .tup [.int p]) ht no1
    refine ⟨x, .ref o1, fc, [p], rfl, e1.tupI hx, ⟨o1, rfl, .inl (.inl upd_same)⟩, by omega, e1.tb, fun v H2 e2 hv => ?_⟩
    obtain ⟨t, rfl, hT⟩ := hv
    have hll : (lessL fc [p]).length ≤ 8 := Nat.le_trans (List.length_filter_le _ _) l8
    have el : (lessL fc [p]).map V.int ++ [V.int o] = (lessL fc [p] ++ [o]).map V.int := by
      rw [List.map_append]
      rfl
    refine ⟨t, _, rfl, .inl hT, .int o, rfl, ?_, fun l nl => ?_⟩
    · rw [List.length_append, List.length_map]
      exact Nat.le_of_lt (small1000 (by show (lessL fc [p]).length + 1 ≤ 1000; omega))
    have e3 := Ext.new (o := .lst ((lessL fc [p]).map V.int ++ [V.int o])) e2.tb nl
    have hl : SqL K (upd H2 l (.lst ((lessL fc [p]).map V.int ++ [V.int o]))) l ((lessL fc [p] ++ [o]).map V.int) := .inl (.inl (by rw [← el]; exact upd_same))
    generalize upd H2 l (.lst ((lessL fc [p]).map V.int ++ [V.int o])) = H3 at *
    refine ⟨l, _, rfl, hl, by rw [List.length_append]; show (lessL fc [p]).length + 1 < 64; omega, fun us pp pm sr np => ?_⟩
    obtain rfl : us = putF fc p o := eq_srtI pm sr
    have e5 := Ext.new (o := .lst ((putF fc p o).map V.int)) e3.tb np
    refine ⟨pp, _, rfl, .inl ⟨.inl (.inl upd_same), fun tf ntf => ?_⟩⟩
    have e6 := Ext.new (o := .tup ((putF fc p o).map V.int)) e5.tb ntf
    exact q _ _ (e1.trans (e2.trans (e3.trans (e5.trans e6)))) ⟨tf, rfl, .inl (.inl upd_same)⟩
def spMayTr (K : PySem.W.Frag) (Ps : Tbs) : Sp := fun vs H Q _ => ∃ (fa : Addr) (y z : V) (p : Int) (xs : List V) (fss : List (List Int)) (fc gc : List Int), vs = [.ref fa, y, z, .int p] ∧ SqT K H fa xs ∧ Paired (TupI K H) xs fss ∧ TupI K H y fc ∧ TupI K H z gc ∧ fc.length ≤ 8 ∧ gc.length ≤ 8 ∧ Tb Ps H ∧ ∀ H', Ext Ps H H' → Q (.bl (trB fss fc gc p)) H'
theorem ok_mayTr {fL cL fU cU PT : Addr} {fdL fdU : FuncData} (D : Def K mg "may_trade" sMayTr ["faces", "first", "second", "point"] f fd c) (DL : Def K mg "less" sLess ["face", "points"] fL fdL cL) (GL : FnOk P w K mg base CX0 (k + 1) fL fdL ["face", "points"] (spLess K Ps)) (DU : Def K mg "put_for" sPutFor ["face", "point", "other"] fU fdU cU) (GU : FnOk P w K mg base CX0 (k) fU fdU ["face", "point", "other"] (spPutF K Ps)) (TB : TabB base mg c PT) (hP : PT ∈ Ps) (ma : mg "any" = none) : FnOk P w K mg base CX0 (k + 1 + 1) f fd ["faces", "first", "second", "point"] (spMayTr K Ps) := by
  refine D.ok (k := k + 1) scMayTr (fun vs H Q E h => ?_) (fun A outer s H vs Q E hr h => ?_)
  · obtain ⟨fa, y, z, p, xs, fss, fc, gc, rfl, _⟩ := h
    rfl
  · obtain ⟨fa, y, z, p, xs, fss, fc, gc, rfl, hF, hp, hy, hz, f8, g8, ht, q⟩ := h
    refine ⟨_, (pss_one (ps_ret (pe_anyG (k := k) (caps := [0, 1, 3]) (xs := ["faces", "first", "point"]) hr (by rfl) ma TB rfl (genS rfl rfl (by decide +kernel) rfl rfl) ⟨⟨rfl, .inl rfl, rfl⟩, ⟨rfl, .inl rfl, rfl⟩, ⟨rfl, .inl rfl, rfl⟩, trivial⟩ (by decide +kernel) (pi_tup (pcl DL GL hr (pa_cons (pv 2) (pa_cons (pv 1) pa_nil)))) (fun _ _ _ _ _ _ _ hr2 => (pe_cmpR (show OpR _ _ (rInTT K false) from op_inTT hr2.units) (pcl DU GU hr2 (pa_cons (pv 2) (pa_cons (pv 3) (pa_cons (pv 0) pa_nil)))) (pv 1) (by with_unfolding_all rfl))) (fun _ => rfl)))), ?_⟩
    refine ⟨z, rfl, y, rfl, z, y, gc, fc, rfl, hz, hy, by omega, ht, fun v H1 e1 hv => ?_⟩
    obtain ⟨t, rfl, hT⟩ := hv
    refine ⟨t, rfl, ⟨_, hT⟩, e1.tb.gen PT hP, fun H2 hT2 => ?_⟩
    have e2 := Ext.of_tabbed e1.tb hP hT2
    refine gW_tup (K := K) (a := t) (xs := (lessL gc fc).map V.int) (fun i H3 => Ext Ps H1 H3 ∧ ((lessL gc fc).take i).any (fun o => decide (putF fc p o ∈ fss)) = false) ⟨e2, rfl⟩ (fun i H3 e => e.1.sqT hT) (fun H3 e => ?_) fun i H3 u hu e => ?_
    · obtain ⟨e3, h3⟩ := e
      rw [List.length_map, List.take_length] at h3
      have z9 := q _ (e1.trans e3)
      unfold trB at z9
      rw [h3] at z9
      exact z9
    · obtain ⟨e3, h3⟩ := e
      obtain ⟨o, ho, rfl⟩ := map_int hu
      have E3 := e1.trans e3
      refine ⟨y, rfl, .int p, rfl, .int o, rfl, y, p, o, fc, rfl, E3.tupI hy, f8, e3.tb, fun w H4 e4 hw => ?_⟩
      refine ⟨.ref fa, rfl, fa, xs, _, fss, rfl, hw, (E3.trans e4).sqT hF, (E3.trans e4).tups hp, decide (putF fc p o ∈ fss), rfl, fun hb => ⟨e3.trans e4, ?_⟩, fun hb => ?_⟩
      · rw [List.take_add_one, ho, List.any_append, h3, Bool.false_or]
        simpa using hb
      · have hb' : decide (putF fc p o ∈ fss) = true := by
          cases hd : decide (putF fc p o ∈ fss) with
          | true => rfl
          | false => exact absurd hd hb
        have z9 := q _ (E3.trans e4)
        have et : trB fss fc gc p = true := List.any_eq_true.mpr ⟨o, List.mem_of_getElem? ho, hb'⟩
        rw [et] at z9
        rw [hb']
        exact z9
/-! ### first_untraded -/
def spUnT (K : PySem.W.Frag) (Ps : Tbs) : Sp := fun vs H Q _ => ∃ (x : V) (n kk : Int) (fss : List (List Int)), vs = [x] ∧ Stk K H x n kk fss ∧ StkOk n kk fss ∧ Tb Ps H ∧ ∀ v H', Ext Ps H H' → HeadV K H' (unT fss fss.length) v → Q v H'
theorem ok_unT {fS cS fL cL fT cT : Addr} {fdS fdL fdT : FuncData} (D : Def K mg "first_untraded" sUnT ["stack"] f fd c) (DS : Def K mg "need_stack" sNeedStack ["stack"] fS fdS cS) (GS : FnOk P w K mg base CX0 (k) fS fdS ["stack"] (spNeedStack K Ps)) (DL : Def K mg "less" sLess ["face", "points"] fL fdL cL) (GL : FnOk P w K mg base CX0 (k) fL fdL ["face", "points"] (spLess K Ps)) (DT : Def K mg "may_trade" sMayTr ["faces", "first", "second", "point"] fT fdT cT) (GT : FnOk P w K mg base CX0 (k) fT fdT ["faces", "first", "second", "point"] (spMayTr K Ps)) (me : mg "enumerate" = none) : FnOk P w K mg base CX0 (k + 1) f fd ["stack"] (spUnT K Ps) := by
  refine D.ok (k := k) scUnT (fun vs H Q E h => ?_) (fun A outer s H vs Q E hr h => ?_)
  · obtain ⟨x, n, kk, fss, rfl, _⟩ := h
    rfl
  · obtain ⟨x, n, kk, fss, rfl, hS, S, ht, q⟩ := h
    refine ⟨_, (pss_cons (ps_expr (pcl DS GS hr (pa_cons (pv 0) pa_nil))) (pss_cons (ps_set (i := 1) scUnT.nd rfl (.inl rfl) (pe_ix (show IxR _ (rIxT K) from ix_tup) (pv 0) pe_int (fun _ _ => rfl))) (pss_cons (ps_for PassesOwn.never rfl (pi_enumT (by rfl) me (pa_cons (pv 1) pa_nil)) (pg_tup rfl (pgs_cons (pg_name (i := 2) scUnT.nd rfl (Or.inl rfl)) (pgs_cons (pg_name (i := 3) scUnT.nd rfl (Or.inl rfl)) pgs_nil))) (pss_one (ps_for PassesOwn.never rfl (pi_enumT (by rfl) me (pa_cons (pv 1) pa_nil)) (pg_tup rfl (pgs_cons (pg_name (i := 4) scUnT.nd rfl (Or.inl rfl)) (pgs_cons (pg_name (i := 5) scUnT.nd rfl (Or.inl rfl)) pgs_nil))) (pss_one (ps_for PassesOwn.never rfl (pi_tup (pcl DL GL hr (pa_cons (pv 3) (pa_cons (pv 5) pa_nil)))) (pg_name (i := 6) scUnT.nd rfl (Or.inl rfl)) (pss_one (ps_if (pt_not (pt_val (pcl DT GT hr (pa_cons (pv 1) (pa_cons (pv 3) (pa_cons (pv 5) (pa_cons (pv 6) pa_nil))))))) (pss_one (ps_ret (pe_tup (pa_cons (pv 2) (pa_cons (pv 4) (pa_cons (pv 6) pa_nil)))))) pss_nil))))))) (pss_one (ps_ret pe_non))))), ?_⟩
    refine ⟨x, rfl, x, n, kk, fss, rfl, hS, S, ht, fun H1 e1 => ?_⟩
    obtain ⟨a, fa, xs, rfl, h1, h2, h3⟩ := e1.stk hS
    have hxl := Paired.length h3
    refine ⟨.ref a, rfl, a, _, 2, .ref fa, rfl, rfl, h1, at2, ?_⟩
    refine ⟨.ref fa, rfl, fa, xs, rfl, h2, for_enT (K := K) (a := fa) (xs := xs) (fun i σ H3 => Ext Ps H1 H3 ∧ unT fss i = [] ∧ ∃ y2 y3 y4 y5 y6 : Option V, σ = [some (.ref a), some (.ref fa), y2, y3, y4, y5, y6]) ⟨Ext.refl e1.tb, rfl, _, _, _, _, _, rfl⟩ (fun i σ H3 p => p.1.sqT h2) (fun i u σ H3 T hu p hT => ?_) (fun σ H3 p => ?_)⟩
    · obtain ⟨e3, u3, y2, y3, y4, y5, y6, rfl⟩ := p
      have eT := Ext.new (o := .tup [.int (i : Nat), u]) e3.tb hT
      have hT4 : SqT K (upd H3 T (.tup [.int (i : Nat), u])) T [.int (i : Nat), u] := .inl (.inl upd_same)
      have E4 := e3.trans eT
      generalize upd H3 T (.tup [.int (i : Nat), u]) = H4 at *
      obtain ⟨fc, hfc, hI⟩ := paired_get h3 hu
      have hi : i < fss.length := (List.getElem?_eq_some_iff.mp hfc).1
      have f4 := S.len4 fc (List.mem_of_getElem? hfc)
      have gD : fss.getD i [] = fc := by rw [List.getD_eq_getElem?_getD, hfc]; rfl
      refine ⟨T, _, rfl, hT4, rfl, _, _, rfl, _, _, rfl, rfl, ?_⟩
      refine ⟨.ref fa, rfl, fa, xs, rfl, E4.sqT h2, for_enT (K := K) (a := fa) (xs := xs) (fun j σ H5 => Ext Ps H1 H5 ∧ rowT fss fc i j = [] ∧ ∃ y4 y5 y6 : Option V, σ = [some (.ref a), some (.ref fa), some (.int (i : Nat)), some u, y4, y5, y6]) ⟨E4, rfl, _, _, _, rfl⟩ (fun j σ H5 p => p.1.sqT h2) (fun j v σ H5 T2 hv p hT2 => ?_) (fun σ H5 p => ?_)⟩
      · obtain ⟨e5, u5, y4, y5, y6, rfl⟩ := p
        have eT2 := Ext.new (o := .tup [.int (j : Nat), v]) e5.tb hT2
        have hT6 : SqT K (upd H5 T2 (.tup [.int (j : Nat), v])) T2 [.int (j : Nat), v] := .inl (.inl upd_same)
        have E6 := e5.trans eT2
        generalize upd H5 T2 (.tup [.int (j : Nat), v]) = H6 at *
        obtain ⟨gc, hgc, hJ⟩ := paired_get h3 hv
        have hj : j < fss.length := (List.getElem?_eq_some_iff.mp hgc).1
        have g4 := S.len4 gc (List.mem_of_getElem? hgc)
        have gD2 : fss.getD j [] = gc := by rw [List.getD_eq_getElem?_getD, hgc]; rfl
        refine ⟨T2, _, rfl, hT6, rfl, _, _, rfl, _, _, rfl, rfl, ?_⟩
        refine ⟨u, rfl, v, rfl, u, v, fc, gc, rfl, E6.tupI hI, E6.tupI hJ, by omega, E6.tb, fun w H7 e7 hw => ?_⟩
        obtain ⟨t, rfl, hT7⟩ := hw
        have E7 := E6.trans e7
        refine ⟨t, rfl, ⟨_, hT7⟩, for_tup (K := K) (a := t) (xs := (lessL fc gc).map V.int) (fun e σ H8 => Ext Ps H7 H8 ∧ ((lessL fc gc).take e).filter (fun p => !trB fss fc gc p) = [] ∧ ∃ y6 : Option V, σ = [some (.ref a), some (.ref fa), some (.int (i : Nat)), some u, some (.int (j : Nat)), some v, y6]) ⟨Ext.refl e7.tb, rfl, _, rfl⟩ (fun e σ H8 _ p => p.1.sqT hT7) (fun e w σ H8 hw p => ?_) (fun σ H8 p => ?_)⟩
        · obtain ⟨e8, u8, y6, rfl⟩ := p
          obtain ⟨p, hp, rfl⟩ := map_int hw
          have E8 := E7.trans e8
          refine ⟨.ref fa, rfl, u, rfl, v, rfl, .int p, rfl, fa, u, v, p, xs, fss, fc, gc, rfl, E8.sqT h2, E8.tups h3, E8.tupI hI, E8.tupI hJ, by omega, by omega, e8.tb, fun H9 e9 => ⟨trB fss fc gc p, rfl, ?_⟩⟩
          have ef := filt_take (fun p => !trB fss fc gc p) hp
          cases hb : trB fss fc gc p with
          | true =>
            refine iteF ⟨e8.trans e9, ?_, _, rfl⟩
            rw [ef, u8, hb]
            rfl
          | false =>
            refine iteT ⟨.int (i : Nat), rfl, .int (j : Nat), rfl, .int p, rfl, (by show 3 ≤ sizeLine; decide), fun r nr => ?_⟩
            have er := Ext.new (o := .tup [.int (i : Nat), .int (j : Nat), .int p]) e9.tb nr
            have hc : (cellT fss fc i gc j).head? = some [(i : Int), (j : Int), p] := filt_head u8 hp (by rw [hb]; rfl)
            have hro : (rowT fss fc i fss.length).head? = some [(i : Int), (j : Int), p] := by
              unfold rowT
              rw [range_split hj]
              refine flat_head u5 ?_
              rw [gD2]
              exact hc
            have hun : (unT fss fss.length).head? = some [(i : Int), (j : Int), p] := by
              unfold unT
              rw [range_split hi]
              refine flat_head u3 ?_
              rw [gD]
              exact hro
            exact q _ _ (e1.trans (E8.trans (e9.trans er))) (.inr ⟨_, hun, r, rfl, .inl (.inl upd_same)⟩)
        · obtain ⟨e8, u8, y6, rfl⟩ := p
          rw [List.length_map, List.take_length] at u8
          refine ⟨E7.trans e8, ?_, _, _, _, rfl⟩
          unfold rowT at u5 ⊢
          rw [List.range_succ, List.flatMap_append, u5]
          show [] ++ (cellT fss fc i (fss.getD j []) j ++ []) = []
          rw [gD2]
          unfold cellT
          rw [u8]
          rfl
      · obtain ⟨e5, u5, y4, y5, y6, rfl⟩ := p
        refine ⟨e5, ?_, _, _, _, _, _, rfl⟩
        rw [hxl] at u5
        unfold unT at u3 ⊢
        rw [List.range_succ, List.flatMap_append, u3]
        show [] ++ (rowT fss (fss.getD i []) i fss.length ++ []) = []
        rw [gD, u5]
        rfl
    · obtain ⟨e3, u3, y2, y3, y4, y5, y6, rfl⟩ := p
      rw [hxl] at u3
      exact q _ _ (e1.trans e3) (.inl ⟨u3, rfl⟩)
def spUnX (K : PySem.W.Frag) (Ps : Tbs) (CS : Addr) : Sp := fun vs H _ E => ∃ (x : V), vs = [x] ∧ BadS K Ps CS x H E
def spUnT2 (K : PySem.W.Frag) (Ps : Tbs) (CS : Addr) : Sp := fun vs H Q E => spUnT K Ps vs H Q E ∨ spUnX K Ps CS vs H Q E
theorem ok_unTX {fS cS : Addr} {fdS : FuncData} (D : Def K mg "first_untraded" sUnT ["stack"] f fd c) (DS : Def K mg "need_stack" sNeedStack ["stack"] fS fdS cS) (GS : FnOk P w K mg base (L2.CX P w) (k) fS fdS ["stack"] (spNeedStackX K Ps CS)) : FnOk P w K mg base (L2.CX P w) (k + 1) f fd ["stack"] (spUnX K Ps CS) := by
  refine D.okX (k := k) scUnT (fun vs H Q E h => ?_) (fun A outer s H vs Q E hr tk h => ?_)
  · obtain ⟨x, rfl, _⟩ := h
    rfl
  · obtain ⟨x, rfl, d, h1, h2, h3, h4, h5⟩ := h
    refine ⟨_, (pss_cons (ps_expr (pclX DS GS hr tk (pa_cons (pv 0) pa_nil))) (pss_cons ps_never (pss_cons ps_never (pss_one ps_never)))), ?_⟩
    exact ⟨x, rfl, x, d, rfl, h1, h2, h3, h4, h5⟩
end
end Lf

set_option maxHeartbeats 4000000
namespace Lf
open PySem PySem.Spec PyProof.Rows L2 GxR GxA SrT
def restF (fc : List Int) (p : Int) : List Int := fc.filter fun z => !decide (z = p)
def restsB (fc : List Int) (p : Int) (os : List (List Int)) : Bool := !(os.filter fun o => decide ((comL (restF fc p) o).length = (restF fc p).length)).isEmpty
def takesB (fss : List (List Int)) (p : Int) : Bool := !(fss.filter fun g => decide (p ∈ g)).isEmpty && (!(lackL fss p).isEmpty && decide (((fss.filter fun g => decide (p ∈ g)).filter fun g => restsB g p (lackL fss p)).length = (fss.filter fun g => decide (p ∈ g)).length))
section
variable {P : Program} {w : World} {K : PySem.W.Frag} {mg : Str → Option Value} {base : Heap} {Ps : Tbs} {H H' H0 : Hp} {k : Nat} {f c : Addr} {fd : FuncData}
/-! ### _law_rests -/
def spRests (K : PySem.W.Frag) (Ps : Tbs) : Sp := fun vs H Q _ => ∃ (x : V) (fc : List Int) (p : Int) (l : Addr) (xs : List V) (os : List (List Int)), vs = [x, .int p, .ref l] ∧ TupI K H x fc ∧ SqL K H l xs ∧ Paired (TupI K H) xs os ∧ fc.length ≤ 8 ∧ os.length ≤ 70 ∧ Tb Ps H ∧ ∀ H', Ext Ps H H' → Q (.bl (restsB fc p os)) H'
/-! ### _law_takes -/
def spTakes (K : PySem.W.Frag) (Ps : Tbs) : Sp := fun vs H Q _ => ∃ (x : V) (n kk p : Int) (fss : List (List Int)), vs = [x, .int p] ∧ Stk K H x n kk fss ∧ StkOk n kk fss ∧ Tb Ps H ∧ ∀ H', Ext Ps H H' → Q (.bl (takesB fss p)) H'
end
end Lf

set_option maxHeartbeats 4000000
namespace Lf
open PySem PySem.Spec PyProof.Rows L2 GxR GxA SrT
section
variable {K : PySem.W.Frag} {mg : Str → Option Value} {C : Nat → Addr} {CL : Addr}
/-- what the kinds are told to be -/
def spKindOf (Ps : Tbs) (a : Addr) (i : Nat) : Sp := fun vs H Q _ => vs = [.ref a] ∧ Tb Ps H ∧ ∀ H', Ext Ps H H' → Q (.str (wordOf i)) H'
end
end Lf

set_option maxHeartbeats 8000000
namespace Lf
open PySem PySem.Spec PyProof.Rows L2 GxR GxA SrT
abbrev nNoStack : List Str := ["_law_pen_here", "_law_stack_here", "_law_way", "_law_n", "_law_k", "_law_faces", "_law_at_here", "_law_face", "_law_some"]
theorem wide_t {ds : List PyData} (h1 : ds.length ≤ 1000) (h2 : ∀ d ∈ ds, wide d = true) : wide (.tuple ds) = true := by
  rw [wide, decide_eq_true h1, Bool.true_and]
  induction ds with
  | nil => rfl
  | cons d ds ih =>
    rw [wideAll, h2 d List.mem_cons_self, Bool.true_and]
    exact ih (by rw [List.length_cons] at h1; omega) fun e he => h2 e (List.mem_cons_of_mem _ he)
theorem wide_l {ds : List PyData} (h1 : ds.length ≤ 1000) (h2 : ∀ d ∈ ds, wide d = true) : wide (.list ds) = true := by
  have z := wide_t h1 h2
  have e : wide (.list ds) = wide (.tuple ds) := by simp only [wide]
  rw [e]
  exact z
theorem wide_tD {ns : List Int} (h : ns.length ≤ 1000) : wide (tD ns) = true := wide_t (by rw [List.length_map]; exact h) fun d hd => by
  obtain ⟨i, _, rfl⟩ := List.mem_map.mp hd
  rfl
/-- each of the pool is none -/
def badDs (n kk : Int) (fss : List (List Int)) (fc : List Int) (j : Nat) : List PyData := [.none, .str "4 2: 01", .dict [], .int 7, .list [.int n, .int kk, .tuple (fss.map tD)], .tuple [.int n, .int kk], .tuple [.int n, .int kk, .list (fss.map tD)], .tuple [.int n, .int kk, .tuple []], .tuple ([.int n, .int kk, .tuple (fss.map tD)] ++ [.int 0]), .tuple [.int 0, .int kk, .tuple (fss.map tD)], .tuple [.int 9, .int kk, .tuple (fss.map tD)], .tuple [.bool true, .int kk, .tuple (fss.map tD)], .tuple [.int n, .none, .tuple (fss.map tD)], .tuple [.int n, .int (-1), .tuple (fss.map tD)], .tuple [.int n, .int (kk + 1), .tuple (fss.map tD)], .tuple [.int n, .int kk, .tuple ((fss.map tD) ++ [.tuple (iD fc)])], .tuple [.int n, .int kk, .tuple ((((fss.map tD).take j) ++ [.list (iD fc)]) ++ ((fss.map tD).drop (j + 1)))], .tuple [.int n, .int kk, .tuple ((((fss.map tD).take j) ++ [.tuple ([.int n] ++ (iD fc))]) ++ ((fss.map tD).drop (j + 1)))]]
theorem badDs_ok {n kk : Int} {fss : List (List Int)} {fc : List Int} {j : Nat} (S : StkOk n kk fss) (hj : fss[j]? = some fc) : ∀ d ∈ badDs n kk fss fc j, isStackD d = false ∧ wide d = true := by
  have hm := List.mem_of_getElem? hj
  have l1 := S.l1
  have l70 := S.l70
  have h4 := S.len4 fc hm
  have wf : wide (.tuple (fss.map tD)) = true := wide_t (by rw [List.length_map]; omega) fun d hd => by
    obtain ⟨g, hg, rfl⟩ := List.mem_map.mp hd
    exact wide_tD (by have := S.len4 g hg; omega)
  have w3 : ∀ {x y z : PyData}, wide x = true → wide y = true → wide z = true → wide (.tuple [x, y, z]) = true := fun h1 h2 h3 => wide_t (by show 3 ≤ 1000; decide) fun d hd => by
    simp only [List.mem_cons, List.not_mem_nil, or_false] at hd
    rcases hd with rfl | rfl | rfl <;> assumption
  have i3 : ∀ i : Int, wide (.int i) = true := fun i => rfl
  intro d hd
  unfold badDs at hd
  simp only [List.mem_cons, List.not_mem_nil, or_false] at hd
  rcases hd with rfl | rfl | rfl | rfl | rfl | rfl | rfl | rfl | rfl | rfl | rfl | rfl | rfl | rfl | rfl | rfl | rfl | rfl
  · exact ⟨rfl, rfl⟩
  · exact ⟨rfl, rfl⟩
  · exact ⟨rfl, rfl⟩
  · exact ⟨rfl, rfl⟩
  · refine ⟨rfl, wide_l (by show 3 ≤ 1000; decide) fun d hd => ?_⟩
    simp only [List.mem_cons, List.not_mem_nil, or_false] at hd
    rcases hd with rfl | rfl | rfl
    · rfl
    · rfl
    · exact wf
  · exact ⟨isStackD_len (by simp), wide_t (by show 2 ≤ 1000; decide) fun d hd => by
      simp only [List.mem_cons, List.not_mem_nil, or_false] at hd
      rcases hd with rfl | rfl <;> rfl⟩
  · refine ⟨bad_of fun n' k' g e S' => ?_, w3 (i3 _) (i3 _) (wide_l (by rw [List.length_map]; omega) (wide_tup wf).2)⟩
    simp only [stkD, PyData.tuple.injEq, List.cons.injEq] at e
    exact nomatch e.2.2.1
  · refine ⟨bad_of fun n' k' g e S' => ?_, w3 (i3 _) (i3 _) rfl⟩
    simp only [stkD, PyData.tuple.injEq, List.cons.injEq, and_true] at e
    have z := congrArg List.length e.2.2
    rw [List.length_map] at z
    have := S'.l1
    simp at z
    omega
  · refine ⟨isStackD_len (by simp), wide_t (by show 4 ≤ 1000; decide) fun d hd => ?_⟩
    simp only [List.cons_append, List.nil_append, List.mem_cons, List.not_mem_nil, or_false] at hd
    rcases hd with rfl | rfl | rfl | rfl
    · rfl
    · rfl
    · exact wf
    · rfl
  · refine ⟨bad_of fun n' k' g e S' => ?_, w3 (i3 _) (i3 _) wf⟩
    simp only [stkD, PyData.tuple.injEq, List.cons.injEq, PyData.int.injEq] at e
    have := S'.n1
    omega
  · refine ⟨bad_of fun n' k' g e S' => ?_, w3 (i3 _) (i3 _) wf⟩
    simp only [stkD, PyData.tuple.injEq, List.cons.injEq, PyData.int.injEq] at e
    have := S'.n8
    omega
  · exact ⟨rfl, w3 rfl (i3 _) wf⟩
  · exact ⟨rfl, w3 (i3 _) rfl wf⟩
  · refine ⟨bad_of fun n' k' g e S' => ?_, w3 (i3 _) (i3 _) wf⟩
    simp only [stkD, PyData.tuple.injEq, List.cons.injEq, PyData.int.injEq] at e
    have := S'.k0
    omega
  · refine ⟨bad_of fun n' k' g e S' => ?_, w3 (i3 _) (i3 _) wf⟩
    simp only [stkD, PyData.tuple.injEq, List.cons.injEq, PyData.int.injEq, and_true] at e
    have eg := tDs_inj e.2.2
    subst eg
    have a1 := S.len fc hm
    have a2 := S'.len fc hm
    omega
  · refine ⟨bad_of fun n' k' g e S' => ?_, w3 (i3 _) (i3 _) (wide_t (by rw [List.length_append, List.length_map]; show fss.length + 1 ≤ 1000; omega) fun d hd => ?_)⟩
    · simp only [stkD, PyData.tuple.injEq, List.cons.injEq, PyData.int.injEq, and_true] at e
      have eg : fss ++ [fc] = g := tDs_inj (by rw [List.map_append, ← e.2.2]; rfl)
      have z := S'.srt
      rw [← eg, List.pairwise_append] at z
      have z2 := z.2.2 fc hm fc (by simp)
      rw [SrT.lex_irrefl] at z2
      cases z2
    · rcases List.mem_append.mp hd with hd | hd
      · exact (wide_tup wf).2 d hd
      · rw [List.mem_singleton.mp hd]
        exact wide_tD (by omega)
  · refine ⟨bad_of fun n' k' g e S' => ?_, w3 (i3 _) (i3 _) (wide_t (by simp only [List.length_append, List.length_take, List.length_drop, List.length_map, List.length_cons, List.length_nil]; omega) fun d hd => ?_)⟩
    · simp only [stkD, PyData.tuple.injEq, List.cons.injEq, PyData.int.injEq, and_true] at e
      have hx : PyData.list (iD fc) ∈ g.map tD := by
        rw [← e.2.2]
        simp
      obtain ⟨y, _, hy⟩ := List.mem_map.mp hx
      cases hy
    · rcases List.mem_append.mp hd with hd | hd
      · rcases List.mem_append.mp hd with hd | hd
        · exact (wide_tup wf).2 d (List.mem_of_mem_take hd)
        · rw [List.mem_singleton.mp hd]
          exact wide_l (by rw [List.length_map]; omega) fun d hd => by
            obtain ⟨i, _, rfl⟩ := List.mem_map.mp hd
            rfl
      · exact (wide_tup wf).2 d (List.mem_of_mem_drop hd)
  · refine ⟨bad_of fun n' k' g e S' => ?_, w3 (i3 _) (i3 _) (wide_t (by simp only [List.length_append, List.length_take, List.length_drop, List.length_map, List.length_cons, List.length_nil]; omega) fun d hd => ?_)⟩
    · simp only [stkD, PyData.tuple.injEq, List.cons.injEq, PyData.int.injEq, and_true] at e
      have hx : tD (n :: fc) ∈ g.map tD := by
        rw [← e.2.2]
        refine List.mem_append_left _ (List.mem_append_right _ ?_)
        exact List.mem_singleton.mpr rfl
      obtain ⟨y, hy1, hy⟩ := List.mem_map.mp hx
      have ey := tD_inj hy
      subst ey
      have := S'.bel _ hy1 n (by simp)
      omega
    · rcases List.mem_append.mp hd with hd | hd
      · rcases List.mem_append.mp hd with hd | hd
        · exact (wide_tup wf).2 d (List.mem_of_mem_take hd)
        · rw [List.mem_singleton.mp hd]
          exact wide_tD (ns := n :: fc) (by simp only [List.length_cons]; omega)
      · exact (wide_tup wf).2 d (List.mem_of_mem_drop hd)
section
variable {P : Program} {w : World} {K : PySem.W.Frag} {mg : Str → Option Value} {base : Heap} {Ps : Tbs} {H H' H0 : Hp} {k : Nat} {f c : Addr} {fd : FuncData}
def spNoStack (K : PySem.W.Frag) (Ps : Tbs) : Sp := fun vs H Q _ => ∃ (a : Addr) (x : V) (n kk : Int) (fss : List (List Int)), vs = [.ref a, x] ∧ Pen H a ∧ Stk K H x n kk fss ∧ StkOk n kk fss ∧ Tb Ps H ∧ ∀ v d H', Epn Ps a H H' → ThF K H' (fun b => H b = none) v d → wide d = true → isStackD d = false → Q v H'
end
end Lf

set_option maxHeartbeats 4000000
namespace Lf
open PySem PySem.Spec PyProof.Rows L2 GxR GxA SrT
section
variable {P : Program} {w : World} {K : PySem.W.Frag} {mg : Str → Option Value} {base : Heap} {Ps : Tbs} {H H' H0 : Hp} {k : Nat} {f c : Addr} {fd : FuncData}
def spNoNum2 (K : PySem.W.Frag) (Ps : Tbs) : Sp := fun vs H Q _ => ∃ (a : Addr) (lo hi : Int), vs = [.ref a, .int lo, .int hi] ∧ Pen H a ∧ 0 ≤ lo ∧ lo ≤ hi ∧ hi ≤ 1000 ∧ Tb Ps H ∧ ∀ v d H', Epn Ps a H H' → ThF K H' (fun b => H b = none) v d → intIn d lo hi = false → Q v H'
end
end Lf

set_option maxHeartbeats 2000000
namespace Lf
open PySem PySem.Spec PyProof.Rows L2 GxR GxA SrT
/-! ### things that can be shown -/
/-- a thing of a row: a number not far off, or one of few others -/
structure El (e : PyData) : Prop where
  sh : e.showable = true
  lv : e.leavesShort 13 = true
  wt : e.weight ≤ 60
  dp : e.depth ≤ 2
theorem el_int {i : Int} (h : i.natAbs < 1000000) : El (.int i) := by
  have hl : i.natAbs.log2 < 40 := by
    by_cases e : i.natAbs = 0
    · rw [e]; decide
    · exact (Nat.log2_lt e).mpr (by have : (2 : Nat) ^ 40 = 1099511627776 := by decide
                                    omega)
  refine ⟨?_, ?_, ?_, by simp [PyData.depth]⟩
  · simp only [PyData.showable]
    exact decide_eq_true (by omega)
  · simp only [PyData.leavesShort]
    exact decide_eq_true (PyData.shown_int_le (by omega))
  · simp only [PyData.weight]
    split <;> omega
theorem el_none : El .none := ⟨rfl, rfl, by simp [PyData.weight], by simp [PyData.depth]⟩
theorem el_bool (b : Bool) : El (.bool b) := ⟨rfl, rfl, by simp [PyData.weight], by simp [PyData.depth]⟩
theorem showAll {ds : List PyData} (h : ∀ e ∈ ds, El e) : PyData.showableAll ds = true := by
  induction ds with
  | nil => rfl
  | cons e ds ih =>
    rw [PyData.showableAll, (h e List.mem_cons_self).sh, ih fun x hx => h x (List.mem_cons_of_mem _ hx)]
    rfl
theorem leafAll {ds : List PyData} (h : ∀ e ∈ ds, El e) : PyData.leavesShortAll 13 ds = true := by
  induction ds with
  | nil => rfl
  | cons e ds ih =>
    rw [PyData.leavesShortAll, (h e List.mem_cons_self).lv, ih fun x hx => h x (List.mem_cons_of_mem _ hx)]
    rfl
theorem wtAll {ds : List PyData} (h : ∀ e ∈ ds, El e) : PyData.weightAll ds ≤ 61 * ds.length := by
  induction ds with
  | nil => simp [PyData.weightAll]
  | cons e ds ih =>
    have h1 := (h e List.mem_cons_self).wt
    have h2 := ih fun x hx => h x (List.mem_cons_of_mem _ hx)
    rw [PyData.weightAll, List.length_cons]
    omega
theorem dpAll_le {ds : List PyData} (h : ∀ e ∈ ds, El e) : PyData.depthAll ds ≤ 2 := by
  induction ds with
  | nil => simp [PyData.depthAll]
  | cons e ds ih =>
    have h1 := (h e List.mem_cons_self).dp
    have h2 := ih fun x hx => h x (List.mem_cons_of_mem _ hx)
    simp only [PyData.depthAll]
    omega
theorem rp_tup {ds : List PyData} (h : ∀ e ∈ ds, El e) (hl : ds.length ≤ 1000) (hm : PyData.hasDictAll ds = true → noLists ds = true) : RpOk (.tuple ds) := by
  refine ⟨(fun i z => by cases z), (fun x z => by cases z), showAll h, PyData.shown_fits (B := 13) (by decide) (by decide) (d := .tuple ds) (leafAll h) ?_, ?_, hm⟩
  · have := wtAll h
    have e : (2 : Nat) ^ 20 = 1048576 := by decide
    show PyData.weightAll ds ≤ 2 ^ 20
    omega
  · have := dpAll_le h
    simp only [PyData.depth]
    omega
theorem rp_lst {ds : List PyData} (h : ∀ e ∈ ds, El e) (hl : ds.length ≤ 1000) (hm : PyData.hasDictAll ds = false) : RpOk (.list ds) := by
  refine ⟨(fun i z => by cases z), (fun x z => by cases z), showAll h, PyData.shown_fits (B := 13) (by decide) (by decide) (d := .list ds) (leafAll h) ?_, ?_, fun z => ?_⟩
  · have := wtAll h
    have e : (2 : Nat) ^ 20 = 1048576 := by decide
    show PyData.weightAll ds ≤ 2 ^ 20
    omega
  · have := dpAll_le h
    simp only [PyData.depth]
    omega
  · have z' : PyData.hasDictAll ds = true := z
    rw [hm] at z'
    cases z'
theorem rp_none : RpOk .none := ⟨(fun i z => by cases z), (fun x z => by cases z), rfl, by decide, by simp [PyData.depth], (fun z => by cases z)⟩
theorem rp_dict : RpOk (.dict []) := ⟨(fun i z => by cases z), (fun x z => by cases z), rfl, by decide +kernel, by simp [PyData.depth, PyData.depthKv], fun _ => rfl⟩
theorem noDict_ints : ∀ ns : List Int, PyData.hasDictAll (iD ns) = false
  | [] => rfl
  | i :: ns => by
    show (PyData.hasDict (.int i) || PyData.hasDictAll (iD ns)) = false
    rw [noDict_ints ns]
    rfl
theorem el_ints {ns : List Int} (h : ∀ i ∈ ns, i.natAbs < 1000000) : ∀ e ∈ iD ns, El e := fun e he => by
  obtain ⟨i, hi, rfl⟩ := List.mem_map.mp he
  exact el_int (h i hi)
theorem noDictAll {ds : List PyData} (h : ∀ e ∈ ds, e.hasDict = false) : PyData.hasDictAll ds = false := by
  induction ds with
  | nil => rfl
  | cons e ds ih =>
    rw [PyData.hasDictAll, h e List.mem_cons_self, ih fun x hx => h x (List.mem_cons_of_mem _ hx)]
    rfl
theorem rp_t0 {ds : List PyData} (h : ∀ e ∈ ds, El e ∧ e.hasDict = false) (hl : ds.length ≤ 1000) : RpOk (.tuple ds) := rp_tup (fun e he => (h e he).1) hl fun z => by
  rw [noDictAll fun e he => (h e he).2] at z
  cases z
theorem rp_l0 {ds : List PyData} (h : ∀ e ∈ ds, El e ∧ e.hasDict = false) (hl : ds.length ≤ 1000) : RpOk (.list ds) := rp_lst (fun e he => (h e he).1) hl (noDictAll fun e he => (h e he).2)
theorem el0_ints {ns : List Int} (h : ∀ i ∈ ns, i.natAbs < 1000) : ∀ e ∈ iD ns, El e ∧ e.hasDict = false := fun e he => by
  obtain ⟨i, hi, rfl⟩ := List.mem_map.mp he
  exact ⟨el_int (by have := h i hi; omega), rfl⟩
theorem el_str0 : El (.str "0") := ⟨rfl, by decide +kernel, by decide +kernel, by simp [PyData.depth]⟩
theorem el_tup0 : El (.tuple [.int 0]) := ⟨by decide +kernel, by decide +kernel, by decide +kernel, by simp [PyData.depth, PyData.depthAll]⟩
theorem rp_tD {ns : List Int} (h : ∀ i ∈ ns, i.natAbs < 1000000) (hl : ns.length ≤ 1000) : RpOk (tD ns) := rp_tup (el_ints h) (by rw [List.length_map]; exact hl) fun z => by
  rw [noDict_ints] at z
  cases z
end Lf

set_option maxHeartbeats 4000000
namespace Lf
open PySem PySem.Spec PyProof.Rows L2 GxR GxA SrT
/-! ### the two looks are one -/
theorem len_filter_all {α : Type} (p : α → Bool) : ∀ l : List α, decide ((l.filter p).length = l.length) = l.all p
  | [] => rfl
  | x :: l => by
    have ih := len_filter_all p l
    have hle : (l.filter p).length ≤ l.length := List.length_filter_le _ _
    rw [List.filter_cons, List.all_cons]
    cases hx : p x with
    | true =>
      rw [if_pos rfl, List.length_cons, List.length_cons, Bool.true_and, ← ih]
      congr 1
      exact propext ⟨fun h => by omega, fun h => by omega⟩
    | false =>
      rw [if_neg (by decide), List.length_cons, Bool.false_and]
      exact decide_eq_false (by omega)
theorem restF_less (fc : List Int) (p : Int) : restF fc p = lessL fc [p] := by
  unfold restF lessL
  congr 1
  funext z
  simp
theorem rests_eq (fc : List Int) (p : Int) (os : List (List Int)) : restsB fc p os = inSome (lessL fc [p]) os := by
  unfold restsB inSome
  rw [restF_less]
  have e : (fun o : List Int => decide ((comL (lessL fc [p]) o).length = (lessL fc [p]).length)) = fun o => hasAll o (lessL fc [p]) := by
    funext o
    exact len_filter_all (fun q => decide (q ∈ o)) _
  rw [e]
  generalize (fun o => hasAll o (lessL fc [p])) = P
  induction os with
  | nil => rfl
  | cons o os ih =>
    rw [List.filter_cons, List.any_cons, ← ih]
    cases P o <;> simp
theorem takes_eq (fss : List (List Int)) (p : Int) : takesB fss p = comesB fss p := by
  unfold takesB comesB arF
  rw [len_filter_all, List.all_map]
  have e : (fun g => restsB g p (lackL fss p)) = (fun g => inSome g (lackL fss p)) ∘ fun g => lessL g [p] := by
    funext g
    exact rests_eq g p _
  rw [e]
  generalize (fss.filter fun g => decide (p ∈ g)) = hs
  cases hs with
  | nil => rfl
  | cons g gs =>
    cases hk : lackL fss p with
    | nil => simp [inSome]
    | cons o os => simp
/-! ### a stack can be shown -/
theorem el_tD {f : List Int} (h4 : f.length ≤ 4) (h : ∀ i ∈ f, i.natAbs < 1000000) : PyData.showable (tD f) = true ∧ PyData.leavesShort 13 (tD f) = true ∧ PyData.weight (tD f) ≤ 300 ∧ PyData.hasDict (tD f) = false := by
  have z := el_ints h
  refine ⟨showAll z, leafAll z, ?_, noDict_ints f⟩
  have w := wtAll z
  have hl : (iD f).length = f.length := List.length_map ..
  show PyData.weightAll (iD f) ≤ 300
  omega
theorem rp_stk {n k : Int} {fss : List (List Int)} (S : StkOk n k fss) : RpOk (stkD n k fss) := by
  have n1 := S.n1
  have n8 := S.n8
  have k0 := S.k0
  have k4 := S.k4
  have hf : ∀ f ∈ fss, PyData.showable (tD f) = true ∧ PyData.leavesShort 13 (tD f) = true ∧ PyData.weight (tD f) ≤ 300 ∧ PyData.hasDict (tD f) = false := fun f hf => el_tD (S.len4 f hf) fun i hi => by
    have := S.bel f hf i hi
    omega
  have l70 := S.l70
  have hA : PyData.showableAll (fss.map tD) = true ∧ PyData.leavesShortAll 13 (fss.map tD) = true ∧ PyData.weightAll (fss.map tD) ≤ 301 * fss.length ∧ PyData.hasDictAll (fss.map tD) = false := by
    clear l70
    clear S
    induction fss with
    | nil => exact ⟨rfl, rfl, by simp [PyData.weightAll], rfl⟩
    | cons f fss ih =>
      obtain ⟨a1, a2, a3, a4⟩ := hf f List.mem_cons_self
      obtain ⟨b1, b2, b3, b4⟩ := ih fun g hg => hf g (List.mem_cons_of_mem _ hg)
      rw [List.map_cons, PyData.showableAll, PyData.leavesShortAll, PyData.weightAll, PyData.hasDictAll, a1, a2, a4, b1, b2, b4, List.length_cons]
      exact ⟨rfl, rfl, by omega, rfl⟩
  obtain ⟨b1, b2, b3, b4⟩ := hA
  have en := el_int (i := n) (by omega)
  have ek := el_int (i := k) (by omega)
  refine ⟨(fun i z => by cases z), (fun x z => by cases z), ?_, PyData.shown_fits (B := 13) (by decide) (by decide) (d := stkD n k fss) ?_ ?_, ?_, fun z => ?_⟩
  · show (PyData.showable (.int n) && (PyData.showable (.int k) && (PyData.showableAll (fss.map tD) && true))) = true
    rw [en.sh, ek.sh, b1]
    rfl
  · show (PyData.leavesShort 13 (.int n) && (PyData.leavesShort 13 (.int k) && (PyData.leavesShortAll 13 (fss.map tD) && true))) = true
    rw [en.lv, ek.lv, b2]
    rfl
  · have e : (2 : Nat) ^ 20 = 1048576 := by decide
    have w1 := en.wt
    have w2 := ek.wt
    unfold stkD
    simp only [PyData.weight, PyData.weightAll] at *
    omega
  · have := S.data.2.2
    omega
  · have z' : (PyData.hasDict (.int n) || (PyData.hasDict (.int k) || (PyData.hasDictAll (fss.map tD) || false))) = true := z
    rw [b4] at z'
    cases z'
theorem StkOk.last {n k : Int} {fss : List (List Int)} (S : StkOk n k fss) : StkOk n k (fss.drop (fss.length - 1)) := by
  have l1 := S.l1
  have l70 := S.l70
  have hm : ∀ f ∈ fss.drop (fss.length - 1), f ∈ fss := fun f hf => List.mem_of_mem_drop hf
  exact ⟨S.n1, S.n8, S.k0, S.kn, S.k4, by rw [List.length_drop]; omega, by rw [List.length_drop]; omega, fun f hf => S.len f (hm f hf), fun f hf => S.ris f (hm f hf), fun f hf => S.bel f (hm f hf), S.srt.sublist (List.drop_sublist _ _)⟩
/-! ### _law_came -/
section
variable {P : Program} {w : World} {K : PySem.W.Frag} {mg : Str → Option Value} {base : Heap} {Ps : Tbs} {H H' H0 : Hp} {k : Nat} {f c : Addr} {fd : FuncData}
variable {C : Nat → Addr} {CY CS CN : Addr}
/-- what a refusal comes to -/
def KE (K : PySem.W.Frag) (C : Nat → Addr) (CY : Addr) (Ps : Tbs) (Q : VK) : XK := fun cls dx H => dx = none ∧ ∃ i D, cls = .ref D ∧ Kind K C CY i D ∧ Tb Ps H ∧ ∀ H2, Ext Ps H H2 → Q (.str (wordOf i)) H2
theorem KE.at_ {Q : VK} {i : Nat} {D : Addr} (Z : Kind K C CY i D) (ht : Tb Ps H) (h : ∀ H2, Ext Ps H H2 → Q (.str (wordOf i)) H2) : KE K C CY Ps Q (.ref D) none H := ⟨rfl, i, D, rfl, Z, ht, h⟩
def spMayTake2 (K : PySem.W.Frag) (Ps : Tbs) (CS CN : Addr) : Sp := fun vs H Q E => spMayTake K Ps vs H Q E ∨ spMayTakeX K Ps CS CN vs H Q E
def spTakable2 (K : PySem.W.Frag) (Ps : Tbs) (CS : Addr) : Sp := fun vs H Q E => spTakable K Ps vs H Q E ∨ spTakableX K Ps CS vs H Q E
def Came70 (K : PySem.W.Frag) (Ps : Tbs) (CS CN : Addr) (wy : Int) (x y : V) (H : Hp) (Q : VK) (E : XK) : Prop := (wy = 0 → spMayTake2 K Ps CS CN [x, y] H Q E) ∧ (wy ≠ 0 → spTakable2 K Ps CS [x] H Q E)
def spCame70 (K : PySem.W.Frag) (Ps : Tbs) (C : Nat → Addr) (CY CS CN : Addr) : Sp := fun vs H Q _ => ∃ (wy : Int) (x y : V), vs = [.int wy, x, y] ∧ Came70 K Ps CS CN wy x y H Q (KE K C CY Ps Q)
end
end Lf

set_option maxHeartbeats 4000000
namespace Lf
open PySem PySem.Spec PyProof.Rows L2 GxR GxA SrT EnT
abbrev sUnP : Stmt := topS 34
abbrev nUnP : List Str := ["stack", "faces", "number", "face", "point", "lesser"]
theorem scUnP : FnScope nUnP ["stack"] (defScope sUnP) := ⟨rfl, rfl, rfl, by decide +kernel, rfl, by decide +kernel, by decide +kernel⟩
theorem lessL_one (f : List Int) (p : Int) : lessL f [p] = f.filter fun o => !decide (o = p) := by
  unfold lessL
  congr 1
  funext z
  simp
section
variable {P : Program} {w : World} {K : PySem.W.Frag} {mg : Str → Option Value} {base : Heap} {Ps : Tbs} {H H' H0 : Hp} {k : Nat} {f c : Addr} {fd : FuncData}
variable {CS : Addr}
def spUnP (K : PySem.W.Frag) (Ps : Tbs) : Sp := fun vs H Q _ => ∃ (x : V) (n kk : Int) (fss : List (List Int)), vs = [x] ∧ Stk K H x n kk fss ∧ StkOk n kk fss ∧ Tb Ps H ∧ ∀ v H', Ext Ps H H' → HeadV K H' (unP fss fss.length) v → Q v H'
theorem ok_unP {fS cS fL cL fU cU : Addr} {fdS fdL fdU : FuncData} (D : Def K mg "first_unpushed" sUnP ["stack"] f fd c) (DS : Def K mg "need_stack" sNeedStack ["stack"] fS fdS cS) (GS : FnOk P w K mg base CX0 (k) fS fdS ["stack"] (spNeedStack K Ps)) (DL : Def K mg "less" sLess ["face", "points"] fL fdL cL) (GL : FnOk P w K mg base CX0 (k) fL fdL ["face", "points"] (spLess K Ps)) (DU : Def K mg "put_for" sPutFor ["face", "point", "other"] fU fdU cU) (GU : FnOk P w K mg base CX0 (k) fU fdU ["face", "point", "other"] (spPutF K Ps)) (me : mg "enumerate" = none) (mt : mg "tuple" = none) (mr : mg "range" = none) : FnOk P w K mg base CX0 (k + 1) f fd ["stack"] (spUnP K Ps) := by
  refine D.ok (k := k) scUnP (fun vs H Q E h => ?_) (fun A outer s H vs Q E hr h => ?_)
  · obtain ⟨x, n, kk, fss, rfl, _⟩ := h
    rfl
  · obtain ⟨x, n, kk, fss, rfl, hS, S, ht, q⟩ := h
    refine ⟨_, (pss_cons (ps_expr (pcl DS GS hr (pa_cons (pv 0) pa_nil))) (pss_cons (ps_set (i := 1) scUnP.nd rfl (.inl rfl) (pe_ix (show IxR _ (rIxT K) from ix_tup) (pv 0) pe_int (fun _ _ => rfl))) (pss_cons (ps_for PassesOwn.never rfl (pi_enumT (by rfl) me (pa_cons (pv 1) pa_nil)) (pg_tup rfl (pgs_cons (pg_name (i := 2) scUnP.nd rfl (Or.inl rfl)) (pgs_cons (pg_name (i := 3) scUnP.nd rfl (Or.inl rfl)) pgs_nil))) (pss_one (ps_for PassesOwn.never rfl (pi_tup (pv 3)) (pg_name (i := 4) scUnP.nd rfl (Or.inl rfl)) (pss_one (ps_for PassesOwn.never rfl (pi_tup (pcl DL GL hr (pa_cons (pe_tupRg (by rfl) (by rfl) mt (prg_1 (by rfl) mr (pv 4))) (pa_cons (pv 3) pa_nil)))) (pg_name (i := 5) scUnP.nd rfl (Or.inl rfl)) (pss_one (ps_if (pt_cmpR (show OpR _ _ (rInTT K true) from op_notInTT hr.units) (pcl DU GU hr (pa_cons (pv 3) (pa_cons (pv 4) (pa_cons (pv 5) pa_nil)))) (pv 1) (by with_unfolding_all rfl)) (pss_one (ps_ret (pe_tup (pa_cons (pv 2) (pa_cons (pv 4) (pa_cons (pv 5) pa_nil)))))) pss_nil))))))) (pss_one (ps_ret pe_non))))), ?_⟩
    have n8 := S.n8
    refine ⟨x, rfl, x, n, kk, fss, rfl, hS, S, ht, fun H1 e1 => ?_⟩
    obtain ⟨a, fa, xs, rfl, h1, h2, h3⟩ := e1.stk hS
    have hxl := Paired.length h3
    refine ⟨.ref a, rfl, a, _, 2, .ref fa, rfl, rfl, h1, at2, ?_⟩
    refine ⟨.ref fa, rfl, fa, xs, rfl, h2, for_enT (K := K) (a := fa) (xs := xs) (fun i σ H3 => Ext Ps H1 H3 ∧ unP fss i = [] ∧ ∃ y2 y3 y4 y5 : Option V, σ = [some (.ref a), some (.ref fa), y2, y3, y4, y5]) ⟨Ext.refl e1.tb, rfl, _, _, _, _, rfl⟩ (fun i σ H3 p => p.1.sqT h2) (fun i u σ H3 T hu p hT => ?_) (fun σ H3 p => ?_)⟩
    · obtain ⟨e3, u3, y2, y3, y4, y5, rfl⟩ := p
      have eT := Ext.new (o := .tup [.int (i : Nat), u]) e3.tb hT
      have hT4 : SqT K (upd H3 T (.tup [.int (i : Nat), u])) T [.int (i : Nat), u] := .inl (.inl upd_same)
      have E4 := e3.trans eT
      generalize upd H3 T (.tup [.int (i : Nat), u]) = H4 at *
      obtain ⟨fc, hfc, hI⟩ := paired_get h3 hu
      have hfm := List.mem_of_getElem? hfc
      have hi : i < fss.length := (List.getElem?_eq_some_iff.mp hfc).1
      have f4 := S.len4 fc hfm
      have gD : fss.getD i [] = fc := by rw [List.getD_eq_getElem?_getD, hfc]; rfl
      obtain ⟨tu, rfl, hTu⟩ := id hI
      refine ⟨T, _, rfl, hT4, rfl, _, _, rfl, _, _, rfl, rfl, ?_⟩
      refine ⟨.ref tu, rfl, tu, rfl, ⟨_, E4.sqT hTu⟩, for_tup (K := K) (a := tu) (xs := fc.map V.int) (fun j σ H5 => Ext Ps H1 H5 ∧ rowP fss fc i (fc.take j) = [] ∧ ∃ y4 y5 : Option V, σ = [some (.ref a), some (.ref fa), some (.int (i : Nat)), some (.ref tu), y4, y5]) ⟨E4, rfl, _, _, rfl⟩ (fun j σ H5 _ p => p.1.sqT hTu) (fun j v σ H5 hv p => ?_) (fun σ H5 p => ?_)⟩
      · obtain ⟨e5, u5, y4, y5, rfl⟩ := p
        obtain ⟨pt, hpt, rfl⟩ := map_int hv
        obtain ⟨b0, b1⟩ := S.bel fc hfm pt (List.mem_of_getElem? hpt)
        have hj : j < fc.length := (List.getElem?_eq_some_iff.mp hpt).1
        refine ⟨.int pt, rfl, pt, rfl, RgOk.of_le (by omega) (by omega) (by omega) (by omega), fun l nl => ?_⟩
        have ept : pt = ((pt.toNat : Nat) : Int) := (Int.toNat_of_nonneg b0).symm
        have hrg : rgV 0 pt = (rng pt.toNat).map V.int := by
          have z := rng_V pt.toNat
          rw [← ept] at z
          exact z
        have e6 := Ext.new (o := .tup (rgV 0 pt)) e5.tb nl
        have hl6 : SqT K (upd H5 l (.tup (rgV 0 pt))) l ((rng pt.toNat).map V.int) := .inl (.inl (by rw [← hrg]; exact upd_same))
        generalize upd H5 l (.tup (rgV 0 pt)) = H6 at *
        have E6 := e5.trans e6
        refine ⟨.ref tu, rfl, .ref l, .ref tu, rng pt.toNat, fc, rfl, ⟨l, rfl, hl6⟩, E6.tupI hI, by rw [rng_len]; omega, E6.tb, fun w H7 e7 hw => ?_⟩
        obtain ⟨t, rfl, hT7⟩ := hw
        have E7 := E6.trans e7
        refine ⟨t, rfl, ⟨_, hT7⟩, for_tup (K := K) (a := t) (xs := (lessL (rng pt.toNat) fc).map V.int) (fun e σ H8 => Ext Ps H7 H8 ∧ ((lessL (rng pt.toNat) fc).take e).filter (fun l => !decide (putF fc pt l ∈ fss)) = [] ∧ ∃ y5 : Option V, σ = [some (.ref a), some (.ref fa), some (.int (i : Nat)), some (.ref tu), some (.int pt), y5]) ⟨Ext.refl e7.tb, rfl, _, rfl⟩ (fun e σ H8 _ p => p.1.sqT hT7) (fun e w σ H8 hw p => ?_) (fun σ H8 p => ?_)⟩
        · obtain ⟨e8, u8, y5, rfl⟩ := p
          obtain ⟨ls, hp, rfl⟩ := map_int hw
          have E8 := E7.trans e8
          refine ⟨.ref tu, rfl, .int pt, rfl, .int ls, rfl, .ref tu, pt, ls, fc, rfl, E8.tupI hI, by omega, e8.tb, fun w H9 e9 hw9 => ?_⟩
          have E9 := E8.trans e9
          refine ⟨.ref fa, rfl, fa, xs, _, fss, rfl, hw9, E9.sqT h2, E9.tups h3, !decide (putF fc pt ls ∈ fss), rfl, ?_⟩
          have ef := filt_take (fun l => !decide (putF fc pt l ∈ fss)) hp
          refine ite2 (fun hc => ?_) (fun hc => ?_)
          · refine ⟨.int (i : Nat), rfl, .int pt, rfl, .int ls, rfl, (by show 3 ≤ sizeLine; decide), fun r nr => ?_⟩
            have er := Ext.new (o := .tup [.int (i : Nat), .int pt, .int ls]) e9.tb nr
            have hce : (cellP fss fc i pt).head? = some [(i : Int), pt, ls] := filt_head u8 hp hc
            have hro : (rowP fss fc i fc).head? = some [(i : Int), pt, ls] := by
              have hs : fc = fc.take j ++ pt :: fc.drop (j + 1) := by
                conv => lhs; rw [← List.take_append_drop j fc, List.drop_eq_getElem_cons hj]
                rw [(List.getElem?_eq_some_iff.mp hpt).2]
              have key : ∀ ps, ps = fc.take j ++ pt :: fc.drop (j + 1) → (rowP fss fc i ps).head? = some [(i : Int), pt, ls] := fun ps e => by
                rw [e]
                show ((fc.take j ++ pt :: fc.drop (j + 1)).flatMap (cellP fss fc i)).head? = _
                exact flat_head u5 hce
              exact key fc hs
            have hun : (unP fss fss.length).head? = some [(i : Int), pt, ls] := by
              unfold unP
              rw [range_split hi]
              refine flat_head u3 ?_
              rw [gD]
              exact hro
            exact q _ _ (e1.trans (E9.trans er)) (.inr ⟨_, hun, r, rfl, .inl (.inl upd_same)⟩)
          · refine ⟨e8.trans e9, ?_, _, rfl⟩
            rw [ef, u8, if_neg hc]
            rfl
        · obtain ⟨e8, u8, y5, rfl⟩ := p
          rw [List.length_map, List.take_length] at u8
          refine ⟨E7.trans e8, ?_, _, _, rfl⟩
          have e : fc.take (j + 1) = fc.take j ++ [pt] := by rw [List.take_add_one, hpt]; rfl
          unfold rowP at u5 ⊢
          rw [e, List.flatMap_append, u5]
          show [] ++ (cellP fss fc i pt ++ []) = []
          unfold cellP
          rw [u8]
          rfl
      · obtain ⟨e5, u5, y4, y5, rfl⟩ := p
        rw [List.length_map, List.take_length] at u5
        refine ⟨e5, ?_, _, _, _, _, rfl⟩
        unfold unP at u3 ⊢
        rw [List.range_succ, List.flatMap_append, u3]
        show [] ++ (rowP fss (fss.getD i []) i (fss.getD i []) ++ []) = []
        rw [gD, u5]
        rfl
    · obtain ⟨e3, u3, y2, y3, y4, y5, rfl⟩ := p
      rw [hxl] at u3
      exact q _ _ (e1.trans e3) (.inl ⟨u3, rfl⟩)
def spUnP2 (K : PySem.W.Frag) (Ps : Tbs) (CS : Addr) : Sp := fun vs H Q E => spUnP K Ps vs H Q E ∨ spUnX K Ps CS vs H Q E
theorem ok_unPX {fS cS : Addr} {fdS : FuncData} (D : Def K mg "first_unpushed" sUnP ["stack"] f fd c) (DS : Def K mg "need_stack" sNeedStack ["stack"] fS fdS cS) (GS : FnOk P w K mg base (L2.CX P w) (k) fS fdS ["stack"] (spNeedStackX K Ps CS)) : FnOk P w K mg base (L2.CX P w) (k + 1) f fd ["stack"] (spUnX K Ps CS) := by
  refine D.okX (k := k) scUnP (fun vs H Q E h => ?_) (fun A outer s H vs Q E hr tk h => ?_)
  · obtain ⟨x, rfl, _⟩ := h
    rfl
  · obtain ⟨x, rfl, d, h1, h2, h3, h4, h5⟩ := h
    refine ⟨_, (pss_cons (ps_expr (pclX DS GS hr tk (pa_cons (pv 0) pa_nil))) (pss_cons ps_never (pss_cons ps_never (pss_one ps_never)))), ?_⟩
    exact ⟨x, rfl, x, d, rfl, h1, h2, h3, h4, h5⟩
/-! ### the law's own -/
def spLUn (un : List (List Int) → Nat → List (List Int)) (K : PySem.W.Frag) (Ps : Tbs) : Sp := fun vs H Q _ => ∃ (fa : Addr) (xs : List V) (n kk : Int) (fss : List (List Int)), vs = [.ref fa] ∧ SqT K H fa xs ∧ Paired (TupI K H) xs fss ∧ StkOk n kk fss ∧ Tb Ps H ∧ ∀ v H', Ext Ps H H' → HeadV K H' (un fss fss.length) v → Q v H'
end
end Lf

set_option maxHeartbeats 1000000
/-! sum(t), min(t) of a tuple of whole numbers. -/
namespace Lf
open PySem PySem.Spec PyProof.Rows L2
section
variable {prog : Program} {w : World} {A : Around} {E : Value → Shared → Prop} {s : Shared} {l : Addr} {xs : Array (Int × Tok)} {Q : Value → Shared → Prop}
theorem tup_old {h' : Heap} (hk : ∀ b o, b ∉ [s.heap.objs.size] → (s.heap.push { cls := .type "tuple_iterator", data := .fields #[.ref l, .int 0 0] }).get? b = some o → h'.get? b = some o) :
    ∀ b o, s.heap.get? b = some o → h'.get? b = some o := fun b o e =>
  hk b o (fun hm => Nat.ne_of_lt (Heap.lt_size e) (List.mem_singleton.mp hm)) (Heap.get?_push_of_some _ e)
theorem tup_begin (hl : s.heap.IsTuple l (intItems xs)) (h : ∀ s₂ : Shared, s₂ = { s with heap := s.heap.push { cls := .type "tuple_iterator", data := .fields #[.ref l, .int 0 0] } } → (s₂.heap.IsTupleIter s.heap.objs.size l 0 ∧ s₂.heap.IsTuple l (intItems xs)) → (∀ b ∈ [s.heap.objs.size, l], b < s₂.heap.objs.size) → l ≠ s.heap.objs.size → Q (.ref s.heap.objs.size) s₂) : wpAny (model prog w) A (pyIter (.ref l)) Q E s := by
  have hlt : l < s.heap.objs.size := by
    obtain ⟨_, e, _⟩ := id hl
    exact Heap.lt_size e
  refine wpAny_pyIter_tuple hl (h _ rfl ⟨⟨_, Heap.get?_push_size _ rfl, rfl, rfl⟩, hl.push _⟩ (fun b hb => ?_) (Nat.ne_of_lt hlt))
  show b < (s.heap.push _).objs.size
  rw [Heap.size_push]
  rcases List.mem_cons.mp hb with e | hb
  · rw [e]
    exact Nat.lt_succ_self _
  · rw [List.mem_singleton.mp hb]
    exact Nat.lt_succ_of_lt hlt
theorem tup_sum (hh : A.handled = none) (hl : s.heap.IsTuple l (intItems xs)) (h : ∀ h' tk t', (∀ b o, s.heap.get? b = some o → h'.get? b = some o) → Q (.int (preSum (numAt xs) xs.size) t') { s with heap := h', toks := tk }) : wpAny (model prog w) A (call (.builtin "sum") [.ref l]) Q E s := by
  refine call_sum_walkG (tup_begin hl fun s₂ e st hfp hlI => ?_)
  subst e
  refine ⟨_, _, _, _, _, _, numAt xs, rfl, Walks.tuple (A := A.in1) hh _ l hlI (intItems xs), st, hfp, (fun _ _ => intItems_at), fun h' tk t' hk => ?_⟩
  have z := h h' tk t' (tup_old hk)
  simpa [intItems] using z
theorem tup_min (hh : A.handled = none) (hl : s.heap.IsTuple l (intItems xs)) (hne : 0 < xs.size)
    (h : ∀ v h' tk, (intItems xs)[argBest (fun i j => decide (numAt xs i < numAt xs j)) (xs.size - 1)]? = some v → (∀ b o, s.heap.get? b = some o → h'.get? b = some o) → Q v { s with heap := h', toks := tk }) : wpAny (model prog w) A (call (.builtin "min") [.ref l]) Q E s := by
  refine call_min_walk (tup_begin hl fun s₂ e st hfp hlI => ?_)
  subst e
  refine ⟨_, _, _, _, _, _, _, rfl, Walks.tuple (A := A.in1) hh _ l hlI (intItems xs), st, hfp, by simpa [intItems] using hne, CmpOf.ints_lt (numAt xs) (fun _ _ => intItems_at), fun v h' tk hP hk => ?_⟩
  exact h v h' tk (by simpa [intItems] using hP) (tup_old hk)
end
section
variable {X : Cx}
def rSumT (K : PySem.W.Frag) : List V → Hp → VK → Prop := fun vs H Q => ∃ (a : Addr) (ns : List Int), vs = [V.ref a] ∧ SqT K H a (ns.map V.int) ∧ Q (.int ns.sum) H
def rMinT (K : PySem.W.Frag) : List V → Hp → VK → Prop := fun vs H Q => ∃ (a : Addr) (ns : List Int), vs = [V.ref a] ∧ SqT K H a (ns.map V.int) ∧ 0 < ns.length ∧ ∀ m, m ∈ ns → Q (.int m) H
theorem cr_sumT (hc : X.calm = true) : CallR X (.builtin "sum") (rSumT X.K) := by
  intro pins s σ H vs us Q I r h
  obtain ⟨a, ns, rfl, hs, q⟩ := h
  obtain ⟨its, rv, hl, _⟩ := I.tuple hs
  rw [Vals.ref1 r]
  have hi := rv.ints
  obtain ⟨xs, e⟩ := hi.allInts.items
  have hn : numsOf (intItems xs).toList = ns := by
    rw [← e]
    exact hi.numsOf
  rw [nums_intItems] at hn
  have hl' : s.heap.IsTuple a (intItems xs) := by
    rw [← e]
    exact hl
  refine tup_sum (I.ok.hd hc) hl' fun h' tk t' hk => ?_
  have z : preSum (numAt xs) xs.size = ns.sum := by rw [preSum_eq, List.take_of_length_le (by simp), hn]
  rw [z]
  exact ⟨.int _, H, I.kept hk, ⟨_, rfl⟩, q⟩
theorem cr_minT (hc : X.calm = true) : CallR X (.builtin "min") (rMinT X.K) := by
  intro pins s σ H vs us Q I r h
  obtain ⟨a, ns, rfl, hs, hne, q⟩ := h
  obtain ⟨its, rv, hl, _⟩ := I.tuple hs
  rw [Vals.ref1 r]
  have hi := rv.ints
  obtain ⟨xs, e⟩ := hi.allInts.items
  have hn : numsOf (intItems xs).toList = ns := by
    rw [← e]
    exact hi.numsOf
  rw [nums_intItems] at hn
  have hl' : s.heap.IsTuple a (intItems xs) := by
    rw [← e]
    exact hl
  have hsz : 0 < xs.size := by
    rw [← hn] at hne
    simpa using hne
  refine tup_min (I.ok.hd hc) hl' hsz fun v h' tk hv hk => ?_
  obtain ⟨t, rfl⟩ := intItems_at hv
  refine ⟨.int _, H, I.kept hk, ⟨_, rfl⟩, q _ ?_⟩
  have z := (Array.getElem?_eq_some_iff.mp hv).1
  rw [← hn, numAt_eq]
  exact PySem.getD_mem (by rw [List.length_map, Array.length_toList]; simpa [intItems] using z)
end
end Lf

set_option maxHeartbeats 4000000
namespace Lf
open PySem PySem.Spec PyProof.Rows L2 GxR GxA SrT EnT
theorem eqv_nilI (ns : List Int) : PyData.eqv (.list (iD ns)) (.list []) = ns.isEmpty := by
  cases ns with
  | nil => simp [iD, PyData.eqv, PyData.eqvAll]
  | cons g gs => simp [iD, PyData.eqv, PyData.eqvAll]
theorem shp_listI (ns : List Int) : SeqAt.shaped (.list (iD ns)) = true := by
  have h := shp_tup ns
  unfold SeqAt.shaped at h ⊢
  exact h
theorem tr_empty (fss : List (List Int)) (f g : List Int) (p : Int) : ((lessL g f).filter fun o => decide (putF f p o ∈ fss)).isEmpty = !trB fss f g p := by
  unfold trB
  rw [Bool.eq_iff_iff, List.isEmpty_iff, List.filter_eq_nil_iff, Bool.not_eq_true', List.any_eq_false]
theorem CP.putB {K : PySem.W.Frag} {Ps : Tbs} {β : Type} {F : Hp → V → β → Prop} {H0 H : Hp} {D : Addr} {out : List β} {n : Nat} (S : Stb K Ps F) (hD : H0 D = none) (hn : n ≤ 1000000) {y : V} {z : β} (h : CP Ps F H0 D out n H) (hF : F H y z) :
    ∃ acc, H D = some (.lst acc) ∧ acc.length < sizeLine ∧ CP Ps F H0 D (out ++ [z]) (n + 1) (upd H D (.lst (acc ++ [y]))) := by
  obtain ⟨ys, h1, h2, h3⟩ := h.at_
  refine ⟨ys, h1, ?_, ⟨h.ext.write hD h1 (fun q z => by cases z), ys ++ [y], upd_same, ?_, ?_⟩⟩
  · have hs : sizeLine = 16777216 := sizeLine_eq
    omega
  · refine paired_snoc (L2.Paired.mapP h2 fun _ _ z => S.put _ _ _ _ _ _ h1 z) (S.put _ _ _ _ _ _ h1 hF)
  · rw [List.length_append]
    exact Nat.add_le_add_right h3 1
section
variable {P : Program} {w : World} {K : PySem.W.Frag} {mg : Str → Option Value} {base : Heap} {Ps : Tbs} {H H' H0 : Hp} {k : Nat} {f c : Addr} {fd : FuncData}
end
end Lf

set_option maxHeartbeats 4000000
namespace Lf
open PySem PySem.Spec PyProof.Rows L2 GxR GxA SrT EnT
abbrev sPushed : Stmt := topS 67
theorem scPushed : FnScope ["_law_pen_here", "_law_n", "_law_k", "_law_left", "_law_tops", "_law_turn", "_law_found", "_law_face", "_law_low", "_law_top", "_law_at"] ["_law_pen_here", "_law_n", "_law_k"] (defScope sPushed) := ⟨rfl, rfl, rfl, by decide +kernel, rfl, by decide +kernel, by decide +kernel⟩
abbrev topC : Scope := { kind := .function, names := [(".0", .local), ("_law_top", .cell), ("range", .globalImplicit), ("_law_face", .cell), ("_law_k", .cell)], isGenerator := false, isCoroutine := false }
def gtL (f t : List Int) (e : Nat) : List Int := ((List.range e).filter fun i => decide (t.getD i 0 < f.getD i 0)).map fun i : Nat => (i : Int)
def leqB (kk : Nat) (f t : List Int) : Bool := (gtL f t kk).isEmpty
theorem gtL_succ (f t : List Int) (e : Nat) : gtL f t (e + 1) = gtL f t e ++ (if decide (t.getD e 0 < f.getD e 0) = true then [(e : Int)] else []) := by
  unfold gtL
  rw [List.range_succ, List.filter_append, List.map_append]
  congr 1
  have key : ∀ (p : Nat → Bool), (List.filter p [e]).map (fun i : Nat => (i : Int)) = if p e = true then [(e : Int)] else [] := fun p => by
    cases h : p e <;> simp [h]
  exact key fun i => decide (t.getD i 0 < f.getD i 0)
theorem gtL_len (f t : List Int) (e : Nat) : (gtL f t e).length ≤ e := by
  unfold gtL
  rw [List.length_map]
  exact Nat.le_trans (List.length_filter_le _ _) (by rw [List.length_range]; exact Nat.le_refl _)
theorem leq_self (kk : Nat) (f : List Int) : leqB kk f f = true := by
  unfold leqB gtL
  rw [List.isEmpty_iff, List.map_eq_nil_iff, List.filter_eq_nil_iff]
  intro i _
  simp
theorem every70 : ∀ n, n < 9 → ∀ k, k < 5 → ((subsL (rng n)).filter fun g => decide (g.length = k)).length ≤ 70 := by decide +kernel
theorem everyL_70 {n k : Nat} (h : n ≤ 8) (hk : k ≤ 4) : (everyL n k).length ≤ 70 := by
  unfold everyL
  rw [(sortL_perm _).length_eq]
  exact every70 n (by omega) k (by omega)
section
variable {P : Program} {w : World} {K : PySem.W.Frag} {mg : Str → Option Value} {base : Heap} {Ps : Tbs} {H H' H0 : Hp} {k : Nat} {f c : Addr} {fd : FuncData}
def spPushed (K : PySem.W.Frag) (Ps : Tbs) : Sp := fun vs H Q _ => ∃ (a : Addr) (n kk : Nat), vs = [.ref a, .int n, .int kk] ∧ Pen H a ∧ n ≤ 8 ∧ kk ≤ n ∧ kk ≤ 4 ∧ Tb Ps H ∧ ∀ (l : Addr) (ys : List V) (df : List (List Int)) (H' : Hp), Epn Ps a H H' → H l = none → H' l = some (.lst ys) → Paired (TupI K H') ys df → df.Nodup → (∀ g ∈ df, g ∈ everyL n kk) → 1 ≤ df.length → df.length ≤ 70 → Q (.ref l) H'
theorem ok_pushed {fD cD fE cE : Addr} {fdD fdE : FuncData} (D : Def K mg "_law_pushed" sPushed ["_law_pen_here", "_law_n", "_law_k"] f fd c) (DD : Def K mg "_law_draw" sDraw ["_law_pen_here", "_law_many"] fD fdD cD) (GD : FnOk P w K mg base CX0 (k) fD fdD ["_law_pen_here", "_law_many"] spDraw) (DE : Def K mg "_law_every" sEveryL ["_law_n", "_law_k"] fE fdE cE) (GE : FnOk P w K mg base CX0 (k) fE fdE ["_law_n", "_law_k"] (spEveryK K Ps)) (mr : mg "range" = none) (ml : mg "len" = none) : FnOk P w K mg base CX0 (k + 1) f fd ["_law_pen_here", "_law_n", "_law_k"] (spPushed K Ps) := by
  refine D.ok (k := k) scPushed (fun vs H Q E h => ?_) (fun A outer s H vs Q E hr h => ?_)
  · obtain ⟨a, n, kk, rfl, _⟩ := h
    rfl
  · obtain ⟨a, n, kk, rfl, hP, n8, hkn, hk4, ht, q⟩ := h
    refine ⟨_, (pss_cons (ps_set (i := 3) scPushed.nd rfl (.inr rfl) (pcl DE GE hr (pa_cons (pv 1) (pa_cons (pv 2) pa_nil)))) (pss_cons (ps_setLc (i := 4) (own := [("_law_turn", 5)]) (g := gName 5) (by rfl) scPushed.nd rfl rfl (by rfl) (pi_range1 (by rfl) mr (pa_cons pe_int pa_nil)) (blkOk_by (N := ["_law_pen_here", "_law_n", "_law_k", "_law_left", "_law_tops", "_law_turn", "_law_found", "_law_face", "_law_low", "_law_top", "_law_at"]) (sc := defScope sPushed) (by decide +kernel)) (fun _ _ _ _ _ => pg_name (i := 5) scPushed.nd rfl (Or.inl rfl)) (fun _ _ _ _ _ => pts_nil) (fun _ _ _ _ _ => (show PE _ _ (tOp (rIxL K) _ _) from pe_ix ix_list (pv 3) (pcl DD GD hr (pa_cons (pv 0) (pa_cons (pe_callB (call_lenS (K := K) rfl) (by rfl) ml PySem.boot_len (pa_cons (pv 3) pa_nil)) pa_nil))) (fun _ _ => rfl)))) (pss_cons (ps_set (i := 6) scPushed.nd rfl (.inl rfl) (pe_lst pa_nil)) (pss_cons (ps_for PassesOwn.never rfl (pi_list (pv 3)) (pg_name (i := 7) scPushed.nd rfl (.inr rfl)) (pss_cons (ps_setLc (i := 8) (own := [("_law_top", 9)]) (g := gName 9) (by rfl) scPushed.nd rfl rfl (by rfl) (pi_list (pv 4)) (blkOk_by (N := ["_law_pen_here", "_law_n", "_law_k", "_law_left", "_law_tops", "_law_turn", "_law_found", "_law_face", "_law_low", "_law_top", "_law_at"]) (sc := defScope sPushed) (by decide +kernel)) (fun _ _ _ _ _ => pg_name (i := 9) scPushed.nd rfl (Or.inr rfl)) (fun _ _ _ _ _ => pts_one (pt_cmpR (show OpR _ _ (rEqD K) from op_eqD hr.units) (pe_lc (own := [("_law_at", 10)]) (g := gName 10) (by rfl) scPushed.nd (pi_range1 (by rfl) mr (pa_cons (pv 2) pa_nil)) (blkOk_by (N := ["_law_pen_here", "_law_n", "_law_k", "_law_left", "_law_tops", "_law_turn", "_law_found", "_law_face", "_law_low", "_law_top", "_law_at"]) (sc := topC) (by decide +kernel)) (fun _ _ _ _ _ => pg_name (i := 10) scPushed.nd rfl (Or.inl rfl)) (fun _ _ _ _ _ => pts_one (pt_cmpR op_gt (show PE _ _ (tOp (rIxT K) _ _) from pe_ix ix_tup (pv 7) (pv 10) (fun _ _ => rfl)) (show PE _ _ (tOp (rIxT K) _ _) from pe_ix ix_tup (pv 9) (pv 10) (fun _ _ => rfl)) (by with_unfolding_all rfl))) (fun _ _ _ _ _ => pv 10)) (pe_lst pa_nil) (by with_unfolding_all rfl))) (fun _ _ _ _ _ => (pv 9))) (pss_one (ps_if (pt_cmpR (show OpR _ _ (rNeD K) from op_neD hr.units) (pv 8) (pe_lst pa_nil) (nomark _)) (pss_one (ps_expr (pe_bm PySem.F.plainAttrs_list PySem.F.slot_list_append PySem.F.type_list_append mt_append (pv 6) (pa_cons (pv 7) pa_nil)))) pss_nil)))) (pss_one (ps_ret (pv 6))))))), ?_⟩
    refine tseq_intro fun R hR => ?_
    refine ⟨.int n, rfl, .int kk, rfl, n, kk, rfl, n8, by omega, ht, fun L ls H1 e1 nL hL hls => ?_⟩
    show R [some (.ref a), some (.int n), some (.int kk), some (.ref L), none, none, none, none, none, none, none] H1
    rw [hR]
    clear hR
    have lenL := Paired.length hls
    have l70 := everyL_70 n8 hk4
    have lpos := every_pos n8 hk4 hkn
    have E1 := e1.epn hP
    have nLa : L ≠ a := by
      obtain ⟨u, v, e⟩ := hP
      exact (ne_of_none e nL).symm
    -- tops
    refine tseq_intro fun R hR => ?_
    refine ⟨2, rfl, by decide, by decide, fun D0 hD => ?_⟩
    have nDa : D0 ≠ a := by
      obtain ⟨u, v, e⟩ := E1.pen
      exact (ne_of_none e hD).symm
    refine lc_range (lo := 0) (n := (2 : Int).toNat) (fun i H3 => Epn Ps a H H3 ∧ H3 L = some (.lst ls) ∧ Paired (TupI K H3) ls (everyL n kk) ∧ ∃ (ds : List V) (df : List (List Int)), H3 D0 = some (.lst ds) ∧ Paired (TupI K H3) ds df ∧ (∀ g ∈ df, g ∈ everyL n kk) ∧ df.length = i) ?_ (fun i H3 hi p => ?_) (fun H3 p => ?_)
    · have x3 := Ext.new (o := .lst []) E1.tb hD
      exact ⟨E1.trans (x3.epn E1.pen), x3.lst hL, x3.tups hls, [], [], upd_same, .nil, (fun g hg => nomatch hg), rfl⟩
    · obtain ⟨E3, hL3, hls3, ds, df, hD3, hp3, hm3, hl3⟩ := p
      have hi2 : i < 2 := hi
      refine ⟨rfl, yes_ (iteT ⟨.ref L, rfl, .ref a, rfl, .ref L, rfl, L, ls, rfl, .inl (.inl (.inl hL3)), a, _, rfl, E3.pen, by omega, by omega, fun u2 f2 r2 r20 r21 => ?_⟩)⟩
      have e4 : Epn Ps a H3 (upd H3 a (.lst [.int u2, .int f2])) := Epn.draw E3.tb E3.pen
      have E4 := E3.trans e4
      have hL4 := e4.lst nLa hL3
      have hls4 := e4.tups hls3
      have hD4 := e4.lst nDa hD3
      have hp4 := e4.tups hp3
      generalize upd H3 a (.lst [.int u2, .int f2]) = H4 at *
      obtain ⟨o, rfl⟩ := Int.eq_ofNat_of_zero_le r20
      have ho : o < ls.length := by omega
      obtain ⟨g, hg, hI⟩ := paired_get hls4 (List.getElem?_eq_getElem ho)
      refine ⟨L, ls, (o : Nat), ls[o], rfl, rfl, .inl (.inl hL4), atI_nat (List.getElem?_eq_getElem ho), ds, hD4, small1000 (by rw [Paired.length hp4]; omega), ?_⟩
      have dL : L ≠ D0 := by
        intro z
        rw [z] at hL
        rw [hL] at hD
        cases hD
      refine ⟨E4.write (e1.free hD) hD4 (fun q z => by cases z), by rw [upd_ne dL]; exact hL4, L2.Paired.mapP hls4 fun _ _ z => tupI_put hD4 z, ds ++ [ls[o]], df ++ [g], upd_same, paired_snoc (L2.Paired.mapP hp4 fun _ _ z => tupI_put hD4 z) (tupI_put hD4 hI), fun z hz => ?_, by rw [List.length_append, hl3]; rfl⟩
      rcases List.mem_append.mp hz with h | h
      · exact hm3 z h
      · rw [List.mem_singleton.mp h]
        exact List.mem_of_getElem? hg
    obtain ⟨E3, hL3, hls3, ds, df, hD3, hp3, hm3, hl3⟩ := p
    show R [some (.ref a), some (.int n), some (.int kk), some (.ref L), some (.ref D0), none, none, none, none, none, none] H3
    rw [hR]
    clear hR
    -- found
    refine tseq_intro fun R hR => ?_
    refine ⟨Nat.zero_le _, fun l nl => ?_⟩
    show R [some (.ref a), some (.int n), some (.int kk), some (.ref L), some (.ref D0), none, some (.ref l), none, none, none, none] (upd H3 l (.lst []))
    rw [hR]
    clear hR
    refine tseq_intro fun R hR => ?_
    refine ⟨.ref L, rfl, L, rfl, ⟨_, (Ext.new (o := .lst []) E3.tb nl).sqL (.inl (.inl hL3))⟩, for_list (K := K) (a := L) (xs := ls) (fun i σ H5 => CP Ps (TupI K) H3 l (((everyL n kk).take i).filter fun g => !(df.filter fun t => leqB kk g t).isEmpty) i H5 ∧ ∃ y5 y7 y8 y9 y10 : Option V, σ = [some (.ref a), some (.int n), some (.int kk), some (.ref L), some (.ref D0), y5, some (.ref l), y7, y8, y9, y10]) ⟨CP.start E3.tb nl, _, _, _, _, _, rfl⟩ (fun i σ H5 _ p => p.1.ext.sqL (.inl (.inl hL3))) (fun i u σ H5 hu p => ?_) (fun σ H5 p => ?_)⟩
    · obtain ⟨c5, y5, y7, y8, y9, y10, rfl⟩ := p
      obtain ⟨fc, hfc, hI⟩ := paired_get hls3 hu
      have hfe := mem_everyL.mp (List.mem_of_getElem? hfc)
      have hi : i < ls.length := (List.getElem?_eq_some_iff.mp hu).1
      obtain ⟨tf, rfl, hTf⟩ := id hI
      refine tseq_intro fun R hR => ?_
      refine ⟨.ref D0, rfl, D0, rfl, ⟨_, .inl (.inl (c5.ext.lst hD3))⟩, fun D1 hD1 => lc_list (K := K) (a := D0) (xs := ds) (fun j H6 => CP Ps (TupI K) H5 D1 ((df.take j).filter fun t => leqB kk fc t) j H6) (CP.start c5.ext.tb hD1) (fun j H6 _ p => p.ext.sqL (.inl (.inl (c5.ext.lst hD3)))) (fun j v H6 hv p6 => ?_) (fun H6 p6 => ?_)⟩
      · obtain ⟨gc, hgc, hJ⟩ := paired_get hp3 hv
        have hge := mem_everyL.mp (hm3 gc (List.mem_of_getElem? hgc))
        have hj : j < df.length := (List.getElem?_eq_some_iff.mp hgc).1
        obtain ⟨tg, rfl, hTg⟩ := id hJ
        have E6 := c5.ext.trans p6.ext
        have hl2 : df.length = 2 := hl3
        refine ⟨rfl, .int kk, rfl, kk, rfl, by omega, by omega, fun D2 hD2 => lc_range (lo := 0) (n := ((kk : Nat) : Int).toNat) (fun e H7 => CP Ps FI H6 D2 (gtL fc gc e) e H7) (CP.start p6.ext.tb hD2) (fun e H7 he p7 => ?_) (fun H7 p7 => ?_)⟩
        · have he' : e < kk := by omega
          have e0 : (0 : Int) + (e : Nat) = (e : Nat) := by omega
          have E7 := E6.trans p7.ext
          have at_ : ∀ (h : List Int), h.length = kk → (h.map V.int)[e]? = some (.int (h.getD e 0)) := fun h hh => by
            rw [List.getElem?_map, List.getD_eq_getElem?_getD, List.getElem?_eq_getElem (by omega)]
            rfl
          refine ⟨rfl, .ref tf, rfl, .int (0 + (e : Nat)), rfl, tf, _, 0 + (e : Nat), .int (fc.getD e 0), rfl, rfl, E7.sqT hTf, ?_, .ref tg, rfl, .int (0 + (e : Nat)), rfl, tg, _, 0 + (e : Nat), .int (gc.getD e 0), rfl, rfl, E7.sqT hTg, ?_, _, _, rfl, rfl, decide (gc.getD e 0 < fc.getD e 0), rfl, ?_⟩
          · rw [e0]
            exact atI_nat (at_ fc hfe.2)
          · rw [e0]
            exact atI_nat (at_ gc hge.2)
          have es := gtL_succ fc gc e
          refine ite2 (fun hc => ?_) (fun hc => ?_)
          · rw [if_pos hc] at es
            refine ⟨.int (0 + (e : Nat)), rfl, ?_⟩
            rw [e0]
            have r := CP.put (stbI (K := K)) hD2 (by omega) p7 (show FI H7 (.int (e : Nat)) (e : Nat) from rfl)
            rw [es]
            exact r
          · rw [if_neg hc, List.append_nil] at es
            rw [es]
            exact p7.mono (Nat.le_succ e)
        · obtain ⟨zs, r1, r2, r3⟩ := p7.at_
          rw [Int.toNat_natCast] at r2
          rw [paired_ints r2] at r1
          refine ⟨Nat.zero_le _, fun l0 nl0 => ?_⟩
          have x0 := Ext.new (o := .lst []) p7.ext.tb nl0
          refine ⟨.list (iD (gtL fc gc kk)), .list [], .lst (x0.sqL (.inl (.inl r1))) (dp_ints _), .lst (xs := []) (.inl (.inl upd_same)) .nil, shp_listI _, rfl, leqB kk fc gc, by rw [eqv_nilI]; rfl, ?_⟩
          have p8 := p6.skip (stbT (K := K)) (p7.ext.trans x0)
          have ef := filt_take (fun t => leqB kk fc t) hgc
          refine ite2 (fun hc => ?_) (fun hc => ?_)
          · rw [if_pos hc] at ef
            refine ⟨.ref tg, rfl, ?_⟩
            have r := CP.put (stbT (K := K)) hD1 (by omega) p8 ((c5.ext.trans p8.ext).tupI hJ)
            rw [ef]
            exact r
          · rw [if_neg hc, List.append_nil] at ef
            rw [ef]
            exact p8.mono (Nat.le_succ j)
      obtain ⟨zs, g1, g2, g3⟩ := p6.at_
      rw [Paired.length hp3, List.take_length] at g2
      have c6 := c5.skip (stbT (K := K)) p6.ext
      show R [some (.ref a), some (.int n), some (.int kk), some (.ref L), some (.ref D0), y5, some (.ref l), some (.ref tf), some (.ref D1), y9, y10] H6
      rw [hR]
      clear hR
      refine ⟨.ref D1, rfl, Nat.zero_le _, fun l0 nl0 => ?_⟩
      have x0 := Ext.new (o := .lst []) p6.ext.tb nl0
      refine ⟨.list ((df.filter fun t => leqB kk fc t).map tD), .list [], .lst (x0.sqL (.inl (.inl g1))) (dp_tups (x0.tups g2)), .lst (xs := []) (.inl (.inl upd_same)) .nil, shp_tups _, rfl, _, rfl, ?_⟩
      rw [eqv_nil]
      have c7 := c6.skip (stbT (K := K)) x0
      generalize upd H6 l0 (.lst []) = H7 at *
      have ef := filt_take (fun g => !(df.filter fun t => leqB kk g t).isEmpty) hfc
      refine ite2 (fun hc => ?_) (fun hc => ?_)
      · rw [if_pos hc] at ef
        obtain ⟨acc, ha, hlen, cP⟩ := CP.put (stbT (K := K)) nl (by omega) c7 (c7.ext.tupI hI)
        refine ⟨.ref l, rfl, .inl ⟨rfl, _, .inl (.inl ha)⟩, .ref tf, rfl, l, acc, .ref tf, rfl, rfl, ha, hlen, ?_, _, _, _, _, _, rfl⟩
        rw [ef]
        exact cP
      · rw [if_neg hc, List.append_nil] at ef
        refine ⟨?_, _, _, _, _, _, rfl⟩
        rw [ef]
        exact c7.mono (Nat.le_succ i)
    obtain ⟨c5, y5, y7, y8, y9, y10, rfl⟩ := p
    show R [some (.ref a), some (.int n), some (.int kk), some (.ref L), some (.ref D0), y5, some (.ref l), y7, y8, y9, y10] H5
    rw [hR]
    clear hR
    rw [lenL, List.take_length] at c5
    obtain ⟨zs, g1, g2, g3⟩ := c5.at_
    refine ⟨.ref l, rfl, q l zs _ _ (E3.trans (c5.ext.epn E3.pen)) (E3.free nl) g1 g2 ((nodup_everyL n kk).filter _) (fun g hg => (List.mem_filter.mp hg).1) ?_ (Nat.le_trans (List.length_filter_le _ _) l70)⟩
    have hl2 : df.length = 2 := hl3
    cases df with
    | nil => cases hl2
    | cons t df =>
      refine List.length_pos_of_mem (a := t) (List.mem_filter.mpr ⟨hm3 t List.mem_cons_self, ?_⟩)
      rw [List.filter_cons_of_pos (leq_self kk t)]
      rfl
end
end Lf

set_option maxHeartbeats 2000000
/-! things that can be looked at, and shown -/
namespace Lf
open PySem PySem.Spec PyProof.Rows L2 GxR GxA SrT
def Good (d : PyData) : Prop := wide d = true ∧ RpOk d
def Gd0 (e : PyData) : Prop := wide e = true ∧ El e ∧ e.hasDict = false
theorem gd_int {i : Int} (h : i.natAbs < 1000) : Gd0 (.int i) := ⟨rfl, el_int (by omega), rfl⟩
theorem gd_ints {ns : List Int} (h : ∀ i ∈ ns, i.natAbs < 1000) : ∀ e ∈ iD ns, Gd0 e := fun e he => by
  obtain ⟨i, hi, rfl⟩ := List.mem_map.mp he
  exact gd_int (h i hi)
theorem gd_app {xs ys : List PyData} (h1 : ∀ e ∈ xs, Gd0 e) (h2 : ∀ e ∈ ys, Gd0 e) : ∀ e ∈ xs ++ ys, Gd0 e := fun e he => (List.mem_append.mp he).elim (h1 e) (h2 e)
theorem gd_one {e : PyData} (h : Gd0 e) : ∀ x ∈ [e], Gd0 x := fun x hx => by rw [List.mem_singleton.mp hx]; exact h
theorem gd_none : Gd0 .none := ⟨rfl, el_none, rfl⟩
theorem gd_bool (b : Bool) : Gd0 (.bool b) := ⟨rfl, el_bool b, rfl⟩
theorem gd_str0 : Gd0 (.str "0") := ⟨rfl, el_str0, rfl⟩
theorem good_t {ds : List PyData} (h : ∀ e ∈ ds, Gd0 e) (hl : ds.length ≤ 1000) : Good (.tuple ds) := ⟨wide_t hl fun d hd => (h d hd).1, rp_t0 (fun e he => (h e he).2) hl⟩
theorem good_l {ds : List PyData} (h : ∀ e ∈ ds, Gd0 e) (hl : ds.length ≤ 1000) : Good (.list ds) := ⟨wide_l hl fun d hd => (h d hd).1, rp_l0 (fun e he => (h e he).2) hl⟩
theorem good_none : Good .none := ⟨rfl, rp_none⟩
theorem good_dict : Good (.dict []) := ⟨rfl, rp_dict⟩
theorem good_str0 : Good (.str "0") := ⟨rfl, (fun i z => by cases z), (fun x z => by cases z; decide +kernel), rfl, by decide +kernel, by simp [PyData.depth], (fun z => by cases z)⟩
theorem good_int {i : Int} (h : i.natAbs < 1000) : Good (.int i) := by
  have hl : i.natAbs.log2 < 40 := by
    by_cases e : i.natAbs = 0
    · rw [e]; decide
    · exact (Nat.log2_lt e).mpr (by have : (2 : Nat) ^ 40 = 1099511627776 := by decide
                                    omega)
  have E := el_int (i := i) (by omega)
  refine ⟨rfl, (fun j z => by cases z; omega), (fun x z => by cases z), E.sh, PyData.shown_fits (B := 13) (by decide) (by decide) (d := .int i) E.lv ?_, by simp [PyData.depth], fun z => by cases z⟩
  have := E.wt
  omega
theorem good_tb : Good (.tuple [.bool true]) := good_t (gd_one (gd_bool _)) (by decide)
theorem good_tt {ns : List Int} (hl : ns.length ≤ 8) (hb : ∀ i ∈ ns, i.natAbs < 1000) : Good (.tuple [.tuple (iD ns)]) := by
  have g := gd_ints hb
  have E : ∀ e ∈ iD ns, El e := fun e he => (g e he).2.1
  refine ⟨wide_t (show 1 ≤ 1000 by decide) fun d hd => ?_, (fun i z => by cases z), (fun x z => by cases z), ?_, PyData.shown_fits (B := 13) (by decide) (by decide) (d := .tuple [.tuple (iD ns)]) ?_ ?_, ?_, fun z => ?_⟩
  · rw [List.mem_singleton.mp hd]
    exact wide_tD (by omega)
  · simp [PyData.showable, PyData.showableAll, showAll E]
  · simp [PyData.leavesShort, PyData.leavesShortAll, leafAll E]
  · have := wtAll E
    rw [List.length_map] at this
    simp only [PyData.weight, PyData.weightAll]
    omega
  · have := dpAll_le E
    simp only [PyData.depth, PyData.depthAll]
    omega
  · have hd := noDictAll fun e he => (g e he).2.2
    simp [PyData.hasDict, PyData.hasDictAll, hd] at z
theorem cutD_ints (ns : List Int) (lo hi : Option Int) : ∃ us, cutD (iD ns) lo hi = iD us ∧ us.Sublist ns := by
  unfold cutD
  refine ⟨(ns.drop (HT.sIx (iD ns).length 0 lo)).take (HT.sIx (iD ns).length (iD ns).length hi - HT.sIx (iD ns).length 0 lo), ?_, (List.take_sublist _ _).trans (List.drop_sublist _ _)⟩
  rw [iD, ← List.map_drop, ← List.map_take]
end Lf

set_option maxHeartbeats 2000000
namespace Lf
open PySem PySem.Spec PyProof.Rows L2 GxR GxA SrT
/-! ### a thing that has no list at the pen stays -/
section
variable {K : PySem.W.Frag} {Ps : Tbs} {H H' : Hp} {F : Addr → Prop} {a : Addr}
mutual
theorem Epn.th (e : Epn Ps a H H') (hF : ∀ b, F b → b ≠ a) : ∀ {d : PyData} {x : V}, ThF K H F x d → ThF K H' F x d
  | .none, _, h => by cases h; exact .non
  | .bool b, _, h => by cases h; exact .bl b
  | .int i, _, h => by cases h; exact .int i
  | .str y, _, h => by cases h; exact .str y
  | .list ds, _, h => by
    cases h with
    | lst hf hs ha => exact .lst hf (e.sqL (hF _ hf) hs) (Epn.thAll e hF ha)
  | .tuple ds, _, h => by
    cases h with
    | tup hs ha => exact .tup (e.sqT hs) (Epn.thAll e hF ha)
  | .dict _, _, h => by
    cases h with
    | dic hf hd => exact .dic hf (e.old _ _ (hF _ hf) hd fun q z => by cases z)
theorem Epn.thAll (e : Epn Ps a H H') (hF : ∀ b, F b → b ≠ a) : ∀ {ds : List PyData} {xs : List V}, ThAllF K H F xs ds → ThAllF K H' F xs ds
  | [], _, h => by cases h; exact .nil
  | d :: ds, _, h => by
    cases h with
    | cons h1 h2 => exact .cons (Epn.th e hF h1) (Epn.thAll e hF h2)
end
end
theorem ne_no {x y : V} (e : x = y) : V.bl (!decide (x = y)) = V.bl false := by
  rw [decide_eq_true e]
  rfl
end Lf

set_option maxHeartbeats 8000000
namespace Lf
open PySem PySem.Spec PyProof.Rows L2 GxR GxA SrT
theorem oddDs_in {n : Int} (h : n ≤ 8) : ∀ d ∈ ([.none, .bool true, .int (-1), .int n, .str "0", .tuple [.int 0], .int (10 ^ (30 : Int).toNat)] : List PyData), intIn d 0 (n - 1) = false := by
  intro d hd
  have ii : ∀ i : Int, (i < 0 ∨ n - 1 < i) → intIn (.int i) 0 (n - 1) = false := fun i h => by
    show (decide (0 ≤ i) && decide (i ≤ n - 1)) = false
    rcases h with h | h
    · rw [decide_eq_false (show ¬ 0 ≤ i by omega)]
      rfl
    · rw [decide_eq_false (show ¬ i ≤ n - 1 by omega), Bool.and_false]
  have big : (1000 : Int) < 10 ^ (30 : Int).toNat := by decide
  simp only [List.mem_cons, List.not_mem_nil, or_false] at hd
  rcases hd with rfl | rfl | rfl | rfl | rfl | rfl | rfl
  · rfl
  · rfl
  · exact ii _ (.inl (by omega))
  · exact ii _ (.inr (by omega))
  · rfl
  · rfl
  · exact ii _ (.inr (Int.lt_of_le_of_lt (show n - 1 ≤ 1000 by omega) big))
theorem oddDs_wide {n : Int} : ∀ d ∈ ([.none, .bool true, .int (-1), .int n, .str "0", .tuple [.int 0], .int (10 ^ (30 : Int).toNat)] : List PyData), wide d = true := by
  intro d hd
  simp only [List.mem_cons, List.not_mem_nil, or_false] at hd
  rcases hd with rfl | rfl | rfl | rfl | rfl | rfl | rfl <;> rfl
def badNs (n kk : Int) (fss : List (List Int)) (fc u1 u2 : List Int) (od : PyData) (j : Nat) : List PyData := [.tuple [.int n, .int kk, .tuple ((((fss.map tD).take j) ++ [.tuple (((iD u1) ++ [od]) ++ (iD u2))]) ++ ((fss.map tD).drop (j + 1)))], .tuple [.int n, .int kk, .tuple ((((fss.map tD).take j) ++ [.list (iD fc)]) ++ ((fss.map tD).drop (j + 1)))], .tuple [.int n, .int kk, .tuple ((((fss.map tD).take j) ++ [.tuple (iD fc), .tuple (iD fc)]) ++ ((fss.map tD).drop (j + 1)))], .tuple [.int n, .int kk, .tuple ((fss.map tD) ++ ((fss.map tD).take 1))], .tuple [.int n, .int kk, .list (fss.map tD)], .tuple [.int n, .int kk, .tuple []], .tuple [.int 0, .int kk, .tuple (fss.map tD)], .tuple [.int 9, .int kk, .tuple (fss.map tD)], .tuple [.int n, .int 5, .tuple (fss.map tD)], .tuple [.int n, .int (kk + 1), .tuple (fss.map tD)], .tuple [.int n, .int (kk - 1), .tuple (fss.map tD)], .tuple [.bool true, .int kk, .tuple (fss.map tD)], .tuple [.int n, .none, .tuple (fss.map tD)], .list [.int n, .int kk, .tuple (fss.map tD)], .tuple [.int n, .int kk], .none, .tuple [.int n, .int kk, .tuple (fss.map tD), .int 0], .int 7, .str "3 2: 01 02 12", .dict []]
theorem badNs_ok {n kk : Int} {fss : List (List Int)} {fc u1 u2 : List Int} {od : PyData} {j : Nat} (S : StkOk n kk fss) (hj : fss[j]? = some fc) (l1' : u1.length ≤ 8) (l2' : u2.length ≤ 8) (ho1 : intIn od 0 (n - 1) = false) (ho2 : wide od = true) : ∀ d ∈ badNs n kk fss fc u1 u2 od j, isStackD d = false ∧ wide d = true := by
  have hm := List.mem_of_getElem? hj
  have l1 := S.l1
  have l70 := S.l70
  have h4 := S.len4 fc hm
  have wf : wide (.tuple (fss.map tD)) = true := wide_t (by rw [List.length_map]; omega) fun d hd => by
    obtain ⟨g, hg, rfl⟩ := List.mem_map.mp hd
    exact wide_tD (by have := S.len4 g hg; omega)
  have w3 : ∀ {x y z : PyData}, wide x = true → wide y = true → wide z = true → wide (.tuple [x, y, z]) = true := fun h1 h2 h3 => wide_t (by show 3 ≤ 1000; decide) fun d hd => by
    simp only [List.mem_cons, List.not_mem_nil, or_false] at hd
    rcases hd with rfl | rfl | rfl <;> assumption
  have i3 : ∀ i : Int, wide (.int i) = true := fun i => rfl
  intro d hd
  unfold badNs at hd
  simp only [List.mem_cons, List.not_mem_nil, or_false] at hd
  rcases hd with rfl | rfl | rfl | rfl | rfl | rfl | rfl | rfl | rfl | rfl | rfl | rfl | rfl | rfl | rfl | rfl | rfl | rfl | rfl | rfl
  · refine ⟨bad_of fun n' k' g e S' => ?_, w3 (i3 _) (i3 _) (wide_t (by simp only [List.length_append, List.length_take, List.length_drop, List.length_map, List.length_cons, List.length_nil]; omega) fun d hd => ?_)⟩
    · simp only [stkD, PyData.tuple.injEq, List.cons.injEq, PyData.int.injEq, and_true] at e
      have hx : PyData.tuple ((iD u1 ++ [od]) ++ iD u2) ∈ g.map tD := by
        rw [← e.2.2]
        exact List.mem_append_left _ (List.mem_append_right _ (List.mem_singleton.mpr rfl))
      obtain ⟨y, hy1, hy⟩ := List.mem_map.mp hx
      injection hy with hy
      have hm2 : od ∈ iD y := by
        rw [hy]
        simp
      obtain ⟨z, hz, rfl⟩ := List.mem_map.mp hm2
      have := S'.bel y hy1 z hz
      rw [show intIn (.int z) 0 (n - 1) = (decide (0 ≤ z) && decide (z ≤ n - 1)) from rfl, decide_eq_true this.1, decide_eq_true (show z ≤ n - 1 by omega)] at ho1
      cases ho1
    · rcases List.mem_append.mp hd with hd | hd
      · rcases List.mem_append.mp hd with hd | hd
        · exact (wide_tup wf).2 d (List.mem_of_mem_take hd)
        · rw [List.mem_singleton.mp hd]
          refine wide_t (by simp only [iD, List.length_append, List.length_map, List.length_cons, List.length_nil]; omega) fun d hd => ?_
          rcases List.mem_append.mp hd with hd | hd
          · rcases List.mem_append.mp hd with hd | hd
            · obtain ⟨i, _, rfl⟩ := List.mem_map.mp hd
              rfl
            · rw [List.mem_singleton.mp hd]
              exact ho2
          · obtain ⟨i, _, rfl⟩ := List.mem_map.mp hd
            rfl
      · exact (wide_tup wf).2 d (List.mem_of_mem_drop hd)
  · refine ⟨bad_of fun n' k' g e S' => ?_, w3 (i3 _) (i3 _) (wide_t (by simp only [List.length_append, List.length_take, List.length_drop, List.length_map, List.length_cons, List.length_nil]; omega) fun d hd => ?_)⟩
    · simp only [stkD, PyData.tuple.injEq, List.cons.injEq, PyData.int.injEq, and_true] at e
      have hx : PyData.list (iD fc) ∈ g.map tD := by
        rw [← e.2.2]
        simp
      obtain ⟨y, _, hy⟩ := List.mem_map.mp hx
      cases hy
    · rcases List.mem_append.mp hd with hd | hd
      · rcases List.mem_append.mp hd with hd | hd
        · exact (wide_tup wf).2 d (List.mem_of_mem_take hd)
        · rw [List.mem_singleton.mp hd]
          exact wide_l (by rw [List.length_map]; omega) fun d hd => by
            obtain ⟨i, _, rfl⟩ := List.mem_map.mp hd
            rfl
      · exact (wide_tup wf).2 d (List.mem_of_mem_drop hd)
  · refine ⟨bad_of fun n' k' g e S' => ?_, w3 (i3 _) (i3 _) (wide_t (by simp only [List.length_append, List.length_take, List.length_drop, List.length_map, List.length_cons, List.length_nil]; omega) fun d hd => ?_)⟩
    · simp only [stkD, PyData.tuple.injEq, List.cons.injEq, PyData.int.injEq, and_true] at e
      have eg : (fss.take j ++ [fc, fc]) ++ fss.drop (j + 1) = g := tDs_inj (by rw [List.map_append, List.map_append, ← e.2.2, List.map_take, List.map_drop]; rfl)
      have z := S'.srt
      rw [← eg, List.pairwise_append, List.pairwise_append] at z
      have z2 := z.1.2.1
      rw [List.pairwise_cons] at z2
      have z3 := z2.1 fc (by simp)
      rw [SrT.lex_irrefl] at z3
      cases z3
    · rcases List.mem_append.mp hd with hd | hd
      · rcases List.mem_append.mp hd with hd | hd
        · exact (wide_tup wf).2 d (List.mem_of_mem_take hd)
        · simp only [List.mem_cons, List.not_mem_nil, or_false] at hd
          rcases hd with rfl | rfl <;> exact wide_tD (by omega)
      · exact (wide_tup wf).2 d (List.mem_of_mem_drop hd)
  · refine ⟨bad_of fun n' k' g e S' => ?_, w3 (i3 _) (i3 _) (wide_t (by simp only [List.length_append, List.length_take, List.length_map]; omega) fun d hd => ?_)⟩
    · simp only [stkD, PyData.tuple.injEq, List.cons.injEq, PyData.int.injEq, and_true] at e
      have eg : fss ++ fss.take 1 = g := tDs_inj (by rw [List.map_append, ← e.2.2, List.map_take])
      have z := S'.srt
      rw [← eg, List.pairwise_append] at z
      cases fss with
      | nil => simp at l1
      | cons h t =>
        have z2 := z.2.2 h (by simp) h (by simp)
        rw [SrT.lex_irrefl] at z2
        cases z2
    · rcases List.mem_append.mp hd with hd | hd
      · exact (wide_tup wf).2 d hd
      · exact (wide_tup wf).2 d (List.mem_of_mem_take hd)
  · refine ⟨bad_of fun n' k' g e S' => ?_, w3 (i3 _) (i3 _) (wide_l (by rw [List.length_map]; omega) (wide_tup wf).2)⟩
    simp only [stkD, PyData.tuple.injEq, List.cons.injEq] at e
    exact nomatch e.2.2.1
  · refine ⟨bad_of fun n' k' g e S' => ?_, w3 (i3 _) (i3 _) rfl⟩
    simp only [stkD, PyData.tuple.injEq, List.cons.injEq, PyData.int.injEq, and_true] at e
    have z := congrArg List.length e.2.2
    rw [List.length_map] at z
    have := S'.l1
    simp at z
    omega
  · refine ⟨bad_of fun n' k' g e S' => ?_, w3 (i3 _) (i3 _) wf⟩
    simp only [stkD, PyData.tuple.injEq, List.cons.injEq, PyData.int.injEq] at e
    have := S'.n1
    omega
  · refine ⟨bad_of fun n' k' g e S' => ?_, w3 (i3 _) (i3 _) wf⟩
    simp only [stkD, PyData.tuple.injEq, List.cons.injEq, PyData.int.injEq] at e
    have := S'.n8
    omega
  · refine ⟨bad_of fun n' k' g e S' => ?_, w3 (i3 _) (i3 _) wf⟩
    simp only [stkD, PyData.tuple.injEq, List.cons.injEq, PyData.int.injEq] at e
    have := S'.k4
    omega
  · refine ⟨bad_of fun n' k' g e S' => ?_, w3 (i3 _) (i3 _) wf⟩
    simp only [stkD, PyData.tuple.injEq, List.cons.injEq, PyData.int.injEq, and_true] at e
    have eg := tDs_inj e.2.2
    subst eg
    have a1 := S.len fc hm
    have a2 := S'.len fc hm
    omega
  · refine ⟨bad_of fun n' k' g e S' => ?_, w3 (i3 _) (i3 _) wf⟩
    simp only [stkD, PyData.tuple.injEq, List.cons.injEq, PyData.int.injEq, and_true] at e
    have eg := tDs_inj e.2.2
    subst eg
    have a1 := S.len fc hm
    have a2 := S'.len fc hm
    omega
  · exact ⟨rfl, w3 rfl (i3 _) wf⟩
  · exact ⟨rfl, w3 (i3 _) rfl wf⟩
  · refine ⟨rfl, wide_l (by show 3 ≤ 1000; decide) fun d hd => ?_⟩
    simp only [List.mem_cons, List.not_mem_nil, or_false] at hd
    rcases hd with rfl | rfl | rfl
    · rfl
    · rfl
    · exact wf
  · exact ⟨isStackD_len (by simp), wide_t (by show 2 ≤ 1000; decide) fun d hd => by
      simp only [List.mem_cons, List.not_mem_nil, or_false] at hd
      rcases hd with rfl | rfl <;> rfl⟩
  · exact ⟨rfl, rfl⟩
  · refine ⟨isStackD_len (by simp), wide_t (by show 4 ≤ 1000; decide) fun d hd => ?_⟩
    simp only [List.mem_cons, List.not_mem_nil, or_false] at hd
    rcases hd with rfl | rfl | rfl | rfl
    · rfl
    · rfl
    · exact wf
    · rfl
  · exact ⟨rfl, rfl⟩
  · exact ⟨rfl, rfl⟩
  · exact ⟨rfl, rfl⟩
section
variable {P : Program} {w : World} {K : PySem.W.Frag} {mg : Str → Option Value} {base : Heap} {Ps : Tbs} {H H' H0 : Hp} {k : Nat} {f c : Addr} {fd : FuncData}
theorem th_draw {a : Addr} {Y Y' : Hp} {x : V} {d : PyData} (hP : Pen H a) (e : Epn Ps a Y Y') (h : ThF K Y (FS (fun _ => True) H Y) x d) : ThF K Y' (FS (fun _ => True) H Y') x d := by
  refine (Epn.th e (fun b hb z => ?_) h).imp fun b hb => ⟨hb.1, ?_, trivial⟩
  · obtain ⟨u, v, hp⟩ := hP
    have := hb.1
    rw [z, hp] at this
    cases this
  · cases hy : Y b with
    | none => exact absurd hy hb.2.1
    | some q =>
      obtain ⟨q', hq⟩ := e.there b q hy
      rw [hq]
      exact Option.some_ne_none _
theorem thAll_draw {a : Addr} {Y Y' : Hp} {xs : List V} {ds : List PyData} (hP : Pen H a) (e : Epn Ps a Y Y') (h : ThAllF K Y (FS (fun _ => True) H Y) xs ds) : ThAllF K Y' (FS (fun _ => True) H Y') xs ds := by
  refine (Epn.thAll e (fun b hb z => ?_) h).imp fun b hb => ⟨hb.1, ?_, trivial⟩
  · obtain ⟨u, v, hp⟩ := hP
    have := hb.1
    rw [z, hp] at this
    cases this
  · cases hy : Y b with
    | none => exact absurd hy hb.2.1
    | some q =>
      obtain ⟨q', hq⟩ := e.there b q hy
      rw [hq]
      exact Option.some_ne_none _
def spNoStackN (K : PySem.W.Frag) (Ps : Tbs) : Sp := fun vs H Q _ => ∃ (a : Addr) (x : V) (n kk : Int) (fss : List (List Int)), vs = [.ref a, x] ∧ Pen H a ∧ Stk K H x n kk fss ∧ StkOk n kk fss ∧ Tb Ps H ∧ ∀ v d H', Epn Ps a H H' → ThF K H' (fun b => H b = none) v d → wide d = true → isStackD d = false → Q v H'
end
end Lf

set_option maxHeartbeats 8000000
namespace Lf
open PySem PySem.Spec PyProof.Rows L2 GxR GxA SrT
abbrev sNames : Stmt := topS 66
theorem scNames : FnScope ["_law_pen_here", "_law_n", "_law_left", "_law_point"] ["_law_pen_here", "_law_n"] (defScope sNames) := ⟨rfl, rfl, rfl, by decide +kernel, rfl, by decide +kernel, by decide +kernel⟩
theorem map_eraseI : ∀ (l : List Int) (o : Nat), (l.map V.int).eraseIdx o = (l.eraseIdx o).map V.int
  | [], _ => rfl
  | _ :: _, 0 => rfl
  | x :: l, o + 1 => by
    show V.int x :: (l.map V.int).eraseIdx o = V.int x :: (l.eraseIdx o).map V.int
    rw [map_eraseI l o]
theorem cutD_last (ds : List PyData) : cutD ds (some (-1)) none = ds.drop (ds.length - 1) := by
  unfold cutD
  have e : HT.sIx ds.length 0 (some (-1)) = ds.length - 1 := by
    show (if (-1 : Int) < 0 then ((-1 : Int) + (ds.length : Int)).toNat else min (-1 : Int).toNat ds.length) = _
    rw [if_pos (by decide)]
    omega
  rw [e, HT.sIx_none, List.take_of_length_le]
  rw [List.length_drop]
  omega
theorem cutD_init (ds : List PyData) : cutD ds none (some (-1)) = ds.take (ds.length - 1) := by
  unfold cutD
  have e : HT.sIx ds.length ds.length (some (-1)) = ds.length - 1 := by
    show (if (-1 : Int) < 0 then ((-1 : Int) + (ds.length : Int)).toNat else min (-1 : Int).toNat ds.length) = _
    rw [if_pos (by decide)]
    omega
  rw [e, HT.sIx_none, List.drop_zero, Nat.sub_zero]
theorem cutD_tail (ds : List PyData) : cutD ds (some 1) none = ds.drop 1 := by
  unfold cutD
  have e : HT.sIx ds.length 0 (some 1) = min 1 ds.length := HT.sIx_nat ds.length 0 1
  rw [e, HT.sIx_none, List.take_of_length_le (by rw [List.length_drop]; omega)]
  by_cases h : 1 ≤ ds.length
  · rw [Nat.min_eq_left h]
  · rw [Nat.min_eq_right (by omega), List.drop_length, List.drop_of_length_le (by omega)]
theorem rowD_len {ds : List PyData} {n : Nat} (h : ds.length ≠ n) : ¬ RowD (.tuple ds) n := by
  rintro ⟨ms, e, p⟩
  injection e with e
  apply h
  rw [e, ← len_perm_rng p]
  exact List.length_map ..
theorem row_elem {ds : List PyData} {n : Nat} {e : PyData} (he : e ∈ ds) (h : intIn e 0 (n - 1) = false) : ¬ RowD (.tuple ds) n := by
  rintro ⟨ms, e2, p⟩
  injection e2 with e2
  rw [e2] at he
  obtain ⟨i, hi, rfl⟩ := List.mem_map.mp he
  have hm := p.mem_iff.mp hi
  unfold rng at hm
  obtain ⟨j, hj, rfl⟩ := List.mem_map.mp hm
  have hj' := List.mem_range.mp hj
  have z : (decide (0 ≤ (j : Int)) && decide ((j : Int) ≤ (n : Int) - 1)) = false := h
  rw [decide_eq_true (show 0 ≤ (j : Int) by omega), decide_eq_true (show (j : Int) ≤ (n : Int) - 1 by omega)] at z
  cases z
theorem twice_bad {ns : List Int} {n : Nat} (hp : ns.Perm (rng n)) (h : 1 < n) : ¬ RowD (.tuple (cutD (iD ns) (some (-1)) none ++ cutD (iD ns) (some 1) none)) n := by
  rintro ⟨ms, e, p⟩
  injection e with e
  rw [cutD_last, cutD_tail] at e
  have hl := len_perm_rng hp
  have il : (iD ns).length = n := by
    rw [← hl]
    exact List.length_map ..
  rw [il] at e
  have nd : ms.Nodup := p.nodup_iff.mpr (nd_rng n)
  have ndD : (iD ms).Nodup := List.pairwise_map.mpr (List.Pairwise.imp (fun {a b} h z => h (by injection z)) nd)
  have e' : (iD ns).drop (n - 1) ++ (iD ns).drop 1 = iD ms := e
  rw [← e'] at ndD
  have hlt : n - 1 < (iD ns).length := by omega
  have m1 : (iD ns)[n - 1] ∈ (iD ns).drop (n - 1) := by
    rw [List.drop_eq_getElem_cons hlt]
    exact List.mem_cons_self
  have m2 : (iD ns)[n - 1] ∈ (iD ns).drop 1 := by
    have : (iD ns)[n - 1] = ((iD ns).drop 1)[n - 2]'(by rw [List.length_drop]; omega) := by
      rw [List.getElem_drop]
      congr 1
      omega
    rw [this]
    exact List.getElem_mem _
  exact (List.nodup_append.mp ndD).2.2 _ m1 _ m2 rfl
theorem oddMs_in {n : Nat} {ns : List Int} (hl : (ns.map V.int).length = n) (h : n ≤ 8) : ∀ d ∈ ([.int (((ns.map V.int).length : Nat) : Int), .int (-1), .none, .bool true, .str "0", .tuple [.int 0], .int (10 ^ (30 : Int).toNat)] : List PyData), intIn d 0 (n - 1) = false := by
  intro d hd
  have ii : ∀ i : Int, (i < 0 ∨ (n : Int) - 1 < i) → intIn (.int i) 0 (n - 1) = false := fun i h => by
    show (decide (0 ≤ i) && decide (i ≤ (n : Int) - 1)) = false
    rcases h with h | h
    · rw [decide_eq_false (show ¬ 0 ≤ i by omega)]
      rfl
    · rw [decide_eq_false (show ¬ i ≤ (n : Int) - 1 by omega), Bool.and_false]
  have big : (1000 : Int) < 10 ^ (30 : Int).toNat := by decide
  simp only [List.mem_cons, List.not_mem_nil, or_false] at hd
  rcases hd with rfl | rfl | rfl | rfl | rfl | rfl | rfl
  · exact ii _ (.inr (by omega))
  · exact ii _ (.inl (by omega))
  · rfl
  · rfl
  · rfl
  · rfl
  · exact ii _ (.inr (Int.lt_of_le_of_lt (show (n : Int) - 1 ≤ 1000 by omega) big))
def badMs (ns u1 u2 u3 u4 : List Int) (od dtw : PyData) : List PyData := [.tuple (((iD u1) ++ [od]) ++ (iD u2)), .tuple (iD u3), .tuple ((iD ns) ++ [.int (((ns.map V.int).length : Nat) : Int)]), .list (iD ns), .tuple ((iD ns) ++ (iD u4)), .none, .int 0, .dict [], .str "01", dtw, .tuple [.tuple (iD ns)], .list [.tuple (iD ns)]]
theorem badMs_ok {n : Nat} {ns u1 u2 u3 u4 : List Int} {od dtw : PyData} (hp : ns.Perm (rng n)) (n1 : 1 ≤ n) (ho : intIn od 0 (n - 1) = false) (h3 : u3.length = n - 1) (h4 : u4.length = 1) (ht : ¬ RowD dtw n) : ∀ d ∈ badMs ns u1 u2 u3 u4 od dtw, ¬ RowD d n := by
  have hl := len_perm_rng hp
  have il : ∀ l : List Int, (iD l).length = l.length := fun l => List.length_map ..
  have nt : ∀ {d : PyData}, (∀ ms, d ≠ tD ms) → ¬ RowD d n := fun h => by
    rintro ⟨ms, e, _⟩
    exact h ms e
  intro d hd
  unfold badMs at hd
  simp only [List.mem_cons, List.not_mem_nil, or_false] at hd
  rcases hd with rfl | rfl | rfl | rfl | rfl | rfl | rfl | rfl | rfl | rfl | rfl | rfl
  · exact row_elem (List.mem_append_left _ (List.mem_append_right _ (List.mem_singleton.mpr rfl))) ho
  · exact rowD_len (by rw [il]; omega)
  · exact rowD_len (by rw [List.length_append, il]; simp; omega)
  · exact nt fun ms z => by cases z
  · exact rowD_len (by rw [List.length_append, il, il]; omega)
  · exact nt fun ms z => by cases z
  · exact nt fun ms z => by cases z
  · exact nt fun ms z => by cases z
  · exact nt fun ms z => by cases z
  · exact ht
  · exact row_elem (List.mem_singleton.mpr rfl) rfl
  · exact nt fun ms z => by cases z
section
variable {P : Program} {w : World} {K : PySem.W.Frag} {mg : Str → Option Value} {base : Heap} {Ps : Tbs} {H H' H0 : Hp} {k : Nat} {f c : Addr} {fd : FuncData}
def spNames (K : PySem.W.Frag) (Ps : Tbs) : Sp := fun vs H Q _ => ∃ (a : Addr) (n : Nat), vs = [.ref a, .int n] ∧ Pen H a ∧ 1 ≤ n ∧ n ≤ 8 ∧ Tb Ps H ∧ ∀ (t : Addr) (ns : List Int) (H' : Hp), Epn Ps a H H' → SqT K H' t (ns.map V.int) → FzT H' t → H t = none → ns.Perm (rng n) → Q (.ref t) H'
theorem ok_names {fD cD : Addr} {fdD : FuncData} (D : Def K mg "_law_names" sNames ["_law_pen_here", "_law_n"] f fd c) (DD : Def K mg "_law_draw" sDraw ["_law_pen_here", "_law_many"] fD fdD cD) (GD : FnOk P w K mg base CX0 k fD fdD ["_law_pen_here", "_law_many"] spDraw) (mt : mg "tuple" = none) (mL : mg "list" = none) (mr : mg "range" = none) (ml : mg "len" = none) : FnOk P w K mg base CX0 (k + 1) f fd ["_law_pen_here", "_law_n"] (spNames K Ps) := by
  refine D.ok (k := k) scNames (fun vs H Q E h => ?_) (fun A outer s H vs Q E hr h => ?_)
  · obtain ⟨a, n, rfl, _⟩ := h
    rfl
  · obtain ⟨a, n, rfl, hP, n1, n8, ht, q⟩ := h
    refine ⟨_, (pss_cons (ps_set (i := 2) scNames.nd rfl (.inr rfl) (pe_listRg (by rfl) (by rfl) mL (prg_1 (by rfl) mr (pv 1)))) (pss_one (ps_ret (pe_callTy call_tuple_frz (by rfl) mt (by decide +kernel) (pa_cons (pe_lc (own := [("_law_point", 3)]) (g := gName 3) (by rfl) scNames.nd (pi_range1 (by rfl) mr (pa_cons (pv 1) pa_nil)) (blkOk_by (N := ["_law_pen_here", "_law_n", "_law_left", "_law_point"]) (sc := defScope sNames) (by decide +kernel)) (fun _ _ _ _ _ => pg_name (i := 3) scNames.nd rfl (Or.inl rfl)) (fun _ _ _ _ _ => pts_nil) (fun _ _ _ _ _ => (show PE _ _ (tBM K "list" rPopAt _ _) from pe_bm PySem.F.plainAttrs_list PySem.F.slot_list_pop PySem.F.type_list_pop mt_popAt (pv 2) (pa_cons (pcl DD GD hr (pa_cons (pv 0) (pa_cons (pe_callB (call_lenS (K := K) rfl) (by rfl) ml PySem.boot_len (pa_cons (pv 2) pa_nil)) pa_nil))) pa_nil)))) pa_nil))))), ?_⟩
    refine tseq_intro fun R hR => ?_
    refine ⟨.int (n : Int), rfl, (n : Int), rfl, RgOk.of_le (by omega) (by omega) (by omega) (by omega), fun L nL => ?_⟩
    rw [rng_V]
    have e1 := Ext.new (o := .lst ((rng n).map V.int)) ht nL
    have hL : upd H L (.lst ((rng n).map V.int)) L = some (.lst ((rng n).map V.int)) := upd_same
    have E1 := e1.epn hP
    have nLa : L ≠ a := by
      obtain ⟨u, v, e⟩ := hP
      exact (ne_of_none e nL).symm
    generalize upd H L (.lst ((rng n).map V.int)) = H1 at *
    show R [some (.ref a), some (.int n), some (.ref L), none] H1
    rw [hR]
    clear hR
    refine ⟨.int n, rfl, (n : Int), rfl, by omega, by omega, fun D0 hD => ?_⟩
    have nDa : D0 ≠ a := by
      obtain ⟨u, v, e⟩ := E1.pen
      exact (ne_of_none e hD).symm
    have nDL : L ≠ D0 := ne_of_none hL hD
    have hD' := E1.free hD
    refine lc_range (lo := 0) (n := (n : Int).toNat) (fun i H3 => Epn Ps a H H3 ∧ ∃ ls ds : List Int, H3 L = some (.lst (ls.map V.int)) ∧ H3 D0 = some (.lst (ds.map V.int)) ∧ (ds ++ ls).Perm (rng n) ∧ ds.length = i) ?_ (fun i H3 hi p => ?_) (fun H3 p => ?_)
    · have x3 := Ext.new (o := .lst []) E1.tb hD
      exact ⟨E1.trans (x3.epn E1.pen), rng n, [], x3.lst hL, upd_same, List.Perm.refl _, rfl⟩
    · obtain ⟨E3, ls3, ds3, hL3, hD3, hperm, hdl⟩ := p
      have hll := hperm.length_eq
      rw [List.length_append, rng_len] at hll
      have hlm : (ls3.map V.int).length = ls3.length := List.length_map ..
      have hi' : i < n := by omega
      refine ⟨rfl, yes_ (iteT ⟨.ref L, rfl, .inl ⟨rfl, _, .inl (.inl hL3)⟩, .ref a, rfl, .ref L, rfl, L, _, rfl, .inl (.inl (.inl hL3)), a, _, rfl, E3.pen, by omega, by omega, fun u2 f2 r2 r20 r21 => ?_⟩)⟩
      have e4 : Epn Ps a H3 (upd H3 a (.lst [.int u2, .int f2])) := Epn.draw E3.tb E3.pen
      have E4 := E3.trans e4
      have hL4 := e4.lst nLa hL3
      have hD4 := e4.lst nDa hD3
      generalize upd H3 a (.lst [.int u2, .int f2]) = H4 at *
      obtain ⟨o, rfl⟩ := Int.eq_ofNat_of_zero_le r20
      have ho : o < ls3.length := by omega
      obtain ⟨y, hy⟩ : ∃ y, ls3[o]? = some y := ⟨_, List.getElem?_eq_getElem ho⟩
      refine ⟨L, ls3.map V.int, (o : Int), o, .int y, rfl, rfl, hL4, by omega, by omega, seqIx (by omega), by rw [List.getElem?_map, hy]; rfl, ds3.map V.int, ?_, by rw [List.length_map]; exact Nat.lt_of_le_of_lt (show ds3.length ≤ 256 by omega) (small1000 (by decide)), ?_⟩
      · rw [upd_ne (Ne.symm nDL)]
        exact hD4
      have em : (ls3.map V.int).eraseIdx o = (ls3.eraseIdx o).map V.int := map_eraseI ls3 o
      rw [em]
      have E5 := E4.write (o' := .lst ((ls3.eraseIdx o).map V.int)) nL hL4 (fun q z => by cases z)
      have hL5 : upd H4 L (.lst ((ls3.eraseIdx o).map V.int)) L = some (.lst ((ls3.eraseIdx o).map V.int)) := upd_same
      have hD5 : upd H4 L (.lst ((ls3.eraseIdx o).map V.int)) D0 = some (.lst (ds3.map V.int)) := by
        rw [upd_ne (Ne.symm nDL)]
        exact hD4
      generalize upd H4 L (.lst ((ls3.eraseIdx o).map V.int)) = H5 at *
      refine ⟨E5.write hD' hD5 (fun q z => by cases z), ls3.eraseIdx o, ds3 ++ [y], ?_, by rw [upd_same, List.map_append]; rfl, ?_, by rw [List.length_append]; simp; omega⟩
      · rw [upd_ne nDL]
        exact hL5
      · rw [List.append_assoc]
        exact (List.Perm.append_left ds3 (perm_erase hy)).trans hperm
    · obtain ⟨E3, ls3, ds3, hL3, hD3, hperm, hdl⟩ := p
      have hll := hperm.length_eq
      rw [List.length_append, rng_len] at hll
      have hz : ls3 = [] := List.eq_nil_of_length_eq_zero (by omega)
      rw [hz, List.append_nil] at hperm
      refine ⟨D0, _, rfl, .inl (.inl hD3), fun tf oT oc od ntf => ?_⟩
      have x6 := Ext.new (o := .frz oT (.tup (ds3.map V.int))) E3.tb ntf
      exact q tf ds3 _ (E3.trans (x6.epn E3.pen)) (.inl (.inr ⟨_, upd_same⟩)) ⟨_, _, upd_same, oc, od⟩ (E3.free ntf) hperm
def spNoNames (K : PySem.W.Frag) (Ps : Tbs) : Sp := fun vs H Q _ => ∃ (a t : Addr) (ns : List Int) (n : Nat), vs = [.ref a, .ref t] ∧ Pen H a ∧ SqT K H t (ns.map V.int) ∧ ns.Perm (rng n) ∧ 1 ≤ n ∧ n ≤ 8 ∧ Tb Ps H ∧ ∀ v d H', Epn Ps a H H' → ThF K H' (fun b => H b = none) v d → ¬ RowD d n → Q v H'
end
end Lf

namespace Lf
/-! ### told numbers: the mathematics -/
/-- how many ways to pick so few of so many, as it is reckoned -/
def pk (m : Int) : Nat → Int
  | 0 => 1
  | i + 1 => pk m i * (m - (i : Nat)) / ((i : Nat) + 1)
def sgn (a m : Int) : Int := if m % 2 = 1 then -a else a
/-- what is told, of the counts -/
def toldAt (k : Nat) (c : List Int) (i : Nat) (n : Nat) : List Int := (List.range n).map fun j => sgn (c.getD j 0 * pk ((k : Int) - j) (k - i)) ((i : Int) - j)
def toldL (k : Nat) (c : List Int) (n : Nat) : List Int := (List.range n).map fun i => (toldAt k c i (i + 1)).sum
/-- the counts of what is told -/
def cntAt (k : Nat) (r : List Int) (j : Nat) (n : Nat) : List Int := (List.range n).map fun i => r.getD i 0 * pk ((k : Int) - i) (j - i)
def cntL (k : Nat) (r : List Int) (n : Nat) : List Int := (List.range n).map fun j => (cntAt k r j (j + 1)).sum
/-- by 1 less x, the next count put to -/
def lessX (r : List Int) : List Int := List.zipWith (fun a b => a - b) (r ++ [0]) ([0] ++ r)
def moreX (r : List Int) : List Int := List.zipWith (fun a b => a + b) (r ++ [0]) ([0] ++ r)
def ltold (c : List Int) : Nat → List Int
  | 0 => []
  | m + 1 => (lessX (ltold c m)).set m ((lessX (ltold c m)).getD m 0 + c.getD m 0)
def moreN (r : List Int) : Nat → List Int
  | 0 => r
  | i + 1 => moreX (moreN r i)
def putOn (t : List Int) (p : Nat) (s : List Int) : Nat → List Int
  | 0 => t
  | i + 1 => (putOn t p s i).set (p + i) ((putOn t p s i).getD (p + i) 0 + s.getD i 0)
def powers (r : List Int) : Nat → List Int
  | 0 => List.replicate r.length 0
  | p + 1 => putOn (powers r p) p (moreN [r.getD p 0] (r.length - 1 - p)) (moreN [r.getD p 0] (r.length - 1 - p)).length
theorem pk_le : ∀ m : Nat, m ≤ 4 → ∀ f : Nat, f ≤ 4 → 0 ≤ pk m f ∧ pk m f ≤ 6 := by decide
theorem lessX_len (r : List Int) : (lessX r).length = r.length + 1 := by
  unfold lessX
  simp
theorem moreX_len (r : List Int) : (moreX r).length = r.length + 1 := by
  unfold moreX
  simp
theorem ltold_len (c : List Int) : ∀ m, (ltold c m).length = m
  | 0 => rfl
  | m + 1 => by rw [ltold, List.length_set, lessX_len, ltold_len c m]
theorem moreN_len (r : List Int) : ∀ m, (moreN r m).length = r.length + m
  | 0 => rfl
  | m + 1 => by rw [moreN, moreX_len, moreN_len r m]; omega
theorem putOn_len (t : List Int) (p : Nat) (s : List Int) : ∀ i, (putOn t p s i).length = t.length
  | 0 => rfl
  | i + 1 => by rw [putOn, List.length_set, putOn_len t p s i]
theorem powers_len (r : List Int) : ∀ p, (powers r p).length = r.length
  | 0 => by rw [powers, List.length_replicate]
  | p + 1 => by rw [powers, putOn_len, powers_len r p]
theorem pk00 : pk 0 0 = 1 := by decide
theorem len_cases {c : List Int} {k : Nat} (h : c.length = k + 1) (hk : k ≤ 4) : (∃ a, c = [a]) ∨ (∃ a b, c = [a, b]) ∨ (∃ a b d, c = [a, b, d]) ∨ (∃ a b d e, c = [a, b, d, e]) ∨ ∃ a b d e g, c = [a, b, d, e, g] := by
  match c, h with
  | [a], _ => exact .inl ⟨a, rfl⟩
  | [a, b], _ => exact .inr (.inl ⟨a, b, rfl⟩)
  | [a, b, d], _ => exact .inr (.inr (.inl ⟨a, b, d, rfl⟩))
  | [a, b, d, e], _ => exact .inr (.inr (.inr (.inl ⟨a, b, d, e, rfl⟩)))
  | [a, b, d, e, g], _ => exact .inr (.inr (.inr (.inr ⟨a, b, d, e, g, rfl⟩)))
  | a :: b :: d :: e :: g :: x :: t, h => simp at h; omega
theorem told0 (a : Int) : toldL 0 [a] 1 = [a] := by simp [toldL, toldAt, sgn, pk, List.range_succ]
theorem told1 (a b : Int) : toldL 1 [a, b] 2 = [a, b - a] := by
  simp [toldL, toldAt, sgn, pk, List.range_succ]
  omega
theorem told2 (a b d : Int) : toldL 2 [a, b, d] 3 = [a, b - 2 * a, d - b + a] := by
  simp [toldL, toldAt, sgn, pk, List.range_succ]
  omega
theorem told3 (a b d e : Int) : toldL 3 [a, b, d, e] 4 = [a, b - 3 * a, d - 2 * b + 3 * a, e - d + b - a] := by
  simp [toldL, toldAt, sgn, pk, List.range_succ]
  omega
theorem told4 (a b d e g : Int) : toldL 4 [a, b, d, e, g] 5 = [a, b - 4 * a, d - 3 * b + 6 * a, e - 2 * d + 3 * b - 4 * a, g - e + d - b + a] := by
  simp [toldL, toldAt, sgn, pk, List.range_succ]
  omega
theorem cnt0 (a : Int) : cntL 0 [a] 1 = [a] := by simp [cntL, cntAt, pk, List.range_succ]
theorem cnt1 (a b : Int) : cntL 1 [a, b] 2 = [a, a + b] := by simp [cntL, cntAt, pk, List.range_succ]
theorem cnt2 (a b d : Int) : cntL 2 [a, b, d] 3 = [a, 2 * a + b, a + b + d] := by
  simp [cntL, cntAt, pk, List.range_succ]
  omega
theorem cnt3 (a b d e : Int) : cntL 3 [a, b, d, e] 4 = [a, 3 * a + b, 3 * a + 2 * b + d, a + b + d + e] := by
  simp [cntL, cntAt, pk, List.range_succ]
  omega
theorem cnt4 (a b d e g : Int) : cntL 4 [a, b, d, e, g] 5 = [a, 4 * a + b, 6 * a + 3 * b + d, 4 * a + 3 * b + 2 * d + e, a + b + d + e + g] := by
  simp [cntL, cntAt, pk, List.range_succ]
  omega
/-- of what is told the counts come -/
theorem cnt_told {c : List Int} {k : Nat} (h : c.length = k + 1) (hk : k ≤ 4) : cntL k (toldL k c (k + 1)) (k + 1) = c := by
  rcases len_cases h hk with ⟨a, rfl⟩ | ⟨a, b, rfl⟩ | ⟨a, b, d, rfl⟩ | ⟨a, b, d, e, rfl⟩ | ⟨a, b, d, e, g, rfl⟩ <;> (simp at h; subst h)
  · rw [told0, cnt0]
  · rw [told1, cnt1]
    simp only [List.cons.injEq, and_true, true_and]
    omega
  · rw [told2, cnt2]
    simp only [List.cons.injEq, and_true, true_and]
    omega
  · rw [told3, cnt3]
    simp only [List.cons.injEq, and_true, true_and]
    omega
  · rw [told4, cnt4]
    simp only [List.cons.injEq, and_true, true_and]
    omega
/-- the law's way is the program's -/
theorem ltold_eq {c : List Int} {k : Nat} (h : c.length = k + 1) (hk : k ≤ 4) : ltold c (k + 1) = toldL k c (k + 1) := by
  rcases len_cases h hk with ⟨a, rfl⟩ | ⟨a, b, rfl⟩ | ⟨a, b, d, rfl⟩ | ⟨a, b, d, e, rfl⟩ | ⟨a, b, d, e, g, rfl⟩ <;> (simp at h; subst h)
  · rw [told0]
    simp [ltold, lessX]
  · rw [told1]
    simp [ltold, lessX]
    try omega
  · rw [told2]
    simp [ltold, lessX]
    omega
  · rw [told3]
    simp [ltold, lessX]
    omega
  · rw [told4]
    simp [ltold, lessX]
    omega
theorem powers_eq {r : List Int} {k : Nat} (h : r.length = k + 1) (hk : k ≤ 4) : powers r (k + 1) = cntL k r (k + 1) := by
  rcases len_cases h hk with ⟨a, rfl⟩ | ⟨a, b, rfl⟩ | ⟨a, b, d, rfl⟩ | ⟨a, b, d, e, rfl⟩ | ⟨a, b, d, e, g, rfl⟩ <;> (simp at h; subst h)
  · rw [cnt0]
    simp [powers, putOn, moreN, moreX]
  · rw [cnt1]
    simp [powers, putOn, moreN, moreX]
  · rw [cnt2]
    simp [powers, putOn, moreN, moreX]
    omega
  · rw [cnt3]
    simp [powers, putOn, moreN, moreX]
    omega
  · rw [cnt4]
    simp [powers, putOn, moreN, moreX]
    omega
theorem toldL_len (k : Nat) (c : List Int) (n : Nat) : (toldL k c n).length = n := by simp [toldL]
theorem cntL_len (k : Nat) (c : List Int) (n : Nat) : (cntL k c n).length = n := by simp [cntL]
/-- what is told of few is not far from nought -/
theorem told_few {c : List Int} {k : Nat} (h : c.length = k + 1) (hk : k ≤ 4) (hc : ∀ x ∈ c, 0 ≤ x ∧ x ≤ 1000) : ∀ x ∈ toldL k c (k + 1), -1000000 ≤ x ∧ x ≤ 1000000 := by
  rcases len_cases h hk with ⟨a, rfl⟩ | ⟨a, b, rfl⟩ | ⟨a, b, d, rfl⟩ | ⟨a, b, d, e, rfl⟩ | ⟨a, b, d, e, g, rfl⟩ <;> (simp at h; subst h) <;> simp only [List.mem_cons, List.not_mem_nil, or_false, forall_eq_or_imp, forall_eq] at hc
  · rw [told0]
    simp only [List.mem_cons, List.not_mem_nil, or_false, forall_eq_or_imp, forall_eq]
    omega
  · rw [told1]
    simp only [List.mem_cons, List.not_mem_nil, or_false, forall_eq_or_imp, forall_eq]
    omega
  · rw [told2]
    simp only [List.mem_cons, List.not_mem_nil, or_false, forall_eq_or_imp, forall_eq]
    omega
  · rw [told3]
    simp only [List.mem_cons, List.not_mem_nil, or_false, forall_eq_or_imp, forall_eq]
    omega
  · rw [told4]
    simp only [List.mem_cons, List.not_mem_nil, or_false, forall_eq_or_imp, forall_eq]
    omega
end Lf

set_option maxHeartbeats 2000000
namespace Lf
open PySem PySem.Spec PyProof.Rows L2 GxR GxA SrT EnT
abbrev sPicks : Stmt := topS 47
abbrev sSigned : Stmt := topS 48
abbrev sTold : Stmt := topS 49
theorem scPicks : FnScope ["many", "few", "ways", "at"] ["many", "few"] (defScope sPicks) := ⟨rfl, rfl, rfl, by decide +kernel, rfl, by decide +kernel, by decide +kernel⟩
theorem scSigned : FnScope ["number", "many"] ["number", "many"] (defScope sSigned) := ⟨rfl, rfl, rfl, by decide +kernel, rfl, by decide +kernel, by decide +kernel⟩
abbrev nTold : List Str := ["stack", "k", "found", "i", "j"]
theorem scTold : FnScope nTold ["stack"] (defScope sTold) := ⟨rfl, rfl, rfl, by decide +kernel, rfl, by decide +kernel, by decide +kernel⟩
abbrev nCountsFrom : List Str := ["row", "k", "j", "i"]
abbrev toldC : Scope := { kind := .function, names := [(".0", .local), ("i", .cell), ("sum", .globalImplicit), ("range", .globalImplicit), ("found", .cell), ("k", .cell)], isGenerator := false, isCoroutine := false }
section
variable {P : Program} {w : World} {K : PySem.W.Frag} {mg : Str → Option Value} {base : Heap} {Ps : Tbs} {H H' H0 : Hp} {k : Nat} {f c : Addr} {fd : FuncData}
/-! ### picks, signed -/
def spPicks : Sp := fun vs H Q _ => ∃ m e : Int, vs = [.int m, .int e] ∧ 0 ≤ m ∧ m ≤ 4 ∧ 0 ≤ e ∧ e ≤ 4 ∧ Q (.int (pk m e.toNat)) H
theorem ok_picks (D : Def K mg "picks" sPicks ["many", "few"] f fd c) (mr : mg "range" = none) : FnOk P w K mg base CX0 (k + 1) f fd ["many", "few"] spPicks := by
  refine D.ok (k := k) scPicks (fun vs H Q E h => ?_) (fun A outer s H vs Q E hr h => ?_)
  · obtain ⟨m, e, rfl, _⟩ := h
    rfl
  · obtain ⟨m, e, rfl, m0, m4, e0, e4, q⟩ := h
    refine ⟨_, pss_cons (ps_set (i := 2) scPicks.nd rfl (.inl rfl) pe_int) (pss_cons (ps_for PassesOwn.never rfl (pi_range1 (by rfl) mr (pa_cons (pv 1) pa_nil)) (pg_name (i := 3) scPicks.nd rfl (.inl rfl))
      (pss_one (ps_set (i := 2) scPicks.nd rfl (.inl rfl) (pe_op op_fdiv (pe_op op_mul (pv 2) (pe_op op_sub (pv 0) (pv 3))) (pe_op op_add (pv 3) pe_int))))) (pss_one (ps_ret (pv 2)))), ?_⟩
    refine ⟨.int e, rfl, e, rfl, by omega, by omega, for_range (lo := 0) (n := e.toNat) (fun i σ H3 => H3 = H ∧ ∃ y : Option V, σ = [some (.int m), some (.int e), some (.int (pk m i)), y]) ⟨rfl, none, rfl⟩ (fun i σ H3 hi p => ?_) (fun σ H3 p => ?_)⟩
    · obtain ⟨rfl, y, rfl⟩ := p
      refine ⟨_, rfl, _, rfl, _, rfl, _, _, rfl, rfl, _, _, rfl, rfl, .inr ⟨by omega, by omega⟩, _, rfl, _, _, rfl, rfl, _, _, rfl, rfl, ⟨by omega, by omega⟩, rfl, some (.int (0 + (i : Nat))), ?_⟩
      have e1 : (0 : Int) + (i : Nat) = (i : Nat) := by omega
      rw [pk, e1]
      rfl
    · obtain ⟨rfl, y, rfl⟩ := p
      exact ⟨_, rfl, q⟩
def spSigned : Sp := fun vs H Q _ => ∃ a m : Int, vs = [.int a, .int m] ∧ Q (.int (sgn a m)) H
theorem ok_signed (D : Def K mg "signed" sSigned ["number", "many"] f fd c) : FnOk P w K mg base CX0 (k + 1) f fd ["number", "many"] spSigned := by
  refine D.ok (k := k) scSigned (fun vs H Q E h => ?_) (fun A outer s H vs Q E hr h => ?_)
  · obtain ⟨a, m, rfl, _⟩ := h
    rfl
  · obtain ⟨a, m, rfl, q⟩ := h
    refine ⟨_, pss_one (ps_ret (pe_ifExp (pt_truth (pe_op op_andM (pv 1) pe_int) (fun _ => rfl)) (pe_un un_neg (pv 0)) (pv 0))), ?_⟩
    refine ⟨_, rfl, m, 1, rfl, rfl, _, rfl, ?_⟩
    unfold sgn at q
    have e : m % 2 = 0 ∨ m % 2 = 1 := by omega
    have e2 : m % 2 ^ 1 = m % 2 := rfl
    rw [e2]
    rcases e with e | e
    · rw [e] at q ⊢
      exact iteF ⟨_, rfl, q⟩
    · rw [e] at q ⊢
      exact iteT ⟨_, rfl, _, rfl, q⟩
/-! ### told -/
theorem countsN_len (n kk : Nat) (fss : List (List Int)) : (countsN n kk fss).length = kk + 1 := by simp [countsN]
theorem toldAt_succ (k : Nat) (c : List Int) (i n : Nat) : toldAt k c i (n + 1) = toldAt k c i n ++ [sgn (c.getD n 0 * pk ((k : Int) - n) (k - i)) ((i : Int) - n)] := by
  unfold toldAt
  rw [List.range_succ, List.map_append]
  rfl
theorem toldL_succ (k : Nat) (c : List Int) (n : Nat) : toldL k c (n + 1) = toldL k c n ++ [(toldAt k c n (n + 1)).sum] := by
  unfold toldL
  rw [List.range_succ, List.map_append]
  rfl
theorem cntAt_succ (k : Nat) (c : List Int) (i n : Nat) : cntAt k c i (n + 1) = cntAt k c i n ++ [c.getD n 0 * pk ((k : Int) - n) (i - n)] := by
  unfold cntAt
  rw [List.range_succ, List.map_append]
  rfl
theorem cntL_succ (k : Nat) (c : List Int) (n : Nat) : cntL k c (n + 1) = cntL k c n ++ [(cntAt k c n (n + 1)).sum] := by
  unfold cntL
  rw [List.range_succ, List.map_append]
  rfl
theorem pk_small {a b : Int} (h1 : 0 ≤ a) (h2 : a ≤ 4) (h3 : 0 ≤ b) (h4 : b ≤ 4) : -(2 ^ 64) < pk a b.toNat ∧ pk a b.toNat < 2 ^ 64 := by
  have z := pk_le a.toNat (by omega) b.toNat (by omega)
  rw [show ((a.toNat : Nat) : Int) = a from by omega] at z
  omega
def toldS (n kk : Int) (fss : List (List Int)) : List Int := toldL kk.toNat (countsN n.toNat kk.toNat fss) (kk.toNat + 1)
def spTold (K : PySem.W.Frag) (Ps : Tbs) : Sp := fun vs H Q _ => ∃ (x : V) (n kk : Int) (fss : List (List Int)), vs = [x] ∧ Stk K H x n kk fss ∧ StkOk n kk fss ∧ fss.length ≤ 60 ∧ Tb Ps H ∧
  ∀ v H', Ext Ps H H' → TupI K H' v (toldS n kk fss) → Q v H'
theorem ok_told {fS cS fC cC fK cK fG cG : Addr} {fdS fdC fdK fdG : FuncData} (D : Def K mg "told" sTold ["stack"] f fd c) (DS : Def K mg "need_stack" sNeedStack ["stack"] fS fdS cS) (GS : FnOk P w K mg base CX0 k fS fdS ["stack"] (spNeedStack K Ps))
    (DC : Def K mg "counts" sCounts ["stack"] fC fdC cC) (GC : FnOk P w K mg base CX0 k fC fdC ["stack"] (spCounts K Ps)) (DK : Def K mg "picks" sPicks ["many", "few"] fK fdK cK) (GK : FnOk P w K mg base CX0 k fK fdK ["many", "few"] spPicks)
    (DG : Def K mg "signed" sSigned ["number", "many"] fG fdG cG) (GG : FnOk P w K mg base CX0 k fG fdG ["number", "many"] spSigned) (mr : mg "range" = none) (mt : mg "tuple" = none) (msu : mg "sum" = none) : FnOk P w K mg base CX0 (k + 1) f fd ["stack"] (spTold K Ps) := by
  refine D.ok (k := k) scTold (fun vs H Q E h => ?_) (fun A outer s H vs Q E hr h => ?_)
  · obtain ⟨x, n, kk, fss, rfl, _⟩ := h
    rfl
  · obtain ⟨x, n, kk, fss, rfl, hS, S, h60, ht, q⟩ := h
    have hk4 := S.k4
    have hk0 := S.k0
    refine ⟨_, pss_cons (ps_expr (pcl DS GS hr (pa_cons (pv 0) pa_nil))) (pss_cons (ps_set (i := 1) scTold.nd rfl (.inr rfl) (pe_ix ix_tup (pv 0) pe_int (fun _ _ => rfl))) (pss_cons (ps_set (i := 2) scTold.nd rfl (.inr rfl) (pcl DC GC hr (pa_cons (pv 0) pa_nil)))
      (pss_one (ps_ret (pe_callTy call_tuple_of (by rfl) mt (by decide +kernel) (pa_cons (pe_lc (own := [("i", 3)]) (g := gName 3) (by rfl) scTold.nd (pi_range1 (by rfl) mr (pa_cons (pe_op op_add (pv 1) pe_int) pa_nil)) (blkOk_by (N := nTold) (sc := defScope sTold) (by decide +kernel)) (fun _ _ _ _ _ => pg_name (i := 3) scTold.nd rfl (Or.inr rfl)) (fun _ _ _ _ _ => pts_nil)
        (fun _ _ _ _ _ => show PE _ _ (tCB (rSum K) _) from pe_callB (cr_sum rfl) (by rfl) msu (by decide +kernel) (pa_cons (pe_lc (own := [("j", 4)]) (g := gName 4) (by rfl) scTold.nd (pi_range1 (by rfl) mr (pa_cons (pe_op op_add (pv 3) pe_int) pa_nil)) (blkOk_by (N := nTold) (sc := toldC) (by decide +kernel)) (fun _ _ _ _ _ => pg_name (i := 4) scTold.nd rfl (Or.inl rfl)) (fun _ _ _ _ _ => pts_nil)
          (fun _ _ _ _ _ => pcl DG GG hr (pa_cons (pe_op op_mul (show PE _ _ (tOp (rIxT K) _ _) from pe_ix ix_tup (pv 2) (pv 4) (fun _ _ => rfl)) (pcl DK GK hr (pa_cons (pe_op op_sub (pv 1) (pv 4)) (pa_cons (pe_op op_sub (pv 1) (pv 3)) pa_nil)))) (pa_cons (pe_op op_sub (pv 3) (pv 4)) pa_nil)))) pa_nil))) pa_nil)))))), ?_⟩
    refine ⟨x, rfl, x, n, kk, fss, rfl, hS, S, ht, fun H1 e1 => ?_⟩
    have hS1 := e1.stk hS
    obtain ⟨a, fa, xs, rfl, h1, h2, h3⟩ := id hS1
    refine ⟨.ref a, rfl, a, _, 1, .int kk, rfl, rfl, h1, atI_nat (j := 1) rfl, .ref a, rfl, .ref a, n, kk, fss, rfl, hS1, S, h60, e1.tb, fun cv H2 e2 hcv => ?_⟩
    obtain ⟨ct, rfl, hct⟩ := id hcv
    refine ⟨.int kk, rfl, kk, 1, rfl, rfl, kk + 1, rfl, by omega, by omega, fun D0 hD => lc_range (lo := 0) (n := (kk + 1).toNat) (fun i H3 => CP Ps FI H2 D0 (toldL kk.toNat (countsN n.toNat kk.toNat fss) i) i H3) (CP.start e2.tb hD) (fun i H3 hi p => ?_) (fun H3 p => ?_)⟩
    · refine ⟨rfl, yes_ (iteT ?_)⟩
      refine ⟨_, rfl, _, _, rfl, rfl, _, rfl, by omega, by omega, fun D1 hD1 => lc_range (lo := 0) (n := (0 + (i : Nat) + 1 : Int).toNat) (fun j H4 => CP Ps FI H3 D1 (toldAt kk.toNat (countsN n.toNat kk.toNat fss) i j) j H4) (CP.start p.ext.tb hD1) (fun j H4 hj p4 => ?_) (fun H4 p4 => ?_)⟩
      · refine ⟨rfl, yes_ (iteT ?_)⟩
        have hjl : j < (countsN n.toNat kk.toNat fss).length := by rw [countsN_len]; omega
        have hat : ((countsN n.toNat kk.toNat fss).map V.int)[j]? = some (.int ((countsN n.toNat kk.toNat fss).getD j 0)) := by
          rw [List.getElem?_map, List.getD_eq_getElem?_getD, List.getElem?_eq_getElem hjl]
          rfl
        refine ⟨.ref ct, rfl, .int (0 + (j : Nat)), rfl, ct, _, 0 + (j : Nat), .int ((countsN n.toNat kk.toNat fss).getD j 0), rfl, rfl, p4.ext.sqT (p.ext.sqT hct), ?_, .int kk, rfl, _, rfl, _, _, rfl, rfl, .int kk, rfl, _, rfl, _, _, rfl, rfl, _, _, rfl, by omega, by omega, by omega, by omega, _, _, rfl, rfl, .inr (pk_small (by omega) (by omega) (by omega) (by omega)), _, rfl, _, rfl, _, _, rfl, rfl, _, _, rfl, ?_⟩
        · rw [show (0 : Int) + (j : Nat) = (j : Nat) from by omega]
          exact atI_nat hat
        have r := CP.put (stbI (K := K)) hD1 (by omega) p4 (show FI H4 (.int (sgn ((countsN n.toNat kk.toNat fss).getD j 0 * pk ((kk.toNat : Int) - j) (kk.toNat - i)) ((i : Int) - j))) _ from rfl)
        rw [toldAt_succ]
        have z1 : kk - (0 + (j : Nat)) = (kk.toNat : Int) - (j : Nat) := by omega
        have z2 : (kk - (0 + (i : Nat))).toNat = kk.toNat - i := by omega
        have z3 : (0 + (i : Nat) : Int) - (0 + (j : Nat)) = (i : Nat) - (j : Nat) := by omega
        rw [z1, z2, z3]
        exact r
      · obtain ⟨ys, g1, g2, g3⟩ := p4.at_
        have en : (0 + (i : Nat) + 1 : Int).toNat = i + 1 := by omega
        rw [en] at g2
        have ey := paired_ints g2
        subst ey
        refine ⟨D1, _, rfl, .inl (.inl g1), ?_⟩
        have p5 := p.skip (stbI (K := K)) p4.ext
        have r := CP.put (stbI (K := K)) hD (by omega) p5 (show FI H4 (.int (toldAt kk.toNat (countsN n.toNat kk.toNat fss) i (i + 1)).sum) _ from rfl)
        rw [toldL_succ]
        exact r
    · obtain ⟨ys, g1, g2, g3⟩ := p.at_
      have en : (kk + 1).toNat = kk.toNat + 1 := by omega
      rw [en] at g2
      refine ⟨D0, ys, rfl, .inl ⟨.inl (.inl g1), fun l hl => q (.ref l) _ (e1.trans (e2.trans (p.ext.trans (Ext.new p.ext.tb hl)))) ⟨l, rfl, ?_⟩⟩⟩
      unfold toldS
      rw [← paired_ints g2]
      exact .inl (.inl upd_same)
end
end Lf

namespace Lf
/-! ### sublists of a list that have what must be in them -/
def flS (p : Int → Bool) : List Int → Nat → List (List Int)
  | [], 0 => [[]]
  | [], _ + 1 => []
  | x :: xs, 0 => if p x = true then [] else flS p xs 0
  | x :: xs, j + 1 => (flS p xs j).map (fun g => x :: g) ++ (if p x = true then [] else flS p xs (j + 1))
theorem mem_flS {p : Int → Bool} : ∀ {fc : List Int} {j : Nat} {g : List Int}, fc.Nodup → (g ∈ flS p fc j ↔ g.Sublist fc ∧ g.length = j ∧ ∀ x ∈ fc, p x = true → x ∈ g)
  | [], 0, g, _ => by
    simp only [flS, List.mem_singleton, List.sublist_nil, List.length_eq_zero_iff]
    constructor
    · rintro rfl
      exact ⟨rfl, rfl, fun x hx => nomatch hx⟩
    · exact fun h => h.1
  | [], j + 1, g, _ => by
    simp only [flS, List.not_mem_nil, List.sublist_nil, false_iff]
    rintro ⟨rfl, h, _⟩
    simp at h
  | x :: xs, 0, g, nd => by
    have nx := List.nodup_cons.mp nd
    have ih := mem_flS (p := p) (fc := xs) (j := 0) (g := g) nx.2
    unfold flS
    by_cases hp : p x = true
    · rw [if_pos hp]
      simp only [List.not_mem_nil, false_iff]
      rintro ⟨_, h0, hall⟩
      have := hall x List.mem_cons_self hp
      rw [List.length_eq_zero_iff.mp h0] at this
      exact nomatch this
    · rw [if_neg hp, ih]
      constructor
      · rintro ⟨h1, h2, h3⟩
        refine ⟨h1.trans (List.sublist_cons_self _ _), h2, fun y hy py => ?_⟩
        rcases List.mem_cons.mp hy with e | e
        · rw [e] at py
          exact absurd py hp
        · exact h3 y e py
      · rintro ⟨h1, h2, h3⟩
        have e := List.length_eq_zero_iff.mp h2
        subst e
        exact ⟨List.nil_sublist _, rfl, fun y hy py => h3 y (List.mem_cons_of_mem _ hy) py⟩
  | x :: xs, j + 1, g, nd => by
    have nx := List.nodup_cons.mp nd
    unfold flS
    rw [List.mem_append, List.mem_map]
    constructor
    · rintro (⟨g', hg', rfl⟩ | h)
      · obtain ⟨h1, h2, h3⟩ := (mem_flS (p := p) nx.2).mp hg'
        refine ⟨h1.cons_cons x, by rw [List.length_cons, h2], fun y hy py => ?_⟩
        rcases List.mem_cons.mp hy with e | e
        · rw [e]
          exact List.mem_cons_self
        · exact List.mem_cons_of_mem _ (h3 y e py)
      · by_cases hp : p x = true
        · rw [if_pos hp] at h
          exact nomatch h
        · rw [if_neg hp] at h
          obtain ⟨h1, h2, h3⟩ := (mem_flS (p := p) nx.2).mp h
          refine ⟨h1.trans (List.sublist_cons_self _ _), h2, fun y hy py => ?_⟩
          rcases List.mem_cons.mp hy with e | e
          · rw [e] at py
            exact absurd py hp
          · exact h3 y e py
    · rintro ⟨h1, h2, h3⟩
      cases h1 with
      | cons _ h1 =>
        right
        by_cases hp : p x = true
        · exact absurd (h1.subset (h3 x List.mem_cons_self hp)) nx.1
        · rw [if_neg hp]
          exact (mem_flS (p := p) nx.2).mpr ⟨h1, h2, fun y hy py => h3 y (List.mem_cons_of_mem _ hy) py⟩
      | cons_cons _ h1 =>
        rename_i g'
        left
        refine ⟨g', (mem_flS (p := p) nx.2).mpr ⟨h1, by rw [List.length_cons] at h2; omega, fun y hy py => ?_⟩, rfl⟩
        rcases List.mem_cons.mp (h3 y (List.mem_cons_of_mem _ hy) py) with e | e
        · rw [e] at hy
          exact absurd hy nx.1
        · exact e
theorem nd_flS {p : Int → Bool} : ∀ {fc : List Int} {j : Nat}, fc.Nodup → (flS p fc j).Nodup
  | [], 0, _ => by simp [flS]
  | [], j + 1, _ => by simp [flS]
  | x :: xs, 0, nd => by
    have nx := List.nodup_cons.mp nd
    unfold flS
    split
    · exact List.nodup_nil
    · exact nd_flS nx.2
  | x :: xs, j + 1, nd => by
    have nx := List.nodup_cons.mp nd
    unfold flS
    refine List.nodup_append.mpr ⟨?_, ?_, ?_⟩
    · rw [List.nodup_iff_pairwise_ne, List.pairwise_map]
      refine List.Pairwise.imp (fun {a b} h e => h (List.cons.inj e).2) (List.nodup_iff_pairwise_ne.mp (nd_flS (p := p) (j := j) nx.2))
    · split
      · exact List.nodup_nil
      · exact nd_flS nx.2
    · intro a ha b hb e
      subst e
      obtain ⟨g, _, rfl⟩ := List.mem_map.mp ha
      split at hb
      · exact nomatch hb
      · exact nx.1 (((mem_flS (p := p) nx.2).mp hb).1.subset List.mem_cons_self)
/-- how many -/
def chs : Nat → Nat → Nat
  | _, 0 => 1
  | 0, _ + 1 => 0
  | m + 1, j + 1 => chs m j + chs m (j + 1)
def forced (m r j : Nat) : Nat := if r ≤ j then chs m (j - r) else 0
theorem len_flS (p : Int → Bool) : ∀ (fc : List Int) (j : Nat), (flS p fc j).length = forced (fc.filter fun x => !p x).length (fc.filter p).length j
  | [], 0 => by simp [flS, forced, chs]
  | [], j + 1 => by simp [flS, forced, chs]
  | x :: xs, 0 => by
    have ih := len_flS p xs 0
    unfold flS
    by_cases hp : p x = true
    · simp [hp, forced]
    · simp only [hp, if_false, ih, Bool.false_eq_true]
      simp [hp, forced, chs]
  | x :: xs, j + 1 => by
    have ih1 := len_flS p xs j
    have ih2 := len_flS p xs (j + 1)
    unfold flS
    by_cases hp : p x = true
    · simp only [hp, if_true, List.append_nil, List.length_map, ih1]
      simp only [List.filter_cons, hp, Bool.not_true, Bool.false_eq_true, if_false, if_true, List.length_cons]
      unfold forced
      by_cases h : (xs.filter p).length ≤ j
      · rw [if_pos h, if_pos (by omega)]
        congr 1
        omega
      · rw [if_neg h, if_neg (by omega)]
    · simp only [hp, if_false, Bool.false_eq_true, List.length_append, List.length_map, ih1, ih2]
      simp only [List.filter_cons, hp, Bool.not_false, if_true, if_false, Bool.false_eq_true, List.length_cons]
      unfold forced
      by_cases h : (xs.filter p).length ≤ j
      · rw [if_pos h, if_pos (by omega), if_pos (by omega)]
        have e : j + 1 - (xs.filter p).length = (j - (xs.filter p).length) + 1 := by omega
        rw [e, chs]
      · rw [if_neg h]
        by_cases h2 : (xs.filter p).length ≤ j + 1
        · rw [if_pos h2, if_pos h2]
          have e : j + 1 - (xs.filter p).length = 0 := by omega
          rw [e]
          simp [chs]
        · rw [if_neg h2, if_neg h2]
theorem chs_pk : ∀ m : Nat, m ≤ 4 → ∀ f : Nat, f ≤ 4 → (chs m f : Int) = pk m f := by decide
/-! ### sums -/
theorem sum_cnt (g : Nat → Int) (k : Nat) : ∀ (L : List Nat), (∀ r ∈ L, r ≤ k) → (L.map g).sum = ((List.range (k + 1)).map fun r => (L.count r : Int) * g r).sum
  | [], _ => by
    simp only [List.map_nil, List.sum_nil, List.count_nil, Int.natCast_zero, Int.zero_mul]
    induction (List.range (k + 1)) with
    | nil => rfl
    | cons a t ih => rw [List.map_cons, List.sum_cons, ← ih]; rfl
  | r :: L, h => by
    have ih := sum_cnt g k L fun x hx => h x (List.mem_cons_of_mem _ hx)
    have hr := h r List.mem_cons_self
    rw [List.map_cons, List.sum_cons, ih]
    have key : ∀ (T : List Nat), T.Nodup → ((T.map fun x => ((r :: L).count x : Int) * g x).sum) = (T.map fun x => (L.count x : Int) * g x).sum + (if r ∈ T then g r else 0) := by
      intro T
      induction T with
      | nil => intro _; simp
      | cons a T ih =>
        intro nd
        have nx := List.nodup_cons.mp nd
        rw [List.map_cons, List.map_cons, List.sum_cons, List.sum_cons, ih nx.2]
        by_cases e : r = a
        · subst e
          rw [if_neg nx.1, if_pos List.mem_cons_self, List.count_cons_self, Int.natCast_add, Int.add_mul]
          simp only [Int.natCast_one, Int.one_mul]
          omega
        · have e2 : (r :: L).count a = L.count a := List.count_cons_of_ne e
          rw [e2]
          by_cases hm : r ∈ T
          · rw [if_pos hm, if_pos (List.mem_cons_of_mem _ hm)]
            omega
          · rw [if_neg hm, if_neg (fun z => (List.mem_cons.mp z).elim e hm)]
            omega
    rw [key _ List.nodup_range, if_pos (List.mem_range.mpr (by omega))]
    omega
/-- of sums what is nought beyond is left out -/
theorem sum_trunc (f : Nat → Int) (j : Nat) : ∀ m, (∀ r, j < r → f r = 0) → ((List.range (j + 1 + m)).map f).sum = ((List.range (j + 1)).map f).sum
  | 0, _ => rfl
  | m + 1, h => by
    rw [← Nat.add_assoc, List.range_succ, List.map_append, List.sum_append, sum_trunc f j m h]
    simp only [List.map_cons, List.map_nil, List.sum_cons, List.sum_nil, h (j + 1 + m) (by omega)]
    omega
/-- what is told of counts that come of a row is the row -/
theorem told_cnt {r : List Int} {k : Nat} (h : r.length = k + 1) (hk : k ≤ 4) : toldL k (cntL k r (k + 1)) (k + 1) = r := by
  rcases len_cases h hk with ⟨a, rfl⟩ | ⟨a, b, rfl⟩ | ⟨a, b, d, rfl⟩ | ⟨a, b, d, e, rfl⟩ | ⟨a, b, d, e, g, rfl⟩ <;> (simp at h; subst h)
  · rw [cnt0, told0]
  · rw [cnt1, told1]
    simp only [List.cons.injEq, and_true, true_and]
    omega
  · rw [cnt2, told2]
    simp only [List.cons.injEq, and_true, true_and]
    omega
  · rw [cnt3, told3]
    simp only [List.cons.injEq, and_true, true_and]
    omega
  · rw [cnt4, told4]
    simp only [List.cons.injEq, and_true, true_and]
    omega
/-- all told numbers together are the last count -/
theorem told_sum {c : List Int} {k : Nat} (h : c.length = k + 1) (hk : k ≤ 4) : (toldL k c (k + 1)).sum = c.getD k 0 := by
  rcases len_cases h hk with ⟨a, rfl⟩ | ⟨a, b, rfl⟩ | ⟨a, b, d, rfl⟩ | ⟨a, b, d, e, rfl⟩ | ⟨a, b, d, e, g, rfl⟩ <;> (simp at h; subst h)
  · rw [told0]; simp
  · rw [told1]; simp; omega
  · rw [told2]; simp; omega
  · rw [told3]; simp; omega
  · rw [told4]; simp; omega
/-- the counts by turns -/
def evenL (c : List Int) : List Int := (List.range c.length).map fun j => sgn (c.getD j 0) j
theorem told_last {c : List Int} {k : Nat} (h : c.length = k + 1) (hk : k ≤ 4) : (evenL c).sum = (if (k : Int) % 2 = 1 then -1 else 1) * (toldL k c (k + 1)).getD k 0 := by
  rcases len_cases h hk with ⟨a, rfl⟩ | ⟨a, b, rfl⟩ | ⟨a, b, d, rfl⟩ | ⟨a, b, d, e, rfl⟩ | ⟨a, b, d, e, g, rfl⟩ <;> (simp at h; subst h)
  · rw [told0]; simp [evenL, sgn, List.range_succ]
  · rw [told1]; simp [evenL, sgn, List.range_succ]; try omega
  · rw [told2]; simp [evenL, sgn, List.range_succ]; omega
  · rw [told3]; simp [evenL, sgn, List.range_succ]; omega
  · rw [told4]; simp [evenL, sgn, List.range_succ]; omega
end Lf

set_option maxHeartbeats 2000000
namespace Lf
open PySem PySem.Spec PyProof.Rows L2 GxR GxA SrT EnT
abbrev nByBr : List Str := ["stack", "order", "many", "points", "i"]
abbrev nEvened : List Str := ["stack", "points", "many"]
/-- [.. for i, x in enumerate(a tuple that stands still)] -/
theorem lc_enT {K : PySem.W.Frag} {a : Addr} {xs : List V} {g : TG} {tt : TT} {te : TE} {vs : List Nat} {σ : L2.St} {H1 : Hp} {D : Addr} {Qd : Hp → Prop} (Pv : Nat → Hp → Prop) (h0 : Pv 0 (upd H1 D (.lst []))) (hl : ∀ i H, Pv i H → SqT K H a xs)
    (hs : ∀ i x H T, xs[i]? = some x → Pv i H → H T = none → g (.ref T) (wipe σ vs) (upd H T (.tup [.int (i : Nat), x])) fun σ2 H2 => wipe σ2 vs = wipe σ vs ∧ tt σ2 H2 fun b H3 =>
      if b = true then te σ2 H3 fun y H4 => ∃ acc, H4 D = some (.lst acc) ∧ acc.length < sizeLine ∧ Pv (i + 1) (upd H4 D (.lst (acc ++ [y]))) else Pv (i + 1) H3) (hd : ∀ H, Pv xs.length H → Qd H) :
    ∃ W : Nat → Nat → Hp → Prop, (∃ m, W 0 m (upd H1 D (.lst []))) ∧ ∀ i m H, W i m H →
      ((ItT K a).stop i H ∧ Qd H) ∨ ((ItT K a).go i H ∧ ∃ Nx : Hp → Prop, (∀ H', Nx H' → ∃ m', m' < m ∧ W (i + 1) m' H') ∧ ∀ x H', (ItT K a).yld i H x H' → g x (wipe σ vs) H' fun σ2 H2 => wipe σ2 vs = wipe σ vs ∧ tt σ2 H2 fun b H3 =>
        if b = true then te σ2 H3 fun y H4 => ∃ acc, H4 D = some (.lst acc) ∧ acc.length < sizeLine ∧ Nx (upd H4 D (.lst (acc ++ [y]))) else Nx H3) := by
  refine ⟨fun i m H => m = xs.length - i ∧ i ≤ xs.length ∧ Pv i H, ⟨xs.length, by simp, Nat.zero_le _, h0⟩, ?_⟩
  rintro i m H ⟨rfl, hi, p⟩
  have q := hl i H p
  by_cases hlt : i < xs.length
  · refine .inr ⟨⟨xs, xs[i], q, List.getElem?_eq_getElem hlt⟩, Pv (i + 1), fun H' p' => ⟨xs.length - (i + 1), by omega, rfl, hlt, p'⟩, fun x H' y => ?_⟩
    obtain ⟨T, z, rfl, hT, rfl, hz⟩ := y
    exact hs i z H T (hz xs q) p hT
  · have e : i = xs.length := by omega
    subst e
    exact .inl ⟨⟨xs, q, rfl⟩, hd H p⟩
/-- how many faces bring so many points -/
def byN (k : Nat) (fs : List (List Int)) (m : Nat) : List Int := (List.range (k + 1)).map fun r => (((bringsL fs m).map List.length).count r : Int)
theorem cnt_int : ∀ (L : List Nat) (r : Nat), (L.map fun x : Nat => (x : Int)).count (r : Int) = L.count r
  | [], _ => rfl
  | a :: L, r => by
    rw [List.map_cons, List.count_cons, List.count_cons, cnt_int L r]
    by_cases e : a = r
    · subst e
      simp
    · have e2 : ¬ ((a : Int) = (r : Int)) := by omega
      simp [e, e2]
section
variable {P : Program} {w : World} {K : PySem.W.Frag} {mg : Str → Option Value} {base : Heap} {Ps : Tbs} {H H' H0 : Hp} {k : Nat} {f c : Addr} {fd : FuncData}
theorem bringsL_len (fs : List (List Int)) : ∀ m, (bringsL fs m).length = m
  | 0 => rfl
  | m + 1 => by rw [bringsL, List.length_append, bringsL_len fs m]; rfl
def spByBr (K : PySem.W.Frag) (Ps : Tbs) : Sp := fun vs H Q _ => ∃ (x y : V) (n kk : Int) (fss : List (List Int)) (ns : List Int), vs = [x, y] ∧ AskR K Ps H x y n kk fss ns ∧ isOrd fss ns ∧ ∀ v H', Ext Ps H H' → TupI K H' v (byN kk.toNat (facesAt fss ns) ns.length) → Q v H'
/-! ### evened -/
def spEvened (K : PySem.W.Frag) (Ps : Tbs) : Sp := fun vs H Q _ => ∃ (x : V) (n kk : Int) (fss : List (List Int)), vs = [x] ∧ Stk K H x n kk fss ∧ StkOk n kk fss ∧ fss.length ≤ 60 ∧ Tb Ps H ∧ ∀ H', Ext Ps H H' → Q (.int (evenL (countsN n.toNat kk.toNat fss)).sum) H'
end
end Lf

set_option maxHeartbeats 4000000
namespace Lf
open PySem PySem.Spec PyProof.Rows L2 GxR GxA SrT EnT
/-! ### sorted(xs) of data -/
section
variable {X : Cx} {β : Type}
theorem each_of {G : V → β → Prop} {enc : β → PyData} {K : PySem.W.Frag} {H : Hp} : ∀ {xs : List V} {us : List Value} {bs : List β}, Vals xs us → Paired (fun x b => Dp K H x (enc b) ∧ G x b) xs bs → PySem.W.EachIs (fun v b => ∃ x, RelV x v ∧ Dp K H x (enc b) ∧ G x b) us bs
  | _, _, _, .nil, .nil => .nil
  | _, _, _, .cons r t, .cons p q => .cons ⟨_, r, p⟩ (each_of t q)
theorem of_each {G : V → β → Prop} : ∀ {us : List Value} {bs : List β}, PySem.W.EachIs (fun v b => ∃ x, RelV x v ∧ G x b) us bs → ∃ ys, Vals ys us ∧ Paired G ys bs
  | _, _, .nil => ⟨[], .nil, .nil⟩
  | _, _, .cons ⟨x, r, g⟩ t => by
    obtain ⟨ys, h1, h2⟩ := of_each t
    exact ⟨x :: ys, .cons r h1, .cons g h2⟩
def rSortD (K : PySem.W.Frag) (enc : β → PyData) : List V → Hp → VK → Prop := fun vs H Q => ∃ (a : Addr) (xs : List V) (bs : List β) (G : V → β → Prop), vs = [.ref a] ∧ SqL K H a xs ∧ Paired (fun x b => Dp K H x (enc b) ∧ G x b) xs bs ∧ PySem.W.AllAlike (bs.map enc) ∧ PySem.W.Sortable (bs.map enc) ∧ (∀ b ∈ bs, (enc b).depth ≤ 10) ∧
  ∀ (ys : List V) (p : Addr), Paired G ys (bs.mergeSort (PySem.W.dataLe false enc)) → H p = none → Q (.ref p) (upd H p (.lst ys))
theorem cr_sortD {enc : β → PyData} (hu : X.A.units + 64 < cLine) : CallR X (.builtin "sorted") (rSortD X.K enc) := by
  intro pins s σ H vs us Q I r h
  obtain ⟨a, xs, bs, G, rfl, hs, hp, hal, hk, hd, q⟩ := h
  obtain ⟨its, rv, hl, hz⟩ := I.list hs
  rw [Vals.ref1 r]
  have hx := Paired.length hp
  have e := each_of rv hp
  have e1 : PySem.W.EachIs (fun v b => ∃ x, RelV x v ∧ G x b) its bs := e.mono fun v b ⟨x, h1, h2⟩ => ⟨x, h1, h2.2⟩
  have e2 : PySem.W.EachIs (fun v b => ∃ as, Reads s.heap v (enc b) as) its bs := e.mono fun v b ⟨x, h1, h2⟩ => Dp.reads I (enc b) x v h2.1 h1
  refine PySem.W.sorted_data hl.isList e1 e2 hal hk (by omega) (fun b hb => by have := hd b hb; omega) fun out hlen ho => ?_
  obtain ⟨ys, hv, hg⟩ := of_each ho
  obtain ⟨ep, he'⟩ := PyProof.Rows.sortedAll_at s.heap its out.toArray
  have hyl := hv.length
  refine ⟨.ref _, upd H (s.heap.objs.size + 1) (.lst ys), I.laid (t' := s.toks) (fun _ _ => PyProof.Rows.sortedAll_old) (Nat.le_succ _) ⟨by omega, out, ep, hv, by simpa using he'⟩, rfl, q _ _ hg (I.hok.fresh (Nat.le_succ _))⟩
end
/-! ### rows of a tuple or a list and a number -/
def encT (b : List Int × Int) : PyData := .tuple [tD b.1, .int b.2]
def encL (b : List Int × Int) : PyData := .tuple [.list (iD b.1), .int b.2]
theorem enc_le : PySem.W.dataLe false encL = PySem.W.dataLe false encT := by
  rw [PySem.W.dataLe_eq, PySem.W.dataLe_eq]
  funext a b
  show (!PySem.W.dataLt (encL b) (encL a)) = (!PySem.W.dataLt (encT b) (encT a))
  suffices key : PySem.W.dataLt (encL b) (encL a) = PySem.W.dataLt (encT b) (encT a) by rw [key]
  unfold encL encT
  have e1 : PyData.eqv (.list (iD b.1)) (.list (iD a.1)) = PyData.eqv (tD b.1) (tD a.1) := by
    show PyData.eqv (.list (iD b.1)) (.list (iD a.1)) = PyData.eqv (.tuple (iD b.1)) (.tuple (iD a.1))
    rw [PyData.eqv, PyData.eqv]
  have e2 : PySem.W.dataLt (.list (iD b.1)) (.list (iD a.1)) = PySem.W.dataLt (tD b.1) (tD a.1) := by
    show _ = PySem.W.dataLt (.tuple (iD b.1)) (.tuple (iD a.1))
    rw [PySem.W.dataLt_list, PySem.W.dataLt_tuple]
  rw [PySem.W.dataLt_pair (by rw [PySem.W.alike]; exact alike_ints _ _) (by rw [PySem.W.alike]), PySem.W.dataLt_pair (by show PySem.W.alike (.tuple (iD b.1)) (.tuple (iD a.1)) = true; rw [PySem.W.alike]; exact alike_ints _ _) (by rw [PySem.W.alike]), e1, e2]
theorem encT_alike (a b : List Int × Int) : PySem.W.alike (encT a) (encT b) = true := by
  unfold encT
  rw [PySem.W.alike, PySem.W.alikeAll, PySem.W.alikeAll, PySem.W.alikeAll]
  have : PySem.W.alike (tD a.1) (tD b.1) = true := by
    show PySem.W.alike (.tuple (iD a.1)) (.tuple (iD b.1)) = true
    rw [PySem.W.alike]
    exact alike_ints _ _
  rw [this, PySem.W.alike]
  rfl
theorem encL_alike (a b : List Int × Int) : PySem.W.alike (encL a) (encL b) = true := by
  unfold encL
  rw [PySem.W.alike, PySem.W.alikeAll, PySem.W.alikeAll, PySem.W.alikeAll]
  have : PySem.W.alike (.list (iD a.1)) (.list (iD b.1)) = true := by
    rw [PySem.W.alike]
    exact alike_ints _ _
  rw [this, PySem.W.alike]
  rfl
theorem allT (bs : List (List Int × Int)) : PySem.W.AllAlike (bs.map encT) ∧ PySem.W.Sortable (bs.map encT) ∧ ∀ b ∈ bs, (encT b).depth ≤ 10 := by
  refine ⟨PySem.W.AllAlike.of encT_alike, PySem.W.Sortable.tuples fun b => ⟨_, _, rfl⟩, fun b _ => ?_⟩
  have := dep_ints b.1
  show (PyData.tuple [.tuple (iD b.1), .int b.2]).depth ≤ 10
  simp only [PyData.depth, PyData.depthAll]
  omega
theorem allL (bs : List (List Int × Int)) : PySem.W.AllAlike (bs.map encL) ∧ PySem.W.Sortable (bs.map encL) ∧ ∀ b ∈ bs, (encL b).depth ≤ 10 := by
  refine ⟨PySem.W.AllAlike.of encL_alike, PySem.W.Sortable.tuples fun b => ⟨_, _, rfl⟩, fun b _ => ?_⟩
  have := dep_ints b.1
  show (PyData.tuple [.list (iD b.1), .int b.2]).depth ≤ 10
  simp only [PyData.depth, PyData.depthAll]
  omega
def prN (ns : List Int) (fss : List (List Int)) (m : Nat) : List (List Int × Int) := (List.range m).map fun i => (nmF ns (fss.getD i []), (i : Int))
def ordN (ns : List Int) (fss : List (List Int)) : List Int := ((prN ns fss fss.length).mergeSort (PySem.W.dataLe false encT)).map (·.2)
theorem prN_succ (ns : List Int) (fss : List (List Int)) (m : Nat) : prN ns fss (m + 1) = prN ns fss m ++ [(nmF ns (fss.getD m []), (m : Int))] := by
  unfold prN
  rw [List.range_succ, List.map_append]
  rfl
theorem ordN_len (ns : List Int) (fss : List (List Int)) : (ordN ns fss).length = fss.length := by
  unfold ordN prN
  rw [List.length_map, List.length_mergeSort, List.length_map, List.length_range]
end Lf

set_option maxHeartbeats 2000000
namespace Lf
open PySem PySem.Spec PyProof.Rows L2 GxR GxA SrT
def isIntD : PyData → Bool
  | .int _ => true
  | _ => false
theorem ints_of_all : ∀ {ds : List PyData}, ds.all isIntD = true → ∃ ns : List Int, ds = iD ns
  | [], _ => ⟨[], rfl⟩
  | d :: ds, h => by
    rw [List.all_cons, Bool.and_eq_true] at h
    obtain ⟨ns, e⟩ := ints_of_all h.2
    cases d with
    | int i => exact ⟨i :: ns, by rw [e]; rfl⟩
    | _ => cases h.1
section
variable {P : Program} {w : World} {K : PySem.W.Frag} {mg : Str → Option Value} {base : Heap} {Ps : Tbs} {H H' H0 : Hp} {k : Nat} {f c : Addr} {fd : FuncData}
/-! ### _law_whole -/
def spWhole (K : PySem.W.Frag) : Sp := fun vs H Q _ => ∃ (x : V) (d : PyData), vs = [x] ∧ Th K H x d ∧ Q (.bl (isIntD d)) H
/-! ### _law_is_row -/
end
end Lf

set_option maxHeartbeats 1000000
/-! set(t), t a tuple of ints; how many it has. -/
namespace ZsT
open PySem PySem.Spec PyProof.Rows L2
section
variable {X : Cx}
def rSetTI (K : PySem.W.Frag) (w : World) : List V → Hp → VK → Prop := fun vs H Q => ∃ (l : Addr) (ns : List Int), vs = [V.ref l] ∧ SqT K H l (ns.map V.int) ∧ ns.length ≤ 1000 ∧ ∀ a c, H a = none → Q (.ref a) (upd H a (SetO w a (fun j => decide (j ∈ ns)) c))
theorem cr_setTI (hc : X.calm = true) : CallR X (.type "set") (rSetTI X.K X.w) := by
  intro pins s σ H vs us Q I r h
  obtain ⟨l, ns, rfl, hq, hl, q⟩ := h
  rw [Vals.ref1 r]
  obtain ⟨its, rv, pt, hz⟩ := I.tuple hq
  refine call_set_tupI ns (I.ok.hd hc) (show s.heap.IsTuple l its.toArray from pt) (ints_of_vals rv) (by unfold scanBound; omega) fun h' tk c R hcn k => ?_
  exact ⟨.ref s.heap.objs.size, _, I.laid (t' := tk) k (Nat.le_refl _) (setO_new R), rfl, q _ c (I.hok.fresh (Nat.le_refl _))⟩
def rLenSet (w : World) : List V → Hp → VK → Prop := fun vs H Q => ∃ (a : Addr) (S : Int → Bool) (c : Nat), vs = [V.ref a] ∧ H a = some (SetO w a S c) ∧ ∀ out : List Int, out.Nodup → (∀ k, k ∈ out ↔ S k = true) → out.length = c → Q (.int (c : Nat)) H
theorem cr_lenSet : CallR X (.builtin "len") (rLenSet X.w) := by
  intro pins s σ H vs us Q I r h
  obtain ⟨a, S, c, rfl, ha, q⟩ := h
  rw [Vals.ref1 r]
  obtain ⟨o, es, ep, t, ho, hex, hdt, g, nd, hm, hb, hf, hn, hr, hl⟩ := (show SetR X.w s.heap a S c from (I.hok a _ ha).1)
  refine call_len_set ho hex hdt hf ?_ ?_
  · have : es.size < scanBound := hb
    unfold scanBound at this
    omega
  · exact ⟨.int (c : Nat), H, I.tok _, ⟨_, by rw [hn]⟩, q (es.toList.map keyOf) nd (fun k => (hm k).symm) (by rw [List.length_map, Array.length_toList, hn])⟩
end
end ZsT

set_option maxHeartbeats 2000000
namespace Lf
open PySem PySem.Spec PyProof.Rows L2 GxR GxA SrT
theorem pw_ext : ∀ {a b : List Int}, a.Pairwise (· < ·) → b.Pairwise (· < ·) → (∀ x, x ∈ a ↔ x ∈ b) → a = b
  | [], [], _, _, _ => rfl
  | [], y :: b, _, _, h => absurd ((h y).mpr (by simp)) (by simp)
  | x :: a, [], _, _, h => absurd ((h x).mp (by simp)) (by simp)
  | x :: a, y :: b, ha, hb, h => by
    rw [List.pairwise_cons] at ha hb
    have e : x = y := by
      have h1 := (h x).mp (by simp)
      have h2 := (h y).mpr (by simp)
      rcases List.mem_cons.mp h1 with e | m1
      · exact e
      · rcases List.mem_cons.mp h2 with e | m2
        · exact e.symm
        · have := hb.1 x m1
          have := ha.1 y m2
          omega
    subst e
    rw [pw_ext ha.2 hb.2 fun z => ?_]
    constructor
    · intro m
      have := ha.1 z m
      rcases List.mem_cons.mp ((h z).mp (List.mem_cons_of_mem _ m)) with e | m2
      · omega
      · exact m2
    · intro m
      have := hb.1 z m
      rcases List.mem_cons.mp ((h z).mpr (List.mem_cons_of_mem _ m)) with e | m2
      · omega
      · exact m2
section
variable {X : Cx}
def rSetTI2 (K : PySem.W.Frag) (w : World) : List V → Hp → VK → Prop := fun vs H Q => ∃ (l : Addr) (ns : List Int), vs = [V.ref l] ∧ SqT K H l (ns.map V.int) ∧ ns.length ≤ 1000 ∧ ∀ a c, c ≤ ns.length → H a = none → Q (.ref a) (upd H a (SetO w a (fun j => decide (j ∈ ns)) c))
theorem cr_setTI2 (hc : X.calm = true) : CallR X (.type "set") (rSetTI2 X.K X.w) := by
  intro pins s σ H vs us Q I r h
  obtain ⟨l, ns, rfl, hq, hl, q⟩ := h
  rw [Vals.ref1 r]
  obtain ⟨its, rv, pt, hz⟩ := I.tuple hq
  refine call_set_tupI ns (I.ok.hd hc) (show s.heap.IsTuple l its.toArray from pt) (ints_of_vals rv) (by unfold scanBound; omega) fun h' tk c R hcn k => ?_
  exact ⟨.ref s.heap.objs.size, _, I.laid (t' := tk) k (Nat.le_refl _) (setO_new R), rfl, q _ c hcn (I.hok.fresh (Nat.le_refl _))⟩
end
section
variable {P : Program} {w : World} {K : PySem.W.Frag} {mg : Str → Option Value} {base : Heap} {Ps : Tbs} {H H' H0 : Hp} {k : Nat} {f c : Addr} {fd : FuncData}
/-! ### is_part of anything -/
def PartD (d : PyData) (n : Int) (fss : List (List Int)) : Prop := ∃ z, d = tD z ∧ RisB n.toNat z ∧ inSome z fss = true
def spIsPartX (K : PySem.W.Frag) (Ps : Tbs) : Sp := fun vs H Q _ => ∃ (x y : V) (n kk : Int) (fss : List (List Int)) (d : PyData), vs = [x, y] ∧ AskX K Ps H x y n kk fss d ∧ ∀ b H', (b = true ↔ PartD d n fss) → Ext Ps H H' → Q (.bl b) H'
theorem risB_of {n : Int} {z : List Int} (h1 : ∀ i ∈ z, 0 ≤ i ∧ i < n) (h2 : z.Pairwise (· < ·)) : RisB n.toNat z := ⟨h2, fun i hi => by have := h1 i hi; omega⟩
/-! ### _law_rising -/
def spRisingL (K : PySem.W.Frag) (Ps : Tbs) : Sp := fun vs H Q _ => ∃ (n : Int) (y : V) (d : PyData), vs = [.int n, y] ∧ n ≤ 8 ∧ Th K H y d ∧ wide d = true ∧ Tb Ps H ∧ (lenD d ≤ 60) ∧ ∀ H', Ext Ps H H' → Q (.bl (risD d n)) H'
theorem ris_no {d e : PyData} {ds : List PyData} {n : Int} (he : e ∈ ds) (h : intIn e 0 (n - 1) = false) : risD (.tuple ds) n = false := by
  cases hb : risD (.tuple ds) n with
  | false => rfl
  | true =>
    obtain ⟨z, ez, hz1, hz2⟩ := risD_iff.mp hb
    injection ez with ez
    rw [ez] at he
    obtain ⟨i, hi, rfl⟩ := List.mem_map.mp he
    have := hz1 i hi
    rw [show intIn (.int i) 0 (n - 1) = (decide (0 ≤ i) && decide (i ≤ n - 1)) from rfl, decide_eq_true this.1, decide_eq_true (by omega)] at h
    cases h
/-! ### _law_is_part -/
def spIsPartL (K : PySem.W.Frag) (Ps : Tbs) : Sp := fun vs H Q _ => ∃ (x y : V) (n kk : Int) (fss : List (List Int)) (d : PyData), vs = [x, y] ∧ AskX K Ps H x y n kk fss d ∧ lenD d ≤ 60 ∧ ∀ b H', (b = true ↔ PartD d n fss) → Ext Ps H H' → Q (.bl b) H'
end
end Lf

set_option maxHeartbeats 2000000
/-! Traded and pushed stacks are laid as they stand, the traded ones under all names. -/
namespace Lf
open PySem PySem.Spec PyProof.Rows L2 GxR GxA SrT EnT
abbrev Ri (f : List Int) : Prop := f.Pairwise (· < ·)
theorem Ri.nd {f : List Int} (h : Ri f) : f.Nodup := h.imp fun {a b} hab e => by omega
/-- some face has the points of f without p, and o -/
def Sw (fss : List (List Int)) (f : List Int) (p o : Int) : Prop := ∃ h ∈ fss, ∀ z, z ∈ h ↔ (z ∈ f ∧ z ≠ p) ∨ z = o
theorem mem_putF {f : List Int} {p o z : Int} : z ∈ putF f p o ↔ (z ∈ f ∧ z ≠ p) ∨ z = o := by
  unfold putF
  rw [(srtI_perm _).mem_iff, List.mem_append, mem_less1, List.mem_singleton]
theorem sw_of_put {fss : List (List Int)} {f : List Int} {p o : Int} (h : putF f p o ∈ fss) : Sw fss f p o := ⟨_, h, fun _ => mem_putF⟩
theorem putF_ri {f : List Int} {p o : Int} (hf : Ri f) (ho : o ∉ f) : Ri (putF f p o) := by
  have nd : (lessL f [p] ++ [o]).Nodup := by
    rw [List.nodup_append]
    refine ⟨hf.nd.sublist List.filter_sublist, by simp, fun a ha b hb e => ho ?_⟩
    rw [List.mem_singleton.mp hb] at e
    rw [← e]
    exact (mem_less1.mp ha).1
  exact List.Pairwise.imp₂ (fun x y (h1 : x ≤ y) (h2 : x ≠ y) => by omega) (srtI_pw _) ((srtI_perm _).nodup_iff.mpr nd)
theorem put_of_sw {fss : List (List Int)} (hr : ∀ f ∈ fss, Ri f) {f : List Int} {p o : Int} (hf : Ri f) (ho : o ∉ f) (h : Sw fss f p o) : putF f p o ∈ fss := by
  obtain ⟨g, hg, hm⟩ := h
  rw [pw_ext (putF_ri hf ho) (hr g hg) fun z => mem_putF.trans (hm z).symm]
  exact hg
def Tr (fss : List (List Int)) : Prop := ∀ f ∈ fss, ∀ g ∈ fss, ∀ p ∈ f, p ∉ g → ∃ o ∈ g, o ∉ f ∧ Sw fss f p o
def Pu (fss : List (List Int)) : Prop := ∀ f ∈ fss, ∀ p ∈ f, ∀ l : Int, 0 ≤ l → l < p → l ∉ f → Sw fss f p l
theorem getD_at {fss : List (List Int)} {f : List Int} (h : f ∈ fss) : ∃ i, i < fss.length ∧ fss.getD i [] = f := by
  obtain ⟨i, hi, e⟩ := List.getElem_of_mem h
  exact ⟨i, hi, by rw [List.getD_eq_getElem?_getD, List.getElem?_eq_getElem hi, e]; rfl⟩
theorem getD_in {fss : List (List Int)} {i : Nat} (h : i < fss.length) : fss.getD i [] ∈ fss := by
  rw [List.getD_eq_getElem?_getD, List.getElem?_eq_getElem h]
  exact List.getElem_mem h
theorem tr_of_unT {fss : List (List Int)} (h : unT fss fss.length = []) : Tr fss := by
  intro f hf g hg p hp hpg
  obtain ⟨i, hi, rfl⟩ := getD_at hf
  obtain ⟨j, hj, rfl⟩ := getD_at hg
  have h1 := List.flatMap_eq_nil_iff.mp h i (List.mem_range.mpr hi)
  have h2 := List.flatMap_eq_nil_iff.mp h1 j (List.mem_range.mpr hj)
  have h3 := List.filter_eq_nil_iff.mp (List.map_eq_nil_iff.mp h2) p (mem_lessL.mpr ⟨hp, hpg⟩)
  have h4 : trB fss (fss.getD i []) (fss.getD j []) p = true := by simpa using h3
  obtain ⟨o, ho, h5⟩ := List.any_eq_true.mp h4
  obtain ⟨o1, o2⟩ := mem_lessL.mp ho
  exact ⟨o, o1, o2, sw_of_put (of_decide_eq_true h5)⟩
theorem unT_of_tr {fss : List (List Int)} (hr : ∀ f ∈ fss, Ri f) (T : Tr fss) : unT fss fss.length = [] := by
  refine List.flatMap_eq_nil_iff.mpr fun i hi => List.flatMap_eq_nil_iff.mpr fun j hj => List.map_eq_nil_iff.mpr (List.filter_eq_nil_iff.mpr fun p hp => ?_)
  have hf := getD_in (List.mem_range.mp hi)
  have hg := getD_in (List.mem_range.mp hj)
  obtain ⟨p1, p2⟩ := mem_lessL.mp hp
  obtain ⟨o, o1, o2, sw⟩ := T _ hf _ hg p p1 p2
  have : trB fss (fss.getD i []) (fss.getD j []) p = true := List.any_eq_true.mpr ⟨o, mem_lessL.mpr ⟨o1, o2⟩, decide_eq_true (put_of_sw hr (hr _ hf) o2 sw)⟩
  rw [this]
  decide
theorem pu_of_unP {fss : List (List Int)} (h : unP fss fss.length = []) : Pu fss := by
  intro f hf p hp l l0 lp hl
  obtain ⟨i, hi, rfl⟩ := getD_at hf
  have h1 := List.flatMap_eq_nil_iff.mp h i (List.mem_range.mpr hi)
  have h2 := List.flatMap_eq_nil_iff.mp h1 p hp
  have h3 := List.filter_eq_nil_iff.mp (List.map_eq_nil_iff.mp h2) l (mem_lessL.mpr ⟨in_rng l0 (by omega), hl⟩)
  have h4 : putF (fss.getD i []) p l ∈ fss := by simpa using h3
  exact sw_of_put h4
/-! ### the exchange the other way round -/
theorem dual_ex {fss : List (List Int)} {k : Nat} (len : ∀ f ∈ fss, f.length = k) (nd : ∀ f ∈ fss, f.Nodup) (T : Tr fss) {f g : List Int} (hf : f ∈ fss) (hg : g ∈ fss) {x : Int} (hx : x ∈ f) (hxg : x ∉ g) : ∃ y ∈ g, y ∉ f ∧ Sw fss g y x := by
  suffices H : ∀ m (A : List Int), A ∈ fss → x ∈ A → (∀ z ∈ f, z ∈ g → z ∈ A) → (lessL A g).length = m → ∃ y ∈ g, y ∉ f ∧ Sw fss g y x from H _ f hf hx (fun z h _ => h) rfl
  intro m
  induction m with
  | zero =>
    intro A _ hA _ e
    have : x ∈ lessL A g := mem_lessL.mpr ⟨hA, hxg⟩
    rw [List.eq_nil_of_length_eq_zero e] at this
    cases this
  | succ m ih =>
    intro A hA hxA hfg e
    by_cases only : ∀ p ∈ A, p ∉ g → p = x
    · have lA := len A hA
      have lg := len g hg
      obtain ⟨y, hy, hyA⟩ : ∃ y ∈ g, y ∉ A := by
        refine Classical.byContradiction fun no => ?_
        have all : ∀ z ∈ x :: g, z ∈ A := fun z hz => (List.mem_cons.mp hz).elim (fun e => e ▸ hxA) fun h => Classical.byContradiction fun h2 => no ⟨z, h, h2⟩
        have := nd_le (List.nodup_cons.mpr ⟨hxg, nd g hg⟩) all
        rw [List.length_cons] at this
        omega
      refine ⟨y, hy, fun z => hyA (hfg y z hy), A, hA, fun z => ⟨fun hz => ?_, fun hz => ?_⟩⟩
      · by_cases zg : z ∈ g
        · exact .inl ⟨zg, fun e => hyA (e ▸ hz)⟩
        · exact .inr (only z hz zg)
      · rcases hz with ⟨zg, zy⟩ | rfl
        · refine Classical.byContradiction fun zA => ?_
          have nA := nd A hA
          have n3 : (y :: z :: A.erase x).Nodup := by
            refine List.nodup_cons.mpr ⟨fun h => ?_, List.nodup_cons.mpr ⟨fun h => zA (List.mem_of_mem_erase h), nA.erase x⟩⟩
            rcases List.mem_cons.mp h with h | h
            · exact zy h.symm
            · exact hyA (List.mem_of_mem_erase h)
          have all : ∀ u ∈ y :: z :: A.erase x, u ∈ g := fun u hu => by
            rcases List.mem_cons.mp hu with rfl | hu
            · exact hy
            rcases List.mem_cons.mp hu with rfl | hu
            · exact zg
            obtain ⟨u1, u2⟩ := (List.Nodup.mem_erase_iff nA).mp hu
            exact Classical.byContradiction fun ug => u1 (only u u2 ug)
          have := nd_le n3 all
          have l2 := List.length_erase_of_mem hxA
          simp only [List.length_cons] at this
          have := List.length_pos_of_mem hxA
          omega
        · exact hxA
    · obtain ⟨p, hp, hpg, hpx⟩ : ∃ p ∈ A, p ∉ g ∧ p ≠ x := Classical.byContradiction fun no => only fun p h1 h2 => Classical.byContradiction fun h3 => no ⟨p, h1, h2, h3⟩
      obtain ⟨o, ho, hoA, h, hh, hm⟩ := T A hA g hg p hp hpg
      refine ih h hh ((hm x).mpr (.inl ⟨hxA, Ne.symm hpx⟩)) (fun z zf zg => (hm z).mpr (.inl ⟨hfg z zf zg, fun e => hpg (e ▸ zg)⟩)) ?_
      have n1 : (p :: lessL h g).Nodup := List.nodup_cons.mpr ⟨fun z => ?_, (nd h hh).sublist List.filter_sublist⟩
      · have n2 : (lessL A g).Nodup := (nd A hA).sublist List.filter_sublist
        have a1 := nd_le n1 (D := lessL A g) fun z hz => by
          rcases List.mem_cons.mp hz with rfl | hz
          · exact mem_lessL.mpr ⟨hp, hpg⟩
          obtain ⟨z1, z2⟩ := mem_lessL.mp hz
          rcases (hm z).mp z1 with ⟨z3, _⟩ | rfl
          · exact mem_lessL.mpr ⟨z3, z2⟩
          · exact absurd ho z2
        have a2 := nd_le n2 (D := p :: lessL h g) fun z hz => by
          obtain ⟨z1, z2⟩ := mem_lessL.mp hz
          by_cases zp : z = p
          · exact List.mem_cons.mpr (.inl zp)
          · exact List.mem_cons_of_mem _ (mem_lessL.mpr ⟨(hm z).mpr (.inl ⟨z1, zp⟩), z2⟩)
        rw [List.length_cons] at a1 a2
        omega
      · obtain ⟨z1, _⟩ := mem_lessL.mp z
        rcases (hm p).mp z1 with ⟨_, z3⟩ | e2
        · exact z3 rfl
        · exact hoA (e2 ▸ hp)
/-! ### the order of tuples -/
theorem lex_cons (a b : Int) (f g : List Int) : lex (a :: f) (b :: g) = if a = b then lex f g else decide (a < b) := rfl
theorem lex_wit : ∀ (f g : List Int), Ri f → Ri g → f.length = g.length → lex f g = true → ∃ x ∈ f, x ∉ g ∧ ∀ z ∈ g, z < x → z ∈ f
  | [], [], _, _, _, h => by cases h
  | [], _ :: _, _, _, e, _ => by cases e
  | _ :: _, [], _, _, e, _ => by cases e
  | a :: f, b :: g, hf, hg, e, h => by
    rw [lex_cons] at h
    have f1 : ∀ {z}, z ∈ f → a < z := fun hz => List.rel_of_pairwise_cons hf hz
    have g1 : ∀ {z}, z ∈ g → b < z := fun hz => List.rel_of_pairwise_cons hg hz
    by_cases ab : a = b
    · subst ab
      rw [if_pos rfl] at h
      obtain ⟨x, hx, hxg, hz⟩ := lex_wit f g hf.of_cons hg.of_cons (by simpa using e) h
      refine ⟨x, List.mem_cons_of_mem _ hx, fun m => ?_, fun z m lt => ?_⟩
      · rcases List.mem_cons.mp m with e2 | m
        · have := f1 hx
          omega
        · exact hxg m
      · rcases List.mem_cons.mp m with e2 | m
        · exact List.mem_cons.mpr (.inl e2)
        · exact List.mem_cons_of_mem _ (hz z m lt)
    · rw [if_neg ab] at h
      have lt := of_decide_eq_true h
      refine ⟨a, List.mem_cons_self, fun m => ?_, fun z m l2 => ?_⟩
      · rcases List.mem_cons.mp m with e2 | m
        · omega
        · have := g1 m
          omega
      · rcases List.mem_cons.mp m with e2 | m
        · omega
        · have := g1 m
          omega
theorem lex_of : ∀ (h g : List Int), Ri h → Ri g → h.length = g.length → (∃ x ∈ h, x ∉ g ∧ ∀ z, z < x → (z ∈ h ↔ z ∈ g)) → lex h g = true
  | [], _, _, _, _, w => by
    obtain ⟨x, hx, _⟩ := w
    cases hx
  | _ :: _, [], _, _, e, _ => by cases e
  | a :: h, b :: g, hh, hg, e, w => by
    obtain ⟨x, hx, hxg, hz⟩ := w
    have h1 : ∀ {z}, z ∈ h → a < z := fun hz => List.rel_of_pairwise_cons hh hz
    have g1 : ∀ {z}, z ∈ g → b < z := fun hz => List.rel_of_pairwise_cons hg hz
    have ax : a ≤ x := by
      rcases List.mem_cons.mp hx with e2 | m
      · omega
      · have := h1 m
        omega
    rw [lex_cons]
    by_cases ab : a = b
    · subst ab
      rw [if_pos rfl]
      have xa : x ≠ a := fun e2 => hxg (List.mem_cons.mpr (.inl e2))
      refine lex_of h g hh.of_cons hg.of_cons (by simpa using e) ⟨x, (List.mem_cons.mp hx).resolve_left xa, fun m => hxg (List.mem_cons_of_mem _ m), fun z lt => ?_⟩
      have q := hz z lt
      constructor
      · intro m
        have := h1 m
        exact (List.mem_cons.mp (q.mp (List.mem_cons_of_mem _ m))).resolve_left (by omega)
      · intro m
        have := g1 m
        exact (List.mem_cons.mp (q.mpr (List.mem_cons_of_mem _ m))).resolve_left (by omega)
    · rw [if_neg ab]
      refine decide_eq_true (Classical.byContradiction fun no => ?_)
      have m := (hz b (by omega)).mpr List.mem_cons_self
      rcases List.mem_cons.mp m with e2 | m
      · omega
      · have := h1 m
        omega
theorem lt_lex : ∀ f g : List Int, lex f g = decide (f < g)
  | [], [] => rfl
  | [], _ :: _ => by simp [HT.lexLt]
  | _ :: _, [] => by simp [HT.lexLt]
  | a :: f, b :: g => by
    rw [lex_cons, lt_lex f g]
    by_cases ab : a = b
    · subst ab
      simp [List.cons_lt_cons_iff]
    · rw [if_neg ab]
      simp [List.cons_lt_cons_iff, ab]
/-! ### shellings -/
/-- what makes the order of tuples an order -/
def LexEx (fss : List (List Int)) : Prop := ∀ f ∈ fss, ∀ g ∈ fss, ∀ x ∈ f, x ∉ g → (∀ z ∈ g, z < x → z ∈ f) → ∃ y ∈ g, y ∉ f ∧ x < y ∧ Sw fss g y x
theorem lexEx_of {fss : List (List Int)} (h : ∀ f ∈ fss, ∀ g ∈ fss, ∀ x ∈ f, x ∉ g → (∀ z ∈ g, z < x → z ∈ f) → ∃ y ∈ g, y ∉ f ∧ (x < y → Sw fss g y x)) : LexEx fss := fun f hf g hg x hx hxg hz => by
  obtain ⟨y, hy, hyf, sw⟩ := h f hf g hg x hx hxg hz
  have : x < y := by
    refine Classical.byContradiction fun no => ?_
    have : y ≠ x := fun e => hxg (e ▸ hy)
    exact hyf (hz y hy (by omega))
  exact ⟨y, hy, hyf, this, sw this⟩
theorem Tr.lexEx {fss : List (List Int)} {k : Nat} (len : ∀ f ∈ fss, f.length = k) (nd : ∀ f ∈ fss, f.Nodup) (T : Tr fss) : LexEx fss := lexEx_of fun f hf g hg x hx hxg _ => by
  obtain ⟨y, hy, hyf, sw⟩ := dual_ex len nd T hf hg hx hxg
  exact ⟨y, hy, hyf, fun _ => sw⟩
theorem Pu.lexEx {fss : List (List Int)} {k : Nat} (len : ∀ f ∈ fss, f.length = k) (nd : ∀ f ∈ fss, f.Nodup) (pos : ∀ f ∈ fss, ∀ p ∈ f, (0 : Int) ≤ p) (T : Pu fss) : LexEx fss := lexEx_of fun f hf g hg x hx hxg _ => by
  obtain ⟨y, hy, hyf⟩ : ∃ y ∈ g, y ∉ f := by
    refine Classical.byContradiction fun no => ?_
    have all : ∀ z ∈ x :: g, z ∈ f := fun z hz => (List.mem_cons.mp hz).elim (fun e => e ▸ hx) fun h => Classical.byContradiction fun h2 => no ⟨z, h, h2⟩
    have := nd_le (List.nodup_cons.mpr ⟨hxg, nd g hg⟩) all
    rw [List.length_cons, len f hf, len g hg] at this
    omega
  exact ⟨y, hy, hyf, fun lt => T g hg y hy x (pos f hf x hx) lt hxg⟩
theorem lies_of_lex {F : List (List Int)} {k : Nat} (ri : ∀ f ∈ F, Ri f) (len : ∀ f ∈ F, f.length = k) (srt : F.Pairwise fun x y => lex x y = true) (X : LexEx F) {j : Nat} {fc : List Int} (hj : F[j]? = some fc) : liesOn (F.take j) fc = true := by
  have hc := List.mem_of_getElem? hj
  have jl := (List.getElem?_eq_some_iff.mp hj).1
  have rel : ∀ {i i' : Nat} {a b : List Int}, F[i]? = some a → F[i']? = some b → i < i' → lex a b = true := fun {i i' a b} h1 h2 lt => by
    obtain ⟨l1, e1⟩ := List.getElem?_eq_some_iff.mp h1
    obtain ⟨l2, e2⟩ := List.getElem?_eq_some_iff.mp h2
    rw [← e1, ← e2]
    exact List.pairwise_iff_getElem.mp srt i i' l1 l2 lt
  refine lies_iff.mpr fun g hg => ?_
  obtain ⟨i, hi⟩ := List.getElem?_of_mem hg
  have il : i < j := by
    have := (List.getElem?_eq_some_iff.mp hi).1
    rw [List.length_take] at this
    omega
  rw [List.getElem?_take_of_lt il] at hi
  have hgF := List.mem_of_getElem? hi
  obtain ⟨x, hx, hxc, hz⟩ := lex_wit g fc (ri g hgF) (ri fc hc) ((len g hgF).trans (len fc hc).symm) (rel hi hj il)
  obtain ⟨y, hy, hyg, xy, h, hh, hm⟩ := X g hgF fc hc x hx hxc hz
  refine ⟨y, List.mem_filter.mpr ⟨hy, inSome_ex.mpr ⟨h, ?_, fun p hp => ?_⟩⟩, hyg⟩
  · have lx : lex h fc = true := lex_of h fc (ri h hh) (ri fc hc) ((len h hh).trans (len fc hc).symm) ⟨x, (hm x).mpr (.inr rfl), hxc, fun z lt => (hm z).trans ⟨fun q => q.elim (fun a => a.1) fun e => by omega, fun q => .inl ⟨q, by omega⟩⟩⟩
    obtain ⟨i2, h2⟩ := List.getElem?_of_mem hh
    have lt2 : i2 < j := by
      rcases Nat.lt_trichotomy i2 j with q | q | q
      · exact q
      · subst q
        rw [hj] at h2
        cases h2
        rw [SrT.lex_irrefl] at lx
        cases lx
      · have z : lex h fc = false := NtL.lex_asym _ _ (rel hj h2 q)
        exact absurd (z.symm.trans lx) (by decide)
    exact List.mem_of_getElem? (by rw [List.getElem?_take_of_lt lt2]; exact h2)
  · obtain ⟨p1, p2⟩ := mem_less1.mp hp
    exact (hm p).mpr (.inl ⟨p1, p2⟩)
theorem wrong_of_lies {F : List (List Int)} (h : ∀ j fc, F[j]? = some fc → liesOn (F.take j) fc = true) : wrongAt [] F 0 = none := by
  have go : ∀ m i, m + i = F.length → wrongAt (F.take i) (F.drop i) i = none := by
    intro m
    induction m with
    | zero =>
      intro i e
      rw [List.drop_eq_nil_of_le (by omega)]
      rfl
    | succ m ih =>
      intro i e
      have hi : i < F.length := by omega
      have hg := List.getElem?_eq_getElem hi
      rw [wrong_step hg, if_pos (h i _ hg)]
      exact ih (i + 1) (by omega)
  exact go F.length 0 rfl
theorem facesAt_rng (fss : List (List Int)) : facesAt fss (rng fss.length) = fss := by
  unfold facesAt rng
  rw [List.map_map]
  refine List.ext_getElem (by simp) fun i h1 h2 => ?_
  simp [List.getD_eq_getElem?_getD, List.getElem?_eq_getElem h2]
theorem StkOk.len_ {n k : Int} {fss : List (List Int)} (S : StkOk n k fss) : ∀ f ∈ fss, f.length = k.toNat := fun f hf => by
  have := S.len f hf
  omega
/-- as they stand -/
theorem plain_ord {n k : Int} {fss : List (List Int)} (S : StkOk n k fss) (h : ((unT fss fss.length).isEmpty || (unP fss fss.length).isEmpty) = true) : isOrd fss (rng fss.length) := by
  refine ⟨.refl _, ?_⟩
  rw [facesAt_rng]
  have nd : ∀ f ∈ fss, f.Nodup := fun f hf => Ri.nd (S.ris f hf)
  refine wrong_of_lies fun j fc hj => lies_of_lex S.ris S.len_ S.srt ?_ hj
  rcases Bool.or_eq_true_iff.mp h with h | h
  · exact (tr_of_unT (List.isEmpty_iff.mp h)).lexEx S.len_ nd
  · exact (pu_of_unP (List.isEmpty_iff.mp h)).lexEx S.len_ nd fun f hf p hp => (S.bel f hf p hp).1
/-! ### under names -/
theorem mem_nmF {ns f : List Int} {z : Int} : z ∈ nmF ns f ↔ ∃ p ∈ f, ntI ns p = z := by
  unfold nmF
  rw [(srtI_perm _).mem_iff, List.mem_map]
theorem rng_nd (n : Nat) : (rng n).Nodup := by
  unfold rng
  exact List.Pairwise.map _ (fun a b h e => h (by omega)) List.nodup_range
theorem ntI_inj {ns : List Int} {n : Nat} (hp : ns.Perm (rng n)) {p q : Int} (p0 : 0 ≤ p) (pn : p < n) (q0 : 0 ≤ q) (qn : q < n) (e : ntI ns p = ntI ns q) : p = q := by
  have nl : ns.length = n := by rw [hp.length_eq, rng_len]
  have nd : ns.Nodup := hp.nodup_iff.mpr (rng_nd n)
  have at_ : ∀ r : Int, 0 ≤ r → r < n → ∃ h : r.toNat < ns.length, ntI ns r = ns[r.toNat] := fun r r0 rn => by
    have h : r.toNat < ns.length := by omega
    refine ⟨h, ?_⟩
    unfold ntI
    rw [List.getD_eq_getElem?_getD, List.getElem?_eq_getElem h]
    rfl
  obtain ⟨h1, e1⟩ := at_ p p0 pn
  obtain ⟨h2, e2⟩ := at_ q q0 qn
  rw [e1, e2] at e
  have := (List.getElem_inj nd).mp e
  omega
section
variable {ns : List Int} {n k : Int} {fss : List (List Int)}
theorem nm_back (S : StkOk n k fss) (hp : ns.Perm (rng n.toNat)) {f : List Int} (hf : f ∈ fss) {p : Int} (p0 : 0 ≤ p) (pn : p < n) : ntI ns p ∈ nmF ns f ↔ p ∈ f := by
  constructor
  · intro h
    obtain ⟨q, hq, e⟩ := mem_nmF.mp h
    have b := S.bel f hf q hq
    rw [ntI_inj hp p0 (by omega) b.1 (by omega) e.symm]
    exact hq
  · exact fun h => mem_nmF.mpr ⟨p, h, rfl⟩
theorem nmF_ri (S : StkOk n k fss) (hp : ns.Perm (rng n.toNat)) {f : List Int} (hf : f ∈ fss) : Ri (nmF ns f) := by
  have nd : (f.map (ntI ns)).Nodup := by
    refine List.pairwise_map.mpr (List.Pairwise.imp_of_mem (fun {a b} ha hb (hab : a < b) e => ?_) (S.ris f hf))
    have := S.bel f hf a ha
    have := S.bel f hf b hb
    have := ntI_inj hp (by omega) (by omega) (by omega) (by omega) e
    omega
  exact List.Pairwise.imp₂ (fun x y (h1 : x ≤ y) (h2 : x ≠ y) => by omega) (srtI_pw _) ((srtI_perm _).nodup_iff.mpr nd)
theorem nmF_inj (S : StkOk n k fss) (hp : ns.Perm (rng n.toNat)) {f g : List Int} (hf : f ∈ fss) (hg : g ∈ fss) (e : nmF ns f = nmF ns g) : f = g := by
  refine pw_ext (S.ris f hf) (S.ris g hg) fun z => ⟨fun h => ?_, fun h => ?_⟩
  · have b := S.bel f hf z h
    exact (nm_back S hp hg b.1 b.2).mp (e ▸ (nm_back S hp hf b.1 b.2).mpr h)
  · have b := S.bel g hg z h
    exact (nm_back S hp hf b.1 b.2).mp (e ▸ (nm_back S hp hg b.1 b.2).mpr h)
theorem tr_named (S : StkOk n k fss) (hp : ns.Perm (rng n.toNat)) (T : Tr fss) : Tr (fss.map (nmF ns)) := by
  intro F hF G hG P hP hPG
  obtain ⟨f, hf, rfl⟩ := List.mem_map.mp hF
  obtain ⟨g, hg, rfl⟩ := List.mem_map.mp hG
  obtain ⟨p, pf, rfl⟩ := mem_nmF.mp hP
  have bp := S.bel f hf p pf
  obtain ⟨o, og, of_, h, hh, hm⟩ := T f hf g hg p pf fun z => hPG ((nm_back S hp hg bp.1 bp.2).mpr z)
  have bo := S.bel g hg o og
  refine ⟨ntI ns o, (nm_back S hp hg bo.1 bo.2).mpr og, fun z => of_ ((nm_back S hp hf bo.1 bo.2).mp z), nmF ns h, List.mem_map.mpr ⟨h, hh, rfl⟩, fun z => ?_⟩
  rw [mem_nmF]
  constructor
  · rintro ⟨q, hq, rfl⟩
    rcases (hm q).mp hq with ⟨q1, q2⟩ | rfl
    · have bq := S.bel f hf q q1
      exact .inl ⟨(nm_back S hp hf bq.1 bq.2).mpr q1, fun e => q2 (ntI_inj hp (by omega) (by omega) (by omega) (by omega) e)⟩
    · exact .inr rfl
  · rintro (⟨z1, z2⟩ | rfl)
    · obtain ⟨q, q1, rfl⟩ := mem_nmF.mp z1
      exact ⟨q, (hm q).mpr (.inl ⟨q1, fun e => z2 (by rw [e])⟩), rfl⟩
    · exact ⟨o, (hm o).mpr (.inr rfl), rfl⟩
theorem unT_named (S : StkOk n k fss) (hp : ns.Perm (rng n.toNat)) (h : unT fss fss.length = []) : unT (sortL (fss.map (nmF ns))) (sortL (fss.map (nmF ns))).length = [] := by
  have T := tr_named S hp (tr_of_unT h)
  have mm : ∀ F, F ∈ sortL (fss.map (nmF ns)) ↔ F ∈ fss.map (nmF ns) := fun F => (sortL_perm _).mem_iff
  refine unT_of_tr (fun F hF => ?_) fun F hF G hG P hP hPG => ?_
  · obtain ⟨f, hf, rfl⟩ := List.mem_map.mp ((mm F).mp hF)
    exact nmF_ri S hp hf
  · obtain ⟨o, o1, o2, h, hh, hm⟩ := T F ((mm F).mp hF) G ((mm G).mp hG) P hP hPG
    exact ⟨o, o1, o2, h, (mm h).mpr hh, hm⟩
theorem lies_back (S : StkOk n k fss) (hp : ns.Perm (rng n.toNat)) {laid : List (List Int)} {fc : List Int} (hl : ∀ g ∈ laid, g ∈ fss) (hc : fc ∈ fss) (h : liesOn (laid.map (nmF ns)) (nmF ns fc) = true) : liesOn laid fc = true := by
  refine lies_iff.mpr fun g hg => ?_
  obtain ⟨P, hP, hPg⟩ := lies_iff.mp h _ (List.mem_map.mpr ⟨g, hg, rfl⟩)
  obtain ⟨P1, P2⟩ := List.mem_filter.mp hP
  obtain ⟨p, pf, rfl⟩ := mem_nmF.mp P1
  obtain ⟨H_, hH, hin⟩ := inSome_ex.mp P2
  obtain ⟨h_, hh, rfl⟩ := List.mem_map.mp hH
  have bp := S.bel fc hc p pf
  refine ⟨p, List.mem_filter.mpr ⟨pf, inSome_ex.mpr ⟨h_, hh, fun q hq => ?_⟩⟩, fun z => hPg ((nm_back S hp (hl g hg) bp.1 bp.2).mpr z)⟩
  obtain ⟨q1, q2⟩ := mem_less1.mp hq
  have bq := S.bel fc hc q q1
  refine (nm_back S hp (hl h_ hh) bq.1 bq.2).mp (hin _ (mem_less1.mpr ⟨(nm_back S hp hc bq.1 bq.2).mpr q1, fun e => q2 ?_⟩))
  exact ntI_inj hp (by omega) (by omega) (by omega) (by omega) e
/-- in the order that the names give -/
theorem named_ord (S : StkOk n k fss) (hp : ns.Perm (rng n.toNat)) (h : (unT fss fss.length).isEmpty = true) : isOrd fss (ordN ns fss) := by
  have T := tr_named S hp (tr_of_unT (List.isEmpty_iff.mp h))
  have pm : ((prN ns fss fss.length).mergeSort (PySem.W.dataLe false encT)).Perm (prN ns fss fss.length) := List.mergeSort_perm _ _
  generalize eS : (prN ns fss fss.length).mergeSort (PySem.W.dataLe false encT) = M at pm
  have eO : ordN ns fss = M.map (·.2) := by
    unfold ordN
    rw [eS]
  have mem : ∀ b ∈ M, ∃ i, i < fss.length ∧ b = (nmF ns (fss.getD i []), (i : Int)) := fun b hb => by
    obtain ⟨i, hi, rfl⟩ := List.mem_map.mp (pm.mem_iff.mp hb)
    exact ⟨i, List.mem_range.mp hi, rfl⟩
  have ndF : fss.Nodup := S.srt.imp fun {a b} hab e => by
    rw [e, SrT.lex_irrefl] at hab
    cases hab
  have nd2 : (M.map (·.2)).Nodup := by
    refine (pm.map _).nodup_iff.mpr ?_
    unfold prN
    rw [List.map_map]
    exact rng_nd fss.length
  have eF : facesAt fss (ordN ns fss) = M.map fun b => fss.getD b.2.toNat [] := by
    rw [eO]
    unfold facesAt
    rw [List.map_map]
    rfl
  have nmD : ∀ b ∈ M, nmF ns (fss.getD b.2.toNat []) = b.1 := fun b hb => by
    obtain ⟨i, _, rfl⟩ := mem b hb
    rfl
  have inF : ∀ g ∈ facesAt fss (ordN ns fss), g ∈ fss := fun g hg => by
    rw [eF] at hg
    obtain ⟨b, hb, rfl⟩ := List.mem_map.mp hg
    obtain ⟨i, hi, rfl⟩ := mem b hb
    exact getD_in (by simpa using hi)
  have eN : (facesAt fss (ordN ns fss)).map (nmF ns) = M.map (·.1) := by
    rw [eF, List.map_map]
    exact List.map_congr_left nmD
  have srt : (M.map (·.1)).Pairwise fun x y => lex x y = true := by
    refine List.pairwise_map.mpr ?_
    have so : M.Pairwise fun a b => PySem.W.dataLe false encT a b = true := by
      rw [← eS]
      exact List.pairwise_mergeSort (le := PySem.W.dataLe false encT) (PySem.W.sortLe_total _ false _).trans (fun a b => Bool.or_eq_true_iff.mpr ((PySem.W.sortLe_total _ false _).total a b)) _
    refine List.Pairwise.imp₂ (R := fun a b => PySem.W.dataLe false encT a b = true ∧ a ∈ M ∧ b ∈ M) (fun a b ⟨h1, ha, hb⟩ (h2 : a.2 ≠ b.2) => ?_) (List.Pairwise.imp_of_mem (fun {a b} ha hb h1 => ⟨h1, ha, hb⟩) so) (List.pairwise_map.mp nd2)
    obtain ⟨i, hi, ea⟩ := mem a ha
    obtain ⟨j, hj, eb⟩ := mem b hb
    have ne : a.1 ≠ b.1 := fun e => by
      rw [ea, eb] at e
      have z := nmF_inj S hp (getD_in hi) (getD_in hj) e
      rw [List.getD_eq_getElem?_getD, List.getD_eq_getElem?_getD, List.getElem?_eq_getElem hi, List.getElem?_eq_getElem hj] at z
      have := (List.getElem_inj ndF).mp z
      exact h2 (by rw [ea, eb, this])
    have q : PySem.W.dataLt (encT b) (encT a) = false := by
      rw [PySem.W.dataLe_eq] at h1
      simpa using h1
    unfold encT at q
    rw [PySem.W.dataLt_pair (by show PySem.W.alike (.tuple (iD _)) (.tuple (iD _)) = true; rw [PySem.W.alike]; exact alike_ints _ _) (by simp [PySem.W.alike])] at q
    have nq : PyData.eqv (tD b.1) (tD a.1) ≠ true := fun e => by
      rw [eqv_tD] at e
      exact ne (of_decide_eq_true e).symm
    rw [if_neg nq] at q
    have q2 : decide (b.1 < a.1) = false := by
      rw [← PySem.W.dataLt_ints]
      rw [PySem.W.dataLt_tuple] at q
      exact q
    rw [← lt_lex] at q2
    cases z : lex a.1 b.1 with
    | true => rfl
    | false => exact absurd (lex_tot _ _ z q2) ne
  refine ⟨?_, wrong_of_lies fun j fc hj => ?_⟩
  · rw [eO]
    refine (pm.map _).trans ?_
    unfold prN rng
    rw [List.map_map]
    exact .refl _
  · have hc := inF fc (List.mem_of_getElem? hj)
    refine lies_back S hp (fun g hg => inF g (List.mem_of_mem_take hg)) hc ?_
    rw [List.map_take, eN]
    have hjN : (M.map (·.1))[j]? = some (nmF ns fc) := by
      rw [← eN, List.getElem?_map, hj]
      rfl
    have mN : ∀ F, F ∈ M.map (·.1) ↔ F ∈ fss.map (nmF ns) := fun F => by
      rw [(pm.map _).mem_iff]
      unfold prN
      rw [List.map_map, List.mem_map, List.mem_map]
      constructor
      · rintro ⟨i, hi, rfl⟩
        exact ⟨_, getD_in (List.mem_range.mp hi), rfl⟩
      · rintro ⟨f, hf, rfl⟩
        obtain ⟨i, hi, rfl⟩ := getD_at hf
        exact ⟨i, List.mem_range.mpr hi, rfl⟩
    have of_ : ∀ F ∈ M.map (·.1), ∃ f ∈ fss, nmF ns f = F := fun F hF => List.mem_map.mp ((mN F).mp hF)
    refine lies_of_lex (k := k.toNat) (fun F hF => ?_) (fun F hF => ?_) srt ?_ hjN
    · obtain ⟨f, hf, rfl⟩ := of_ F hF
      exact nmF_ri S hp hf
    · obtain ⟨f, hf, rfl⟩ := of_ F hF
      rw [nmF_len]
      exact S.len_ f hf
    · refine Tr.lexEx (k := k.toNat) (fun F hF => ?_) (fun F hF => ?_) fun F hF G hG P hP hPG => ?_
      · obtain ⟨f, hf, rfl⟩ := of_ F hF
        rw [nmF_len]
        exact S.len_ f hf
      · obtain ⟨f, hf, rfl⟩ := of_ F hF
        exact Ri.nd (nmF_ri S hp hf)
      · obtain ⟨o, o1, o2, h, hh, hm⟩ := T F ((mN F).mp hF) G ((mN G).mp hG) P hP hPG
        exact ⟨o, o1, o2, h, (mN h).mpr hh, hm⟩
end
end Lf

set_option maxHeartbeats 4000000
/-! A set of tuples of ints of any number that the third table holds (at most 76): looked through, grown, laid anew. -/
namespace Bg
open PySem PySem.Spec PyProof.Rows L2 PySem.W SrT
section
variable {P : Program} {w : World} {A : Around} {E : Value → Shared → Prop} {s : Shared} {a : Addr} {L : List (Addr × List Int)} {es : Array (Int × Value)} {ep : Nat} {t : SetTable}
/-- the set at a, whole -/
structure Big (P : Program) (w : World) (g : Heap) (a : Addr) (L : List (Addr × List Int)) (es : Array (Int × Value)) (ep : Nat) (t : SetTable) : Prop where
  obj : ∃ o, g.get? a = some o ∧ o.ExactSet ∧ o.data = .set es ep t
  rws : es.toList = L2.rowsOf P w L
  tab : TabOk t (L.map fun q => thash P w q.2)
  dis : (L.map (·.2)).Nodup
  tps : ∀ q ∈ L, IsT P w g q.2 q.1
  pln : t.plain = true
  told : w.params.followText "set-order" = true ∨ t.led = true
  spare : L.length * 5 < t.mask * 3
theorem rows_len {L : List (Addr × List Int)} : (L2.rowsOf P w L).length = L.length := List.length_map ..
theorem Big.len (R : Big P w s.heap a L es ep t) : es.size = L.length := by
  rw [← Array.length_toList, R.rws, rows_len]
theorem Big.places (R : Big P w s.heap a L es ep t) : t.place.size = L.length := R.tab.sz.trans (List.length_map ..)
theorem fits_of {n : Nat} (hd : t.dummies = #[]) (h1 : t.place.size = n) (h2 : n ≤ t.mask) : t.fits n = true := by
  simp [SetTable.fits, SetTable.fill, hd, h1, h2]
theorem Big.fits (R : Big P w s.heap a L es ep t) : t.fits es.size = true := by
  have := R.spare
  rw [R.len]
  exact fits_of R.tab.dm R.places (by omega)
theorem Big.row (R : Big P w s.heap a L es ep t) {i : Nat} {q : Addr × List Int} (h : L[i]? = some q) : es[i]? = some (thash P w q.2, Value.ref q.1) := by
  have z : es.toList[i]? = some (thash P w q.2, Value.ref q.1) := by
    rw [R.rws]
    simp [L2.rowsOf, h]
  simpa using z
theorem Big.stays (R : Big P w s.heap a L es ep t) : ¬ t.gaveWay = true := by
  intro z
  unfold SetTable.gaveWay at z
  rw [mask_odd R.tab.mok] at z
  revert z
  decide
theorem nth_clean {m : Nat} : ∀ (n : Nat) (p : SetTable.Probe), p.dummy = none → (nth m p n).dummy = none
  | 0, _, h => h
  | n + 1, p, h => nth_clean n (adv m p) (by unfold adv; split <;> exact h)
/-- the way of a hash, as probes -/
abbrev road (m : Nat) (h : Int) : SetTable.Probe := runAt m (SetTable.bits h % (m + 1)) (SetTable.bits h)
/-- from the c-th step on: found, or the K-th slot is free -/
theorem Big.seek (R : Big P w s.heap a L es ep t) {x : Addr} {k : List Int} (hx : IsT P w s.heap k x) (hu : A.units < cLine) {K : Nat} {Q : SetFound → Shared → Prop} (far : K < 10 * SetTable.turns t.mask) (free : way t.mask (thash P w k) K ∉ t.place.toList)
    (full : ∀ c, c < K → way t.mask (thash P w k) c ∈ t.place.toList) (yes : k ∈ L.map (·.2) → Q (.there none) s) (no : k ∉ L.map (·.2) → Q (.free (way t.mask (thash P w k) K) false) s) (f : Nat) :
    ∀ (c : Nat) (st : Option SetTable.Probe), st.getD (t.probeStart (thash P w k)) = nth t.mask (road t.mask (thash P w k)) c → c ≤ K → K < f + c →
      (∀ (i : Nat) (q : Addr × List Int), L[i]? = some q → q.2 = k → ∃ d, c ≤ d ∧ d < K ∧ t.place.toList[i]? = some (way t.mask (thash P w k) d)) →
      wpAny (model P w) A (setSearchFrom a (.ref x) (thash P w k) true f st) Q E s := by
  generalize hh : thash P w k = h at *
  induction f with
  | zero =>
    intro c st _ h1 h2
    omega
  | succ f ih =>
    intro c st est hcK hf left
    have ⟨o, ho, hex, hdat⟩ := R.obj
    have look : ∀ {β : Type} {m : _ → Sem β} {Q' : β → Shared → Prop}, wpAny (model P w) A (m (es, ep, t)) Q' E s → wpAny (model P w) A (setState a >>= m) Q' E s := fun z => wpAny_bind (wpAny_setState_of ho hdat R.fits z)
    rw [setSearchFrom_succ]
    apply look
    dsimp only
    refine wp_if_neg R.stays ?_
    try refine wpAny_bind (wpAny_pure ?_)
    have more : ∀ n, nth t.mask (nth t.mask (road t.mask h) c) n = nth t.mask (road t.mask h) (c + n) := fun n => (nth_add t.mask c _ n).symm
    have slot : ∀ n, (nth t.mask (nth t.mask (road t.mask h) c) n).j = way t.mask h (c + n) := fun n => congrArg SetTable.Probe.j (more n)
    have eK : c + (K - c) = K := by omega
    have met := go_spec t R.tab.ris R.tab.dm (fun i => (es[i]?.map (·.1)).getD 0) h (10 * SetTable.turns t.mask) (K - c) (nth t.mask (road t.mask h) c) (nth_clean c _ rfl) (by omega)
      (fun n hn => (slot n).symm ▸ full (c + n) (by omega)) (by rw [slot, eK]; exact free)
    have hashOf : ∀ {i : Nat} {q : Addr × List Int}, L[i]? = some q → (es[i]?.map (·.1)).getD 0 = thash P w q.2 := fun hq => by
      rw [R.row hq]
      rfl
    have start : ∀ r, SetTable.probe.go t (fun i => (es[i]?.map (·.1)).getD 0) h (10 * SetTable.turns t.mask) (nth t.mask (road t.mask h) c) = some r → t.probe (fun i => (es[i]?.map (·.1)).getD 0) h (st.getD (t.probeStart h)) = some r := fun r z => by
      rw [est]
      exact z
    rcases met with ⟨n, i, hn, hi, _, first, found⟩ | ⟨never, found⟩
    · rw [start _ found]
      dsimp only
      rw [slot] at hi
      have il : i < L.length := by
        have z := (List.getElem?_eq_some_iff.mp hi).1
        rw [Array.length_toList, R.places] at z
        exact z
      obtain ⟨q, hq⟩ : ∃ q, L[i]? = some q := ⟨_, List.getElem?_eq_getElem il⟩
      have hm := List.mem_of_getElem? hq
      have tq := R.tps q hm
      have rest : wpAny (model P w) A (searchRest a (.ref x) h true f es t (nth t.mask (nth t.mask (road t.mask h) c) n).j i (nth t.mask (nth t.mask (road t.mask h) c) (n + 1))) Q E s := by
        unfold searchRest
        rw [R.row hq, slot]
        dsimp only
        refine wpAny_bind (wpAny_holding (wpAny_eqBool_tuple hu tq hx ?_))
        apply look
        dsimp only
        rcases Classical.em (q.2 = k) with same | other
        · exact wp_if_pos (by simp [same]) (wpAny_pure (yes (List.mem_map.mpr ⟨q, hm, same⟩)))
        refine wp_if_neg (by simp [other]) ?_
        try refine wpAny_bind (wpAny_pure ?_)
        rw [sameMem]
        have here : t.slot (way t.mask h (c + n)) = .live i := slot_live R.tab.ris hi
        simp only [if_true, here, R.row hq]
        refine wpAny_bind (wpAny_isSame_ref_self (wpAny_bind (wpAny_pure ?_)))
        simp only [if_true]
        refine wp_if_neg (by simp [other]) (ih (c + (n + 1)) _ (more (n + 1)) (by omega) (by omega) fun i2 q2 h2 e2 => ?_)
        obtain ⟨d, d1, d2, d3⟩ := left i2 q2 h2 e2
        refine ⟨d, ?_, d2, d3⟩
        -- its slot is not passed
        rcases Nat.lt_trichotomy d (c + n) with lt | eq | gt
        · refine absurd ?_ (first (d - c) i2 (by omega) (by rw [slot, show c + (d - c) = d by omega]; exact d3))
          exact (hashOf h2).trans ((congrArg (thash P w) e2).trans hh)
        · rw [eq] at d3
          have z := (slot_live R.tab.ris d3).symm.trans here
          injection z with z
          rw [z, hq] at h2
          exact absurd (by rw [Option.some.inj h2]; exact e2) other
        · omega
      rcases Classical.em (t.led = true) with led | unled
      · refine wp_if_neg (by simp [led]) ?_
        try refine wpAny_bind (wpAny_pure ?_)
        exact rest
      refine wp_if_pos (by simp [unled]) (wpAny_bind (seen_tup hx (fun y hy => ?_) (wp_if_neg (by decide) ?_)))
      · obtain ⟨r, hr, rfl⟩ := List.mem_map.mp hy
        have hr2 : r ∈ es.toList := by
          have z : r ∈ es ∧ r.1 = h := by simpa using hr
          simpa using z.1
        rw [R.rws] at hr2
        obtain ⟨q2, hq2, rfl⟩ := List.mem_map.mp hr2
        exact ⟨q2.2, q2.1, rfl, R.tps q2 hq2⟩
      · try refine wpAny_bind (wpAny_pure ?_)
        exact rest
    · rw [start _ found, slot, eK]
      dsimp only
      refine wpAny_pure (no fun hm => ?_)
      obtain ⟨q, hq, e2⟩ := List.mem_map.mp hm
      obtain ⟨i, hi⟩ := List.getElem?_of_mem hq
      obtain ⟨d, d1, d2, d3⟩ := left i q hi e2
      exact never (d - c) i (by omega) (by rw [slot, show c + (d - c) = d by omega]; exact d3) ((hashOf hi).trans ((congrArg (thash P w) e2).trans hh))
theorem Big.search (R : Big P w s.heap a L es ep t) {x : Addr} {k : List Int} (hx : IsT P w s.heap k x) (hu : A.units < cLine) {Q : SetFound → Shared → Prop} (yes : k ∈ L.map (·.2) → Q (.there none) s)
    (no : ∀ K, k ∉ L.map (·.2) → way t.mask (thash P w k) K ∉ t.place.toList → (∀ c, c < K → way t.mask (thash P w k) c ∈ t.place.toList) → Q (.free (way t.mask (thash P w k) K) false) s) :
    wpAny (model P w) A (setSearch a (.ref x) (thash P w k) true) Q E s := by
  have sp := R.spare
  obtain ⟨K, far, free, full⟩ := R.tab.first (by rw [List.length_map]; omega) (thash P w k)
  have small : K < 100000 := Nat.lt_trans far (by unfold SetTable.turns; rcases R.tab.mok with e | e | e <;> omega)
  unfold setSearch
  refine R.seek hx hu far free full yes (fun z => no K z free full) 100000 0 none rfl (Nat.zero_le _) small fun i q hq e => ?_
  have hi : (L.map fun q => thash P w q.2)[i]? = some (thash P w k) := by
    rw [List.getElem?_map, hq, ← e]
    rfl
  have il : i < t.place.toList.length := by
    rw [Array.length_toList, R.places]
    exact (List.getElem?_eq_some_iff.mp hq).1
  obtain ⟨d, hd, ed⟩ := R.tab.before free hi (List.getElem?_eq_getElem il)
  exact ⟨d, Nat.zero_le _, hd, by rw [ed]; exact List.getElem?_eq_getElem il⟩
/-- what is left the same where only the set is written -/
theorem tps_after {g g' : Heap} {o : Obj} (ho : g.get? a = some o) (hd : o.data = .set es ep t) (sb : Heap.SameBut a g g') {M : List (Addr × List Int)} (h : ∀ q ∈ M, IsT P w g q.2 q.1) : ∀ q ∈ M, IsT P w g' q.2 q.1 := fun q hq => isT_same (h q hq) ho hd sb
theorem Big.new {g : Heap} (ho : g.get? a = some { cls := .type "set", dict := none, data := .set #[] 0 (.fresh 0 0 (!w.params.followText "set-order")) }) : Big P w g a [] #[] 0 (.fresh 0 0 (!w.params.followText "set-order")) := by
  refine ⟨⟨_, ho, ⟨rfl, rfl, rfl⟩, rfl⟩, rfl, ⟨.nil, rfl, rfl, .inl rfl, (fun x hx => nomatch hx), (fun i h j hi => by simp at hi)⟩, .nil, (fun q hq => nomatch hq), rfl, ?_, by show 0 < 7 * 3; decide⟩
  by_cases z : w.params.followText "set-order" = true
  · exact .inl z
  · exact .inr (by show (!w.params.followText "set-order") = true; simp [z])
/-- laid anew in a larger table -/
theorem relay {o : Obj} {n M : Nat} {Q : Unit → Shared → Prop} (ho : s.heap.get? a = some o) (hex : o.ExactSet) (hd : o.data = .set es ep t) (rws : es.toList = L2.rowsOf P w L) (pl : t.place.size = L.length) (dm : t.dummies = #[]) (fit : L.length ≤ t.mask) (dis : (L.map (·.2)).Nodup)
    (tps : ∀ q ∈ L, IsT P w s.heap q.2 q.1) (pln : t.plain = true) (told : w.params.followText "set-order" = true ∨ t.led = true) (hw : SetTable.sizeAbove n - 1 = M) (hM : MaskOk M) (le : SetTable.sizeAbove n ≤ 128) (spare : L.length * 5 < M * 3)
    (hQ : ∀ g L' es' ep' t', Heap.SameBut a s.heap g → Big P w g a L' es' ep' t' → L'.Perm L → Q () { s with heap := g }) : wpAny (model P w) A (setRelay a n) Q E s := by
  have sz : es.size = L.length := by rw [← Array.length_toList, rws, rows_len]
  obtain ⟨u, order, eu, perm, T, em, el, epl, _⟩ := relaid_ok t (hs := es.map (·.1)) (wanted := n) hw hM (by rw [Array.size_map, sz]; omega)
  rw [Array.size_map, sz] at perm
  obtain ⟨M2, r1, r2, r3⟩ := order_rows L es order rws perm
  have ss : (order.filterMap (es[·]?)).size = es.size := by rw [← Array.length_toList, r1, rows_len, r2.length_eq, sz]
  rw [setRelay_eq]
  refine wpAny_bind (wpAny_setState_of ho hd (by rw [sz]; exact fits_of dm pl fit) ?_)
  dsimp only
  refine wp_if_neg (by rw [sizeLine_eq]; omega) ?_
  try refine wpAny_bind (wpAny_pure ?_)
  rw [eu]
  dsimp only
  refine wpAny_bind (wp_if_neg (by rw [ss]; simp) ?_)
  try refine wpAny_bind (wpAny_pure ?_)
  refine wpAny_pure ?_
  dsimp only
  refine wpAny_storeSet_of ho hd ?_ (by rw [ss, sz, sizeLine_eq]; omega)
  have sb : Heap.SameBut a s.heap (s.heap.update a (Obj.putSet (order.filterMap (es[·]?)) u)) := Heap.SameBut.update ..
  refine hQ _ M2 _ (ep + 1) u sb ⟨⟨_, store_at ho hd, ⟨hex.1, hex.2.1, hex.2.2⟩, rfl⟩, r1, r3 ▸ T, (r2.map (·.2)).nodup_iff.mpr dis, tps_after ho hd sb fun q hq => tps q (r2.mem_iff.mp hq), epl.trans pln, el.symm ▸ told, ?_⟩ r2
  rw [r2.length_eq, em]
  exact spare
/-- one more -/
theorem Big.add (R : Big P w s.heap a L es ep t) {x : Addr} {k : List Int} (hx : IsT P w s.heap k x) (hu : A.units < cLine) (few : L.length < 75) {Q : Bool → Shared → Prop}
    (hQ : ∀ b g L' es' ep' t', Heap.SameBut a s.heap g → Big P w g a L' es' ep' t' → Grown L x k L' → Q b { s with heap := g }) : wpAny (model P w) A (setAddHashed a (.ref x) (thash P w k)) Q E s := by
  have ⟨o, ho, hex, hd⟩ := R.obj
  have sz := R.len
  have sp := R.spare
  unfold setAddHashed
  refine wpAny_holding ?_
  rw [show (100000 : Nat) = Nat.succ 99999 from rfl, setAddHashedIn_succ]
  refine wpAny_bind (wpAny_setState_of ho hd R.fits ?_)
  dsimp only
  refine wp_if_neg (by simp [byScan, Value.scannable]) ?_
  try refine wpAny_bind (wpAny_pure ?_)
  refine wpAny_bind (R.search hx hu (fun yes => ?_) fun K no free full => ?_) <;> dsimp only
  · exact wpAny_pure (hQ false _ L es ep t (Heap.SameBut.refl a s.heap) R ⟨fun _ => rfl, fun z => absurd yes z⟩)
  refine wpAny_bind (wpAny_setState_of ho hd R.fits ?_)
  dsimp only
  have put := R.tab.put free full
  generalize ej : way t.mask (thash P w k) K = j at put
  have pln1 : (t.put j).1.plain = true := put.2.2.2.2.2.1.trans R.pln
  generalize ept : t.put j = pt at put pln1 ⊢
  obtain ⟨u, p⟩ := pt
  dsimp only at put pln1 ⊢
  obtain ⟨pp, _, T, em, el, epl, _, _, efill⟩ := put
  subst pp
  first
    | (refine wpAny_bind ?_; refine wp_if_pos pln1 ?_; refine hashBy_tup hx ?_)
    | refine wp_if_pos pln1 (wpAny_bind (hashBy_tup hx ?_))
  simp only [if_true]
  generalize SetTable.below t.place j = p at T ⊢
  have rws1 : (SetTable.insertAt es p (thash P w k, Value.ref x)).toList = L2.rowsOf P w (L.take p ++ (x, k) :: L.drop p) := by rw [SetTable.toList_insertAt, L2.rows_put, R.rws]
  have T1 : TabOk u ((L.take p ++ (x, k) :: L.drop p).map fun q => thash P w q.2) := by
    simp only [List.map_append, List.map_cons, List.map_take, List.map_drop]
    exact T
  have perm := L2.put_perm L p (x, k)
  generalize L.take p ++ (x, k) :: L.drop p = L1 at rws1 T1 perm
  have l1 : L1.length = L.length + 1 := perm.length_eq
  have s1 : (SetTable.insertAt es p (thash P w k, Value.ref x)).size = L.length + 1 := by rw [← Array.length_toList, rws1, rows_len, l1]
  have dis1 : (L1.map (·.2)).Nodup := (perm.map (·.2)).nodup_iff.mpr (List.nodup_cons.mpr ⟨no, R.dis⟩)
  generalize SetTable.insertAt es p (thash P w k, Value.ref x) = es1 at rws1 s1 ⊢
  refine wpAny_bind (wpAny_storeSet_of ho hd ?_ (by rw [s1, sizeLine_eq]; omega))
  have sb : Heap.SameBut a s.heap (s.heap.update a (Obj.putSet es1 u)) := Heap.SameBut.update ..
  have at1 := store_at (es' := es1) (t' := u) ho hd
  generalize s.heap.update a (Obj.putSet es1 u) = g1 at sb at1 ⊢
  have tps1 : ∀ q ∈ L1, IsT P w g1 q.2 q.1 := tps_after ho hd sb fun q hq => (List.mem_cons.mp (perm.mem_iff.mp hq)).elim (fun z => z ▸ hx) (R.tps q)
  have told1 : w.params.followText "set-order" = true ∨ u.led = true := el.symm ▸ R.told
  have ex1 : ({ o with data := Data.set es1 (ep + 1) u } : Obj).ExactSet := ⟨hex.1, hex.2.1, hex.2.2⟩
  have grown : ∀ {L' : List (Addr × List Int)}, L'.Perm L1 → Grown L x k L' := fun z => ⟨fun y => absurd y no, fun _ => z.trans perm⟩
  rw [List.length_map] at efill
  rcases Classical.em (u.tooFull = true) with tight | loose
  · first
      | (refine wpAny_bind ?_; refine wp_if_pos (by simp [tight]) ?_)
      | (refine wp_if_pos (by simp [tight]) ?_; refine wpAny_bind ?_)
    unfold SetTable.tooFull at tight
    rw [decide_eq_true_eq, efill, em] at tight
    have two : (t.mask = 7 ∧ L.length = 4) ∨ (t.mask = 31 ∧ L.length = 18) := by
      rcases R.tab.mok with e | e | e <;> rw [e] at tight sp
      · exact .inl ⟨e, by omega⟩
      · exact .inr ⟨e, by omega⟩
      · omega
    rw [sz]
    have pl1 : u.place.size = L1.length := T1.sz.trans (List.length_map ..)
    have go : ∀ M, SetTable.sizeAbove (SetTable.grown (L.length + 1)) - 1 = M → MaskOk M → SetTable.sizeAbove (SetTable.grown (L.length + 1)) ≤ 128 → L1.length * 5 < M * 3 → L1.length ≤ u.mask →
        wpAny (model P w) A (setRelay a (SetTable.grown (L.length + 1))) (fun _ s' => wpAny (model P w) A (pure true) Q E s') E { s with heap := g1 } := fun M c1 c2 c3 c4 c5 =>
      relay (s := { s with heap := g1 }) at1 ex1 rfl rws1 pl1 T1.dm c5 dis1 tps1 pln1 told1 c1 c2 c3 c4 fun g L' es' ep' t' sb2 R2 pm => wpAny_pure (hQ true g L' es' ep' t' (sb.trans sb2) R2 (grown pm))
    rcases two with ⟨e, e4⟩ | ⟨e, e4⟩
    · exact go 31 (by rw [e4, size_20]) (.inr (.inl rfl)) (by rw [e4, size_20]; decide) (by omega) (by rw [em, e]; omega)
    · exact go 127 (by rw [e4, size_76]) (.inr (.inr rfl)) (by rw [e4, size_76]; decide) (by omega) (by rw [em, e]; omega)
  · first
      | refine wp_if_neg (by simp [loose]) ?_
      | (refine wpAny_bind ?_; refine wp_if_neg (by simp [loose]) ?_; refine wpAny_pure ?_)
    refine wpAny_pure (hQ true g1 L1 es1 (ep + 1) u sb ⟨⟨_, at1, ex1, rfl⟩, rws1, T1, dis1, tps1, pln1, told1, ?_⟩ (grown (.refl _)))
    unfold SetTable.tooFull at loose
    rw [decide_eq_true_eq, efill] at loose
    omega
end
end Bg

set_option maxHeartbeats 4000000
namespace Bg
open PySem PySem.Spec PyProof.Rows L2 PySem.W SrT
section
variable {P : Program} {w : World} {A : Around} {E : Value → Shared → Prop} {s : Shared}
def Big0 (P : Program) (w : World) (h : Heap) (a : Addr) (L : List (Addr × List Int)) : Prop := ∃ (es : Array (Int × Value)) (ep : Nat) (t : SetTable), (∃ o, h.get? a = some o ∧ o.ExactSet ∧ o.data = .set es ep t) ∧ es.toList = L2.rowsOf P w L ∧ TabOk t (L.map fun q => thash P w q.2) ∧ (L.map (·.2)).Nodup ∧ t.plain = true ∧ (w.params.followText "set-order" = true ∨ t.led = true) ∧ L.length * 5 < t.mask * 3
def BigO (P : Program) (w : World) (a : Addr) (L : List (Addr × List Int)) : HO := .ext fun h => Big0 P w h a L
theorem Big.t0 {h : Heap} {a : Addr} {L : List (Addr × List Int)} {es : Array (Int × Value)} {ep : Nat} {t : SetTable} (R : Big P w h a L es ep t) : Big0 P w h a L := ⟨es, ep, t, R.obj, R.rws, R.tab, R.dis, R.pln, R.told, R.spare⟩
theorem Big0.full {h : Heap} {a : Addr} {L : List (Addr × List Int)} (R : Big0 P w h a L) (ht : ∀ q ∈ L, IsT P w h q.2 q.1) : ∃ es ep t, Big P w h a L es ep t :=
  let ⟨es, ep, t, a1, a2, a3, a4, a5, a6, a7⟩ := R
  ⟨es, ep, t, a1, a2, a3, a4, ht, a5, a6, a7⟩
theorem bigO_new {H : Hp} {h : Heap} {a : Addr} {L : List (Addr × List Int)} (R : Big0 P w h a L) : ObjOk P w H h a (BigO P w a L) := by
  refine ⟨R, ?_, fun h1 h2 p k => ?_⟩
  · obtain ⟨_, _, _, ⟨o, ho, _⟩, _⟩ := R
    exact ⟨o, ho⟩
  · obtain ⟨es, ep, t, ⟨o, ho, r⟩, q⟩ := (p : Big0 P w h1 a L)
    exact ⟨es, ep, t, ⟨o, k o ho, r⟩, q⟩
theorem Big.most {h : Heap} {a : Addr} {L : List (Addr × List Int)} {es : Array (Int × Value)} {ep : Nat} {t : SetTable} (R : Big P w h a L es ep t) : L.length < 77 := by
  have z := R.spare
  rcases R.tab.mok with e | e | e <;> rw [e] at z <;> omega
theorem bigT_type {a : Addr} {L : List (Addr × List Int)} {es : Array (Int × Value)} {ep : Nat} {t : SetTable} (R : Big P w s.heap a L es ep t) : s.TypeIs (.ref a) "set" := by
  obtain ⟨o, ho, hex, _⟩ := R.obj
  exact ⟨o, ho, hex.1⟩
/-- set.add of a tuple of ints, raw -/
theorem addB_raw {a x : Addr} {L : List (Addr × List Int)} {es : Array (Int × Value)} {ep : Nat} {t : SetTable} {k : List Int} {Q : Value → Shared → Prop} (R : Big P w s.heap a L es ep t) (hx : IsT P w s.heap k x) (hu : A.units + 1 < cLine) (hfew : L.length < 75)
    (hQ : ∀ h' tk L' es' ep' t', Heap.SameBut a s.heap h' → Big P w h' a L' es' ep' t' → Grown L x k L' → Q .none { s with heap := h', toks := tk }) :
    wpAny (model P w) A (call (.builtin "set.add") [.ref a, .ref x]) Q E s := by
  refine wpAny_call_entry F.slot_set_add (bigT_type R) F.entry_set_add ?_ (F.args_set_add_2 _ _)
  unfold Builtin.«set.add» Builtin.Frozenset.oneOther
  simp only [List.isEmpty_nil, bind_assoc]
  unfold Builtin.Frozenset.addrOf setAdd
  refine wpAny_bind (wpAny_pure ?_)
  try dsimp only
  refine wpAny_bind (wpAny_pure ?_)
  try dsimp only
  refine wpAny_bind ?_
  refine wpAny_holding ?_
  refine wpAny_bind (wpAny_pyHash_tuple (A := A.in1) hu hx ?_)
  refine Big.add (A := A.in1) (s := { s with toks := s.toks + (k.length + 1) }) R hx hu hfew fun b h' L' es' ep' t' sb r c1 => ?_
  show wpAny _ _ (ret Value.none) _ _ _
  exact wpAny_pure ⟨_, rfl, hQ h' _ L' es' ep' t' sb r c1⟩
end
section
variable {X : Cx} {pins : List (Addr × Obj)} {σ : L2.St} {H : Hp} {s : Shared}
theorem addB_ok {E : Value → Shared → Prop} {D x : Addr} {L : List (Addr × List Int)} {k : List Int} {Q : Value → Shared → Prop} (I : Inv X pins σ H s) (hD : H D = some (BigO X.prog X.w D L)) (hL : ∀ p ∈ L, SqT X.K H p.1 (p.2.map V.int)) (hx : SqT X.K H x (k.map V.int)) (hf : L.length < 75) (hu : X.A.units + 1 < cLine)
    (h : ∀ L' s', Grown L x k L' → Inv X pins σ (upd H D (BigO X.prog X.w D L')) s' → Q .none s') : wpAny (model X.prog X.w) X.A (call (.builtin "set.add") [.ref D, .ref x]) Q E s := by
  obtain ⟨es, ep, t, R⟩ := Big0.full (P := X.prog) (w := X.w) (show Big0 X.prog X.w s.heap D L from (I.hok D _ hD).1) fun p hp => Inv.isT I (hL p hp)
  refine addB_raw R (Inv.isT I hx) hu hf fun h' tk L' es' ep' t' sb R' c1 => ?_
  have he : ∃ u, h'.get? D = some u := by
    obtain ⟨o, ho, _⟩ := R'.obj
    exact ⟨o, ho⟩
  exact h L' _ c1 (I.write (e := D) (t' := tk) (by rw [hD]; trivial) (.inl rfl) (fun b u hb hu => (sb.2 b hb).trans hu) he (bigO_new R'.t0))
end
section
variable {X : Cx}
/-- one more into the set at D -/
def tAddB (K : PySem.W.Frag) (P : Program) (w : World) (D : Addr) (te : TE) : TD := fun σ H Nx => te σ H fun y H4 => ∃ (x : Addr) (k : List Int) (L : List (Addr × List Int)), y = .ref x ∧ SqT K H4 x (k.map V.int) ∧ H4 D = some (BigO P w D L) ∧ (∀ p ∈ L, SqT K H4 p.1 (p.2.map V.int)) ∧ L.length < 75 ∧ ∀ L', Grown L x k L' → Nx (upd H4 D (BigO P w D L'))
def tSc2B (K : PySem.W.Frag) (P : Program) (w : World) (wi : TI) (g : TG) (tt : TT) (wi1 : TI) (g1 : TG) (tt1 : TT) (te : TE) (vs vs1 : List Nat) : TE := fun σ H Q => wi σ H fun J H1 => ∀ D, H1 D = none → ∃ W : Nat → Nat → Hp → Prop, (∃ m, W 0 m (upd H1 D (BigO P w D []))) ∧
  tWk J σ vs g tt (tInner wi1 g1 tt1 (tAddB K P w D te) vs1) (fun H' => Q (.ref D) H') W
theorem act_inB {Y : Cx} {elt : Expr} {D : Addr} {te : TE} {pins : List (Addr × Obj)} {σ : L2.St} {H : Hp} {s : Shared} {Nx : Hp → Prop} (hu : Y.A.units + 1 < cLine) (hx : Y.xe = fun _ _ => False) (pe : PE Y elt te) (I : Inv Y pins σ H s) (h : tAddB Y.K Y.prog Y.w D te σ H Nx) :
    wpAny (model Y.prog Y.w) Y.A (actIn elt (.ref D) Y.env) (fun _ s' => ∃ H', Inv Y pins (wipe σ []) H' s' ∧ Nx H') (fun _ _ => False) s := by
  unfold actIn
  have z := pe.run pins s σ H _ I h
  rw [hx] at z
  refine wpAny_bind (thnF z fun u s1 h1 => ?_)
  obtain ⟨yv, H1, I1, r1, x, k, L, ey, hxT, hD, hL, hf, nx⟩ := h1
  subst ey
  cases r1
  refine wpAny_bind (wpAny_standAt (wpAny_bind (addB_ok I1 hD hL hxT hf hu fun L' s2 gr I2 => wpAny_pure ?_)))
  exact ⟨_, I2, nx L' gr⟩
theorem act_outB {Y : Cx} {elt tg iter tg1 iter1 : Expr} {ifs ifs1 : List Expr} {sc : Scope} {pos : Pos} {D : Addr} {wi1 : TI} {g1 : TG} {tt1 : TT} {te : TE} {vs1 : List Nat} {pins : List (Addr × Obj)} {σ2 : L2.St} {H : Hp} {s : Shared} {Nx : Hp → Prop} (hc : Y.calm = true) (hu : Y.A.units + 1 < cLine) (hx : Y.xe = fun _ _ => False)
    (pi1 : PI Y tg1 iter1 wi1) (pg1 : PG Y tg1 g1) (pt1 : PTs Y ifs1 tt1) (pe : PE Y elt te) (hs1 : ∀ env x, foldedSetIterable iter1 env x = pure x) (I : Inv Y pins σ2 H s) (h : tInner wi1 g1 tt1 (tAddB Y.K Y.prog Y.w D te) vs1 σ2 H Nx) :
    wpAny (model Y.prog Y.w) Y.A (actOut elt tg iter tg1 iter1 ifs ifs1 sc pos (.ref D) Y.env) (fun _ s' => ∃ H', Inv Y pins (wipe σ2 vs1) H' s' ∧ Nx H') (fun _ _ => False) s := by
  unfold actOut
  have z := pi1.run pins s σ2 H _ I h
  rw [hx] at z
  refine wpAny_bind (thnF z fun xv s1 h1 => wpAny_bind (wpAny_standAt (wpAny_bind (wpAny_of_eq (hs1 Y.env xv) (wpAny_bind (wpAny_holding (thnF h1 fun itv s2 h2 => ?_)))))))
  obtain ⟨it1, fp1, tn1, J1, H2, e1, I2, T1, st2, f2, W1, ⟨m1, w1⟩, turn1⟩ := h2
  subst e1
  refine wpAny_bind (wpAny_runOwn ?_)
  rw [Around.mark_none]
  have I2' : Inv Y pins (wipe σ2 vs1) H2 s2 := I2.weak (wipe_length _ _) (fun j v e => (wipe_some e).1)
  have loop : ∀ (R : Result → Shared → Prop), (∀ s' H', Inv Y pins (wipe σ2 vs1) H' s' → Nx H' → R (.ok .next) s') → codeAny (model Y.prog Y.w) Y.A (.compLoop (sc2 elt tg iter tg1 iter1 ifs ifs1 sc pos) 1 (.ref it1) (.ref D) Y.env) R s2 := fun R hR =>
    loopG (va := []) (vs := vs1) (σ := σ2) (ta := tAddB Y.K Y.prog Y.w D te) (act := actIn elt (.ref D) Y.env) hc hx rfl rfl rfl (turn_in _ _ _) T1 pg1 pt1 (fun p2 s σ3 H Nx' I' h' => act_inB hu hx pe I' h') (fun i hi => nomatch hi) turn1 hR (fun H' hn b hb => ⟨hn b hb, (f2 b hb).2⟩) I2' st2 (fun b hb => (f2 b hb).1) w1
  have lp := loop (fun r s' => match r with
    | .ok f => wpAny (model Y.prog Y.w) Y.A (pure PUnit.unit) (fun _ s' => ∃ H', Inv Y pins (wipe σ2 vs1) H' s' ∧ Nx H') (fun _ _ => False) s'
    | .error e => False) (fun s' H' I' n' => wpAny_pure ⟨H', I', n'⟩)
  refine codeAny_mono (start_in lp (T1.self Y.A 0 _ _ _ st2 lp)) fun r s' hr => ?_
  cases r with
  | ok f => exact hr
  | error e => exact hr.elim
end
section
variable {X : Cx}
theorem pe_sc2B {elt tg iter tg1 iter1 : Expr} {ifs ifs1 : List Expr} {scope : Scope} {own : List (Str × Nat)} {vs1 : List Nat} {pos : Pos} {wi wi1 : TI} {g g1 : TG} {tt tt1 : TT} {te : TE} (hu : X.A.units + 1 < cLine) (hc : X.calm = true) (hN : X.N.Nodup) (hi : PI X tg iter wi) (ok : BlkOk X.N X.env.scope scope own) (hv : ∀ i ∈ vs1, i ∈ own.map (·.2))
    (hg : ∀ (s : Shared) (H : Hp) (C : Addr) (cl : List (Str × Addr)) (fp : List Addr), PG (X.blk s H scope (compEnvC scope cl C X.env) fp) tg g) (ht : ∀ (s : Shared) (H : Hp) (C : Addr) (cl : List (Str × Addr)) (fp : List Addr), PTs (X.blk s H scope (compEnvC scope cl C X.env) fp) ifs tt)
    (hi1 : ∀ (s : Shared) (H : Hp) (C : Addr) (cl : List (Str × Addr)) (fp : List Addr), PI (X.blk s H scope (compEnvC scope cl C X.env) fp) tg1 iter1 wi1) (hg1 : ∀ (s : Shared) (H : Hp) (C : Addr) (cl : List (Str × Addr)) (fp : List Addr), PG (X.blk s H scope (compEnvC scope cl C X.env) fp) tg1 g1)
    (ht1 : ∀ (s : Shared) (H : Hp) (C : Addr) (cl : List (Str × Addr)) (fp : List Addr), PTs (X.blk s H scope (compEnvC scope cl C X.env) fp) ifs1 tt1) (he : ∀ (s : Shared) (H : Hp) (C : Addr) (cl : List (Str × Addr)) (fp : List Addr), PE (X.blk s H scope (compEnvC scope cl C X.env) fp) elt te)
    (hs : ∀ x, foldedSetIterable iter X.env x = pure x := by intro _; rfl) (hs1 : ∀ env x, foldedSetIterable iter1 env x = pure x := by intro _ _; rfl) :
    PE X (sc2 elt tg iter tg1 iter1 ifs ifs1 scope pos) (tSc2B X.K X.prog X.w wi g tt wi1 g1 tt1 te (own.map (·.2)) vs1) := by
  refine ⟨fun pins s σ H Q I h => ?_⟩
  show wpAny _ _ (comprehension (sc2 elt tg iter tg1 iter1 ifs ifs1 scope pos) scope X.env (firstIterPos _ pos) (newSet (.type "set")) _ (firstIter _ X.env) none) _ _ s
  have fr : ∀ y ∈ scope.names, y.2 = .free → ∃ c, X.env.cells.lookup y.1 = some c := by
    intro y hy e
    rcases ok.free y hy e with k | k
    · exact I.ok.has _ (.inl k)
    · exact I.ok.has _ (.inr k)
  refine wpAny_comprehension_free (use := none) rfl hs (closure_ok fr) ok.kind (fun y hy e => by rw [ok.uniq y hy, e]) (thn (hi.run pins s σ H _ I h) fun xv s1 hx => thn hx fun itv s2 h2 => ?_)
  obtain ⟨it, fp, tn, J, H2, e, I2, T, st2, f2, q⟩ := h2
  subst e
  refine PpSet.newSet_ok (newEnv_comp ?_)
  generalize hD : s2.heap.objs.size = D
  obtain ⟨W, ⟨m0, w0⟩, turn⟩ := q D (I2.hok.fresh (Nat.le_of_eq hD))
  generalize hob : ({ cls := .type "set", dict := none, data := .set #[] 0 (.fresh 0 0 (!X.w.params.followText "set-order")) } : Obj) = ob
  generalize hs3 : ({ s2 with heap := s2.heap.push ob } : Shared) = s3
  have hp3 : s3.heap = s2.heap.push ob := by rw [← hs3]
  have I3 : Inv X pins σ (upd H2 D (BigO X.prog X.w D [])) s3 := by
    rw [← hs3]
    refine I2.laid (t' := s2.toks) (fun b o e => Heap.get?_push_of_some _ e) (Nat.le_of_eq hD) ?_
    rw [← hD]
    exact bigO_new (Big.t0 (Big.new (P := X.prog) (w := X.w) (by rw [← hob]; exact Heap.get?_push_size _ rfl)))
  have lt : ∀ b ∈ fp, b < s2.heap.objs.size := by
    intro b hb
    obtain ⟨o, e, _⟩ := T.obj _ _ st2 b hb
    exact Heap.lt_size e
  have f3 : ∀ b ∈ fp, FpOk X pins (upd H2 D (BigO X.prog X.w D [])) b ∧ b < s3.heap.objs.size := by
    intro b hb
    have hlt := lt b hb
    refine ⟨⟨?_, (f2 b hb).2⟩, by rw [hp3, Heap.size_push]; exact Nat.lt_succ_of_lt hlt⟩
    rw [upd_ne (by rw [← hD]; exact Nat.ne_of_lt hlt)]
    exact (f2 b hb).1
  have I4 := block_start I3 ok hN f3
  show codeAny _ _ (.compStart (sc2 elt tg iter tg1 iter1 ifs ifs1 scope pos) 0 (.ref it) (.ref D) (compEnvC scope (cellsFrom (s3.heap.objs.size + 1) scope.names (cloFrom X.env.cells scope.names [])) s3.heap.objs.size X.env)) (compPost (model X.prog X.w) X.A X.xe none _ (.ref D) s3.heap.objs.size) { s3 with heap := pushCells (s3.heap.push { cls := .type "dict", data := .dict #[] }) scope.names }
  generalize hcl : cellsFrom (s3.heap.objs.size + 1) scope.names (cloFrom X.env.cells scope.names []) = cl at I4 ⊢
  generalize hH3 : upd H2 D (BigO X.prog X.w D []) = H3 at *
  have pg := hg s3 H3 s3.heap.objs.size cl fp
  have pt := ht s3 H3 s3.heap.objs.size cl fp
  have pe := he s3 H3 s3.heap.objs.size cl fp
  have pi1 := hi1 s3 H3 s3.heap.objs.size cl fp
  have pg1 := hg1 s3 H3 s3.heap.objs.size cl fp
  have pt1 := ht1 s3 H3 s3.heap.objs.size cl fp
  generalize hs4 : ({ s3 with heap := pushCells (s3.heap.push { cls := .type "dict", data := .dict #[] }) scope.names } : Shared) = s4 at I4 ⊢
  have st4 : tn 0 s4.heap := T.keep _ _ _ st2 fun b _ o e => by
    rw [← hs4]
    refine pushCells_keeps _ _ _ _ (Heap.get?_push_of_some _ ?_)
    rw [hp3]
    exact Heap.get?_push_of_some _ e
  have cL : (compEnvC scope cl s3.heap.objs.size X.env).locals = s3.heap.objs.size := rfl
  generalize hce : compEnvC scope cl s3.heap.objs.size X.env = ce at I4 pg pt pe pi1 pg1 pt1 cL ⊢
  have fps : ∀ H', (∀ b ∈ fp, H' b = none) → ∀ b ∈ fp, FpOk (X.blk s3 H3 scope ce fp) [] H' b := fun H' hn b hb =>
    ⟨hn b hb, (I4.ok.exf b hb).1, I4.ok.exfs b hb, .inl hb, fun x c e => (I4.ok.exf b hb).2 x c e, fun p hp => absurd (show p ∈ ([] : List (Addr × Obj)) ++ [] from hp) (by simp)⟩
  have loop := loopG (Y := X.blk s3 H3 scope ce fp) (e := sc2 elt tg iter tg1 iter1 ifs ifs1 scope pos) (d := 0) (it := it) (acc := .ref D) (va := vs1) (R := compPost (model X.prog X.w) X.A X.xe none (fun v s' => ∃ x H', Inv X pins σ H' s' ∧ RelV x v ∧ Q x H') (.ref D) s3.heap.objs.size)
    hc rfl rfl rfl rfl (turn_out _ _ _) T pg pt (fun p2 s' σ2 H' Nx I' h' => act_outB (Y := X.blk s3 H3 scope ce fp) hc hu rfl pi1 pg1 pt1 pe hs1 I' h') hv turn (fun s' H' I' qq => ?_) fps I4 st4 (fun b hb => (f3 b hb).1.1) w0
  · exact PpSet.codeAny_compStart_set loop (T.self X.A 0 _ _ _ st4 loop)
  · have I7 : Inv X pins σ H' s' := I3.call' (ch := fp) I'.os I'.base I'.hok I'.bare fun b hb => ⟨(f3 b hb).1.2.2.2.1, (f3 b hb).1.2.1, (f3 b hb).1.2.2.2.2.1, (f3 b hb).1.2.2.2.2.2⟩
    have nC : H' s3.heap.objs.size = none := by
      have z : H' ce.locals = none := I'.free
      rw [cL] at z
      exact z
    obtain ⟨m, hn, _⟩ := I'.loc
    have hn : s'.heap.Ns ce.locals m := hn
    rw [cL] at hn
    obtain ⟨f0, f1, f2, f3, f4, f5⟩ := I3.fpOk (Nat.le_refl _) nC
    exact ⟨m, hn, fun h'' sb => ⟨.ref D, H', I7.turned (t' := s'.toks) (fun b o hb e => (sb.2 b hb).trans e) f0 f1 f3 f4 f5, rfl, qq⟩⟩
end
section
variable {P : Program} {w : World} {A : Around} {E : Value → Shared → Prop} {s : Shared}
theorem sorted_setB {a : Addr} {L : List (Addr × List Int)} {es : Array (Int × Value)} {ep : Nat} {t : SetTable} {Q : Value → Shared → Prop} (R : Big P w s.heap a L es ep t) (hh : A.handled = none) (hu : A.units + 2 < cLine)
    (hQ : ∀ (s' : Shared) (p : Addr) (out : List Value) (c : Nat), (∀ b o, s.heap.get? b = some o → s'.heap.get? b = some o) → s'.gens = s.gens → s'.os = s.os → s.heap.objs.size ≤ p →
      s'.heap.get? p = some (seqObj "list" out.toArray c) → out.Perm (L.map fun q => Value.ref q.1) → out.Pairwise (fun u v => lex (keyV s.heap v) (keyV s.heap u) = false) → Q (.ref p) s') :
    wpAny (model P w) A (call (.builtin "sorted") [.ref a]) Q E s := by
  obtain ⟨o, ho, hex, hd⟩ := R.obj
  have few := R.most
  have size := R.len
  refine Calls.call_function_entry kind_sorted plain_sorted entry_sorted (args_sorted1 _) ?_
  unfold Builtin.«sorted»
  refine wpAny_bind (m := checkCount "sorted" 1 1 _) (wpAny_pure ?_)
  refine wpAny_bind (collect_set (A := A.in1) hh ⟨o, ho, hex.1, hd⟩ R.fits (by unfold scanBound; omega) R.tab.ris R.told fun s1 vs kp hz gens os pm => ?_)
  have rows : es.toList.map (·.2) = L.map fun q => Value.ref q.1 := by
    rw [R.rws]
    unfold L2.rowsOf
    rw [List.map_map] <;> rfl
  rw [rows] at pm
  have lv : vs.length ≤ sizeLine := by
    rw [pm.length_eq, List.length_map, sizeLine_eq]
    omega
  refine wpAny_bind (wpAny_newList ?_ lv)
  have hoL : (s1.heap.push (seqObj "list" vs.toArray 0)).get? s1.heap.objs.size = some (seqObj "list" vs.toArray 0) := Heap.get?_push_size _ rfl
  have ki : ∀ v ∈ vs, IsI (s1.heap.push (seqObj "list" vs.toArray 0)) v (keyV s.heap v) := fun v hv => by
    obtain ⟨q, hq, e⟩ := List.mem_map.mp (pm.mem_iff.mp hv)
    have hi := isI_T (R.tps q hq)
    rw [← e]
    rw [keyV_of hi]
    exact hi.keeps fun b u _ g => Heap.get?_push_of_some _ (kp b u g)
  refine wpAny_bind (wpAny_holding (sort_call (s := { s1 with heap := s1.heap.push (seqObj "list" vs.toArray 0) }) (A := A.in1) hoL lv (by show A.units + 1 + 1 < cLine; omega) ki fun out pw pe => ?_))
  obtain ⟨c, hc⟩ := sortedHeap_at (vs := vs) (out := out.toArray) hoL
  refine wpAny_pure ⟨_, rfl, hQ _ s1.heap.objs.size out c (fun b u e => ?_) gens os hz hc (pe.trans pm) pw⟩
  have q := kp b u e
  have lt := Heap.lt_size q
  show (sortedHeap (s1.heap.push (seqObj "list" vs.toArray 0)) s1.heap.objs.size vs out.toArray).get? b = some u
  rw [sortedHeap_old (Nat.ne_of_lt lt) (by rw [size_push']; exact Nat.lt_succ_of_lt lt)]
  exact Heap.get?_push_of_some _ q
end
section
variable {X : Cx} {pins : List (Addr × Obj)} {σ : L2.St} {H : Hp} {s : Shared}
/-- sorted(a set of tuples of ints) -/
def rSortB (K : PySem.W.Frag) (P : Program) (w : World) : List V → Hp → VK → Prop := fun vs H Q => ∃ (a : Addr) (L : List (Addr × List Int)), vs = [V.ref a] ∧ H a = some (BigO P w a L) ∧ (∀ p ∈ L, SqT K H p.1 (p.2.map V.int)) ∧
  ∀ (ys : List V) (gss : List (List Int)) (p : Addr), Paired (TupI K H) ys gss → gss.Pairwise (fun x y => lex x y = true) → (∀ z, z ∈ gss ↔ z ∈ L.map (·.2)) → ys.length < 77 → H p = none → Q (.ref p) (upd H p (.lst ys))
theorem cr_sortB (hc : X.calm = true) (hu : X.A.units + 64 < cLine) : CallR X (.builtin "sorted") (rSortB X.K X.prog X.w) := by
  intro pins s σ H vs us Q I r h
  obtain ⟨a, L, rfl, ha, hL, q⟩ := h
  rw [Vals.ref1 r]
  have hT : ∀ p ∈ L, IsT X.prog X.w s.heap p.2 p.1 := fun p hp => Inv.isT I (hL p hp)
  obtain ⟨es, ep, t, R⟩ := Big0.full (P := X.prog) (w := X.w) (show Big0 X.prog X.w s.heap a L from (I.hok a _ ha).1) hT
  refine sorted_setB R (I.ok.hd hc) (by omega) fun s' p out c kp gens os hz hc' pm pw => ?_
  have refs : ∀ u ∈ out, ∃ c, u = Value.ref c := fun u hu => by
    obtain ⟨z, hz, e⟩ := List.mem_map.mp (pm.mem_iff.mp hu)
    exact ⟨z.1, e.symm⟩
  have hlen : out.length < 77 := by
    rw [pm.length_eq, List.length_map]
    exact R.most
  have kk : ∀ z ∈ L, keyV s.heap (.ref z.1) = z.2 := fun z hz => keyV_of (isI_T (hT z hz))
  have J : Inv X pins σ (upd H p (.lst (out.map bkV))) s' := by
    obtain ⟨hh, g, d, tk, oo⟩ := s'
    have e1 : g = s.gens := gens
    have e2 : oo = s.os := os
    subst e1 e2
    have J0 := I.laid (a := p) (o := .lst (out.map bkV)) (h' := hh) (t' := tk) kp hz ⟨by rw [List.length_map]; exact Nat.le_of_lt (Nat.lt_trans hlen (by rw [sizeLine_eq]; decide)), out, c, bkV_vals refs, hc'⟩
    exact J0.call' (s' := ⟨hh, s.gens, d, tk, s.os⟩) (ch := []) rfl Un.refl J0.hok J0.bare fun b hb => absurd hb (by simp)
  refine ⟨.ref p, upd H p (.lst (out.map bkV)), J, rfl, q (out.map bkV) (out.map (keyV s.heap)) p ?_ ?_ (fun z => ?_) (by rw [List.length_map]; exact hlen) (I.hok.fresh hz)⟩
  · have all : ∀ l : List Value, (∀ u ∈ l, u ∈ out) → Paired (TupI X.K H) (l.map bkV) (l.map (keyV s.heap)) := by
      intro l
      induction l with
      | nil => intro _; exact .nil
      | cons u l ih =>
        intro hl'
        refine .cons ?_ (ih fun v hv => hl' v (List.mem_cons_of_mem _ hv))
        obtain ⟨z, hz, e⟩ := List.mem_map.mp (pm.mem_iff.mp (hl' u List.mem_cons_self))
        rw [← e, kk z hz]
        exact ⟨z.1, rfl, hL z hz⟩
    exact all out fun u hu => hu
  · have nd : (out.map (keyV s.heap)).Nodup := by
      have e : (L.map fun q => Value.ref q.1).map (keyV s.heap) = L.map (·.2) := by
        rw [List.map_map]
        exact List.map_congr_left fun z hz => kk z hz
      have pm2 := pm.map (keyV s.heap)
      rw [e] at pm2
      exact pm2.nodup_iff.mpr R.dis
    have pw2 : (out.map (keyV s.heap)).Pairwise (fun x y => lex y x = false) := List.pairwise_map.mpr pw
    refine List.Pairwise.imp₂ (fun x y h1 h2 => ?_) pw2 nd
    cases e : lex x y with
    | true => rfl
    | false => exact absurd (lex_tot x y e h1) h2
  · have e : (L.map fun q => Value.ref q.1).map (keyV s.heap) = L.map (·.2) := by
      rw [List.map_map]
      exact List.map_congr_left fun z hz => kk z hz
    have pm2 := pm.map (keyV s.heap)
    rw [e] at pm2
    exact pm2.mem_iff
end
end Bg

set_option maxHeartbeats 4000000
namespace Lf
open PySem PySem.Spec PyProof.Rows L2 GxR GxA SrT EnT
theorem partsN_few70 {n k m : Nat} {fss : List (List Int)} (F : FacesOk n k fss) (hn : n ≤ 8) (hk : k ≤ 4) (hm : m ≤ k) (h70 : fss.length ≤ 70) : (partsN n fss m).length ≤ 70 := by
  by_cases h3 : m ≤ 3
  · have h1 := allF_few hn h3
    have h2 := List.length_filter_le (fun z => inSome z fss) (allF n m)
    unfold partsN
    omega
  · have e : m = k := by omega
    refine Nat.le_trans (nd_le (partsN_nd n m fss) fun z hz => ?_) h70
    obtain ⟨h1, f, hf, h2⟩ := (mem_partsN' F).mp hz
    rw [List.Sublist.eq_of_length h2 (by rw [F.len f hf]; omega)]
    exact hf
/-- the set at D has got the tuples of seen -/
structure SQ (K : PySem.W.Frag) (P : Program) (w : World) (Ps : Tbs) (H0 : Hp) (D : Addr) (seen : List (List Int)) (H : Hp) : Prop where
  ext : Ext Ps H0 H
  at_ : ∃ L, H D = some (Bg.BigO P w D L) ∧ (∀ p ∈ L, SqT K H p.1 (p.2.map V.int)) ∧ (L.map (·.2)).Nodup ∧ ∀ z, z ∈ L.map (·.2) ↔ z ∈ seen
section
variable {K : PySem.W.Frag} {P : Program} {w : World} {Ps : Tbs} {H0 H H' : Hp} {D : Addr} {seen : List (List Int)}
theorem SQ.start (ht : Tb Ps H0) (hD : H0 D = none) : SQ K P w Ps H0 D [] (upd H0 D (Bg.BigO P w D [])) := ⟨Ext.new ht hD, [], upd_same, fun p hp => (nomatch hp), List.nodup_nil, fun z => Iff.rfl⟩
theorem SQ.skip (h : SQ K P w Ps H0 D seen H) (e : Ext Ps H H') : SQ K P w Ps H0 D seen H' := by
  obtain ⟨L, h1, h2, h3, h4⟩ := h.at_
  exact ⟨h.ext.trans e, L, e.old _ _ h1 (fun q z => by cases z), fun p hp => e.sqT (h2 p hp), h3, h4⟩
theorem sqT_big {L L' : List (Addr × List Int)} {t : Addr} {xs : List V} (hD : H D = some (Bg.BigO P w D L)) (h : SqT K H t xs) : SqT K (upd H D (Bg.BigO P w D L')) t xs := by
  rcases h with (h | ⟨o, h⟩) | h
  · exact .inl (.inl (by rw [upd_ne (ne_of h hD (by intro z; cases z))]; exact h))
  · exact .inl (.inr ⟨o, by rw [upd_ne (ne_of h hD (by intro z; cases z))]; exact h⟩)
  · exact .inr h
/-- one more -/
theorem SQ.put {U : List (List Int)} {x : Addr} {k : List Int} (hD : H0 D = none) (h : SQ K P w Ps H0 D seen H) (hx : SqT K H x (k.map V.int)) (hU : U.length ≤ 74) (hs : ∀ z ∈ seen, z ∈ U) :
    ∃ L, H D = some (Bg.BigO P w D L) ∧ (∀ p ∈ L, SqT K H p.1 (p.2.map V.int)) ∧ L.length < 75 ∧ ∀ L', Grown L x k L' → SQ K P w Ps H0 D (seen ++ [k]) (upd H D (Bg.BigO P w D L')) := by
  obtain ⟨L, h1, h2, h3, h4⟩ := h.at_
  refine ⟨L, h1, h2, ?_, fun L' gr => ?_⟩
  · have z := nd_le h3 (D := U) fun z hz => hs z ((h4 z).mp hz)
    rw [List.length_map] at z
    omega
  · have ex : Ext Ps H0 (upd H D (Bg.BigO P w D L')) := h.ext.write hD h1 (fun q z => by cases z) (fun q => ext_ne_code fun h' oc vs R g e => by
      obtain ⟨es, ep, t, ⟨o, e1, e2, e3⟩, _⟩ := R
      rw [e1] at g
      cases g
      rw [e] at e3
      cases e3)
    by_cases hk : k ∈ L.map (·.2)
    · have e := gr.1 hk
      subst e
      refine ⟨ex, L', upd_same, fun p hp => sqT_big h1 (h2 p hp), h3, fun z => ?_⟩
      rw [List.mem_append, ← h4 z]
      constructor
      · exact .inl
      · rintro (q | q)
        · exact q
        · rw [List.mem_singleton.mp q]
          exact hk
    · have pm := gr.2 hk
      have pm2 := pm.map (·.2)
      refine ⟨ex, L', upd_same, fun p hp => ?_, ?_, fun z => ?_⟩
      · rcases List.mem_cons.mp (pm.mem_iff.mp hp) with e | q
        · rw [e]
          exact sqT_big h1 hx
        · exact sqT_big h1 (h2 p q)
      · rw [pm2.nodup_iff, List.map_cons, List.nodup_cons]
        exact ⟨hk, h3⟩
      · rw [pm2.mem_iff, List.map_cons, List.mem_cons, List.mem_append, List.mem_singleton, h4 z]
        exact Or.comm
end
section
variable {P : Program} {w : World} {K : PySem.W.Frag} {mg : Str → Option Value} {base : Heap} {Ps : Tbs} {H H' H0 : Hp} {k : Nat} {f c : Addr} {fd : FuncData}
def spPartsOfG (K : PySem.W.Frag) (Ps : Tbs) : Sp := fun vs H Q _ => ∃ (x : V) (n kk m : Int) (fss : List (List Int)), vs = [x, .int m] ∧ Stk K H x n kk fss ∧ StkOk n kk fss ∧ 0 ≤ m ∧ m ≤ kk ∧ Tb Ps H ∧
  ∀ (l : Addr) (ys : List V) (H' : Hp), Ext Ps H H' → H l = none → H' l = some (.lst ys) → Paired (TupI K H') ys (partsN n.toNat fss m.toNat) → Q (.ref l) H'
theorem ok_partsOfG {fS cS fW cW fP cP : Addr} {fdS fdW fdP : FuncData} (D : Def K mg "parts_of" sPartsOf ["stack", "many"] f fd c) (DS : Def K mg "need_stack" sNeedStack ["stack"] fS fdS cS) (GS : FnOk P w K mg base CX0 k fS fdS ["stack"] (spNeedStack K Ps))
    (DW : Def K mg "need_within" sNeedWithin ["number", "least", "most"] fW fdW cW) (GW : FnOk P w K mg base CX0 k fW fdW ["number", "least", "most"] spNeedWithin) (DP : Def K mg "parts_in" sParts ["face"] fP fdP cP) (GP : FnOk P w K mg base CX0 k fP fdP ["face"] (spPartsH K Ps))
    (ms : mg "sorted" = none) (ml : mg "len" = none) : FnOk P w K mg base CX0 (k + 1) f fd ["stack", "many"] (spPartsOfG K Ps) := by
  refine D.ok (k := k) scPartsOf (fun vs H Q E h => ?_) (fun A outer s H vs Q E hr h => ?_)
  · obtain ⟨x, n, kk, m, fss, rfl, _⟩ := h
    rfl
  · obtain ⟨x, n, kk, m, fss, rfl, hS, S, m0, mk, ht, q⟩ := h
    have hu := hr.units
    refine ⟨_, pss_cons (ps_expr (pcl DS GS hr (pa_cons (pv 0) pa_nil))) (pss_cons (ps_expr (pcl DW GW hr (pa_cons (pv 1) (pa_cons pe_int (pa_cons (pe_ix ix_tup (pv 0) pe_int (fun _ _ => rfl)) pa_nil)))))
      (pss_one (ps_ret (pe_callB (Bg.cr_sortB rfl hr.units) (by rfl) ms (by decide +kernel) (pa_cons (show PE _ _ (Bg.tSc2B K P w _ _ _ _ _ _ _ [2, 3] [3]) from Bg.pe_sc2B (own := [("face", 2), ("part", 3)]) (vs1 := [3]) (g := gName 2) (g1 := gName 3) (Nat.lt_of_le_of_lt (Nat.add_le_add_left (by decide) _) hu) (by rfl) scPartsOf.nd (pi_tup (pe_ix ix_tup (pv 0) pe_int (fun _ _ => rfl))) (blkOk_by (N := nPartsOf) (sc := defScope sPartsOf) (by decide +kernel)) (fun i hi => by simp at hi; subst hi; simp)
        (fun _ _ _ _ _ => pg_name (i := 2) scPartsOf.nd rfl (Or.inl rfl)) (fun _ _ _ _ _ => pts_nil) (fun _ _ _ _ _ => (show PI _ _ _ (iList K _) from pi_list (pcl DP GP hr (pa_cons (pv 2) pa_nil)))) (fun _ _ _ _ _ => pg_name (i := 3) scPartsOf.nd rfl (Or.inl rfl))
        (fun _ _ _ _ _ => pts_one (pt_cmpR op_eq (pe_callB (call_lenS (K := K) rfl) (by rfl) ml PySem.boot_len (pa_cons (pv 3) pa_nil)) (pv 1) (by with_unfolding_all rfl))) (fun _ _ _ _ _ => pv 3)) pa_nil))))), ?_⟩
    refine ⟨x, rfl, x, n, kk, fss, rfl, hS, S, ht, fun H1 e1 => ?_⟩
    obtain ⟨a, fa, xs, rfl, h1, h2, h3⟩ := e1.stk hS
    refine ⟨.int m, rfl, .ref a, rfl, a, _, 1, .int kk, rfl, rfl, h1, atI_nat (j := 1) rfl, m, 0, kk, rfl, m0, mk, ?_⟩
    have F := S.faces
    have hn8 := S.n8
    have hk4 := S.k4
    have hk0 := S.k0
    have hfew := Nat.le_trans (partsN_few70 (m := m.toNat) F (by omega) (by omega) (by omega) S.l70) (by decide : 70 ≤ 74)
    have sub : ∀ (i : Nat) z, z ∈ gotP (fss.take i) m.toNat → z ∈ partsN n.toNat fss m.toNat := fun i z hz => by
      obtain ⟨g1, f1, g2, g3⟩ := mem_gotP.mp hz
      exact (mem_partsN' F).mpr ⟨g1, f1, List.mem_of_mem_take g2, g3⟩
    refine ⟨.ref a, rfl, a, _, 2, .ref fa, rfl, rfl, h1, at2, fa, rfl, ⟨_, h2⟩, fun D0 hD => wk_tup (K := K) (a := fa) (xs := xs) (fun i H3 => SQ K P w Ps H1 D0 (gotP (fss.take i) m.toNat) H3) (SQ.start e1.tb hD) (fun i H3 p => p.ext.sqT h2) (fun i x H3 hx p => ?_) (fun H3 p => ?_)⟩
    · obtain ⟨fc, hfc, hI⟩ := paired_get h3 hx
      have hfm := List.mem_of_getElem? hfc
      refine ⟨rfl, yes_ (iteT ?_)⟩
      refine ⟨x, rfl, x, fc, rfl, p.ext.tupI hI, S.len4 fc hfm, p.ext.tb, fun l ys H4 e4 nl hl hp => ⟨l, rfl, ⟨_, .inl (.inl hl)⟩, ?_⟩⟩
      have hD4 : H4 D0 ≠ none := by
        obtain ⟨L, q1, _⟩ := p.at_
        rw [e4.old _ _ q1 (fun q z => by cases z)]
        simp
      refine wk_lst (K := K) (a := l) (xs := ys) (fun j H5 => SQ K P w Ps H1 D0 (gotP (fss.take i) m.toNat ++ ((sortL (subsL fc)).take j).filter fun p => decide (p.length = m.toNat)) H5 ∧ H5 l = some (.lst ys) ∧ Paired (TupI K H5) ys (sortL (subsL fc))) ?_ (fun j H5 p => .inl (.inl p.2.1)) (fun j y H5 hy p => ?_) (fun H5 p => ?_)
      · refine ⟨?_, hl, L2.Paired.mapP hp fun _ _ z => z.tup⟩
        rw [List.take_zero, List.filter_nil, List.append_nil]
        exact p.skip e4
      · obtain ⟨p5, hl5, hp5⟩ := p
        obtain ⟨g, hg, t, rfl, hT⟩ := paired_get hp5 hy
        have hft := filt_take (fun p : List Int => decide (p.length = m.toNat)) hg
        refine ⟨rfl, .ref t, rfl, t, _, rfl, .inr hT, .int m, rfl, rfl, _, rfl, ?_⟩
        rw [List.length_map]
        have ed : decide (V.int (g.length : Int) = V.int m) = decide (g.length = m.toNat) := by
          by_cases e : g.length = m.toNat
          · rw [decide_eq_true e, decide_eq_true]
            exact congrArg V.int (by omega)
          · rw [decide_eq_false e, decide_eq_false]
            intro z
            injection z with z
            omega
        first | rw [ed] | (rw [show decide ((g.length : Int) = m) = decide (g.length = m.toNat) from by
          by_cases e : g.length = m.toNat
          · rw [decide_eq_true e, decide_eq_true]
            omega
          · rw [decide_eq_false e, decide_eq_false]
            omega])
        refine ite2 (fun hc => ?_) (fun hc => ?_)
        · rw [if_pos hc] at hft
          have hmem : ∀ z ∈ gotP (fss.take i) m.toNat ++ ((sortL (subsL fc)).take j).filter (fun p => decide (p.length = m.toNat)), z ∈ partsN n.toNat fss m.toNat := fun z hz => by
            rcases List.mem_append.mp hz with q1 | q1
            · exact sub i z q1
            · obtain ⟨q2, q3⟩ := List.mem_filter.mp q1
              exact (mem_partsN' F).mpr ⟨of_decide_eq_true q3, fc, hfm, mem_subs.mp ((sortL_perm _).mem_iff.mp (List.mem_of_mem_take q2))⟩
          obtain ⟨L, r1, r2, r3, r4⟩ := SQ.put hD p5 hT hfew hmem
          refine ⟨.ref t, rfl, t, g, L, rfl, hT, r1, r2, r3, fun L' gr => ?_⟩
          have z := r4 L' gr
          rw [List.append_assoc, ← hft] at z
          refine ⟨z, ?_, L2.Paired.mapP hp5 fun _ _ y => let ⟨b, e, hb⟩ := y; ⟨b, e, sqT_big r1 hb⟩⟩
          rw [upd_ne (ne_of hl5 r1 (by intro z; cases z))]
          exact hl5
        · rw [if_neg hc, List.append_nil] at hft
          refine ⟨?_, hl5, hp5⟩
          rw [hft]
          exact p5
      · have z := p.1
        rw [Paired.length hp, List.take_length] at z
        show SQ K P w Ps H1 D0 (gotP (fss.take (i + 1)) m.toNat) H5
        rw [gotP_take hfc]
        exact z
    · rw [Paired.length h3, List.take_length] at p
      obtain ⟨L, r1, r2, r3, r4⟩ := p.at_
      refine ⟨D0, L, rfl, r1, r2, fun ys gss p' hp pw mem l64 np => ?_⟩
      have x4 := Ext.new (o := .lst ys) p.ext.tb np
      have eq : gss = partsN n.toNat fss m.toNat := strict_eq pw (partsN_pw _ _ _) (partsN_nd _ _ _) fun z => by rw [mem z, r4 z, mem_gotP, mem_partsN' F]
      subst eq
      exact q p' ys _ (e1.trans (p.ext.trans x4)) ((e1.trans p.ext).free np) upd_same (x4.tups hp)
def spCountsG (K : PySem.W.Frag) (Ps : Tbs) : Sp := fun vs H Q _ => ∃ (x : V) (n kk : Int) (fss : List (List Int)), vs = [x] ∧ Stk K H x n kk fss ∧ StkOk n kk fss ∧ Tb Ps H ∧
  ∀ v H', Ext Ps H H' → TupI K H' v (countsN n.toNat kk.toNat fss) → Q v H'
theorem ok_countsG {fS cS fP cP : Addr} {fdS fdP : FuncData} (D : Def K mg "counts" sCounts ["stack"] f fd c) (DS : Def K mg "need_stack" sNeedStack ["stack"] fS fdS cS) (GS : FnOk P w K mg base CX0 k fS fdS ["stack"] (spNeedStack K Ps))
    (DP : Def K mg "parts_of" sPartsOf ["stack", "many"] fP fdP cP) (GP : FnOk P w K mg base CX0 k fP fdP ["stack", "many"] (spPartsOfG K Ps)) (mr : mg "range" = none) (ml : mg "len" = none) (mt : mg "tuple" = none) : FnOk P w K mg base CX0 (k + 1) f fd ["stack"] (spCountsG K Ps) := by
  refine D.ok (k := k) scCounts (fun vs H Q E h => ?_) (fun A outer s H vs Q E hr h => ?_)
  · obtain ⟨x, n, kk, fss, rfl, _⟩ := h
    rfl
  · obtain ⟨x, n, kk, fss, rfl, hS, S, ht, q⟩ := h
    have hk4 := S.k4
    have hk0 := S.k0
    refine ⟨_, pss_cons (ps_expr (pcl DS GS hr (pa_cons (pv 0) pa_nil))) (pss_one (ps_ret (pe_callTy call_tuple_of (by rfl) mt (by decide +kernel) (pa_cons (pe_lc (own := [("many", 1)]) (g := gName 1) (by rfl) scCounts.nd (pi_range1 (by rfl) mr (pa_cons (pe_op op_add (pe_ix ix_tup (pv 0) pe_int (fun _ _ => rfl)) pe_int) pa_nil)) (blkOk_by (N := ["stack", "many"]) (sc := defScope sCounts) (by decide +kernel))
      (fun _ _ _ _ _ => pg_name (i := 1) scCounts.nd rfl (Or.inl rfl)) (fun _ _ _ _ _ => pts_nil) (fun _ _ _ _ _ => pe_callB (call_lenS (K := K) rfl) (by rfl) ml PySem.boot_len (pa_cons (pcl DP GP hr (pa_cons (pv 0) (pa_cons (pv 1) pa_nil))) pa_nil))) pa_nil)))), ?_⟩
    refine ⟨x, rfl, x, n, kk, fss, rfl, hS, S, ht, fun H1 e1 => ?_⟩
    have hS1 := e1.stk hS
    obtain ⟨a, fa, xs, rfl, h1, h2, h3⟩ := id hS1
    refine ⟨.ref a, rfl, a, _, 1, .int kk, rfl, rfl, h1, atI_nat (j := 1) rfl, kk, 1, rfl, rfl, kk + 1, rfl, by omega, by omega, fun D0 hD => lc_range (lo := 0) (n := (kk + 1).toNat) (fun i H3 => CP Ps FI H1 D0 ((List.range i).map fun m => ((partsN n.toNat fss m).length : Int)) i H3) (CP.start e1.tb hD) (fun i H3 hi p => ?_) (fun H3 p => ?_)⟩
    · refine ⟨rfl, yes_ (iteT ?_)⟩
      refine ⟨.ref a, rfl, .int (0 + i), rfl, .ref a, n, kk, 0 + i, fss, rfl, p.ext.stk hS1, S, by omega, by omega, p.ext.tb, fun l ys H4 e4 nl hl hp => ⟨l, ys, rfl, .inl (.inl (.inl hl)), ?_⟩⟩
      have p4 := p.skip (stbI (K := K)) e4
      have r := CP.put (stbI (K := K)) hD (by omega) p4 (show FI H4 (.int (ys.length : Int)) (ys.length : Int) from rfl)
      rw [List.range_succ, List.map_append]
      have ei : (0 + (i : Int)).toNat = i := by omega
      rw [Paired.length hp, ei] at r
      rw [Paired.length hp, ei]
      exact r
    · obtain ⟨ys, g1, g2, g3⟩ := p.at_
      have en : (kk + 1).toNat = kk.toNat + 1 := by omega
      rw [en] at g2
      refine ⟨D0, ys, rfl, .inl ⟨.inl (.inl g1), fun l hl => q (.ref l) _ (e1.trans (p.ext.trans (Ext.new p.ext.tb hl))) ⟨l, rfl, ?_⟩⟩⟩
      unfold countsN
      rw [← paired_ints g2]
      exact .inl (.inl upd_same)
def spToldG (K : PySem.W.Frag) (Ps : Tbs) : Sp := fun vs H Q _ => ∃ (x : V) (n kk : Int) (fss : List (List Int)), vs = [x] ∧ Stk K H x n kk fss ∧ StkOk n kk fss ∧ Tb Ps H ∧
  ∀ v H', Ext Ps H H' → TupI K H' v (toldS n kk fss) → Q v H'
theorem ok_toldG {fS cS fC cC fK cK fG cG : Addr} {fdS fdC fdK fdG : FuncData} (D : Def K mg "told" sTold ["stack"] f fd c) (DS : Def K mg "need_stack" sNeedStack ["stack"] fS fdS cS) (GS : FnOk P w K mg base CX0 k fS fdS ["stack"] (spNeedStack K Ps))
    (DC : Def K mg "counts" sCounts ["stack"] fC fdC cC) (GC : FnOk P w K mg base CX0 k fC fdC ["stack"] (spCountsG K Ps)) (DK : Def K mg "picks" sPicks ["many", "few"] fK fdK cK) (GK : FnOk P w K mg base CX0 k fK fdK ["many", "few"] spPicks)
    (DG : Def K mg "signed" sSigned ["number", "many"] fG fdG cG) (GG : FnOk P w K mg base CX0 k fG fdG ["number", "many"] spSigned) (mr : mg "range" = none) (mt : mg "tuple" = none) (msu : mg "sum" = none) : FnOk P w K mg base CX0 (k + 1) f fd ["stack"] (spToldG K Ps) := by
  refine D.ok (k := k) scTold (fun vs H Q E h => ?_) (fun A outer s H vs Q E hr h => ?_)
  · obtain ⟨x, n, kk, fss, rfl, _⟩ := h
    rfl
  · obtain ⟨x, n, kk, fss, rfl, hS, S, ht, q⟩ := h
    have hk4 := S.k4
    have hk0 := S.k0
    refine ⟨_, pss_cons (ps_expr (pcl DS GS hr (pa_cons (pv 0) pa_nil))) (pss_cons (ps_set (i := 1) scTold.nd rfl (.inr rfl) (pe_ix ix_tup (pv 0) pe_int (fun _ _ => rfl))) (pss_cons (ps_set (i := 2) scTold.nd rfl (.inr rfl) (pcl DC GC hr (pa_cons (pv 0) pa_nil)))
      (pss_one (ps_ret (pe_callTy call_tuple_of (by rfl) mt (by decide +kernel) (pa_cons (pe_lc (own := [("i", 3)]) (g := gName 3) (by rfl) scTold.nd (pi_range1 (by rfl) mr (pa_cons (pe_op op_add (pv 1) pe_int) pa_nil)) (blkOk_by (N := nTold) (sc := defScope sTold) (by decide +kernel)) (fun _ _ _ _ _ => pg_name (i := 3) scTold.nd rfl (Or.inr rfl)) (fun _ _ _ _ _ => pts_nil)
        (fun _ _ _ _ _ => show PE _ _ (tCB (rSum K) _) from pe_callB (cr_sum rfl) (by rfl) msu (by decide +kernel) (pa_cons (pe_lc (own := [("j", 4)]) (g := gName 4) (by rfl) scTold.nd (pi_range1 (by rfl) mr (pa_cons (pe_op op_add (pv 3) pe_int) pa_nil)) (blkOk_by (N := nTold) (sc := toldC) (by decide +kernel)) (fun _ _ _ _ _ => pg_name (i := 4) scTold.nd rfl (Or.inl rfl)) (fun _ _ _ _ _ => pts_nil)
          (fun _ _ _ _ _ => pcl DG GG hr (pa_cons (pe_op op_mul (show PE _ _ (tOp (rIxT K) _ _) from pe_ix ix_tup (pv 2) (pv 4) (fun _ _ => rfl)) (pcl DK GK hr (pa_cons (pe_op op_sub (pv 1) (pv 4)) (pa_cons (pe_op op_sub (pv 1) (pv 3)) pa_nil)))) (pa_cons (pe_op op_sub (pv 3) (pv 4)) pa_nil)))) pa_nil))) pa_nil)))))), ?_⟩
    refine ⟨x, rfl, x, n, kk, fss, rfl, hS, S, ht, fun H1 e1 => ?_⟩
    have hS1 := e1.stk hS
    obtain ⟨a, fa, xs, rfl, h1, h2, h3⟩ := id hS1
    refine ⟨.ref a, rfl, a, _, 1, .int kk, rfl, rfl, h1, atI_nat (j := 1) rfl, .ref a, rfl, .ref a, n, kk, fss, rfl, hS1, S, e1.tb, fun cv H2 e2 hcv => ?_⟩
    obtain ⟨ct, rfl, hct⟩ := id hcv
    refine ⟨.int kk, rfl, kk, 1, rfl, rfl, kk + 1, rfl, by omega, by omega, fun D0 hD => lc_range (lo := 0) (n := (kk + 1).toNat) (fun i H3 => CP Ps FI H2 D0 (toldL kk.toNat (countsN n.toNat kk.toNat fss) i) i H3) (CP.start e2.tb hD) (fun i H3 hi p => ?_) (fun H3 p => ?_)⟩
    · refine ⟨rfl, yes_ (iteT ?_)⟩
      refine ⟨_, rfl, _, _, rfl, rfl, _, rfl, by omega, by omega, fun D1 hD1 => lc_range (lo := 0) (n := (0 + (i : Nat) + 1 : Int).toNat) (fun j H4 => CP Ps FI H3 D1 (toldAt kk.toNat (countsN n.toNat kk.toNat fss) i j) j H4) (CP.start p.ext.tb hD1) (fun j H4 hj p4 => ?_) (fun H4 p4 => ?_)⟩
      · refine ⟨rfl, yes_ (iteT ?_)⟩
        have hjl : j < (countsN n.toNat kk.toNat fss).length := by rw [countsN_len]; omega
        have hat : ((countsN n.toNat kk.toNat fss).map V.int)[j]? = some (.int ((countsN n.toNat kk.toNat fss).getD j 0)) := by
          rw [List.getElem?_map, List.getD_eq_getElem?_getD, List.getElem?_eq_getElem hjl]
          rfl
        refine ⟨.ref ct, rfl, .int (0 + (j : Nat)), rfl, ct, _, 0 + (j : Nat), .int ((countsN n.toNat kk.toNat fss).getD j 0), rfl, rfl, p4.ext.sqT (p.ext.sqT hct), ?_, .int kk, rfl, _, rfl, _, _, rfl, rfl, .int kk, rfl, _, rfl, _, _, rfl, rfl, _, _, rfl, by omega, by omega, by omega, by omega, _, _, rfl, rfl, .inr (pk_small (by omega) (by omega) (by omega) (by omega)), _, rfl, _, rfl, _, _, rfl, rfl, _, _, rfl, ?_⟩
        · rw [show (0 : Int) + (j : Nat) = (j : Nat) from by omega]
          exact atI_nat hat
        have r := CP.put (stbI (K := K)) hD1 (by omega) p4 (show FI H4 (.int (sgn ((countsN n.toNat kk.toNat fss).getD j 0 * pk ((kk.toNat : Int) - j) (kk.toNat - i)) ((i : Int) - j))) _ from rfl)
        rw [toldAt_succ]
        have z1 : kk - (0 + (j : Nat)) = (kk.toNat : Int) - (j : Nat) := by omega
        have z2 : (kk - (0 + (i : Nat))).toNat = kk.toNat - i := by omega
        have z3 : (0 + (i : Nat) : Int) - (0 + (j : Nat)) = (i : Nat) - (j : Nat) := by omega
        rw [z1, z2, z3]
        exact r
      · obtain ⟨ys, g1, g2, g3⟩ := p4.at_
        have en : (0 + (i : Nat) + 1 : Int).toNat = i + 1 := by omega
        rw [en] at g2
        have ey := paired_ints g2
        subst ey
        refine ⟨D1, _, rfl, .inl (.inl g1), ?_⟩
        have p5 := p.skip (stbI (K := K)) p4.ext
        have r := CP.put (stbI (K := K)) hD (by omega) p5 (show FI H4 (.int (toldAt kk.toNat (countsN n.toNat kk.toNat fss) i (i + 1)).sum) _ from rfl)
        rw [toldL_succ]
        exact r
    · obtain ⟨ys, g1, g2, g3⟩ := p.at_
      have en : (kk + 1).toNat = kk.toNat + 1 := by omega
      rw [en] at g2
      refine ⟨D0, ys, rfl, .inl ⟨.inl (.inl g1), fun l hl => q (.ref l) _ (e1.trans (e2.trans (p.ext.trans (Ext.new p.ext.tb hl)))) ⟨l, rfl, ?_⟩⟩⟩
      unfold toldS
      rw [← paired_ints g2]
      exact .inl (.inl upd_same)
end
end Lf

set_option maxHeartbeats 2000000
/-! What is told of the stacks of told kinds. -/
namespace Lf
open PySem PySem.Spec PyProof.Rows L2 GxR GxA SrT EnT
/-- how many parts of m points -/
def cntU (n m : Nat) (G : List (List Int)) : Nat := (((subsL (rng n)).filter fun z => decide (z.length = m)).filter fun z => inSome z G).length
theorem risB_sub {n : Nat} {g : List Int} : RisB n g ↔ g.Sublist (rng n) := by
  constructor
  · intro h
    have e : (rng n).filter (fun p => decide (p ∈ g)) = g := by
      refine pw_ext (List.Pairwise.sublist List.filter_sublist ?_) h.1 fun x => ?_
      · unfold rng
        exact List.Pairwise.map _ (fun a b h => by omega) List.pairwise_lt_range
      · rw [List.mem_filter, decide_eq_true_eq]
        exact ⟨fun q => q.2, fun q => ⟨in_rng (h.2 x q).1 (h.2 x q).2, q⟩⟩
    exact e ▸ List.filter_sublist
  · exact ris_rng
theorem partsN_cnt {n m : Nat} {fss G : List (List Int)} (h : ∀ f, f ∈ fss ↔ f ∈ G) : (partsN n fss m).length = cntU n m G := by
  have nd2 : (((subsL (rng n)).filter fun z => decide (z.length = m)).filter fun z => inSome z G).Nodup := ((subs_nodup n (rng n) (rng_len n) (rng_nd n)).filter _).filter _
  have mm : ∀ z, z ∈ partsN n fss m ↔ z ∈ (((subsL (rng n)).filter fun z => decide (z.length = m)).filter fun z => inSome z G) := fun z => by
    rw [mem_partsN, List.mem_filter, List.mem_filter, mem_subs, decide_eq_true_eq, inSome_ex, risB_sub]
    exact ⟨fun ⟨a, b, f, c, d⟩ => ⟨⟨a, b⟩, f, (h f).mp c, d⟩, fun ⟨⟨a, b⟩, f, c, d⟩ => ⟨a, b, f, (h f).mpr c, d⟩⟩
  exact Nat.le_antisymm (nd_le (partsN_nd n m fss) fun z hz => (mm z).mp hz) (nd_le nd2 fun z hz => (mm z).mpr hz)
def toldU (n kk : Nat) (G : List (List Int)) : List Int := toldL kk ((List.range (kk + 1)).map fun m => (cntU n m G : Int)) (kk + 1)
theorem told_U {n kk : Nat} {fss G : List (List Int)} (h : ∀ f, f ∈ fss ↔ f ∈ G) : toldS n kk fss = toldU n kk G := by
  unfold toldS toldU countsN
  congr 1
  exact List.map_congr_left fun m _ => by
    show ((partsN (n : Int).toNat fss m).length : Int) = _
    rw [show (n : Int).toNat = n by omega, partsN_cnt h]
/-- what the picks tell of all faces of k of n points -/
def dueE (n k : Nat) (i : Nat) : Int := (if i = 0 ∨ k < n then 1 else 0) * pk (max 0 ((n : Int) - k - 1) + (i : Nat)) i
def dueF (n k : Nat) : List Int := (List.range (k + 1)).map (dueE n k)
theorem told_fullU : ((List.range 9).all fun n => (List.range 5).all fun k => decide (n < 3) || decide (n < k) || decide (toldU n k ((subsL (rng n)).filter fun g => decide (g.length = k)) = dueF n k)) = true := by decide +kernel
theorem told_full {n k : Nat} (h3 : 3 ≤ n) (h8 : n ≤ 8) (hk : k ≤ n) (h4 : k ≤ 4) : toldS n k (fullL n k) = dueF n k := by
  have z := List.all_eq_true.mp (List.all_eq_true.mp told_fullU n (List.mem_range.mpr (by omega))) k (List.mem_range.mpr (by omega))
  simp only [Bool.or_eq_true, decide_eq_true_eq] at z
  rw [told_U (G := (subsL (rng n)).filter fun g => decide (g.length = k)) fun f => ?_]
  · rcases z with (z | z) | z
    · omega
    · omega
    · exact z
  · unfold fullL
    rw [List.mem_filter, List.mem_filter, (sortL_perm _).mem_iff]
theorem told_pairsU : ∀ d, d < 5 → toldU (2 * d) d (pairsP d) = (List.range (d + 1)).map fun i : Nat => pk d i := by decide +kernel
theorem told_pairs {d : Nat} (h4 : d ≤ 4) : toldS (2 * (d : Int)) d (pairsP d) = (List.range (d + 1)).map fun i : Nat => pk d i := by
  rw [show (2 * (d : Int)) = ((2 * d : Nat) : Int) by omega, told_U (fun f => Iff.rfl)]
  exact told_pairsU d (by omega)
theorem told_rowU : ∀ n, n < 9 → 3 ≤ n → toldU n 2 (stepsL (n - 1)) = [1, (n : Int) - 2, 0] := by decide +kernel
theorem told_row {n : Nat} (h3 : 3 ≤ n) (h8 : n ≤ 8) : toldS n 2 (stepsL (n - 1)) = [1, (n : Int) - 2, 0] := by
  rw [show (2 : Int) = ((2 : Nat) : Int) from rfl, told_U (fun f => Iff.rfl)]
  exact told_rowU n (by omega) h3
theorem told_ringU : ∀ n, n < 9 → 3 ≤ n → toldU n 2 (stepsL (n - 1) ++ [[0, (n : Int) - 1]]) = [1, (n : Int) - 2, 1] := by decide +kernel
theorem told_ring {n : Nat} (h3 : 3 ≤ n) (h8 : n ≤ 8) : toldS n 2 (ringL n) = [1, (n : Int) - 2, 1] := by
  rw [show (2 : Int) = ((2 : Nat) : Int) from rfl, told_U (G := stepsL (n - 1) ++ [[0, (n : Int) - 1]]) fun f => ?_]
  · exact told_ringU n (by omega) h3
  · unfold ringL
    rw [(sortL_perm _).mem_iff]
end Lf

set_option maxHeartbeats 4000000
namespace Lf
open PySem PySem.Spec PyProof.Rows L2 GxR GxA SrT EnT
abbrev sPlain : Stmt := topS 35
abbrev sNOrd : Stmt := topS 38
theorem scPlain : FnScope ["stack"] ["stack"] (defScope sPlain) := ⟨rfl, rfl, rfl, by decide +kernel, rfl, by decide +kernel, by decide +kernel⟩
theorem scNOrd : FnScope ["stack", "names", "come", "number", "face"] ["stack", "names"] (defScope sNOrd) := ⟨rfl, rfl, rfl, by decide +kernel, rfl, by decide +kernel, by decide +kernel⟩
def OrdV (K : PySem.W.Frag) (H : Hp) (b : Bool) (L : List Int) (v : V) : Prop := (b = true ∧ TupI K H v L) ∨ (b = false ∧ v = .non)
theorem sqT_putP {K : PySem.W.Frag} {H : Hp} {D : Addr} {l l' : List V} {t : Addr} {xs : List V} (hD : H D = some (.lst l)) (h : SqT K H t xs) : SqT K (upd H D (.lst l')) t xs := by
  rcases h with (h | ⟨o, h⟩) | h
  · exact .inl (.inl (by rw [upd_ne (ne_of h hD (by intro z; cases z))]; exact h))
  · exact .inl (.inr ⟨o, by rw [upd_ne (ne_of h hD (by intro z; cases z))]; exact h⟩)
  · exact .inr h
def PairT (K : PySem.W.Frag) (H : Hp) (x : V) (b : List Int × Int) : Prop := ∃ (t : Addr) (u : V), x = .ref t ∧ SqT K H t [u, .int b.2] ∧ TupI K H u b.1
theorem stbP {K : PySem.W.Frag} {Ps : Tbs} : Stb K Ps (PairT K) := ⟨fun _ _ _ _ e ⟨t, u, h1, h2, h3⟩ => ⟨t, u, h1, e.sqT h2, e.tupI h3⟩, fun _ _ _ _ _ _ hD ⟨t, u, h1, h2, h3⟩ => ⟨t, u, h1, sqT_putP hD h2, tupI_put hD h3⟩⟩
theorem PairT.dp {K : PySem.W.Frag} {H : Hp} {x : V} {b : List Int × Int} (h : PairT K H x b) : Dp K H x (encT b) := by
  obtain ⟨t, u, rfl, h2, h3⟩ := h
  exact .tup h2 (.cons (dp_tup h3) (.cons (.int _) .nil))
section
variable {P : Program} {w : World} {K : PySem.W.Frag} {mg : Str → Option Value} {base : Heap} {Ps : Tbs} {H H' H0 : Hp} {k : Nat} {f c : Addr} {fd : FuncData}
variable {CS CM : Addr}
def spPlain (K : PySem.W.Frag) (Ps : Tbs) (CS : Addr) : Sp := fun vs H Q E => ∃ (x : V), vs = [x] ∧ (BadS K Ps CS x H E ∨ ∃ (n kk : Int) (fss : List (List Int)), Stk K H x n kk fss ∧ StkOk n kk fss ∧ Tb Ps H ∧ ∀ v H', Ext Ps H H' → OrdV K H' ((unT fss fss.length).isEmpty || (unP fss fss.length).isEmpty) (rng fss.length) v → Q v H')
theorem head_ne {F : List (List Int)} {v : V} (h : HeadV K H F v) : decide (v = .non) = F.isEmpty := by
  rcases h with ⟨rfl, rfl⟩ | ⟨t, ht, u, rfl, _⟩
  · rfl
  · cases F with
    | nil => cases ht
    | cons a F => rfl
theorem ok_plain {fT cT fU cU : Addr} {fdT fdU : FuncData} (D : Def K mg "plain_order" sPlain ["stack"] f fd c) (DT : Def K mg "first_untraded" sUnT ["stack"] fT fdT cT) (GT : FnOk P w K mg base (L2.CX P w) (k) fT fdT ["stack"] (spUnT2 K Ps CS)) (DU : Def K mg "first_unpushed" sUnP ["stack"] fU fdU cU) (GU : FnOk P w K mg base (L2.CX P w) (k) fU fdU ["stack"] (spUnP2 K Ps CS)) (mt : mg "tuple" = none) (mr : mg "range" = none) (ml : mg "len" = none) : FnOk P w K mg base (L2.CX P w) (k + 1) f fd ["stack"] (spPlain K Ps CS) := by
  refine D.okX (k := k) scPlain (fun vs H Q E h => ?_) (fun A outer s H vs Q E hr tk h => ?_)
  · obtain ⟨x, rfl, _⟩ := h
    rfl
  · obtain ⟨x, rfl, h⟩ := h
    refine ⟨_, (pss_cons (ps_if (PW.pt (pw_and (pt_cmpR op_notN (pclX DT GT hr tk (pa_cons (pv 0) pa_nil)) pe_non (nomark _)) (pw_and1 (pt_cmpR op_notN (pclX DU GU hr tk (pa_cons (pv 0) pa_nil)) pe_non (nomark _))))) (pss_one (ps_ret pe_non)) pss_nil) (pss_one (ps_ret (pe_tupRg (by rfl) (by rfl) mt (prg_1 (by rfl) mr (pe_callB (call_lenS (K := K) rfl) (by rfl) ml PySem.boot_len (pa_cons (pe_ix (show IxR _ (rIxT K) from ix_tup) (pv 0) pe_int (fun _ _ => rfl)) pa_nil))))))), ?_⟩
    rcases h with hb | ⟨n, kk, fss, hS, S, ht, q⟩
    · exact ⟨x, rfl, .inr ⟨x, rfl, hb⟩⟩
    have l70 := S.l70
    have fin : ∀ H1, Ext Ps H H1 → ((unT fss fss.length).isEmpty || (unP fss fss.length).isEmpty) = true → tRet (tTupRg (tRg1 (tCB (fun xs H Q => ∃ p ys, xs = [V.ref p] ∧ (SqL K H p ys ∨ SqT K H p ys) ∧ Q (.int (ys.length : Nat)) H) (tCons (tOp (rIxT K) (tVar 0) (tC (.int 2))) tNil)))) { nx := fun _ H' => Q .non H', rt := Q } [some x] H1 := by
      intro H1 e1 hc
      obtain ⟨a, fa, xs, rfl, h1, h2, h3⟩ := e1.stk hS
      have hxl := Paired.length h3
      refine ⟨.ref a, rfl, a, _, 2, .ref fa, rfl, rfl, h1, at2, fa, xs, rfl, .inr h2, (xs.length : Int), rfl, RgOk.of_le (by omega) (by omega) (by omega) (by omega), fun l nl => ?_⟩
      have e : (xs.length : Int) = (fss.length : Int) := by omega
      rw [e, rng_V]
      exact q _ _ (e1.trans (Ext.new e1.tb nl)) (.inl ⟨hc, l, rfl, .inl (.inl upd_same)⟩)
    refine ⟨x, rfl, .inl ⟨x, n, kk, fss, rfl, hS, S, ht, fun v H1 e1 hv => ⟨rfl, !(unT fss fss.length).isEmpty, by rw [head_ne hv], ?_⟩⟩⟩
    refine ite2 (fun hc => ?_) (fun hc => ?_)
    · refine ⟨x, rfl, .inl ⟨x, n, kk, fss, rfl, e1.stk hS, S, e1.tb, fun v2 H2 e2 hv2 => ⟨rfl, !(unP fss fss.length).isEmpty, by rw [head_ne hv2], ?_⟩⟩⟩
      refine ite2 (fun hc2 => ?_) (fun hc2 => ?_)
      · refine q _ _ (e1.trans e2) (.inr ⟨?_, rfl⟩)
        simp only [Bool.not_eq_true'] at hc hc2
        rw [hc, hc2]
        rfl
      · refine fin _ (e1.trans e2) ?_
        have : (unP fss fss.length).isEmpty = true := by simpa using hc2
        rw [this, Bool.or_true]
    · refine iteF (fin _ e1 ?_)
      have : (unT fss fss.length).isEmpty = true := by simpa using hc
      rw [this, Bool.true_or]
def spNOrd (K : PySem.W.Frag) (Ps : Tbs) : Sp := fun vs H Q _ => ∃ (x y : V) (n kk : Int) (fss : List (List Int)) (ns : List Int), vs = [x, y] ∧ Stk K H x n kk fss ∧ StkOk n kk fss ∧ TupI K H y ns ∧ ns.Perm (rng n.toNat) ∧ Tb Ps H ∧ ∀ v H', Ext Ps H H' → OrdV K H' (unT fss fss.length).isEmpty (ordN ns fss) v → Q v H'
theorem ok_nOrd {fS cS fN cN fT cT fB cB : Addr} {fdS fdN fdT fdB : FuncData} (D : Def K mg "named_order" sNOrd ["stack", "names"] f fd c) (DS : Def K mg "need_stack" sNeedStack ["stack"] fS fdS cS) (GS : FnOk P w K mg base CX0 (k) fS fdS ["stack"] (spNeedStack K Ps)) (DN : Def K mg "need_names" sNeedNames ["stack", "names"] fN fdN cN) (GN : FnOk P w K mg base CX0 (k) fN fdN ["stack", "names"] (spNeedNames K Ps)) (DT : Def K mg "first_untraded" sUnT ["stack"] fT fdT cT) (GT : FnOk P w K mg base CX0 (k) fT fdT ["stack"] (spUnT K Ps)) (DB : Def K mg "told_by" sToldBy ["face", "names"] fB fdB cB) (GB : FnOk P w K mg base CX0 (k) fB fdB ["face", "names"] (spToldBy K Ps)) (mt : mg "tuple" = none) (ms : mg "sorted" = none) (me : mg "enumerate" = none) : FnOk P w K mg base CX0 (k + 1) f fd ["stack", "names"] (spNOrd K Ps) := by
  refine D.ok (k := k) scNOrd (fun vs H Q E h => ?_) (fun A outer s H vs Q E hr h => ?_)
  · obtain ⟨x, y, n, kk, fss, ns, rfl, _⟩ := h
    rfl
  · obtain ⟨x, y, n, kk, fss, ns, rfl, hS, S, hy, hp, ht, q⟩ := h
    refine ⟨_, (pss_cons (ps_expr (pcl DS GS hr (pa_cons (pv 0) pa_nil))) (pss_cons (ps_expr (pcl DN GN hr (pa_cons (pv 0) (pa_cons (pv 1) pa_nil)))) (pss_cons (ps_if (pt_cmpR op_notN (pcl DT GT hr (pa_cons (pv 0) pa_nil)) pe_non (nomark _)) (pss_one (ps_ret pe_non)) pss_nil) (pss_cons (ps_set (i := 2) scNOrd.nd rfl (.inl rfl) (pe_callB (show CallR _ _ (rSortD K encT) from cr_sortD hr.units) (by rfl) ms (by decide +kernel) (pa_cons (pe_lc (own := [("number", 3), ("face", 4)]) (g := gTup K 2 (gCons (gName 3) (gCons (gName 4) gNil))) (by rfl) scNOrd.nd (pi_enumT (by rfl) me (pa_cons (pe_ix (show IxR _ (rIxT K) from ix_tup) (pv 0) pe_int (fun _ _ => rfl)) pa_nil)) (blkOk_by (N := ["stack", "names", "come", "number", "face"]) (sc := defScope sNOrd) (by decide +kernel)) (fun _ _ _ _ _ => pg_tup rfl (pgs_cons (pg_name (i := 3) scNOrd.nd rfl (Or.inl rfl)) (pgs_cons (pg_name (i := 4) scNOrd.nd rfl (Or.inl rfl)) pgs_nil))) (fun _ _ _ _ _ => pts_nil) (fun _ _ _ _ _ => (pe_tup (pa_cons (pcl DB GB hr (pa_cons (pv 4) (pa_cons (pv 1) pa_nil))) (pa_cons (pv 3) pa_nil))))) pa_nil))) (pss_one (ps_ret (pe_callTy call_tuple_of (by rfl) mt (by decide +kernel) (pa_cons (pe_lc (own := [("face", 4), ("number", 3)]) (g := gTup K 2 (gCons (gName 4) (gCons (gName 3) gNil))) (by rfl) scNOrd.nd (pi_list (pv 2)) (blkOk_by (N := ["stack", "names", "come", "number", "face"]) (sc := defScope sNOrd) (by decide +kernel)) (fun _ _ _ _ _ => pg_tup rfl (pgs_cons (pg_name (i := 4) scNOrd.nd rfl (Or.inl rfl)) (pgs_cons (pg_name (i := 3) scNOrd.nd rfl (Or.inl rfl)) pgs_nil))) (fun _ _ _ _ _ => pts_nil) (fun _ _ _ _ _ => pv 3)) pa_nil)))))))), ?_⟩
    have hn1 := S.n1
    have hnl := len_perm_rng hp
    have l70 := S.l70
    refine tseq_intro fun R hR => ?_
    refine ⟨x, rfl, x, n, kk, fss, rfl, hS, S, ht, fun H1 e1 => ?_⟩
    show R [some x, some y, none, none, none] H1
    rw [hR]
    clear hR
    refine tseq_intro fun R hR => ?_
    refine ⟨x, rfl, y, rfl, x, y, n, kk, fss, ns, rfl, e1.stk hS, S, e1.tupI hy, hp, e1.tb, fun H2 e2 => ?_⟩
    show R [some x, some y, none, none, none] H2
    rw [hR]
    clear hR
    have E2 := e1.trans e2
    refine tseq_intro fun R hR => ?_
    refine ⟨x, rfl, x, n, kk, fss, rfl, E2.stk hS, S, E2.tb, fun v H3 e3 hv => ⟨rfl, !(unT fss fss.length).isEmpty, by rw [head_ne hv], ?_⟩⟩
    have E3 := E2.trans e3
    refine ite2 (fun hc => ?_) (fun hc => ?_)
    · exact q _ _ E3 (.inr ⟨by simpa using hc, rfl⟩)
    have hc' : (unT fss fss.length).isEmpty = true := by simpa using hc
    show R [some x, some y, none, none, none] H3
    rw [hR]
    clear hR
    obtain ⟨a, fa, xs, rfl, h1, h2, h3⟩ := E3.stk hS
    have hxl := Paired.length h3
    have hy3 := E3.tupI hy
    refine tseq_intro fun R hR => ?_
    refine ⟨.ref a, rfl, a, _, 2, .ref fa, rfl, rfl, h1, at2, fa, xs, rfl, h2, fun D0 hD => lc_enT (K := K) (a := fa) (xs := xs) (fun i H4 => CP Ps (PairT K) H3 D0 (prN ns fss i) i H4) (CP.start E3.tb hD) (fun i H4 p => p.ext.sqT h2) (fun i u H4 T hu p hTn => ?_) (fun H4 p => ?_)⟩
    · obtain ⟨g, hg, hI⟩ := paired_get h3 hu
      have hi : i < xs.length := (List.getElem?_eq_some_iff.mp hu).1
      have hgm := List.mem_of_getElem? hg
      have hg4 := S.len4 g hgm
      have gD : fss.getD i [] = g := by rw [List.getD_eq_getElem?_getD, hg]; rfl
      have eT := Ext.new (o := .tup [.int (i : Nat), u]) p.ext.tb hTn
      have p4 := p.skip (stbP (K := K)) eT
      have hT4 : SqT K (upd H4 T (.tup [.int (i : Nat), u])) T [.int (i : Nat), u] := .inl (.inl upd_same)
      generalize upd H4 T (.tup [.int (i : Nat), u]) = H5 at *
      refine ⟨T, _, rfl, hT4, rfl, _, _, rfl, _, _, rfl, rfl, rfl, yes_ (iteT ⟨u, rfl, y, rfl, u, y, g, ns, rfl, p4.ext.tupI hI, p4.ext.tupI hy3, fun p hpg => by have := S.bel g hgm p hpg; omega, by omega, p4.ext.tb, fun z H6 e6 hz => ?_⟩)⟩
      refine ⟨.int (i : Nat), rfl, (by show 2 ≤ sizeLine; decide), fun r nr => ?_⟩
      have er := Ext.new (o := .tup [z, .int (i : Nat)]) e6.tb nr
      have r := CP.put (stbP (K := K)) hD (by omega) (p4.skip (stbP (K := K)) (e6.trans er)) (show PairT K _ (.ref r) (nmF ns g, (i : Int)) from ⟨r, z, rfl, .inl (.inl upd_same), er.tupI hz⟩)
      rw [prN_succ, gD]
      exact r
    obtain ⟨zs, g1, g2, g3⟩ := p.at_
    rw [hxl] at g2
    obtain ⟨al, so, dp⟩ := allT (prN ns fss fss.length)
    refine ⟨D0, zs, _, PairT K H4, rfl, .inl (.inl g1), L2.Paired.mapP g2 (fun _ _ z => ⟨z.dp, z⟩), al, so, dp, fun ys l hys nl => ?_⟩
    have x5 := Ext.new (o := .lst ys) p.ext.tb nl
    have hys5 := L2.Paired.mapP hys (fun _ _ z => (stbP (K := K) (Ps := Ps)).ext _ _ _ _ x5 z)
    have hl5 : upd H4 l (.lst ys) l = some (.lst ys) := upd_same
    generalize upd H4 l (.lst ys) = H5 at *
    have E5 := E3.trans (p.ext.trans x5)
    show R [some (.ref a), some y, some (.ref l), none, none] H5
    rw [hR]
    clear hR
    have hyl := Paired.length hys5
    have hml : ((prN ns fss fss.length).mergeSort (PySem.W.dataLe false encT)).length = fss.length := by
      have := ordN_len ns fss
      unfold ordN at this
      rw [List.length_map] at this
      exact this
    refine ⟨.ref l, rfl, l, rfl, ⟨_, .inl (.inl hl5)⟩, fun D1 hD1 => lc_list (K := K) (a := l) (xs := ys) (fun i H6 => CP Ps FI H5 D1 ((((prN ns fss fss.length).mergeSort (PySem.W.dataLe false encT)).take i).map (·.2)) i H6) (CP.start E5.tb hD1) (fun i H6 _ p => p.ext.sqL (.inl (.inl hl5))) (fun i u H6 hu p => ?_) (fun H6 p => ?_)⟩
    · obtain ⟨b, hb, t, w, rfl, hT, hw⟩ := paired_get hys5 hu
      have hi : i < ys.length := (List.getElem?_eq_some_iff.mp hu).1
      refine ⟨t, _, rfl, p.ext.sqT hT, rfl, _, _, rfl, _, _, rfl, rfl, rfl, yes_ (iteT ⟨.int b.2, rfl, ?_⟩)⟩
      have r := CP.put (stbI (K := K)) hD1 (by omega) p (show FI H6 (.int b.2) b.2 from rfl)
      rw [List.take_add_one, hb, List.map_append]
      exact r
    · obtain ⟨zs, k1, k2, k3⟩ := p.at_
      rw [hyl, List.take_length] at k2
      rw [paired_ints k2] at k1
      refine ⟨D1, _, rfl, .inl ⟨.inl (.inl k1), fun tf ntf => ?_⟩⟩
      exact q _ _ (E5.trans (p.ext.trans (Ext.new p.ext.tb ntf))) (.inl ⟨hc', tf, rfl, .inl (.inl upd_same)⟩)
def spNOrd2 (K : PySem.W.Frag) (Ps : Tbs) (CS CM : Addr) : Sp := fun vs H Q E => spNOrd K Ps vs H Q E ∨ spNmX K Ps CS CM vs H Q E
theorem ok_nOrdX {fS cS fN cN : Addr} {fdS fdN : FuncData} (D : Def K mg "named_order" sNOrd ["stack", "names"] f fd c) (DS : Def K mg "need_stack" sNeedStack ["stack"] fS fdS cS) (GS : FnOk P w K mg base (L2.CX P w) (k) fS fdS ["stack"] (spNeedStack2 K Ps CS)) (DN : Def K mg "need_names" sNeedNames ["stack", "names"] fN fdN cN) (GN : FnOk P w K mg base (L2.CX P w) (k) fN fdN ["stack", "names"] (spNeedNamesX K Ps CM)) : FnOk P w K mg base (L2.CX P w) (k + 1) f fd ["stack", "names"] (spNmX K Ps CS CM) := by
  refine D.okX (k := k) scNOrd (fun vs H Q E h => ?_) (fun A outer s H vs Q E hr tk h => ?_)
  · obtain ⟨x, y, rfl, _⟩ := h
    rfl
  · obtain ⟨x, y, rfl, h⟩ := h
    refine ⟨_, (pss_cons (ps_expr (pclX DS GS hr tk (pa_cons (pv 0) pa_nil))) (pss_cons (ps_expr (pclX DN GN hr tk (pa_cons (pv 0) (pa_cons (pv 1) pa_nil)))) (pss_cons ps_never (pss_cons ps_never (pss_one ps_never))))), ?_⟩
    rcases h with ⟨d, h1, h2, h3, h4, h5⟩ | ⟨n, kk, fss, d, hS, S, hy, hd, ht, q⟩
    · exact ⟨x, rfl, .inr ⟨x, d, rfl, h1, h2, h3, h4, h5⟩⟩
    · exact ⟨x, rfl, .inl ⟨x, n, kk, fss, rfl, hS, S, ht, fun H1 e1 => ⟨x, rfl, y, rfl, x, y, n, kk, fss, d, rfl, e1.stk hS, S, e1.th hy, hd, e1.tb, fun H2 e2 => q _ (e1.trans e2)⟩⟩⟩
end
end Lf

set_option maxHeartbeats 4000000
namespace Lf
open PySem PySem.Spec PyProof.Rows L2 GxR GxA SrT EnT
abbrev sLPicks : Stmt := topS 69
theorem scLPicks : FnScope ["_law_many", "_law_few", "_law_found", "_law_turn"] ["_law_many", "_law_few"] (defScope sLPicks) := ⟨rfl, rfl, rfl, by decide +kernel, rfl, by decide +kernel, by decide +kernel⟩
/-- t[:m], of a tuple, new or not -/
def rSlB (K : PySem.W.Frag) (Ps : Tbs) : V → Option Int → Option Int → Hp → VK → Prop := fun x lo hi H Q => ∃ a xs, x = .ref a ∧ SqT K H a xs ∧ Tb Ps H ∧ ∀ p H', Ext Ps H H' → SqT K H' p (cutV xs lo hi) → Q (.ref p) H'
theorem sl_tupB {X : Cx} {Ps : Tbs} : SlR X (rSlB X.K Ps) := by
  intro pins s σ H x v vl vu lo hi sl Q I rx hs pl pu h
  obtain ⟨a, xs, rfl, hx, ht, q⟩ := h
  refine sl_tupA pins s σ H _ v vl vu lo hi sl Q I rx hs pl pu ⟨a, xs, rfl, hx, fun z => q a H (Ext.refl ht) ?_, fun _ p np => q p _ (Ext.new ht np) (.inl (.inl upd_same))⟩
  have e : cutV xs lo hi = xs := by
    unfold cutV
    rw [z.1, z.2, List.drop_zero, Nat.sub_zero, List.take_length]
  rw [e]
  exact hx
theorem stk_take {n k : Int} {fss : List (List Int)} (S : StkOk n k fss) (m : Nat) (h : 1 ≤ m) : StkOk n k (fss.take m) := by
  have l1 := S.l1
  have l70 := S.l70
  exact ⟨S.n1, S.n8, S.k0, S.kn, S.k4, by rw [List.length_take]; omega, by rw [List.length_take]; omega, fun f hf => S.len f (List.mem_of_mem_take hf), fun f hf => S.ris f (List.mem_of_mem_take hf), fun f hf => S.bel f (List.mem_of_mem_take hf), S.srt.sublist (List.take_sublist _ _)⟩
theorem ntI_in {ns : List Int} {m : Nat} (hp : ns.Perm (rng m)) {p : Int} (p0 : 0 ≤ p) (pm : p < m) : 0 ≤ ntI ns p ∧ ntI ns p < m := by
  have nl : ns.length = m := by rw [hp.length_eq, rng_len]
  have h : p.toNat < ns.length := by omega
  have e : ntI ns p = ns[p.toNat] := by
    unfold ntI
    rw [List.getD_eq_getElem?_getD, List.getElem?_eq_getElem h]
    rfl
  rw [e]
  exact mem_rng (hp.mem_iff.mp (List.getElem_mem h))
theorem named_stk {m : Nat} {kk : Int} {fss : List (List Int)} {ns : List Int} (S : StkOk m kk fss) (hp : ns.Perm (rng m)) : StkOk m kk (sortL (fss.map (nmF ns))) := by
  have n1 := S.n1
  have n8 := S.n8
  have k4 := S.k4
  have kn := S.kn
  obtain ⟨k, rfl⟩ := Int.eq_ofNat_of_zero_le S.k0
  have hp2 : ns.Perm (rng (m : Int).toNat) := by rw [Int.toNat_natCast]; exact hp
  have F : FacesB m k (fss.map (nmF ns)) := by
    refine ⟨?_, fun g hg => ?_⟩
    · have nd : fss.Nodup := S.srt.imp fun {a b} hab e => by
        rw [e, SrT.lex_irrefl] at hab
        cases hab
      exact List.pairwise_map.mpr (List.Pairwise.imp_of_mem (fun {a b} ha hb hab e => hab (nmF_inj S hp2 ha hb e)) nd)
    · obtain ⟨f, hf, rfl⟩ := List.mem_map.mp hg
      refine ⟨⟨nmF_ri S hp2 hf, fun z hz => ?_⟩, ?_⟩
      · obtain ⟨p, pf, rfl⟩ := mem_nmF.mp hz
        have b := S.bel f hf p pf
        exact ntI_in hp b.1 b.2
      · rw [nmF_len]
        have := S.len f hf
        omega
  have l1 := S.l1
  have l70 := S.l70
  exact F.stk (by omega) (by omega) (by omega) (by omega) (by rw [List.length_map]; exact l1) (by rw [List.length_map]; exact l70)
section
variable {P : Program} {w : World} {K : PySem.W.Frag} {mg : Str → Option Value} {base : Heap} {Ps : Tbs} {H H' H0 : Hp} {k : Nat} {f c : Addr} {fd : FuncData}
def spPlain0 (K : PySem.W.Frag) (Ps : Tbs) : Sp := fun vs H Q _ => ∃ (x : V) (n kk : Int) (fss : List (List Int)), vs = [x] ∧ Stk K H x n kk fss ∧ StkOk n kk fss ∧ Tb Ps H ∧ ∀ v H', Ext Ps H H' → OrdV K H' ((unT fss fss.length).isEmpty || (unP fss fss.length).isEmpty) (rng fss.length) v → Q v H'
theorem ok_plain0 {fT cT fU cU : Addr} {fdT fdU : FuncData} (D : Def K mg "plain_order" sPlain ["stack"] f fd c) (DT : Def K mg "first_untraded" sUnT ["stack"] fT fdT cT) (GT : FnOk P w K mg base CX0 k fT fdT ["stack"] (spUnT K Ps)) (DU : Def K mg "first_unpushed" sUnP ["stack"] fU fdU cU) (GU : FnOk P w K mg base CX0 k fU fdU ["stack"] (spUnP K Ps)) (mt : mg "tuple" = none) (mr : mg "range" = none) (ml : mg "len" = none) : FnOk P w K mg base CX0 (k + 1) f fd ["stack"] (spPlain0 K Ps) := by
  refine D.ok (k := k) scPlain (fun vs H Q E h => ?_) (fun A outer s H vs Q E hr h => ?_)
  · obtain ⟨x, n, kk, fss, rfl, _⟩ := h
    rfl
  · obtain ⟨x, n, kk, fss, rfl, hS, S, ht, q⟩ := h
    refine ⟨_, (pss_cons (ps_if (PW.pt (pw_and (pt_cmpR op_notN (pcl DT GT hr (pa_cons (pv 0) pa_nil)) pe_non (nomark _)) (pw_and1 (pt_cmpR op_notN (pcl DU GU hr (pa_cons (pv 0) pa_nil)) pe_non (nomark _))))) (pss_one (ps_ret pe_non)) pss_nil) (pss_one (ps_ret (pe_tupRg (by rfl) (by rfl) mt (prg_1 (by rfl) mr (pe_callB (call_lenS (K := K) rfl) (by rfl) ml PySem.boot_len (pa_cons (pe_ix (show IxR _ (rIxT K) from ix_tup) (pv 0) pe_int (fun _ _ => rfl)) pa_nil))))))), ?_⟩
    have l70 := S.l70
    have fin : ∀ H1, Ext Ps H H1 → ((unT fss fss.length).isEmpty || (unP fss fss.length).isEmpty) = true → ∃ a fa xs, x = .ref a ∧ SqT K H1 a [.int n, .int kk, .ref fa] ∧ SqT K H1 fa xs ∧ xs.length = fss.length ∧ ∀ l, H1 l = none → Q (.ref l) (upd H1 l (.tup (rgV 0 (fss.length : Int)))) := by
      intro H1 e1 hc
      obtain ⟨a, fa, xs, rfl, h1, h2, h3⟩ := e1.stk hS
      refine ⟨a, fa, xs, rfl, h1, h2, Paired.length h3, fun l nl => q _ _ (e1.trans (Ext.new e1.tb nl)) (.inl ⟨hc, l, rfl, .inl (.inl ?_)⟩)⟩
      rw [upd_same, rng_V]
    refine ⟨x, rfl, x, n, kk, fss, rfl, hS, S, ht, fun v H1 e1 hv => ⟨rfl, !(unT fss fss.length).isEmpty, by rw [head_ne hv], ?_⟩⟩
    refine ite2 (fun hc => ?_) (fun hc => ?_)
    · refine ⟨x, rfl, x, n, kk, fss, rfl, e1.stk hS, S, e1.tb, fun v2 H2 e2 hv2 => ⟨rfl, !(unP fss fss.length).isEmpty, by rw [head_ne hv2], ?_⟩⟩
      refine ite2 (fun hc2 => ?_) (fun hc2 => ?_)
      · refine q _ _ (e1.trans e2) (.inr ⟨?_, rfl⟩)
        simp only [Bool.not_eq_true'] at hc hc2
        rw [hc, hc2]
        rfl
      · have z : (unP fss fss.length).isEmpty = true := by simpa using hc2
        obtain ⟨a, fa, xs, rfl, h1, h2, h3, q2⟩ := fin _ (e1.trans e2) (by rw [z, Bool.or_true])
        refine ⟨.ref a, rfl, a, _, 2, .ref fa, rfl, rfl, h1, at2, fa, xs, rfl, .inr h2, (xs.length : Int), rfl, RgOk.of_le (by omega) (by omega) (by omega) (by omega), fun l nl => ?_⟩
        rw [h3]
        exact q2 l nl
    · have z : (unT fss fss.length).isEmpty = true := by simpa using hc
      obtain ⟨a, fa, xs, rfl, h1, h2, h3, q2⟩ := fin _ e1 (by rw [z, Bool.true_or])
      refine iteF ⟨.ref a, rfl, a, _, 2, .ref fa, rfl, rfl, h1, at2, fa, xs, rfl, .inr h2, (xs.length : Int), rfl, RgOk.of_le (by omega) (by omega) (by omega) (by omega), fun l nl => ?_⟩
      rw [h3]
      exact q2 l nl
def spLPicks : Sp := fun vs H Q _ => ∃ m e : Int, vs = [.int m, .int e] ∧ 0 ≤ m ∧ m ≤ 100 ∧ 0 ≤ e ∧ e ≤ 4 ∧ Q (.int (pk m e.toNat)) H
theorem ok_lpicks (D : Def K mg "_law_picks" sLPicks ["_law_many", "_law_few"] f fd c) (mr : mg "range" = none) : FnOk P w K mg base CX0 (k + 1) f fd ["_law_many", "_law_few"] spLPicks := by
  refine D.ok (k := k) scLPicks (fun vs H Q E h => ?_) (fun A outer s H vs Q E hr h => ?_)
  · obtain ⟨m, e, rfl, _⟩ := h
    rfl
  · obtain ⟨m, e, rfl, m0, m4, e0, e4, q⟩ := h
    refine ⟨_, (pss_cons (ps_set (i := 2) scLPicks.nd rfl (.inl rfl) pe_int) (pss_cons (ps_for PassesOwn.never rfl (pi_range1 (by rfl) mr (pa_cons (pv 1) pa_nil)) (pg_name (i := 3) scLPicks.nd rfl (.inl rfl)) (pss_one (ps_set (i := 2) scLPicks.nd rfl (.inl rfl) (pe_op op_fdiv (pe_op op_mul (pv 2) (pe_op op_sub (pv 0) (pv 3))) (pe_op op_add (pv 3) pe_int))))) (pss_one (ps_ret (pv 2))))), ?_⟩
    refine ⟨.int e, rfl, e, rfl, by omega, by omega, for_range (lo := 0) (n := e.toNat) (fun i σ H3 => H3 = H ∧ ∃ y : Option V, σ = [some (.int m), some (.int e), some (.int (pk m i)), y]) ⟨rfl, none, rfl⟩ (fun i σ H3 hi p => ?_) (fun σ H3 p => ?_)⟩
    · obtain ⟨rfl, y, rfl⟩ := p
      refine ⟨_, rfl, _, rfl, _, rfl, _, _, rfl, rfl, _, _, rfl, rfl, .inr ⟨by omega, by omega⟩, _, rfl, _, _, rfl, rfl, _, _, rfl, rfl, ⟨by omega, by omega⟩, rfl, some (.int (0 + (i : Nat))), ?_⟩
      have e1 : (0 : Int) + (i : Nat) = (i : Nat) := by omega
      rw [pk, e1]
      rfl
    · obtain ⟨rfl, y, rfl⟩ := p
      exact ⟨_, rfl, q⟩
end
end Lf

set_option maxHeartbeats 1000000
/-! a call of what an expression tells: one of some defs -/
namespace Lf
open PySem PySem.Spec PyProof.Rows L2 GxR GxA SrT
def tCallV (Fn : Addr → Sp → Prop) (E : XK) (t0 : TE) (t : TA) : TE := fun σ H Q => t0 σ H fun v H1 => ∃ f sp, v = .ref f ∧ Fn f sp ∧ t σ H1 fun vs H2 => sp vs H2 Q E
theorem pe_callV {X : Cx} {Fn : Addr → Sp → Prop} {CX : CXT} {e0 e : Expr} {es : List Expr} {t0 : TE} {t : TA} {E : XK} {pos : Pos} (hF : ∀ f sp, Fn f sp → ∃ k fd ps, FnOk X.prog X.w X.K X.mg X.base CX k f fd ps sp ∧ Room k X.A ∧ PySem.W.keepIn X.K (.ref f) = true ∧ Binds X.K fd ps [])
    (hx : Passes CX X E) (h0 : PE X e0 t0) (ha : PA X (e :: es) t)
    (hev : eval (.Call e0 (e :: es) [] pos) X.env = (do callWith pos (← eval e0 X.env) [] (backTo pos (starEach (e :: es) X.env)) (backToKw pos (keywordEach [] X.env))) := by rfl)
    (he : starEach (e :: es) X.env = (false, eval e X.env) :: starEach es X.env := by rfl) (hpl : (backTo pos (starEach es X.env)).any (·.1) = false := by rfl) :
    PE X (.Call e0 (e :: es) [] pos) (tCallV Fn E t0 t) := by
  refine ⟨fun pins s σ H Q I h => ?_⟩
  rw [hev]
  refine wpAny_bind (thn (h0.run pins s σ H _ I h) fun u s1 ⟨x, H1, I1, rx, f, sp, ex, hf, q⟩ => ?_)
  subst ex
  obtain rfl : u = Value.ref f := rx
  obtain ⟨k, fd, ps, F, hr, hk, hb⟩ := hF f sp hf
  refine PySem.W.callWith_K (h₀ := X.base) I.ok.mod.kin hk (thn (ha.run pos pins s1 σ H1 _ I1 q) fun us s2 ⟨vs, H2, I2, r, q2⟩ => ⟨I2.kIn, ?_⟩) he hpl
  exact run_fn F hr hb .nil hx I2 r (by rw [List.append_nil]; exact q2)
end Lf

set_option maxHeartbeats 4000000
namespace Lf
open PySem PySem.Spec PyProof.Rows L2 GxR GxA SrT EnT
abbrev sSortK : Stmt := topS 68
theorem scSortK : FnScope ["_law_pen_here", "_law_way", "_law_spare", "_law_n", "_law_k", "_law_faces", "_law_stack_here", "_law_face"] ["_law_pen_here"] (defScope sSortK) := ⟨rfl, rfl, rfl, by decide +kernel, rfl, by decide +kernel, by decide +kernel⟩
theorem StkOk.facesB {n k : Int} {fss : List (List Int)} (S : StkOk n k fss) : FacesB n.toNat k.toNat fss := by
  have n1 := S.n1
  refine ⟨lex_nd S.srt, fun g hg => ⟨⟨S.ris g hg, fun i hi => ?_⟩, ?_⟩⟩
  · have := S.bel g hg i hi
    omega
  · have := S.len g hg
    omega
theorem FacesB.erase {n k : Nat} {df : List (List Int)} (F : FacesB n k df) (i : Nat) : FacesB n k (df.eraseIdx i) := ⟨F.nd.sublist (List.eraseIdx_sublist _ _), fun g hg => F.ris g ((List.eraseIdx_sublist _ _).subset hg)⟩
theorem FacesB.filt {n k : Nat} {df : List (List Int)} (F : FacesB n k df) (p : List Int → Bool) : FacesB n k (df.filter p) := ⟨F.nd.filter _, fun g hg => F.ris g (List.mem_filter.mp hg).1⟩
def unlike (g : List Int) : Bool := !decide (g.getD 0 0 % 3 = g.getD 1 0 % 3)
theorem unlike_pos {n : Nat} (h : 3 ≤ n) : 1 ≤ ((everyL n 2).filter unlike).length := by
  refine List.length_pos_of_mem (a := [0, 1]) (List.mem_filter.mpr ⟨mem_everyL.mpr ⟨?_, rfl⟩, by decide⟩)
  have e : rng n = [0, 1] ++ (List.range' 2 (n - 2)).map fun i : Nat => (i : Int) := by
    unfold rng
    have e2 : List.range n = [0, 1] ++ List.range' 2 (n - 2) := by
      rw [List.range_eq_range']
      have : n = 2 + (n - 2) := by omega
      conv => lhs; rw [this]
      rw [← List.range'_append_1]
      rfl
    rw [e2, List.map_append]
    rfl
  rw [e]
  exact List.sublist_append_left _ _
section
variable {P : Program} {w : World} {K : PySem.W.Frag} {mg : Str → Option Value} {base : Heap} {Ps : Tbs} {H H' H0 : Hp} {k : Nat} {f c : Addr} {fd : FuncData}
variable {C : Nat → Addr} {CY CS : Addr}
def spSortK (K : PySem.W.Frag) (Ps : Tbs) : Sp := fun vs H Q _ => ∃ (a : Addr), vs = [.ref a] ∧ Pen H a ∧ Tb Ps H ∧ ∀ (v : V) (n kk : Int) (fss : List (List Int)) (H' : Hp), Epn Ps a H H' → Stk K H' v n kk fss → StkOk n kk fss → Q v H'
/-- the faces that are to be made a stack of -/
structure Fcs (K : PySem.W.Frag) (H0 H : Hp) (n kk : Nat) (l : Addr) : Prop where
  n1 : 1 ≤ n
  n8 : n ≤ 8
  kn : kk ≤ n
  k4 : kk ≤ 4
  fr : H0 l = none
  at_ : ∃ ys df, H l = some (.lst ys) ∧ Paired (TupI K H) ys df ∧ FacesB n kk df ∧ 1 ≤ df.length ∧ df.length ≤ 70
theorem ok_sortK {fD cD fE cE fZ cZ fP cP fY cY fT cT fM cM : Addr} {fdD fdE fdZ fdP fdY fdT fdM : FuncData} (D : Def K mg "_law_sorted_kind" sSortK ["_law_pen_here"] f fd c) (DD : Def K mg "_law_draw" sDraw ["_law_pen_here", "_law_many"] fD fdD cD) (GD : FnOk P w K mg base CX0 (k) fD fdD ["_law_pen_here", "_law_many"] spDraw) (DE : Def K mg "_law_every" sEveryL ["_law_n", "_law_k"] fE fdE cE) (GE : FnOk P w K mg base CX0 (k) fE fdE ["_law_n", "_law_k"] (spEveryK K Ps)) (DZ : Def K mg "_law_size" sSize ["_law_pen_here"] fZ fdZ cZ) (GZ : FnOk P w K mg base CX0 (k) fZ fdZ ["_law_pen_here"] (spSize K Ps)) (DP : Def K mg "_law_pushed" sPushed ["_law_pen_here", "_law_n", "_law_k"] fP fdP cP) (GP : FnOk P w K mg base CX0 (k) fP fdP ["_law_pen_here", "_law_n", "_law_k"] (spPushed K Ps)) (DY : Def K mg "_law_kindly" sKindly ["_law_pen_here", "_law_most"] fY fdY cY) (GY : FnOk P w K mg base CX0 (k) fY fdY ["_law_pen_here", "_law_most"] (spStackN K Ps)) (DT : Def K mg "_law_stack" sStackN ["_law_pen_here", "_law_most"] fT fdT cT) (GT : FnOk P w K mg base CX0 (k) fT fdT ["_law_pen_here", "_law_most"] (spStackN K Ps)) (DM : Def K mg "_law_made" sMade ["_law_n", "_law_k", "_law_faces"] fM fdM cM) (GM : FnOk P w K mg base CX0 (k) fM fdM ["_law_n", "_law_k", "_law_faces"] (spMade K Ps)) (ml : mg "len" = none) (mL : mg "list" = none) : FnOk P w K mg base CX0 (k + 1) f fd ["_law_pen_here"] (spSortK K Ps) := by
  refine D.ok (k := k) scSortK (fun vs H Q E h => ?_) (fun A outer s H vs Q E hr h => ?_)
  · obtain ⟨a, rfl, _⟩ := h
    rfl
  · obtain ⟨a, rfl, hP, ht, q⟩ := h
    refine ⟨_, (pss_cons (ps_par (i := 1) (j := 2) (by rfl) scSortK.nd rfl rfl (by decide) rfl rfl (pa_cons (pcl DD GD hr (pa_cons (pv 0) (pa_cons pe_int pa_nil))) (pa_cons (pcl DD GD hr (pa_cons (pv 0) (pa_cons pe_int pa_nil))) pa_nil)) (by rfl)) (pss_cons (ps_asg (pcl DZ GZ hr (pa_cons (pv 0) pa_nil)) (pg_tup (by rfl) (pgs_cons (pg_name (i := 3) scSortK.nd rfl (.inl rfl)) (pgs_cons (pg_name (i := 4) scSortK.nd rfl (.inl rfl)) pgs_nil)))) (pss_cons (ps_set (i := 5) scSortK.nd rfl (.inl rfl) (pcl DP GP hr (pa_cons (pv 0) (pa_cons (pv 3) (pa_cons (pv 4) pa_nil))))) (pss_cons (ps_if (pt_cmpR op_lt (pv 1) pe_int (nomark _)) (pss_cons (ps_set (i := 6) scSortK.nd rfl (.inl rfl) (pcl DY GY hr (pa_cons (pv 0) (pa_cons pe_int pa_nil)))) (pss_one (ps_par3 (i := 5) (j := 3) (l := 4) (by rfl) scSortK.nd rfl rfl rfl (by decide) (by decide) (by decide) rfl rfl rfl (pa_cons (pe_callTy call_list_of (by rfl) mL (by decide +kernel) (pa_cons (pe_ix (show IxR _ (rIxT K) from ix_tup) (pv 6) pe_int (fun _ _ => rfl)) pa_nil)) (pa_cons (pe_ix (show IxR _ (rIxT K) from ix_tup) (pv 6) pe_int (fun _ _ => rfl)) (pa_cons (pe_ix (show IxR _ (rIxT K) from ix_tup) (pv 6) pe_int (fun _ _ => rfl)) pa_nil))) (by rfl)))) pss_nil) (pss_cons (ps_if (pt_cmpR op_eq (pv 1) pe_int (nomark _)) (pss_cons (ps_par (i := 3) (j := 4) (by rfl) scSortK.nd rfl rfl (by decide) rfl rfl (pa_cons (pe_op op_add pe_int (pe_op op_mod (pv 2) pe_int)) (pa_cons pe_int pa_nil)) (by rfl)) (pss_one (ps_setLc (i := 5) (own := [("_law_face", 7)]) (g := gName 7) (by rfl) scSortK.nd rfl rfl (by rfl) (pi_list (pcl DE GE hr (pa_cons (pv 3) (pa_cons (pv 4) pa_nil)))) (blkOk_by (N := ["_law_pen_here", "_law_way", "_law_spare", "_law_n", "_law_k", "_law_faces", "_law_stack_here", "_law_face"]) (sc := defScope sSortK) (by decide +kernel)) (fun _ _ _ _ _ => pg_name (i := 7) scSortK.nd rfl (Or.inl rfl)) (fun _ _ _ _ _ => pts_one (pt_cmpR op_ne (pe_op op_mod (show PE _ _ (tOp (rIxT K) _ _) from pe_ix ix_tup (pv 7) pe_int (fun _ _ => rfl)) pe_int) (pe_op op_mod (show PE _ _ (tOp (rIxT K) _ _) from pe_ix ix_tup (pv 7) pe_int (fun _ _ => rfl)) pe_int) (by with_unfolding_all rfl))) (fun _ _ _ _ _ => (pv 7))))) pss_nil) (pss_cons (ps_if (pt_cmpR op_eq (pv 1) pe_int (nomark _)) (pss_one (ps_ret (pcl DT GT hr (pa_cons (pv 0) (pa_cons pe_int pa_nil))))) pss_nil) (pss_cons (ps_if (PW.pt (pw_and (pt_cmpR op_eq (pe_op op_mod (pv 1) pe_int) pe_int (nomark _)) (pw_and1 (pt_cmpR op_gt (pe_callB (call_lenS (K := K) rfl) (by rfl) ml PySem.boot_len (pa_cons (pv 5) pa_nil)) pe_int (nomark _))))) (pss_one (ps_expr (show PE _ _ (tBM K "list" rPopAt _ _) from pe_bm PySem.F.plainAttrs_list PySem.F.slot_list_pop PySem.F.type_list_pop mt_popAt (pv 5) (pa_cons (pe_op op_mod (pv 2) (pe_callB (call_lenS (K := K) rfl) (by rfl) ml PySem.boot_len (pa_cons (pv 5) pa_nil))) pa_nil)))) pss_nil) (pss_one (ps_ret (pcl DM GM hr (pa_cons (pv 3) (pa_cons (pv 4) (pa_cons (pv 5) pa_nil))))))))))))), ?_⟩
    have npn : ∀ {HX : Hp}, Pen HX a → ∀ b, HX b = none → b ≠ a := fun {HX} hp b hb z => by
      obtain ⟨u, v, e⟩ := hp
      rw [z, e] at hb
      cases hb
    refine tseq_intro fun R hR => ?_
    refine ⟨.ref a, rfl, a, 6, rfl, hP, by decide, by decide, fun u1 f1 wy0 w0 w6 => ?_⟩
    have e1 : Epn Ps a H (upd H a (.lst [.int u1, .int f1])) := Epn.draw ht hP
    generalize upd H a (.lst [.int u1, .int f1]) = H1 at *
    refine ⟨.ref a, rfl, a, 997, rfl, e1.pen, by decide, by decide, fun u2 f2 sp s0 s1 => ?_⟩
    have e2 : Epn Ps a H1 (upd H1 a (.lst [.int u2, .int f2])) := Epn.draw e1.tb e1.pen
    have E2 := e1.trans e2
    generalize upd H1 a (.lst [.int u2, .int f2]) = H2 at *
    obtain ⟨wy, rfl⟩ := Int.eq_ofNat_of_zero_le w0
    refine ⟨.int wy, .int sp, rfl, ?_⟩
    show R [some (.ref a), some (.int wy), some (.int sp), none, none, none, none, none] H2
    rw [hR]
    clear hR
    refine tseq_intro fun R hR => ?_
    refine ⟨.ref a, rfl, a, rfl, E2.pen, E2.tb, fun t n kk H3 e3 hT n1 n8 hkn hk4 => ?_⟩
    refine ⟨t, _, rfl, hT, rfl, _, _, rfl, _, _, rfl, rfl, ?_⟩
    have E3 := E2.trans e3
    show R [some (.ref a), some (.int wy), some (.int sp), some (.int n), some (.int kk), none, none, none] H3
    rw [hR]
    clear hR
    refine tseq_intro fun R hR => ?_
    refine ⟨.ref a, rfl, .int n, rfl, .int kk, rfl, a, n, kk, rfl, E3.pen, n8, hkn, hk4, E3.tb, fun l ys df H4 e4 nl hl hp nd hm d1 d70 => ?_⟩
    have E4 := E3.trans e4
    show R [some (.ref a), some (.int wy), some (.int sp), some (.int n), some (.int kk), some (.ref l), none, none] H4
    rw [hR]
    clear hR
    have F4 : Fcs K H H4 n kk l := ⟨n1, n8, hkn, hk4, E3.free nl, ys, df, hl, hp, FacesB.every nd hm, d1, d70⟩
    clear nl hl hp nd hm d1 d70 ys df
    -- the end
    refine tseq_intro fun R hR => ?_
    have c4 : ∀ (HX : Hp) (n kk : Nat) (l : Addr) (y6 : Option V), Epn Ps a H HX → Fcs K H HX n kk l → R [some (.ref a), some (.int wy), some (.int sp), some (.int n), some (.int kk), some (.ref l), y6, none] HX := by
      intro HX n kk l y6 EX FX
      rw [hR]
      refine tseq_intro fun R hR => ?_
      have c5 : ∀ (HX : Hp) (n kk : Nat) (l : Addr) (y7 : Option V), Epn Ps a H HX → Fcs K H HX n kk l → R [some (.ref a), some (.int wy), some (.int sp), some (.int n), some (.int kk), some (.ref l), y6, y7] HX := by
        intro HX n kk l y7 EX FX
        rw [hR]
        refine tseq_intro fun R hR => ?_
        refine ⟨.int wy, rfl, rfl, decide (wy = 3), congrArg V.bl (decide_eq_decide.mpr ⟨fun z => by injection z with z; omega, fun z => by rw [z]; rfl⟩), ?_⟩
        by_cases w3 : wy = 3
        · rw [decide_eq_true w3]
          refine iteT ⟨.ref a, rfl, a, 12, rfl, EX.pen, by decide, by decide, EX.tb, fun v n' k' fss HY eY hv S _ => q v n' k' fss HY (EX.trans eY) hv S⟩
        · rw [decide_eq_false w3]
          refine iteF ?_
          show R [some (.ref a), some (.int wy), some (.int sp), some (.int n), some (.int kk), some (.ref l), y6, y7] HX
          rw [hR]
          refine tseq_intro fun R hR => ?_
          have c7 : ∀ (HX : Hp), Epn Ps a H HX → Fcs K H HX n kk l → R [some (.ref a), some (.int wy), some (.int sp), some (.int n), some (.int kk), some (.ref l), y6, y7] HX := by
            intro HX EX FX
            rw [hR]
            obtain ⟨ys, df, hl, hp, F, d1, d70⟩ := FX.at_
            refine ⟨.int n, rfl, .int kk, rfl, .ref l, rfl, n, kk, l, ys, df, rfl, .inl (.inl hl), hp, EX.tb, fun v HY eY hv => ?_⟩
            exact q v _ _ _ HY (EX.trans (eY.epn EX.pen)) hv (F.stk FX.n1 FX.n8 FX.kn FX.k4 d1 d70)
          refine ⟨.int wy, rfl, wy, 2, rfl, rfl, (by show (0 : Int) < 2; decide), rfl, decide ((wy : Int) % 2 = 1), congrArg V.bl (decide_eq_decide.mpr ⟨fun z => by injection z, fun z => by show V.int ((wy : Int) % 2) = V.int 1; rw [z]⟩), ?_⟩
          refine ite2 (fun hc => ?_) (fun hc => iteF (c7 _ EX FX))
          obtain ⟨ys, df, hl, hp, F, d1, d70⟩ := FX.at_
          have hyl := Paired.length hp
          refine ⟨.ref l, rfl, l, ys, rfl, .inl (.inl (.inl hl)), _, 1, rfl, rfl, decide (1 < ys.length), congrArg V.bl (decide_eq_decide.mpr ⟨fun z => by omega, fun z => by omega⟩), ?_⟩
          refine ite2 (fun hc2 => ?_) (fun hc2 => c7 _ EX FX)
          have h2 : 1 < ys.length := of_decide_eq_true hc2
          have hm : sp % (ys.length : Int) < (ys.length : Int) := Int.emod_lt_of_pos _ (by omega)
          have hm0 : 0 ≤ sp % (ys.length : Int) := Int.emod_nonneg _ (by omega)
          obtain ⟨o, ho⟩ := Int.eq_ofNat_of_zero_le hm0
          have hol : o < ys.length := by omega
          refine ⟨.ref l, rfl, .inl ⟨rfl, _, .inl (.inl hl)⟩, .int sp, rfl, .ref l, rfl, l, ys, rfl, .inl (.inl (.inl hl)), sp, _, rfl, rfl, (by show (0 : Int) < (ys.length : Int); omega), l, ys, (o : Int), o, ys[o], rfl, by show [V.int (sp % (ys.length : Int))] = [V.int (o : Int)]; rw [ho], hl, by omega, by omega, seqIx hol, List.getElem?_eq_getElem hol, ?_⟩
          refine c7 _ (EX.write FX.fr hl (fun q z => by cases z)) ⟨FX.n1, FX.n8, FX.kn, FX.k4, FX.fr, ys.eraseIdx o, df.eraseIdx o, upd_same, tups_put hl (paired_erase o hp), F.erase o, ?_, ?_⟩
          · rw [List.length_eraseIdx_of_lt (by omega)]
            omega
          · rw [List.length_eraseIdx_of_lt (by omega)]
            omega
      refine ⟨.int wy, rfl, rfl, decide (wy = 2), congrArg V.bl (decide_eq_decide.mpr ⟨fun z => by injection z with z; omega, fun z => by rw [z]; rfl⟩), ?_⟩
      by_cases w2 : wy = 2
      · rw [decide_eq_true w2]
        refine iteT ?_
        refine tseq_intro fun R2 hR2 => ?_
        refine ⟨.int sp, rfl, sp, 4, rfl, rfl, (by show (0 : Int) < 4; decide), 3, sp % 4, rfl, rfl, .int (3 + sp % 4), .int 2, rfl, ?_⟩
        have hn : (((3 + sp % 4).toNat : Nat) : Int) = 3 + sp % 4 := Int.toNat_of_nonneg (by omega)
        rw [← hn]
        have hb : 3 ≤ (3 + sp % 4).toNat ∧ (3 + sp % 4).toNat ≤ 6 := by omega
        generalize (3 + sp % 4).toNat = m at *
        show R2 [some (.ref a), some (.int wy), some (.int sp), some (.int (m : Nat)), some (.int (2 : Nat)), some (.ref l), y6, none] HX
        rw [hR2]
        clear hR2
        refine ⟨.int (m : Nat), rfl, .int (2 : Nat), rfl, m, 2, rfl, by omega, by decide, EX.tb, fun L ls HY eY nL hL hls => ?_⟩
        have l70 := everyL_70 (n := m) (k := 2) (by omega) (by decide)
        have lenL := Paired.length hls
        refine ⟨L, rfl, ⟨_, .inl (.inl hL)⟩, fun D0 hD => lc_list (K := K) (a := L) (xs := ls) (fun i HZ => CP Ps (TupI K) HY D0 (((everyL m 2).take i).filter unlike) i HZ) (CP.start eY.tb hD) (fun i HZ _ p => p.ext.sqL (.inl (.inl hL))) (fun i u HZ hu p => ?_) (fun HZ p => ?_)⟩
        · obtain ⟨g, hg, hI⟩ := paired_get hls hu
          obtain ⟨tg, rfl, hTg⟩ := id hI
          have hge := mem_everyL.mp (List.mem_of_getElem? hg)
          have hi : i < ls.length := (List.getElem?_eq_some_iff.mp hu).1
          have at_ : ∀ j, j < 2 → (g.map V.int)[j]? = some (.int (g.getD j 0)) := fun j hj => by
            rw [List.getElem?_map, List.getD_eq_getElem?_getD, List.getElem?_eq_getElem (by omega)]
            rfl
          have ef := filt_take unlike hg
          refine ⟨rfl, .ref tg, rfl, tg, _, 0, .int (g.getD 0 0), rfl, rfl, p.ext.sqT hTg, atI_nat (j := 0) (at_ 0 (by decide)), _, 3, rfl, rfl, (by show (0 : Int) < 3; decide), .ref tg, rfl, tg, _, 1, .int (g.getD 1 0), rfl, rfl, p.ext.sqT hTg, atI_nat (j := 1) (at_ 1 (by decide)), _, 3, rfl, rfl, (by show (0 : Int) < 3; decide), rfl, unlike g, ?_, ?_⟩
          · show V.bl (!decide (V.int (g.getD 0 0 % 3) = V.int (g.getD 1 0 % 3))) = V.bl (unlike g)
            unfold unlike
            congr 2
            exact decide_eq_decide.mpr ⟨fun z => by injection z, fun z => by rw [z]⟩
          refine ite2 (fun hc => ?_) (fun hc => ?_)
          · rw [if_pos hc] at ef
            refine ⟨.ref tg, rfl, ?_⟩
            have r := CP.put (stbT (K := K)) hD (by omega) p (p.ext.tupI hI)
            rw [ef]
            exact r
          · rw [if_neg hc, List.append_nil] at ef
            rw [ef]
            exact p.mono (Nat.le_succ i)
        · obtain ⟨zs, g1, g2, g3⟩ := p.at_
          rw [lenL, List.take_length] at g2
          have EY := EX.trans (eY.epn EX.pen)
          refine c5 HZ m 2 D0 none (EY.trans (p.ext.epn EY.pen)) ⟨by omega, by omega, by omega, by decide, EY.free hD, zs, _, g1, g2, (FacesB.every (nodup_everyL m 2) fun g hg => hg).filt _, unlike_pos hb.1, Nat.le_trans (List.length_filter_le _ _) l70⟩
      · rw [decide_eq_false w2]
        exact iteF (c5 _ _ _ _ _ EX FX)
    refine ⟨.int wy, rfl, wy, 2, rfl, rfl, decide (wy < 2), congrArg V.bl (decide_eq_decide.mpr ⟨fun z => by omega, fun z => by omega⟩), ?_⟩
    refine ite2 (fun hc => ?_) (fun hc => c4 _ _ _ _ _ E4 F4)
    refine tseq_intro fun R2 hR2 => ?_
    refine ⟨.ref a, rfl, a, 70, rfl, E4.pen, by decide, by decide, E4.tb, fun v n' k' fss H5 e5 hv S l70 => ?_⟩
    show R2 [some (.ref a), some (.int wy), some (.int sp), some (.int n), some (.int kk), some (.ref l), some v, none] H5
    rw [hR2]
    clear hR2
    obtain ⟨sa, fa, xs, rfl, h1, h2, h3⟩ := id hv
    refine ⟨.ref sa, rfl, sa, _, 2, .ref fa, rfl, rfl, h1, at2, fa, xs, rfl, .inr h2, fun L nL => ?_⟩
    have E5 := E4.trans e5
    have x6 := Ext.new (o := .lst xs) E5.tb nL
    refine ⟨.ref sa, rfl, sa, _, 0, .int n', rfl, rfl, x6.sqT h1, atI_nat (j := 0) rfl, .ref sa, rfl, sa, _, 1, .int k', rfl, rfl, x6.sqT h1, atI_nat (j := 1) rfl, .ref L, .int n', .int k', rfl, ?_⟩
    have hn : ((n'.toNat : Nat) : Int) = n' := Int.toNat_of_nonneg (by have := S.n1; omega)
    have hk : ((k'.toNat : Nat) : Int) = k' := Int.toNat_of_nonneg S.k0
    have z := c4 (upd H5 L (.lst xs)) n'.toNat k'.toNat L (some (.ref sa)) (E5.trans (x6.epn E5.pen)) ⟨by have := S.n1; omega, by have := S.n8; omega, by have := S.kn; omega, by have := S.k4; omega, E5.free nL, xs, fss, upd_same, x6.tups h3, S.facesB, S.l1, S.l70⟩
    rw [hn, hk] at z
    exact z
end
end Lf

set_option maxHeartbeats 1000000
/-! defs whose promise holds where nothing is being shown (repr) -/
namespace Lf
open PySem PySem.Spec PyProof.Rows L2 GxR GxA SrT
/-- as FnOk, where no repr runs around -/
structure FnG (P : Program) (w : World) (K : PySem.W.Frag) (mg : Str → Option Value) (base : Heap) (CX : CXT) (k : Nat) (f : Addr) (fd : FuncData) (ps : List Str) (sp : Sp) : Prop where
  len : ∀ vs H Q E, sp vs H Q E → vs.length = ps.length
  run : ∀ (A : Around) (outer : List Env) (s : Shared) (H : Hp) (args : Args) (us : List Value) (vs : List V) (Q : VK) (E : XK), A.guards = some [] → Room k A → Env0 P w K mg base A outer s H → BindsTo s fd args (ps.zip us) → Vals vs us → sp vs H Q E →
    codeAny (model P w) A (.call (.ref f) args) (CR CX outer P w H s Q E) s
section
variable {P : Program} {w : World} {K : PySem.W.Frag} {mg : Str → Option Value} {base : Heap} {f c : Addr} {fd : FuncData} {ps N : List Str} {k j : Nat} {sp : Sp}
theorem FnG.mono {CX : CXT} (F : FnG P w K mg base CX j f fd ps sp) (h : j ≤ k) : FnG P w K mg base CX k f fd ps sp := ⟨F.len, fun A outer s H args us vs Q E hg hr => F.run A outer s H args us vs Q E hg (hr.mono h)⟩
theorem Def.okG {x : Str} {st : Stmt} (D : Def K mg x st ps f fd c) (S : FnScope N ps (defScope st)) (len : ∀ vs H Q E, sp vs H Q E → vs.length = ps.length)
    (hbody : ∀ (A : Around) (outer : List Env) (s : Shared) (H : Hp) (vs : List V) (Q : VK) (E : XK), A.guards = some [] → Room k (A.deeper (envOfC x (defScope st) s.heap.objs.size f (.ref c))) → sp vs H Q E →
      ∃ t, PSs (cxOf CX0 P w K mg base N x (defScope st) f (.ref c) A outer s H E).nox (defBody st) t ∧ t { nx := fun _ H' => Q .non H', rt := Q } (start N vs) H) : FnG P w K mg base CX0 (k + 1) f fd ps sp := by
  obtain ⟨oc, od, kV, doc, pm, an, ct, osl, rfl, lk, hcd⟩ := D.F.ex
  refine ⟨len, fun A outer s H args us vs Q E hg hr e0 hb r hsp => ?_⟩
  refine LamX.run_ofS lk hcd S hr e0 hb r (len _ _ _ _ hsp) fun hr' => ?_
  obtain ⟨t, h, q⟩ := hbody A outer s H vs Q E hg hr' hsp
  exact ⟨t, h.nox, q⟩
end
/-- a call of such a def -/
theorem pclG {X : Cx} {x : Str} {st : Stmt} {ps : List Str} {f c : Addr} {fd : FuncData} {k : Nat} {sp : Sp} {e : Expr} {es : List Expr} {t : TA} {p pos : Pos} (D : Def X.K X.mg x st ps f fd c) (G : FnG X.prog X.w X.K X.mg X.base CX0 k f fd ps sp) (gd : X.A.guards = some []) (hr : Room k X.A) (ha : PA X (e :: es) t)
    (hg : Gl X x := by rfl) (hdb : (x == ("__debug__" : Str)) = false := by decide) (he : starEach (e :: es) X.env = (false, eval e X.env) :: starEach es X.env := by rfl) (hpl : (backTo pos (starEach es X.env)).any (·.1) = false := by rfl) :
    PE X (.Call (.Name x p) (e :: es) [] pos) (tCall sp [] E0 t) := by
  refine ⟨fun pins s0 σ H0 Q I0 h => ?_⟩
  refine wpAny_Call_Name_kw (ld_glob I0 hg D.g ?_ hdb)
  refine PySem.W.callWith_K (h₀ := X.base) I0.ok.mod.kin D.F.kp (thn (ha.run pos pins s0 σ H0 _ I0 h) fun us s hh => ?_) he hpl
  obtain ⟨vs, H, I, rv, q⟩ := hh
  rw [List.append_nil] at q
  have bd := D.b s us I.kIn (by rw [List.append_nil, ← rv.length]; exact G.len _ _ _ _ q)
  rw [List.append_nil] at bd
  refine ⟨I.kIn, wpAny_call (codeAny_mono (G.run X.A X.stack s H ⟨us, []⟩ us vs Q E0 gd hr I.env0 bd rv q) fun r s2 hq => ?_)⟩
  match r, hq with
  | .ok (.ret u), hq => exact I.after hq
  | .error e2, hq => exact False.elim hq
/-! ### the end, for such a law -/
section
variable {K : PySem.W.Frag} {ts : List Addr} {a : Addr} {oa : Obj} {xs : List V}
/-- the abstract heap at the law's call: the tables, and the script where it isn't written -/
def H0of (K : PySem.W.Frag) (ts : List Addr) (a : Addr) (oa : Obj) (xs : List V) : Hp := fun b => if b ∈ ts then some (.tbl #[]) else if b = a ∧ K.lookup a = none then some (.frz oa (.lst xs)) else none
theorem h0_tab {b : Addr} (h : b ∈ ts) : H0of K ts a oa xs b = some (.tbl #[]) := if_pos h
theorem h0_scr (h : a ∉ ts) (hk : K.lookup a = none) : H0of K ts a oa xs a = some (.frz oa (.lst xs)) := (if_neg h).trans (if_pos ⟨rfl, hk⟩)
theorem h0_some {b : Addr} {u : HO} (h : H0of K ts a oa xs b = some u) : (b ∈ ts ∧ u = .tbl #[]) ∨ (b ∉ ts ∧ b = a ∧ K.lookup a = none ∧ u = .frz oa (.lst xs)) := by
  unfold H0of at h
  split at h
  · rename_i hb
    exact .inl ⟨hb, (Option.some.inj h).symm⟩
  · rename_i hb
    split at h
    · rename_i hc
      exact .inr ⟨hb, hc.1, hc.2, (Option.some.inj h).symm⟩
    · cases h
theorem h0_none {b : Addr} (h1 : b ∉ ts) (h2 : b = a → K.lookup a ≠ none) : H0of K ts a oa xs b = none := (if_neg h1).trans (if_neg fun z => h2 z.1 z.2)
end
theorem law_callG {P : Program} {w : World} {K : PySem.W.Frag} {mg mb : Str → Option Value} {CX : CXT} {k : Nat} {fa a : Addr} {cs : List (Addr × Addr)} {fd : FuncData} {x : Str} {sp : Sp} {s : Shared} {vs : List Value} {ns : List Int}
    (KX : K.In s.heap) (hns : s.heap.Ns mainGlobals mg) (hb : s.heap.Ns builtinsNs mb) (hbb : ∀ y : Str, y ≠ "__name__" → mb y = bootBuiltins y) (hlim : s.heap.NoLimit) (hg : s.gens = #[]) (hT : ∀ p ∈ cs, s.heap.get? p.2 = some { cls := .none, data := .fields #[] }) (nT : ∀ p ∈ cs, K.lookup p.2 = none) (C : ∀ p ∈ cs, PySem.W.CodeHd s.heap p.1 p.2)
    (hbm : ∃ (bm : Addr) (ob : Obj), mg "__builtins__" = some (.ref bm) ∧ bm ≠ builtinsNs ∧ s.heap.get? bm = some ob ∧ ob.cls = .type "module" ∧ ob.dict = some builtinsNs ∧ ob.data = .plain) (ha : s.heap.get? a = some { cls := .type "list", data := .seq vs.toArray }) (hi : IntsAre vs ns) (hl : ns.length ≤ sizeLine) (hr : Room k callerA)
    (F : ∀ base : Heap, K.In base → base.Ns mainGlobals mg → (∀ p ∈ cs, LamX.TabB base mg p.1 p.2) → FnG P w K mg base CX k fa fd [x] sp) (hbind : ∀ (t : Shared) (u : Value), BindsTo t fd ⟨[u], []⟩ [(x, u)])
    (hsp : ∀ H : Hp, (∀ p ∈ cs, H p.2 = some (.tbl #[])) → SqL K H a (ns.map V.int) → sp [.ref a] H (fun v _ => v = .bl true) fun _ _ _ => False) (hCX : ∀ H e s', CX [] H s (fun _ _ _ => False) e s' → False) :
    codeAny (model P w) callerA (.call (.ref fa) ⟨[.ref a], []⟩) (fun r s' => r = .ok (.ret (.bool true)) ∧ OldK s.heap s'.heap ∧ s'.os = s.os ∧ AllBare s'.gens) s := by
  have rv := vals_ints hi
  have lv := hi.length
  have inT : ∀ {b : Addr}, b ∈ cs.map (·.2) → ∃ p ∈ cs, p.2 = b := fun h => List.mem_map.mp h
  have tabO : ∀ {b : Addr}, b ∈ cs.map (·.2) → s.heap.get? b = some { cls := .none, data := .fields #[] } := fun h => by
    obtain ⟨p, hp, rfl⟩ := inT h
    exact hT p hp
  have aT : a ∉ cs.map (·.2) := fun h => by
    have z := ha.symm.trans (tabO h)
    cases Option.some.inj z
  let H := H0of K (cs.map (·.2)) a { cls := .type "list", data := .seq vs.toArray } (ns.map V.int)
  have hH : ∀ p ∈ cs, H p.2 = some (.tbl #[]) := fun p hp => h0_tab (List.mem_map.mpr ⟨p, hp, rfl⟩)
  have hS : SqL K H a (ns.map V.int) := by
    cases hk : K.lookup a with
    | none => exact .inl (.inr ⟨_, h0_scr aT hk⟩)
    | some o =>
      have z := KX a o hk
      rw [ha] at z
      cases z
      exact .inr ⟨_, vs.toArray, _, hk, rfl, rfl, rfl, by rw [List.size_toArray, lv]; exact hl, by simpa using rv⟩
  have hok : HOk P w H s.heap := fun b u z => by
    rcases h0_some z with ⟨h1, rfl⟩ | ⟨_, rfl, _, rfl⟩
    · exact tabO h1
    · exact ⟨ha, by rw [List.length_map]; exact hl, vs, _, rv, ha⟩
  -- what is not tracked stays in the base
  have keep : ∀ {b : Addr} {o : Obj}, s.heap.get? b = some o → (∀ v n, o.data ≠ .seq v n) → o.data ≠ .fields #[] → (hidT s.heap H).get? b = some o := fun {b o} e h1 h2 => hidT_get e (h0_none (fun z => by
      have y := e.symm.trans (tabO z)
      cases Option.some.inj y
      exact h2 rfl) fun z _ => by
      rw [z] at e
      have y := e.symm.trans ha
      cases Option.some.inj y
      exact h1 _ _ rfl)
  have kinB : K.In (hidT s.heap H) := fun b o e => hidT_get (KX b o e) (h0_none (fun z => by
      obtain ⟨p, hp, rfl⟩ := inT z
      rw [nT p hp] at e
      cases e) fun z y => by
      rw [z, y] at e
      cases e)
  have nsB : ∀ {b : Addr} {m : Str → Option Value}, s.heap.Ns b m → (hidT s.heap H).Ns b m := fun h => by
    obtain ⟨o, es, ep, e, d, r⟩ := h
    exact ⟨o, es, ep, keep e (fun v n z => by rw [d] at z; cases z) (fun z => by rw [d] at z; cases z), d, r⟩
  have mod : L2.Mod K mg (hidT s.heap H) := ⟨kinB, nsB hns, ⟨mb, nsB hb, hbb⟩, by
    obtain ⟨mc, g1, g2⟩ := hlim
    exact ⟨mc, nsB g1, g2⟩⟩
  have notG : ∀ {o : Obj} {b : Addr}, s.heap.get? b = some o → (∀ es n, o.data ≠ .dict es n) → b ≠ mainGlobals := fun {o b} e h z => by
    obtain ⟨o', es, ep, e', d, _⟩ := hns
    rw [z, e'] at e
    cases e
    exact h _ _ d
  have tabB : ∀ p ∈ cs, LamX.TabB (hidT s.heap H) mg p.1 p.2 := fun p hp => by
    refine ⟨?_, ?_, fun z => notG (hT p hp) (fun es n y => by cases y) z.symm⟩
    · obtain ⟨o, us, q1, q2, q3, q4, q5, q6, q7, e1, t1, t2, t3, t4⟩ := C p hp
      refine ⟨o, us, q1, q2, q3, q4, q5, q6, q7, keep e1 (fun v n z => by rw [t2] at z; cases z) (fun z => ?_), t1, t2, t3, t4⟩
      rw [t2] at z
      cases z
      simp at t3
    · obtain ⟨bm, ob, b1, b2, b3, b4, b5, b6⟩ := hbm
      refine ⟨bm, ob, b1, b2, notG b3 (fun es n y => by rw [b6] at y; cases y), fun z => ?_, keep b3 (fun v n z => by rw [b6] at z; cases z) (fun z => by rw [b6] at z; cases z), b4, b5, b6⟩
      rw [z, hT p hp] at b3
      cases b3
      cases b6
  have env0 : Env0 P w K mg (hidT s.heap H) callerA [] s H := ⟨rfl, mod, fun b o e => of_hidT e, Nat.le_of_eq (hidT_size _ _), trivial, fun b h => (nomatch h), hok, .of_eq hg⟩
  refine codeAny_mono ((F _ kinB (nsB hns) tabB).run callerA [] s H ⟨[.ref a], []⟩ [.ref a] [.ref a] _ _ rfl hr env0 (hbind s (.ref a)) (.cons rfl .nil) (hsp H hH hS)) fun r s' h => ?_
  match r, h with
  | .error e, h => exact (hCX H e s' h).elim
  | .ok (.ret u), ⟨v, H', os, bare, un, hok', r', (q : v = .bl true)⟩ =>
    subst q
    cases r'
    have old : ∀ b o, b ∉ cs.map (·.2) → s.heap.get? b = some o → s'.heap.get? b = some o := fun b o nb e => by
      cases z : H b with
      | none => exact un.keep b o e z (fun y => nomatch y) (by simp)
      | some t =>
        rcases h0_some z with ⟨h1, _⟩ | ⟨_, rfl, _, rfl⟩
        · exact absurd h1 nb
        · have z2 := un.frzs _ _ _ z
          have y1 := (hok _ _ z).1
          have y2 := (hok' _ _ z2).1
          rw [e] at y1
          cases y1
          exact y2
    have grown : ∀ p ∈ cs, ∃ more : Array Value, s'.heap.get? p.2 = some { cls := .none, data := .fields more } := fun p hp => by
      obtain ⟨more, z⟩ := un.tbls p.2 #[] (hH p hp)
      exact ⟨_, hok' p.2 _ z⟩
    refine ⟨rfl, ⟨fun b o e => ?_, fun b o e => ?_⟩, os, bare⟩
    · by_cases hbT : b ∈ cs.map (·.2)
      · obtain ⟨p, hp, rfl⟩ := inT hbT
        obtain ⟨more, hm⟩ := grown p hp
        rw [hT p hp] at e
        cases e
        exact .inr (.inl ⟨((C p hp).tab (hT p hp)).isCodeTable, rfl, #[], more, rfl, by rw [Array.empty_append]; exact hm⟩)
      · exact .inl (old b o hbT e)
    · by_cases hbT : b ∈ cs.map (·.2)
      · obtain ⟨p, hp, rfl⟩ := inT hbT
        obtain ⟨more, hm⟩ := grown p hp
        exact ⟨_, hm⟩
      · exact ⟨o, old b o hbT e⟩
end Lf

set_option maxHeartbeats 8000000
namespace Lf
open PySem PySem.Spec PyProof.Rows L2 GxR GxA SrT EnT
abbrev sLaw : Stmt := topS 70
abbrev nLaw : List Str := ["_law_script", "_law_cell_here", "_law_pen_here", "_law_stack_here", "_law_names_here", "_law_plain", "_law_other", "_law_n", "_law_k", "_law_due", "_law_i", "_law_d"]
theorem scLaw : FnScope nLaw ["_law_script"] (defScope sLaw) := ⟨rfl, rfl, rfl, by decide +kernel, rfl, by decide +kernel, by decide +kernel⟩
def rInt1 : List V → Hp → VK → Prop := fun xs H Q => (∃ i, xs = [.int i] ∧ Q (.int i) H) ∨ ∃ k, xs = [.bl k] ∧ Q (.int (if k then 1 else 0)) H
theorem full_stk {n k : Nat} (h3 : 1 ≤ n) (h8 : n ≤ 8) (hk : k ≤ n) (h4 : k ≤ 4) : StkOk n k (fullL n k) := by
  have e : fullL n k = sortL (everyL n k) := by
    refine sorted_eq ?_ ((sortL_pw _).sublist List.filter_sublist) (sortL_pw _)
    unfold everyL
    refine List.Perm.trans ?_ (sortL_perm _).symm
    refine List.Perm.trans ?_ (sortL_perm _).symm
    exact (sortL_perm _).filter _
  rw [e]
  exact (FacesB.every (n := n) (k := k) (df := everyL n k) (nodup_everyL n k) fun g hg => hg).stk h3 h8 hk h4 (every_pos h8 h4 hk) (everyL_70 h8 h4)
theorem pairsP_ok : ∀ d, d < 5 → 1 ≤ d → (1 ≤ (pairsP d).length ∧ (pairsP d).length ≤ 70 ∧ (∀ f ∈ pairsP d, (f.length : Int) = d) ∧ (∀ f ∈ pairsP d, f.Pairwise (· < ·)) ∧ (∀ f ∈ pairsP d, ∀ i ∈ f, 0 ≤ i ∧ i < 2 * (d : Int)) ∧ (pairsP d).Pairwise fun x y => lex x y = true) := by decide +kernel
theorem pairs_stk {d : Nat} (h1 : 1 ≤ d) (h4 : d ≤ 4) : StkOk (2 * (d : Int)) d (pairsP d) := by
  obtain ⟨a1, a2, a3, a4, a5, a6⟩ := pairsP_ok d (by omega) h1
  exact ⟨by omega, by omega, by omega, by omega, by omega, a1, a2, a3, a4, a5, a6⟩
theorem stepsL_ok : ∀ n, n < 9 → 3 ≤ n → (1 ≤ (stepsL (n - 1)).length ∧ (stepsL (n - 1)).length ≤ 70 ∧ (∀ f ∈ stepsL (n - 1), (f.length : Int) = 2) ∧ (∀ f ∈ stepsL (n - 1), f.Pairwise (· < ·)) ∧ (∀ f ∈ stepsL (n - 1), ∀ i ∈ f, 0 ≤ i ∧ i < (n : Int)) ∧ (stepsL (n - 1)).Pairwise fun x y => lex x y = true) := by decide +kernel
theorem row_stk {n : Nat} (h3 : 3 ≤ n) (h8 : n ≤ 8) : StkOk n 2 (stepsL (n - 1)) := by
  obtain ⟨a1, a2, a3, a4, a5, a6⟩ := stepsL_ok n (by omega) h3
  exact ⟨by omega, by omega, by omega, by omega, by omega, a1, a2, a3, a4, a5, a6⟩
theorem ring_stk {n : Nat} (h3 : 3 ≤ n) (h8 : n ≤ 8) : StkOk n 2 (ringL n) := by
  have F := facesB_ring (m := n - 1) (by omega) (by omega)
  rw [show n - 1 + 1 = n by omega, show ((n - 1 : Nat) : Int) = (n : Int) - 1 by omega] at F
  refine F.stk (by omega) h8 (by omega) (by decide) (by simp) ?_
  unfold stepsL
  simp
  omega
theorem eqv_lD (f : List Int) : PyData.eqv (.list (iD f)) (.list (iD f)) = true := by
  rw [PyData.eqv, eqv_ints]
  exact decide_eq_true rfl
theorem dueF_at (n k i : Nat) : (dueF n k).take i ++ [] = (dueF n k).take i := by simp
section
variable {P : Program} {w : World} {K : PySem.W.Frag} {mg : Str → Option Value} {base : Heap} {Ps : Tbs} {H H' H0 : Hp} {k : Nat} {f c : Addr} {fd : FuncData}
theorem ok_law {fC cC fP cP fT cT fA cA fQ cQ fR cR fO cO fU cU fNm cNm fD cD fPk cPk fZ cZ fFl cFl fPr cPr fRw cRw fRg cRg : Addr} {fdC fdP fdT fdA fdQ fdR fdO fdU fdNm fdD fdPk fdZ fdFl fdPr fdRw fdRg : FuncData} (D : Def K mg "law" sLaw ["_law_script"] f fd c) (DC : Def K mg "_law_cell" sCell ["_law_script", "_law_k"] fC fdC cC) (GC : FnOk P w K mg base CX0 k fC fdC ["_law_script", "_law_k"] (spCell K)) (DP : Def K mg "_law_pen" sPen ["_law_cell_here"] fP fdP cP) (GP : FnOk P w K mg base CX0 k fP fdP ["_law_cell_here"] (spPen Ps)) (DT : Def K mg "_law_sorted_kind" sSortK ["_law_pen_here"] fT fdT cT) (GT : FnOk P w K mg base CX0 k fT fdT ["_law_pen_here"] (spSortK K Ps)) (DA : Def K mg "_law_names" sNames ["_law_pen_here", "_law_n"] fA fdA cA) (GA : FnOk P w K mg base CX0 k fA fdA ["_law_pen_here", "_law_n"] (spNames K Ps)) (DQ : Def K mg "plain_order" sPlain ["stack"] fQ fdQ cQ) (GQ : FnOk P w K mg base CX0 k fQ fdQ ["stack"] (spPlain0 K Ps)) (DR : Def K mg "named_order" sNOrd ["stack", "names"] fR fdR cR) (GR : FnOk P w K mg base CX0 k fR fdR ["stack", "names"] (spNOrd K Ps)) (DO : Def K mg "is_order" sIsOrder ["stack", "thing"] fO fdO cO) (GO : FnOk P w K mg base CX0 k fO fdO ["stack", "thing"] (spIsOrder K Ps)) (DU : Def K mg "first_untraded" sUnT ["stack"] fU fdU cU) (GU : FnOk P w K mg base CX0 k fU fdU ["stack"] (spUnT K Ps)) (DNm : Def K mg "named" sNamed ["stack", "names"] fNm fdNm cNm) (GNm : FnOk P w K mg base CX0 k fNm fdNm ["stack", "names"] (spNamed K Ps)) (DD : Def K mg "_law_draw" sDraw ["_law_pen_here", "_law_many"] fD fdD cD) (GD : FnOk P w K mg base CX0 k fD fdD ["_law_pen_here", "_law_many"] spDraw) (DPk : Def K mg "_law_picks" sLPicks ["_law_many", "_law_few"] fPk fdPk cPk) (GPk : FnOk P w K mg base CX0 k fPk fdPk ["_law_many", "_law_few"] spLPicks) (DZ : Def K mg "told" sTold ["stack"] fZ fdZ cZ) (GZ : FnOk P w K mg base CX0 k fZ fdZ ["stack"] (spToldG K Ps)) (DFl : Def K mg "full_stack" sFull ["n", "k"] fFl fdFl cFl) (GFl : FnOk P w K mg base CX0 k fFl fdFl ["n", "k"] (spFull K Ps)) (DPr : Def K mg "pairs_stack" sPairs ["d"] fPr fdPr cPr) (GPr : FnOk P w K mg base CX0 k fPr fdPr ["d"] (spPairs K Ps)) (DRw : Def K mg "row_stack" sRow ["n"] fRw fdRw cRw) (GRw : FnOk P w K mg base CX0 k fRw fdRw ["n"] (spRow K Ps)) (DRg : Def K mg "ring_stack" sRing ["n"] fRg fdRg cRg) (GRg : FnOk P w K mg base CX0 k fRg fdRg ["n"] (spRing K Ps)) (mr : mg "range" = none) (mI : mg "int" = none) (mL : mg "list" = none) (mx : mg "max" = none) (mm : mg "min" = none) : FnOk P w K mg base CX0 (k + 1) f fd ["_law_script"] (spLaw K Ps) := by
  refine D.ok (k := k) scLaw (fun vs H Q E h => ?_) (fun A outer s H vs Q E hr h => ?_)
  · obtain ⟨a, ns, rfl, _⟩ := h
    rfl
  · obtain ⟨a, ns0, rfl, hA, hl, ht, q⟩ := h
    refine ⟨_, (pss_cons (ps_for PassesOwn.never rfl (pi_list (pe_op op_cat (pe_lst (pa_cons (pcl DC GC hr (pa_cons (pv 0) (pa_cons pe_int pa_nil))) pa_nil)) (pe_slice sl_list (pv 0) (po_some pe_int) (po_some pe_int)))) (pg_name (i := 1) scLaw.nd rfl (.inl rfl)) (pss_cons (ps_set (i := 2) scLaw.nd rfl (.inl rfl) (pcl DP GP hr (pa_cons (pv 1) pa_nil))) (pss_cons (ps_set (i := 3) scLaw.nd rfl (.inl rfl) (pcl DT GT hr (pa_cons (pv 2) pa_nil))) (pss_cons (ps_set (i := 4) scLaw.nd rfl (.inl rfl) (pcl DA GA hr (pa_cons (pv 2) (pa_cons (pe_ix (show IxR _ (rIxT K) from ix_tup) (pv 3) pe_int (fun _ _ => rfl)) pa_nil)))) (pss_cons (ps_set (i := 3) scLaw.nd rfl (.inl rfl) (pe_tup (pa_cons (pe_ix (show IxR _ (rIxT K) from ix_tup) (pv 3) pe_int (fun _ _ => rfl)) (pa_cons (pe_ix (show IxR _ (rIxT K) from ix_tup) (pv 3) pe_int (fun _ _ => rfl)) (pa_cons (pe_slice (show SlR _ (rSlB K Ps) from sl_tupB) (pe_ix (show IxR _ (rIxT K) from ix_tup) (pv 3) pe_int (fun _ _ => rfl)) po_none (po_some pe_int)) pa_nil))))) (pss_cons (ps_par (i := 5) (j := 6) (by rfl) scLaw.nd rfl rfl (by decide) rfl rfl (pa_cons (pcl DQ GQ hr (pa_cons (pv 3) pa_nil)) (pa_cons (pcl DR GR hr (pa_cons (pv 3) (pa_cons (pv 4) pa_nil))) pa_nil)) (by rfl)) (pss_cons (ps_if (PW.pt (pw_and (pt_cmpR op_notN (pv 5) pe_non (nomark _)) (pw_and1 (pt_cmpR (show OpR _ _ (fun x y H Q => ∃ a b, x = .bl a ∧ y = .bl b ∧ Q (.bl (!decide (a = b))) H) from op_isnot_bl) (pcl DO GO hr (pa_cons (pv 3) (pa_cons (pv 5) pa_nil))) pe_bl (nomark _))))) (pss_one (ps_ret pe_bl)) pss_nil) (pss_cons (ps_if (PW.pt (pw_or (pt_cmpR op_ne (pe_cmpR op_isN (pv 6) pe_non (nomark _)) (pe_cmpR op_notN (pcl DU GU hr (pa_cons (pv 3) pa_nil)) pe_non (nomark _)) (nomark _)) (pw_or1 (PW.pt (pw_and (pt_cmpR op_notN (pv 6) pe_non (nomark _)) (pw_and1 (pt_cmpR op_isN (pv 5) pe_non (nomark _)))))))) (pss_one (ps_ret pe_bl)) pss_nil) (pss_cons (ps_if (PW.pt (pw_and (pt_cmpR op_notN (pv 6) pe_non (nomark _)) (pw_and1 (pt_cmpR (show OpR _ _ (fun x y H Q => ∃ a b, x = .bl a ∧ y = .bl b ∧ Q (.bl (!decide (a = b))) H) from op_isnot_bl) (pcl DO GO hr (pa_cons (pv 3) (pa_cons (pv 6) pa_nil))) pe_bl (nomark _))))) (pss_one (ps_ret pe_bl)) pss_nil) (pss_cons (ps_if (PW.pt (pw_and (pt_cmpR op_notN (pv 6) pe_non (nomark _)) (pw_and1 (pt_cmpR op_notN (pcl DU GU hr (pa_cons (pcl DNm GNm hr (pa_cons (pv 3) (pa_cons (pv 4) pa_nil))) pa_nil)) pe_non (nomark _))))) (pss_one (ps_ret pe_bl)) pss_nil) (pss_cons (ps_set (i := 7) scLaw.nd rfl (.inr rfl) (pe_op op_add pe_int (pcl DD GD hr (pa_cons (pv 2) (pa_cons pe_int pa_nil))))) (pss_cons (ps_set (i := 8) scLaw.nd rfl (.inr rfl) (pcl DD GD hr (pa_cons (pv 2) (pa_cons (pe_op op_add (pe_callB (call_min2 rfl) (by rfl) mm (by decide +kernel) (pa_cons (pv 7) (pa_cons pe_int pa_nil))) pe_int) pa_nil)))) (pss_cons (ps_setLc (i := 9) (own := [("_law_i", 10)]) (g := gName 10) (by rfl) scLaw.nd rfl rfl (by rfl) (pi_range1 (by rfl) mr (pa_cons (pe_op op_add (pv 8) pe_int) pa_nil)) (blkOk_by (N := nLaw) (sc := defScope sLaw) (by decide +kernel)) (fun _ _ _ _ _ => pg_name (i := 10) scLaw.nd rfl (Or.inl rfl)) (fun _ _ _ _ _ => pts_nil) (fun _ _ _ _ _ => (pe_op op_mul (pe_callTy (T := "int") (r := rInt1) (show CallR _ (.type "int") rInt1 from call_int1) (by rfl) mI (by decide +kernel) (pa_cons (pe_or (pe_cmpR op_eq (pv 10) pe_int (nomark _)) (pe_one (pe_cmpR op_gt (pv 7) (pv 8) (nomark _)))) pa_nil)) (pcl DPk GPk hr (pa_cons (pe_op op_add (pe_callB (call_max2 rfl) (by rfl) mx (by decide +kernel) (pa_cons pe_int (pa_cons (pe_op op_sub (pe_op op_sub (pv 7) (pv 8)) pe_int) pa_nil))) (pv 10)) (pa_cons (pv 10) pa_nil)))))) (pss_cons (ps_if (pt_cmpR (show OpR _ _ (rNeD K) from op_neD hr.units) (pe_callTy call_list_of (by rfl) mL (by decide +kernel) (pa_cons (pcl DZ GZ hr (pa_cons (pcl DFl GFl hr (pa_cons (pv 7) (pa_cons (pv 8) pa_nil))) pa_nil)) pa_nil)) (pv 9) (nomark _)) (pss_one (ps_ret pe_bl)) pss_nil) (pss_cons (ps_set (i := 11) scLaw.nd rfl (.inr rfl) (pe_op op_add pe_int (pcl DD GD hr (pa_cons (pv 2) (pa_cons pe_int pa_nil))))) (pss_cons (ps_if (pt_cmpR (show OpR _ _ (rNeD K) from op_neD hr.units) (pe_callTy call_list_of (by rfl) mL (by decide +kernel) (pa_cons (pcl DZ GZ hr (pa_cons (pcl DPr GPr hr (pa_cons (pv 11) pa_nil)) pa_nil)) pa_nil)) (pe_lc (own := [("_law_i", 10)]) (g := gName 10) (by rfl) scLaw.nd (pi_range1 (by rfl) mr (pa_cons (pe_op op_add (pv 11) pe_int) pa_nil)) (blkOk_by (N := nLaw) (sc := defScope sLaw) (by decide +kernel)) (fun _ _ _ _ _ => pg_name (i := 10) scLaw.nd rfl (Or.inl rfl)) (fun _ _ _ _ _ => pts_nil) (fun _ _ _ _ _ => (pcl DPk GPk hr (pa_cons (pv 11) (pa_cons (pv 10) pa_nil))))) (nomark _)) (pss_one (ps_ret pe_bl)) pss_nil) (pss_one (ps_if (PW.pt (pw_or (pt_cmpR (show OpR _ _ (rNeD K) from op_neD hr.units) (pcl DZ GZ hr (pa_cons (pcl DRw GRw hr (pa_cons (pv 7) pa_nil)) pa_nil)) (pe_tup (pa_cons pe_int (pa_cons (pe_op op_sub (pv 7) pe_int) (pa_cons pe_int pa_nil)))) (nomark _)) (pw_or1 (pt_cmpR (show OpR _ _ (rNeD K) from op_neD hr.units) (pcl DZ GZ hr (pa_cons (pcl DRg GRg hr (pa_cons (pv 7) pa_nil)) pa_nil)) (pe_tup (pa_cons pe_int (pa_cons (pe_op op_sub (pv 7) pe_int) (pa_cons pe_int pa_nil)))) (nomark _))))) (pss_one (ps_ret pe_bl)) pss_nil)))))))))))))))))) (pss_one (ps_ret pe_bl))), ?_⟩
    have one : (1 : Nat) ≤ sizeLine := by decide
    refine ⟨.ref a, rfl, a, ns0, rfl, hA, fun z => ⟨one, fun l1 hl1 => ?_⟩⟩
    have x1 : Ext Ps H (upd H l1 (.lst [.int z])) := Ext.new ht hl1
    refine ⟨.ref a, rfl, 1, rfl, 4, rfl, a, _, rfl, x1.sqL hA, fun l2 hl2 => ?_⟩
    obtain ⟨cs, hcs, ecs⟩ := cut_ints ns0 (some 1) (some 4)
    have hcl := hcs.length_le
    have e2 := Ext.new (o := .lst (cutV (ns0.map V.int) (some 1) (some 4))) x1.tb hl2
    have x2 := x1.trans e2
    refine ⟨l1, l2, _, _, rfl, rfl, e2.lst upd_same, upd_same, ?_, fun l3 hl3 => ?_⟩
    · rw [ecs, List.length_map]
      exact Nat.le_of_lt (small1000 (by show 1 + cs.length ≤ 1000; omega))
    rw [ecs]
    have eL : [V.int z] ++ cs.map V.int = (z :: cs).map V.int := rfl
    rw [eL]
    have x3 := x2.trans (Ext.new (o := .lst ((z :: cs).map V.int)) x2.tb hl3)
    rw [ecs] at x3
    refine ⟨l3, rfl, ⟨_, .inl (.inl upd_same)⟩, ?_⟩
    have hL3 : (upd (upd (upd H l1 (.lst [.int z])) l2 (.lst (cs.map V.int))) l3 (.lst ((z :: cs).map V.int))) l3 = some (.lst ((z :: cs).map V.int)) := upd_same
    generalize upd (upd (upd H l1 (.lst [.int z])) l2 (.lst (cs.map V.int))) l3 (.lst ((z :: cs).map V.int)) = HL at *
    refine for_list (K := K) (a := l3) (xs := (z :: cs).map V.int) (fun i σ H3 => Ext Ps HL H3 ∧ ∃ y1 y2 y3 y4 y5 y6 y7 y8 y9 y10 y11 : Option V, σ = [some (.ref a), y1, y2, y3, y4, y5, y6, y7, y8, y9, y10, y11]) ⟨Ext.refl x3.tb, none, none, none, none, none, none, none, none, none, none, none, rfl⟩ (fun i σ H3 _ p => p.1.sqL (.inl (.inl hL3))) (fun i x σ H3 hx p => ?_) (fun σ H3 p => q _)
    obtain ⟨e3, y1, y2, y3, y4, y5, y6, y7, y8, y9, y10, y11, rfl⟩ := p
    obtain ⟨cell, _, rfl⟩ := map_int hx
    refine tseq_intro fun R hR => ?_
    refine ⟨.int cell, rfl, cell, rfl, e3.tb, fun pa H4 e4 npa hpa => ?_⟩
    show R [some (.ref a), some (.int cell), some (.ref pa), y3, y4, y5, y6, y7, y8, y9, y10, y11] H4
    rw [hR]
    clear hR
    have hn3 : HL pa = none := e3.free npa
    have npn : ∀ {HX : Hp}, Pen HX pa → ∀ b, HX b = none → b ≠ pa := fun {HX} hp b hb z => by
      obtain ⟨u, v, e⟩ := hp
      rw [z, e] at hb
      cases hb
    -- the stack, the names
    refine tseq_intro fun R hR => ?_
    refine ⟨.ref pa, rfl, pa, rfl, hpa, e4.tb, fun sv n kk fs0 H5 P5 hS0 S0 => ?_⟩
    show R [some (.ref a), some (.int cell), some (.ref pa), some sv, y4, y5, y6, y7, y8, y9, y10, y11] H5
    rw [hR]
    clear hR
    obtain ⟨sa, fa, xs, rfl, h1, h2, h3⟩ := id hS0
    have n1 := S0.n1
    have n8 := S0.n8
    obtain ⟨m, rfl⟩ := Int.eq_ofNat_of_zero_le (show 0 ≤ n by omega)
    refine tseq_intro fun R hR => ?_
    refine ⟨.ref pa, rfl, .ref sa, rfl, sa, _, 0, .int (m : Nat), rfl, rfl, h1, atI_nat (j := 0) rfl, pa, m, rfl, P5.pen, by omega, by omega, P5.tb, fun nt ns H6 P6 hnt _ _ hperm => ?_⟩
    show R [some (.ref a), some (.int cell), some (.ref pa), some (.ref sa), some (.ref nt), y5, y6, y7, y8, y9, y10, y11] H6
    rw [hR]
    clear hR
    replace h1 := P6.sqT h1
    replace h2 := P6.sqT h2
    replace h3 := P6.tups h3
    -- its first faces
    refine tseq_intro fun R hR => ?_
    refine ⟨.ref sa, rfl, sa, _, 0, .int (m : Nat), rfl, rfl, h1, atI_nat (j := 0) rfl, .ref sa, rfl, sa, _, 1, .int kk, rfl, rfl, h1, atI_nat (j := 1) rfl, .ref sa, rfl, sa, _, 2, .ref fa, rfl, rfl, h1, at2, 28, rfl, fa, xs, rfl, h2, P6.tb, fun fb H7 e7 hfb => ⟨(by decide : (3 : Nat) ≤ sizeLine), fun ts nts => ?_⟩⟩
    have hfb' : SqT K H7 fb (xs.take 28) := by
      rw [← cut_to]
      exact hfb
    have eT := Ext.new (o := .tup [.int (m : Nat), .int kk, .ref fb]) e7.tb nts
    have hS : Stk K (upd H7 ts (.tup [.int (m : Nat), .int kk, .ref fb])) (.ref ts) m kk (fs0.take 28) := ⟨ts, fb, xs.take 28, rfl, .inl (.inl upd_same), eT.sqT hfb', eT.tups (paired_take (e7.tups h3) 28)⟩
    have S := stk_take S0 28 (by decide)
    have l28 : (fs0.take 28).length ≤ 28 := by
      rw [List.length_take]
      omega
    have hnt8 : TupI K (upd H7 ts (.tup [.int (m : Nat), .int kk, .ref fb])) (.ref nt) ns := ⟨nt, rfl, (e7.trans eT).sqT hnt⟩
    have P8 := P5.trans (P6.trans ((e7.trans eT).epn P6.pen))
    generalize fs0.take 28 = fss at *
    generalize upd H7 ts (.tup [.int (m : Nat), .int kk, .ref fb]) = H8 at *
    show R [some (.ref a), some (.int cell), some (.ref pa), some (.ref ts), some (.ref nt), y5, y6, y7, y8, y9, y10, y11] H8
    rw [hR]
    clear hR h1 h2 h3 hS0 S0 hfb hfb' hnt e7 eT
    have hperm' : ns.Perm (rng (m : Int).toNat) := by
      rw [Int.toNat_natCast]
      exact hperm
    -- the orders
    refine tseq_intro fun R hR => ?_
    refine ⟨.ref ts, rfl, .ref ts, (m : Nat), kk, fss, rfl, hS, S, P8.tb, fun pv_ H9 e9 hpl => ?_⟩
    refine ⟨.ref ts, rfl, .ref nt, rfl, .ref ts, .ref nt, (m : Nat), kk, fss, ns, rfl, e9.stk hS, S, e9.tupI hnt8, hperm', e9.tb, fun ov H10 e10 hov => ⟨pv_, ov, rfl, ?_⟩⟩
    have hpl0 : OrdV K H10 ((unT fss fss.length).isEmpty || (unP fss fss.length).isEmpty) (rng fss.length) pv_ := hpl.imp (fun z => ⟨z.1, e10.tupI z.2⟩) fun z => z
    have x10 := e9.trans e10
    have hSA := x10.stk hS
    have hNA := x10.tupI hnt8
    have dpv : decide (pv_ = .non) = !((unT fss fss.length).isEmpty || (unP fss fss.length).isEmpty) := by
      rcases hpl0 with ⟨hb, t, rfl, _⟩ | ⟨hb, rfl⟩ <;> rw [hb] <;> simp
    have dov : decide (ov = .non) = !(unT fss fss.length).isEmpty := by
      rcases hov with ⟨hb, t, rfl, _⟩ | ⟨hb, rfl⟩ <;> rw [hb] <;> simp
    show R [some (.ref a), some (.int cell), some (.ref pa), some (.ref ts), some (.ref nt), some pv_, some ov, y7, y8, y9, y10, y11] H10
    rw [hR]
    clear hR hpl e9
    -- plain_order tells an order
    refine tseq_intro fun R hR => ?_
    suffices nxt : ∀ HX, Ext Ps H10 HX → R [some (.ref a), some (.int cell), some (.ref pa), some (.ref ts), some (.ref nt), some pv_, some ov, y7, y8, y9, y10, y11] HX by
      rcases hpl0 with ⟨hb, t, rfl, hT⟩ | ⟨hb, rfl⟩
      · refine ⟨.ref t, rfl, rfl, true, by simp, iteT ?_⟩
        refine ⟨.ref ts, rfl, .ref t, rfl, .ref ts, .ref t, (m : Nat), kk, fss, rng fss.length, rfl, ⟨hSA, S, ⟨t, rfl, hT⟩, fun i hi => mem_rng hi, by rw [rng_len]; omega, e10.tb⟩, fun b HX hbo eX => ?_⟩
        obtain rfl : b = true := hbo.mpr (plain_ord S hb)
        exact ⟨true, true, rfl, rfl, false, by simp, iteF (nxt HX eX)⟩
      · exact ⟨.non, rfl, rfl, false, by simp, iteF (nxt H10 (Ext.refl e10.tb))⟩
    intro HA xA
    rw [hR]
    clear hR
    -- just where it is traded
    refine tseq_intro fun R hR => ?_
    suffices nxt : ∀ HX, Ext Ps HA HX → R [some (.ref a), some (.int cell), some (.ref pa), some (.ref ts), some (.ref nt), some pv_, some ov, y7, y8, y9, y10, y11] HX by
      refine ⟨ov, rfl, rfl, .ref ts, rfl, .ref ts, (m : Nat), kk, fss, rfl, xA.stk hSA, S, xA.tb, fun uv HY eY hu => ⟨rfl, rfl, false, by rw [dov, head_ne hu]; simp, iteF ?_⟩⟩
      cases hb : (unT fss fss.length).isEmpty with
      | true =>
        refine ⟨ov, rfl, rfl, true, by rw [dov, hb]; rfl, iteT ⟨pv_, rfl, rfl, false, by rw [dpv, hb]; rfl, iteF (nxt HY eY)⟩⟩
      | false => exact ⟨ov, rfl, rfl, false, by rw [dov, hb]; rfl, iteF (nxt HY eY)⟩
    intro HB0_ xB
    rw [hR]
    clear hR
    have xAB := xA.trans xB
    -- named_order tells an order
    refine tseq_intro fun R hR => ?_
    suffices nxt : ∀ HX, Ext Ps HB0_ HX → R [some (.ref a), some (.int cell), some (.ref pa), some (.ref ts), some (.ref nt), some pv_, some ov, y7, y8, y9, y10, y11] HX by
      rcases hov with ⟨hb, t, rfl, hT⟩ | ⟨hb, rfl⟩
      · refine ⟨.ref t, rfl, rfl, true, by simp, iteT ?_⟩
        have o := named_ord S hperm' hb
        refine ⟨.ref ts, rfl, .ref t, rfl, .ref ts, .ref t, (m : Nat), kk, fss, ordN ns fss, rfl, ⟨xAB.stk hSA, S, ⟨t, rfl, xAB.sqT hT⟩, fun i hi => mem_rng (o.1.mem_iff.mp hi), by rw [ordN_len]; omega, xB.tb⟩, fun b HX hbo eX => ?_⟩
        obtain rfl : b = true := hbo.mpr o
        exact ⟨true, true, rfl, rfl, false, by simp, iteF (nxt HX eX)⟩
      · exact ⟨.non, rfl, rfl, false, by simp, iteF (nxt HB0_ (Ext.refl xB.tb))⟩
    intro HC xC
    rw [hR]
    clear hR
    have xAC := xAB.trans xC
    -- it stays traded
    refine tseq_intro fun R hR => ?_
    suffices nxt : ∀ HX, Ext Ps HC HX → R [some (.ref a), some (.int cell), some (.ref pa), some (.ref ts), some (.ref nt), some pv_, some ov, y7, y8, y9, y10, y11] HX by
      cases hb : (unT fss fss.length).isEmpty with
      | true =>
        refine ⟨ov, rfl, rfl, true, by rw [dov, hb]; rfl, iteT ?_⟩
        refine ⟨.ref ts, rfl, .ref nt, rfl, .ref ts, .ref nt, (m : Nat), kk, fss, ns, rfl, xAC.stk hSA, S, xAC.tupI hNA, hperm', xC.tb, fun nv HY eY hN => ?_⟩
        refine ⟨nv, (m : Nat), kk, _, rfl, hN, named_stk S hperm, eY.tb, fun uv HZ eZ hu => ⟨rfl, false, ?_, iteF (nxt HZ (eY.trans eZ))⟩⟩
        rw [head_ne hu, unT_named S hperm' (List.isEmpty_iff.mp hb)]
        rfl
      | false => exact ⟨ov, rfl, rfl, false, by rw [dov, hb]; rfl, iteF (nxt HC (Ext.refl xC.tb))⟩
    intro HD xD
    rw [hR]
    clear hR
    have PD := P8.trans ((x10.trans (xAC.trans xD)).epn P8.pen)
    clear xA xB xC xD xAB xAC hpl0 hov dpv dov hSA hNA hS hnt8 x10 e10
    -- how many points
    refine tseq_intro fun R hR => ?_
    refine ⟨.ref pa, rfl, pa, 6, rfl, PD.pen, by decide, by decide, fun u1 f1 r1 r10 r11 => ?_⟩
    have PE_ := PD.trans (Epn.draw (x := u1) (f := f1) PD.tb PD.pen)
    generalize upd HD pa (.lst [.int u1, .int f1]) = HE at *
    obtain ⟨q1, rfl⟩ := Int.eq_ofNat_of_zero_le r10
    refine ⟨3, (q1 : Nat), rfl, rfl, ?_⟩
    have eN : (3 + (q1 : Nat) : Int) = ((3 + q1 : Nat) : Int) := by omega
    show R [some (.ref a), some (.int cell), some (.ref pa), some (.ref ts), some (.ref nt), some pv_, some ov, some (.int (3 + (q1 : Nat))), y8, y9, y10, y11] HE
    rw [eN]
    have N3 : 3 ≤ 3 + q1 := by omega
    have N8 : 3 + q1 ≤ 8 := by omega
    generalize 3 + q1 = N at *
    rw [hR]
    clear hR
    refine tseq_intro fun R hR => ?_
    have lo4 : ∀ x : Int, (if (4 : Int) < (N : Nat) then (4 : Int) else (N : Nat)) = x → x = min (N : Int) 4 := fun x e => by
      rw [← e]
      split <;> omega
    refine ⟨.ref pa, rfl, .int (N : Nat), rfl, (N : Nat), 4, rfl, _, 1, rfl, rfl, pa, _, rfl, PE_.pen, by rw [lo4 _ rfl]; omega, by rw [lo4 _ rfl]; omega, fun u2 f2 r2 r20 r21 => ?_⟩
    rw [lo4 _ rfl] at r21
    have PF := PE_.trans (Epn.draw (x := u2) (f := f2) PE_.tb PE_.pen)
    generalize upd HE pa (.lst [.int u2, .int f2]) = HF at *
    obtain ⟨k', rfl⟩ := Int.eq_ofNat_of_zero_le r20
    have kN : k' ≤ N := by omega
    have k4 : k' ≤ 4 := by omega
    show R [some (.ref a), some (.int cell), some (.ref pa), some (.ref ts), some (.ref nt), some pv_, some ov, some (.int (N : Nat)), some (.int (k' : Nat)), y9, y10, y11] HF
    rw [hR]
    clear hR lo4
    -- what is due
    refine tseq_intro fun R hR => ?_
    refine ⟨.int (k' : Nat), rfl, (k' : Nat), 1, rfl, rfl, _, rfl, by omega, by omega, fun D0 hD => lc_range (lo := 0) (n := ((k' : Nat) + 1 : Int).toNat) (fun i HX => CP Ps FI HF D0 ((List.range i).map (dueE N k')) i HX) (CP.start PF.tb hD) (fun i HX hi p => ?_) (fun HX p => ?_)⟩
    · have hik : i < k' + 1 := by omega
      have ei : (0 : Int) + (i : Nat) = (i : Nat) := by omega
      rw [ei]
      have mxv : (if ((N : Nat) : Int) - (k' : Nat) - 1 > 0 then ((N : Nat) : Int) - (k' : Nat) - 1 else 0) = max 0 ((N : Int) - k' - 1) := by
        split <;> omega
      have put : ∀ b : Int, b = (if i = 0 ∨ k' < N then 1 else 0) → ∃ acc, HX D0 = some (.lst acc) ∧ acc.length < sizeLine ∧ CP Ps FI HF D0 ((List.range (i + 1)).map (dueE N k')) (i + 1) (upd HX D0 (.lst (acc ++ [.int (b * pk (max 0 ((N : Int) - k' - 1) + (i : Nat)) i)]))) := fun b hb => by
        have r := CP.put (stbI (K := K)) hD (by omega) p (show FI HX (.int (b * pk (max 0 ((N : Int) - k' - 1) + (i : Nat)) i)) (dueE N k' i) from by rw [hb]; rfl)
        rw [List.range_succ, List.map_append]
        exact r
      refine ⟨rfl, yes_ (iteT ?_)⟩
      refine ⟨.int (i : Nat), rfl, rfl, decide (V.int (i : Nat) = V.int 0), rfl, ?_⟩
      refine ite2 (fun hc => ?_) (fun hc => ?_)
      · have i0 : i = 0 := by
          have z := of_decide_eq_true hc
          injection z with z
          omega
        refine .inr ⟨true, rfl, ?_⟩
        refine ⟨.int (N : Nat), rfl, .int (k' : Nat), rfl, (N : Nat), (k' : Nat), rfl, rfl, _, 1, rfl, rfl, 0, _, rfl, .int _, rfl, _, _, rfl, rfl, .int _, rfl, _, _, rfl, ?_, ?_, by omega, by omega, _, _, rfl, rfl, .inl ?_, ?_⟩
        · split <;> omega
        · split <;> omega
        · decide
        · rw [mxv]
          exact put 1 (by simp [i0])
      · have i0 : i ≠ 0 := fun z => hc (decide_eq_true (by rw [z]; rfl))
        refine ⟨.int (N : Nat), rfl, .int (k' : Nat), rfl, (N : Nat), (k' : Nat), rfl, rfl, .inr ⟨_, rfl, ?_⟩⟩
        refine ⟨.int (N : Nat), rfl, .int (k' : Nat), rfl, (N : Nat), (k' : Nat), rfl, rfl, _, 1, rfl, rfl, 0, _, rfl, .int _, rfl, _, _, rfl, rfl, .int _, rfl, _, _, rfl, ?_, ?_, by omega, by omega, _, _, rfl, rfl, .inl ?_, ?_⟩
        · split <;> omega
        · split <;> omega
        · split <;> decide
        · rw [mxv]
          exact put _ (by simp [i0])
    obtain ⟨ys, g1, g2, g3⟩ := p.at_
    have ey := paired_ints g2
    subst ey
    have eD : (((k' : Nat) + 1 : Int).toNat) = k' + 1 := by omega
    rw [eD] at g1
    have PG := PF.trans (p.ext.epn PF.pen)
    have hDa : D0 ≠ pa := npn PF.pen D0 hD
    show R [some (.ref a), some (.int cell), some (.ref pa), some (.ref ts), some (.ref nt), some pv_, some ov, some (.int (N : Nat)), some (.int (k' : Nat)), some (.ref D0), y10, y11] HX
    rw [hR]
    clear hR
    -- all faces
    refine tseq_intro fun R hR => ?_
    refine ⟨.int (N : Nat), rfl, .int (k' : Nat), rfl, N, k', rfl, by omega, N8, kN, k4, PG.tb, fun fv HA eA hF => ?_⟩
    refine ⟨fv, (N : Nat), (k' : Nat), _, rfl, hF, full_stk (by omega) N8 kN k4, eA.tb, fun tv HB eB hT => ?_⟩
    rw [told_full N3 N8 kN k4] at hT
    obtain ⟨tp, rfl, hts⟩ := hT
    refine ⟨tp, _, rfl, .inr hts, fun l nl => ?_⟩
    have e1 := eA.trans (eB.trans (Ext.new (o := .lst ((dueF N k').map V.int)) eB.tb nl))
    refine ⟨.ref D0, rfl, .list (iD (dueF N k')), .list (iD (dueF N k')), .lst (.inl (.inl upd_same)) (dp_ints _), .lst (.inl (.inl (e1.lst g1))) (dp_ints _), shp_list _, shp_list _, ?_⟩
    rw [eqv_lD]
    refine ⟨false, rfl, iteF ?_⟩
    have PH := PG.trans (e1.epn PG.pen)
    generalize upd HB l (.lst ((dueF N k').map V.int)) = HH at *
    show R [some (.ref a), some (.int cell), some (.ref pa), some (.ref ts), some (.ref nt), some pv_, some ov, some (.int (N : Nat)), some (.int (k' : Nat)), some (.ref D0), y10, y11] HH
    rw [hR]
    clear hR g1 g2 g3 p e1
    -- pairs
    refine tseq_intro fun R hR => ?_
    refine ⟨.ref pa, rfl, pa, 4, rfl, PH.pen, by decide, by decide, fun u3 f3 r3 r30 r31 => ?_⟩
    have PI_ := PH.trans (Epn.draw (x := u3) (f := f3) PH.tb PH.pen)
    generalize upd HH pa (.lst [.int u3, .int f3]) = HI at *
    obtain ⟨q3, rfl⟩ := Int.eq_ofNat_of_zero_le r30
    refine ⟨1, (q3 : Nat), rfl, rfl, ?_⟩
    have eM : (1 + (q3 : Nat) : Int) = ((1 + q3 : Nat) : Int) := by omega
    show R [some (.ref a), some (.int cell), some (.ref pa), some (.ref ts), some (.ref nt), some pv_, some ov, some (.int (N : Nat)), some (.int (k' : Nat)), some (.ref D0), y10, some (.int (1 + (q3 : Nat)))] HI
    rw [eM]
    have M1 : 1 ≤ 1 + q3 := by omega
    have M4 : 1 + q3 ≤ 4 := by omega
    generalize 1 + q3 = M at *
    rw [hR]
    clear hR
    refine tseq_intro fun R hR => ?_
    refine ⟨.int (M : Nat), rfl, M, rfl, M1, M4, PI_.tb, fun fv HA eA hF => ?_⟩
    refine ⟨fv, 2 * (M : Int), (M : Nat), _, rfl, hF, pairs_stk M1 M4, eA.tb, fun tv HB eB hT => ?_⟩
    rw [told_pairs M4] at hT
    obtain ⟨tp, rfl, hts⟩ := hT
    refine ⟨tp, _, rfl, .inr hts, fun l nl => ?_⟩
    have eL := Ext.new (o := .lst (((List.range (M + 1)).map fun i : Nat => pk (M : Int) i).map V.int)) eB.tb nl
    have hl_ : upd HB l (.lst (((List.range (M + 1)).map fun i : Nat => pk (M : Int) i).map V.int)) l = some (.lst (((List.range (M + 1)).map fun i : Nat => pk (M : Int) i).map V.int)) := upd_same
    generalize upd HB l (.lst (((List.range (M + 1)).map fun i : Nat => pk (M : Int) i).map V.int)) = HL2 at *
    refine ⟨.int (M : Nat), rfl, (M : Nat), 1, rfl, rfl, _, rfl, by omega, by omega, fun D1 hD1 => lc_range (lo := 0) (n := ((M : Nat) + 1 : Int).toNat) (fun i HX => CP Ps FI HL2 D1 ((List.range i).map fun i : Nat => pk (M : Int) i) i HX) (CP.start eL.tb hD1) (fun i HX hi p => ?_) (fun HX p => ?_)⟩
    · have hik : i < M + 1 := by omega
      have ei : (0 : Int) + (i : Nat) = (i : Nat) := by omega
      rw [ei]
      refine ⟨rfl, yes_ (iteT ?_)⟩
      refine ⟨.int (M : Nat), rfl, .int (i : Nat), rfl, (M : Nat), (i : Nat), rfl, by omega, by omega, by omega, by omega, ?_⟩
      have r := CP.put (stbI (K := K)) hD1 (by omega) p (show FI HX (.int (pk (M : Int) (i : Int).toNat)) (pk (M : Int) i) from by rw [Int.toNat_natCast]; rfl)
      rw [List.range_succ, List.map_append]
      exact r
    obtain ⟨ys, g1, g2, g3⟩ := p.at_
    have ey := paired_ints g2
    subst ey
    have eD : (((M : Nat) + 1 : Int).toNat) = M + 1 := by omega
    rw [eD] at g1
    refine ⟨.list (iD ((List.range (M + 1)).map fun i : Nat => pk (M : Int) i)), .list (iD ((List.range (M + 1)).map fun i : Nat => pk (M : Int) i)), .lst (.inl (.inl (p.ext.lst hl_))) (dp_ints _), .lst (.inl (.inl g1)) (dp_ints _), shp_list _, shp_list _, ?_⟩
    rw [eqv_lD]
    refine ⟨false, rfl, iteF ?_⟩
    have PJ := PI_.trans ((eA.trans (eB.trans (eL.trans p.ext))).epn PI_.pen)
    show R [some (.ref a), some (.int cell), some (.ref pa), some (.ref ts), some (.ref nt), some pv_, some ov, some (.int (N : Nat)), some (.int (k' : Nat)), some (.ref D0), y10, some (.int (M : Nat))] HX
    rw [hR]
    clear hR g1 g2 g3 p hl_ eL eA eB hts hF
    -- rows and rings
    refine ⟨.int (N : Nat), rfl, N, rfl, by omega, N8, PJ.tb, fun fv HA eA hF => ?_⟩
    refine ⟨fv, (N : Nat), 2, _, rfl, hF, row_stk N3 N8, eA.tb, fun tv HB eB hT => ?_⟩
    rw [told_row N3 N8] at hT
    refine ⟨.int (N : Nat), rfl, (N : Nat), 2, rfl, rfl, (by decide : (3 : Nat) ≤ sizeLine), fun t1 nt1 => ?_⟩
    have eC := Ext.new (o := .tup [.int 1, .int ((N : Nat) - 2), .int 0]) eB.tb nt1
    refine ⟨tD [1, (N : Int) - 2, 0], tD [1, (N : Int) - 2, 0], dp_tup (eC.tupI hT), dp_tup ⟨t1, rfl, .inl (.inl upd_same)⟩, shp_tup _, shp_tup _, ?_⟩
    rw [eqv_tD, decide_eq_true rfl]
    refine ⟨false, rfl, iteF ?_⟩
    have eAC := eA.trans (eB.trans eC)
    generalize upd HB t1 (.tup [.int 1, .int ((N : Nat) - 2), .int 0]) = HC2 at *
    refine ⟨.int (N : Nat), rfl, N, rfl, by omega, N8, eC.tb, fun fv2 HA2 eA2 hF2 => ?_⟩
    refine ⟨fv2, (N : Nat), 2, _, rfl, hF2, ring_stk N3 N8, eA2.tb, fun tv2 HB2 eB2 hT2 => ?_⟩
    rw [told_ring N3 N8] at hT2
    refine ⟨.int (N : Nat), rfl, (N : Nat), 2, rfl, rfl, (by decide : (3 : Nat) ≤ sizeLine), fun t2 nt2 => ?_⟩
    have eC2 := Ext.new (o := .tup [.int 1, .int ((N : Nat) - 2), .int 1]) eB2.tb nt2
    refine ⟨tD [1, (N : Int) - 2, 1], tD [1, (N : Int) - 2, 1], dp_tup (eC2.tupI hT2), dp_tup ⟨t2, rfl, .inl (.inl upd_same)⟩, shp_tup _, shp_tup _, ?_⟩
    rw [eqv_tD, decide_eq_true rfl]
    refine ⟨false, rfl, iteF ?_⟩
    have PK_ := PJ.trans ((eAC.trans (eA2.trans (eB2.trans eC2))).epn PJ.pen)
    exact ⟨Epn.ext (e3.trans e4) hn3 PK_, _, _, _, _, _, _, _, _, _, _, _, rfl⟩
end
end Lf

set_option maxHeartbeats 4000000
namespace Lf
open PySem PySem.Spec PyProof.Rows L2 GxR GxA SrT
/-- a def of the top, by what the written part says of it -/
theorem def_mk {K : PySem.W.Frag} {h : Heap} {mg : Str → Option Value} {x : Str} {st : Stmt} {ps : List Str} {f c : Addr} {oc : Value} {od an : Option Addr} {osl : Array (Option Value)} {kV doc pm ct : Value} (X : K.In h) (G : h.Ns mainGlobals mg) (a : PySem.W.nsIn K mainGlobals x = some (some (.ref f)))
    (l : K.lookup f = some ⟨oc, od, .func (PySem.W.fnOf x x (defArgs st) (defBody st) (defScope st) .none kV doc pm an (.ref c) ct), osl⟩) (cI : PySem.W.codeIn K (.ref c) x = true) (kI : PySem.W.keepIn K (.ref f) = true)
    (hb : ∀ (kV doc pm : Value) (an : Option Addr) (cdv ct : Value) (us : List Value), us.length = ps.length → bindArgs (PySem.W.fnOf x x (defArgs st) (defBody st) (defScope st) .none kV doc pm an cdv ct) ⟨us, []⟩ = pure (ps.zip us)) :
    Def K mg x st ps f (PySem.W.fnOf x x (defArgs st) (defBody st) (defScope st) .none kV doc pm an (.ref c) ct) c :=
  ⟨⟨⟨oc, od, kV, doc, pm, an, ct, osl, rfl, l, cI⟩, kI⟩, .all (hb kV doc pm an (.ref c) ct), PySem.W.mg_of X G a⟩
/-- the table of a def's code object is empty at the law's call -/
theorem tab_at {K : PySem.W.Frag} {h : Heap} {mg mb : Str → Option Value} {q : Program} {loose : List Str} {mean : ExcName → Option Value} {x : Str} {f c Pt : Addr} {oc e : Value} {od dd : Option Addr} {osl sl : Array (Option Value)} {fd : FuncData} {vs : Array Value} (T : PyProof.Rows.Top q loose mean mg mb h) (X : K.In h)
    (hr : ((PyProof.Rows.recsOf q).any fun e => e.name == x) = true) (hm : mg x = some (.ref f)) (l : K.lookup f = some ⟨oc, od, .func fd, osl⟩) (hc : fd.code = .ref c) (lc : K.lookup c = some ⟨e, dd, .fields vs, sl⟩) (hv : vs[11]? = some (.ref Pt)) :
    PySem.W.CodeHd h c Pt ∧ h.get? Pt = some { cls := .none, data := .fields #[] } := by
  obtain ⟨dL, hmem, hn1⟩ := List.any_eq_true.mp hr
  have hn2 : dL.name = x := beq_iff_eq.mp hn1
  obtain ⟨a', o', fd', c', P', h1, h2, h3, h4, h5, h6⟩ := T.tab dL hmem
  rw [hn2, hm] at h1
  cases h1
  have g1 := X _ _ l
  rw [g1] at h2
  cases h2
  cases h3
  rw [hc] at h4
  cases h4
  have hd := PySem.W.CodeHd.of h5 h6
  obtain ⟨⟨ob, vc, e1, _, e3, e4⟩, hP⟩ := h6
  have g2 := X _ _ lc
  rw [g2] at e1
  cases e1
  cases e3
  rw [hv] at e4
  cases e4
  exact ⟨hd, hP⟩
theorem tabB_of {base : Heap} {mg : Str → Option Value} {c Pt : Addr} (t : LamX.TabB base mg c Pt) : GxR.TabB base mg c Pt := ⟨t.code, t.bm, t.gP⟩
theorem tabG_nil {H : Hp} {Pt : Addr} (h : H Pt = some (.tbl #[])) : TabG H Pt := ⟨#[], h, trivial⟩

theorem walk_tabs {l : PySem.W.OpenLaw} {n k : Nat} {q : Program} {loose : List Str} {XP : (Str → Option Value) → Heap → Prop} {YP : World → Heap → Prop} {d : DefRec} {K : Params → PySem.W.Frag} {CX : World → CXT} {x : Str}
    (hn : l.most = some n) (hn2 : n ≤ sizeLine) (hdf : d.params.defaults = []) (hr : Room k callerA) (hY : ∀ (w : World) (h : Heap), YP w h → (K w.params).In h)
    (F : ∀ (w : World) (mg mb : Str → Option Value) (mean : ExcName → Option Value) (fa : Addr) (h : Heap), PyProof.Rows.Top q (PySem.W.looseW q loose) mean mg mb h → (K w.params).In h → mg d.name = some (.ref fa) → LamX.LawAtS l w (K w.params) (CX w) k n x mg fa h)
    (hCX : ∀ (w : World) (H : Hp) (s : Shared) (e : Value) (s' : Shared), CX w [] H s (fun _ _ _ => False) e s' → False) :
    PySem.W.WalkO q loose XP YP l.row.toRowW d [] (fun f vs => PySem.call f vs) := by
  refine Att.attach_callB hn hdf fun w s₀ s₁ mg mb fa o pm cd doc a vs ns G Y ho hd hcd hmg hobj hints hlen hbits hg => ?_
  have KX := hY w _ Y
  obtain ⟨fd, cs, sp, hT, nT, C, hb, hsp, hF⟩ := F w mg mb _ fa _ G.T KX hmg
  exact LamX.law_callTs KX G.T.g G.T.b G.T.builtins G.T.nolimit hg hT nT C G.T.bmain hobj hints (Nat.le_trans hlen hn2) hr hF hb (fun H hH hS => hsp H a ns hlen hbits hH hS) fun H e s' => hCX w H s₁ e s'
theorem tbs_apart {g : List Addr} {l : List (Addr × Str)} (h : (l.map (·.1) ++ g).Nodup) : ∀ p ∈ l, p.1 ∉ g := fun p hp hg =>
  (List.nodup_append.mp h).2.2 p.1 (List.mem_map.mpr ⟨p, hp, rfl⟩) p.1 hg rfl
theorem tbs_one : ∀ {l : List (Addr × Str)}, (l.map (·.1)).Nodup → ∀ p ∈ l, ∀ q ∈ l, p.1 = q.1 → p.2 = q.2
  | [], _, p, hp, _, _, _ => nomatch hp
  | a :: l, h, p, hp, q, hq, e => by
    rw [List.map_cons, List.nodup_cons] at h
    rcases List.mem_cons.mp hp with e1 | h1
    · rcases List.mem_cons.mp hq with e2 | h2
      · rw [e1, e2]
      · have z : a.1 ∈ l.map (·.1) := List.mem_map.mpr ⟨q, h2, by rw [← e, e1]⟩
        exact absurd z h.1
    · rcases List.mem_cons.mp hq with e2 | h2
      · have z : a.1 ∈ l.map (·.1) := List.mem_map.mpr ⟨p, h1, by rw [e, e2]⟩
        exact absurd z h.1
      · exact tbs_one h.2 p h1 q h2 e
/-- the tables, by their addresses -/
def mkTbs (g : List Addr) (l : List (Addr × Str)) (h : (l.map (·.1) ++ g).Nodup) : Tbs := ⟨g, l, tbs_apart h, tbs_one (List.nodup_append.mp h).1⟩
theorem mkTbs_tb {g : List Addr} {l : List (Addr × Str)} {h : (l.map (·.1) ++ g).Nodup} {H : Hp} (hg : ∀ P ∈ g, H P = some (.tbl #[])) (hl : ∀ p ∈ l, H p.1 = some (.tbl #[])) : Tb (mkTbs g l h) H :=
  ⟨fun P hP => tabG_nil (hg P hP), fun p hp => LamX.TabS.nil (hl p hp)⟩
end Lf

set_option maxHeartbeats 4000000
namespace Lf
open PySem PySem.Spec PyProof.Rows L2 GxR GxA SrT

theorem all_ok {P : Program} {w : World} {K : PySem.W.Frag} {mg : Str → Option Value} {base : Heap} {Ps : Tbs} {f1 c1 f2 c2 f3 c3 f4 c4 f5 c5 f6 c6 f7 c7 f8 c8 f9 c9 f10 c10 f11 c11 f12 c12 f13 c13 f14 c14 f15 c15 f16 c16 f17 c17 f18 c18 f19 c19 f20 c20 f21 c21 f22 c22 f23 c23 f24 c24 f25 c25 f26 c26 f27 c27 f28 c28 f29 c29 f30 c30 f31 c31 f32 c32 f33 c33 f34 c34 f35 c35 f36 c36 f37 c37 f38 c38 f39 c39 f40 c40 f41 c41 f42 c42 f43 c43 f44 c44 f45 c45 f46 c46 f47 c47 f48 c48 f49 c49 f50 c50 f51 c51 f52 c52 f53 c53 f54 c54 f55 c55 f56 c56 : Addr} {d1 d2 d3 d4 d5 d6 d7 d8 d9 d10 d11 d12 d13 d14 d15 d16 d17 d18 d19 d20 d21 d22 d23 d24 d25 d26 d27 d28 d29 d30 d31 d32 d33 d34 d35 d36 d37 d38 d39 d40 d41 d42 d43 d44 d45 d46 d47 d48 d49 d50 d51 d52 d53 d54 d55 d56 : FuncData} {P3 P4 P7 P8 P12 P22 : Addr} {t_MOST_POINTS t_MOST_IN_FACE t_MOST_FACES : Tok}
    (D1 : Def K mg "is_within" sWithin ["thing", "least", "most"] f1 d1 c1)
    (D2 : Def K mg "need_within" sNeedWithin ["number", "least", "most"] f2 d2 c2)
    (D3 : Def K mg "all_below" sBelow ["thing", "many"] f3 d3 c3)
    (D4 : Def K mg "rises" sRises ["things"] f4 d4 c4)
    (D5 : Def K mg "is_rising" sRising ["thing", "many"] f5 d5 c5)
    (D6 : Def K mg "is_each_once" sEach ["thing", "many"] f6 d6 c6)
    (D7 : Def K mg "has_all" sHasAll ["face", "points"] f7 d7 c7)
    (D8 : Def K mg "in_some" sInSome ["points", "faces"] f8 d8 c8)
    (D9 : Def K mg "less" sLess ["face", "points"] f9 d9 c9)
    (D10 : Def K mg "parts_in" sParts ["face"] f10 d10 c10)
    (D11 : Def K mg "is_stack" sIsStack ["thing"] f11 d11 c11)
    (D12 : Def K mg "are_faces" sAreFaces ["n", "k", "thing"] f12 d12 c12)
    (D13 : Def K mg "need_stack" sNeedStack ["stack"] f13 d13 c13)
    (D14 : Def K mg "parts_of" sPartsOf ["stack", "many"] f14 d14 c14)
    (D15 : Def K mg "counts" sCounts ["stack"] f15 d15 c15)
    (D16 : Def K mg "full_stack" sFull ["n", "k"] f16 d16 c16)
    (D17 : Def K mg "pairs_stack" sPairs ["d"] f17 d17 c17)
    (D18 : Def K mg "steps" sSteps ["n"] f18 d18 c18)
    (D19 : Def K mg "row_stack" sRow ["n"] f19 d19 c19)
    (D20 : Def K mg "ring_stack" sRing ["n"] f20 d20 c20)
    (D21 : Def K mg "put_for" sPutFor ["face", "point", "other"] f21 d21 c21)
    (D22 : Def K mg "may_trade" sMayTr ["faces", "first", "second", "point"] f22 d22 c22)
    (D23 : Def K mg "first_untraded" sUnT ["stack"] f23 d23 c23)
    (D24 : Def K mg "first_unpushed" sUnP ["stack"] f24 d24 c24)
    (D25 : Def K mg "plain_order" sPlain ["stack"] f25 d25 c25)
    (D26 : Def K mg "need_names" sNeedNames ["stack", "names"] f26 d26 c26)
    (D27 : Def K mg "told_by" sToldBy ["face", "names"] f27 d27 c27)
    (D28 : Def K mg "named_order" sNOrd ["stack", "names"] f28 d28 c28)
    (D29 : Def K mg "faces_at" sFacesAt ["stack", "lot"] f29 d29 c29)
    (D30 : Def K mg "brought_on" sBrOn ["laid", "face"] f30 d30 c30)
    (D31 : Def K mg "lies_on" sLies ["laid", "face"] f31 d31 c31)
    (D32 : Def K mg "is_row" sIsRow ["stack", "thing"] f32 d32 c32)
    (D33 : Def K mg "wrong_place" sWrong ["stack", "row"] f33 d33 c33)
    (D34 : Def K mg "is_order" sIsOrder ["stack", "thing"] f34 d34 c34)
    (D35 : Def K mg "picks" sPicks ["many", "few"] f35 d35 c35)
    (D36 : Def K mg "signed" sSigned ["number", "many"] f36 d36 c36)
    (D37 : Def K mg "told" sTold ["stack"] f37 d37 c37)
    (D38 : Def K mg "named" sNamed ["stack", "names"] f38 d38 c38)
    (D39 : Def K mg "_law_cell" sCell ["_law_script", "_law_k"] f39 d39 c39)
    (D40 : Def K mg "_law_pen" sPen ["_law_cell_here"] f40 d40 c40)
    (D41 : Def K mg "_law_draw" sDraw ["_law_pen_here", "_law_many"] f41 d41 c41)
    (D42 : Def K mg "_law_every" sEveryL ["_law_n", "_law_k"] f42 d42 c42)
    (D43 : Def K mg "_law_size" sSize ["_law_pen_here"] f43 d43 c43)
    (D44 : Def K mg "_law_made" sMade ["_law_n", "_law_k", "_law_faces"] f44 d44 c44)
    (D45 : Def K mg "_law_drawn" sDrawn ["_law_pen_here", "_law_n", "_law_k", "_law_most"] f45 d45 c45)
    (D46 : Def K mg "_law_common" sCommon ["_law_one", "_law_other"] f46 d46 c46)
    (D47 : Def K mg "_law_may" sMayN ["_law_laid", "_law_face"] f47 d47 c47)
    (D48 : Def K mg "_law_grown" sGrown ["_law_pen_here", "_law_n", "_law_k", "_law_most"] f48 d48 c48)
    (D49 : Def K mg "_law_pairs" sPairsL ["_law_d"] f49 d49 c49)
    (D50 : Def K mg "_law_kindly" sKindly ["_law_pen_here", "_law_most"] f50 d50 c50)
    (D51 : Def K mg "_law_stack" sStackN ["_law_pen_here", "_law_most"] f51 d51 c51)
    (D52 : Def K mg "_law_names" sNames ["_law_pen_here", "_law_n"] f52 d52 c52)
    (D53 : Def K mg "_law_pushed" sPushed ["_law_pen_here", "_law_n", "_law_k"] f53 d53 c53)
    (D54 : Def K mg "_law_sorted_kind" sSortK ["_law_pen_here"] f54 d54 c54)
    (D55 : Def K mg "_law_picks" sLPicks ["_law_many", "_law_few"] f55 d55 c55)
    (D56 : Def K mg "law" sLaw ["_law_script"] f56 d56 c56)
    (B3 : TabB base mg c3 P3) (M3 : P3 ∈ Ps)
    (B4 : TabB base mg c4 P4) (M4 : P4 ∈ Ps)
    (B7 : TabB base mg c7 P7) (M7 : P7 ∈ Ps)
    (B8 : TabB base mg c8 P8) (M8 : P8 ∈ Ps)
    (B12 : TabB base mg c12 P12) (M12 : P12 ∈ Ps)
    (B22 : TabB base mg c22 P22) (M22 : P22 ∈ Ps)
    (m_isinstance : mg "isinstance" = none)
    (m_int : mg "int" = none)
    (m_bool : mg "bool" = none)
    (m_tuple : mg "tuple" = none)
    (m_all : mg "all" = none)
    (m_any : mg "any" = none)
    (m_range : mg "range" = none)
    (m_len : mg "len" = none)
    (m_sorted : mg "sorted" = none)
    (m_min : mg "min" = none)
    (m_max : mg "max" = none)
    (m_list : mg "list" = none)
    (m_enumerate : mg "enumerate" = none)
    (m_sum : mg "sum" = none)
    (n_MOST_POINTS : mg "MOST_POINTS" = some (.int 8 t_MOST_POINTS))
    (n_MOST_IN_FACE : mg "MOST_IN_FACE" = some (.int 4 t_MOST_IN_FACE))
    (n_MOST_FACES : mg "MOST_FACES" = some (.int 70 t_MOST_FACES)) :
    FnOk P w K mg base CX0 12 f56 d56 ["_law_script"] (spLaw K Ps) := by
  have within : FnOk P w K mg base CX0 1 f1 d1 ["thing", "least", "most"] spWithin := ok_within (k := 0) D1 m_isinstance m_int m_bool
  have below : FnOk P w K mg base CX0 3 f3 d3 ["thing", "many"] (spBelow K Ps) := ok_below (k := 0) D3 D1 B3 M3 m_isinstance m_int m_bool m_tuple m_all
  have rises : FnOk P w K mg base CX0 2 f4 d4 ["things"] (spRises K Ps) := ok_rises (k := 0) D4 B4 M4 m_all m_range m_len
  have rising : FnOk P w K mg base CX0 4 f5 d5 ["thing", "many"] (spRising K Ps) := ok_rising (k := 0) D5 D3 D4 below (rises.mono (by decide))
  have areFaces : FnOk P w K mg base CX0 6 f12 d12 ["n", "k", "thing"] (spAreFaces K Ps) := ok_areFaces (k := 4) D12 D5 rising D4 (rises.mono (by decide)) B12 M12 m_isinstance m_tuple m_len m_all n_MOST_FACES
  have isStack : FnOk P w K mg base CX0 7 f11 d11 ["thing"] (spIsStack K Ps) := ok_isStack D11 D1 (within.mono (by decide)) D12 areFaces m_isinstance m_tuple m_len m_min n_MOST_POINTS n_MOST_IN_FACE
  have needStack : FnOk P w K mg base CX0 8 f13 d13 ["stack"] (spNeedStack K Ps) := ok_needStack D13 D11 isStack
  have needWithin : FnOk P w K mg base CX0 2 f2 d2 ["number", "least", "most"] spNeedWithin := ok_needWithin D2 D1 within
  have hasAll : FnOk P w K mg base CX0 2 f7 d7 ["face", "points"] (spHasAll K Ps) := ok_hasAll (k := 0) D7 B7 M7 m_all
  have inSome : FnOk P w K mg base CX0 4 f8 d8 ["points", "faces"] (spInSome K Ps) := ok_inSome (k := 0) D8 D7 hasAll B8 M8 m_any
  have less : FnOk P w K mg base CX0 1 f9 d9 ["face", "points"] (spLess K Ps) := ok_less (k := 0) D9 m_tuple
  have partsH : FnOk P w K mg base CX0 1 f10 d10 ["face"] (spPartsH K Ps) := ok_partsH (k := 0) D10 m_sorted
  have facesAtF : FnOk P w K mg base CX0 1 f29 d29 ["stack", "lot"] (spFacesAtF K Ps) := ok_facesAtF (k := 0) D29
  have facesAt : FnOk P w K mg base CX0 1 f29 d29 ["stack", "lot"] (spFacesAt K Ps) := ok_facesAt (k := 0) D29
  have brOn : FnOk P w K mg base CX0 5 f30 d30 ["laid", "face"] (spBrOn K Ps) := ok_brOn D30 D8 inSome D9 (less.mono (by decide)) m_tuple
  have lies : FnOk P w K mg base CX0 6 f31 d31 ["laid", "face"] (spLies K Ps) := ok_lies D31 D8 (inSome.mono (by decide)) D30 brOn
  have each : FnOk P w K mg base CX0 4 f6 d6 ["thing", "many"] (spEach K Ps) := ok_each D6 D3 below m_sorted m_list m_range
  have isRow : FnOk P w K mg base CX0 5 f32 d32 ["stack", "thing"] (spIsRow K Ps) := ok_isRow D32 D6 each m_len
  have wrong : FnOk P w K mg base CX0 7 f33 d33 ["stack", "row"] (spWrong K Ps) := ok_wrong D33 D29 (facesAtF.mono (by decide)) D31 lies m_enumerate
  have isOrder : FnOk P w K mg base CX0 9 f34 d34 ["stack", "thing"] (spIsOrder K Ps) := ok_isOrder D34 D13 needStack D32 (isRow.mono (by decide)) D33 (wrong.mono (by decide))
  have picks_ : FnOk P w K mg base CX0 1 f35 d35 ["many", "few"] spPicks := ok_picks (k := 0) D35 m_range
  have signed_ : FnOk P w K mg base CX0 1 f36 d36 ["number", "many"] spSigned := ok_signed (k := 0) D36
  have cell : FnOk P w K mg base CX0 1 f39 d39 ["_law_script", "_law_k"] (spCell K) := ok_cell (k := 0) D39 m_len
  have pen : FnOk P w K mg base CX0 1 f40 d40 ["_law_cell_here"] (spPen Ps) := ok_pen (k := 0) D40 m_int
  have draw : FnOk P w K mg base CX0 1 f41 d41 ["_law_pen_here", "_law_many"] spDraw := ok_draw (k := 0) D41
  have withinX : FnOk P w K mg base CX0 1 f1 d1 ["thing", "least", "most"] (spWithinX K) := ok_withinX (k := 0) D1 m_isinstance m_int m_bool
  have belowX : FnOk P w K mg base CX0 3 f3 d3 ["thing", "many"] (spBelowX K Ps) := ok_belowX (k := 0) D3 D1 B3 M3 m_isinstance m_int m_bool m_tuple m_all
  have eachX : FnOk P w K mg base CX0 4 f6 d6 ["thing", "many"] (spEachX K Ps) := ok_eachX D6 D3 belowX m_sorted m_list m_range
  have every_ : FnOk P w K mg base CX0 1 f42 d42 ["_law_n", "_law_k"] (spEveryK K Ps) := ok_everyL (k := 0) D42 m_range m_len m_sorted
  have made_ : FnOk P w K mg base CX0 1 f44 d44 ["_law_n", "_law_k", "_law_faces"] (spMade K Ps) := ok_made (k := 0) D44 m_tuple m_sorted
  have pairsL_ : FnOk P w K mg base CX0 1 f49 d49 ["_law_d"] (spPairsL K Ps) := ok_pairsL (k := 0) D49 m_range m_sorted
  have commonE : FnOk P w K mg base CX0 1 f46 d46 ["_law_one", "_law_other"] (spCommonE K Ps) := ok_commonE (k := 0) D46
  have commonLE : FnOk P w K mg base CX0 1 f46 d46 ["_law_one", "_law_other"] (spCommonLE K Ps) := ok_commonLE (k := 0) D46
  have common2 : FnOk P w K mg base CX0 1 f46 d46 ["_law_one", "_law_other"] (spCommon2 K Ps) := fn_or commonE commonLE
  have mayN : FnOk P w K mg base CX0 2 f47 d47 ["_law_laid", "_law_face"] (spMayB K Ps) := ok_mayN D47 D46 common2 m_len
  have size_ : FnOk P w K mg base CX0 2 f43 d43 ["_law_pen_here"] (spSize K Ps) := ok_size D43 D41 draw m_max
  have drawn_ : FnOk P w K mg base CX0 2 f45 d45 ["_law_pen_here", "_law_n", "_law_k", "_law_most"] (spDrawn K Ps) := ok_drawn D45 D41 draw D42 every_ m_min m_range m_len
  have grown_ : FnOk P w K mg base CX0 3 f48 d48 ["_law_pen_here", "_law_n", "_law_k", "_law_most"] (spGrown K Ps) := ok_grown D48 D41 (draw.mono (by decide)) D42 (every_.mono (by decide)) D47 mayN m_range m_len
  have kindly_ : FnOk P w K mg base CX0 2 f50 d50 ["_law_pen_here", "_law_most"] (spStackN K Ps) := ok_kindly D50 D41 draw D42 every_ D49 pairsL_ D44 made_ m_range m_sorted
  have stackN : FnOk P w K mg base CX0 4 f51 d51 ["_law_pen_here", "_law_most"] (spStackN K Ps) := ok_stackN D51 D41 (draw.mono (by decide)) D43 (size_.mono (by decide)) D50 (kindly_.mono (by decide)) D45 (drawn_.mono (by decide)) D48 grown_ D44 (made_.mono (by decide))
  have putF_ : FnOk P w K mg base CX0 2 f21 d21 ["face", "point", "other"] (spPutF K Ps) := ok_putF D21 D9 less m_tuple m_sorted
  have mayTr : FnOk P w K mg base CX0 4 f22 d22 ["faces", "first", "second", "point"] (spMayTr K Ps) := ok_mayTr (k := 2) D22 D9 (less.mono (by decide)) D21 putF_ B22 M22 m_any
  have unT_ : FnOk P w K mg base CX0 9 f23 d23 ["stack"] (spUnT K Ps) := ok_unT D23 D13 needStack D9 (less.mono (by decide)) D22 (mayTr.mono (by decide)) m_enumerate
  have unP_ : FnOk P w K mg base CX0 9 f24 d24 ["stack"] (spUnP K Ps) := ok_unP D24 D13 needStack D9 (less.mono (by decide)) D21 (putF_.mono (by decide)) m_enumerate m_tuple m_range
  have plain0 : FnOk P w K mg base CX0 10 f25 d25 ["stack"] (spPlain0 K Ps) := ok_plain0 D25 D23 unT_ D24 unP_ m_tuple m_range m_len
  have needNames : FnOk P w K mg base CX0 5 f26 d26 ["stack", "names"] (spNeedNames K Ps) := ok_needNames D26 D6 eachX
  have toldBy : FnOk P w K mg base CX0 1 f27 d27 ["face", "names"] (spToldBy K Ps) := ok_toldBy (k := 0) D27 m_tuple m_sorted
  have nOrd : FnOk P w K mg base CX0 10 f28 d28 ["stack", "names"] (spNOrd K Ps) := ok_nOrd D28 D13 (needStack.mono (by decide)) D26 (needNames.mono (by decide)) D23 unT_ D27 (toldBy.mono (by decide)) m_tuple m_sorted m_enumerate
  have named_ : FnOk P w K mg base CX0 9 f38 d38 ["stack", "names"] (spNamed K Ps) := ok_named D38 D13 needStack D26 (needNames.mono (by decide)) D27 (toldBy.mono (by decide)) m_tuple m_sorted
  have partsOfG : FnOk P w K mg base CX0 9 f14 d14 ["stack", "many"] (spPartsOfG K Ps) := ok_partsOfG D14 D13 needStack D2 (needWithin.mono (by decide)) D10 (partsH.mono (by decide)) m_sorted m_len
  have countsG : FnOk P w K mg base CX0 10 f15 d15 ["stack"] (spCountsG K Ps) := ok_countsG D15 D13 (needStack.mono (by decide)) D14 partsOfG m_range m_len m_tuple
  have toldG : FnOk P w K mg base CX0 11 f37 d37 ["stack"] (spToldG K Ps) := ok_toldG D37 D13 (needStack.mono (by decide)) D15 countsG D35 (picks_.mono (by decide)) D36 (signed_.mono (by decide)) m_range m_tuple m_sum
  have parts8 : FnOk P w K mg base CX0 1 f10 d10 ["face"] (spParts8 K Ps) := ok_parts8 (k := 0) D10 m_sorted
  have full : FnOk P w K mg base CX0 3 f16 d16 ["n", "k"] (spFull K Ps) := ok_full D16 D2 needWithin D10 (parts8.mono (by decide)) n_MOST_POINTS n_MOST_IN_FACE m_min m_tuple m_range m_len
  have steps_ : FnOk P w K mg base CX0 1 f18 d18 ["n"] (spSteps K Ps) := ok_steps (k := 0) D18 m_range
  have row_ : FnOk P w K mg base CX0 3 f19 d19 ["n"] (spRow K Ps) := ok_row D19 D2 needWithin D18 (steps_.mono (by decide)) n_MOST_POINTS m_tuple
  have ring_ : FnOk P w K mg base CX0 3 f20 d20 ["n"] (spRing K Ps) := ok_ring D20 D2 needWithin D18 (steps_.mono (by decide)) n_MOST_POINTS m_tuple m_sorted
  have pairs_ : FnOk P w K mg base CX0 3 f17 d17 ["d"] (spPairs K Ps) := ok_pairs D17 D2 needWithin n_MOST_IN_FACE m_tuple m_range
  have pushed_ : FnOk P w K mg base CX0 2 f53 d53 ["_law_pen_here", "_law_n", "_law_k"] (spPushed K Ps) := ok_pushed D53 D41 draw D42 every_ m_range m_len
  have sortK : FnOk P w K mg base CX0 5 f54 d54 ["_law_pen_here"] (spSortK K Ps) := ok_sortK D54 D41 (draw.mono (by decide)) D42 (every_.mono (by decide)) D43 (size_.mono (by decide)) D53 (pushed_.mono (by decide)) D50 (kindly_.mono (by decide)) D51 stackN D44 (made_.mono (by decide)) m_len m_list
  have names_ : FnOk P w K mg base CX0 2 f52 d52 ["_law_pen_here", "_law_n"] (spNames K Ps) := ok_names D52 D41 draw m_tuple m_list m_range m_len
  have lpicks : FnOk P w K mg base CX0 1 f55 d55 ["_law_many", "_law_few"] spLPicks := ok_lpicks (k := 0) D55 m_range
  have lawG : FnOk P w K mg base CX0 12 f56 d56 ["_law_script"] (spLaw K Ps) := ok_law D56 D39 (cell.mono (by decide)) D40 (pen.mono (by decide)) D54 (sortK.mono (by decide)) D52 (names_.mono (by decide)) D25 (plain0.mono (by decide)) D28 (nOrd.mono (by decide)) D34 (isOrder.mono (by decide)) D23 (unT_.mono (by decide)) D38 (named_.mono (by decide)) D41 (draw.mono (by decide)) D55 (lpicks.mono (by decide)) D37 toldG D16 (full.mono (by decide)) D17 (pairs_.mono (by decide)) D19 (row_.mono (by decide)) D20 (ring_.mono (by decide)) m_range m_int m_list m_max m_min
  exact lawG

theorem all_mk {l : PySem.W.OpenLaw} {w : World} {K : PySem.W.Frag} {h : Heap} {mg mb : Str → Option Value} {q : Program} {loose : List Str} {mean : ExcName → Option Value} {fa : Addr} (T : PyProof.Rows.Top q loose mean mg mb h) (X : K.In h) (hfa : mg "law" = some (.ref fa))
    {f1 c1 f2 c2 f3 c3 f4 c4 f5 c5 f6 c6 f7 c7 f8 c8 f9 c9 f10 c10 f11 c11 f12 c12 f13 c13 f14 c14 f15 c15 f16 c16 f17 c17 f18 c18 f19 c19 f20 c20 f21 c21 f22 c22 f23 c23 f24 c24 f25 c25 f26 c26 f27 c27 f28 c28 f29 c29 f30 c30 f31 c31 f32 c32 f33 c33 f34 c34 f35 c35 f36 c36 f37 c37 f38 c38 f39 c39 f40 c40 f41 c41 f42 c42 f43 c43 f44 c44 f45 c45 f46 c46 f47 c47 f48 c48 f49 c49 f50 c50 f51 c51 f52 c52 f53 c53 f54 c54 f55 c55 f56 c56 : Addr} {oc1 kV1 dc1 pm1 ct1 oc2 kV2 dc2 pm2 ct2 oc3 kV3 dc3 pm3 ct3 oc4 kV4 dc4 pm4 ct4 oc5 kV5 dc5 pm5 ct5 oc6 kV6 dc6 pm6 ct6 oc7 kV7 dc7 pm7 ct7 oc8 kV8 dc8 pm8 ct8 oc9 kV9 dc9 pm9 ct9 oc10 kV10 dc10 pm10 ct10 oc11 kV11 dc11 pm11 ct11 oc12 kV12 dc12 pm12 ct12 oc13 kV13 dc13 pm13 ct13 oc14 kV14 dc14 pm14 ct14 oc15 kV15 dc15 pm15 ct15 oc16 kV16 dc16 pm16 ct16 oc17 kV17 dc17 pm17 ct17 oc18 kV18 dc18 pm18 ct18 oc19 kV19 dc19 pm19 ct19 oc20 kV20 dc20 pm20 ct20 oc21 kV21 dc21 pm21 ct21 oc22 kV22 dc22 pm22 ct22 oc23 kV23 dc23 pm23 ct23 oc24 kV24 dc24 pm24 ct24 oc25 kV25 dc25 pm25 ct25 oc26 kV26 dc26 pm26 ct26 oc27 kV27 dc27 pm27 ct27 oc28 kV28 dc28 pm28 ct28 oc29 kV29 dc29 pm29 ct29 oc30 kV30 dc30 pm30 ct30 oc31 kV31 dc31 pm31 ct31 oc32 kV32 dc32 pm32 ct32 oc33 kV33 dc33 pm33 ct33 oc34 kV34 dc34 pm34 ct34 oc35 kV35 dc35 pm35 ct35 oc36 kV36 dc36 pm36 ct36 oc37 kV37 dc37 pm37 ct37 oc38 kV38 dc38 pm38 ct38 oc39 kV39 dc39 pm39 ct39 oc40 kV40 dc40 pm40 ct40 oc41 kV41 dc41 pm41 ct41 oc42 kV42 dc42 pm42 ct42 oc43 kV43 dc43 pm43 ct43 oc44 kV44 dc44 pm44 ct44 oc45 kV45 dc45 pm45 ct45 oc46 kV46 dc46 pm46 ct46 oc47 kV47 dc47 pm47 ct47 oc48 kV48 dc48 pm48 ct48 oc49 kV49 dc49 pm49 ct49 oc50 kV50 dc50 pm50 ct50 oc51 kV51 dc51 pm51 ct51 oc52 kV52 dc52 pm52 ct52 oc53 kV53 dc53 pm53 ct53 oc54 kV54 dc54 pm54 ct54 oc55 kV55 dc55 pm55 ct55 oc56 kV56 dc56 pm56 ct56 : Value} {od1 an1 od2 an2 od3 an3 od4 an4 od5 an5 od6 an6 od7 an7 od8 an8 od9 an9 od10 an10 od11 an11 od12 an12 od13 an13 od14 an14 od15 an15 od16 an16 od17 an17 od18 an18 od19 an19 od20 an20 od21 an21 od22 an22 od23 an23 od24 an24 od25 an25 od26 an26 od27 an27 od28 an28 od29 an29 od30 an30 od31 an31 od32 an32 od33 an33 od34 an34 od35 an35 od36 an36 od37 an37 od38 an38 od39 an39 od40 an40 od41 an41 od42 an42 od43 an43 od44 an44 od45 an45 od46 an46 od47 an47 od48 an48 od49 an49 od50 an50 od51 an51 od52 an52 od53 an53 od54 an54 od55 an55 od56 an56 : Option Addr} {sl1 sl2 sl3 sl4 sl5 sl6 sl7 sl8 sl9 sl10 sl11 sl12 sl13 sl14 sl15 sl16 sl17 sl18 sl19 sl20 sl21 sl22 sl23 sl24 sl25 sl26 sl27 sl28 sl29 sl30 sl31 sl32 sl33 sl34 sl35 sl36 sl37 sl38 sl39 sl40 sl41 sl42 sl43 sl44 sl45 sl46 sl47 sl48 sl49 sl50 sl51 sl52 sl53 sl54 sl55 sl56 : Array (Option Value)}
    {P3 P4 P7 P8 P12 P22 : Addr} {te3 te4 te7 te8 te12 te22 : Value} {td3 td4 td7 td8 td12 td22 : Option Addr} {tv3 tv4 tv7 tv8 tv12 tv22 : Array Value} {ts3 ts4 ts7 ts8 ts12 ts22 : Array (Option Value)} {t_MOST_POINTS t_MOST_IN_FACE t_MOST_FACES : Tok}
    (a1 : PySem.W.nsIn K mainGlobals "is_within" = some (some (.ref f1))) (l1 : K.lookup f1 = some ⟨oc1, od1, .func (PySem.W.fnOf "is_within" "is_within" (defArgs sWithin) (defBody sWithin) (defScope sWithin) .none kV1 dc1 pm1 an1 (.ref c1) ct1), sl1⟩) (i1 : PySem.W.codeIn K (.ref c1) "is_within" = true) (k1 : PySem.W.keepIn K (.ref f1) = true)
    (a2 : PySem.W.nsIn K mainGlobals "need_within" = some (some (.ref f2))) (l2 : K.lookup f2 = some ⟨oc2, od2, .func (PySem.W.fnOf "need_within" "need_within" (defArgs sNeedWithin) (defBody sNeedWithin) (defScope sNeedWithin) .none kV2 dc2 pm2 an2 (.ref c2) ct2), sl2⟩) (i2 : PySem.W.codeIn K (.ref c2) "need_within" = true) (k2 : PySem.W.keepIn K (.ref f2) = true)
    (a3 : PySem.W.nsIn K mainGlobals "all_below" = some (some (.ref f3))) (l3 : K.lookup f3 = some ⟨oc3, od3, .func (PySem.W.fnOf "all_below" "all_below" (defArgs sBelow) (defBody sBelow) (defScope sBelow) .none kV3 dc3 pm3 an3 (.ref c3) ct3), sl3⟩) (i3 : PySem.W.codeIn K (.ref c3) "all_below" = true) (k3 : PySem.W.keepIn K (.ref f3) = true)
    (a4 : PySem.W.nsIn K mainGlobals "rises" = some (some (.ref f4))) (l4 : K.lookup f4 = some ⟨oc4, od4, .func (PySem.W.fnOf "rises" "rises" (defArgs sRises) (defBody sRises) (defScope sRises) .none kV4 dc4 pm4 an4 (.ref c4) ct4), sl4⟩) (i4 : PySem.W.codeIn K (.ref c4) "rises" = true) (k4 : PySem.W.keepIn K (.ref f4) = true)
    (a5 : PySem.W.nsIn K mainGlobals "is_rising" = some (some (.ref f5))) (l5 : K.lookup f5 = some ⟨oc5, od5, .func (PySem.W.fnOf "is_rising" "is_rising" (defArgs sRising) (defBody sRising) (defScope sRising) .none kV5 dc5 pm5 an5 (.ref c5) ct5), sl5⟩) (i5 : PySem.W.codeIn K (.ref c5) "is_rising" = true) (k5 : PySem.W.keepIn K (.ref f5) = true)
    (a6 : PySem.W.nsIn K mainGlobals "is_each_once" = some (some (.ref f6))) (l6 : K.lookup f6 = some ⟨oc6, od6, .func (PySem.W.fnOf "is_each_once" "is_each_once" (defArgs sEach) (defBody sEach) (defScope sEach) .none kV6 dc6 pm6 an6 (.ref c6) ct6), sl6⟩) (i6 : PySem.W.codeIn K (.ref c6) "is_each_once" = true) (k6 : PySem.W.keepIn K (.ref f6) = true)
    (a7 : PySem.W.nsIn K mainGlobals "has_all" = some (some (.ref f7))) (l7 : K.lookup f7 = some ⟨oc7, od7, .func (PySem.W.fnOf "has_all" "has_all" (defArgs sHasAll) (defBody sHasAll) (defScope sHasAll) .none kV7 dc7 pm7 an7 (.ref c7) ct7), sl7⟩) (i7 : PySem.W.codeIn K (.ref c7) "has_all" = true) (k7 : PySem.W.keepIn K (.ref f7) = true)
    (a8 : PySem.W.nsIn K mainGlobals "in_some" = some (some (.ref f8))) (l8 : K.lookup f8 = some ⟨oc8, od8, .func (PySem.W.fnOf "in_some" "in_some" (defArgs sInSome) (defBody sInSome) (defScope sInSome) .none kV8 dc8 pm8 an8 (.ref c8) ct8), sl8⟩) (i8 : PySem.W.codeIn K (.ref c8) "in_some" = true) (k8 : PySem.W.keepIn K (.ref f8) = true)
    (a9 : PySem.W.nsIn K mainGlobals "less" = some (some (.ref f9))) (l9 : K.lookup f9 = some ⟨oc9, od9, .func (PySem.W.fnOf "less" "less" (defArgs sLess) (defBody sLess) (defScope sLess) .none kV9 dc9 pm9 an9 (.ref c9) ct9), sl9⟩) (i9 : PySem.W.codeIn K (.ref c9) "less" = true) (k9 : PySem.W.keepIn K (.ref f9) = true)
    (a10 : PySem.W.nsIn K mainGlobals "parts_in" = some (some (.ref f10))) (l10 : K.lookup f10 = some ⟨oc10, od10, .func (PySem.W.fnOf "parts_in" "parts_in" (defArgs sParts) (defBody sParts) (defScope sParts) .none kV10 dc10 pm10 an10 (.ref c10) ct10), sl10⟩) (i10 : PySem.W.codeIn K (.ref c10) "parts_in" = true) (k10 : PySem.W.keepIn K (.ref f10) = true)
    (a11 : PySem.W.nsIn K mainGlobals "is_stack" = some (some (.ref f11))) (l11 : K.lookup f11 = some ⟨oc11, od11, .func (PySem.W.fnOf "is_stack" "is_stack" (defArgs sIsStack) (defBody sIsStack) (defScope sIsStack) .none kV11 dc11 pm11 an11 (.ref c11) ct11), sl11⟩) (i11 : PySem.W.codeIn K (.ref c11) "is_stack" = true) (k11 : PySem.W.keepIn K (.ref f11) = true)
    (a12 : PySem.W.nsIn K mainGlobals "are_faces" = some (some (.ref f12))) (l12 : K.lookup f12 = some ⟨oc12, od12, .func (PySem.W.fnOf "are_faces" "are_faces" (defArgs sAreFaces) (defBody sAreFaces) (defScope sAreFaces) .none kV12 dc12 pm12 an12 (.ref c12) ct12), sl12⟩) (i12 : PySem.W.codeIn K (.ref c12) "are_faces" = true) (k12 : PySem.W.keepIn K (.ref f12) = true)
    (a13 : PySem.W.nsIn K mainGlobals "need_stack" = some (some (.ref f13))) (l13 : K.lookup f13 = some ⟨oc13, od13, .func (PySem.W.fnOf "need_stack" "need_stack" (defArgs sNeedStack) (defBody sNeedStack) (defScope sNeedStack) .none kV13 dc13 pm13 an13 (.ref c13) ct13), sl13⟩) (i13 : PySem.W.codeIn K (.ref c13) "need_stack" = true) (k13 : PySem.W.keepIn K (.ref f13) = true)
    (a14 : PySem.W.nsIn K mainGlobals "parts_of" = some (some (.ref f14))) (l14 : K.lookup f14 = some ⟨oc14, od14, .func (PySem.W.fnOf "parts_of" "parts_of" (defArgs sPartsOf) (defBody sPartsOf) (defScope sPartsOf) .none kV14 dc14 pm14 an14 (.ref c14) ct14), sl14⟩) (i14 : PySem.W.codeIn K (.ref c14) "parts_of" = true) (k14 : PySem.W.keepIn K (.ref f14) = true)
    (a15 : PySem.W.nsIn K mainGlobals "counts" = some (some (.ref f15))) (l15 : K.lookup f15 = some ⟨oc15, od15, .func (PySem.W.fnOf "counts" "counts" (defArgs sCounts) (defBody sCounts) (defScope sCounts) .none kV15 dc15 pm15 an15 (.ref c15) ct15), sl15⟩) (i15 : PySem.W.codeIn K (.ref c15) "counts" = true) (k15 : PySem.W.keepIn K (.ref f15) = true)
    (a16 : PySem.W.nsIn K mainGlobals "full_stack" = some (some (.ref f16))) (l16 : K.lookup f16 = some ⟨oc16, od16, .func (PySem.W.fnOf "full_stack" "full_stack" (defArgs sFull) (defBody sFull) (defScope sFull) .none kV16 dc16 pm16 an16 (.ref c16) ct16), sl16⟩) (i16 : PySem.W.codeIn K (.ref c16) "full_stack" = true) (k16 : PySem.W.keepIn K (.ref f16) = true)
    (a17 : PySem.W.nsIn K mainGlobals "pairs_stack" = some (some (.ref f17))) (l17 : K.lookup f17 = some ⟨oc17, od17, .func (PySem.W.fnOf "pairs_stack" "pairs_stack" (defArgs sPairs) (defBody sPairs) (defScope sPairs) .none kV17 dc17 pm17 an17 (.ref c17) ct17), sl17⟩) (i17 : PySem.W.codeIn K (.ref c17) "pairs_stack" = true) (k17 : PySem.W.keepIn K (.ref f17) = true)
    (a18 : PySem.W.nsIn K mainGlobals "steps" = some (some (.ref f18))) (l18 : K.lookup f18 = some ⟨oc18, od18, .func (PySem.W.fnOf "steps" "steps" (defArgs sSteps) (defBody sSteps) (defScope sSteps) .none kV18 dc18 pm18 an18 (.ref c18) ct18), sl18⟩) (i18 : PySem.W.codeIn K (.ref c18) "steps" = true) (k18 : PySem.W.keepIn K (.ref f18) = true)
    (a19 : PySem.W.nsIn K mainGlobals "row_stack" = some (some (.ref f19))) (l19 : K.lookup f19 = some ⟨oc19, od19, .func (PySem.W.fnOf "row_stack" "row_stack" (defArgs sRow) (defBody sRow) (defScope sRow) .none kV19 dc19 pm19 an19 (.ref c19) ct19), sl19⟩) (i19 : PySem.W.codeIn K (.ref c19) "row_stack" = true) (k19 : PySem.W.keepIn K (.ref f19) = true)
    (a20 : PySem.W.nsIn K mainGlobals "ring_stack" = some (some (.ref f20))) (l20 : K.lookup f20 = some ⟨oc20, od20, .func (PySem.W.fnOf "ring_stack" "ring_stack" (defArgs sRing) (defBody sRing) (defScope sRing) .none kV20 dc20 pm20 an20 (.ref c20) ct20), sl20⟩) (i20 : PySem.W.codeIn K (.ref c20) "ring_stack" = true) (k20 : PySem.W.keepIn K (.ref f20) = true)
    (a21 : PySem.W.nsIn K mainGlobals "put_for" = some (some (.ref f21))) (l21 : K.lookup f21 = some ⟨oc21, od21, .func (PySem.W.fnOf "put_for" "put_for" (defArgs sPutFor) (defBody sPutFor) (defScope sPutFor) .none kV21 dc21 pm21 an21 (.ref c21) ct21), sl21⟩) (i21 : PySem.W.codeIn K (.ref c21) "put_for" = true) (k21 : PySem.W.keepIn K (.ref f21) = true)
    (a22 : PySem.W.nsIn K mainGlobals "may_trade" = some (some (.ref f22))) (l22 : K.lookup f22 = some ⟨oc22, od22, .func (PySem.W.fnOf "may_trade" "may_trade" (defArgs sMayTr) (defBody sMayTr) (defScope sMayTr) .none kV22 dc22 pm22 an22 (.ref c22) ct22), sl22⟩) (i22 : PySem.W.codeIn K (.ref c22) "may_trade" = true) (k22 : PySem.W.keepIn K (.ref f22) = true)
    (a23 : PySem.W.nsIn K mainGlobals "first_untraded" = some (some (.ref f23))) (l23 : K.lookup f23 = some ⟨oc23, od23, .func (PySem.W.fnOf "first_untraded" "first_untraded" (defArgs sUnT) (defBody sUnT) (defScope sUnT) .none kV23 dc23 pm23 an23 (.ref c23) ct23), sl23⟩) (i23 : PySem.W.codeIn K (.ref c23) "first_untraded" = true) (k23 : PySem.W.keepIn K (.ref f23) = true)
    (a24 : PySem.W.nsIn K mainGlobals "first_unpushed" = some (some (.ref f24))) (l24 : K.lookup f24 = some ⟨oc24, od24, .func (PySem.W.fnOf "first_unpushed" "first_unpushed" (defArgs sUnP) (defBody sUnP) (defScope sUnP) .none kV24 dc24 pm24 an24 (.ref c24) ct24), sl24⟩) (i24 : PySem.W.codeIn K (.ref c24) "first_unpushed" = true) (k24 : PySem.W.keepIn K (.ref f24) = true)
    (a25 : PySem.W.nsIn K mainGlobals "plain_order" = some (some (.ref f25))) (l25 : K.lookup f25 = some ⟨oc25, od25, .func (PySem.W.fnOf "plain_order" "plain_order" (defArgs sPlain) (defBody sPlain) (defScope sPlain) .none kV25 dc25 pm25 an25 (.ref c25) ct25), sl25⟩) (i25 : PySem.W.codeIn K (.ref c25) "plain_order" = true) (k25 : PySem.W.keepIn K (.ref f25) = true)
    (a26 : PySem.W.nsIn K mainGlobals "need_names" = some (some (.ref f26))) (l26 : K.lookup f26 = some ⟨oc26, od26, .func (PySem.W.fnOf "need_names" "need_names" (defArgs sNeedNames) (defBody sNeedNames) (defScope sNeedNames) .none kV26 dc26 pm26 an26 (.ref c26) ct26), sl26⟩) (i26 : PySem.W.codeIn K (.ref c26) "need_names" = true) (k26 : PySem.W.keepIn K (.ref f26) = true)
    (a27 : PySem.W.nsIn K mainGlobals "told_by" = some (some (.ref f27))) (l27 : K.lookup f27 = some ⟨oc27, od27, .func (PySem.W.fnOf "told_by" "told_by" (defArgs sToldBy) (defBody sToldBy) (defScope sToldBy) .none kV27 dc27 pm27 an27 (.ref c27) ct27), sl27⟩) (i27 : PySem.W.codeIn K (.ref c27) "told_by" = true) (k27 : PySem.W.keepIn K (.ref f27) = true)
    (a28 : PySem.W.nsIn K mainGlobals "named_order" = some (some (.ref f28))) (l28 : K.lookup f28 = some ⟨oc28, od28, .func (PySem.W.fnOf "named_order" "named_order" (defArgs sNOrd) (defBody sNOrd) (defScope sNOrd) .none kV28 dc28 pm28 an28 (.ref c28) ct28), sl28⟩) (i28 : PySem.W.codeIn K (.ref c28) "named_order" = true) (k28 : PySem.W.keepIn K (.ref f28) = true)
    (a29 : PySem.W.nsIn K mainGlobals "faces_at" = some (some (.ref f29))) (l29 : K.lookup f29 = some ⟨oc29, od29, .func (PySem.W.fnOf "faces_at" "faces_at" (defArgs sFacesAt) (defBody sFacesAt) (defScope sFacesAt) .none kV29 dc29 pm29 an29 (.ref c29) ct29), sl29⟩) (i29 : PySem.W.codeIn K (.ref c29) "faces_at" = true) (k29 : PySem.W.keepIn K (.ref f29) = true)
    (a30 : PySem.W.nsIn K mainGlobals "brought_on" = some (some (.ref f30))) (l30 : K.lookup f30 = some ⟨oc30, od30, .func (PySem.W.fnOf "brought_on" "brought_on" (defArgs sBrOn) (defBody sBrOn) (defScope sBrOn) .none kV30 dc30 pm30 an30 (.ref c30) ct30), sl30⟩) (i30 : PySem.W.codeIn K (.ref c30) "brought_on" = true) (k30 : PySem.W.keepIn K (.ref f30) = true)
    (a31 : PySem.W.nsIn K mainGlobals "lies_on" = some (some (.ref f31))) (l31 : K.lookup f31 = some ⟨oc31, od31, .func (PySem.W.fnOf "lies_on" "lies_on" (defArgs sLies) (defBody sLies) (defScope sLies) .none kV31 dc31 pm31 an31 (.ref c31) ct31), sl31⟩) (i31 : PySem.W.codeIn K (.ref c31) "lies_on" = true) (k31 : PySem.W.keepIn K (.ref f31) = true)
    (a32 : PySem.W.nsIn K mainGlobals "is_row" = some (some (.ref f32))) (l32 : K.lookup f32 = some ⟨oc32, od32, .func (PySem.W.fnOf "is_row" "is_row" (defArgs sIsRow) (defBody sIsRow) (defScope sIsRow) .none kV32 dc32 pm32 an32 (.ref c32) ct32), sl32⟩) (i32 : PySem.W.codeIn K (.ref c32) "is_row" = true) (k32 : PySem.W.keepIn K (.ref f32) = true)
    (a33 : PySem.W.nsIn K mainGlobals "wrong_place" = some (some (.ref f33))) (l33 : K.lookup f33 = some ⟨oc33, od33, .func (PySem.W.fnOf "wrong_place" "wrong_place" (defArgs sWrong) (defBody sWrong) (defScope sWrong) .none kV33 dc33 pm33 an33 (.ref c33) ct33), sl33⟩) (i33 : PySem.W.codeIn K (.ref c33) "wrong_place" = true) (k33 : PySem.W.keepIn K (.ref f33) = true)
    (a34 : PySem.W.nsIn K mainGlobals "is_order" = some (some (.ref f34))) (l34 : K.lookup f34 = some ⟨oc34, od34, .func (PySem.W.fnOf "is_order" "is_order" (defArgs sIsOrder) (defBody sIsOrder) (defScope sIsOrder) .none kV34 dc34 pm34 an34 (.ref c34) ct34), sl34⟩) (i34 : PySem.W.codeIn K (.ref c34) "is_order" = true) (k34 : PySem.W.keepIn K (.ref f34) = true)
    (a35 : PySem.W.nsIn K mainGlobals "picks" = some (some (.ref f35))) (l35 : K.lookup f35 = some ⟨oc35, od35, .func (PySem.W.fnOf "picks" "picks" (defArgs sPicks) (defBody sPicks) (defScope sPicks) .none kV35 dc35 pm35 an35 (.ref c35) ct35), sl35⟩) (i35 : PySem.W.codeIn K (.ref c35) "picks" = true) (k35 : PySem.W.keepIn K (.ref f35) = true)
    (a36 : PySem.W.nsIn K mainGlobals "signed" = some (some (.ref f36))) (l36 : K.lookup f36 = some ⟨oc36, od36, .func (PySem.W.fnOf "signed" "signed" (defArgs sSigned) (defBody sSigned) (defScope sSigned) .none kV36 dc36 pm36 an36 (.ref c36) ct36), sl36⟩) (i36 : PySem.W.codeIn K (.ref c36) "signed" = true) (k36 : PySem.W.keepIn K (.ref f36) = true)
    (a37 : PySem.W.nsIn K mainGlobals "told" = some (some (.ref f37))) (l37 : K.lookup f37 = some ⟨oc37, od37, .func (PySem.W.fnOf "told" "told" (defArgs sTold) (defBody sTold) (defScope sTold) .none kV37 dc37 pm37 an37 (.ref c37) ct37), sl37⟩) (i37 : PySem.W.codeIn K (.ref c37) "told" = true) (k37 : PySem.W.keepIn K (.ref f37) = true)
    (a38 : PySem.W.nsIn K mainGlobals "named" = some (some (.ref f38))) (l38 : K.lookup f38 = some ⟨oc38, od38, .func (PySem.W.fnOf "named" "named" (defArgs sNamed) (defBody sNamed) (defScope sNamed) .none kV38 dc38 pm38 an38 (.ref c38) ct38), sl38⟩) (i38 : PySem.W.codeIn K (.ref c38) "named" = true) (k38 : PySem.W.keepIn K (.ref f38) = true)
    (a39 : PySem.W.nsIn K mainGlobals "_law_cell" = some (some (.ref f39))) (l39 : K.lookup f39 = some ⟨oc39, od39, .func (PySem.W.fnOf "_law_cell" "_law_cell" (defArgs sCell) (defBody sCell) (defScope sCell) .none kV39 dc39 pm39 an39 (.ref c39) ct39), sl39⟩) (i39 : PySem.W.codeIn K (.ref c39) "_law_cell" = true) (k39 : PySem.W.keepIn K (.ref f39) = true)
    (a40 : PySem.W.nsIn K mainGlobals "_law_pen" = some (some (.ref f40))) (l40 : K.lookup f40 = some ⟨oc40, od40, .func (PySem.W.fnOf "_law_pen" "_law_pen" (defArgs sPen) (defBody sPen) (defScope sPen) .none kV40 dc40 pm40 an40 (.ref c40) ct40), sl40⟩) (i40 : PySem.W.codeIn K (.ref c40) "_law_pen" = true) (k40 : PySem.W.keepIn K (.ref f40) = true)
    (a41 : PySem.W.nsIn K mainGlobals "_law_draw" = some (some (.ref f41))) (l41 : K.lookup f41 = some ⟨oc41, od41, .func (PySem.W.fnOf "_law_draw" "_law_draw" (defArgs sDraw) (defBody sDraw) (defScope sDraw) .none kV41 dc41 pm41 an41 (.ref c41) ct41), sl41⟩) (i41 : PySem.W.codeIn K (.ref c41) "_law_draw" = true) (k41 : PySem.W.keepIn K (.ref f41) = true)
    (a42 : PySem.W.nsIn K mainGlobals "_law_every" = some (some (.ref f42))) (l42 : K.lookup f42 = some ⟨oc42, od42, .func (PySem.W.fnOf "_law_every" "_law_every" (defArgs sEveryL) (defBody sEveryL) (defScope sEveryL) .none kV42 dc42 pm42 an42 (.ref c42) ct42), sl42⟩) (i42 : PySem.W.codeIn K (.ref c42) "_law_every" = true) (k42 : PySem.W.keepIn K (.ref f42) = true)
    (a43 : PySem.W.nsIn K mainGlobals "_law_size" = some (some (.ref f43))) (l43 : K.lookup f43 = some ⟨oc43, od43, .func (PySem.W.fnOf "_law_size" "_law_size" (defArgs sSize) (defBody sSize) (defScope sSize) .none kV43 dc43 pm43 an43 (.ref c43) ct43), sl43⟩) (i43 : PySem.W.codeIn K (.ref c43) "_law_size" = true) (k43 : PySem.W.keepIn K (.ref f43) = true)
    (a44 : PySem.W.nsIn K mainGlobals "_law_made" = some (some (.ref f44))) (l44 : K.lookup f44 = some ⟨oc44, od44, .func (PySem.W.fnOf "_law_made" "_law_made" (defArgs sMade) (defBody sMade) (defScope sMade) .none kV44 dc44 pm44 an44 (.ref c44) ct44), sl44⟩) (i44 : PySem.W.codeIn K (.ref c44) "_law_made" = true) (k44 : PySem.W.keepIn K (.ref f44) = true)
    (a45 : PySem.W.nsIn K mainGlobals "_law_drawn" = some (some (.ref f45))) (l45 : K.lookup f45 = some ⟨oc45, od45, .func (PySem.W.fnOf "_law_drawn" "_law_drawn" (defArgs sDrawn) (defBody sDrawn) (defScope sDrawn) .none kV45 dc45 pm45 an45 (.ref c45) ct45), sl45⟩) (i45 : PySem.W.codeIn K (.ref c45) "_law_drawn" = true) (k45 : PySem.W.keepIn K (.ref f45) = true)
    (a46 : PySem.W.nsIn K mainGlobals "_law_common" = some (some (.ref f46))) (l46 : K.lookup f46 = some ⟨oc46, od46, .func (PySem.W.fnOf "_law_common" "_law_common" (defArgs sCommon) (defBody sCommon) (defScope sCommon) .none kV46 dc46 pm46 an46 (.ref c46) ct46), sl46⟩) (i46 : PySem.W.codeIn K (.ref c46) "_law_common" = true) (k46 : PySem.W.keepIn K (.ref f46) = true)
    (a47 : PySem.W.nsIn K mainGlobals "_law_may" = some (some (.ref f47))) (l47 : K.lookup f47 = some ⟨oc47, od47, .func (PySem.W.fnOf "_law_may" "_law_may" (defArgs sMayN) (defBody sMayN) (defScope sMayN) .none kV47 dc47 pm47 an47 (.ref c47) ct47), sl47⟩) (i47 : PySem.W.codeIn K (.ref c47) "_law_may" = true) (k47 : PySem.W.keepIn K (.ref f47) = true)
    (a48 : PySem.W.nsIn K mainGlobals "_law_grown" = some (some (.ref f48))) (l48 : K.lookup f48 = some ⟨oc48, od48, .func (PySem.W.fnOf "_law_grown" "_law_grown" (defArgs sGrown) (defBody sGrown) (defScope sGrown) .none kV48 dc48 pm48 an48 (.ref c48) ct48), sl48⟩) (i48 : PySem.W.codeIn K (.ref c48) "_law_grown" = true) (k48 : PySem.W.keepIn K (.ref f48) = true)
    (a49 : PySem.W.nsIn K mainGlobals "_law_pairs" = some (some (.ref f49))) (l49 : K.lookup f49 = some ⟨oc49, od49, .func (PySem.W.fnOf "_law_pairs" "_law_pairs" (defArgs sPairsL) (defBody sPairsL) (defScope sPairsL) .none kV49 dc49 pm49 an49 (.ref c49) ct49), sl49⟩) (i49 : PySem.W.codeIn K (.ref c49) "_law_pairs" = true) (k49 : PySem.W.keepIn K (.ref f49) = true)
    (a50 : PySem.W.nsIn K mainGlobals "_law_kindly" = some (some (.ref f50))) (l50 : K.lookup f50 = some ⟨oc50, od50, .func (PySem.W.fnOf "_law_kindly" "_law_kindly" (defArgs sKindly) (defBody sKindly) (defScope sKindly) .none kV50 dc50 pm50 an50 (.ref c50) ct50), sl50⟩) (i50 : PySem.W.codeIn K (.ref c50) "_law_kindly" = true) (k50 : PySem.W.keepIn K (.ref f50) = true)
    (a51 : PySem.W.nsIn K mainGlobals "_law_stack" = some (some (.ref f51))) (l51 : K.lookup f51 = some ⟨oc51, od51, .func (PySem.W.fnOf "_law_stack" "_law_stack" (defArgs sStackN) (defBody sStackN) (defScope sStackN) .none kV51 dc51 pm51 an51 (.ref c51) ct51), sl51⟩) (i51 : PySem.W.codeIn K (.ref c51) "_law_stack" = true) (k51 : PySem.W.keepIn K (.ref f51) = true)
    (a52 : PySem.W.nsIn K mainGlobals "_law_names" = some (some (.ref f52))) (l52 : K.lookup f52 = some ⟨oc52, od52, .func (PySem.W.fnOf "_law_names" "_law_names" (defArgs sNames) (defBody sNames) (defScope sNames) .none kV52 dc52 pm52 an52 (.ref c52) ct52), sl52⟩) (i52 : PySem.W.codeIn K (.ref c52) "_law_names" = true) (k52 : PySem.W.keepIn K (.ref f52) = true)
    (a53 : PySem.W.nsIn K mainGlobals "_law_pushed" = some (some (.ref f53))) (l53 : K.lookup f53 = some ⟨oc53, od53, .func (PySem.W.fnOf "_law_pushed" "_law_pushed" (defArgs sPushed) (defBody sPushed) (defScope sPushed) .none kV53 dc53 pm53 an53 (.ref c53) ct53), sl53⟩) (i53 : PySem.W.codeIn K (.ref c53) "_law_pushed" = true) (k53 : PySem.W.keepIn K (.ref f53) = true)
    (a54 : PySem.W.nsIn K mainGlobals "_law_sorted_kind" = some (some (.ref f54))) (l54 : K.lookup f54 = some ⟨oc54, od54, .func (PySem.W.fnOf "_law_sorted_kind" "_law_sorted_kind" (defArgs sSortK) (defBody sSortK) (defScope sSortK) .none kV54 dc54 pm54 an54 (.ref c54) ct54), sl54⟩) (i54 : PySem.W.codeIn K (.ref c54) "_law_sorted_kind" = true) (k54 : PySem.W.keepIn K (.ref f54) = true)
    (a55 : PySem.W.nsIn K mainGlobals "_law_picks" = some (some (.ref f55))) (l55 : K.lookup f55 = some ⟨oc55, od55, .func (PySem.W.fnOf "_law_picks" "_law_picks" (defArgs sLPicks) (defBody sLPicks) (defScope sLPicks) .none kV55 dc55 pm55 an55 (.ref c55) ct55), sl55⟩) (i55 : PySem.W.codeIn K (.ref c55) "_law_picks" = true) (k55 : PySem.W.keepIn K (.ref f55) = true)
    (a56 : PySem.W.nsIn K mainGlobals "law" = some (some (.ref f56))) (l56 : K.lookup f56 = some ⟨oc56, od56, .func (PySem.W.fnOf "law" "law" (defArgs sLaw) (defBody sLaw) (defScope sLaw) .none kV56 dc56 pm56 an56 (.ref c56) ct56), sl56⟩) (i56 : PySem.W.codeIn K (.ref c56) "law" = true) (k56 : PySem.W.keepIn K (.ref f56) = true)
    (u3 : K.lookup c3 = some ⟨te3, td3, .fields tv3, ts3⟩) (v3 : tv3[11]? = some (.ref P3)) (w3 : K.lookup P3 = none) (r3 : ((PyProof.Rows.recsOf q).any fun e => e.name == ("all_below" : Str)) = true)
    (u4 : K.lookup c4 = some ⟨te4, td4, .fields tv4, ts4⟩) (v4 : tv4[11]? = some (.ref P4)) (w4 : K.lookup P4 = none) (r4 : ((PyProof.Rows.recsOf q).any fun e => e.name == ("rises" : Str)) = true)
    (u7 : K.lookup c7 = some ⟨te7, td7, .fields tv7, ts7⟩) (v7 : tv7[11]? = some (.ref P7)) (w7 : K.lookup P7 = none) (r7 : ((PyProof.Rows.recsOf q).any fun e => e.name == ("has_all" : Str)) = true)
    (u8 : K.lookup c8 = some ⟨te8, td8, .fields tv8, ts8⟩) (v8 : tv8[11]? = some (.ref P8)) (w8 : K.lookup P8 = none) (r8 : ((PyProof.Rows.recsOf q).any fun e => e.name == ("in_some" : Str)) = true)
    (u12 : K.lookup c12 = some ⟨te12, td12, .fields tv12, ts12⟩) (v12 : tv12[11]? = some (.ref P12)) (w12 : K.lookup P12 = none) (r12 : ((PyProof.Rows.recsOf q).any fun e => e.name == ("are_faces" : Str)) = true)
    (u22 : K.lookup c22 = some ⟨te22, td22, .fields tv22, ts22⟩) (v22 : tv22[11]? = some (.ref P22)) (w22 : K.lookup P22 = none) (r22 : ((PyProof.Rows.recsOf q).any fun e => e.name == ("may_trade" : Str)) = true)
    (z_isinstance : PySem.W.nsIn K mainGlobals "isinstance" = some none)
    (z_int : PySem.W.nsIn K mainGlobals "int" = some none)
    (z_bool : PySem.W.nsIn K mainGlobals "bool" = some none)
    (z_tuple : PySem.W.nsIn K mainGlobals "tuple" = some none)
    (z_all : PySem.W.nsIn K mainGlobals "all" = some none)
    (z_any : PySem.W.nsIn K mainGlobals "any" = some none)
    (z_range : PySem.W.nsIn K mainGlobals "range" = some none)
    (z_len : PySem.W.nsIn K mainGlobals "len" = some none)
    (z_sorted : PySem.W.nsIn K mainGlobals "sorted" = some none)
    (z_min : PySem.W.nsIn K mainGlobals "min" = some none)
    (z_max : PySem.W.nsIn K mainGlobals "max" = some none)
    (z_list : PySem.W.nsIn K mainGlobals "list" = some none)
    (z_enumerate : PySem.W.nsIn K mainGlobals "enumerate" = some none)
    (z_sum : PySem.W.nsIn K mainGlobals "sum" = some none)
    (y_MOST_POINTS : PySem.W.nsIn K mainGlobals "MOST_POINTS" = some (some (.int 8 t_MOST_POINTS)))
    (y_MOST_IN_FACE : PySem.W.nsIn K mainGlobals "MOST_IN_FACE" = some (some (.int 4 t_MOST_IN_FACE)))
    (y_MOST_FACES : PySem.W.nsIn K mainGlobals "MOST_FACES" = some (some (.int 70 t_MOST_FACES)))
    (dst : (([] : List (Addr × Str)).map (fun p : Addr × Str => p.1) ++ ([P3, P4, P7, P8, P12, P22] : List Addr)).Nodup) :
    LamX.LawAtS l w K CX0 12 63 "_law_script" mg fa h := by
  have e := hfa.symm.trans (PySem.W.mg_of X T.g a56)
  cases e
  have D1 := def_mk (ps := ["thing", "least", "most"]) X T.g a1 l1 i1 k1 fun _ _ _ _ _ _ us hl => match us, hl with | [_, _, _], _ => rfl
  have D2 := def_mk (ps := ["number", "least", "most"]) X T.g a2 l2 i2 k2 fun _ _ _ _ _ _ us hl => match us, hl with | [_, _, _], _ => rfl
  have D3 := def_mk (ps := ["thing", "many"]) X T.g a3 l3 i3 k3 fun _ _ _ _ _ _ us hl => match us, hl with | [_, _], _ => rfl
  have D4 := def_mk (ps := ["things"]) X T.g a4 l4 i4 k4 fun _ _ _ _ _ _ us hl => match us, hl with | [_], _ => rfl
  have D5 := def_mk (ps := ["thing", "many"]) X T.g a5 l5 i5 k5 fun _ _ _ _ _ _ us hl => match us, hl with | [_, _], _ => rfl
  have D6 := def_mk (ps := ["thing", "many"]) X T.g a6 l6 i6 k6 fun _ _ _ _ _ _ us hl => match us, hl with | [_, _], _ => rfl
  have D7 := def_mk (ps := ["face", "points"]) X T.g a7 l7 i7 k7 fun _ _ _ _ _ _ us hl => match us, hl with | [_, _], _ => rfl
  have D8 := def_mk (ps := ["points", "faces"]) X T.g a8 l8 i8 k8 fun _ _ _ _ _ _ us hl => match us, hl with | [_, _], _ => rfl
  have D9 := def_mk (ps := ["face", "points"]) X T.g a9 l9 i9 k9 fun _ _ _ _ _ _ us hl => match us, hl with | [_, _], _ => rfl
  have D10 := def_mk (ps := ["face"]) X T.g a10 l10 i10 k10 fun _ _ _ _ _ _ us hl => match us, hl with | [_], _ => rfl
  have D11 := def_mk (ps := ["thing"]) X T.g a11 l11 i11 k11 fun _ _ _ _ _ _ us hl => match us, hl with | [_], _ => rfl
  have D12 := def_mk (ps := ["n", "k", "thing"]) X T.g a12 l12 i12 k12 fun _ _ _ _ _ _ us hl => match us, hl with | [_, _, _], _ => rfl
  have D13 := def_mk (ps := ["stack"]) X T.g a13 l13 i13 k13 fun _ _ _ _ _ _ us hl => match us, hl with | [_], _ => rfl
  have D14 := def_mk (ps := ["stack", "many"]) X T.g a14 l14 i14 k14 fun _ _ _ _ _ _ us hl => match us, hl with | [_, _], _ => rfl
  have D15 := def_mk (ps := ["stack"]) X T.g a15 l15 i15 k15 fun _ _ _ _ _ _ us hl => match us, hl with | [_], _ => rfl
  have D16 := def_mk (ps := ["n", "k"]) X T.g a16 l16 i16 k16 fun _ _ _ _ _ _ us hl => match us, hl with | [_, _], _ => rfl
  have D17 := def_mk (ps := ["d"]) X T.g a17 l17 i17 k17 fun _ _ _ _ _ _ us hl => match us, hl with | [_], _ => rfl
  have D18 := def_mk (ps := ["n"]) X T.g a18 l18 i18 k18 fun _ _ _ _ _ _ us hl => match us, hl with | [_], _ => rfl
  have D19 := def_mk (ps := ["n"]) X T.g a19 l19 i19 k19 fun _ _ _ _ _ _ us hl => match us, hl with | [_], _ => rfl
  have D20 := def_mk (ps := ["n"]) X T.g a20 l20 i20 k20 fun _ _ _ _ _ _ us hl => match us, hl with | [_], _ => rfl
  have D21 := def_mk (ps := ["face", "point", "other"]) X T.g a21 l21 i21 k21 fun _ _ _ _ _ _ us hl => match us, hl with | [_, _, _], _ => rfl
  have D22 := def_mk (ps := ["faces", "first", "second", "point"]) X T.g a22 l22 i22 k22 fun _ _ _ _ _ _ us hl => match us, hl with | [_, _, _, _], _ => rfl
  have D23 := def_mk (ps := ["stack"]) X T.g a23 l23 i23 k23 fun _ _ _ _ _ _ us hl => match us, hl with | [_], _ => rfl
  have D24 := def_mk (ps := ["stack"]) X T.g a24 l24 i24 k24 fun _ _ _ _ _ _ us hl => match us, hl with | [_], _ => rfl
  have D25 := def_mk (ps := ["stack"]) X T.g a25 l25 i25 k25 fun _ _ _ _ _ _ us hl => match us, hl with | [_], _ => rfl
  have D26 := def_mk (ps := ["stack", "names"]) X T.g a26 l26 i26 k26 fun _ _ _ _ _ _ us hl => match us, hl with | [_, _], _ => rfl
  have D27 := def_mk (ps := ["face", "names"]) X T.g a27 l27 i27 k27 fun _ _ _ _ _ _ us hl => match us, hl with | [_, _], _ => rfl
  have D28 := def_mk (ps := ["stack", "names"]) X T.g a28 l28 i28 k28 fun _ _ _ _ _ _ us hl => match us, hl with | [_, _], _ => rfl
  have D29 := def_mk (ps := ["stack", "lot"]) X T.g a29 l29 i29 k29 fun _ _ _ _ _ _ us hl => match us, hl with | [_, _], _ => rfl
  have D30 := def_mk (ps := ["laid", "face"]) X T.g a30 l30 i30 k30 fun _ _ _ _ _ _ us hl => match us, hl with | [_, _], _ => rfl
  have D31 := def_mk (ps := ["laid", "face"]) X T.g a31 l31 i31 k31 fun _ _ _ _ _ _ us hl => match us, hl with | [_, _], _ => rfl
  have D32 := def_mk (ps := ["stack", "thing"]) X T.g a32 l32 i32 k32 fun _ _ _ _ _ _ us hl => match us, hl with | [_, _], _ => rfl
  have D33 := def_mk (ps := ["stack", "row"]) X T.g a33 l33 i33 k33 fun _ _ _ _ _ _ us hl => match us, hl with | [_, _], _ => rfl
  have D34 := def_mk (ps := ["stack", "thing"]) X T.g a34 l34 i34 k34 fun _ _ _ _ _ _ us hl => match us, hl with | [_, _], _ => rfl
  have D35 := def_mk (ps := ["many", "few"]) X T.g a35 l35 i35 k35 fun _ _ _ _ _ _ us hl => match us, hl with | [_, _], _ => rfl
  have D36 := def_mk (ps := ["number", "many"]) X T.g a36 l36 i36 k36 fun _ _ _ _ _ _ us hl => match us, hl with | [_, _], _ => rfl
  have D37 := def_mk (ps := ["stack"]) X T.g a37 l37 i37 k37 fun _ _ _ _ _ _ us hl => match us, hl with | [_], _ => rfl
  have D38 := def_mk (ps := ["stack", "names"]) X T.g a38 l38 i38 k38 fun _ _ _ _ _ _ us hl => match us, hl with | [_, _], _ => rfl
  have D39 := def_mk (ps := ["_law_script", "_law_k"]) X T.g a39 l39 i39 k39 fun _ _ _ _ _ _ us hl => match us, hl with | [_, _], _ => rfl
  have D40 := def_mk (ps := ["_law_cell_here"]) X T.g a40 l40 i40 k40 fun _ _ _ _ _ _ us hl => match us, hl with | [_], _ => rfl
  have D41 := def_mk (ps := ["_law_pen_here", "_law_many"]) X T.g a41 l41 i41 k41 fun _ _ _ _ _ _ us hl => match us, hl with | [_, _], _ => rfl
  have D42 := def_mk (ps := ["_law_n", "_law_k"]) X T.g a42 l42 i42 k42 fun _ _ _ _ _ _ us hl => match us, hl with | [_, _], _ => rfl
  have D43 := def_mk (ps := ["_law_pen_here"]) X T.g a43 l43 i43 k43 fun _ _ _ _ _ _ us hl => match us, hl with | [_], _ => rfl
  have D44 := def_mk (ps := ["_law_n", "_law_k", "_law_faces"]) X T.g a44 l44 i44 k44 fun _ _ _ _ _ _ us hl => match us, hl with | [_, _, _], _ => rfl
  have D45 := def_mk (ps := ["_law_pen_here", "_law_n", "_law_k", "_law_most"]) X T.g a45 l45 i45 k45 fun _ _ _ _ _ _ us hl => match us, hl with | [_, _, _, _], _ => rfl
  have D46 := def_mk (ps := ["_law_one", "_law_other"]) X T.g a46 l46 i46 k46 fun _ _ _ _ _ _ us hl => match us, hl with | [_, _], _ => rfl
  have D47 := def_mk (ps := ["_law_laid", "_law_face"]) X T.g a47 l47 i47 k47 fun _ _ _ _ _ _ us hl => match us, hl with | [_, _], _ => rfl
  have D48 := def_mk (ps := ["_law_pen_here", "_law_n", "_law_k", "_law_most"]) X T.g a48 l48 i48 k48 fun _ _ _ _ _ _ us hl => match us, hl with | [_, _, _, _], _ => rfl
  have D49 := def_mk (ps := ["_law_d"]) X T.g a49 l49 i49 k49 fun _ _ _ _ _ _ us hl => match us, hl with | [_], _ => rfl
  have D50 := def_mk (ps := ["_law_pen_here", "_law_most"]) X T.g a50 l50 i50 k50 fun _ _ _ _ _ _ us hl => match us, hl with | [_, _], _ => rfl
  have D51 := def_mk (ps := ["_law_pen_here", "_law_most"]) X T.g a51 l51 i51 k51 fun _ _ _ _ _ _ us hl => match us, hl with | [_, _], _ => rfl
  have D52 := def_mk (ps := ["_law_pen_here", "_law_n"]) X T.g a52 l52 i52 k52 fun _ _ _ _ _ _ us hl => match us, hl with | [_, _], _ => rfl
  have D53 := def_mk (ps := ["_law_pen_here", "_law_n", "_law_k"]) X T.g a53 l53 i53 k53 fun _ _ _ _ _ _ us hl => match us, hl with | [_, _, _], _ => rfl
  have D54 := def_mk (ps := ["_law_pen_here"]) X T.g a54 l54 i54 k54 fun _ _ _ _ _ _ us hl => match us, hl with | [_], _ => rfl
  have D55 := def_mk (ps := ["_law_many", "_law_few"]) X T.g a55 l55 i55 k55 fun _ _ _ _ _ _ us hl => match us, hl with | [_, _], _ => rfl
  have D56 := def_mk (ps := ["_law_script"]) X T.g a56 l56 i56 k56 fun _ _ _ _ _ _ us hl => match us, hl with | [_], _ => rfl
  have A3 := tab_at T X r3 D3.g l3 rfl u3 v3
  have A4 := tab_at T X r4 D4.g l4 rfl u4 v4
  have A7 := tab_at T X r7 D7.g l7 rfl u7 v7
  have A8 := tab_at T X r8 D8.g l8 rfl u8 v8
  have A12 := tab_at T X r12 D12.g l12 rfl u12 v12
  have A22 := tab_at T X r22 D22.g l22 rfl u22 v22
  refine ⟨PySem.W.fnOf "law" "law" (defArgs sLaw) (defBody sLaw) (defScope sLaw) .none kV56 dc56 pm56 an56 (.ref c56) ct56, [(c3, P3), (c4, P4), (c7, P7), (c8, P8), (c12, P12), (c22, P22)], spLaw K (mkTbs [P3, P4, P7, P8, P12, P22] [] dst), (List.forall_mem_cons.mpr ⟨A3.2, (List.forall_mem_cons.mpr ⟨A4.2, (List.forall_mem_cons.mpr ⟨A7.2, (List.forall_mem_cons.mpr ⟨A8.2, (List.forall_mem_cons.mpr ⟨A12.2, (List.forall_mem_cons.mpr ⟨A22.2, (fun p hp => nomatch hp)⟩)⟩)⟩)⟩)⟩)⟩), (List.forall_mem_cons.mpr ⟨w3, (List.forall_mem_cons.mpr ⟨w4, (List.forall_mem_cons.mpr ⟨w7, (List.forall_mem_cons.mpr ⟨w8, (List.forall_mem_cons.mpr ⟨w12, (List.forall_mem_cons.mpr ⟨w22, (fun p hp => nomatch hp)⟩)⟩)⟩)⟩)⟩)⟩), (List.forall_mem_cons.mpr ⟨A3.1, (List.forall_mem_cons.mpr ⟨A4.1, (List.forall_mem_cons.mpr ⟨A7.1, (List.forall_mem_cons.mpr ⟨A8.1, (List.forall_mem_cons.mpr ⟨A12.1, (List.forall_mem_cons.mpr ⟨A22.1, (fun p hp => nomatch hp)⟩)⟩)⟩)⟩)⟩)⟩), fun s u => .of_eq rfl, fun H a ns hl _ hT hS => ⟨a, ns, rfl, hS, hl, ?_, fun _ => rfl⟩, fun base hK hN TB => ?_⟩
  · have h5 : ∀ Q ∈ [(c3, P3), (c4, P4), (c7, P7), (c8, P8), (c12, P12), (c22, P22)].map (·.2), H Q = some (.tbl #[]) := fun Q hQ => by
      obtain ⟨p, hp, e⟩ := List.mem_map.mp hQ
      rw [← e]
      exact hT p hp
    refine mkTbs_tb (fun Q hQ => h5 Q ?_) (fun p hp => h5 p.1 ?_)
    · simp only [List.map_cons, List.map_nil, List.mem_cons, List.not_mem_nil, or_false] at hQ ⊢
      rcases hQ with z | z | z | z | z | z <;> simp [z]
    · simp only [List.map_cons, List.map_nil, List.mem_cons, List.not_mem_nil, or_false] at hp ⊢
  · exact all_ok D1 D2 D3 D4 D5 D6 D7 D8 D9 D10 D11 D12 D13 D14 D15 D16 D17 D18 D19 D20 D21 D22 D23 D24 D25 D26 D27 D28 D29 D30 D31 D32 D33 D34 D35 D36 D37 D38 D39 D40 D41 D42 D43 D44 D45 D46 D47 D48 D49 D50 D51 D52 D53 D54 D55 D56 (tabB_of (TB (c3, P3) (by simp))) (show P3 ∈ [P3, P4, P7, P8, P12, P22] by simp) (tabB_of (TB (c4, P4) (by simp))) (show P4 ∈ [P3, P4, P7, P8, P12, P22] by simp) (tabB_of (TB (c7, P7) (by simp))) (show P7 ∈ [P3, P4, P7, P8, P12, P22] by simp) (tabB_of (TB (c8, P8) (by simp))) (show P8 ∈ [P3, P4, P7, P8, P12, P22] by simp) (tabB_of (TB (c12, P12) (by simp))) (show P12 ∈ [P3, P4, P7, P8, P12, P22] by simp) (tabB_of (TB (c22, P22) (by simp))) (show P22 ∈ [P3, P4, P7, P8, P12, P22] by simp) (PySem.W.mg_none_of X T.g z_isinstance) (PySem.W.mg_none_of X T.g z_int) (PySem.W.mg_none_of X T.g z_bool) (PySem.W.mg_none_of X T.g z_tuple) (PySem.W.mg_none_of X T.g z_all) (PySem.W.mg_none_of X T.g z_any) (PySem.W.mg_none_of X T.g z_range) (PySem.W.mg_none_of X T.g z_len) (PySem.W.mg_none_of X T.g z_sorted) (PySem.W.mg_none_of X T.g z_min) (PySem.W.mg_none_of X T.g z_max) (PySem.W.mg_none_of X T.g z_list) (PySem.W.mg_none_of X T.g z_enumerate) (PySem.W.mg_none_of X T.g z_sum) (PySem.W.mg_of X T.g y_MOST_POINTS) (PySem.W.mg_of X T.g y_MOST_IN_FACE) (PySem.W.mg_of X T.g y_MOST_FACES)
end Lf

open PySem PySem.W PyProof.Rows
set_option maxHeartbeats 0 in
theorem PySem.Challenge.cw_layfaces_k53_whole_kinds_are_laid_holds : PySem.Challenge.rw_layfaces_k53_whole_kinds_are_laid.Holds := by
  w_on; o_law; k_head; (case hw => w_witness2)
  k_fill
  refine Lf.walk_tabs (l := PySem.Challenge.rw_layfaces_k53_whole_kinds_are_laid) (n := 63) (k := 12) (x := "_law_script") (CX := fun _ => L2.CX0) rfl (by decide) rfl ⟨rfl, by decide, by decide⟩ (fun w h Y => PySem.W.kIn_of Y) ?F (fun _ _ _ _ _ h => h)
  case F =>
    intro w mg mb mean fa h T KX hmg
    refine' Lf.all_mk T KX hmg ?a1 ?l1 ?i1 ?k1 ?a2 ?l2 ?i2 ?k2 ?a3 ?l3 ?i3 ?k3 ?a4 ?l4 ?i4 ?k4 ?a5 ?l5 ?i5 ?k5 ?a6 ?l6 ?i6 ?k6 ?a7 ?l7 ?i7 ?k7 ?a8 ?l8 ?i8 ?k8 ?a9 ?l9 ?i9 ?k9 ?a10 ?l10 ?i10 ?k10 ?a11 ?l11 ?i11 ?k11 ?a12 ?l12 ?i12 ?k12 ?a13 ?l13 ?i13 ?k13 ?a14 ?l14 ?i14 ?k14 ?a15 ?l15 ?i15 ?k15 ?a16 ?l16 ?i16 ?k16 ?a17 ?l17 ?i17 ?k17 ?a18 ?l18 ?i18 ?k18 ?a19 ?l19 ?i19 ?k19 ?a20 ?l20 ?i20 ?k20 ?a21 ?l21 ?i21 ?k21 ?a22 ?l22 ?i22 ?k22 ?a23 ?l23 ?i23 ?k23 ?a24 ?l24 ?i24 ?k24 ?a25 ?l25 ?i25 ?k25 ?a26 ?l26 ?i26 ?k26 ?a27 ?l27 ?i27 ?k27 ?a28 ?l28 ?i28 ?k28 ?a29 ?l29 ?i29 ?k29 ?a30 ?l30 ?i30 ?k30 ?a31 ?l31 ?i31 ?k31 ?a32 ?l32 ?i32 ?k32 ?a33 ?l33 ?i33 ?k33 ?a34 ?l34 ?i34 ?k34 ?a35 ?l35 ?i35 ?k35 ?a36 ?l36 ?i36 ?k36 ?a37 ?l37 ?i37 ?k37 ?a38 ?l38 ?i38 ?k38 ?a39 ?l39 ?i39 ?k39 ?a40 ?l40 ?i40 ?k40 ?a41 ?l41 ?i41 ?k41 ?a42 ?l42 ?i42 ?k42 ?a43 ?l43 ?i43 ?k43 ?a44 ?l44 ?i44 ?k44 ?a45 ?l45 ?i45 ?k45 ?a46 ?l46 ?i46 ?k46 ?a47 ?l47 ?i47 ?k47 ?a48 ?l48 ?i48 ?k48 ?a49 ?l49 ?i49 ?k49 ?a50 ?l50 ?i50 ?k50 ?a51 ?l51 ?i51 ?k51 ?a52 ?l52 ?i52 ?k52 ?a53 ?l53 ?i53 ?k53 ?a54 ?l54 ?i54 ?k54 ?a55 ?l55 ?i55 ?k55 ?a56 ?l56 ?i56 ?k56 ?u3 ?v3 ?w3 ?r3 ?u4 ?v4 ?w4 ?r4 ?u7 ?v7 ?w7 ?r7 ?u8 ?v8 ?w8 ?r8 ?u12 ?v12 ?w12 ?r12 ?u22 ?v22 ?w22 ?r22 ?z_isinstance ?z_int ?z_bool ?z_tuple ?z_all ?z_any ?z_range ?z_len ?z_sorted ?z_min ?z_max ?z_list ?z_enumerate ?z_sum ?y_MOST_POINTS ?y_MOST_IN_FACE ?y_MOST_FACES ?dst
    (case a1 => k_is)
    (case l1 => k_is)
    (case i1 => k_is)
    (case k1 => k_is)
    (case a2 => k_is)
    (case l2 => k_is)
    (case i2 => k_is)
    (case k2 => k_is)
    (case a3 => k_is)
    (case l3 => k_is)
    (case i3 => k_is)
    (case k3 => k_is)
    (case a4 => k_is)
    (case l4 => k_is)
    (case i4 => k_is)
    (case k4 => k_is)
    (case a5 => k_is)
    (case l5 => k_is)
    (case i5 => k_is)
    (case k5 => k_is)
    (case a6 => k_is)
    (case l6 => k_is)
    (case i6 => k_is)
    (case k6 => k_is)
    (case a7 => k_is)
    (case l7 => k_is)
    (case i7 => k_is)
    (case k7 => k_is)
    (case a8 => k_is)
    (case l8 => k_is)
    (case i8 => k_is)
    (case k8 => k_is)
    (case a9 => k_is)
    (case l9 => k_is)
    (case i9 => k_is)
    (case k9 => k_is)
    (case a10 => k_is)
    (case l10 => k_is)
    (case i10 => k_is)
    (case k10 => k_is)
    (case a11 => k_is)
    (case l11 => k_is)
    (case i11 => k_is)
    (case k11 => k_is)
    (case a12 => k_is)
    (case l12 => k_is)
    (case i12 => k_is)
    (case k12 => k_is)
    (case a13 => k_is)
    (case l13 => k_is)
    (case i13 => k_is)
    (case k13 => k_is)
    (case a14 => k_is)
    (case l14 => k_is)
    (case i14 => k_is)
    (case k14 => k_is)
    (case a15 => k_is)
    (case l15 => k_is)
    (case i15 => k_is)
    (case k15 => k_is)
    (case a16 => k_is)
    (case l16 => k_is)
    (case i16 => k_is)
    (case k16 => k_is)
    (case a17 => k_is)
    (case l17 => k_is)
    (case i17 => k_is)
    (case k17 => k_is)
    (case a18 => k_is)
    (case l18 => k_is)
    (case i18 => k_is)
    (case k18 => k_is)
    (case a19 => k_is)
    (case l19 => k_is)
    (case i19 => k_is)
    (case k19 => k_is)
    (case a20 => k_is)
    (case l20 => k_is)
    (case i20 => k_is)
    (case k20 => k_is)
    (case a21 => k_is)
    (case l21 => k_is)
    (case i21 => k_is)
    (case k21 => k_is)
    (case a22 => k_is)
    (case l22 => k_is)
    (case i22 => k_is)
    (case k22 => k_is)
    (case a23 => k_is)
    (case l23 => k_is)
    (case i23 => k_is)
    (case k23 => k_is)
    (case a24 => k_is)
    (case l24 => k_is)
    (case i24 => k_is)
    (case k24 => k_is)
    (case a25 => k_is)
    (case l25 => k_is)
    (case i25 => k_is)
    (case k25 => k_is)
    (case a26 => k_is)
    (case l26 => k_is)
    (case i26 => k_is)
    (case k26 => k_is)
    (case a27 => k_is)
    (case l27 => k_is)
    (case i27 => k_is)
    (case k27 => k_is)
    (case a28 => k_is)
    (case l28 => k_is)
    (case i28 => k_is)
    (case k28 => k_is)
    (case a29 => k_is)
    (case l29 => k_is)
    (case i29 => k_is)
    (case k29 => k_is)
    (case a30 => k_is)
    (case l30 => k_is)
    (case i30 => k_is)
    (case k30 => k_is)
    (case a31 => k_is)
    (case l31 => k_is)
    (case i31 => k_is)
    (case k31 => k_is)
    (case a32 => k_is)
    (case l32 => k_is)
    (case i32 => k_is)
    (case k32 => k_is)
    (case a33 => k_is)
    (case l33 => k_is)
    (case i33 => k_is)
    (case k33 => k_is)
    (case a34 => k_is)
    (case l34 => k_is)
    (case i34 => k_is)
    (case k34 => k_is)
    (case a35 => k_is)
    (case l35 => k_is)
    (case i35 => k_is)
    (case k35 => k_is)
    (case a36 => k_is)
    (case l36 => k_is)
    (case i36 => k_is)
    (case k36 => k_is)
    (case a37 => k_is)
    (case l37 => k_is)
    (case i37 => k_is)
    (case k37 => k_is)
    (case a38 => k_is)
    (case l38 => k_is)
    (case i38 => k_is)
    (case k38 => k_is)
    (case a39 => k_is)
    (case l39 => k_is)
    (case i39 => k_is)
    (case k39 => k_is)
    (case a40 => k_is)
    (case l40 => k_is)
    (case i40 => k_is)
    (case k40 => k_is)
    (case a41 => k_is)
    (case l41 => k_is)
    (case i41 => k_is)
    (case k41 => k_is)
    (case a42 => k_is)
    (case l42 => k_is)
    (case i42 => k_is)
    (case k42 => k_is)
    (case a43 => k_is)
    (case l43 => k_is)
    (case i43 => k_is)
    (case k43 => k_is)
    (case a44 => k_is)
    (case l44 => k_is)
    (case i44 => k_is)
    (case k44 => k_is)
    (case a45 => k_is)
    (case l45 => k_is)
    (case i45 => k_is)
    (case k45 => k_is)
    (case a46 => k_is)
    (case l46 => k_is)
    (case i46 => k_is)
    (case k46 => k_is)
    (case a47 => k_is)
    (case l47 => k_is)
    (case i47 => k_is)
    (case k47 => k_is)
    (case a48 => k_is)
    (case l48 => k_is)
    (case i48 => k_is)
    (case k48 => k_is)
    (case a49 => k_is)
    (case l49 => k_is)
    (case i49 => k_is)
    (case k49 => k_is)
    (case a50 => k_is)
    (case l50 => k_is)
    (case i50 => k_is)
    (case k50 => k_is)
    (case a51 => k_is)
    (case l51 => k_is)
    (case i51 => k_is)
    (case k51 => k_is)
    (case a52 => k_is)
    (case l52 => k_is)
    (case i52 => k_is)
    (case k52 => k_is)
    (case a53 => k_is)
    (case l53 => k_is)
    (case i53 => k_is)
    (case k53 => k_is)
    (case a54 => k_is)
    (case l54 => k_is)
    (case i54 => k_is)
    (case k54 => k_is)
    (case a55 => k_is)
    (case l55 => k_is)
    (case i55 => k_is)
    (case k55 => k_is)
    (case a56 => k_is)
    (case l56 => k_is)
    (case i56 => k_is)
    (case k56 => k_is)
    (case u3 => k_is)
    (case u4 => k_is)
    (case u7 => k_is)
    (case u8 => k_is)
    (case u12 => k_is)
    (case u22 => k_is)
    (case z_isinstance => k_is)
    (case z_int => k_is)
    (case z_bool => k_is)
    (case z_tuple => k_is)
    (case z_all => k_is)
    (case z_any => k_is)
    (case z_range => k_is)
    (case z_len => k_is)
    (case z_sorted => k_is)
    (case z_min => k_is)
    (case z_max => k_is)
    (case z_list => k_is)
    (case z_enumerate => k_is)
    (case z_sum => k_is)
    (case y_MOST_POINTS => k_is)
    (case y_MOST_IN_FACE => k_is)
    (case y_MOST_FACES => k_is)
    (case v3 => rfl)
    (case w3 => kernel_rfl)
    (case r3 => kernel_rfl)
    (case v4 => rfl)
    (case w4 => kernel_rfl)
    (case r4 => kernel_rfl)
    (case v7 => rfl)
    (case w7 => kernel_rfl)
    (case r7 => kernel_rfl)
    (case v8 => rfl)
    (case w8 => kernel_rfl)
    (case r8 => kernel_rfl)
    (case v12 => rfl)
    (case w12 => kernel_rfl)
    (case r12 => kernel_rfl)
    (case v22 => rfl)
    (case w22 => kernel_rfl)
    (case r22 => kernel_rfl)
    (case dst => decide)
