import PyProof.Rows.All
import Wide.All
import OpenK.AllK
import Wide.FinOn
import HandS.ForMost
import HandS.AnyAll
import HandS.Nested
import HandS.GenOver
import PyProof.GenQ
import HandS.SortOrd
import HandS.NamedTupSort
import HandS.TupSets
import KE.KSortTupAny
import HandS.SetBool
import HandS.SortInts
import KE.KTupSum
import HandS.TupLen
import HandS.IsInst
import HandS.Deep
import HandS.TupAny
import HandS.Star
import HandS.Wide
import HandS.Remove
import HandS.SetFor
import HandS.EndTab
import HandS.Lambda
import HandS.Conv
import HandS.Zip
import HandS.ExcOwn
import HandS.ExcIs
import HandS.WordsExc
import HandS.HotCalls
import KE.DataFind
import HandS.Style
import PyProof.CallFns
import PyProof.ReprRoads
import PyProof.ReprLen
import HandS.FStr
import HandS.RaiseMore
import KE.GoesMore
import KE.GoesEnum
import HandS.Comp
import HandS.Strs
import KE.KRevSl
import HandS.Dict
import HandS.ExcInit
import HandS.ExcField
import HandS.ClsMeth
import KE.KSuper
import KE.KExcSuper
import KE.KExcIs
import HandS.WideBits
import PySem.Challenge.RW_layfaces_k82_orders_joined
set_option Elab.async false
set_option linter.all false
set_option maxRecDepth 100000
set_option maxHeartbeats 2000000
/-! all(..), any(..) of a generator expression whose element is any expression of the layer (calls among them). -/
namespace GxA
open PySem PySem.Spec PyProof.Rows L2 GxR GenW

/-- the generator expression's own environment -/
abbrev gE (X : Cx) (sc : Scope) (cd : Value) (C : Addr) : Env := genEnv sc (cloFrom X.env.cells sc.names []) C cd builtinsNs X.env
/-- its context: it runs over the frames of X -/
def gcx (X : Cx) (N : List Str) (sc : Scope) (cd : Value) (C : Addr) (A : Around) (s : Shared) (H : Hp) (fp : List Addr) (pn : List (Addr × Obj)) : Cx where
  prog := X.prog
  w := X.w
  K := X.K
  mg := X.mg
  base := X.base
  A := A.deeper (gE X sc cd C)
  N := N
  s_0 := s
  H_0 := H
  env := gE X sc cd C
  outer := X.stack
  stack := gE X sc cd C :: X.stack
  ex := fp
  fn := fun _ => false
  calm := true
  pn := pn
  xe := fun _ _ => False

theorem over_loopG {A : Around} {elt : Expr} {gs : List Comprehension} {sc : Scope} {p : Pos} {it acc : Value} {env : Env} : A.over (.compLoop (.GeneratorExp elt gs sc p) 0 it acc env) [] = A.deeper env := by
  obtain ⟨a1, a2, a3, a4, a5⟩ := A
  simp [Around.over, Around.deeper, marksOver, frameCount, unitsOf, envsOf, guardsOf, pushEnvs, pushGuards, Code.envs, Code.env?, Code.isFrame, Code.guards, Code.isGuard, Code.weight, Code.frames, Code.isCreation, Code.isCaller, Code.cUnits]
theorem over_startG {A : Around} {elt : Expr} {gs : List Comprehension} {sc : Scope} {p : Pos} {it acc : Value} {env : Env} : A.over (.compStart (.GeneratorExp elt gs sc p) 0 it acc env) [] = A.deeper env := by
  obtain ⟨a1, a2, a3, a4, a5⟩ := A
  simp [Around.over, Around.deeper, marksOver, frameCount, unitsOf, envsOf, guardsOf, pushEnvs, pushGuards, Code.envs, Code.env?, Code.isFrame, Code.guards, Code.isGuard, Code.weight, Code.frames, Code.isCreation, Code.isCaller, Code.cUnits]

/-- the consumer has only looked at a truth -/
structure Still (g : Nat) (s s' : Shared) : Prop where
  heap : s'.heap = s.heap
  os : s'.os = s.os
  bare : AllBare s'.gens
  sz : g < s'.gens.size
theorem inv_still {X : Cx} {pins : List (Addr × Obj)} {σ : L2.St} {H : Hp} {s s' : Shared} {g : Nat} (I : Inv X pins σ H s) (z : Still g s s') : Inv X pins σ H s' :=
  I.call' (ch := []) z.os (by rw [z.heap]; exact Un.refl) (by rw [z.heap]; exact I.hok) z.bare fun b hb => absurd hb (by simp)

def gY (X' : Cx) (g : Nat) (all : Bool) (Q : VK) : Protocol := fun _ _ v s kap =>
  ∃ (b : Bool) (pins : List (Addr × Obj)) (σ : L2.St) (H : Hp), v = .bool b ∧ Inv X' pins σ H s ∧ g < s.gens.size ∧ (b ≠ all → Q (.bl b) H) ∧ (b = all → ∀ s', Still g s s' → kap (.send .none) s')
def gP (X' : Cx) (all : Bool) (Q : VK) : Nat → Shared → Shared → Prop := fun _ _ s =>
  ∃ (pins : List (Addr × Obj)) (σ : L2.St) (H : Hp), Inv X' pins σ H s ∧ Q (.bl all) H
abbrev gR (X' : Cx) (all : Bool) (Q : VK) : GenEnd := fun n s₀ r s₁ => r = .ok .next ∧ gP X' all Q n s₀ s₁

/-- what is to be shown of the walk: W by the turn and how many turns are left -/
def gW (all : Bool) (J : It) (σc : L2.St) (te : TE) (Q : VK) (W : Nat → Nat → Hp → Prop) : Prop := ∀ i m H3, W i m H3 →
  (J.stop i H3 ∧ Q (.bl all) H3) ∨ ∃ m', m = m' + 1 ∧ J.go i H3 ∧ ∀ x H4, J.yld i H3 x H4 → te (some x :: σc) H4 fun v H5 => ∃ b : Bool, v = .bl b ∧ (b = all → W (i + 1) m' H5) ∧ (b ≠ all → Q (.bl b) H5)

section
variable {X : Cx} {N : List Str} {sc : Scope} {cd : Value} {C : Addr} {A : Around} {s2 : Shared} {H1 : Hp} {fp : List Addr} {pn : List (Addr × Obj)} {g : Nat} {all : Bool} {Q : VK} {J : It} {it : Addr} {tn : Nat → Heap → Prop} {x : Str} {px gpos : Pos} {elt iter : Expr} {te : TE} {W : Nat → Nat → Hp → Prop} {σc : L2.St}

theorem seg_loopG (T : Turn X.prog X.w X.K (.Name x px) J fp it tn) (hx : sc.names.lookup x = some .local) (hco : sc.isCoroutine = false) (hnd : N.Nodup) (hN : N[0]? = some x)
    (hel : PE (gcx X N sc cd C A s2 H1 fp pn) elt te) (hW : gW all J σc te Q W) :
    ∀ (m i : Nat) (s₀ s : Shared) (H : Hp) (y : Option V), W i m H → Inv (gcx X N sc cd C A s2 H1 fp pn) [] (y :: σc) H s → (∀ b ∈ fp, FpOk (gcx X N sc cd C A s2 H1 fp pn) [] H b) → tn i s.heap → g < s.gens.size →
      Seg (model X.prog X.w) A (gR (gcx X N sc cd C A s2 H1 fp pn) all Q) (gY (gcx X N sc cd C A s2 H1 fp pn) g all Q) m s₀
        (.compLoop (.GeneratorExp elt [⟨.Name x px, iter, [], 0⟩] sc gpos) 0 (.ref it) .none (gE X sc cd C))
        ((model X.prog X.w).den (.compLoop (.GeneratorExp elt [⟨.Name x px, iter, [], 0⟩] sc gpos) 0 (.ref it) .none (gE X sc cd C))) [] s := by
  have stopped : ∀ (m i : Nat) (s₀ s : Shared) (H : Hp) (y : Option V), J.stop i H → Q (.bl all) H → Inv (gcx X N sc cd C A s2 H1 fp pn) [] (y :: σc) H s → (∀ b ∈ fp, FpOk (gcx X N sc cd C A s2 H1 fp pn) [] H b) → tn i s.heap →
      Seg (model X.prog X.w) A (gR (gcx X N sc cd C A s2 H1 fp pn) all Q) (gY (gcx X N sc cd C A s2 H1 fp pn) g all Q) m s₀
        (.compLoop (.GeneratorExp elt [⟨.Name x px, iter, [], 0⟩] sc gpos) 0 (.ref it) .none (gE X sc cd C))
        ((model X.prog X.w).den (.compLoop (.GeneratorExp elt [⟨.Name x px, iter, [], 0⟩] sc gpos) 0 (.ref it) .none (gE X sc cd C))) [] s := by
    intro m i s₀ s H y hs hq I hf st
    show Seg _ A _ _ _ s₀ _ ((compTurn (.GeneratorExp elt [⟨.Name x px, iter, [], 0⟩] sc gpos) 0 (.ref it) .none (gE X sc cd C)).onRaise (leaving (gE X sc cd C))) [] s
    rw [compTurn_gen, Sem.onRaise_eq_wrap]
    refine seg_bind_wrap (wpAny_standAt ?_)
    refine seg_bind_wrap ?_
    rw [over_loopG]
    refine wpAny_mono (T.done (gcx X N sc cd C A s2 H1 fp pn) rfl rfl rfl rfl i [] s _ H (fun _ _ => False) I hf st hs) (fun r s1 hr => ?_) fun _ _ e => e.elim
    obtain ⟨rfl, I1⟩ := hr
    exact seg_end (.ok .next) ⟨rfl, [], _, H, I1, hq⟩
  intro m
  induction m with
  | zero =>
    intro i s₀ s H y w I hf st hg
    rcases hW i 0 H w with ⟨hs, hq⟩ | ⟨m', e, _⟩
    · exact stopped 0 i s₀ s H y hs hq I hf st
    · exact absurd e (by omega)
  | succ m ih =>
    intro i s₀ s H y w I hf st hg
    rcases hW i (m + 1) H w with ⟨hs, hq⟩ | ⟨m', e, hgo, hturn⟩
    · exact stopped (m + 1) i s₀ s H y hs hq I hf st
    have em : m' = m := by omega
    subst em
    show Seg _ A _ _ _ s₀ _ ((compTurn (.GeneratorExp elt [⟨.Name x px, iter, [], 0⟩] sc gpos) 0 (.ref it) .none (gE X sc cd C)).onRaise (leaving (gE X sc cd C))) [] s
    rw [compTurn_gen, Sem.onRaise_eq_wrap]
    refine seg_bind_wrap (wpAny_standAt ?_)
    refine seg_bind_wrap ?_
    rw [over_loopG]
    refine wpAny_gsz (n := g + 1) hg (wpAny_mono (T.item (gcx X N sc cd C A s2 H1 fp pn) rfl rfl rfl rfl i [] s _ H (fun _ _ => False) I hf st hgo) (fun r s1 hr hg1 => ?_) fun _ _ e => e.elim)
    obtain ⟨u, rfl, hr⟩ := hr
    refine seg_bind_wrap ?_
    rw [over_loopG]
    refine wpAny_gsz (n := g + 1) hg1 (wpAny_mono hr (fun _ s3 h3 hg3 => ?_) fun _ _ e => e.elim)
    obtain ⟨v, H4, I3, rv, hy, st3, hfn⟩ := h3
    have hf3 : ∀ b ∈ fp, FpOk (gcx X N sc cd C A s2 H1 fp pn) [] H4 b := fun b hb => let ⟨_, z⟩ := hf b hb; ⟨hfn b hb, z⟩
    refine seg_bind_wrap (wpAny_assign_Name ?_)
    rw [over_loopG]
    refine wpAny_gsz (n := g + 1) hg3 ?_
    refine store_ok2 (X := gcx X N sc cd C A s2 H1 fp pn) (i := 0) I3 hnd hN (.inl hx) rv (fun s4 I4 hsame hg4 => ?_) (.inr hx)
    obtain ⟨c, sb, hc⟩ := hsame
    have st4 : tn (i + 1) s4.heap := T.keep _ _ _ st3 fun b hb o e => (sb.2 b fun z => by
      obtain ⟨_, f1, _, _, f4, _⟩ := hf3 b hb
      rcases hc with hc | hc
      · exact f1 (z.trans hc)
      · exact f4 x c hc z.symm).trans e
    refine seg_bind_wrap (wpAny_pure ?_)
    simp only [if_true]
    have hyo : ∀ v, yieldOut (gE X sc cd C) v = yieldValue v := fun v => by
      unfold yieldOut
      rw [show (gE X sc cd C).scope.isCoroutine = false from hco]
      rfl
    simp only [hyo]
    rw [Sem.bind_eq_wrap', Sem.bind_eq_wrap', Sem.wrap_wrap, Sem.wrap_wrap]
    refine seg_wrap ?_
    rw [over_loopG]
    have I4' : Inv (gcx X N sc cd C A s2 H1 fp pn) ([] ++ pinsAt fp s4.heap) (some v :: σc) H4 s4 := Inv.pinned I4 hf3 (T.obj _ _ st4)
    refine wpAny_gsz (n := g + 1) hg4 (wpAny_mono (hel.run _ s4 (some v :: σc) H4 _ I4' (hturn v H4 hy)) (fun yv s5 h5 hg5 => ?_) fun _ _ e => e.elim)
    obtain ⟨v5, H5, I5, r5, b, rfl, hb1, hb2⟩ := h5
    obtain rfl : yv = Value.bool b := r5
    refine seg_at (seg_yield rfl rfl rfl ⟨b, _, _, H5, rfl, I5, hg5, hb2, fun hb s6 z => ?_⟩)
    have I6 := inv_still I5 z
    have pinK : ∀ b ∈ fp, ∀ o, s4.heap.get? b = some o → s6.heap.get? b = some o ∧ H5 b = none := fun b hb o e => by
      have q := I6.pin (b, o) (List.mem_append_right _ (List.mem_append_right _ (mem_pinsAt hb e)))
      exact ⟨q.1, q.2.1⟩
    refine seg_again rfl (ih (i + 1) s6 s6 H5 (some v) (hb1 hb) (I6.pins_of fun p hp => absurd hp (by simp)) (fun b hb => ?_) (T.keep _ _ _ st4 fun b hb o e => (pinK b hb o e).1) z.sz)
    obtain ⟨_, f1⟩ := hf3 b hb
    obtain ⟨o, ho, _⟩ := T.obj _ _ st4 b hb
    exact ⟨(pinK b hb o ho).2, f1⟩

theorem seg_startG (T : Turn X.prog X.w X.K (.Name x px) J fp it tn) (hx : sc.names.lookup x = some .local) (hco : sc.isCoroutine = false) (hnd : N.Nodup) (hN : N[0]? = some x)
    (hel : PE (gcx X N sc cd C A s2 H1 fp pn) elt te) (hW : gW all J σc te Q W) (m i : Nat) (s₀ s : Shared) (H : Hp) (y : Option V) (w : W i m H) (I : Inv (gcx X N sc cd C A s2 H1 fp pn) [] (y :: σc) H s)
    (hf : ∀ b ∈ fp, FpOk (gcx X N sc cd C A s2 H1 fp pn) [] H b) (st : tn i s.heap) (hg : g < s.gens.size) :
      Seg (model X.prog X.w) A (gR (gcx X N sc cd C A s2 H1 fp pn) all Q) (gY (gcx X N sc cd C A s2 H1 fp pn) g all Q) m s₀
        (.compStart (.GeneratorExp elt [⟨.Name x px, iter, [], 0⟩] sc gpos) 0 (.ref it) .none (gE X sc cd C))
        ((model X.prog X.w).den (.compStart (.GeneratorExp elt [⟨.Name x px, iter, [], 0⟩] sc gpos) 0 (.ref it) .none (gE X sc cd C))) [] s := by
  have loop := seg_loopG (iter := iter) (gpos := gpos) (g := g) T hx hco hnd hN hel hW m i s₀ s H y w I hf st hg
  show Seg _ A _ _ _ s₀ _ ((compStart (.GeneratorExp elt [⟨.Name x px, iter, [], 0⟩] sc gpos) 0 (.ref it) .none (gE X sc cd C)).onRaise (leaving (gE X sc cd C))) [] s
  unfold compStart
  rw [Sem.onRaise_eq_wrap]
  show Seg _ A _ _ _ s₀ _ ((ask >>= _).wrap _ _ _ _) [] s
  refine seg_bind_wrap (wpAny_askSetting ?_)
  split
  · exact seg_again rfl loop
  · refine seg_bind_wrap (wpAny_rule ?_)
    show Seg _ A _ _ _ s₀ _ ((standAt iter.pos >>= _).wrap _ _ _ _) [] s
    exact seg_bind_wrap (wpAny_standAt (seg_bind_wrap (T.self _ i s _ _ st (seg_again rfl loop))))
end
end GxA

set_option maxHeartbeats 2000000
namespace GxA
open PySem PySem.Spec PyProof.Rows L2 GxR GenW

/-- the generator at a sleeps, m turns are left -/
def Ready (X' : Cx) (P : Program) (w : World) (A : Around) (a : Addr) (g : Nat) (all : Bool) (Q : VK) (m : Nat) (s : Shared) : Prop :=
  s.heap.IsGen a g ∧ s.heap.NoLimit ∧ AllBare s.gens ∧ ∃ gs, s.gens[g]? = some gs ∧ ∀ s', Still g s s' → gs.Goes (model P w) A.in1 (gR X' all Q) (gY X' g all Q) m (.send .none) s'
/-- the walk is over -/
def Over (X' : Cx) (Q : VK) (v : Bool) (s : Shared) : Prop := ∃ (pins : List (Addr × Obj)) (σ : L2.St) (H : Hp), Inv X' pins σ H s ∧ Q (.bl v) H

theorem gens_lt {gens : Array GenState} {g : Nat} {gs : GenState} (h : gens[g]? = some gs) : g < gens.size := by
  rcases Nat.lt_or_ge g gens.size with z | z
  · exact z
  · rw [Array.getElem?_eq_none z] at h
    cases h
theorem bare_set {s : Shared} {g : Nat} {x : GenState} (h : AllBare s.gens) (hx : x.bare = true) : AllBare (s.setGen g x).gens := by
  intro y hy
  unfold Shared.setGen at hy
  rcases Array.mem_or_eq_of_mem_setIfInBounds hy with z | z
  · exact h y z
  · rw [z]
    exact hx

section
variable {X' : Cx} {A : Around} {a : Addr} {g : Nat} {all : Bool} {Q : VK} {go : Obj}
theorem next_G (hA : A.handled = none) (hd : A.depth < recursionLimit) (hp : (a, go) ∈ X'.pn) (hgo : ∀ h : Heap, h.get? a = some go → h.IsGen a g) {m : Nat} {s : Shared} {E : Value → Shared → Prop} (r : Ready X' X'.prog X'.w A a g all Q m s) :
    wpAny (model X'.prog X'.w) A (pyNext (.ref a)) (fun o s' => (o = none ∧ Over X' Q all s') ∨ ∃ b : Bool, o = some (.bool b) ∧ ((b ≠ all ∧ Over X' Q b s') ∨ (b = all ∧ ∃ m', m = m' + 1 ∧ Ready X' X'.prog X'.w A a g all Q m' s'))) E s := by
  obtain ⟨hg, hl, hb, gs, hgs, goes⟩ := r
  have hlt := gens_lt hgs
  have z0 : Still g s (s.setGen g .running) := ⟨rfl, rfl, bare_set hb rfl, by rw [setGen_size]; exact hlt⟩
  refine wpAny_pyNext_genexpQ (P := gP X' all Q) (Y := gY X' g all Q) (n := m) hA hl hd hg hgs (goes _ z0) (fun v s₁ gs' hbare hv => ?_) (fun s₁ hp1 h' hk => ?_)
  · obtain ⟨b, pins, σ, H, rfl, I, hsz, q1, q2⟩ := hv
    have J : Inv X' pins σ H (s₁.setGen g gs') := inv_still (g := g) I ⟨rfl, rfl, bare_set I.bare hbare, by rw [setGen_size]; exact hsz⟩
    refine .inr ⟨b, rfl, ?_⟩
    by_cases hb1 : b = all
    · refine .inr ⟨hb1, ?_⟩
      cases m with
      | zero => exact (q2 hb1 _ ⟨rfl, rfl, I.bare, hsz⟩).elim
      | succ m' =>
        refine ⟨m', rfl, hgo _ (J.pin (a, go) (List.mem_append_left _ hp)).1, J.nolimit, J.bare, gs', ?_, fun s' z => q2 hb1 s' ⟨z.heap, z.os, z.bare, z.sz⟩⟩
        simp [Shared.setGen, hsz]
    · exact .inl ⟨hb1, pins, σ, H, J, q1 hb1⟩
  · obtain ⟨pins, σ, H, I, q⟩ := hp1
    refine .inl ⟨rfl, pins, σ, H, ?_, q⟩
    exact I.call' (s' := { s₁.setGen g .finished with heap := h' }) (ch := []) rfl (Un.kept hk) (I.hok.kept hk) (bare_set I.bare rfl) fun b hb => absurd hb (by simp)

theorem all_G (hA : A.handled = none) (hd : A.depth < recursionLimit) (hp : (a, go) ∈ X'.pn) (hgo : ∀ h : Heap, h.get? a = some go → h.IsGen a g) {R : Result → Shared → Prop} (hR : ∀ b s', Over X' Q b s' → R (.ok (.ret (.bool b))) s') :
    ∀ (m : Nat) (s : Shared), Ready X' X'.prog X'.w A.in1 a g true Q m s → codeAny (model X'.prog X'.w) A (.builtin "all.loop" ⟨[.ref a], []⟩) R s := by
  intro m
  induction m with
  | zero =>
    intro s r
    refine codeAny_builtin F.entry_all_loop ?_
    rw [Around.under_plainId F.plain_all_loop _]
    show wpAny _ A.in1 (pyNext (.ref a) >>= _) _ _ s
    refine wpAny_bind (wpAny_mono (next_G (A := A.in1) hA hd hp hgo r) (fun o s' h => ?_) fun _ _ e => e)
    rcases h with ⟨rfl, ov⟩ | ⟨b, rfl, ⟨hb, ov⟩ | ⟨_, m', e, _⟩⟩
    · exact wpAny_bind (wpAny_rule (wpAny_pure (hR true s' ov)))
    · refine wpAny_bind (wpAny_holding (wpAny_truthy_bool ?_))
      refine wpAny_bind (wpAny_letGo ?_)
      cases b with
      | true => exact absurd rfl hb
      | false =>
        simp only [Bool.false_eq_true, if_false]
        exact wpAny_bind (wpAny_rule (wpAny_pure (hR false s' ov)))
    · exact absurd e (by omega)
  | succ m ih =>
    intro s r
    refine codeAny_builtin F.entry_all_loop ?_
    rw [Around.under_plainId F.plain_all_loop _]
    show wpAny _ A.in1 (pyNext (.ref a) >>= _) _ _ s
    refine wpAny_bind (wpAny_mono (next_G (A := A.in1) hA hd hp hgo r) (fun o s' h => ?_) fun _ _ e => e)
    rcases h with ⟨rfl, ov⟩ | ⟨b, rfl, ⟨hb, ov⟩ | ⟨hb, m', e, rd⟩⟩
    · exact wpAny_bind (wpAny_rule (wpAny_pure (hR true s' ov)))
    · refine wpAny_bind (wpAny_holding (wpAny_truthy_bool ?_))
      refine wpAny_bind (wpAny_letGo ?_)
      cases b with
      | true => exact absurd rfl hb
      | false =>
        simp only [Bool.false_eq_true, if_false]
        exact wpAny_bind (wpAny_rule (wpAny_pure (hR false s' ov)))
    · subst hb
      have em : m' = m := by omega
      subst em
      refine wpAny_bind (wpAny_holding (wpAny_truthy_bool ?_))
      refine wpAny_bind (wpAny_letGo ?_)
      simp only [if_true]
      exact wpAny_pure ⟨plainId_quiet F.plain_all_loop _, ih s' rd⟩

theorem any_G (hA : A.handled = none) (hd : A.depth < recursionLimit) (hp : (a, go) ∈ X'.pn) (hgo : ∀ h : Heap, h.get? a = some go → h.IsGen a g) {R : Result → Shared → Prop} (hR : ∀ b s', Over X' Q b s' → R (.ok (.ret (.bool b))) s') :
    ∀ (m : Nat) (s : Shared), Ready X' X'.prog X'.w A.in1 a g false Q m s → codeAny (model X'.prog X'.w) A (.builtin "any.loop" ⟨[.ref a], []⟩) R s := by
  intro m
  induction m with
  | zero =>
    intro s r
    refine codeAny_builtin F.entry_any_loop ?_
    rw [Around.under_plainId F.plain_any_loop _]
    show wpAny _ A.in1 (pyNext (.ref a) >>= _) _ _ s
    refine wpAny_bind (wpAny_mono (next_G (A := A.in1) hA hd hp hgo r) (fun o s' h => ?_) fun _ _ e => e)
    rcases h with ⟨rfl, ov⟩ | ⟨b, rfl, ⟨hb, ov⟩ | ⟨_, m', e, _⟩⟩
    · exact wpAny_bind (wpAny_rule (wpAny_pure (hR false s' ov)))
    · refine wpAny_bind (wpAny_holding (wpAny_truthy_bool ?_))
      refine wpAny_bind (wpAny_letGo ?_)
      cases b with
      | false => exact absurd rfl hb
      | true =>
        simp only [if_true]
        exact wpAny_bind (wpAny_rule (wpAny_pure (hR true s' ov)))
    · exact absurd e (by omega)
  | succ m ih =>
    intro s r
    refine codeAny_builtin F.entry_any_loop ?_
    rw [Around.under_plainId F.plain_any_loop _]
    show wpAny _ A.in1 (pyNext (.ref a) >>= _) _ _ s
    refine wpAny_bind (wpAny_mono (next_G (A := A.in1) hA hd hp hgo r) (fun o s' h => ?_) fun _ _ e => e)
    rcases h with ⟨rfl, ov⟩ | ⟨b, rfl, ⟨hb, ov⟩ | ⟨hb, m', e, rd⟩⟩
    · exact wpAny_bind (wpAny_rule (wpAny_pure (hR false s' ov)))
    · refine wpAny_bind (wpAny_holding (wpAny_truthy_bool ?_))
      refine wpAny_bind (wpAny_letGo ?_)
      cases b with
      | false => exact absurd rfl hb
      | true =>
        simp only [if_true]
        exact wpAny_bind (wpAny_rule (wpAny_pure (hR true s' ov)))
    · subst hb
      have em : m' = m := by omega
      subst em
      refine wpAny_bind (wpAny_holding (wpAny_truthy_bool ?_))
      refine wpAny_bind (wpAny_letGo ?_)
      simp only [Bool.false_eq_true, if_false]
      exact wpAny_pure ⟨plainId_quiet F.plain_any_loop _, ih s' rd⟩
end

/-- the captured names: the place of each in the def's own slots -/
def CapsOk (X : Cx) (sc : Scope) : List Nat → List Str → Prop
  | [], [] => True
  | i :: is, y :: ys => (X.N[i]? = some y ∧ (X.env.scope.names.lookup y = some .cell ∨ X.env.scope.names.lookup y = some .free) ∧ sc.names.lookup y = some .free) ∧ CapsOk X sc is ys
  | _, _ => False
theorem CapsOk.get {X : Cx} {sc : Scope} : ∀ {is : List Nat} {ys : List Str} {j : Nat} {y : Str}, CapsOk X sc is ys → ys[j]? = some y →
    ∃ i, is[j]? = some i ∧ X.N[i]? = some y ∧ (X.env.scope.names.lookup y = some .cell ∨ X.env.scope.names.lookup y = some .free) ∧ sc.names.lookup y = some .free
  | [], [], _, _, _, e => by simp at e
  | i :: is, y' :: ys, 0, y, h, e => by
    have e' : y' = y := by simpa using e
    subst e'
    exact ⟨i, rfl, h.1⟩
  | i :: is, y' :: ys, j + 1, y, h, e => by
    obtain ⟨i', z⟩ := CapsOk.get (j := j) (y := y) h.2 (by simpa using e)
    exact ⟨i', by simpa using z⟩
  | [], _ :: _, _, _, h, _ => h.elim
  | _ :: _, [], _, _, h, _ => h.elim
theorem CapsOk.len {X : Cx} {sc : Scope} : ∀ {is : List Nat} {ys : List Str}, CapsOk X sc is ys → is.length = ys.length
  | [], [], _ => rfl
  | i :: is, y :: ys, h => by
    rw [List.length_cons, List.length_cons, CapsOk.len h.2]
  | [], _ :: _, h => h.elim
  | _ :: _, [], h => h.elim

/-- the captured slots -/
def capV (caps : List Nat) (σ : L2.St) : L2.St := caps.map fun j => (σ[j]?).getD none

section
variable {X : Cx} {pins : List (Addr × Obj)} {σ : L2.St} {H : Hp} {s : Shared}
/-- the generator's context begins -/
theorem inv_beginG {xs : List Str} {x : Str} {sc : Scope} {caps : List Nat} {cd : Value} {C a : Addr} {A : Around} {s2 s5 : Shared} {H1 H2 : Hp} {fp : List Addr} {go : Obj} {mC : Str → Option Value}
    (I1 : Inv X pins σ H1 s2) (I5 : Inv X pins σ H2 s5) (S : GenS X.env sc x) (hc : CapsOk X sc caps xs) (hA : A.handled = none) (hfr : A.frames = some X.stack)
    (hfp : ∀ b ∈ fp, FpOk X pins H1 b) (hfp2 : ∀ b ∈ fp, H2 b = none ∧ b < s2.heap.objs.size)
    (un : Un (frs X.stack) fp H1 H2 s2.heap s5.heap) (hC : s2.heap.objs.size ≤ C) (hns : s5.heap.Ns C mC) (hHC : H2 C = none) (hCf : C ∉ frs X.stack)
    (ha : s5.heap.get? a = some go) (hHa : H2 a = none) (haC : a ≠ C) (haf : a ∉ frs X.stack) (hgo : ∀ v, go.data ≠ .cell v) :
    Inv (gcx X (x :: xs) sc cd C A s2 H1 fp [(a, go)]) [] (none :: capV caps σ) H2 s5 := by
  have cm : ∀ y c, (cloFrom X.env.cells sc.names []).lookup y = some c → X.env.cells.lookup y = some c := fun y c e => NdefX.clo_cm S.free e
  have stk_lt : ∀ b ∈ frs X.stack, b < s2.heap.objs.size := fun b hb => by
    obtain ⟨_, o, ho, _⟩ := I1.stack.mem hb
    exact Heap.lt_size ho
  have cellLt : ∀ y c, X.env.cells.lookup y = some c → c < s2.heap.objs.size := fun y c e => by
    obtain ⟨v, q⟩ := I1.cell y c e
    exact q.lt
  refine ⟨⟨I1.ok.mod, S.kind, I1.ok.glob, rfl, hC, fun y z c e1 e2 => I1.ok.inj y z c (cm y c e1) (cm z c e2), fun y hy => ?_, fun y c hf _ => Bool.noConfusion hf, fun _ => hA, ?_, .inr ⟨rfl, rfl⟩, fun b hb => ⟨?_, fun y c e z => ?_⟩, I1.bs, Nat.le_trans I1.ok.bsz I1.sz, fun b o e hb => ?_, fun b hb hb2 => ?_, I1.stack, I1.stkFree⟩,
    ?_, I5.bare, un, ⟨mC, hns, fun j y v e1 e2 e3 => ?_⟩, fun y c e => I5.cell y c (cm y c e), hHC, fun y c e => I5.freeC y c (cm y c e), fun p hp => ?_, I5.hok, ?_⟩
  · have hy' : sc.names.lookup y = some .cell ∨ sc.names.lookup y = some .free := hy
    rcases hy' with q | q
    · exact absurd rfl (S.cell _ (PySem.mem_of_lookup q))
    · have hm := PySem.mem_of_lookup q
      obtain ⟨c, e⟩ := S.free _ hm rfl
      exact ⟨c, NdefX.clo_has S.free hm e⟩
  · show A.frames.map (gE X sc cd C :: ·) = some (gE X sc cd C :: X.stack)
    rw [hfr]
    rfl
  · show b ≠ C
    exact Nat.ne_of_lt (Nat.lt_of_lt_of_le (hfp2 b hb).2 hC)
  · obtain ⟨_, _, _, _, f4, _⟩ := hfp b hb
    exact f4 y c (cm y c e) z
  · have q := (hfp b hb).2.2.2.1
    rcases q with q | q
    · exact I1.ok.noex b o e q
    · have h1 := (I1.ok.bs b o e).1
      exact absurd (Nat.lt_of_lt_of_le (Heap.lt_size h1) q) (Nat.lt_irrefl _)
  · obtain ⟨_, f1, f2, _⟩ := hfp b hb
    rcases List.mem_cons.mp (I1.stkSub b hb2) with z | z
    · exact f1 z
    · exact f2 z
  · show s5.os = s2.os
    rw [I5.os, I1.os]
  · cases j with
    | zero =>
      have e2' : (none : Option V) = some v := by simpa using e2
      cases e2'
    | succ j =>
      have e1' : xs[j]? = some y := by
        have q : (x :: xs)[j + 1]? = some y := e1
        simpa using q
      obtain ⟨i, hi, hN, hk, hfree⟩ := hc.get e1'
      have hσ : σ[i]? = some (some v) := by
        have q : (capV caps σ)[j]? = some (some v) := by simpa using e2
        unfold capV at q
        rw [List.getElem?_map, hi] at q
        have q' : (σ[i]?).getD none = some v := by simpa using q
        cases z : σ[i]? with
        | none => rw [z] at q'; cases q'
        | some o => rw [z] at q'; exact congrArg some q'
      obtain ⟨m, hm, hl⟩ := I5.loc
      obtain ⟨u, ru, lk⟩ := hl i y v hN hσ (hk.elim (fun z => .inr (.inl z)) fun z => .inr (.inr z))
      refine ⟨u, ru, .inr ⟨.inr hfree, ?_⟩⟩
      rcases lk with ⟨z, _⟩ | ⟨_, c, e, ic⟩
      · have z' : X.env.scope.names.lookup y = some .local := z
        rcases hk with q | q <;> (rw [z'] at q; cases q)
      · exact ⟨c, NdefX.clo_has S.free (PySem.mem_of_lookup hfree) e, ic⟩
  · have hp' : p = (a, go) := by
      have q : p ∈ [(a, go)] ++ ([] : List (Addr × Obj)) := hp
      simpa using q
    subst hp'
    exact ⟨ha, hHa, haC, haf, hgo⟩
  · show (none :: capV caps σ).length = (x :: xs).length
    unfold capV
    rw [List.length_cons, List.length_cons, List.length_map, hc.len]
end
end GxA

set_option maxHeartbeats 2000000
namespace GxA
open PySem PySem.Spec PyProof.Rows L2 GxR GenW

/-- the reading of all(.. for x in ..), any(.. for x in ..) -/
def tGx (all : Bool) (P : Addr) (caps : List Nat) (wi : TI) (te : TE) : TE := fun σ H Q => wi σ H fun J H1 => TabG H1 P ∧ ∀ H2, Tabbed P H1 H2 →
  ∃ W : Nat → Nat → Hp → Prop, (∃ m, W 0 m H2) ∧ gW all J (capV caps σ) te Q W

section
variable {X : Cx} {pins : List (Addr × Obj)} {σ : L2.St} {H : Hp} {s : Shared}
theorem gen_make {all : Bool} {c P : Addr} {elt iter : Expr} {x : Str} {xs : List Str} {caps : List Nat} {px gpos : Pos} {sc : Scope} {wi : TI} {te : TE} {k : Nat} {Q : VK} {Q' : Value → Shared → Prop}
    (hr : Room (k + 1) X.A) (TB : TabB X.base X.mg c P) (hcode : X.env.code = .ref c) (S : GenS X.env sc x) (hcap : CapsOk X sc caps xs) (hnd : (x :: xs).Nodup) (hi : PI X (.Name x px) iter wi)
    (hel : ∀ (cd : Value) (C : Addr) (A : Around) (s2 : Shared) (H1 : Hp) (fp : List Addr) (pn : List (Addr × Obj)), Room k (A.deeper (gE X sc cd C)) → PE (gcx X (x :: xs) sc cd C A s2 H1 fp pn) elt te)
    (hs : ∀ v, genFold iter X.env v = pure v) (I : Inv X pins σ H s) (h : tGx all P caps wi te σ H Q)
    (hQ : ∀ (X' : Cx) (a : Addr) (g m : Nat) (go : Obj) (s5 : Shared), X'.prog = X.prog → X'.w = X.w → (a, go) ∈ X'.pn → (∀ h : Heap, h.get? a = some go → h.IsGen a g) → Ready X' X.prog X.w X.A.in1 a g all Q m s5 →
      (∀ b s', Over X' Q b s' → ∃ v H', Inv X pins σ H' s' ∧ RelV v (.bool b) ∧ Q v H') → Q' (.ref a) s5) :
    wpAny (model X.prog X.w) X.A (eval (.GeneratorExp elt [⟨.Name x px, iter, [], 0⟩] sc gpos) X.env) Q' X.xe s := by
  have hdep : X.A.depth < recursionLimit := hr.depth
  refine wpAny_GeneratorExp_make S.co (closure_ok S.free) S.cell S.dot S.kind hdep ?_ hs
  refine wpAny_mono (hi.run pins s σ H _ I h) (fun xv s1 h1 => wpAny_mono h1 (fun itv s2 h2 => ?_) fun _ _ e => e) fun _ _ e => e
  obtain ⟨it, fp, tn, J, H1, rfl, I1, T, t0, hfp, ⟨ps, hP, ht⟩, hW⟩ := h2
  refine ⟨I1.nolimit, ?_⟩
  have hPs : s2.heap.get? P = some { cls := .none, data := .fields ps } := I1.hok P _ hP
  have cdh : PySem.W.CodeHd s2.heap c P := TB.code.keeps fun b u e => I1.bk b u e
  have hPlt : P < s2.heap.objs.size := Heap.lt_size hPs
  have main : ∀ (code : Value) (h3 : Heap) (tk : Nat) (ps' : Array Value), Heap.ExtBut P s2.heap h3 → s2.heap.objs.size ≤ h3.objs.size → h3.get? P = some { cls := .none, data := .fields ps' } → (∃ more, ps' = ps ++ more) → TriplesOk ps'.toList →
      wpAny (model X.prog X.w) X.A (builtinsFor X.env.globals X.env.builtins) (fun bi s₄ =>
        ∀ h', h'.Ns s₄.heap.objs.size (fun y => if y = ".0" then some (Value.ref it) else none) → Heap.SameBut s₄.heap.objs.size (s₄.heap.push { cls := .type "frame", data := .dict #[] }) h' →
          Q' (.ref h'.objs.size) { s₄ with
            gens := s₄.gens.push (.fresh (.compStart (.GeneratorExp elt [⟨.Name x px, iter, [], 0⟩] sc gpos) 0 (.ref it) .none (genEnv sc (cloFrom X.env.cells sc.names []) s₄.heap.objs.size code bi X.env))),
            toks := s₄.toks + 1 + 1 + 1,
            heap := h'.push { cls := .type "generator", data := .fields #[.int s₄.gens.size 0, .str "<genexpr>" (s₄.toks + 1), .str (X.env.qual ++ "<genexpr>") (s₄.toks + 1 + 1)] } }) X.xe { s2 with heap := h3, toks := tk } := by
    intro code h3 tk ps' hx hsz hP3 hmore ht3
    obtain ⟨bm, ob, e1, e2, e3, e4, e5, e6, e7, e8⟩ := TB.bm
    have keep3 : ∀ b u, b ≠ P → s2.heap.get? b = some u → h3.get? b = some u := fun b u hb e => hx b u hb e
    refine wpAny_builtinsFor (m := X.mg) (by rw [I1.ok.glob]; exact (I1.mod.glob.keeps I1.bk).extBut hx TB.gP) e1 e2 (keep3 _ _ e4 (I1.bk _ _ e5)) e6 e7 e8 ?_
    intro h' hns hsame
    obtain ⟨more, em⟩ := hmore
    -- names for the new things
    generalize hgo : ({ cls := .type "generator", data := .fields #[.int s2.gens.size 0, .str "<genexpr>" (tk + 1), .str (X.env.qual ++ "<genexpr>") (tk + 1 + 1)] } : Obj) = go
    have szh' : h'.objs.size = h3.objs.size + 1 := by rw [hsame.1, Heap.size_push]
    have keep' : ∀ b o, h3.get? b = some o → h'.get? b = some o := fun b o e => hsame.extBut b o (Nat.ne_of_lt (Heap.lt_size e)) (Heap.get?_push_of_some _ e)
    have keep5 : ∀ b o, h3.get? b = some o → (h'.push go).get? b = some o := fun b o e => Heap.get?_push_of_some _ (keep' b o e)
    have k25 : ∀ b o, b ≠ P → s2.heap.get? b = some o → (h'.push go).get? b = some o := fun b o hb e => keep5 b o (keep3 b o hb e)
    have hP5 : (h'.push go).get? P = some { cls := .none, data := .fields (ps ++ more) } := by
      rw [← em]
      exact keep5 P _ hP3
    have hgoat : (h'.push go).get? h'.objs.size = some go := by
      rw [← hgo]
      exact Heap.get?_push_size _ rfl
    have bare5 : AllBare (s2.gens.push (.fresh (.compStart (.GeneratorExp elt [⟨.Name x px, iter, [], 0⟩] sc gpos) 0 (.ref it) .none (gE X sc code h3.objs.size)))) := I1.bare.push rfl
    have I5 := inv_tab (P := P) (more := more) (h' := h'.push go) (g' := s2.gens.push (.fresh (.compStart (.GeneratorExp elt [⟨.Name x px, iter, [], 0⟩] sc gpos) 0 (.ref it) .none (gE X sc code h3.objs.size)))) (d' := s2.drawn) (t' := tk + 1 + 1 + 1) I1 hP k25 hP5 bare5
    have nP : ∀ b, H1 b = none → b ≠ P := fun b e z => by
      rw [z, hP] at e
      cases e
    have at2 : ∀ b, b ≠ P → upd H1 P (.tbl (ps ++ more)) b = H1 b := fun b hb => upd_ne hb
    have hT2 : Tabbed P H1 (upd H1 P (.tbl (ps ++ more))) := ⟨⟨ps ++ more, upd_same, by rw [← em]; exact ht3⟩, fun b hb => upd_ne hb⟩
    obtain ⟨W, ⟨m, w0⟩, hgW⟩ := hW _ hT2
    have un : Un (frs X.stack) fp H1 (upd H1 P (.tbl (ps ++ more))) s2.heap (h'.push go) := by
      refine ⟨fun b o e n _ _ => k25 b o (nP b n) e, fun b o e n _ _ => ⟨o.slots, k25 b o (nP b n) e⟩, fun b o e n _ => by rw [at2 b (nP b n)]; exact n, fun b o e _ => ?_, fun b zs e => ?_, fun b o u e => ?_, fun b qs e => ?_⟩
      · by_cases hb : b = P
        · rw [hb]
          exact ⟨_, hP5⟩
        · exact ⟨o, k25 b o hb e⟩
      · rw [at2 b fun z => by rw [z, hP] at e; cases e]
        exact e
      · rw [at2 b fun z => by rw [z, hP] at e; cases e]
        exact e
      · by_cases hb : b = P
        · rw [hb, hP] at e
          cases e
          rw [hb, upd_same]
          exact ⟨more, rfl⟩
        · rw [at2 b hb, e]
          exact ⟨#[], by simp⟩
    have young : ∀ b, s2.heap.objs.size ≤ b → H1 b = none ∧ b ∉ frs X.stack := fun b hb => ⟨I1.hok.fresh hb, fun hm => by
      obtain ⟨_, o, ho, _⟩ := I1.stack.mem hm
      exact absurd (Nat.lt_of_lt_of_le (Heap.lt_size ho) hb) (Nat.lt_irrefl _)⟩
    have y3 := young h3.objs.size hsz
    have y5 := young h'.objs.size (by rw [szh']; exact Nat.le_succ_of_le hsz)
    have hfp2 : ∀ b ∈ fp, upd H1 P (.tbl (ps ++ more)) b = none ∧ b < s2.heap.objs.size := fun b hb => by
      have n := (hfp b hb).1
      obtain ⟨o, ho, _⟩ := T.obj _ _ t0 b hb
      exact ⟨by rw [at2 b (nP b n)]; exact n, Heap.lt_size ho⟩
    have hA3 : X.A.in1.in1.handled = none := hr.hd
    have hfr3 : X.A.in1.in1.frames = some X.stack := I1.ok.frames
    have hroom : Room k (X.A.in1.in1.deeper (gE X sc code h3.objs.size)) := ⟨hr.hd, by have := hr.dp; show X.A.depth + 1 + 3 * k + 5 < _; omega, by have := hr.un; show X.A.units + 1 + 1 + 3 + 16 * k + 200 < _; omega⟩
    have hel' := hel code h3.objs.size X.A.in1.in1 s2 H1 fp [(h'.objs.size, go)] hroom
    have neC : h'.objs.size ≠ h3.objs.size := by
      rw [szh']
      exact Nat.succ_ne_self _
    have J5 : Inv (gcx X (x :: xs) sc code h3.objs.size X.A.in1.in1 s2 H1 fp [(h'.objs.size, go)]) [] (none :: capV caps σ) (upd H1 P (.tbl (ps ++ more)))
        { s2 with heap := h'.push go, gens := s2.gens.push (.fresh (.compStart (.GeneratorExp elt [⟨.Name x px, iter, [], 0⟩] sc gpos) 0 (.ref it) .none (gE X sc code h3.objs.size))), drawn := s2.drawn, toks := tk + 1 + 1 + 1 } :=
      inv_beginG (s5 := { s2 with heap := h'.push go, gens := s2.gens.push (.fresh (.compStart (.GeneratorExp elt [⟨.Name x px, iter, [], 0⟩] sc gpos) 0 (.ref it) .none (gE X sc code h3.objs.size))), drawn := s2.drawn, toks := tk + 1 + 1 + 1 })
        I1 I5 S hcap hA3 hfr3 hfp hfp2 un hsz (hns.push go) (by rw [at2 _ (nP _ y3.1)]; exact y3.1) y3.2 hgoat (by rw [at2 _ (nP _ y5.1)]; exact y5.1) neC y5.2 (fun v q => by rw [← hgo] at q; cases q)
    have tn5 : tn 0 (h'.push go) := T.keep _ _ _ t0 fun b hb o e => k25 b o (nP b (hfp b hb).1) e
    have fpG : ∀ b ∈ fp, FpOk (gcx X (x :: xs) sc code h3.objs.size X.A.in1.in1 s2 H1 fp [(h'.objs.size, go)]) [] (upd H1 P (.tbl (ps ++ more))) b := fun b hb => by
      obtain ⟨f0, f1, f2, f3, f4, f5⟩ := hfp b hb
      have lt := (hfp2 b hb).2
      refine ⟨(hfp2 b hb).1, Nat.ne_of_lt (Nat.lt_of_lt_of_le lt hsz), fun hm => ?_, .inl hb, fun y c e => f4 y c (NdefX.clo_cm S.free e), fun p hp z => ?_⟩
      · rcases List.mem_cons.mp (I1.stkSub b hm) with z | z
        · exact f1 z
        · exact f2 z
      · have hp' : p = (h'.objs.size, go) := by
          have q : p ∈ [(h'.objs.size, go)] ++ ([] : List (Addr × Obj)) := hp
          simpa using q
        subst hp'
        have z' : h'.objs.size = b := z
        rw [← z', szh'] at lt
        exact absurd (Nat.lt_of_lt_of_le lt (Nat.le_succ_of_le hsz)) (Nat.lt_irrefl _)
    refine hQ (gcx X (x :: xs) sc code h3.objs.size X.A.in1.in1 s2 H1 fp [(h'.objs.size, go)]) h'.objs.size s2.gens.size m go _ rfl rfl List.mem_cons_self (fun h e => ⟨go, _, _, e, by rw [← hgo], by rw [← hgo], by rw [← hgo]⟩) ?_ (fun b s' ov => ?_)
    · refine ⟨⟨go, _, _, ?_, by rw [← hgo], by rw [← hgo], by rw [← hgo]⟩, ?_, bare5, _, Array.getElem?_push_size .., fun s' z => ⟨rfl, ?_⟩⟩
      · exact hgoat
      · exact J5.nolimit
      · have z' : Still s2.gens.size { s2 with heap := h'.push go, gens := s2.gens.push (.fresh (.compStart (.GeneratorExp elt [⟨.Name x px, iter, [], 0⟩] sc gpos) 0 (.ref it) .none (gE X sc code h3.objs.size))), drawn := s2.drawn, toks := tk + 1 + 1 + 1 } s' :=
          ⟨z.heap, z.os, z.bare, z.sz⟩
        have J6 := inv_still J5 z'
        refine seg_startG (J := J) (W := W) (te := te) (x := x) (σc := capV caps σ) T S.loc S.co hnd rfl hel' hgW m 0 s' s' _ none w0 J6 fpG ?_ z.sz
        rw [z'.heap]
        exact tn5
    · obtain ⟨pins', σ', H', J', q⟩ := ov
      refine ⟨.bl b, H', ?_, rfl, q⟩
      refine I1.call' (ch := fp) (by rw [J'.os]; rfl) J'.base J'.hok J'.bare fun b hb => ?_
      obtain ⟨f0, f1, f2, f3, f4, f5⟩ := hfp b hb
      exact ⟨f3, f1, f4, f5⟩
  cases hf : codeAmong gpos ps.toList with
  | none =>
    refine wpAny_genexprCodeX hcode (cdh.code hPs ht) (cdh.tab hPs) hf fun c' h' tk hx hge hlt hco' _ htab' _ => ?_
    obtain ⟨o1, vs, f1, tf, fl, tg, inF, tx, tt, op, _, _, _, _, _, _, _, _, _, htr, _⟩ := hco'
    exact main _ h' tk _ hx (Nat.le_trans hge (Nat.le_of_lt hlt)) htab'.2 ⟨_, rfl⟩ htr
  | some cv =>
    refine wpAny_genexprCode_hit hcode (cdh.code hPs ht) hf ?_
    exact main cv s2.heap s2.toks ps (Heap.ExtBut.refl _ _) (Nat.le_refl _) hPs ⟨#[], by simp⟩ ht

theorem pe_allG {c P : Addr} {elt iter : Expr} {x : Str} {xs : List Str} {caps : List Nat} {px p pos gpos : Pos} {sc : Scope} {wi : TI} {te : TE} {k : Nat}
    (hr : Room (k + 1) X.A) (hg : Gl X "all") (hm : X.mg "all" = none) (TB : TabB X.base X.mg c P) (hcode : X.env.code = .ref c) (S : GenS X.env sc x) (hcap : CapsOk X sc caps xs) (hnd : (x :: xs).Nodup) (hi : PI X (.Name x px) iter wi)
    (hel : ∀ (cd : Value) (C : Addr) (A : Around) (s2 : Shared) (H1 : Hp) (fp : List Addr) (pn : List (Addr × Obj)), Room k (A.deeper (gE X sc cd C)) → PE (gcx X (x :: xs) sc cd C A s2 H1 fp pn) elt te)
    (hs : ∀ v, genFold iter X.env v = pure v) (hb : bootBuiltins "all" = some (.builtin "all") := by decide +kernel)
    (he : starEach [.GeneratorExp elt [⟨.Name x px, iter, [], 0⟩] sc gpos] X.env = (false, eval (.GeneratorExp elt [⟨.Name x px, iter, [], 0⟩] sc gpos) X.env) :: starEach [] X.env := by rfl) :
    PE X (.Call (.Name "all" p) [.GeneratorExp elt [⟨.Name x px, iter, [], 0⟩] sc gpos] [] pos) (tGx true P caps wi te) := by
  refine ⟨fun pins s σ H Q I h => ?_⟩
  refine wpAny_Call_Name_kw (ld_blt I hg hm hb ?_)
  refine PyProof.Rows.callWith_builtin1 ?_ he (by rfl)
  rw [he]
  show wpAny _ _ (spliced ((false, eval (.GeneratorExp elt [⟨.Name x px, iter, [], 0⟩] sc gpos) X.env) :: backTo pos (starEach [] X.env))) _ _ s
  refine Calls.spliced_cons (gen_make hr TB hcode S hcap hnd hi hel hs I h fun X' a g m go s5 e1 e2 hp hgo rd hfin => ?_)
  refine Calls.spliced_nil ?_
  have hd : X.A.depth < recursionLimit := hr.depth
  refine call_function_tree F.kind_all F.plain_all F.entry_all (F.args_all1 _) ?_
  unfold Builtin.«all»
  refine wpAny_bind (m := oneArg "all" _) (wpAny_pure ?_)
  refine wpAny_bind (wpAny_pyIter_gen rd.1 ?_)
  rw [← e1, ← e2] at rd ⊢
  exact wpAny_pure ⟨plainId_quiet F.plain_all_loop _, all_G (A := X.A) hr.hd hd hp hgo (fun b s' ov => hfin b s' ov) m s5 rd⟩
theorem pe_anyG {c P : Addr} {elt iter : Expr} {x : Str} {xs : List Str} {caps : List Nat} {px p pos gpos : Pos} {sc : Scope} {wi : TI} {te : TE} {k : Nat}
    (hr : Room (k + 1) X.A) (hg : Gl X "any") (hm : X.mg "any" = none) (TB : TabB X.base X.mg c P) (hcode : X.env.code = .ref c) (S : GenS X.env sc x) (hcap : CapsOk X sc caps xs) (hnd : (x :: xs).Nodup) (hi : PI X (.Name x px) iter wi)
    (hel : ∀ (cd : Value) (C : Addr) (A : Around) (s2 : Shared) (H1 : Hp) (fp : List Addr) (pn : List (Addr × Obj)), Room k (A.deeper (gE X sc cd C)) → PE (gcx X (x :: xs) sc cd C A s2 H1 fp pn) elt te)
    (hs : ∀ v, genFold iter X.env v = pure v) (hb : bootBuiltins "any" = some (.builtin "any") := by decide +kernel)
    (he : starEach [.GeneratorExp elt [⟨.Name x px, iter, [], 0⟩] sc gpos] X.env = (false, eval (.GeneratorExp elt [⟨.Name x px, iter, [], 0⟩] sc gpos) X.env) :: starEach [] X.env := by rfl) :
    PE X (.Call (.Name "any" p) [.GeneratorExp elt [⟨.Name x px, iter, [], 0⟩] sc gpos] [] pos) (tGx false P caps wi te) := by
  refine ⟨fun pins s σ H Q I h => ?_⟩
  refine wpAny_Call_Name_kw (ld_blt I hg hm hb ?_)
  refine PyProof.Rows.callWith_builtin1 ?_ he (by rfl)
  rw [he]
  show wpAny _ _ (spliced ((false, eval (.GeneratorExp elt [⟨.Name x px, iter, [], 0⟩] sc gpos) X.env) :: backTo pos (starEach [] X.env))) _ _ s
  refine Calls.spliced_cons (gen_make hr TB hcode S hcap hnd hi hel hs I h fun X' a g m go s5 e1 e2 hp hgo rd hfin => ?_)
  refine Calls.spliced_nil ?_
  have hd : X.A.depth < recursionLimit := hr.depth
  refine call_function_tree F.kind_any F.plain_any F.entry_any (F.args_any1 _) ?_
  unfold Builtin.«any»
  refine wpAny_bind (m := oneArg "any" _) (wpAny_pure ?_)
  refine wpAny_bind (wpAny_pyIter_gen rd.1 ?_)
  rw [← e1, ← e2] at rd ⊢
  exact wpAny_pure ⟨plainId_quiet F.plain_any_loop _, any_G (A := X.A) hr.hd hd hp hgo (fun b s' ov => hfin b s' ov) m s5 rd⟩
end
end GxA

set_option maxHeartbeats 2000000
/-! sorted of lists, and of sets, of tuples of ints: any number, any lengths. -/
namespace SrT
open PySem PySem.Spec PyProof.Rows L2 PySem.W
/-- v is a tuple of the ints ns -/
def IsI (h : Heap) (v : Value) (ns : List Int) : Prop := ∃ (a : Addr) (items : Array Value), v = .ref a ∧ IsTup h a items ∧ IntsAre items.toList ns
theorem IsI.keeps {h h' : Heap} {v : Value} {ns : List Int} (x : IsI h v ns) (k : ∀ b o, v = .ref b → h.get? b = some o → h'.get? b = some o) : IsI h' v ns := by
  obtain ⟨a, items, e, ⟨o, ho, r⟩, i⟩ := x
  exact ⟨a, items, e, ⟨o, k _ _ e ho, r⟩, i⟩
theorem IsI.type {M : Model} {h : Heap} {v : Value} {ns : List Int} (x : IsI h v ns) : Looks M h (typeOf v) (.type "tuple") := by
  obtain ⟨a, items, rfl, ⟨o, ho, hc, n, hd⟩, i⟩ := x
  have q : Looks M h (typeOf (.ref a)) o.cls := (Looks.ld ho).andThen .now
  rw [hc] at q
  exact q
theorem IsI.inj {h : Heap} {v : Value} {ns ms : List Int} (x : IsI h v ns) (y : IsI h v ms) : ns = ms := by
  obtain ⟨a, items, rfl, ⟨o, ho, hc, n, hd⟩, i⟩ := x
  obtain ⟨a', items', e, ⟨o', ho', hc', n', hd'⟩, i'⟩ := y
  cases e
  rw [ho] at ho'
  cases ho'
  rw [hd] at hd'
  cases hd'
  have e1 := i.numsOf
  have e2 := i'.numsOf
  exact e1.symm.trans e2
section
variable {prog : Program} {w : World} {A : Around} {E : Value → Shared → Prop} {s : Shared}
theorem lex_run {b : Bool} {Q : Bool → Shared → Prop} : ∀ (vs us : List Value) (ns ms : List Int) (i : Nat) (fin : Bool), IntsAre vs ns → IntsAre us ms → fin = decide (ns.length < ms.length) → Q (HT.lexLt ns ms) s → KatLex prog w A b fin Q (vs.zip us) i s
  | [], us, ns, ms, i, fin, h1, h2, hf, h => by
    cases h1
    cases h2 with
    | nil =>
      rw [hf]
      exact kat_nil h
    | cons n t h2 =>
      rw [hf]
      exact kat_nil h
  | v :: vs, [], ns, ms, i, fin, h1, h2, hf, h => by
    cases h2
    cases h1 with
    | cons n t h1 =>
      rw [hf]
      exact kat_nil h
  | v :: vs, u :: us, ns, ms, i, fin, h1, h2, hf, h => by
    cases h1 with
    | cons n t h1 =>
      cases h2 with
      | cons m t2 h2 =>
        rename_i ns ms
        rw [List.zip_cons_cons]
        refine kat_cons (wpAny_eqBool_int ?_)
        refine kat_go (fun e => kat_yes ?_) (fun e => kat_no ?_)
        · have hnm : n = m := by simpa using e
          subst hnm
          rw [HT.lexLt_cons, if_pos rfl] at h
          refine lex_run vs us ns ms (i + 1) fin h1 h2 ?_ h
          rw [hf, List.length_cons, List.length_cons]
          simp
        · have hnm : ¬ n = m := by simpa using e
          rw [HT.lexLt_cons, if_neg hnm] at h
          exact oneLt_any_int h
theorem lt_tuples {b : Bool} {v u : Value} {ns ms : List Int} {Q : Bool → Shared → Prop} (hv : IsI s.heap v ns) (hw : IsI s.heap u ms) (h : Q (HT.lexLt ns ms) s) : wpAny (model prog w) A (keyLt' (tuples' b) v u) Q E s := by
  obtain ⟨a, items, rfl, ⟨o, ho, hc, n, hd⟩, i⟩ := hv
  obtain ⟨a', items', rfl, ⟨o', ho', hc', n', hd'⟩, i'⟩ := hw
  refine kat_lt ho hd ho' hd' (lex_run _ _ ns ms 0 _ i i' ?_ h)
  rw [← i.length, ← i'.length, Array.length_toList, Array.length_toList]
theorem rich_lt {v u : Value} {ns ms : List Int} {Q : Value → Shared → Prop} (hu : A.units < cLine) (hv : IsI s.heap v ns) (hw : IsI s.heap u ms) (h : Q (.bool (HT.lexLt ns ms)) s) : wpAny (model prog w) A (richCompare .Lt v u) Q E s := by
  obtain ⟨a, items, rfl, t, i⟩ := hv
  obtain ⟨a', items', rfl, t', i'⟩ := hw
  exact (HT.lt_tupInts t t' i i' hu h : wpAny (model prog w) A (compareOp .Lt (.ref a) (.ref a')) Q E s)
theorem lt_general {v u : Value} {ns ms : List Int} {Q : Bool → Shared → Prop} (hu : A.units < cLine) (hv : IsI s.heap v ns) (hw : IsI s.heap u ms) (h : Q (HT.lexLt ns ms) s) : wpAny (model prog w) A (keyLt' general' v u) Q E s := by
  show wpAny (model prog w) A (oneLt' false v u) Q E s
  rw [oneLt'_eq]
  simp only [Bool.false_eq_true, if_false]
  exact wpAny_bind (rich_lt hu hv hw (wpAny_truthy_bool h))
theorem lt_one {v u : Value} {ns ms : List Int} {Q : Bool → Shared → Prop} (hu : A.units < cLine) (hv : IsI s.heap v ns) (hw : IsI s.heap u ms) (h : Q (HT.lexLt ns ms) s) : wpAny (model prog w) A (keyLt' oneType' v u) Q E s := by
  obtain ⟨a, items, rfl, ⟨⟨cls, dd, data, sl⟩, ho, hc, n, hd⟩, i⟩ := hv
  obtain ⟨a', items', rfl, ⟨⟨cls', dd', data', sl'⟩, ho', hc', n', hd'⟩, i'⟩ := hw
  simp only at hc hd hc' hd'
  subst hc hd hc' hd'
  rw [keyLt'_oneType, oneLt'_eq]
  simp only [if_true]
  refine wpAny_bind (wpAny_cRoomFor hu ?_)
  refine wpAny_bind (wpAny_callSpecialIfBound?_slot (T := "tuple") (name := Str.ofString "__lt__") ⟨_, ho, rfl⟩ PySem.F.slot_tuple_lt ?_)
  refine call_meets PySem.F.slot_tuple_lt ⟨_, ho, rfl⟩ PySem.F.entry_tuple_lt (PySem.F.args_tuple_lt_2 _ _) (HT.tuple_lt_ints a a' items items' n n' dd dd' sl sl' ns ms i i') ⟨ho, ho', ?_⟩
  exact wpAny_truthy_bool h
/-- the first items -/
theorem firsts_run : ∀ (vs : List Value) (k : Value → List Int) {Q : List (Option Value) → Shared → Prop}, (∀ v ∈ vs, IsI s.heap v (k v)) →
    (∀ fs : List (Option Value), Paired (fun (v : Value) (f : Option Value) => match k v with | [] => f = none | x :: _ => ∃ t, f = some (Value.int x t)) vs fs → Q fs s) → wpAny (model prog w) A (vs.mapM firstOfTuple') Q E s
  | [], k, Q, _, h => by
    rw [List.mapM_nil]
    exact wpAny_pure (h [] .nil)
  | v :: vs, k, Q, hv, h => by
    rw [List.mapM_cons]
    refine wpAny_bind ?_
    have hv0 := hv v List.mem_cons_self
    have ht : Looks (model prog w) s.heap (typeOf v) (.type "tuple") := hv0.type
    obtain ⟨a, items, e, ⟨o, ho, hc, n, hd⟩, i⟩ := hv0
    rw [kas_first_eq]
    refine wpAny_bind (ht.here ?_)
    rw [if_neg (by decide +kernel)]
    rw [e]
    refine wpAny_bind (listItems_at ho hd (wpAny_pure ?_))
    refine wpAny_bind (firsts_run vs k (fun u hu => hv u (List.mem_cons_of_mem _ hu)) fun fs hp => wpAny_pure (h _ (.cons ?_ hp)))
    have ei : items[0]? = items.toList[0]? := by rw [Array.getElem?_toList]
    rw [ei]
    cases hk : k v with
    | nil =>
      rw [hk] at i
      generalize items.toList = l at i
      cases i
      rfl
    | cons x r =>
      rw [hk] at i
      generalize items.toList = l at i
      cases i with
      | cons n t i => exact ⟨t, rfl⟩
theorem some_of : ∀ {vs : List Value} {k : Value → List Int} {fs : List (Option Value)}, Paired (fun (v : Value) (f : Option Value) => match k v with | [] => f = none | x :: _ => ∃ t, f = some (Value.int x t)) vs fs →
    (fs.all (·.isSome)) = true → ∃ gs : List Value, fs = gs.map some ∧ ∀ g ∈ gs, ∃ x t, g = Value.int x t
  | _, _, _, .nil, _ => ⟨[], rfl, fun g hg => absurd hg (by simp)⟩
  | v :: vs, k, f :: fs, .cons r p, h => by
    rw [List.all_cons, Bool.and_eq_true] at h
    obtain ⟨gs, e, hg⟩ := some_of p h.2
    cases hk : k v with
    | nil =>
      simp only [hk] at r
      rw [r] at h
      exact absurd h.1 (by simp)
    | cons x y =>
      simp only [hk] at r
      obtain ⟨t, r⟩ := r
      refine ⟨Value.int x t :: gs, by rw [r, e]; rfl, fun g hg' => ?_⟩
      rcases List.mem_cons.mp hg' with z | z
      · exact ⟨x, t, z⟩
      · exact hg g z
/-- the kind that the sort picks -/
def kindT (l : List (List Int)) : SortKind := if l.all (fun k => !k.isEmpty) = true then tuples' true else if (l.head?.elim true (·.isEmpty)) = true then oneType' else general'
theorem kindT_one (l : List (List Int)) : kindT l = general' ∨ kindT l = oneType' ∨ ∃ b, kindT l = tuples' b := by
  unfold kindT
  split
  · exact .inr (.inr ⟨true, rfl⟩)
  · split
    · exact .inr (.inl rfl)
    · exact .inl rfl
theorem all_some : ∀ {vs : List Value} {k : Value → List Int} {fs : List (Option Value)}, Paired (fun (v : Value) (f : Option Value) => match k v with | [] => f = none | x :: _ => ∃ t, f = some (Value.int x t)) vs fs →
    fs.all (·.isSome) = (vs.map k).all (fun k => !k.isEmpty)
  | _, _, _, .nil => rfl
  | v :: vs, k, f :: fs, .cons r p => by
    rw [List.all_cons, List.map_cons, List.all_cons, all_some p]
    cases hk : k v with
    | nil =>
      simp only [hk] at r
      rw [r]
      rfl
    | cons x y =>
      simp only [hk] at r
      obtain ⟨t, r⟩ := r
      rw [r]
      rfl
theorem kind_run {vs : List Value} {k : Value → List Int} {Q : SortKind → Shared → Prop} (h2 : 2 ≤ vs.length) (hv : ∀ v ∈ vs, IsI s.heap v (k v)) (h : Q (kindT (vs.map k)) s) :
    wpAny (model prog w) A (keyKind' vs.toArray) Q E s := by
  rw [keyKind'_eq, List.mapM_toArray, map_eq_pure_bind]
  refine wpAny_bind (wpAny_bind (firsts_run vs k hv fun fs hp => wpAny_pure ?_))
  have hal := all_some hp
  have tr : ∀ (T : Value) (l : List Value) (R : Option Value → Shared → Prop) (hT : (T == T) = true), 0 < l.length → R (some T) s → wpAny (model prog w) A (match ((l.map fun _ => T).toArray)[0]? with
      | some t => pure (if ((l.map fun _ => T).toArray.all (· == t)) = true then some t else none)
      | none => pure none) R E s := by
    intro T l R hT hl hR
    match l, hl with
    | y :: l, _ =>
      have h0 : ((List.map (fun _ => T) (y :: l)).toArray)[0]? = some T := by simp
      rw [h0]
      have h1 : ((List.map (fun _ => T) (y :: l)).toArray.all (· == T)) = true := by
        simp only [List.all_toArray, List.all_map, List.all_eq_true]
        intro _ _
        exact hT
      simp only [h1, if_true]
      exact wpAny_pure hR
  by_cases ha : fs.all (·.isSome) = true
  · rw [if_pos (show fs.toArray.all (·.isSome) = true by simpa using ha)]
    refine wpAny_bind (wpAny_rule ?_)
    obtain ⟨gs, e, hg⟩ := some_of hp ha
    have hfm : (fs.toArray.filterMap id) = gs.toArray := by rw [e]; simp
    have hgl : 0 < gs.length := by
      have q := Paired.length hp
      rw [e, List.length_map] at q
      omega
    rw [hfm, oneTypeOnly'_eq, List.mapM_toArray, map_eq_pure_bind]
    refine wpAny_bind (wpAny_bind (wpAny_bind (kas_mapM (r := Value.type "int") _ (fun v hv' Q' hq => ?_) (wpAny_pure ?_))))
    · obtain ⟨x, t, rfl⟩ := hg v hv'
      exact wpAny_pure hq
    · refine tr (.type "int") gs _ (by rfl) hgl ?_
      refine wpAny_pure ?_
      have e1 : kindT (vs.map k) = tuples' true := by
        unfold kindT
        rw [if_pos (by rw [← hal]; exact ha)]
      rw [e1] at h
      have e2 : ((some (Value.type "int")).any fun x => x != Value.type "tuple") = true := by decide +kernel
      rw [e2]
      exact h
  · rw [if_neg (show ¬ fs.toArray.all (·.isSome) = true by simpa using ha)]
    have hne : ¬ (vs.map k).all (fun k => !k.isEmpty) = true := by
      rw [← hal]
      exact ha
    match vs, fs, hp, h2 with
    | v :: vs, f :: fs, .cons r p, h2 =>
      have hk1 : kindT ((v :: vs).map k) = if (k v).isEmpty = true then oneType' else general' := by
        unfold kindT
        rw [if_neg hne]
        rfl
      rw [hk1] at h
      cases hk : k v with
      | nil =>
        simp only [hk] at r
        rw [hk, if_pos (show ([] : List Int).isEmpty = true from rfl)] at h
        have e0 : ((f :: fs).toArray[0]?.bind id).isSome = false := by
          rw [r]
          rfl
        rw [if_neg (by rw [e0]; exact Bool.false_ne_true), oneTypeOnly'_eq, List.mapM_toArray, map_eq_pure_bind]
        refine wpAny_bind (wpAny_bind (wpAny_bind (kas_mapM (r := Value.type "tuple") _ (fun v hv' Q' hq => (hv v hv').type.here hq) (wpAny_pure ?_))))
        refine tr (.type "tuple") (v :: vs) _ (by rfl) (by simp) ?_
        exact wpAny_pure h
      | cons x y =>
        simp only [hk] at r
        obtain ⟨t, r⟩ := r
        rw [hk, if_neg (by simp)] at h
        have e0 : ((f :: fs).toArray[0]?.bind id).isSome = true := by
          rw [r]
          rfl
        rw [if_pos e0]
        exact wpAny_pure h
end
end SrT

set_option maxHeartbeats 2000000
namespace SrT
open PySem PySem.Spec PyProof.Rows L2 PySem.W
/-! ### the order -/
abbrev lex := HT.lexLt
theorem lex_tot : ∀ xs ys : List Int, lex xs ys = false → lex ys xs = false → xs = ys
  | [], [], _, _ => rfl
  | [], _ :: _, h, _ => by cases h
  | _ :: _, [], _, h => by cases h
  | x :: xs, y :: ys, h1, h2 => by
    have a1 : (if x = y then lex xs ys else decide (x < y)) = false := h1
    have a2 : (if y = x then lex ys xs else decide (y < x)) = false := h2
    by_cases e : x = y
    · subst e
      rw [if_pos rfl] at a1 a2
      rw [lex_tot xs ys a1 a2]
    · rw [if_neg e] at a1
      rw [if_neg (Ne.symm e)] at a2
      have b1 := of_decide_eq_false a1
      have b2 := of_decide_eq_false a2
      omega
theorem lex_irrefl : ∀ xs : List Int, lex xs xs = false
  | [] => rfl
  | x :: xs => by
    show (if x = x then lex xs xs else decide (x < x)) = false
    rw [if_pos rfl]
    exact lex_irrefl xs
/-- a ≤ b -/
abbrev le (a b : List Int) : Bool := !lex b a
theorem le_trans' (a b c : List Int) (h1 : le a b = true) (h2 : le b c = true) : le a c = true := by
  have a1 : lex b a = false := by simpa [le] using h1
  have a2 : lex c b = false := by simpa [le] using h2
  have := (NtL.swo_lexL (fun x : List Int => x)).tr a b c a1 a2
  simpa [le] using this
theorem le_total' (a b : List Int) : (le a b || le b a) = true := by
  cases h : lex b a with
  | false => simp [le, h]
  | true =>
    have := NtL.lex_asym b a h
    simp [le, h, this]
def sortL (l : List (List Int)) : List (List Int) := l.mergeSort le
theorem sortL_perm (l : List (List Int)) : (sortL l).Perm l := List.mergeSort_perm l le
theorem sortL_pw (l : List (List Int)) : (sortL l).Pairwise (fun a b => le a b = true) := List.pairwise_mergeSort le_trans' le_total' l
theorem sorted_eq {l m : List (List Int)} (p : l.Perm m) (hl : l.Pairwise (fun a b => le a b = true)) (hm : m.Pairwise (fun a b => le a b = true)) : l = m := by
  refine List.Perm.eq_of_pairwise (fun a b _ _ h1 h2 => ?_) hl hm p
  exact lex_tot a b (by simpa [le] using h2) (by simpa [le] using h1)
theorem eq_sortL {l m : List (List Int)} (p : l.Perm m) (hl : l.Pairwise (fun a b => le a b = true)) : l = sortL m :=
  sorted_eq (p.trans (sortL_perm m).symm) hl (sortL_pw m)

/-! ### values -/
/-- what an int tuple's value holds -/
noncomputable def keyV (h : Heap) (v : Value) : List Int := by
  classical
  exact if e : ∃ ns, IsI h v ns then e.choose else []
theorem keyV_of {h : Heap} {v : Value} {ns : List Int} (x : IsI h v ns) : keyV h v = ns := by
  have e : ∃ ns, IsI h v ns := ⟨ns, x⟩
  unfold keyV
  rw [dif_pos e]
  exact e.choose_spec.inj x
theorem isI_key {h : Heap} {v : Value} (e : ∃ ns, IsI h v ns) : IsI h v (keyV h v) := by
  obtain ⟨ns, x⟩ := e
  rw [keyV_of x]
  exact x
section
variable {prog : Program} {w : World} {A : Around} {E : Value → Shared → Prop} {s : Shared}
theorem cmp_of {κ : SortKind} (hκ : κ = general' ∨ κ = oneType' ∨ (∃ b, κ = tuples' b)) {vs : List Value} {k : Value → List Int} (hu : A.units < cLine) (hv : ∀ v ∈ vs, IsI s.heap v (k v)) :
    SrtO.Cmp prog w A s κ (fun p => p.1 ∈ vs) (SrtO.lt2 fun v u => lex (k v) (k u)) := by
  intro p q hp hq
  rcases hκ with rfl | rfl | ⟨b, rfl⟩
  · exact lt_general (Q := fun r s' => s' = s ∧ r = lex (k p.1) (k q.1)) (E := fun _ _ => False) hu (hv p.1 hp) (hv q.1 hq) ⟨rfl, rfl⟩
  · exact lt_one (Q := fun r s' => s' = s ∧ r = lex (k p.1) (k q.1)) (E := fun _ _ => False) hu (hv p.1 hp) (hv q.1 hq) ⟨rfl, rfl⟩
  · exact lt_tuples (Q := fun r s' => s' = s ∧ r = lex (k p.1) (k q.1)) (E := fun _ _ => False) (hv p.1 hp) (hv q.1 hq) ⟨rfl, rfl⟩
theorem ti_sortable {a : Addr} {vs : List Value} {k : Value → List Int} (h2 : 2 ≤ vs.length) (hu : A.units < cLine) (hv : ∀ v ∈ vs, IsI s.heap v (k v)) (ha : ∀ v ∈ vs, v ≠ .ref a) :
    SrtO.SortableO prog w A s a vs fun v u => lex (k v) (k u) := by
  intro h' keep
  have hv' : ∀ v ∈ vs, IsI h' v (k v) := fun v hm => (hv v hm).keeps fun b o e g => keep b o (fun z => ha v hm (by rw [e, z])) g
  exact ⟨kindT (vs.map k), fun Q E hq => kind_run (s := { s with heap := h' }) h2 hv' hq, cmp_of (s := { s with heap := h' }) (kindT_one _) hu hv'⟩
end
section
variable {X : Cx} {pins : List (Addr × Obj)} {σ : L2.St} {H : Hp} {s : Shared}
theorem isI_of (I : Inv X pins σ H s) {x : V} {u : Value} {ns : List Int} (h : TupI X.K H x ns) (r : RelV x u) : IsI s.heap u ns := by
  obtain ⟨t, rfl, hs⟩ := h
  cases r
  obtain ⟨its, rv, p, _⟩ := I.tuple hs
  exact ⟨t, its.toArray, rfl, p, by simpa using intsAre_of rv⟩
theorem keys_of (I : Inv X pins σ H s) : ∀ {xs : List V} {us : List Value} {fss : List (List Int)}, Vals xs us → Paired (TupI X.K H) xs fss → us.map (keyV s.heap) = fss ∧ ∀ u ∈ us, IsI s.heap u (keyV s.heap u)
  | _, _, _, .nil, .nil => ⟨rfl, fun u hu => absurd hu (by simp)⟩
  | _, _, _, .cons r t, .cons h q => by
    obtain ⟨e, f⟩ := keys_of I t q
    have hI := isI_of I h r
    refine ⟨by rw [List.map_cons, e, keyV_of hI], fun u hu => ?_⟩
    rcases List.mem_cons.mp hu with z | z
    · rw [z]
      exact isI_key ⟨_, hI⟩
    · exact f u z
theorem mem_refs (I : Inv X pins σ H s) {xs : List V} {us : List Value} {fss : List (List Int)} (r : Vals xs us) (q : Paired (TupI X.K H) xs fss) : ∀ x ∈ xs, ∃ a, x = V.ref a := by
  induction q generalizing us with
  | nil => intro x hx; exact absurd hx (by simp)
  | cons h q ih =>
    cases r with
    | cons _ t =>
      intro x hx
      rcases List.mem_cons.mp hx with z | z
      · obtain ⟨a, e, _⟩ := h
        exact ⟨a, z.trans e⟩
      · exact ih t x z
theorem paired_of {K : PySem.W.Frag} : ∀ {ys : List V} (g : V → List Int), (∀ y ∈ ys, TupI K H y (g y)) → Paired (TupI K H) ys (ys.map g)
  | [], _, _ => .nil
  | y :: ys, g, h => .cons (h y List.mem_cons_self) (paired_of g fun z hz => h z (List.mem_cons_of_mem _ hz))
theorem paired_mem {α β : Type} {F : α → β → Prop} : ∀ {xs : List α} {fs : List β}, Paired F xs fs → ∀ x ∈ xs, ∃ f ∈ fs, F x f
  | _, _, .nil, x, hx => absurd hx (by simp)
  | _, _, .cons h q, x, hx => by
    rcases List.mem_cons.mp hx with z | z
    · subst z
      exact ⟨_, List.mem_cons_self, h⟩
    · obtain ⟨f, hf, r⟩ := paired_mem q x z
      exact ⟨f, List.mem_cons_of_mem _ hf, r⟩
/-- sorted(xs) of tuples of ints -/
def rSortL (K : PySem.W.Frag) : List V → Hp → VK → Prop := fun vs H Q => ∃ (a : Addr) (xs : List V) (fss : List (List Int)), vs = [V.ref a] ∧ SqL K H a xs ∧ Paired (TupI K H) xs fss ∧
  ∀ (ys : List V) (p : Addr), Paired (TupI K H) ys (sortL fss) → (∀ y ∈ ys, y ∈ xs) → H p = none → Q (.ref p) (upd H p (.lst ys))
theorem cr_sortL (hu : X.A.units + 64 < cLine) : CallR X (.builtin "sorted") (rSortL X.K) := by
  intro pins s σ H vs us Q I r h
  obtain ⟨a, xs, fss, rfl, hs, hp, q⟩ := h
  obtain ⟨its, rv, hl, hz⟩ := I.list hs
  rw [Vals.ref1 r]
  obtain ⟨ek, hk⟩ := keys_of I rv hp
  obtain ⟨e1, e2⟩ := bkV_refs rv (mem_refs I rv hp)
  have hlen : its.length ≤ sizeLine := by
    rw [← rv.length]
    exact hz
  refine SrtO.sorted_ord (ltv := fun v u => lex (keyV s.heap v) (keyV s.heap u)) (NtL.swo_lexL (keyV s.heap)) hl.isList hlen (fun h2 h₁ b hb keep => ?_) fun out hs' hst => ?_
  · refine ti_sortable (s := { s with heap := h₁ }) (k := keyV s.heap) h2 (by show X.A.units + 1 + 1 < cLine; omega) (fun v hm => ?_) fun v hm z => ?_
    · exact (hk v hm).keeps fun c o _ e => (keep c o e).2
    · obtain ⟨c, items, e, ⟨o, ho, _⟩, _⟩ := hk v hm
      have z' : Value.ref c = Value.ref b := e.symm.trans z
      injection z' with z'
      exact (keep c o ho).1 z'
  · have hpm : out.Perm its := hst.perm
    have h3 : ∀ u ∈ out, ∃ c, u = Value.ref c := fun u hu => e2 u (hpm.mem_iff.mp hu)
    have hpx : (out.map bkV).Perm xs := by
      rw [e1]
      exact hpm.map bkV
    have hl2 : (out.map bkV).length ≤ sizeLine := by
      rw [hpx.length_eq]
      exact hz
    obtain ⟨ep, he'⟩ := PyProof.Rows.sortedAll_at s.heap its out.toArray
    refine ⟨.ref _, upd H (s.heap.objs.size + 1) (.lst (out.map bkV)), I.laid (t' := s.toks) (fun _ _ => PyProof.Rows.sortedAll_old) (Nat.le_succ _) ⟨hl2, out, ep, bkV_vals h3, by simpa using he'⟩, rfl, q _ _ ?_ (fun y hy => hpx.mem_iff.mp hy) (I.hok.fresh (Nat.le_succ _))⟩
    have es : out.map (keyV s.heap) = sortL fss := by
      refine eq_sortL ?_ ?_
      · rw [← ek]
        exact hpm.map _
      · refine List.pairwise_map.mpr (List.Pairwise.imp (fun {u v} huv => ?_) hs')
        show (!lex (keyV s.heap v) (keyV s.heap u)) = true
        rw [show lex (keyV s.heap v) (keyV s.heap u) = false from huv]
        rfl
    rw [← es]
    clear es hpx hl2 he' hst hs'
    have all : ∀ l : List Value, (∀ u ∈ l, u ∈ its) → Paired (TupI X.K H) (l.map bkV) (l.map (keyV s.heap)) := by
      intro l
      induction l with
      | nil => intro _; exact .nil
      | cons u l ih =>
        intro hl'
        refine .cons ?_ (ih fun v hv => hl' v (List.mem_cons_of_mem _ hv))
        have hm := hl' u List.mem_cons_self
        obtain ⟨c, rfl⟩ := e2 u hm
        have hx : V.ref c ∈ xs := by
          rw [e1]
          exact List.mem_map.mpr ⟨_, hm, rfl⟩
        obtain ⟨f, _, hf⟩ := paired_mem hp _ hx
        have : keyV s.heap (.ref c) = f := keyV_of (isI_of I hf rfl)
        rw [this]
        exact hf
    exact all out fun u hu => hpm.mem_iff.mp hu
end
end SrT

set_option maxHeartbeats 2000000
namespace SrT
open PySem PySem.Spec PyProof.Rows L2 PySem.W
section
variable {P : Program} {w : World} {A : Around} {E : Value → Shared → Prop} {s : Shared}
theorem isI_T {h : Heap} {k : List Int} {b : Addr} (x : IsT P w h k b) : IsI h (.ref b) k := by
  obtain ⟨a, items, e, t, i⟩ := tupInts_of (P := P) (w := w) x
  exact ⟨a, items, e, t, i⟩
theorem sort_call {a : Addr} {vs : List Value} {n : Nat} {k : Value → List Int} {Q : Value → Shared → Prop} (ho : s.heap.get? a = some (seqObj "list" vs.toArray n)) (hz : vs.length ≤ sizeLine) (hu : A.units + 1 < cLine) (hv : ∀ v ∈ vs, IsI s.heap v (k v))
    (h : ∀ out : List Value, out.Pairwise (fun u v => lex (k v) (k u) = false) → out.Perm vs → Q .none { s with heap := sortedHeap s.heap a vs out.toArray }) :
    wpAny (model P w) A (call (.builtin "list.sort") [.ref a]) Q E s := by
  refine wpAny_call_entry slot_list_sort ⟨_, ho, rfl⟩ entry_list_sort (SrtO.list_sort_ord (A := A.in1) (ltv := fun v u => lex (k v) (k u)) (NtL.swo_lexL k) ho hz (fun h2 => ti_sortable h2 hu hv fun v hm z => ?_) fun out hs hb => ⟨_, rfl, h out hs hb.perm⟩) (args_list_sort _)
  obtain ⟨c, items, e, ⟨o, ho2, hc, _⟩, _⟩ := hv v hm
  have z' : Value.ref c = Value.ref a := e.symm.trans z
  injection z' with z'
  rw [z', ho] at ho2
  cases ho2
  exact absurd (Value.type.inj hc) (by decide)
theorem sorted_setS {a : Addr} {L : List (Addr × List Int)} {es : Array (Int × Value)} {ep : Nat} {t : SetTable} {Q : Value → Shared → Prop} (R : SetTR P w s.heap a L es ep t) (hh : A.handled = none) (hu : A.units + 2 < cLine)
    (hQ : ∀ (s' : Shared) (p : Addr) (out : List Value) (c : Nat), (∀ b o, s.heap.get? b = some o → s'.heap.get? b = some o) → s'.gens = s.gens → s'.os = s.os → s.heap.objs.size ≤ p →
      s'.heap.get? p = some (seqObj "list" out.toArray c) → out.Perm (L.map fun q => Value.ref q.1) → out.Pairwise (fun u v => lex (keyV s.heap v) (keyV s.heap u) = false) → Q (.ref p) s') :
    wpAny (model P w) A (call (.builtin "sorted") [.ref a]) Q E s := by
  obtain ⟨o, ho, hex, hd⟩ := R.ob
  have few := R.few
  have size := R.size
  refine Calls.call_function_entry kind_sorted plain_sorted entry_sorted (args_sorted1 _) ?_
  unfold Builtin.«sorted»
  refine wpAny_bind (m := checkCount "sorted" 1 1 _) (wpAny_pure ?_)
  refine wpAny_bind (collect_set (A := A.in1) hh ⟨o, ho, hex.1, hd⟩ R.fits (by unfold scanBound; omega) R.tab.ris R.led fun s1 vs kp hz gens os pm => ?_)
  have rows : es.toList.map (·.2) = L.map fun q => Value.ref q.1 := by
    rw [R.rows]
    unfold L2.rowsOf
    rw [List.map_map] <;> rfl
  rw [rows] at pm
  have lv : vs.length ≤ sizeLine := by
    rw [pm.length_eq, List.length_map, sizeLine_eq]
    omega
  refine wpAny_bind (wpAny_newList ?_ lv)
  have hoL : (s1.heap.push (seqObj "list" vs.toArray 0)).get? s1.heap.objs.size = some (seqObj "list" vs.toArray 0) := Heap.get?_push_size _ rfl
  have ki : ∀ v ∈ vs, IsI (s1.heap.push (seqObj "list" vs.toArray 0)) v (keyV s.heap v) := fun v hv => by
    obtain ⟨q, hq, e⟩ := List.mem_map.mp (pm.mem_iff.mp hv)
    have hi := isI_T (R.tup q hq)
    rw [← e]
    rw [keyV_of hi]
    exact hi.keeps fun b u _ g => Heap.get?_push_of_some _ (kp b u g)
  refine wpAny_bind (wpAny_holding (sort_call (s := { s1 with heap := s1.heap.push (seqObj "list" vs.toArray 0) }) (A := A.in1) hoL lv (by show A.units + 1 + 1 < cLine; omega) ki fun out pw pe => ?_))
  obtain ⟨c, hc⟩ := sortedHeap_at (vs := vs) (out := out.toArray) hoL
  refine wpAny_pure ⟨_, rfl, hQ _ s1.heap.objs.size out c (fun b u e => ?_) gens os hz hc (pe.trans pm) pw⟩
  have q := kp b u e
  have lt := Heap.lt_size q
  show (sortedHeap (s1.heap.push (seqObj "list" vs.toArray 0)) s1.heap.objs.size vs out.toArray).get? b = some u
  rw [sortedHeap_old (Nat.ne_of_lt lt) (by rw [size_push']; exact Nat.lt_succ_of_lt lt)]
  exact Heap.get?_push_of_some _ q
end
section
variable {X : Cx} {pins : List (Addr × Obj)} {σ : L2.St} {H : Hp} {s : Shared}
/-- sorted(a set of tuples of ints) -/
def rSortS (K : PySem.W.Frag) (P : Program) (w : World) : List V → Hp → VK → Prop := fun vs H Q => ∃ (a : Addr) (L : List (Addr × List Int)), vs = [V.ref a] ∧ H a = some (SetTO P w a L) ∧ (∀ p ∈ L, SqT K H p.1 (p.2.map V.int)) ∧
  ∀ (ys : List V) (gss : List (List Int)) (p : Addr), Paired (TupI K H) ys gss → gss.Pairwise (fun x y => lex x y = true) → (∀ z, z ∈ gss ↔ z ∈ L.map (·.2)) → ys.length < 64 → H p = none → Q (.ref p) (upd H p (.lst ys))
theorem cr_sortS (hc : X.calm = true) (hu : X.A.units + 64 < cLine) : CallR X (.builtin "sorted") (rSortS X.K X.prog X.w) := by
  intro pins s σ H vs us Q I r h
  obtain ⟨a, L, rfl, ha, hL, q⟩ := h
  rw [Vals.ref1 r]
  have hT : ∀ p ∈ L, IsT X.prog X.w s.heap p.2 p.1 := fun p hp => Inv.isT I (hL p hp)
  obtain ⟨es, ep, t, R⟩ := SetT0.full (P := X.prog) (w := X.w) (show SetT0 X.prog X.w s.heap a L from (I.hok a _ ha).1) hT
  refine sorted_setS R (I.ok.hd hc) (by omega) fun s' p out c kp gens os hz hc' pm pw => ?_
  have refs : ∀ u ∈ out, ∃ c, u = Value.ref c := fun u hu => by
    obtain ⟨z, hz, e⟩ := List.mem_map.mp (pm.mem_iff.mp hu)
    exact ⟨z.1, e.symm⟩
  have hlen : out.length < 64 := by
    rw [pm.length_eq, List.length_map]
    exact R.few
  have kk : ∀ z ∈ L, keyV s.heap (.ref z.1) = z.2 := fun z hz => keyV_of (isI_T (hT z hz))
  have J : Inv X pins σ (upd H p (.lst (out.map bkV))) s' := by
    obtain ⟨hh, g, d, tk, oo⟩ := s'
    have e1 : g = s.gens := gens
    have e2 : oo = s.os := os
    subst e1 e2
    have J0 := I.laid (a := p) (o := .lst (out.map bkV)) (h' := hh) (t' := tk) kp hz ⟨by rw [List.length_map]; exact Nat.le_of_lt (Nat.lt_trans hlen (by rw [sizeLine_eq]; decide)), out, c, bkV_vals refs, hc'⟩
    exact J0.call' (s' := ⟨hh, s.gens, d, tk, s.os⟩) (ch := []) rfl Un.refl J0.hok J0.bare fun b hb => absurd hb (by simp)
  refine ⟨.ref p, upd H p (.lst (out.map bkV)), J, rfl, q (out.map bkV) (out.map (keyV s.heap)) p ?_ ?_ (fun z => ?_) (by rw [List.length_map]; exact hlen) (I.hok.fresh hz)⟩
  · have all : ∀ l : List Value, (∀ u ∈ l, u ∈ out) → Paired (TupI X.K H) (l.map bkV) (l.map (keyV s.heap)) := by
      intro l
      induction l with
      | nil => intro _; exact .nil
      | cons u l ih =>
        intro hl'
        refine .cons ?_ (ih fun v hv => hl' v (List.mem_cons_of_mem _ hv))
        obtain ⟨z, hz, e⟩ := List.mem_map.mp (pm.mem_iff.mp (hl' u List.mem_cons_self))
        rw [← e, kk z hz]
        exact ⟨z.1, rfl, hL z hz⟩
    exact all out fun u hu => hu
  · have nd : (out.map (keyV s.heap)).Nodup := by
      have e : (L.map fun q => Value.ref q.1).map (keyV s.heap) = L.map (·.2) := by
        rw [List.map_map]
        exact List.map_congr_left fun z hz => kk z hz
      have pm2 := pm.map (keyV s.heap)
      rw [e] at pm2
      exact pm2.nodup_iff.mpr R.nd
    have pw2 : (out.map (keyV s.heap)).Pairwise (fun x y => lex y x = false) := List.pairwise_map.mpr pw
    refine List.Pairwise.imp₂ (fun x y h1 h2 => ?_) pw2 nd
    cases e : lex x y with
    | true => rfl
    | false => exact absurd (lex_tot x y e h1) h2
  · have e : (L.map fun q => Value.ref q.1).map (keyV s.heap) = L.map (·.2) := by
      rw [List.map_map]
      exact List.map_congr_left fun z hz => kk z hz
    have pm2 := pm.map (keyV s.heap)
    rw [e] at pm2
    exact pm2.mem_iff
end
end SrT

set_option maxHeartbeats 2000000
/-! {elt for .. in .. if .. for .. in .. if ..}, elt a tuple of ints; one loop of a comprehension, said once for all clauses. -/
namespace SrT
open PySem PySem.Spec PyProof.Rows L2 PySem.W
section
variable {P : Program} {w : World} {A : Around} {E : Value → Shared → Prop} {s : Shared}
theorem setT_type {a : Addr} {L : List (Addr × List Int)} {es : Array (Int × Value)} {ep : Nat} {t : SetTable} (R : SetTR P w s.heap a L es ep t) : s.TypeIs (.ref a) "set" := by
  obtain ⟨o, ho, hex, _⟩ := R.ob
  exact ⟨o, ho, hex.1⟩
/-- set.add of a tuple of ints, raw -/
theorem addT_raw {a x : Addr} {L : List (Addr × List Int)} {es : Array (Int × Value)} {ep : Nat} {t : SetTable} {k : List Int} {Q : Value → Shared → Prop} (R : SetTR P w s.heap a L es ep t) (hx : IsT P w s.heap k x) (hu : A.units + 1 < cLine) (hfew : L.length + 1 < 64)
    (hQ : ∀ h' tk L' es' ep' t', Heap.SameBut a s.heap h' → SetTR P w h' a L' es' ep' t' → (k ∈ L.map (·.2) → L' = L) → (k ∉ L.map (·.2) → L'.Perm ((x, k) :: L)) → Q .none { s with heap := h', toks := tk }) :
    wpAny (model P w) A (call (.builtin "set.add") [.ref a, .ref x]) Q E s := by
  refine wpAny_call_entry F.slot_set_add (setT_type R) F.entry_set_add ?_ (F.args_set_add_2 _ _)
  unfold Builtin.«set.add» Builtin.Frozenset.oneOther
  simp only [List.isEmpty_nil, bind_assoc]
  unfold Builtin.Frozenset.addrOf setAdd
  refine wpAny_bind (wpAny_pure ?_)
  try dsimp only
  refine wpAny_bind (wpAny_pure ?_)
  try dsimp only
  refine wpAny_bind ?_
  refine wpAny_holding ?_
  refine wpAny_bind (wpAny_pyHash_tuple (A := A.in1) hu hx ?_)
  refine add_at (A := A.in1) (s := { s with toks := s.toks + (k.length + 1) }) R hx hu hfew fun b h' L' es' ep' t' sb r c1 c2 => ?_
  show wpAny _ _ (ret Value.none) _ _ _
  exact wpAny_pure ⟨_, rfl, hQ h' _ L' es' ep' t' sb r c1 c2⟩
end
section
variable {X : Cx} {pins : List (Addr × Obj)} {σ : L2.St} {H : Hp} {s : Shared}
/-- what a set has got by one more -/
def Grown (L : List (Addr × List Int)) (x : Addr) (k : List Int) (L' : List (Addr × List Int)) : Prop := (k ∈ L.map (·.2) → L' = L) ∧ (k ∉ L.map (·.2) → L'.Perm ((x, k) :: L))
theorem addT_ok {E : Value → Shared → Prop} {D x : Addr} {L : List (Addr × List Int)} {k : List Int} {Q : Value → Shared → Prop} (I : Inv X pins σ H s) (hD : H D = some (SetTO X.prog X.w D L)) (hL : ∀ p ∈ L, SqT X.K H p.1 (p.2.map V.int)) (hx : SqT X.K H x (k.map V.int)) (hf : L.length + 1 < 64) (hu : X.A.units + 1 < cLine)
    (h : ∀ L' s', Grown L x k L' → Inv X pins σ (upd H D (SetTO X.prog X.w D L')) s' → Q .none s') : wpAny (model X.prog X.w) X.A (call (.builtin "set.add") [.ref D, .ref x]) Q E s := by
  obtain ⟨es, ep, t, R⟩ := SetT0.full (P := X.prog) (w := X.w) (show SetT0 X.prog X.w s.heap D L from (I.hok D _ hD).1) fun p hp => Inv.isT I (hL p hp)
  refine addT_raw R (Inv.isT I hx) hu hf fun h' tk L' es' ep' t' sb R' c1 c2 => ?_
  have he : ∃ u, h'.get? D = some u := by
    obtain ⟨o, ho, _⟩ := R'.ob
    exact ⟨o, ho⟩
  exact h L' _ ⟨c1, c2⟩ (I.write (e := D) (t' := tk) (by rw [hD]; trivial) (.inl rfl) (fun b u hb hu => (sb.2 b hb).trans hu) he (setTO_new R'.t0))
end
/-! ### one loop of a comprehension -/
/-- a turn: the store, the tests, what is done behind them -/
def turnOf (e : Expr) (d : Nat) (it acc : Value) (env : Env) (p : Pos) (tg : Expr) (ifs : List Expr) (act : Sem PUnit) : Sem PySem.Fin := do
  standAt p
  match ← pyNext it with
  | none => pure (.done .next)
  | some v =>
    letOwnedTupleGo tg it v
    assign tg env v
    let mut ok := true
    for c in ifs do
      if ok then ok ← isTrue c env (eval c env)
    if ok then
      act
    again (.compLoop e d it acc env)
abbrev TD := L2.St → Hp → (Hp → Prop) → Prop
/-- what is to be shown of the walk -/
def tWk (J : It) (σ : L2.St) (vs : List Nat) (g : TG) (tt : TT) (ta : TD) (Qd : Hp → Prop) (W : Nat → Nat → Hp → Prop) : Prop := ∀ i m H, W i m H →
  (J.stop i H ∧ Qd H) ∨ (J.go i H ∧ ∃ Nx : Hp → Prop, (∀ H', Nx H' → ∃ m', m' < m ∧ W (i + 1) m' H') ∧ ∀ x H', J.yld i H x H' → g x (wipe σ vs) H' fun σ2 H2 => wipe σ2 vs = wipe σ vs ∧ tt σ2 H2 fun b H3 => if b = true then ta σ2 H3 Nx else Nx H3)
theorem loopG {Y : Cx} {e : Expr} {d : Nat} {it : Addr} {acc : Value} {p : Pos} {tg : Expr} {ifs : List Expr} {act : Sem PUnit} {J : It} {fp : List Addr} {tn : Nat → Heap → Prop} {g : TG} {tt : TT} {ta : TD} {vs va : List Nat} {pins : List (Addr × Obj)} {σ : L2.St} {R : Result → Shared → Prop} {Qd : Hp → Prop} {W : Nat → Nat → Hp → Prop} {m0 : Nat} {H0 : Hp} {s0 : Shared}
    (hc : Y.calm = true) (hx : Y.xe = fun _ _ => False) (hq : Code.quiet (.compLoop e d (.ref it) acc Y.env) = true) (hden : (model Y.prog Y.w).den (.compLoop e d (.ref it) acc Y.env) = (compTurn e d (.ref it) acc Y.env).onRaise (fun x => do noteFrame x Y.env; theTreesLotGoes x)) (hun : Y.A.under (.compLoop e d (.ref it) acc Y.env) = Y.A)
    (heq : compTurn e d (.ref it) acc Y.env = turnOf e d (.ref it) acc Y.env p tg ifs act)
    (T : Turn Y.prog Y.w Y.K tg J fp it tn) (pg : PG Y tg g) (pt : PTs Y ifs tt)
    (ha : ∀ (p2 : List (Addr × Obj)) (s : Shared) (σ2 : L2.St) (H : Hp) (Nx : Hp → Prop), Inv Y (pins ++ p2) σ2 H s → ta σ2 H Nx → wpAny (model Y.prog Y.w) Y.A act (fun _ s' => ∃ H', Inv Y (pins ++ p2) (wipe σ2 va) H' s' ∧ Nx H') (fun _ _ => False) s)
    (hva : ∀ i ∈ va, i ∈ vs) (turn : tWk J σ vs g tt ta Qd W) (hR : ∀ s' H', Inv Y pins (wipe σ vs) H' s' → Qd H' → R (.ok .next) s') (hf : ∀ H', (∀ b ∈ fp, H' b = none) → ∀ b ∈ fp, FpOk Y pins H' b)
    (I0 : Inv Y pins (wipe σ vs) H0 s0) (st0 : tn 0 s0.heap) (n0 : ∀ b ∈ fp, H0 b = none) (w0 : W 0 m0 H0) : codeAny (model Y.prog Y.w) Y.A (.compLoop e d (.ref it) acc Y.env) R s0 := by
  refine codeAny_loop hq (fun n s' => ∃ i H', Inv Y pins (wipe σ vs) H' s' ∧ tn i s'.heap ∧ (∀ b ∈ fp, H' b = none) ∧ W i n H') (fun n s hI => ?_) m0 ⟨0, H0, I0, st0, n0, w0⟩
  obtain ⟨i, H, I, st, nf, w⟩ := hI
  rw [hden, hun]
  refine wpAny_noted ?_
  rw [heq]
  unfold turnOf
  refine wpAny_bind (wpAny_standAt (wpAny_bind ?_))
  rcases turn i n H w with ⟨stop, qq⟩ | ⟨go, Nx, hNx, step⟩
  · refine thnF (T.done Y rfl rfl rfl hc i pins s _ H (fun _ _ => False) I (hf H nf) st stop) fun r s6 hr => ?_
    obtain ⟨hr, I6⟩ := hr
    subst hr
    exact wpAny_pure (hR s6 H I6 qq)
  · refine thnF (T.item Y rfl rfl rfl hc i pins s _ H (fun _ _ => False) I (hf H nf) st go) fun r s6 hr => ?_
    obtain ⟨u, hr, h6⟩ := hr
    subst hr
    refine wpAny_bind (thnF h6 fun _ s7 h7 => ?_)
    obtain ⟨x, H7, I7, r7, y7, st7, n7⟩ := h7
    have J7 := I7.pinned (hf H7 n7) (T.obj _ _ st7)
    have gp := pg.run _ s7 _ H7 x u _ J7 r7 (step x H7 y7)
    rw [hx] at gp
    refine wpAny_bind (thnF gp fun _ s8 h8 => ?_)
    obtain ⟨σ8, H8, I8, hw8, q8⟩ := h8
    have gt := pt.run _ s8 σ8 H8 _ I8 q8
    rw [hx] at gt
    refine wpAny_bind (thnF gt fun b s9 h9 => ?_)
    obtain ⟨H9, I9, q9⟩ := h9
    have fin : ∀ {σ9 : L2.St} {s' : Shared} {H' : Hp}, Inv Y (pins ++ pinsAt fp s7.heap) σ9 H' s' → (wipe σ vs).length = σ9.length → (∀ (j : Nat) v, (wipe σ vs)[j]? = some (some v) → σ9[j]? = some (some v)) → Nx H' →
        ∃ m, m < n ∧ ∃ i H', Inv Y pins (wipe σ vs) H' s' ∧ tn i s'.heap ∧ (∀ b ∈ fp, H' b = none) ∧ W i m H' := by
      intro σ9 s' H' I' hl hk nx
      obtain ⟨m', hm, w'⟩ := hNx H' nx
      have at7 : ∀ b ∈ fp, ∀ o, s7.heap.get? b = some o → s'.heap.get? b = some o ∧ H' b = none := fun b hb o e0 =>
        have z := I'.pin (b, o) (List.mem_append_right _ (List.mem_append_right _ (mem_pinsAt hb e0)))
        ⟨z.1, z.2.1⟩
      refine ⟨m', hm, i + 1, H', I'.unpinned.weak hl hk, T.keep _ _ _ st7 fun b hb o e0 => (at7 b hb o e0).1, fun b hb => ?_, w'⟩
      obtain ⟨o, e0, _⟩ := T.obj _ _ st7 b hb
      exact (at7 b hb o e0).2
    have len8 : (wipe σ vs).length = σ8.length := by rw [← hw8, wipe_length]
    cases b with
    | false =>
      simp only [Bool.false_eq_true, if_false] at q9 ⊢
      exact wpAny_pure ⟨rfl, fin I9 len8 (fun j v e0 => by rw [← hw8] at e0; exact (wipe_some e0).1) q9⟩
    | true =>
      simp only [if_true] at q9 ⊢
      refine wpAny_bind (thnF (ha _ s9 σ8 H9 Nx I9 q9) fun _ s10 h10 => ?_)
      obtain ⟨H10, I10, nx⟩ := h10
      refine wpAny_pure ⟨rfl, fin I10 (len8.trans (wipe_length σ8 va).symm) (fun j v e0 => ?_) nx⟩
      rw [← hw8] at e0
      obtain ⟨e1, e2⟩ := wipe_some e0
      rw [wipe_out fun z => e2 (hva j z)]
      exact e1
end SrT

set_option maxHeartbeats 2000000
namespace SrT
open PySem PySem.Spec PyProof.Rows L2 PySem.W
section
variable {elt t0 i0 t1 i1 : Expr} {c0 c1 : List Expr} {sc : Scope} {pos : Pos}
abbrev sc2 (elt t0 i0 t1 i1 : Expr) (c0 c1 : List Expr) (sc : Scope) (pos : Pos) : Expr := .SetComp elt [⟨t0, i0, c0, 0⟩, ⟨t1, i1, c1, 0⟩] sc pos
def actOut (elt t0 i0 t1 i1 : Expr) (c0 c1 : List Expr) (sc : Scope) (pos : Pos) (acc : Value) (env : Env) : Sem PUnit := do
  let x ← eval i1 env
  standAt i1.pos
  let x ← foldedSetIterable i1 env x
  let _ ← runOwn (.compStart (sc2 elt t0 i0 t1 i1 c0 c1 sc pos) 1 (← holding [x] (pyIter x)) acc env) env
def actIn (elt : Expr) (acc : Value) (env : Env) : Sem PUnit := do
  let v ← eval elt env
  standAt elt.pos
  let _ ← call (.builtin "set.add") [acc, v]
theorem turn_out (it acc : Value) (env : Env) : compTurn (sc2 elt t0 i0 t1 i1 c0 c1 sc pos) 0 it acc env = turnOf (sc2 elt t0 i0 t1 i1 c0 c1 sc pos) 0 it acc env i0.pos t0 c0 (actOut elt t0 i0 t1 i1 c0 c1 sc pos acc env) := by
  have e : compTurn (sc2 elt t0 i0 t1 i1 c0 c1 sc pos) 0 it acc env = (do
      standAt i0.pos
      match ← pyNext it with
      | none => pure (.done .next)
      | some v =>
        letOwnedTupleGo t0 it v
        assign t0 env v
        let mut ok := true
        for c in c0 do
          if ok then ok ← isTrue c env (eval c env)
        if ok then
          let x ← eval i1 env
          standAt i1.pos
          let x ← foldedSetIterable i1 env x
          let _ ← runOwn (.compStart (sc2 elt t0 i0 t1 i1 c0 c1 sc pos) 1 (← holding [x] (pyIter x)) acc env) env
        again (.compLoop (sc2 elt t0 i0 t1 i1 c0 c1 sc pos) 0 it acc env)) := by rfl
  rw [e]
  unfold turnOf actOut
  refine bind_congr fun _ => bind_congr fun r => ?_
  cases r with
  | none => rfl
  | some v =>
    refine bind_congr fun _ => bind_congr fun _ => bind_congr fun ok => ?_
    cases ok <;> simp only [Bool.false_eq_true, if_false, if_true, bind_assoc, pure_bind]
theorem turn_in (it acc : Value) (env : Env) : compTurn (sc2 elt t0 i0 t1 i1 c0 c1 sc pos) 1 it acc env = turnOf (sc2 elt t0 i0 t1 i1 c0 c1 sc pos) 1 it acc env i1.pos t1 c1 (actIn elt acc env) := by rfl
theorem start_in {prog : Program} {w : World} {A : Around} {R : Result → Shared → Prop} {s : Shared} {it acc : Value} {env : Env} (h0 : codeAny (model prog w) A (.compLoop (sc2 elt t0 i0 t1 i1 c0 c1 sc pos) 1 it acc env) R s)
    (h : wpAny (model prog w) A (pyIter it) (fun it' s' => codeAny (model prog w) A (.compLoop (sc2 elt t0 i0 t1 i1 c0 c1 sc pos) 1 it' acc env) R s') (notedBy (model prog w) A env fun x s' => R (.error x) s') s) :
    codeAny (model prog w) A (.compStart (sc2 elt t0 i0 t1 i1 c0 c1 sc pos) 1 it acc env) R s := by
  refine codeAny_of_tree ?_
  show wpAny _ _ ((compStart (sc2 elt t0 i0 t1 i1 c0 c1 sc pos) 1 it acc env).onRaise (fun x => do noteFrame x env; standAt theWindowsPlace)) _ _ s
  refine wpAny_notedAt ?_
  unfold compStart
  show wpAny _ _ (ask >>= _) _ _ s
  refine wpAny_bind (wpAny_askSetting (wpAny_ite ?_))
  split
  · first
      | exact wpAny_bind (wpAny_pure (wpAny_pure (And.intro rfl h0)))
      | exact wpAny_pure (And.intro rfl h0)
  · first
      | exact wpAny_bind (wpAny_rule (wpAny_bind (wpAny_standAt (wpAny_bind (wpAny_mono h (fun it' s' h' => wpAny_pure (And.intro rfl h')) fun _ _ x => x)))))
      | (refine wpAny_bind (wpAny_rule ?_); show wpAny _ _ (standAt i1.pos >>= _) _ _ s; exact wpAny_bind (wpAny_standAt (wpAny_bind (wpAny_mono h (fun it' s' h' => wpAny_pure (And.intro rfl h')) fun _ _ x => x))))
end
section
variable {X : Cx}
/-- one more into the set at D -/
def tAdd (K : PySem.W.Frag) (P : Program) (w : World) (D : Addr) (te : TE) : TD := fun σ H Nx => te σ H fun y H4 => ∃ (x : Addr) (k : List Int) (L : List (Addr × List Int)), y = .ref x ∧ SqT K H4 x (k.map V.int) ∧ H4 D = some (SetTO P w D L) ∧ (∀ p ∈ L, SqT K H4 p.1 (p.2.map V.int)) ∧ L.length + 1 < 64 ∧ ∀ L', Grown L x k L' → Nx (upd H4 D (SetTO P w D L'))
/-- the second clause's own walk -/
def tInner (wi1 : TI) (g1 : TG) (tt1 : TT) (ta : TD) (vs1 : List Nat) : TD := fun σ2 H Nx => wi1 σ2 H fun J1 H4 => ∃ W1 : Nat → Nat → Hp → Prop, (∃ m, W1 0 m H4) ∧ tWk J1 σ2 vs1 g1 tt1 ta Nx W1
def tSc2 (K : PySem.W.Frag) (P : Program) (w : World) (wi : TI) (g : TG) (tt : TT) (wi1 : TI) (g1 : TG) (tt1 : TT) (te : TE) (vs vs1 : List Nat) : TE := fun σ H Q => wi σ H fun J H1 => ∀ D, H1 D = none → ∃ W : Nat → Nat → Hp → Prop, (∃ m, W 0 m (upd H1 D (SetTO P w D []))) ∧
  tWk J σ vs g tt (tInner wi1 g1 tt1 (tAdd K P w D te) vs1) (fun H' => Q (.ref D) H') W
theorem act_in {Y : Cx} {elt : Expr} {D : Addr} {te : TE} {pins : List (Addr × Obj)} {σ : L2.St} {H : Hp} {s : Shared} {Nx : Hp → Prop} (hu : Y.A.units + 1 < cLine) (hx : Y.xe = fun _ _ => False) (pe : PE Y elt te) (I : Inv Y pins σ H s) (h : tAdd Y.K Y.prog Y.w D te σ H Nx) :
    wpAny (model Y.prog Y.w) Y.A (actIn elt (.ref D) Y.env) (fun _ s' => ∃ H', Inv Y pins (wipe σ []) H' s' ∧ Nx H') (fun _ _ => False) s := by
  unfold actIn
  have z := pe.run pins s σ H _ I h
  rw [hx] at z
  refine wpAny_bind (thnF z fun u s1 h1 => ?_)
  obtain ⟨yv, H1, I1, r1, x, k, L, ey, hxT, hD, hL, hf, nx⟩ := h1
  subst ey
  cases r1
  refine wpAny_bind (wpAny_standAt (wpAny_bind (addT_ok I1 hD hL hxT hf hu fun L' s2 gr I2 => wpAny_pure ?_)))
  exact ⟨_, I2, nx L' gr⟩
theorem act_out {Y : Cx} {elt tg iter tg1 iter1 : Expr} {ifs ifs1 : List Expr} {sc : Scope} {pos : Pos} {D : Addr} {wi1 : TI} {g1 : TG} {tt1 : TT} {te : TE} {vs1 : List Nat} {pins : List (Addr × Obj)} {σ2 : L2.St} {H : Hp} {s : Shared} {Nx : Hp → Prop} (hc : Y.calm = true) (hu : Y.A.units + 1 < cLine) (hx : Y.xe = fun _ _ => False)
    (pi1 : PI Y tg1 iter1 wi1) (pg1 : PG Y tg1 g1) (pt1 : PTs Y ifs1 tt1) (pe : PE Y elt te) (hs1 : ∀ env x, foldedSetIterable iter1 env x = pure x) (I : Inv Y pins σ2 H s) (h : tInner wi1 g1 tt1 (tAdd Y.K Y.prog Y.w D te) vs1 σ2 H Nx) :
    wpAny (model Y.prog Y.w) Y.A (actOut elt tg iter tg1 iter1 ifs ifs1 sc pos (.ref D) Y.env) (fun _ s' => ∃ H', Inv Y pins (wipe σ2 vs1) H' s' ∧ Nx H') (fun _ _ => False) s := by
  unfold actOut
  have z := pi1.run pins s σ2 H _ I h
  rw [hx] at z
  refine wpAny_bind (thnF z fun xv s1 h1 => wpAny_bind (wpAny_standAt (wpAny_bind (wpAny_of_eq (hs1 Y.env xv) (wpAny_bind (wpAny_holding (thnF h1 fun itv s2 h2 => ?_)))))))
  obtain ⟨it1, fp1, tn1, J1, H2, e1, I2, T1, st2, f2, W1, ⟨m1, w1⟩, turn1⟩ := h2
  subst e1
  refine wpAny_bind (wpAny_runOwn ?_)
  rw [Around.mark_none]
  have I2' : Inv Y pins (wipe σ2 vs1) H2 s2 := I2.weak (wipe_length _ _) (fun j v e => (wipe_some e).1)
  have loop : ∀ (R : Result → Shared → Prop), (∀ s' H', Inv Y pins (wipe σ2 vs1) H' s' → Nx H' → R (.ok .next) s') → codeAny (model Y.prog Y.w) Y.A (.compLoop (sc2 elt tg iter tg1 iter1 ifs ifs1 sc pos) 1 (.ref it1) (.ref D) Y.env) R s2 := fun R hR =>
    loopG (va := []) (vs := vs1) (σ := σ2) (ta := tAdd Y.K Y.prog Y.w D te) (act := actIn elt (.ref D) Y.env) hc hx rfl rfl rfl (turn_in _ _ _) T1 pg1 pt1 (fun p2 s σ3 H Nx' I' h' => act_in hu hx pe I' h') (fun i hi => nomatch hi) turn1 hR (fun H' hn b hb => ⟨hn b hb, (f2 b hb).2⟩) I2' st2 (fun b hb => (f2 b hb).1) w1
  have lp := loop (fun r s' => match r with
    | .ok f => wpAny (model Y.prog Y.w) Y.A (pure PUnit.unit) (fun _ s' => ∃ H', Inv Y pins (wipe σ2 vs1) H' s' ∧ Nx H') (fun _ _ => False) s'
    | .error e => False) (fun s' H' I' n' => wpAny_pure ⟨H', I', n'⟩)
  refine codeAny_mono (start_in lp (T1.self Y.A 0 _ _ _ st2 lp)) fun r s' hr => ?_
  cases r with
  | ok f => exact hr
  | error e => exact hr.elim
end
end SrT

set_option maxHeartbeats 2000000
namespace SrT
open PySem PySem.Spec PyProof.Rows L2 PySem.W
section
variable {X : Cx}
theorem pe_sc2 {elt tg iter tg1 iter1 : Expr} {ifs ifs1 : List Expr} {scope : Scope} {own : List (Str × Nat)} {vs1 : List Nat} {pos : Pos} {wi wi1 : TI} {g g1 : TG} {tt tt1 : TT} {te : TE} (hu : X.A.units + 1 < cLine) (hc : X.calm = true) (hN : X.N.Nodup) (hi : PI X tg iter wi) (ok : BlkOk X.N X.env.scope scope own) (hv : ∀ i ∈ vs1, i ∈ own.map (·.2))
    (hg : ∀ (s : Shared) (H : Hp) (C : Addr) (cl : List (Str × Addr)) (fp : List Addr), PG (X.blk s H scope (compEnvC scope cl C X.env) fp) tg g) (ht : ∀ (s : Shared) (H : Hp) (C : Addr) (cl : List (Str × Addr)) (fp : List Addr), PTs (X.blk s H scope (compEnvC scope cl C X.env) fp) ifs tt)
    (hi1 : ∀ (s : Shared) (H : Hp) (C : Addr) (cl : List (Str × Addr)) (fp : List Addr), PI (X.blk s H scope (compEnvC scope cl C X.env) fp) tg1 iter1 wi1) (hg1 : ∀ (s : Shared) (H : Hp) (C : Addr) (cl : List (Str × Addr)) (fp : List Addr), PG (X.blk s H scope (compEnvC scope cl C X.env) fp) tg1 g1)
    (ht1 : ∀ (s : Shared) (H : Hp) (C : Addr) (cl : List (Str × Addr)) (fp : List Addr), PTs (X.blk s H scope (compEnvC scope cl C X.env) fp) ifs1 tt1) (he : ∀ (s : Shared) (H : Hp) (C : Addr) (cl : List (Str × Addr)) (fp : List Addr), PE (X.blk s H scope (compEnvC scope cl C X.env) fp) elt te)
    (hs : ∀ x, foldedSetIterable iter X.env x = pure x := by intro _; rfl) (hs1 : ∀ env x, foldedSetIterable iter1 env x = pure x := by intro _ _; rfl) :
    PE X (sc2 elt tg iter tg1 iter1 ifs ifs1 scope pos) (tSc2 X.K X.prog X.w wi g tt wi1 g1 tt1 te (own.map (·.2)) vs1) := by
  refine ⟨fun pins s σ H Q I h => ?_⟩
  show wpAny _ _ (comprehension (sc2 elt tg iter tg1 iter1 ifs ifs1 scope pos) scope X.env (firstIterPos _ pos) (newSet (.type "set")) _ (firstIter _ X.env) none) _ _ s
  have fr : ∀ y ∈ scope.names, y.2 = .free → ∃ c, X.env.cells.lookup y.1 = some c := by
    intro y hy e
    rcases ok.free y hy e with k | k
    · exact I.ok.has _ (.inl k)
    · exact I.ok.has _ (.inr k)
  refine wpAny_comprehension_free (use := none) rfl hs (closure_ok fr) ok.kind (fun y hy e => by rw [ok.uniq y hy, e]) (thn (hi.run pins s σ H _ I h) fun xv s1 hx => thn hx fun itv s2 h2 => ?_)
  obtain ⟨it, fp, tn, J, H2, e, I2, T, st2, f2, q⟩ := h2
  subst e
  refine PpSet.newSet_ok (newEnv_comp ?_)
  generalize hD : s2.heap.objs.size = D
  obtain ⟨W, ⟨m0, w0⟩, turn⟩ := q D (I2.hok.fresh (Nat.le_of_eq hD))
  generalize hob : ({ cls := .type "set", dict := none, data := .set #[] 0 (.fresh 0 0 (!X.w.params.followText "set-order")) } : Obj) = ob
  generalize hs3 : ({ s2 with heap := s2.heap.push ob } : Shared) = s3
  have hp3 : s3.heap = s2.heap.push ob := by rw [← hs3]
  have I3 : Inv X pins σ (upd H2 D (SetTO X.prog X.w D [])) s3 := by
    rw [← hs3]
    refine I2.laid (t' := s2.toks) (fun b o e => Heap.get?_push_of_some _ e) (Nat.le_of_eq hD) ?_
    rw [← hD]
    exact setTO_new (SetTR.t0 (setTR_fresh (P := X.prog) (w := X.w) (by rw [← hob]; exact Heap.get?_push_size _ rfl)))
  have lt : ∀ b ∈ fp, b < s2.heap.objs.size := by
    intro b hb
    obtain ⟨o, e, _⟩ := T.obj _ _ st2 b hb
    exact Heap.lt_size e
  have f3 : ∀ b ∈ fp, FpOk X pins (upd H2 D (SetTO X.prog X.w D [])) b ∧ b < s3.heap.objs.size := by
    intro b hb
    have hlt := lt b hb
    refine ⟨⟨?_, (f2 b hb).2⟩, by rw [hp3, Heap.size_push]; exact Nat.lt_succ_of_lt hlt⟩
    rw [upd_ne (by rw [← hD]; exact Nat.ne_of_lt hlt)]
    exact (f2 b hb).1
  have I4 := block_start I3 ok hN f3
  show codeAny _ _ (.compStart (sc2 elt tg iter tg1 iter1 ifs ifs1 scope pos) 0 (.ref it) (.ref D) (compEnvC scope (cellsFrom (s3.heap.objs.size + 1) scope.names (cloFrom X.env.cells scope.names [])) s3.heap.objs.size X.env)) (compPost (model X.prog X.w) X.A X.xe none _ (.ref D) s3.heap.objs.size) { s3 with heap := pushCells (s3.heap.push { cls := .type "dict", data := .dict #[] }) scope.names }
  generalize hcl : cellsFrom (s3.heap.objs.size + 1) scope.names (cloFrom X.env.cells scope.names []) = cl at I4 ⊢
  generalize hH3 : upd H2 D (SetTO X.prog X.w D []) = H3 at *
  have pg := hg s3 H3 s3.heap.objs.size cl fp
  have pt := ht s3 H3 s3.heap.objs.size cl fp
  have pe := he s3 H3 s3.heap.objs.size cl fp
  have pi1 := hi1 s3 H3 s3.heap.objs.size cl fp
  have pg1 := hg1 s3 H3 s3.heap.objs.size cl fp
  have pt1 := ht1 s3 H3 s3.heap.objs.size cl fp
  generalize hs4 : ({ s3 with heap := pushCells (s3.heap.push { cls := .type "dict", data := .dict #[] }) scope.names } : Shared) = s4 at I4 ⊢
  have st4 : tn 0 s4.heap := T.keep _ _ _ st2 fun b _ o e => by
    rw [← hs4]
    refine pushCells_keeps _ _ _ _ (Heap.get?_push_of_some _ ?_)
    rw [hp3]
    exact Heap.get?_push_of_some _ e
  have cL : (compEnvC scope cl s3.heap.objs.size X.env).locals = s3.heap.objs.size := rfl
  generalize hce : compEnvC scope cl s3.heap.objs.size X.env = ce at I4 pg pt pe pi1 pg1 pt1 cL ⊢
  have fps : ∀ H', (∀ b ∈ fp, H' b = none) → ∀ b ∈ fp, FpOk (X.blk s3 H3 scope ce fp) [] H' b := fun H' hn b hb =>
    ⟨hn b hb, (I4.ok.exf b hb).1, I4.ok.exfs b hb, .inl hb, fun x c e => (I4.ok.exf b hb).2 x c e, fun p hp => absurd (show p ∈ ([] : List (Addr × Obj)) ++ [] from hp) (by simp)⟩
  have loop := loopG (Y := X.blk s3 H3 scope ce fp) (e := sc2 elt tg iter tg1 iter1 ifs ifs1 scope pos) (d := 0) (it := it) (acc := .ref D) (va := vs1) (R := compPost (model X.prog X.w) X.A X.xe none (fun v s' => ∃ x H', Inv X pins σ H' s' ∧ RelV x v ∧ Q x H') (.ref D) s3.heap.objs.size)
    hc rfl rfl rfl rfl (turn_out _ _ _) T pg pt (fun p2 s' σ2 H' Nx I' h' => act_out (Y := X.blk s3 H3 scope ce fp) hc hu rfl pi1 pg1 pt1 pe hs1 I' h') hv turn (fun s' H' I' qq => ?_) fps I4 st4 (fun b hb => (f3 b hb).1.1) w0
  · exact PpSet.codeAny_compStart_set loop (T.self X.A 0 _ _ _ st4 loop)
  · have I7 : Inv X pins σ H' s' := I3.call' (ch := fp) I'.os I'.base I'.hok I'.bare fun b hb => ⟨(f3 b hb).1.2.2.2.1, (f3 b hb).1.2.1, (f3 b hb).1.2.2.2.2.1, (f3 b hb).1.2.2.2.2.2⟩
    have nC : H' s3.heap.objs.size = none := by
      have z : H' ce.locals = none := I'.free
      rw [cL] at z
      exact z
    obtain ⟨m, hn, _⟩ := I'.loc
    have hn : s'.heap.Ns ce.locals m := hn
    rw [cL] at hn
    obtain ⟨f0, f1, f2, f3, f4, f5⟩ := I3.fpOk (Nat.le_refl _) nC
    exact ⟨m, hn, fun h'' sb => ⟨.ref D, H', I7.turned (t' := s'.toks) (fun b o hb e => (sb.2 b hb).trans e) f0 f1 f3 f4 f5, rfl, qq⟩⟩
end
end SrT

set_option maxHeartbeats 2000000
namespace SrT
open PySem PySem.Spec PyProof.Rows L2 PySem.W
section
variable {P : Program} {w : World} {A : Around} {E : Value → Shared → Prop} {s : Shared}
/-- sorted(t), t a tuple of ints -/
theorem sorted_tupleI {t : Addr} {vs : List Value} {ns : List Int} {Q : Value → Shared → Prop} (ht : IsTup s.heap t vs.toArray) (hi : IntsAre vs ns) (hz : vs.length ≤ sizeLine)
    (hQ : ∀ (h1 h' : Heap) (out : List Value) (c : Nat), (∀ b o, s.heap.get? b = some o → h1.get? b = some o) → (∀ b o, h1.get? b = some o → h'.get? b = some o) → h'.get? h1.objs.size = some (seqObj "list" out.toArray c) → SrtO.Srtd SrtO.ltIv out → SrtO.Stb SrtO.ltIv out vs → Q (.ref h1.objs.size) { s with heap := h' }) :
    wpAny (model P w) A (call (.builtin "sorted") [.ref t]) Q E s := by
  obtain ⟨o, ho, hc, n, hd⟩ := id ht
  refine Calls.call_function_entry kind_sorted plain_sorted entry_sorted (args_sorted1 _) ?_
  unfold Builtin.«sorted»
  refine wpAny_bind (m := checkCount "sorted" 1 1 _) (wpAny_pure ?_)
  refine wpAny_bind (wpAny_collect_seq (A := A.in1) t (.inr rfl) ho hc hd (fun h1 kp => ?_) (by simpa using hz))
  rw [List.toList_toArray]
  refine wpAny_bind (wpAny_newList ?_ hz)
  have hoL : (h1.push (seqObj "list" vs.toArray 0)).get? h1.objs.size = some (seqObj "list" vs.toArray 0) := Heap.get?_push_size _ rfl
  refine wpAny_bind (wpAny_holding (wpAny_call_entry slot_list_sort ⟨_, hoL, rfl⟩ entry_list_sort (SrtO.list_sort_ord (s := { s with heap := h1.push (seqObj "list" vs.toArray 0) }) SrtO.swo_int hoL hz (fun h2 => SrtO.ints_sortable hi h2) fun out hs hb => ⟨_, rfl, ?_⟩) (args_list_sort _)))
  obtain ⟨c, hc2⟩ := sortedHeap_at (vs := vs) (out := out.toArray) hoL
  refine wpAny_pure ⟨_, rfl, hQ h1 _ out c kp (fun b u q => ?_) hc2 hs hb⟩
  have lt := Heap.lt_size q
  show (sortedHeap (h1.push (seqObj "list" vs.toArray 0)) h1.objs.size vs out.toArray).get? b = some u
  rw [sortedHeap_old (Nat.ne_of_lt lt) (by rw [size_push']; exact Nat.lt_succ_of_lt lt)]
  exact Heap.get?_push_of_some _ q
end
section
variable {X : Cx} {pins : List (Addr × Obj)} {σ : L2.St} {H : Hp} {s : Shared}
/-- sorted(t) of a tuple of ints -/
def rSortTI (K : PySem.W.Frag) : List V → Hp → VK → Prop := fun vs H Q => ∃ (a : Addr) (ns : List Int), vs = [V.ref a] ∧ SqT K H a (ns.map V.int) ∧ ∀ (ns' : List Int) (p : Addr), ns'.Perm ns → ns'.Pairwise (· ≤ ·) → H p = none → Q (.ref p) (upd H p (.lst (ns'.map V.int)))
theorem cr_sortTI : CallR X (.builtin "sorted") (rSortTI X.K) := by
  intro pins s σ H vs us Q I r h
  obtain ⟨a, ns, rfl, hs, q⟩ := h
  obtain ⟨its, rv, hl, hz⟩ := I.tuple hs
  rw [Vals.ref1 r]
  have hi := rv.ints
  refine sorted_tupleI hl hi (by rw [← rv.length]; exact hz) fun h1 h' out c kp kp2 hat hs' hb => ?_
  obtain ⟨k1, k2, k3⟩ := SrtO.ints_out hi hs' hb
  have I1 : Inv X pins σ H { s with heap := h1 } := I.kept (t' := s.toks) kp
  have hlen : ((out.map SrtO.iv).map V.int).length ≤ sizeLine := by
    rw [List.length_map, k2.length_eq]
    rw [List.length_map] at hz
    exact hz
  exact ⟨.ref _, upd H h1.objs.size (.lst ((out.map SrtO.iv).map V.int)), I1.laid (t' := s.toks) kp2 (Nat.le_refl _) ⟨hlen, out, c, vals_of_ints k1, hat⟩, rfl, q _ _ k2 k3 (I1.hok.fresh (Nat.le_refl _))⟩
end
end SrT

set_option maxHeartbeats 1000000
namespace SrT
open PySem PySem.Spec PyProof.Rows L2 PySem.W
section
variable {X : Cx}
/-- sum(a tuple of ints) -/
def rSumT (K : PySem.W.Frag) : List V → Hp → VK → Prop := fun vs H Q => ∃ (a : Addr) (ns : List Int), vs = [V.ref a] ∧ SqT K H a (ns.map V.int) ∧ Q (.int ns.sum) H
theorem cr_sumT (hc : X.calm = true) : CallR X (.builtin "sum") (rSumT X.K) := by
  intro pins s σ H vs us Q I r h
  obtain ⟨a, ns, rfl, hs, q⟩ := h
  obtain ⟨its, rv, ht, _⟩ := I.tuple hs
  rw [Vals.ref1 r]
  have hi := rv.ints
  obtain ⟨xs, hx⟩ := hi.allInts.items
  have hn : numsOf its.toArray.toList = ns := by
    rw [show its.toArray.toList = its from rfl, hi.numsOf]
  rw [hx] at ht hn
  rw [nums_intItems] at hn
  refine ktm_sumG (I.ok.hd hc) ht fun h' tk t' hk => ?_
  rw [preSum_eq, List.take_of_length_le (by simp), hn]
  exact ⟨.int ns.sum, H, I.kept hk, ⟨_, rfl⟩, q⟩
theorem vals_int_eq : ∀ {zs : List V} {ns : List Int} {us : List Value}, Vals zs us → Vals (ns.map V.int) us → zs = ns.map V.int
  | _, [], _, r, .nil => by cases r; rfl
  | _, n :: ns, _, r, .cons q t => by
    cases r with
    | cons r t' =>
      obtain ⟨tk, rfl⟩ := q
      rw [List.map_cons, vals_int_eq t' t]
      rename_i x _
      cases x with
      | int m =>
        obtain ⟨t2, e⟩ := r
        injection e with e1 e2
        rw [e1]
      | _ => first | (obtain ⟨t2, e⟩ := r; cases e) | cases r
/-- an own tuple of the heap is what is told of it -/
def KnT (K : PySem.W.Frag) (H : Hp) : Prop := ∀ t zs (ns : List Int), H t = some (.tup zs) → SqT K H t (ns.map V.int) → zs = ns.map V.int
theorem Inv.knT {pins : List (Addr × Obj)} {σ : L2.St} {H : Hp} {s : Shared} (I : Inv X pins σ H s) : KnT X.K H := by
  intro t zs ns h1 h2
  obtain ⟨us, r1, p1, _⟩ := I.tuple (show SqT X.K H t zs from .inl (.inl h1))
  obtain ⟨us2, r2, p2, _⟩ := I.tuple h2
  obtain ⟨o, ho, _, n, hd⟩ := p1
  obtain ⟨o2, ho2, _, n2, hd2⟩ := p2
  rw [ho] at ho2
  cases ho2
  rw [hd] at hd2
  injection hd2 with e1 e2
  have e3 : us = us2 := by simpa using e1
  subst e3
  exact vals_int_eq r1 r2
/-- what is known behind any expression -/
def tKn (K : PySem.W.Frag) (te : TE) : TE := fun σ H Q => te σ H fun v H1 => KnT K H1 → Q v H1
theorem pe_kn {e : Expr} {te : TE} (h : PE X e te) : PE X e (tKn X.K te) := by
  refine ⟨fun pins s σ H Q I q => thn (h.run pins s σ H _ I q) fun v s1 ⟨x, H1, I1, r1, q1⟩ => ⟨x, H1, I1, r1, q1 (Inv.knT I1)⟩⟩
/-- a list of own tuples of ints -/
def TupH (H : Hp) (x : V) (ns : List Int) : Prop := ∃ t, x = .ref t ∧ H t = some (.tup (ns.map V.int))
def OwnT (H : Hp) (x : V) : Prop := ∃ t zs, x = .ref t ∧ H t = some (.tup zs)
theorem TupH.tup {K : PySem.W.Frag} {H : Hp} {x : V} {ns : List Int} (h : TupH H x ns) : TupI K H x ns := let ⟨t, e, h⟩ := h; ⟨t, e, .inl (.inl h)⟩
theorem TupH.own {H : Hp} {x : V} {ns : List Int} (h : TupH H x ns) : OwnT H x := let ⟨t, e, h⟩ := h; ⟨t, _, e, h⟩
theorem tupH_of {K : PySem.W.Frag} {H : Hp} (kn : KnT K H) {x : V} {ns : List Int} (h : OwnT H x) (h2 : TupI K H x ns) : TupH H x ns := by
  obtain ⟨t, zs, rfl, h1⟩ := h
  obtain ⟨t2, e, h3⟩ := h2
  cases e
  exact ⟨t, rfl, by rw [← kn t zs ns h1 h3]; exact h1⟩
theorem tupsH_of {K : PySem.W.Frag} {H : Hp} (kn : KnT K H) : ∀ {xs : List V} {fss : List (List Int)}, (∀ x ∈ xs, OwnT H x) → Paired (TupI K H) xs fss → Paired (TupH H) xs fss
  | _, _, _, .nil => .nil
  | _, _, h, .cons r t => .cons (tupH_of kn (h _ List.mem_cons_self) r) (tupsH_of kn (fun x hx => h x (List.mem_cons_of_mem _ hx)) t)
end
end SrT

namespace Lf
open PySem PySem.Spec PyProof.Rows L2 GxR GxA SrT
/-! ### a def whose code object is told -/
structure FunC (K : PySem.W.Frag) (x : Str) (st : Stmt) (f : Addr) (fd : FuncData) (c : Addr) : Prop where
  ex : ∃ (oc : Value) (od : Option Addr) (kV doc pm : Value) (an : Option Addr) (ct : Value) (osl : Array (Option Value)),
    fd = PySem.W.fnOf x x (defArgs st) (defBody st) (defScope st) .none kV doc pm an (.ref c) ct ∧ K.lookup f = some ⟨oc, od, .func fd, osl⟩ ∧ PySem.W.codeIn K (.ref c) x = true
  kp : PySem.W.keepIn K (.ref f) = true
/-- a def of the top: where it stands, how it is called -/
structure Def (K : PySem.W.Frag) (mg : Str → Option Value) (x : Str) (st : Stmt) (ps : List Str) (f : Addr) (fd : FuncData) (c : Addr) : Prop where
  F : FunC K x st f fd c
  b : Binds K fd ps []
  g : mg x = some (.ref f)
section
variable {P : Program} {w : World} {K : PySem.W.Frag} {mg : Str → Option Value} {base : Heap}
theorem Def.ok {x : Str} {st : Stmt} {f c : Addr} {fd : FuncData} {N ps : List Str} {k : Nat} {sp : Sp} (D : Def K mg x st ps f fd c) (S : FnScope N ps (defScope st)) (len : ∀ vs H Q E, sp vs H Q E → vs.length = ps.length)
    (hbody : ∀ (A : Around) (outer : List Env) (s : Shared) (H : Hp) (vs : List V) (Q : VK) (E : XK), Room k (A.deeper (envOfC x (defScope st) s.heap.objs.size f (.ref c))) → sp vs H Q E →
      ∃ t, PSs (cxOf CX0 P w K mg base N x (defScope st) f (.ref c) A outer s H E).nox (defBody st) t ∧ t { nx := fun _ H' => Q .non H', rt := Q } (start N vs) H) : FnOk P w K mg base CX0 (k + 1) f fd ps sp := by
  obtain ⟨oc, od, kV, doc, pm, an, ct, osl, rfl, lk, hcd⟩ := D.F.ex
  refine fn_of lk hcd S len fun A outer s H vs Q E hr hsp => ?_
  obtain ⟨t, h, q⟩ := hbody A outer s H vs Q E hr hsp
  exact ⟨t, h.nox, q⟩
end
/-- a call of such a def -/
theorem pcl {X : Cx} {x : Str} {st : Stmt} {ps : List Str} {f c : Addr} {fd : FuncData} {k : Nat} {sp : Sp} {e : Expr} {es : List Expr} {t : TA} {p pos : Pos} (D : Def X.K X.mg x st ps f fd c) (G : FnOk X.prog X.w X.K X.mg X.base CX0 k f fd ps sp) (hr : Room k X.A) (ha : PA X (e :: es) t)
    (hg : Gl X x := by rfl) (hdb : (x == ("__debug__" : Str)) = false := by decide) (he : starEach (e :: es) X.env = (false, eval e X.env) :: starEach es X.env := by rfl) (hpl : (backTo pos (starEach es X.env)).any (·.1) = false := by rfl) :
    PE X (.Call (.Name x p) (e :: es) [] pos) (tCall sp [] E0 t) := pe_call G hr hg D.g D.F.kp D.b .nil pass0 ha hdb he hpl
/-! ### the tables of the generator expressions and of the lambdas, and what is kept -/
structure Tbs where
  gen : List Addr
  lam : List (Addr × Str)
  apart : ∀ p ∈ lam, p.1 ∉ gen
  one : ∀ p ∈ lam, ∀ q ∈ lam, p.1 = q.1 → p.2 = q.2
instance : Membership Addr Tbs := ⟨fun Ps P => P ∈ Ps.gen⟩
structure Tb (Ps : Tbs) (H : Hp) : Prop where
  gen : ∀ P, P ∈ Ps → TabG H P
  lam : LamX.Tabs Ps.lam H
structure Ext (Ps : Tbs) (H H' : Hp) : Prop where
  tb : Tb Ps H'
  old : ∀ b o, H b = some o → (∀ q, o ≠ .tbl q) → H' b = some o
  there : ∀ b o, H b = some o → ∃ o', H' b = some o'
section
variable {Ps : Tbs} {H H1 H2 H' : Hp} {K : PySem.W.Frag}
theorem Ext.refl (h : Tb Ps H) : Ext Ps H H := ⟨h, fun _ _ e _ => e, fun _ o e => ⟨o, e⟩⟩
theorem Ext.trans (a : Ext Ps H H1) (b : Ext Ps H1 H2) : Ext Ps H H2 := ⟨b.tb, fun c o e n => b.old c o (a.old c o e n) n, fun c o e => let ⟨o', e'⟩ := a.there c o e; b.there c o' e'⟩
theorem Ext.free (e : Ext Ps H H') {l : Addr} (h : H' l = none) : H l = none := by
  cases q : H l with
  | none => rfl
  | some o =>
    obtain ⟨o', z⟩ := e.there l o q
    rw [z] at h
    cases h
/-- a lambda's table stays one where its own cell and the code objects do -/
theorem tabS_keep {P : Addr} {q : Str} (t : LamX.TabS H P q) (h1 : ∀ ps, H P = some (.tbl ps) → H' P = some (.tbl ps)) (h2 : ∀ c, H c = some (LamX.CodeO c q) → H' c = some (LamX.CodeO c q)) : LamX.TabS H' P q := by
  obtain ⟨ps, a1, a2, a3⟩ := t
  refine ⟨ps, h1 ps a1, a2, fun p' cv hc => ?_⟩
  obtain ⟨c, e1, e2⟩ := a3 p' cv hc
  exact ⟨c, e1, h2 c e2⟩
theorem Ext.of_tabbed {P : Addr} (h : Tb Ps H) (hP : P ∈ Ps) (z : Tabbed P H H') : Ext Ps H H' := by
  obtain ⟨ps0, e0, _⟩ := h.gen P hP
  have nb : ∀ b o, H b = some o → (∀ q, o ≠ .tbl q) → b ≠ P := fun b o e n q => by
    rw [q, e0] at e
    cases e
    exact n _ rfl
  refine ⟨⟨fun Q hQ => ?_, fun p hp => tabS_keep (h.lam p hp) (fun ps e => ?_) fun c e => ?_⟩, fun b o e n => ?_, fun b o e => ?_⟩
  · by_cases e : Q = P
    · rw [e]
      exact z.1
    · obtain ⟨ps, h1, h2⟩ := h.gen Q hQ
      exact ⟨ps, by rw [z.2 Q e]; exact h1, h2⟩
  · rw [z.2 p.1 fun q => Ps.apart p hp (q ▸ hP)]
    exact e
  · rw [z.2 c (nb c _ e fun q y => by cases y)]
    exact e
  · rw [z.2 b (nb b o e n)]
    exact e
  · by_cases eb : b = P
    · obtain ⟨ps, h1, _⟩ := z.1
      rw [eb]
      exact ⟨_, h1⟩
    · exact ⟨o, by rw [z.2 b eb]; exact e⟩
theorem Tb.new {p : Addr} {o : HO} (h : Tb Ps H) (n : H p = none) : Tb Ps (upd H p o) := by
  refine ⟨fun Q hQ => ?_, fun q hq => tabS_keep (h.lam q hq) (fun ps e => ?_) fun c e => ?_⟩
  · obtain ⟨ps, h1, h2⟩ := h.gen Q hQ
    exact ⟨ps, by rw [upd_ne (ne_of_none h1 n)]; exact h1, h2⟩
  · rw [upd_ne (ne_of_none e n)]
    exact e
  · rw [upd_ne (ne_of_none e n)]
    exact e
/-- a heap of that many objects -/
theorem heap_of_size : ∀ n : Nat, ∃ h : Heap, h.objs.size = n
  | 0 => ⟨⟨#[], {}⟩, rfl⟩
  | n + 1 => by
    obtain ⟨h, e⟩ := heap_of_size n
    exact ⟨h.push { cls := .none, data := .fields #[] }, by rw [Heap.size_push, e]⟩
/-- what is true only of sets is no code object -/
theorem ext_ne_code {p : Addr} {q : Str} {f : Heap → Prop} (hf : ∀ h oc vs, f h → h.get? p = some oc → oc.data = .fields vs → False) : HO.ext f ≠ LamX.CodeO p q := fun z => by
  unfold LamX.CodeO at z
  obtain ⟨h, e⟩ := heap_of_size p
  have hz := HO.ext.inj z
  have g : (h.push { cls := .none, data := .fields #[.none, .str q 0] }).get? p = some { cls := .none, data := .fields #[.none, .str q 0] } := by
    rw [← e]
    exact Heap.get?_push_size _ rfl
  have hh : f (h.push { cls := .none, data := .fields #[.none, .str q 0] }) := by
    rw [hz]
    exact ⟨_, _, _, g, rfl, rfl⟩
  exact hf _ _ _ hh g rfl
/-- an object that is neither a table nor a code object is written -/
theorem Tb.put {p : Addr} {o o' : HO} (h : Tb Ps H) (hp : H p = some o) (ho : ∀ q, o ≠ .tbl q) (hx : ∀ q, o ≠ LamX.CodeO p q) : Tb Ps (upd H p o') := by
  have n1 : ∀ Q ps, H Q = some (.tbl ps) → Q ≠ p := fun Q ps e z => by
    rw [z, hp] at e
    cases e
    exact ho _ rfl
  refine ⟨fun Q hQ => ?_, fun q hq => tabS_keep (h.lam q hq) (fun ps e => ?_) fun c e => ?_⟩
  · obtain ⟨ps, h1, h2⟩ := h.gen Q hQ
    exact ⟨ps, by rw [upd_ne (n1 Q ps h1)]; exact h1, h2⟩
  · rw [upd_ne (n1 _ ps e)]
    exact e
  · have ne : c ≠ p := fun z => by
      rw [z] at e
      exact hx _ (Option.some.inj (hp.symm.trans e))
    rw [upd_ne ne]
    exact e
theorem Ext.new {p : Addr} {o : HO} (h : Tb Ps H) (n : H p = none) : Ext Ps H (upd H p o) := by
  refine ⟨h.new n, fun b u e _ => ?_, fun b u e => ⟨u, ?_⟩⟩
  · rw [upd_ne (ne_of_none e n)]
    exact e
  · rw [upd_ne (ne_of_none e n)]
    exact e
theorem Ext.sqL (e : Ext Ps H H') {a : Addr} {xs : List V} (h : SqL K H a xs) : SqL K H' a xs := by
  rcases h with (h | ⟨o, h⟩) | h
  · exact .inl (.inl (e.old _ _ h (fun q z => by cases z)))
  · exact .inl (.inr ⟨o, e.old _ _ h (fun q z => by cases z)⟩)
  · exact .inr h
theorem Ext.sqT (e : Ext Ps H H') {a : Addr} {xs : List V} (h : SqT K H a xs) : SqT K H' a xs := by
  rcases h with (h | ⟨o, h⟩) | h
  · exact .inl (.inl (e.old _ _ h (fun q z => by cases z)))
  · exact .inl (.inr ⟨o, e.old _ _ h (fun q z => by cases z)⟩)
  · exact .inr h
theorem Ext.lst (e : Ext Ps H H') {a : Addr} {xs : List V} (h : H a = some (.lst xs)) : H' a = some (.lst xs) := e.old _ _ h (fun q z => by cases z)
theorem Ext.tupI (e : Ext Ps H H') {x : V} {ns : List Int} (h : TupI K H x ns) : TupI K H' x ns := let ⟨t, e1, e2⟩ := h; ⟨t, e1, e.sqT e2⟩
theorem Ext.tups (e : Ext Ps H H') {xs : List V} {fss : List (List Int)} (h : Paired (TupI K H) xs fss) : Paired (TupI K H') xs fss := L2.Paired.mapP h fun _ _ z => e.tupI z
/-- an object that is ours is written -/
theorem Ext.write {p : Addr} {o o' : HO} (e : Ext Ps H H') (n : H p = none) (hp : H' p = some o) (ho : ∀ q, o ≠ .tbl q) (hx : ∀ q, o ≠ LamX.CodeO p q := by intro q z; unfold LamX.CodeO at z; cases z) : Ext Ps H (upd H' p o') := by
  refine ⟨e.tb.put hp ho hx, fun b u q nt => ?_, fun b u q => ?_⟩
  · rw [upd_ne (ne_of_none q n)]
    exact e.old _ _ q nt
  · rw [upd_ne (ne_of_none q n)]
    exact e.there _ _ q
end
theorem paired_get {α β : Type} {F : α → β → Prop} : ∀ {xs : List α} {fs : List β} {i : Nat} {x : α}, Paired F xs fs → xs[i]? = some x → ∃ f, fs[i]? = some f ∧ F x f
  | _, _, _, _, .nil, e => by simp at e
  | _, _, 0, x, .cons r _, e => by
    have e' := Option.some.inj e
    subst e'
    exact ⟨_, rfl, r⟩
  | _, _, i + 1, x, .cons _ t, e => by
    obtain ⟨f, h1, h2⟩ := paired_get (i := i) (x := x) t (by simpa using e)
    exact ⟨f, by simpa using h1, h2⟩
theorem paired_get' {α β : Type} {F : α → β → Prop} : ∀ {xs : List α} {fs : List β} {i : Nat} {f : β}, Paired F xs fs → fs[i]? = some f → ∃ x, xs[i]? = some x ∧ F x f
  | _, _, _, _, .nil, e => by simp at e
  | _, _, 0, x, .cons r _, e => by
    have e' := Option.some.inj e
    subst e'
    exact ⟨_, rfl, r⟩
  | _, _, i + 1, x, .cons _ t, e => by
    obtain ⟨f, h1, h2⟩ := paired_get' (i := i) (f := x) t (by simpa using e)
    exact ⟨f, by simpa using h1, h2⟩
/-! ### gW for the three kinds of walks -/
section
variable {K : PySem.W.Frag} {all : Bool} {σc : L2.St} {te : TE} {Q : VK}
/-- over a sequence of n things that stands still; Pv: what is kept, by the turn -/
theorem gW_seq {J : It} {n : Nat} {H0 : Hp} (Pv : Nat → Hp → Prop) (h0 : Pv 0 H0) (hstop : ∀ H, Pv n H → J.stop n H ∧ Q (.bl all) H)
    (hgo : ∀ i H, i < n → Pv i H → J.go i H ∧ ∀ x H4, J.yld i H x H4 → te (some x :: σc) H4 fun v H5 => ∃ b : Bool, v = .bl b ∧ (b = all → Pv (i + 1) H5) ∧ (b ≠ all → Q (.bl b) H5)) :
    ∃ W : Nat → Nat → Hp → Prop, (∃ m, W 0 m H0) ∧ gW all J σc te Q W := by
  refine ⟨fun i m H => i + m = n ∧ Pv i H, ⟨n, by omega, h0⟩, ?_⟩
  rintro i m H ⟨e, p⟩
  by_cases hi : i < n
  · obtain ⟨g1, g2⟩ := hgo i H hi p
    refine .inr ⟨m - 1, by omega, g1, fun x H4 hy => ?_⟩
    have q := g2 x H4 hy
    have en : i + 1 + (m - 1) = n := by omega
    have ee : (fun (v : V) (H5 : Hp) => ∃ b : Bool, v = .bl b ∧ (b = all → (i + 1 + (m - 1) = n ∧ Pv (i + 1) H5)) ∧ (b ≠ all → Q (.bl b) H5)) = (fun (v : V) (H5 : Hp) => ∃ b : Bool, v = .bl b ∧ (b = all → Pv (i + 1) H5) ∧ (b ≠ all → Q (.bl b) H5)) := by
      funext v H5
      simp only [en, true_and]
    show te (some x :: σc) H4 (fun (v : V) (H5 : Hp) => ∃ b : Bool, v = .bl b ∧ (b = all → (i + 1 + (m - 1) = n ∧ Pv (i + 1) H5)) ∧ (b ≠ all → Q (.bl b) H5))
    rw [ee]
    exact q
  · have ei : i = n := by omega
    subst ei
    exact .inl (hstop H p)
theorem gW_tup {a : Addr} {xs : List V} {H0 : Hp} (Pv : Nat → Hp → Prop) (h0 : Pv 0 H0) (hl : ∀ i H, Pv i H → SqT K H a xs) (hstop : ∀ H, Pv xs.length H → Q (.bl all) H)
    (hgo : ∀ i H x, xs[i]? = some x → Pv i H → te (some x :: σc) H fun v H5 => ∃ b : Bool, v = .bl b ∧ (b = all → Pv (i + 1) H5) ∧ (b ≠ all → Q (.bl b) H5)) :
    ∃ W : Nat → Nat → Hp → Prop, (∃ m, W 0 m H0) ∧ gW all (Itt K a) σc te Q W := by
  refine gW_seq (n := xs.length) Pv h0 (fun H p => ⟨⟨xs, hl _ H p, Nat.le_refl _⟩, hstop H p⟩) fun i H hi p => ⟨⟨xs, xs[i], hl i H p, List.getElem?_eq_getElem hi⟩, fun x H4 hy => ?_⟩
  obtain ⟨rfl, hy⟩ := hy
  exact hgo i H4 x (hy xs (hl i H4 p)) p
theorem gW_lst {a : Addr} {xs : List V} {H0 : Hp} (Pv : Nat → Hp → Prop) (h0 : Pv 0 H0) (hl : ∀ i H, Pv i H → SqL K H a xs) (hstop : ∀ H, Pv xs.length H → Q (.bl all) H)
    (hgo : ∀ i H x, xs[i]? = some x → Pv i H → te (some x :: σc) H fun v H5 => ∃ b : Bool, v = .bl b ∧ (b = all → Pv (i + 1) H5) ∧ (b ≠ all → Q (.bl b) H5)) :
    ∃ W : Nat → Nat → Hp → Prop, (∃ m, W 0 m H0) ∧ gW all (Itl K a) σc te Q W := by
  refine gW_seq (n := xs.length) Pv h0 (fun H p => ⟨⟨xs, hl _ H p, Nat.le_refl _⟩, hstop H p⟩) fun i H hi p => ⟨⟨xs, xs[i], hl i H p, List.getElem?_eq_getElem hi⟩, fun x H4 hy => ?_⟩
  obtain ⟨rfl, hy⟩ := hy
  exact hgo i H4 x (hy xs (hl i H4 p)) p
theorem gW_rng {lo : Int} {n : Nat} {H0 : Hp} (Pv : Nat → Hp → Prop) (h0 : Pv 0 H0) (hstop : ∀ H, Pv n H → Q (.bl all) H)
    (hgo : ∀ (i : Nat) H, i < n → Pv i H → te (some (.int (lo + i)) :: σc) H fun v H5 => ∃ b : Bool, v = .bl b ∧ (b = all → Pv (i + 1) H5) ∧ (b ≠ all → Q (.bl b) H5)) :
    ∃ W : Nat → Nat → Hp → Prop, (∃ m, W 0 m H0) ∧ gW all (Itr lo n) σc te Q W := by
  refine gW_seq (n := n) Pv h0 (fun H p => ⟨Nat.le_refl n, hstop H p⟩) fun i H hi p => ⟨hi, fun x H4 hy => ?_⟩
  obtain ⟨rfl, rfl⟩ := hy
  exact hgo i H4 hi p
end
/-- the scope of a generator expression over the def's own -/
def genC (dsc sc : Scope) : Bool := sc.names.all fun y => match y.2 with
  | .cell => false
  | .free => (match dsc.names.lookup y.1 with | some .cell => true | _ => false)
  | _ => true
theorem genS {q : Str} {dsc sc : Scope} {n f : Addr} {cd : Value} {x : Str} (h1 : sc.kind = .function) (h2 : sc.isCoroutine = false) (h3 : genC dsc sc = true) (h4 : sc.names.lookup (".0" : Str) = some NameKind.local) (h5 : sc.names.lookup x = some .local) :
    GenS (envOfC q dsc n f cd) sc x := by
  refine ⟨h1, h2, fun y hy e => ?_, h4, h5, fun y hy e => ?_⟩
  · have z := List.all_eq_true.mp h3 y hy
    simp only [e] at z
    cases z
  · have z := List.all_eq_true.mp h3 y hy
    simp only [e] at z
    split at z
    · rename_i hc
      exact cell_has hc
    · cases z
end Lf

namespace Lf
open PySem
/-! ### the text -/
def topS (i : Nat) : Stmt := PySem.Challenge.pw_layfaces_k82_orders_joined.main.body.getD i (.Pass ⟨0, 0, 0, 0⟩)
end Lf

set_option maxHeartbeats 1000000
namespace Lf
open PySem PySem.Spec PyProof.Rows L2 GxR GxA SrT
abbrev sWithin : Stmt := topS 16
abbrev sBelow : Stmt := topS 18
abbrev sRises : Stmt := topS 19
abbrev sRising : Stmt := topS 20
abbrev sHasAll : Stmt := topS 22
abbrev sInSome : Stmt := topS 23
theorem scWithin : FnScope ["thing", "least", "most"] ["thing", "least", "most"] (defScope sWithin) := ⟨rfl, rfl, rfl, by decide +kernel, rfl, by decide +kernel, by decide +kernel⟩
theorem scBelow : FnScope ["thing", "many"] ["thing", "many"] (defScope sBelow) := ⟨rfl, rfl, rfl, by decide +kernel, rfl, by decide +kernel, by decide +kernel⟩
theorem scRises : FnScope ["things"] ["things"] (defScope sRises) := ⟨rfl, rfl, rfl, by decide +kernel, rfl, by decide +kernel, by decide +kernel⟩
theorem scRising : FnScope ["thing", "many"] ["thing", "many"] (defScope sRising) := ⟨rfl, rfl, rfl, by decide +kernel, rfl, by decide +kernel, by decide +kernel⟩
theorem scHasAll : FnScope ["face", "points"] ["face", "points"] (defScope sHasAll) := ⟨rfl, rfl, rfl, by decide +kernel, rfl, by decide +kernel, by decide +kernel⟩
theorem scInSome : FnScope ["points", "faces"] ["points", "faces"] (defScope sInSome) := ⟨rfl, rfl, rfl, by decide +kernel, rfl, by decide +kernel, by decide +kernel⟩
section
variable {P : Program} {w : World} {K : PySem.W.Frag} {mg : Str → Option Value} {base : Heap} {Ps : Tbs}
/-! ### is_within -/
def spWithin : Sp := fun vs H Q _ => ∃ i lo hi : Int, vs = [.int i, .int lo, .int hi] ∧ lo ≤ i ∧ i ≤ hi ∧ Q (.bl true) H
theorem ok_within {f c : Addr} {fd : FuncData} {k : Nat} (D : Def K mg "is_within" sWithin ["thing", "least", "most"] f fd c) (mi : mg "isinstance" = none) (mn : mg "int" = none) (mb : mg "bool" = none) : FnOk P w K mg base CX0 (k + 1) f fd ["thing", "least", "most"] spWithin := by
  refine D.ok scWithin (fun vs H Q E h => ?_) (fun A outer s H vs Q E hr h => ?_)
  · obtain ⟨i, lo, hi, rfl, _⟩ := h
    rfl
  · obtain ⟨i, lo, hi, rfl, h1, h2, q⟩ := h
    refine ⟨_, pss_cons (ps_if (PW.pt (pw_or (pt_not (pt_val (pe_callB call_isi (by rfl) mi (by decide +kernel) (pa_cons (pv 0) (pa_cons (pe_bltn (v := .ty "int") (by rfl) mn (by decide +kernel) rfl) pa_nil)))))
        (pw_or1 (pt_val (pe_callB call_isi (by rfl) mi (by decide +kernel) (pa_cons (pv 0) (pa_cons (pe_bltn (v := .ty "bool") (by rfl) mb (by decide +kernel) rfl) pa_nil))))))) (pss_one (ps_ret pe_bl)) pss_nil)
      (pss_one (ps_ret (pe_chain op_le op_le (pv 1) (pv 0) (pv 2)))), ?_⟩
    refine ⟨.int i, rfl, .int i, .ty "int", .type "int", .type "int", true, rfl, .ty _, .base (.int i), kit_ty (by decide +kernel), true, rfl, iteF ?_⟩
    refine ⟨.int i, rfl, .int i, .ty "bool", .type "int", .type "bool", false, rfl, .ty _, .base (.int i), kit_ty (by decide +kernel), false, rfl, iteF ?_⟩
    refine ⟨.int lo, rfl, .int i, rfl, lo, i, rfl, rfl, _, rfl, ?_⟩
    rw [if_pos (decide_eq_true h1)]
    refine ⟨.int hi, rfl, i, hi, rfl, rfl, ?_⟩
    show Q (.bl (decide (i ≤ hi))) H
    rw [decide_eq_true h2]
    exact q
/-! ### all_below -/
def spBelow (K : PySem.W.Frag) (Ps : Tbs) : Sp := fun vs H Q _ => ∃ (a : Addr) (ns : List Int) (m : Int), vs = [.ref a, .int m] ∧ SqT K H a (ns.map V.int) ∧ (∀ i ∈ ns, 0 ≤ i ∧ i < m) ∧ Tb Ps H ∧ ∀ H', Ext Ps H H' → Q (.bl true) H'
theorem ty_tup {H : Hp} {a : Addr} {xs : List V} (h : SqT K H a xs) : TyX K H (.ref a) (.type "tuple") := by
  rcases h with (h | ⟨o, h⟩) | ⟨o, _, _, h, h2, _⟩
  · exact .base (.tup h)
  · exact .fTuple h
  · exact .kTuple h h2
theorem ok_below {f c fW cW PT : Addr} {fd fdW : FuncData} {k : Nat} (D : Def K mg "all_below" sBelow ["thing", "many"] f fd c) (DW : Def K mg "is_within" sWithin ["thing", "least", "most"] fW fdW cW) (TB : TabB base mg c PT) (hP : PT ∈ Ps)
    (mi : mg "isinstance" = none) (mn : mg "int" = none) (mb : mg "bool" = none) (mt : mg "tuple" = none) (ma : mg "all" = none) : FnOk P w K mg base CX0 (k + 3) f fd ["thing", "many"] (spBelow K Ps) := by
  have GW : FnOk P w K mg base CX0 (k + 1) fW fdW ["thing", "least", "most"] spWithin := ok_within DW mi mn mb
  refine D.ok (k := k + 2) scBelow (fun vs H Q E h => ?_) (fun A outer s H vs Q E hr h => ?_)
  · obtain ⟨a, ns, m, rfl, _⟩ := h
    rfl
  · obtain ⟨a, ns, m, rfl, hS, hb, ht, q⟩ := h
    refine ⟨_, pss_one (ps_ret (pe_and (pe_callB call_isi (by rfl) mi (by decide +kernel) (pa_cons (pv 0) (pa_cons (pe_bltn (v := .ty "tuple") (by rfl) mt (by decide +kernel) rfl) pa_nil)))
      (pe_one (pe_allG (k := k + 1) (caps := [1]) (xs := ["many"]) hr (by rfl) ma TB rfl (genS rfl rfl (by decide +kernel) rfl rfl) ⟨⟨rfl, .inl rfl, rfl⟩, trivial⟩ (by decide +kernel) (pi_tup (pv 0))
        (fun _ _ _ _ _ _ _ hr' => pcl DW GW hr' (pa_cons (pv 0) (pa_cons pe_int (pa_cons (pe_op op_sub (pv 1) pe_int) pa_nil)))) (fun _ => rfl))))), ?_⟩
    refine ⟨.ref a, rfl, .ref a, .ty "tuple", .type "tuple", .type "tuple", true, rfl, .ty _, ty_tup hS, kit_ty (by decide +kernel), true, rfl, iteT ?_⟩
    refine ⟨.ref a, rfl, a, rfl, ⟨_, hS⟩, ht.gen PT hP, fun H2 hT2 => ?_⟩
    have e2 := Ext.of_tabbed ht hP hT2
    refine gW_tup (xs := ns.map V.int) (fun _ H3 => H3 = H2) rfl (fun i H3 e => by rw [e]; exact e2.sqT hS) (fun H3 e => by rw [e]; exact q _ e2) fun i H3 x hx e => ?_
    subst e
    rw [List.getElem?_map] at hx
    obtain ⟨y, hy, rfl⟩ := Option.map_eq_some_iff.mp hx
    have hyb := hb y (List.mem_of_getElem? hy)
    exact ⟨.int y, rfl, .int m, rfl, m, 1, rfl, rfl, y, 0, m - 1, rfl, hyb.1, by omega, true, rfl, fun _ => rfl, fun z => absurd rfl z⟩
/-! ### rises -/
/-- the things of xs rise -/
def Rise (K : PySem.W.Frag) (H : Hp) (xs : List V) : Prop := (∃ ns : List Int, xs = ns.map V.int ∧ ns.Pairwise (· < ·)) ∨ ∃ fss, Paired (TupI K H) xs fss ∧ fss.Pairwise fun x y => lex x y = true
def spRises (K : PySem.W.Frag) (Ps : Tbs) : Sp := fun vs H Q _ => ∃ (a : Addr) (xs : List V), vs = [.ref a] ∧ SqT K H a xs ∧ Rise K H xs ∧ xs.length ≤ 1000 ∧ Tb Ps H ∧ ∀ H', Ext Ps H H' → Q (.bl true) H'
theorem ok_rises {f c PT : Addr} {fd : FuncData} {k : Nat} (D : Def K mg "rises" sRises ["things"] f fd c) (TB : TabB base mg c PT) (hP : PT ∈ Ps) (ma : mg "all" = none) (mr : mg "range" = none) (ml : mg "len" = none) :
    FnOk P w K mg base CX0 (k + 2) f fd ["things"] (spRises K Ps) := by
  refine D.ok (k := k + 1) scRises (fun vs H Q E h => ?_) (fun A outer s H vs Q E hr h => ?_)
  · obtain ⟨a, xs, rfl, _⟩ := h
    rfl
  · obtain ⟨a, xs, rfl, hS, hR, hl, ht, q⟩ := h
    refine ⟨_, pss_one (ps_ret (pe_allG (k := k) (caps := [0]) (xs := ["things"]) hr (by rfl) ma TB rfl (genS rfl rfl (by decide +kernel) rfl rfl) ⟨⟨rfl, .inl rfl, rfl⟩, trivial⟩ (by decide +kernel)
      (pi_range1 (by rfl) mr (pa_cons (pe_op op_sub (pe_callB call_len_seq (by rfl) ml PySem.boot_len (pa_cons (pv 0) pa_nil)) pe_int) pa_nil))
        (fun _ _ _ _ _ _ _ hr' => pe_cmpR (OpR.or op_lt (show OpR _ _ (rLtT K) from op_ltT hr'.units0)) (pe_ix (show IxR _ (rIxT K) from ix_tup) (pv 1) (pv 0) (fun _ _ => rfl)) (pe_ix (show IxR _ (rIxT K) from ix_tup) (pv 1) (pe_op op_add (pv 0) pe_int) (fun _ _ => rfl)) (nomark _)) (fun _ => rfl))), ?_⟩
    refine ⟨.ref a, rfl, a, xs, rfl, .inr hS, (xs.length : Int), 1, rfl, rfl, (xs.length : Int) - 1, rfl, by omega, by omega, ht.gen PT hP, fun H2 hT2 => ?_⟩
    have e2 := Ext.of_tabbed ht hP hT2
    refine gW_rng (fun _ H3 => H3 = H2) rfl (fun H3 e => by rw [e]; exact q _ e2) fun i H3 hi e => ?_
    subst e
    have h1 : i < xs.length := by omega
    have h2 : i + 1 < xs.length := by omega
    refine ⟨.ref a, rfl, .int (0 + i), rfl, a, xs, 0 + i, xs[i], rfl, rfl, e2.sqT hS, ?_, .ref a, rfl, .int (0 + i), rfl, 0 + i, 1, rfl, rfl, a, xs, 0 + i + 1, xs[i + 1], rfl, rfl, e2.sqT hS, ?_, ?_⟩
    · rw [Int.zero_add]
      exact atI_nat (List.getElem?_eq_getElem h1)
    · have : (0 + (i : Int) + 1) = ((i + 1 : Nat) : Int) := by omega
      rw [this]
      exact atI_nat (List.getElem?_eq_getElem h2)
    · rcases hR with ⟨ns, rfl, hp⟩ | ⟨fss, hp, hr2⟩
      · have g1 : i < ns.length := by simpa using h1
        have g2 : i + 1 < ns.length := by simpa using h2
        refine .inl ⟨ns[i], ns[i + 1], by simp, by simp, true, ?_, fun _ => rfl, fun z => absurd rfl z⟩
        exact congrArg V.bl (decide_eq_true (List.pairwise_iff_getElem.mp hp i (i + 1) g1 g2 (by omega)))
      · have hlen := Paired.length hp
        obtain ⟨f1, k1, ⟨t1, z1, s1⟩⟩ := paired_get hp (List.getElem?_eq_getElem h1)
        obtain ⟨f2, k2, ⟨t2, z2, s2⟩⟩ := paired_get hp (List.getElem?_eq_getElem h2)
        refine .inr ⟨t1, t2, f1, f2, z1, z2, e2.sqT s1, e2.sqT s2, true, ?_, fun _ => rfl, fun z => absurd rfl z⟩
        obtain ⟨g1, k1⟩ := List.getElem?_eq_some_iff.mp k1
        obtain ⟨g2, k2⟩ := List.getElem?_eq_some_iff.mp k2
        have := List.pairwise_iff_getElem.mp hr2 i (i + 1) g1 g2 (by omega)
        rw [k1, k2] at this
        exact congrArg V.bl this
end
end Lf

set_option maxHeartbeats 1000000
namespace Lf
open PySem PySem.Spec PyProof.Rows L2 GxR GxA SrT
section
variable {P : Program} {w : World} {K : PySem.W.Frag} {mg : Str → Option Value} {base : Heap} {Ps : Tbs}
/-! ### is_rising -/
def spRising (K : PySem.W.Frag) (Ps : Tbs) : Sp := fun vs H Q _ => ∃ (a : Addr) (ns : List Int) (m : Int), vs = [.ref a, .int m] ∧ SqT K H a (ns.map V.int) ∧ (∀ i ∈ ns, 0 ≤ i ∧ i < m) ∧ ns.Pairwise (· < ·) ∧ ns.length ≤ 1000 ∧ Tb Ps H ∧ ∀ H', Ext Ps H H' → Q (.bl true) H'
theorem ok_rising {f c fB cB fR cR : Addr} {fd fdB fdR : FuncData} {k : Nat} (D : Def K mg "is_rising" sRising ["thing", "many"] f fd c) (DB : Def K mg "all_below" sBelow ["thing", "many"] fB fdB cB) (DR : Def K mg "rises" sRises ["things"] fR fdR cR)
    (GB : FnOk P w K mg base CX0 (k + 3) fB fdB ["thing", "many"] (spBelow K Ps)) (GR : FnOk P w K mg base CX0 (k + 3) fR fdR ["things"] (spRises K Ps)) : FnOk P w K mg base CX0 (k + 4) f fd ["thing", "many"] (spRising K Ps) := by
  refine D.ok (k := k + 3) scRising (fun vs H Q E h => ?_) (fun A outer s H vs Q E hr h => ?_)
  · obtain ⟨a, ns, m, rfl, _⟩ := h
    rfl
  · obtain ⟨a, ns, m, rfl, hS, hb, hp, hl, ht, q⟩ := h
    refine ⟨_, pss_one (ps_ret (pe_and (pcl DB GB hr (pa_cons (pv 0) (pa_cons (pv 1) pa_nil))) (pe_one (pcl DR GR hr (pa_cons (pv 0) pa_nil))))), ?_⟩
    refine ⟨.ref a, rfl, .int m, rfl, a, ns, m, rfl, hS, hb, ht, fun H1 e1 => ⟨true, rfl, iteT ?_⟩⟩
    exact ⟨.ref a, rfl, a, _, rfl, e1.sqT hS, .inl ⟨ns, rfl, hp⟩, by rw [List.length_map]; exact hl, e1.tb, fun H2 e2 => q _ (e1.trans e2)⟩
/-! ### has_all -/
theorem inV_ints (x : Int) (ns : List Int) : inV (.int x) (ns.map V.int) = decide (x ∈ ns) := by
  unfold inV
  rw [List.any_map, Bool.eq_iff_iff, List.any_eq_true, decide_eq_true_eq]
  constructor
  · rintro ⟨y, hy, e⟩
    have : y = x := by simpa [eqV] using e
    exact this ▸ hy
  · intro h
    exact ⟨x, h, by simp [eqV]⟩
theorem flat_ints (ns : List Int) : (ns.map V.int).all flatV = true := by
  rw [List.all_map, List.all_eq_true]
  intro _ _
  rfl
/-- the face has all the points -/
def hasAll (face pts : List Int) : Bool := pts.all fun p => decide (p ∈ face)
def spHasAll (K : PySem.W.Frag) (Ps : Tbs) : Sp := fun vs H Q _ => ∃ (x y : V) (fc pts : List Int), vs = [x, y] ∧ TupI K H x fc ∧ TupI K H y pts ∧ Tb Ps H ∧ ∀ H', Ext Ps H H' → Q (.bl (hasAll fc pts)) H'
theorem hasAll_stop {fc pts : List Int} {i : Nat} {y : Int} (hy : pts[i]? = some y) (h : decide (y ∈ fc) = false) : hasAll fc pts = false := by
  unfold hasAll
  rw [List.all_eq_false]
  exact ⟨y, List.mem_of_getElem? hy, by rw [h]; simp⟩
theorem ok_hasAll {f c PT : Addr} {fd : FuncData} {k : Nat} (D : Def K mg "has_all" sHasAll ["face", "points"] f fd c) (TB : TabB base mg c PT) (hP : PT ∈ Ps) (ma : mg "all" = none) :
    FnOk P w K mg base CX0 (k + 2) f fd ["face", "points"] (spHasAll K Ps) := by
  refine D.ok (k := k + 1) scHasAll (fun vs H Q E h => ?_) (fun A outer s H vs Q E hr h => ?_)
  · obtain ⟨x, y, fc, pts, rfl, _⟩ := h
    rfl
  · obtain ⟨_, _, fc, pts, rfl, ⟨a, rfl, hA⟩, ⟨b, rfl, hB⟩, ht, q⟩ := h
    refine ⟨_, pss_one (ps_ret (pe_allG (k := k) (caps := [0]) (xs := ["face"]) hr (by rfl) ma TB rfl (genS rfl rfl (by decide +kernel) rfl rfl) ⟨⟨rfl, .inl rfl, rfl⟩, trivial⟩ (by decide +kernel) (pi_tup (pv 1))
        (fun _ _ _ _ _ _ _ _ => pe_cmpR (show OpR _ _ (rIn K false) from op_in_seq) (pv 0) (pv 1) (by with_unfolding_all rfl)) (fun _ => rfl))), ?_⟩
    refine ⟨.ref b, rfl, b, rfl, ⟨_, hB⟩, ht.gen PT hP, fun H2 hT2 => ?_⟩
    have e2 := Ext.of_tabbed ht hP hT2
    refine gW_tup (xs := pts.map V.int) (fun i H3 => H3 = H2 ∧ hasAll fc (pts.take i) = true) ⟨rfl, rfl⟩ (fun i H3 e => by rw [e.1]; exact e2.sqT hB) (fun H3 e => ?_) fun i H3 x hx e => ?_
    · obtain ⟨rfl, h2⟩ := e
      rw [List.length_map, List.take_length] at h2
      have := q _ e2
      rw [h2] at this
      exact this
    · obtain ⟨rfl, h2⟩ := e
      rw [List.getElem?_map] at hx
      obtain ⟨y, hy, rfl⟩ := Option.map_eq_some_iff.mp hx
      refine ⟨.int y, rfl, .ref a, rfl, a, _, rfl, .inr (e2.sqT hA), rfl, flat_ints fc, _, rfl, fun hb => ⟨rfl, ?_⟩, fun hb => ?_⟩
      · have hb' : inV (.int y) (fc.map V.int) = true := hb
        rw [inV_ints] at hb'
        rw [List.take_add_one, hy]
        unfold hasAll at h2 ⊢
        rw [List.all_append, h2]
        simpa using hb'
      · have hb' : inV (.int y) (fc.map V.int) = false := by
          have z : ¬ inV (.int y) (fc.map V.int) = true := hb
          simpa using z
        have hq := q _ e2
        rw [hasAll_stop hy (by rw [← inV_ints]; exact hb')] at hq
        show Q (.bl (inV (.int y) (fc.map V.int))) H3
        rw [hb']
        exact hq
/-! ### in_some -/
def inSome (pts : List Int) (fss : List (List Int)) : Bool := fss.any fun fc => hasAll fc pts
def spInSome (K : PySem.W.Frag) (Ps : Tbs) : Sp := fun vs H Q _ => ∃ (x : V) (l : Addr) (xs : List V) (pts : List Int) (fss : List (List Int)), vs = [x, .ref l] ∧ TupI K H x pts ∧ SqL K H l xs ∧ Paired (TupI K H) xs fss ∧ Tb Ps H ∧ ∀ H', Ext Ps H H' → Q (.bl (inSome pts fss)) H'
theorem ok_inSome {f c fH cH PT : Addr} {fd fdH : FuncData} {k : Nat} (D : Def K mg "in_some" sInSome ["points", "faces"] f fd c) (DH : Def K mg "has_all" sHasAll ["face", "points"] fH fdH cH) (GH : FnOk P w K mg base CX0 (k + 2) fH fdH ["face", "points"] (spHasAll K Ps)) (TB : TabB base mg c PT) (hP : PT ∈ Ps) (ma : mg "any" = none) :
    FnOk P w K mg base CX0 (k + 4) f fd ["points", "faces"] (spInSome K Ps) := by
  refine D.ok (k := k + 3) scInSome (fun vs H Q E h => ?_) (fun A outer s H vs Q E hr h => ?_)
  · obtain ⟨x, l, xs, pts, fss, rfl, _⟩ := h
    rfl
  · obtain ⟨_, l, xs, pts, fss, rfl, ⟨a, rfl, hA⟩, hL, hp, ht, q⟩ := h
    refine ⟨_, pss_one (ps_ret (pe_anyG (k := k + 2) (caps := [0]) (xs := ["points"]) hr (by rfl) ma TB rfl (genS rfl rfl (by decide +kernel) rfl rfl) ⟨⟨rfl, .inl rfl, rfl⟩, trivial⟩ (by decide +kernel) (pi_list (pv 1))
        (fun _ _ _ _ _ _ _ hr' => pcl DH GH hr' (pa_cons (pv 0) (pa_cons (pv 1) pa_nil))) (fun _ => rfl))), ?_⟩
    refine ⟨.ref l, rfl, l, rfl, ⟨_, hL⟩, ht.gen PT hP, fun H2 hT2 => ?_⟩
    have e2 := Ext.of_tabbed ht hP hT2
    refine gW_lst (xs := xs) (fun i H3 => Ext Ps H H3 ∧ inSome pts (fss.take i) = false) ⟨e2, rfl⟩ (fun i H3 e => e.1.sqL hL) (fun H3 e => ?_) fun i H3 x hx e => ?_
    · obtain ⟨e3, h2⟩ := e
      rw [Paired.length hp, List.take_length] at h2
      have := q _ e3
      rw [h2] at this
      exact this
    · obtain ⟨e3, h2⟩ := e
      obtain ⟨fc, hf, hI⟩ := paired_get hp hx
      refine ⟨x, rfl, .ref a, rfl, x, .ref a, fc, pts, rfl, e3.tupI hI, ⟨a, rfl, e3.sqT hA⟩, e3.tb, fun H4 e4 => ⟨_, rfl, fun hb => ⟨e3.trans e4, ?_⟩, fun hb => ?_⟩⟩
      · rw [List.take_add_one, hf]
        unfold inSome at h2 ⊢
        rw [List.any_append, h2]
        simpa using hb
      · have hb' : hasAll fc pts = true := by
          have z : ¬ hasAll fc pts = false := hb
          simpa using z
        have e5 : inSome pts fss = true := by
          unfold inSome
          rw [List.any_eq_true]
          exact ⟨fc, List.mem_of_getElem? hf, hb'⟩
        have hq := q _ (e3.trans e4)
        rw [e5] at hq
        rw [hb']
        exact hq
def spInSomeT (K : PySem.W.Frag) (Ps : Tbs) : Sp := fun vs H Q _ => ∃ (x : V) (l : Addr) (xs : List V) (pts : List Int) (fss : List (List Int)), vs = [x, .ref l] ∧ TupI K H x pts ∧ SqT K H l xs ∧ Paired (TupI K H) xs fss ∧ Tb Ps H ∧ ∀ H', Ext Ps H H' → Q (.bl (inSome pts fss)) H'
/-- over a tuple -/
theorem ok_inSomeT {f c fH cH PT : Addr} {fd fdH : FuncData} {k : Nat} (D : Def K mg "in_some" sInSome ["points", "faces"] f fd c) (DH : Def K mg "has_all" sHasAll ["face", "points"] fH fdH cH) (GH : FnOk P w K mg base CX0 (k + 2) fH fdH ["face", "points"] (spHasAll K Ps)) (TB : TabB base mg c PT) (hP : PT ∈ Ps) (ma : mg "any" = none) :
    FnOk P w K mg base CX0 (k + 4) f fd ["points", "faces"] (spInSomeT K Ps) := by
  refine D.ok (k := k + 3) scInSome (fun vs H Q E h => ?_) (fun A outer s H vs Q E hr h => ?_)
  · obtain ⟨x, l, xs, pts, fss, rfl, _⟩ := h
    rfl
  · obtain ⟨_, l, xs, pts, fss, rfl, ⟨a, rfl, hA⟩, hL, hp, ht, q⟩ := h
    refine ⟨_, pss_one (ps_ret (pe_anyG (k := k + 2) (caps := [0]) (xs := ["points"]) hr (by rfl) ma TB rfl (genS rfl rfl (by decide +kernel) rfl rfl) ⟨⟨rfl, .inl rfl, rfl⟩, trivial⟩ (by decide +kernel) (pi_tup (pv 1))
        (fun _ _ _ _ _ _ _ hr' => pcl DH GH hr' (pa_cons (pv 0) (pa_cons (pv 1) pa_nil))) (fun _ => rfl))), ?_⟩
    refine ⟨.ref l, rfl, l, rfl, ⟨_, hL⟩, ht.gen PT hP, fun H2 hT2 => ?_⟩
    have e2 := Ext.of_tabbed ht hP hT2
    refine gW_tup (xs := xs) (fun i H3 => Ext Ps H H3 ∧ inSome pts (fss.take i) = false) ⟨e2, rfl⟩ (fun i H3 e => e.1.sqT hL) (fun H3 e => ?_) fun i H3 x hx e => ?_
    · obtain ⟨e3, h2⟩ := e
      rw [Paired.length hp, List.take_length] at h2
      have := q _ e3
      rw [h2] at this
      exact this
    · obtain ⟨e3, h2⟩ := e
      obtain ⟨fc, hf, hI⟩ := paired_get hp hx
      refine ⟨x, rfl, .ref a, rfl, x, .ref a, fc, pts, rfl, e3.tupI hI, ⟨a, rfl, e3.sqT hA⟩, e3.tb, fun H4 e4 => ⟨_, rfl, fun hb => ⟨e3.trans e4, ?_⟩, fun hb => ?_⟩⟩
      · rw [List.take_add_one, hf]
        unfold inSome at h2 ⊢
        rw [List.any_append, h2]
        simpa using hb
      · have hb' : hasAll fc pts = true := by
          have z : ¬ hasAll fc pts = false := hb
          simpa using z
        have e5 : inSome pts fss = true := by
          unfold inSome
          rw [List.any_eq_true]
          exact ⟨fc, List.mem_of_getElem? hf, hb'⟩
        have hq := q _ (e3.trans e4)
        rw [e5] at hq
        rw [hb']
        exact hq
end
end Lf

set_option maxHeartbeats 1000000
namespace Lf
open PySem PySem.Spec PyProof.Rows L2 GxR GxA SrT
/-! ### a list that grows: what holds between two turns -/
structure Stb (K : PySem.W.Frag) (Ps : Tbs) {β : Type} (F : Hp → V → β → Prop) : Prop where
  ext : ∀ H H' x b, Ext Ps H H' → F H x b → F H' x b
  put : ∀ H D l l' x b, H D = some (.lst l) → F H x b → F (upd H D (.lst l')) x b
def FI : Hp → V → Int → Prop := fun _ x b => x = .int b
theorem stbI {K : PySem.W.Frag} {Ps : Tbs} : Stb K Ps FI := ⟨fun _ _ _ _ _ h => h, fun _ _ _ _ _ _ _ h => h⟩
theorem tupI_put {K : PySem.W.Frag} {H : Hp} {D : Addr} {l l' : List V} {x : V} {b : List Int} (hD : H D = some (.lst l)) (h : TupI K H x b) : TupI K (upd H D (.lst l')) x b := by
  obtain ⟨t, e, hs⟩ := h
  refine ⟨t, e, ?_⟩
  rcases hs with (h | ⟨o, h⟩) | h
  · exact .inl (.inl (by rw [upd_ne (ne_of h hD (by intro z; cases z))]; exact h))
  · exact .inl (.inr ⟨o, by rw [upd_ne (ne_of h hD (by intro z; cases z))]; exact h⟩)
  · exact .inr h
theorem stbT {K : PySem.W.Frag} {Ps : Tbs} : Stb K Ps (TupI K) := ⟨fun _ _ _ _ e h => e.tupI h, fun _ _ _ _ _ _ hD h => tupI_put hD h⟩
structure CP (Ps : Tbs) {β : Type} (F : Hp → V → β → Prop) (H0 : Hp) (D : Addr) (out : List β) (n : Nat) (H : Hp) : Prop where
  ext : Ext Ps H0 H
  at_ : ∃ ys, H D = some (.lst ys) ∧ Paired (F H) ys out ∧ ys.length ≤ n
section
variable {K : PySem.W.Frag} {Ps : Tbs} {β : Type} {F : Hp → V → β → Prop} {H0 H H' : Hp} {D : Addr} {out : List β} {n : Nat}
theorem CP.start (ht : Tb Ps H0) (hD : H0 D = none) : CP Ps F H0 D [] 0 (upd H0 D (.lst [])) := ⟨Ext.new ht hD, [], upd_same, .nil, Nat.le_refl _⟩
theorem CP.mono (h : CP Ps F H0 D out n H) {m : Nat} (hm : n ≤ m) : CP Ps F H0 D out m H := ⟨h.ext, let ⟨ys, a, b, c⟩ := h.at_; ⟨ys, a, b, Nat.le_trans c hm⟩⟩
theorem CP.skip (S : Stb K Ps F) (h : CP Ps F H0 D out n H) (e : Ext Ps H H') : CP Ps F H0 D out n H' := by
  obtain ⟨ys, h1, h2, h3⟩ := h.at_
  exact ⟨h.ext.trans e, ys, e.lst h1, L2.Paired.mapP h2 fun _ _ z => S.ext _ _ _ _ e z, h3⟩
theorem paired_snoc {α γ : Type} {G : α → γ → Prop} {a : α} {c : γ} : ∀ {xs : List α} {ys : List γ}, Paired G xs ys → G a c → Paired G (xs ++ [a]) (ys ++ [c])
  | _, _, .nil, h => .cons h .nil
  | _, _, .cons r t, h => .cons r (paired_snoc t h)
theorem CP.put (S : Stb K Ps F) (hD : H0 D = none) (hn : n ≤ 1000) {y : V} {z : β} (h : CP Ps F H0 D out n H) (hF : F H y z) :
    ∃ acc, H D = some (.lst acc) ∧ acc.length < sizeLine ∧ CP Ps F H0 D (out ++ [z]) (n + 1) (upd H D (.lst (acc ++ [y]))) := by
  obtain ⟨ys, h1, h2, h3⟩ := h.at_
  refine ⟨ys, h1, small1000 (Nat.le_trans h3 hn), ⟨h.ext.write hD h1 (fun q z => by cases z), ys ++ [y], upd_same, ?_, ?_⟩⟩
  · refine paired_snoc (L2.Paired.mapP h2 fun _ _ z => S.put _ _ _ _ _ _ h1 z) (S.put _ _ _ _ _ _ h1 hF)
  · rw [List.length_append]
    exact Nat.add_le_add_right h3 1
end
theorem paired_ints {H : Hp} : ∀ {ys : List V} {ns : List Int}, Paired (FI H) ys ns → ys = ns.map V.int
  | _, _, .nil => rfl
  | _, _, .cons r t => by
    rw [List.map_cons, ← paired_ints t, show _ = V.int _ from r]
theorem ints_paired {H : Hp} : ∀ (ns : List Int), Paired (FI H) (ns.map V.int) ns
  | [] => .nil
  | _ :: ns => .cons rfl (ints_paired ns)
theorem map_int {ns : List Int} {i : Nat} {x : V} (h : (ns.map V.int)[i]? = some x) : ∃ y, ns[i]? = some y ∧ x = .int y := by
  rw [List.getElem?_map] at h
  obtain ⟨y, hy, e⟩ := Option.map_eq_some_iff.mp h
  exact ⟨y, hy, e.symm⟩
theorem filt_take {α : Type} (p : α → Bool) {l : List α} {i : Nat} {y : α} (h : l[i]? = some y) : (l.take (i + 1)).filter p = (l.take i).filter p ++ (if p y = true then [y] else []) := by
  rw [List.take_add_one, h, List.filter_append]
  cases hp : p y <;> simp [hp]

abbrev sLess : Stmt := topS 24
abbrev sFacesAt : Stmt := topS 33
abbrev sBrOn : Stmt := topS 34
abbrev sLies : Stmt := topS 35
theorem scLess : FnScope ["face", "points", "point"] ["face", "points"] (defScope sLess) := ⟨rfl, rfl, rfl, by decide +kernel, rfl, by decide +kernel, by decide +kernel⟩
theorem scFacesAt : FnScope ["stack", "lot", "number"] ["stack", "lot"] (defScope sFacesAt) := ⟨rfl, rfl, rfl, by decide +kernel, rfl, by decide +kernel, by decide +kernel⟩
theorem scBrOn : FnScope ["laid", "face", "point"] ["laid", "face"] (defScope sBrOn) := ⟨rfl, rfl, rfl, by decide +kernel, rfl, by decide +kernel, by decide +kernel⟩
theorem scLies : FnScope ["laid", "face"] ["laid", "face"] (defScope sLies) := ⟨rfl, rfl, rfl, by decide +kernel, rfl, by decide +kernel, by decide +kernel⟩
section
variable {P : Program} {w : World} {K : PySem.W.Frag} {mg : Str → Option Value} {base : Heap} {Ps : Tbs}
/-! ### less -/
def lessL (fc pts : List Int) : List Int := fc.filter fun p => !decide (p ∈ pts)
def spLess (K : PySem.W.Frag) (Ps : Tbs) : Sp := fun vs H Q _ => ∃ (x y : V) (fc pts : List Int), vs = [x, y] ∧ TupI K H x fc ∧ TupI K H y pts ∧ fc.length ≤ 100 ∧ Tb Ps H ∧ ∀ v H', Ext Ps H H' → TupI K H' v (lessL fc pts) → Q v H'
theorem ok_less {f c : Addr} {fd : FuncData} {k : Nat} (D : Def K mg "less" sLess ["face", "points"] f fd c) (mt : mg "tuple" = none) : FnOk P w K mg base CX0 (k + 1) f fd ["face", "points"] (spLess K Ps) := by
  refine D.ok (k := k) scLess (fun vs H Q E h => ?_) (fun A outer s H vs Q E hr h => ?_)
  · obtain ⟨x, y, fc, pts, rfl, _⟩ := h
    rfl
  · obtain ⟨_, _, fc, pts, rfl, ⟨a, rfl, hA⟩, ⟨b, rfl, hB⟩, hl, ht, q⟩ := h
    refine ⟨_, pss_one (ps_ret (pe_callTy call_tuple_of (by rfl) mt (by decide +kernel) (pa_cons (pe_lc (own := [("point", 2)]) (g := gName 2) (by rfl) scLess.nd (pi_tup (pv 0)) (blkOk_by (N := ["face", "points", "point"]) (sc := defScope sLess) (by decide +kernel))
      (fun _ _ _ _ _ => pg_name (i := 2) scLess.nd rfl (Or.inl rfl)) (fun _ _ _ _ _ => pts_one (pt_cmpR (show OpR _ _ (rIn K true) from op_notIn_seq) (pv 2) (pv 1) (by with_unfolding_all rfl))) (fun _ _ _ _ _ => pv 2)) pa_nil))), ?_⟩
    refine ⟨.ref a, rfl, a, rfl, ⟨_, hA⟩, fun D0 hD => lc_tup (K := K) (a := a) (xs := fc.map V.int) (fun i H3 => CP Ps FI H D0 (lessL (fc.take i) pts) i H3) (CP.start ht hD) (fun i H3 _ p => p.ext.sqT hA) (fun i x H3 hx p => ?_) (fun H3 p => ?_)⟩
    · obtain ⟨y, hy, rfl⟩ := map_int hx
      have hi : i < fc.length := (List.getElem?_eq_some_iff.mp hy).1
      refine ⟨rfl, .int y, rfl, .ref b, rfl, b, _, rfl, .inr (p.ext.sqT hB), rfl, flat_ints pts, _, rfl, ?_⟩
      show if (!inV (.int y) (pts.map V.int)) = true then _ else _
      rw [inV_ints]
      have hft := filt_take (fun p => !decide (p ∈ pts)) hy
      refine ite2 (fun hc => ?_) (fun hc => ?_)
      · refine ⟨.int y, rfl, ?_⟩
        have r := CP.put (stbI (K := K)) hD (by omega) p (show FI H3 (.int y) y from rfl)
        rw [if_pos hc] at hft
        unfold lessL at r ⊢
        rw [hft]
        exact r
      · rw [if_neg hc, List.append_nil] at hft
        unfold lessL at p ⊢
        rw [hft]
        exact p.mono (Nat.le_succ i)
    · obtain ⟨ys, h1, h2, h3⟩ := p.at_
      rw [List.length_map, List.take_length] at h2
      refine ⟨D0, ys, rfl, .inl ⟨.inl (.inl h1), fun l hl => q (.ref l) _ (p.ext.trans (Ext.new p.ext.tb hl)) ⟨l, rfl, ?_⟩⟩⟩
      rw [← paired_ints h2]
      exact .inl (.inl upd_same)
end
end Lf

set_option maxHeartbeats 1000000
namespace Lf
open PySem PySem.Spec PyProof.Rows L2 GxR GxA SrT
section
variable {P : Program} {w : World} {K : PySem.W.Frag} {mg : Str → Option Value} {base : Heap} {Ps : Tbs}
/-! ### parts_in -/
def grow (l : List (List Int)) (p : Int) : List (List Int) := l ++ l.map (· ++ [p])
def subsL (fc : List Int) : List (List Int) := fc.foldl grow [[]]
theorem foldl_len : ∀ (fc : List Int) (l : List (List Int)), (fc.foldl grow l).length = l.length * 2 ^ fc.length
  | [], l => by simp
  | p :: fc, l => by
    rw [List.foldl_cons, foldl_len fc]
    unfold grow
    rw [List.length_append, List.length_map, List.length_cons, Nat.pow_succ, ← Nat.two_mul, Nat.mul_comm 2, Nat.mul_assoc, Nat.mul_comm 2]
theorem subs_take {fc : List Int} {i : Nat} {y : Int} (h : fc[i]? = some y) : subsL (fc.take (i + 1)) = grow (subsL (fc.take i)) y := by
  unfold subsL
  rw [List.take_add_one, h]
  show ((fc.take i) ++ [y]).foldl grow [[]] = _
  rw [List.foldl_append]
  rfl
theorem subs_len (fc : List Int) : (subsL fc).length = 2 ^ fc.length := by
  unfold subsL
  rw [foldl_len]
  simp
theorem subs_le {fc : List Int} (h : fc.length ≤ 4) (i : Nat) : (subsL (fc.take i)).length ≤ 16 := by
  rw [subs_len]
  have h1 : (fc.take i).length ≤ 4 := by
    rw [List.length_take]
    omega
  calc 2 ^ (fc.take i).length ≤ 2 ^ 4 := Nat.pow_le_pow_right (by omega) h1
    _ = 16 := rfl
theorem mem_fold : ∀ (fc : List Int) (L : List (List Int)) (g : List Int), g ∈ fc.foldl grow L ↔ ∃ a ∈ L, ∃ s : List Int, s.Sublist fc ∧ g = a ++ s
  | [], L, g => by
    constructor
    · intro h
      exact ⟨g, h, [], .slnil, by simp⟩
    · rintro ⟨a, ha, s, hs, rfl⟩
      rw [List.sublist_nil.mp hs, List.append_nil]
      exact ha
  | p :: fc, L, g => by
    rw [List.foldl_cons, mem_fold fc]
    unfold grow
    constructor
    · rintro ⟨a, ha, s, hs, rfl⟩
      rcases List.mem_append.mp ha with h | h
      · exact ⟨a, h, s, hs.cons p, rfl⟩
      · obtain ⟨b, hb, rfl⟩ := List.mem_map.mp h
        exact ⟨b, hb, p :: s, hs.cons_cons p, by simp⟩
    · rintro ⟨a, ha, s, hs, rfl⟩
      rcases List.sublist_cons_iff.mp hs with h | ⟨r, rfl, h⟩
      · exact ⟨a, List.mem_append_left _ ha, s, h, rfl⟩
      · exact ⟨a ++ [p], List.mem_append_right _ (List.mem_map.mpr ⟨a, ha, rfl⟩), r, h, by simp⟩
theorem mem_subs {fc g : List Int} : g ∈ subsL fc ↔ g.Sublist fc := by
  unfold subsL
  rw [mem_fold]
  constructor
  · rintro ⟨a, ha, s, hs, rfl⟩
    rw [List.mem_singleton.mp ha]
    exact hs
  · intro h
    exact ⟨[], List.mem_singleton.mpr rfl, g, h, rfl⟩
theorem yes_ {σ : L2.St} {H : Hp} {Q : Bool → Hp → Prop} (h : Q true H) : tYes σ H Q := h
def spParts (K : PySem.W.Frag) (Ps : Tbs) : Sp := fun vs H Q _ => ∃ (x : V) (fc : List Int), vs = [x] ∧ TupI K H x fc ∧ fc.length ≤ 4 ∧ Tb Ps H ∧ ∀ l ys H', Ext Ps H H' → H l = none → H' l = some (.lst ys) → Paired (TupI K H') ys (sortL (subsL fc)) → Q (.ref l) H'
/-- the same, the parts as new tuples of their own -/
def spPartsH (K : PySem.W.Frag) (Ps : Tbs) : Sp := fun vs H Q _ => ∃ (x : V) (fc : List Int), vs = [x] ∧ TupI K H x fc ∧ fc.length ≤ 4 ∧ Tb Ps H ∧ ∀ l ys H', Ext Ps H H' → H l = none → H' l = some (.lst ys) → Paired (TupH H') ys (sortL (subsL fc)) → Q (.ref l) H'
theorem own_ext {H H' : Hp} {x : V} (e : Ext Ps H H') (h : OwnT H x) : OwnT H' x := let ⟨t, zs, h1, h2⟩ := h; ⟨t, zs, h1, e.old _ _ h2 (fun q z => by cases z)⟩
theorem tupH_ext {H H' : Hp} {x : V} {ns : List Int} (e : Ext Ps H H') (h : TupH H x ns) : TupH H' x ns := let ⟨t, h1, h2⟩ := h; ⟨t, h1, e.old _ _ h2 (fun q z => by cases z)⟩
theorem own_all {H : Hp} : ∀ {xs : List V} {fss : List (List Int)}, Paired (TupH H) xs fss → ∀ x ∈ xs, OwnT H x
  | _, _, .nil, x, h => nomatch h
  | _, _, .cons r t, x, h => by
    rcases List.mem_cons.mp h with e | h
    · rw [e]
      exact r.own
    · exact own_all t x h
theorem paired_app {α γ : Type} {G : α → γ → Prop} : ∀ {xs us : List α} {ys ws : List γ}, Paired G xs ys → Paired G us ws → Paired G (xs ++ us) (ys ++ ws)
  | _, _, _, _, .nil, h => h
  | _, _, _, _, .cons r t, h => .cons r (paired_app t h)
theorem stbH {K : PySem.W.Frag} {Ps : Tbs} : Stb K Ps TupH := ⟨fun _ _ _ _ e h => tupH_ext e h, fun H D l l' x b hD h => let ⟨t, h1, h2⟩ := h; ⟨t, h1, by rw [upd_ne (ne_of h2 hD (by intro z; cases z))]; exact h2⟩⟩
end
end Lf

set_option maxHeartbeats 1000000
namespace Lf
open PySem PySem.Spec PyProof.Rows L2 GxR GxA SrT
/-- a list of tuples of ints -/
def LstT (K : PySem.W.Frag) (H : Hp) (v : V) (fss : List (List Int)) : Prop := ∃ (l : Addr) (xs : List V), v = .ref l ∧ SqL K H l xs ∧ Paired (TupI K H) xs fss
/-- a stack -/
def Stk (K : PySem.W.Frag) (H : Hp) (v : V) (n k : Int) (fss : List (List Int)) : Prop := ∃ (a fa : Addr) (xs : List V), v = .ref a ∧ SqT K H a [.int n, .int k, .ref fa] ∧ SqT K H fa xs ∧ Paired (TupI K H) xs fss
structure StkOk (n k : Int) (fss : List (List Int)) : Prop where
  n1 : 1 ≤ n
  n8 : n ≤ 8
  k0 : 0 ≤ k
  kn : k ≤ n
  k4 : k ≤ 4
  l1 : 1 ≤ fss.length
  l70 : fss.length ≤ 70
  len : ∀ f ∈ fss, (f.length : Int) = k
  ris : ∀ f ∈ fss, f.Pairwise (· < ·)
  bel : ∀ f ∈ fss, ∀ i ∈ f, 0 ≤ i ∧ i < n
  srt : fss.Pairwise fun x y => lex x y = true
structure LotOk (m : Nat) (ns : List Int) : Prop where
  bel : ∀ i ∈ ns, 0 ≤ i ∧ i < (m : Int)
  ris : ns.Pairwise (· < ·)
  len : ns.length ≤ 100
theorem StkOk.len4 {n k : Int} {fss : List (List Int)} (S : StkOk n k fss) : ∀ f ∈ fss, f.length ≤ 4 := fun f hf => by
  have h1 := S.len f hf
  have h2 := S.k4
  omega
def facesAt (fss : List (List Int)) (ns : List Int) : List (List Int) := ns.map fun i => fss.getD i.toNat []
section
variable {P : Program} {w : World} {K : PySem.W.Frag} {mg : Str → Option Value} {base : Heap} {Ps : Tbs} {H H' : Hp}
theorem Ext.lstT (e : Ext Ps H H') {v : V} {fss : List (List Int)} (h : LstT K H v fss) : LstT K H' v fss := let ⟨l, xs, h1, h2, h3⟩ := h; ⟨l, xs, h1, e.sqL h2, e.tups h3⟩
theorem Ext.stk (e : Ext Ps H H') {v : V} {n k : Int} {fss : List (List Int)} (h : Stk K H v n k fss) : Stk K H' v n k fss := let ⟨a, fa, xs, h1, h2, h3, h4⟩ := h; ⟨a, fa, xs, h1, e.sqT h2, e.sqT h3, e.tups h4⟩
theorem at2 {n k : Int} {fa : Addr} : atI [V.int n, .int k, .ref fa] 2 = some (.ref fa) := atI_nat (j := 2) rfl
/-- the item at an int place -/
theorem atI_int {xs : List V} {i : Int} {x : V} (h0 : 0 ≤ i) (h : xs[i.toNat]? = some x) : atI xs i = some x := by
  have e : i = (i.toNat : Int) := (Int.toNat_of_nonneg h0).symm
  rw [e]
  exact atI_nat h
/-! ### faces_at -/
def spFacesAt (K : PySem.W.Frag) (Ps : Tbs) : Sp := fun vs H Q _ => ∃ (x y : V) (n k : Int) (fss : List (List Int)) (ns : List Int), vs = [x, y] ∧ Stk K H x n k fss ∧ TupI K H y ns ∧ (∀ i ∈ ns, 0 ≤ i ∧ i < (fss.length : Int)) ∧ ns.length ≤ 100 ∧ Tb Ps H ∧
  ∀ v H', Ext Ps H H' → LstT K H' v (facesAt fss ns) → Q v H'
def spFacesAtF (K : PySem.W.Frag) (Ps : Tbs) : Sp := fun vs H Q _ => ∃ (x y : V) (n k : Int) (fss : List (List Int)) (ns : List Int), vs = [x, y] ∧ Stk K H x n k fss ∧ TupI K H y ns ∧ (∀ i ∈ ns, 0 ≤ i ∧ i < (fss.length : Int)) ∧ ns.length ≤ 100 ∧ Tb Ps H ∧
  ∀ (l : Addr) (ys : List V) (H' : Hp), Ext Ps H H' → H l = none → H' l = some (.lst ys) → Paired (TupI K H') ys (facesAt fss ns) → Q (.ref l) H'
theorem ok_facesAtF {f c : Addr} {fd : FuncData} {k : Nat} (D : Def K mg "faces_at" sFacesAt ["stack", "lot"] f fd c) : FnOk P w K mg base CX0 (k + 1) f fd ["stack", "lot"] (spFacesAtF K Ps) := by
  refine D.ok (k := k) scFacesAt (fun vs H Q E h => ?_) (fun A outer s H vs Q E hr h => ?_)
  · obtain ⟨x, y, n, kk, fss, ns, rfl, _⟩ := h
    rfl
  · obtain ⟨_, _, n, kk, fss, ns, rfl, ⟨a, fa, xs, rfl, h1, h2, h3⟩, ⟨b, rfl, hB⟩, hb, hl, ht, q⟩ := h
    refine ⟨_, pss_one (ps_ret (pe_lc (own := [("number", 2)]) (g := gName 2) (by rfl) scFacesAt.nd (pi_tup (pv 1)) (blkOk_by (N := ["stack", "lot", "number"]) (sc := defScope sFacesAt) (by decide +kernel))
      (fun _ _ _ _ _ => pg_name (i := 2) scFacesAt.nd rfl (Or.inl rfl)) (fun _ _ _ _ _ => pts_nil) (fun _ _ _ _ _ => pe_ix (show IxR _ (rIxT K) from ix_tup) (pe_ix (show IxR _ (rIxT K) from ix_tup) (pv 0) pe_int (fun _ _ => rfl)) (pv 2) (fun _ _ => rfl)))), ?_⟩
    refine ⟨.ref b, rfl, b, rfl, ⟨_, hB⟩, fun D0 hD => lc_tup (K := K) (a := b) (xs := ns.map V.int) (fun i H3 => CP Ps (TupI K) H D0 (facesAt fss (ns.take i)) i H3) (CP.start ht hD) (fun i H3 _ p => p.ext.sqT hB) (fun i x H3 hx p => ?_) (fun H3 p => ?_)⟩
    · obtain ⟨y, hy, rfl⟩ := map_int hx
      have hi : i < ns.length := (List.getElem?_eq_some_iff.mp hy).1
      obtain ⟨b0, b1⟩ := hb y (List.mem_of_getElem? hy)
      have hlt : y.toNat < fss.length := by omega
      obtain ⟨z, hz, hI⟩ := paired_get' h3 (List.getElem?_eq_getElem hlt)
      refine ⟨rfl, yes_ (iteT ?_)⟩
      refine ⟨.ref a, rfl, a, _, 2, .ref fa, rfl, rfl, p.ext.sqT h1, at2, .int y, rfl, fa, xs, y, z, rfl, rfl, p.ext.sqT h2, atI_int b0 hz, ?_⟩
      have r := CP.put (stbT (K := K)) hD (by omega) p (p.ext.tupI hI)
      unfold facesAt at r ⊢
      rw [List.take_add_one, hy, List.map_append]
      have eg : fss.getD y.toNat [] = fss[y.toNat] := by
        rw [List.getD_eq_getElem?_getD, List.getElem?_eq_getElem hlt]
        rfl
      rw [← eg] at r
      exact r
    · obtain ⟨ys, e1, e2, e3⟩ := p.at_
      rw [List.length_map, List.take_length] at e2
      exact q D0 ys H3 p.ext hD e1 e2
theorem ok_facesAt {f c : Addr} {fd : FuncData} {k : Nat} (D : Def K mg "faces_at" sFacesAt ["stack", "lot"] f fd c) : FnOk P w K mg base CX0 (k + 1) f fd ["stack", "lot"] (spFacesAt K Ps) :=
  (ok_facesAtF D).imp fun vs H Q E ⟨x, y, n, k, fss, ns, h1, h2, h3, h4, h5, h6, q⟩ => ⟨x, y, n, k, fss, ns, h1, h2, h3, h4, h5, h6, fun l ys H' e nl hl hp => q (.ref l) H' e ⟨l, ys, rfl, .inl (.inl hl), hp⟩⟩
/-! ### brought_on -/
def brOn (laid : List (List Int)) (fc : List Int) : List Int := fc.filter fun p => inSome (lessL fc [p]) laid
def spBrOn (K : PySem.W.Frag) (Ps : Tbs) : Sp := fun vs H Q _ => ∃ (x y : V) (laid : List (List Int)) (fc : List Int), vs = [x, y] ∧ LstT K H x laid ∧ TupI K H y fc ∧ fc.length ≤ 100 ∧ Tb Ps H ∧ ∀ v H', Ext Ps H H' → TupI K H' v (brOn laid fc) → Q v H'
theorem ok_brOn {f c fI cI fL cL : Addr} {fd fdI fdL : FuncData} {k : Nat} (D : Def K mg "brought_on" sBrOn ["laid", "face"] f fd c) (DI : Def K mg "in_some" sInSome ["points", "faces"] fI fdI cI) (GI : FnOk P w K mg base CX0 k fI fdI ["points", "faces"] (spInSome K Ps))
    (DL : Def K mg "less" sLess ["face", "points"] fL fdL cL) (GL : FnOk P w K mg base CX0 k fL fdL ["face", "points"] (spLess K Ps)) (mt : mg "tuple" = none) : FnOk P w K mg base CX0 (k + 1) f fd ["laid", "face"] (spBrOn K Ps) := by
  refine D.ok (k := k) scBrOn (fun vs H Q E h => ?_) (fun A outer s H vs Q E hr h => ?_)
  · obtain ⟨x, y, laid, fc, rfl, _⟩ := h
    rfl
  · obtain ⟨_, _, laid, fc, rfl, ⟨l, xs, rfl, h1, h2⟩, ⟨a, rfl, hA⟩, hl, ht, q⟩ := h
    refine ⟨_, pss_one (ps_ret (pe_callTy call_tuple_of (by rfl) mt (by decide +kernel) (pa_cons (pe_lc (own := [("point", 2)]) (g := gName 2) (by rfl) scBrOn.nd (pi_tup (pv 1)) (blkOk_by (N := ["laid", "face", "point"]) (sc := defScope sBrOn) (by decide +kernel))
      (fun _ _ _ _ _ => pg_name (i := 2) scBrOn.nd rfl (Or.inl rfl)) (fun _ _ _ _ _ => pts_one (pt_val (pcl DI GI hr (pa_cons (pcl DL GL hr (pa_cons (pv 1) (pa_cons (pe_tup (pa_cons (pv 2) pa_nil)) pa_nil))) (pa_cons (pv 0) pa_nil))))) (fun _ _ _ _ _ => pv 2)) pa_nil))), ?_⟩
    refine ⟨.ref a, rfl, a, rfl, ⟨_, hA⟩, fun D0 hD => lc_tup (K := K) (a := a) (xs := fc.map V.int) (fun i H3 => CP Ps FI H D0 ((fc.take i).filter fun p => inSome (lessL fc [p]) laid) i H3) (CP.start ht hD) (fun i H3 _ p => p.ext.sqT hA) (fun i x H3 hx p => ?_) (fun H3 p => ?_)⟩
    · obtain ⟨y, hy, rfl⟩ := map_int hx
      have hi : i < fc.length := (List.getElem?_eq_some_iff.mp hy).1
      refine ⟨rfl, .ref a, rfl, .int y, rfl, (by show 1 ≤ sizeLine; decide), fun t htp => ?_⟩
      have x4 := Ext.new (o := .tup [.int y]) p.ext.tb htp
      refine ⟨.ref a, .ref t, fc, [y], rfl, ⟨a, rfl, x4.sqT (p.ext.sqT hA)⟩, ⟨t, rfl, .inl (.inl upd_same)⟩, hl, x4.tb, fun v H5 x5 hv => ?_⟩
      have x35 := x4.trans x5
      refine ⟨.ref l, rfl, v, l, xs, _, laid, rfl, hv, x35.sqL (p.ext.sqL h1), x35.tups (p.ext.tups h2), x35.tb, fun H6 x6 => ⟨_, rfl, ?_⟩⟩
      have p6 := p.skip (stbI (K := K)) (x35.trans x6)
      have hft := filt_take (fun p => inSome (lessL fc [p]) laid) hy
      refine ite2 (fun hc => ?_) (fun hc => ?_)
      · refine ⟨.int y, rfl, ?_⟩
        have r := CP.put (stbI (K := K)) hD (by omega) p6 (show FI H6 (.int y) y from rfl)
        rw [if_pos hc] at hft
        rw [hft]
        exact r
      · rw [if_neg hc, List.append_nil] at hft
        rw [hft]
        exact p6.mono (Nat.le_succ i)
    · obtain ⟨ys, e1, e2, e3⟩ := p.at_
      rw [List.length_map, List.take_length] at e2
      refine ⟨D0, ys, rfl, .inl ⟨.inl (.inl e1), fun u hu => q (.ref u) _ (p.ext.trans (Ext.new p.ext.tb hu)) ⟨u, rfl, ?_⟩⟩⟩
      show SqT K _ u ((fc.filter fun p => inSome (lessL fc [p]) laid).map V.int)
      rw [← paired_ints e2]
      exact .inl (.inl upd_same)
/-! ### lies_on -/
def liesOn (laid : List (List Int)) (fc : List Int) : Bool := !inSome (brOn laid fc) laid
def spLies (K : PySem.W.Frag) (Ps : Tbs) : Sp := fun vs H Q _ => ∃ (x y : V) (laid : List (List Int)) (fc : List Int), vs = [x, y] ∧ LstT K H x laid ∧ TupI K H y fc ∧ fc.length ≤ 100 ∧ Tb Ps H ∧ ∀ H', Ext Ps H H' → Q (.bl (liesOn laid fc)) H'
theorem ok_lies {f c fI cI fB cB : Addr} {fd fdI fdB : FuncData} {k : Nat} (D : Def K mg "lies_on" sLies ["laid", "face"] f fd c) (DI : Def K mg "in_some" sInSome ["points", "faces"] fI fdI cI) (GI : FnOk P w K mg base CX0 k fI fdI ["points", "faces"] (spInSome K Ps))
    (DB : Def K mg "brought_on" sBrOn ["laid", "face"] fB fdB cB) (GB : FnOk P w K mg base CX0 k fB fdB ["laid", "face"] (spBrOn K Ps)) : FnOk P w K mg base CX0 (k + 1) f fd ["laid", "face"] (spLies K Ps) := by
  refine D.ok (k := k) scLies (fun vs H Q E h => ?_) (fun A outer s H vs Q E hr h => ?_)
  · obtain ⟨x, y, laid, fc, rfl, _⟩ := h
    rfl
  · obtain ⟨_, y, laid, fc, rfl, hL, hA, hl, ht, q⟩ := h
    obtain ⟨l, xs, rfl, h1, h2⟩ := id hL
    refine ⟨_, pss_one (ps_ret (pe_not (pcl DI GI hr (pa_cons (pcl DB GB hr (pa_cons (pv 0) (pa_cons (pv 1) pa_nil))) (pa_cons (pv 0) pa_nil))))), ?_⟩
    refine ⟨.ref l, rfl, y, rfl, .ref l, y, laid, fc, rfl, hL, hA, hl, ht, fun v H1 x1 hv => ?_⟩
    exact ⟨.ref l, rfl, v, l, xs, _, laid, rfl, hv, x1.sqL h1, x1.tups h2, x1.tb, fun H2 x2 => ⟨_, rfl, q _ (x1.trans x2)⟩⟩
end
end Lf

set_option maxHeartbeats 1000000
namespace Lf
open PySem PySem.Spec PyProof.Rows L2 GxR GxA SrT
/-- len of a list or a tuple -/
def rLenS (K : PySem.W.Frag) : List V → Hp → VK → Prop := fun xs H Q => ∃ p ys, xs = [.ref p] ∧ (SqL K H p ys ∨ SqT K H p ys) ∧ Q (.int ys.length) H
theorem call_lenS {X : Cx} {K : PySem.W.Frag} (e : X.K = K) : CallR X (.builtin "len") (rLenS K) := by
  subst e
  exact call_len_seq
abbrev sIsStack : Stmt := topS 29
abbrev sAreFaces : Stmt := topS 30
abbrev sNeedStack : Stmt := topS 31
theorem scIsStack : FnScope ["thing", "n", "k", "faces"] ["thing"] (defScope sIsStack) := ⟨rfl, rfl, rfl, by decide +kernel, rfl, by decide +kernel, by decide +kernel⟩
theorem scAreFaces : FnScope ["n", "k", "thing"] ["n", "k", "thing"] (defScope sAreFaces) := ⟨rfl, rfl, rfl, by decide +kernel, rfl, by decide +kernel, by decide +kernel⟩
theorem scNeedStack : FnScope ["stack"] ["stack"] (defScope sNeedStack) := ⟨rfl, rfl, rfl, by decide +kernel, rfl, by decide +kernel, by decide +kernel⟩
section
variable {P : Program} {w : World} {K : PySem.W.Frag} {mg : Str → Option Value} {base : Heap} {Ps : Tbs} {H H' : Hp}
/-! ### need_within -/
def spNeedWithin : Sp := fun vs H Q _ => ∃ i lo hi : Int, vs = [.int i, .int lo, .int hi] ∧ lo ≤ i ∧ i ≤ hi ∧ Q .non H
/-! ### are_faces -/
def spAreFaces (K : PySem.W.Frag) (Ps : Tbs) : Sp := fun vs H Q _ => ∃ (n k : Int) (fa : Addr) (xs : List V) (fss : List (List Int)), vs = [.int n, .int k, .ref fa] ∧ SqT K H fa xs ∧ Paired (TupI K H) xs fss ∧ StkOk n k fss ∧ Tb Ps H ∧ ∀ H', Ext Ps H H' → Q (.bl true) H'
theorem ok_areFaces {f c fR cR fS cS PT : Addr} {fd fdR fdS : FuncData} {k : Nat} {t70 : Tok} (D : Def K mg "are_faces" sAreFaces ["n", "k", "thing"] f fd c) (DR : Def K mg "is_rising" sRising ["thing", "many"] fR fdR cR) (GR : FnOk P w K mg base CX0 k fR fdR ["thing", "many"] (spRising K Ps))
    (DS : Def K mg "rises" sRises ["things"] fS fdS cS) (GS : FnOk P w K mg base CX0 (k + 1) fS fdS ["things"] (spRises K Ps)) (TB : TabB base mg c PT) (hP : PT ∈ Ps)
    (mi : mg "isinstance" = none) (mt : mg "tuple" = none) (ml : mg "len" = none) (ma : mg "all" = none) (m70 : mg "MOST_FACES" = some (.int 70 t70)) : FnOk P w K mg base CX0 (k + 2) f fd ["n", "k", "thing"] (spAreFaces K Ps) := by
  refine D.ok (k := k + 1) scAreFaces (fun vs H Q E h => ?_) (fun A outer s H vs Q E hr h => ?_)
  · obtain ⟨n, kk, fa, xs, fss, rfl, _⟩ := h
    rfl
  · obtain ⟨n, kk, fa, xs, fss, rfl, hF, hp, S, ht, q⟩ := h
    have hlen := Paired.length hp
    have l1 := S.l1
    have l70 := S.l70
    refine ⟨_, pss_cons (ps_if (PW.pt (pw_or (pt_not (pt_val (pe_callB call_isi (by rfl) mi (by decide +kernel) (pa_cons (pv 2) (pa_cons (pe_bltn (v := .ty "tuple") (by rfl) mt (by decide +kernel) rfl) pa_nil)))))
        (pw_or1 (pt_not (pt_chain op_le op_le pe_int (pe_callB call_len_seq (by rfl) ml PySem.boot_len (pa_cons (pv 2) pa_nil)) (pe_glob rfl m70 (v := .int 70) ⟨_, rfl⟩)))))) (pss_one (ps_ret pe_bl)) pss_nil)
      (pss_one (ps_ret (pe_and (pe_allG (k := k) (caps := [0, 1]) (xs := ["n", "k"]) hr (by rfl) ma TB rfl (genS rfl rfl (by decide +kernel) rfl rfl) ⟨⟨rfl, .inl rfl, rfl⟩, ⟨rfl, .inl rfl, rfl⟩, trivial⟩ (by decide +kernel) (pi_tup (pv 2))
        (fun _ _ _ _ _ _ _ hr' => pe_and (pcl DR GR hr' (pa_cons (pv 0) (pa_cons (pv 1) pa_nil))) (pe_one (pe_cmpR op_eq (pe_callB (call_lenS (K := K) rfl) (by rfl) ml PySem.boot_len (pa_cons (pv 0) pa_nil)) (pv 2) (nomark _)))) (fun _ => rfl))
        (pe_one (pcl DS GS hr (pa_cons (pv 2) pa_nil)))))), ?_⟩
    refine ⟨.ref fa, rfl, .ref fa, .ty "tuple", .type "tuple", .type "tuple", true, rfl, .ty _, ty_tup hF, kit_ty (by decide +kernel), true, rfl, iteF ?_⟩
    refine ⟨.ref fa, rfl, fa, xs, rfl, .inr hF, 1, (xs.length : Int), rfl, rfl, true, ?_, iteT ?_⟩
    · exact congrArg V.bl (decide_eq_true (by omega))
    refine ⟨(xs.length : Int), 70, rfl, rfl, true, ?_, iteF ?_⟩
    · exact congrArg V.bl (decide_eq_true (by omega))
    refine ⟨.ref fa, rfl, fa, rfl, ⟨_, hF⟩, ht.gen PT hP, fun H2 hT2 => ?_⟩
    have e2 := Ext.of_tabbed ht hP hT2
    refine gW_tup (xs := xs) (fun _ H3 => Ext Ps H H3) e2 (fun i H3 e => e.sqT hF) (fun H3 e => ⟨true, rfl, iteT ?_⟩) fun i H3 x hx e => ?_
    · exact ⟨.ref fa, rfl, fa, xs, rfl, e.sqT hF, .inr ⟨fss, e.tups hp, S.srt⟩, by omega, e.tb, fun H4 e4 => q _ (e.trans e4)⟩
    · obtain ⟨fc, hf, b, rfl, hI⟩ := paired_get hp hx
      have hm := List.mem_of_getElem? hf
      have h4 := S.len4 fc hm
      refine ⟨.ref b, rfl, .int n, rfl, b, fc, n, rfl, e.sqT hI, S.bel fc hm, S.ris fc hm, by omega, e.tb, fun H4 e4 => ⟨true, rfl, iteT ?_⟩⟩
      refine ⟨.ref b, rfl, b, _, rfl, .inr (e4.sqT (e.sqT hI)), .int kk, rfl, rfl, true, ?_, fun _ => e.trans e4, fun z => absurd rfl z⟩
      rw [List.length_map, S.len fc hm]
      exact congrArg V.bl (decide_eq_true rfl)
/-! ### is_stack -/
def spIsStack (K : PySem.W.Frag) (Ps : Tbs) : Sp := fun vs H Q _ => ∃ (x : V) (n k : Int) (fss : List (List Int)), vs = [x] ∧ Stk K H x n k fss ∧ StkOk n k fss ∧ Tb Ps H ∧ ∀ H', Ext Ps H H' → Q (.bl true) H'
theorem ok_isStack {f c fW cW fA cA : Addr} {fd fdW fdA : FuncData} {k : Nat} {t8 t4 : Tok} (D : Def K mg "is_stack" sIsStack ["thing"] f fd c) (DW : Def K mg "is_within" sWithin ["thing", "least", "most"] fW fdW cW) (GW : FnOk P w K mg base CX0 k fW fdW ["thing", "least", "most"] spWithin)
    (DA : Def K mg "are_faces" sAreFaces ["n", "k", "thing"] fA fdA cA) (GA : FnOk P w K mg base CX0 k fA fdA ["n", "k", "thing"] (spAreFaces K Ps))
    (mi : mg "isinstance" = none) (mt : mg "tuple" = none) (ml : mg "len" = none) (mm : mg "min" = none) (m8 : mg "MOST_POINTS" = some (.int 8 t8)) (m4 : mg "MOST_IN_FACE" = some (.int 4 t4)) : FnOk P w K mg base CX0 (k + 1) f fd ["thing"] (spIsStack K Ps) := by
  refine D.ok (k := k) scIsStack (fun vs H Q E h => ?_) (fun A outer s H vs Q E hr h => ?_)
  · obtain ⟨x, n, kk, fss, rfl, _⟩ := h
    rfl
  · obtain ⟨_, n, kk, fss, rfl, ⟨a, fa, xs, rfl, h1, h2, h3⟩, S, ht, q⟩ := h
    have n1 := S.n1
    have n8 := S.n8
    have k0 := S.k0
    have kn := S.kn
    have k4 := S.k4
    refine ⟨_, pss_cons (ps_if (PW.pt (pw_or (pt_not (pt_val (pe_callB call_isi (by rfl) mi (by decide +kernel) (pa_cons (pv 0) (pa_cons (pe_bltn (v := .ty "tuple") (by rfl) mt (by decide +kernel) rfl) pa_nil)))))
        (pw_or1 (pt_cmpR op_ne (pe_callB (call_lenS (K := K) rfl) (by rfl) ml PySem.boot_len (pa_cons (pv 0) pa_nil)) pe_int (nomark _))))) (pss_one (ps_ret pe_bl)) pss_nil)
      (pss_cons (ps_asg (pv 0) (pg_tup (by rfl) (pgs_cons (pg_name (i := 1) scIsStack.nd rfl (.inl rfl)) (pgs_cons (pg_name (i := 2) scIsStack.nd rfl (.inl rfl)) (pgs_cons (pg_name (i := 3) scIsStack.nd rfl (.inl rfl)) pgs_nil)))))
      (pss_cons (ps_if (PW.pt (pw_or (pt_not (pt_val (pcl DW GW hr (pa_cons (pv 1) (pa_cons pe_int (pa_cons (pe_glob rfl m8 (v := .int 8) ⟨_, rfl⟩) pa_nil))))))
        (pw_or1 (pt_not (pt_val (pcl DW GW hr (pa_cons (pv 2) (pa_cons pe_int (pa_cons (pe_callB (call_min2 rfl) (by rfl) mm (by decide +kernel) (pa_cons (pv 1) (pa_cons (pe_glob rfl m4 (v := .int 4) ⟨_, rfl⟩) pa_nil))) pa_nil))))))))) (pss_one (ps_ret pe_bl)) pss_nil)
      (pss_one (ps_ret (pcl DA GA hr (pa_cons (pv 1) (pa_cons (pv 2) (pa_cons (pv 3) pa_nil)))))))), ?_⟩
    refine ⟨.ref a, rfl, .ref a, .ty "tuple", .type "tuple", .type "tuple", true, rfl, .ty _, ty_tup h1, kit_ty (by decide +kernel), true, rfl, iteF ?_⟩
    refine ⟨.ref a, rfl, a, _, rfl, .inr h1, rfl, false, ?_, iteF ?_⟩
    · exact congrArg V.bl (by simp)
    refine ⟨.ref a, rfl, a, _, rfl, h1, rfl, _, _, rfl, _, _, rfl, _, _, rfl, rfl, ?_⟩
    refine ⟨.int n, rfl, n, 1, 8, rfl, n1, n8, true, rfl, iteF ?_⟩
    refine ⟨.int kk, rfl, .int n, rfl, n, 4, rfl, kk, 0, _, rfl, k0, ?_, true, rfl, iteF ?_⟩
    · split <;> omega
    exact ⟨.int n, rfl, .int kk, rfl, .ref fa, rfl, n, kk, fa, xs, fss, rfl, h2, h3, S, ht, q⟩
/-! ### need_stack, need_face, need_lot, need_face_beside -/
def spNeedStack (K : PySem.W.Frag) (Ps : Tbs) : Sp := fun vs H Q _ => ∃ (x : V) (n k : Int) (fss : List (List Int)), vs = [x] ∧ Stk K H x n k fss ∧ StkOk n k fss ∧ Tb Ps H ∧ ∀ H', Ext Ps H H' → Q .non H'
theorem ok_needStack {f c fS cS : Addr} {fd fdS : FuncData} {k : Nat} (D : Def K mg "need_stack" sNeedStack ["stack"] f fd c) (DS : Def K mg "is_stack" sIsStack ["thing"] fS fdS cS) (GS : FnOk P w K mg base CX0 k fS fdS ["thing"] (spIsStack K Ps)) : FnOk P w K mg base CX0 (k + 1) f fd ["stack"] (spNeedStack K Ps) := by
  refine D.ok (k := k) scNeedStack (fun vs H Q E h => ?_) (fun A outer s H vs Q E hr h => ?_)
  · obtain ⟨x, n, kk, fss, rfl, _⟩ := h
    rfl
  · obtain ⟨x, n, kk, fss, rfl, hS, S, ht, q⟩ := h
    refine ⟨_, pss_one (ps_if (pt_not (pt_val (pcl DS GS hr (pa_cons (pv 0) pa_nil)))) (pss_one ps_never) pss_nil), ?_⟩
    exact ⟨x, rfl, x, n, kk, fss, rfl, hS, S, ht, fun H1 e1 => ⟨true, rfl, iteF (q _ e1)⟩⟩
def spNeedFace (K : PySem.W.Frag) : Sp := fun vs H Q _ => ∃ (x : V) (n k i : Int) (fss : List (List Int)), vs = [x, .int i] ∧ Stk K H x n k fss ∧ 0 ≤ i ∧ i < (fss.length : Int) ∧ Q .non H
def spNeedLot (K : PySem.W.Frag) (Ps : Tbs) : Sp := fun vs H Q _ => ∃ (x y : V) (n k : Int) (fss : List (List Int)) (ns : List Int), vs = [x, y] ∧ Stk K H x n k fss ∧ TupI K H y ns ∧ LotOk fss.length ns ∧ Tb Ps H ∧ ∀ H', Ext Ps H H' → Q .non H'
def spBeside (K : PySem.W.Frag) : Sp := fun vs H Q _ => ∃ (x y : V) (n k i : Int) (fss : List (List Int)) (ns : List Int), vs = [x, y, .int i] ∧ Stk K H x n k fss ∧ TupI K H y ns ∧ 0 ≤ i ∧ i < (fss.length : Int) ∧ i ∉ ns ∧ Q .non H
end
end Lf

set_option maxHeartbeats 1000000
namespace Lf
open PySem PySem.Spec PyProof.Rows L2 GxR GxA SrT
section
variable {P : Program} {w : World} {K : PySem.W.Frag} {mg : Str → Option Value} {base : Heap} {Ps : Tbs} {H H' : Hp}
/-- a stack, a lot of it, the number of a face that is not in the lot -/
structure Ask (K : PySem.W.Frag) (Ps : Tbs) (H : Hp) (x y : V) (i : Int) (n k : Int) (fss : List (List Int)) (ns : List Int) : Prop where
  stk : Stk K H x n k fss
  ok : StkOk n k fss
  lot : TupI K H y ns
  lok : LotOk fss.length ns
  i0 : 0 ≤ i
  i1 : i < (fss.length : Int)
  out : i ∉ ns
  tb : Tb Ps H
theorem Ask.ext {x y : V} {i n k : Int} {fss : List (List Int)} {ns : List Int} (h : Ask K Ps H x y i n k fss ns) (e : Ext Ps H H') : Ask K Ps H' x y i n k fss ns := ⟨e.stk h.stk, h.ok, e.tupI h.lot, h.lok, h.i0, h.i1, h.out, e.tb⟩
/-- the face of the number -/
theorem Ask.face {x y : V} {i n k : Int} {fss : List (List Int)} {ns : List Int} (h : Ask K Ps H x y i n k fss ns) : ∃ fc, fss[i.toNat]? = some fc ∧ fc ∈ fss := by
  have hlt : i.toNat < fss.length := by
    have h0 := h.i0
    have h1 := h.i1
    omega
  exact ⟨_, List.getElem?_eq_getElem hlt, List.getElem_mem hlt⟩
/-! ### may_lay -/
def spMayLay (K : PySem.W.Frag) (Ps : Tbs) : Sp := fun vs H Q _ => ∃ (x y : V) (n k i : Int) (fss : List (List Int)) (ns fc : List Int), vs = [x, y, .int i] ∧ Ask K Ps H x y i n k fss ns ∧ fss[i.toNat]? = some fc ∧ ∀ H', Ext Ps H H' → Q (.bl (liesOn (facesAt fss ns) fc)) H'
variable {k : Nat} {f c fS cS fL cL fF cF fA cA fO cO : Addr} {fd fdS fdL fdF fdA fdO : FuncData}
/-! ### brought -/
def spBrought (K : PySem.W.Frag) (Ps : Tbs) : Sp := fun vs H Q _ => ∃ (x y : V) (n k i : Int) (fss : List (List Int)) (ns fc : List Int), vs = [x, y, .int i] ∧ Ask K Ps H x y i n k fss ns ∧ fss[i.toNat]? = some fc ∧ ∀ v H', Ext Ps H H' → TupI K H' v (brOn (facesAt fss ns) fc) → Q v H'
/-! ### new_parts -/
def newParts (laid : List (List Int)) (fc : List Int) : List (List Int) := (sortL (subsL fc)).filter fun p => !inSome p laid
def spNewParts (K : PySem.W.Frag) (Ps : Tbs) : Sp := fun vs H Q _ => ∃ (x y : V) (n k i : Int) (fss : List (List Int)) (ns fc : List Int), vs = [x, y, .int i] ∧ Ask K Ps H x y i n k fss ns ∧ fss[i.toNat]? = some fc ∧ ∀ v H', Ext Ps H H' → LstT K H' v (newParts (facesAt fss ns) fc) → Q v H'
/-- a list of new tuples of ints -/
def LstH (H : Hp) (v : V) (fss : List (List Int)) : Prop := ∃ (l : Addr) (xs : List V), v = .ref l ∧ H l = some (.lst xs) ∧ Paired (TupH H) xs fss
theorem LstH.lst {v : V} {fss : List (List Int)} (h : LstH H v fss) : LstT K H v fss := let ⟨l, xs, h1, h2, h3⟩ := h; ⟨l, xs, h1, .inl (.inl h2), L2.Paired.mapP h3 fun _ _ z => z.tup⟩
theorem lstH_ext {v : V} {fss : List (List Int)} (e : Ext Ps H H') (h : LstH H v fss) : LstH H' v fss := let ⟨l, xs, h1, h2, h3⟩ := h; ⟨l, xs, h1, e.lst h2, L2.Paired.mapP h3 fun _ _ z => tupH_ext e z⟩
def spNewPartsH (K : PySem.W.Frag) (Ps : Tbs) : Sp := fun vs H Q _ => ∃ (x y : V) (n k i : Int) (fss : List (List Int)) (ns fc : List Int), vs = [x, y, .int i] ∧ Ask K Ps H x y i n k fss ns ∧ fss[i.toNat]? = some fc ∧ ∀ v H', Ext Ps H H' → LstH H' v (newParts (facesAt fss ns) fc) → Q v H'
end
end Lf

set_option maxHeartbeats 1000000
namespace Lf
open PySem PySem.Spec PyProof.Rows L2 GxR GxA SrT
abbrev sCell : Stmt := topS 45
abbrev sPen : Stmt := topS 46
abbrev sDraw : Stmt := topS 47
theorem scCell : FnScope ["_law_script", "_law_k"] ["_law_script", "_law_k"] (defScope sCell) := ⟨rfl, rfl, rfl, by decide +kernel, rfl, by decide +kernel, by decide +kernel⟩
theorem scPen : FnScope ["_law_cell_here"] ["_law_cell_here"] (defScope sPen) := ⟨rfl, rfl, rfl, by decide +kernel, rfl, by decide +kernel, by decide +kernel⟩
theorem scDraw : FnScope ["_law_pen_here", "_law_many", "_law_found"] ["_law_pen_here", "_law_many"] (defScope sDraw) := ⟨rfl, rfl, rfl, by decide +kernel, rfl, by decide +kernel, by decide +kernel⟩
/-- a pen: two ints -/
def Pen (H : Hp) (a : Addr) : Prop := ∃ x f : Int, H a = some (.lst [.int x, .int f])
/-- all is kept but the pen, which stays one -/
structure Epn (Ps : Tbs) (a : Addr) (H H' : Hp) : Prop where
  tb : Tb Ps H'
  old : ∀ b o, b ≠ a → H b = some o → (∀ q, o ≠ .tbl q) → H' b = some o
  there : ∀ b o, H b = some o → ∃ o', H' b = some o'
  p0 : Pen H a
  pen : Pen H' a
section
variable {Ps : Tbs} {a : Addr} {H H1 H2 H' : Hp} {K : PySem.W.Frag}
theorem Ext.epn (e : Ext Ps H H') (p : Pen H a) : Epn Ps a H H' := ⟨e.tb, fun b o _ q n => e.old b o q n, e.there, p, let ⟨x, f, h⟩ := p; ⟨x, f, e.lst h⟩⟩
theorem Epn.trans (x : Epn Ps a H H1) (y : Epn Ps a H1 H2) : Epn Ps a H H2 := ⟨y.tb, fun b o n e q => y.old b o n (x.old b o n e q) q, fun b o e => let ⟨o', e'⟩ := x.there b o e; y.there b o' e', x.p0, y.pen⟩
theorem Epn.refl (h : Tb Ps H) (p : Pen H a) : Epn Ps a H H := (Ext.refl h).epn p
theorem Epn.draw (h : Tb Ps H) (p : Pen H a) {x f : Int} : Epn Ps a H (upd H a (.lst [.int x, .int f])) := by
  obtain ⟨x0, f0, e0⟩ := id p
  refine ⟨h.put e0 (fun q z => by cases z) (fun q z => by unfold LamX.CodeO at z; cases z), fun b o n e _ => by rw [upd_ne n]; exact e, fun b o e => ?_, p, x, f, upd_same⟩
  by_cases hb : b = a
  · rw [hb]
    exact ⟨_, upd_same⟩
  · rw [upd_ne hb]
    exact ⟨o, e⟩
theorem Epn.sqT (e : Epn Ps a H H') {t : Addr} {xs : List V} (h : SqT K H t xs) : SqT K H' t xs := by
  obtain ⟨x0, f0, e0⟩ := e.p0
  rcases h with (h | ⟨o, h⟩) | h
  · exact .inl (.inl (e.old _ _ (ne_of h e0 (by intro z; cases z)) h (fun q z => by cases z)))
  · exact .inl (.inr ⟨o, e.old _ _ (ne_of h e0 (by intro z; cases z)) h (fun q z => by cases z)⟩)
  · exact .inr h
theorem Epn.tupI (e : Epn Ps a H H') {x : V} {ns : List Int} (h : TupI K H x ns) : TupI K H' x ns := let ⟨t, e1, e2⟩ := h; ⟨t, e1, e.sqT e2⟩
theorem Epn.tups (e : Epn Ps a H H') {xs : List V} {fss : List (List Int)} (h : Paired (TupI K H) xs fss) : Paired (TupI K H') xs fss := L2.Paired.mapP h fun _ _ z => e.tupI z
theorem Epn.stk (e : Epn Ps a H H') {v : V} {n k : Int} {fss : List (List Int)} (h : Stk K H v n k fss) : Stk K H' v n k fss := let ⟨a, fa, xs, h1, h2, h3, h4⟩ := h; ⟨a, fa, xs, h1, e.sqT h2, e.sqT h3, e.tups h4⟩
theorem Epn.lst (e : Epn Ps a H H') {l : Addr} {xs : List V} (n : l ≠ a) (h : H l = some (.lst xs)) : H' l = some (.lst xs) := e.old _ _ n h (fun q z => by cases z)
theorem Epn.sqL (e : Epn Ps a H H') {l : Addr} {xs : List V} (n : l ≠ a) (h : SqL K H l xs) : SqL K H' l xs := by
  rcases h with (h | ⟨o, h⟩) | h
  · exact .inl (.inl (e.lst n h))
  · exact .inl (.inr ⟨o, e.old _ _ n h (fun q z => by cases z)⟩)
  · exact .inr h
theorem Epn.free (e : Epn Ps a H H') {l : Addr} (h : H' l = none) : H l = none := by
  cases q : H l with
  | none => rfl
  | some o =>
    obtain ⟨o', z⟩ := e.there l o q
    rw [z] at h
    cases h
/-- an object that is ours is written -/
theorem Epn.write {p : Addr} {o o' : HO} (e : Epn Ps a H H') (n : H p = none) (hp : H' p = some o) (ho : ∀ q, o ≠ .tbl q) (hx : ∀ q, o ≠ LamX.CodeO p q := by intro q z; unfold LamX.CodeO at z; cases z) : Epn Ps a H (upd H' p o') := by
  have np : a ≠ p := by
    obtain ⟨x0, f0, e0⟩ := e.p0
    exact ne_of_none e0 n
  refine ⟨e.tb.put hp ho hx, fun b u nb q nt => ?_, fun b u q => ?_, e.p0, ?_⟩
  · rw [upd_ne (ne_of_none q n)]
    exact e.old _ _ nb q nt
  · rw [upd_ne (ne_of_none q n)]
    exact e.there _ _ q
  · obtain ⟨x, f, h⟩ := e.pen
    exact ⟨x, f, by rw [upd_ne np]; exact h⟩
end
section
variable {P : Program} {w : World} {K : PySem.W.Frag} {mg : Str → Option Value} {base : Heap} {Ps : Tbs} {H H' : Hp} {k : Nat} {f c : Addr} {fd : FuncData}
/-! ### _law_cell -/
def spCell (K : PySem.W.Frag) : Sp := fun vs H Q _ => ∃ (a : Addr) (ns : List Int), vs = [.ref a, .int 0] ∧ SqL K H a (ns.map V.int) ∧ ∀ z : Int, Q (.int z) H
theorem ok_cell (D : Def K mg "_law_cell" sCell ["_law_script", "_law_k"] f fd c) (ml : mg "len" = none) : FnOk P w K mg base CX0 (k + 1) f fd ["_law_script", "_law_k"] (spCell K) := by
  refine D.ok (k := k) scCell (fun vs H Q E h => ?_) (fun A outer s H vs Q E hr h => ?_)
  · obtain ⟨a, ns, rfl, _⟩ := h
    rfl
  · obtain ⟨a, ns, rfl, hS, q⟩ := h
    refine ⟨_, pss_cons (ps_if (pt_cmpR op_lt (pv 1) (pe_callB (call_lenS (K := K) rfl) (by rfl) ml PySem.boot_len (pa_cons (pv 0) pa_nil)) (nomark _)) (pss_one (ps_ret (pe_ix ix_list (pv 0) (pv 1) (fun _ _ => rfl)))) pss_nil) (pss_one (ps_ret pe_int)), ?_⟩
    refine ⟨.int 0, rfl, .ref a, rfl, a, _, rfl, .inl hS, 0, _, rfl, rfl, _, rfl, ite2 (fun e => ?_) (fun e => ?_)⟩
    · have e' : (0 : Int) < ((ns.map V.int).length : Int) := of_decide_eq_true e
      rw [List.length_map] at e'
      have h0 : 0 < ns.length := by omega
      exact ⟨.ref a, rfl, .int 0, rfl, a, _, 0, .int ns[0], rfl, rfl, hS, atI_nat (j := 0) (by rw [List.getElem?_map, List.getElem?_eq_getElem h0]; rfl), q _⟩
    · exact q 0
/-! ### _law_pen -/
def spPen (Ps : Tbs) : Sp := fun vs H Q _ => ∃ z : Int, vs = [.int z] ∧ Tb Ps H ∧ ∀ a H', Ext Ps H H' → H a = none → Pen H' a → Q (.ref a) H'
theorem ok_pen (D : Def K mg "_law_pen" sPen ["_law_cell_here"] f fd c) (mn : mg "int" = none) : FnOk P w K mg base CX0 (k + 1) f fd ["_law_cell_here"] (spPen Ps) := by
  refine D.ok (k := k) scPen (fun vs H Q E h => ?_) (fun A outer s H vs Q E hr h => ?_)
  · obtain ⟨z, rfl, _⟩ := h
    rfl
  · obtain ⟨z, rfl, ht, q⟩ := h
    refine ⟨_, pss_one (ps_ret (pe_lst (pa_cons (pv 0) (pa_cons (pe_callTy call_int1 (by rfl) mn (by decide +kernel) (pa_cons (pe_cmpR op_ge (pv 0) (pe_op op_pow pe_int pe_int) (nomark _)) pa_nil)) pa_nil)))), ?_⟩
    refine ⟨.int z, rfl, .int z, rfl, 10, 18, rfl, rfl, ⟨by decide, by decide, by decide⟩, z, _, rfl, rfl, .inr ⟨_, rfl, (by show 2 ≤ sizeLine; decide), fun l hl => ?_⟩⟩
    exact q l _ (Ext.new ht hl) hl ⟨_, _, upd_same⟩
/-! ### _law_draw -/
def spDraw : Sp := fun vs H Q _ => ∃ (a : Addr) (m : Int), vs = [.ref a, .int m] ∧ Pen H a ∧ 1 ≤ m ∧ m ≤ 1000000000000000000000 ∧ ∀ x f r : Int, 0 ≤ r → r < m → Q (.int r) (upd H a (.lst [.int x, .int f]))
theorem ok_draw (D : Def K mg "_law_draw" sDraw ["_law_pen_here", "_law_many"] f fd c) : FnOk P w K mg base CX0 (k + 1) f fd ["_law_pen_here", "_law_many"] spDraw := by
  refine D.ok (k := k) scDraw (fun vs H Q E h => ?_) (fun A outer s H vs Q E hr h => ?_)
  · obtain ⟨a, m, rfl, _⟩ := h
    rfl
  · obtain ⟨a, m, rfl, ⟨x, fl, hA⟩, m1, m2, q⟩ := h
    have s0 : SqL K H a [.int x, .int fl] := .inl (.inl hA)
    have g0 : ∀ {y z : Int}, atI [V.int y, V.int z] 0 = some (.int y) := atI_nat (j := 0) rfl
    have g1 : ∀ {y z : Int}, atI [V.int y, V.int z] 1 = some (.int z) := atI_nat (j := 1) rfl
    refine ⟨_, pss_cons (ps_if (pt_cmpR op_eq (pe_ix ix_list (pv 0) pe_int (fun _ _ => rfl)) pe_int (nomark _))
        (pss_cons (ps_set (i := 2) scDraw.nd rfl (.inl rfl) (pe_op op_mod (pe_ix ix_list (pv 0) pe_int (fun _ _ => rfl)) (pv 1)))
        (pss_cons (ps_asg (pe_op op_fdivW (pe_ix ix_list (pv 0) pe_int (fun _ _ => rfl)) (pv 1)) (pg_sub (pv 0) pe_int set_list)) (pss_one (ps_ret (pv 2))))) pss_nil)
      (pss_cons (ps_asg (pe_op op_mod (pe_op op_add (pe_op op_mul (pe_op op_mod (pe_ix ix_list (pv 0) pe_int (fun _ _ => rfl)) pe_int) pe_int) pe_int) pe_int) (pg_sub (pv 0) pe_int set_list))
      (pss_one (ps_ret (pe_op op_mod (pe_op op_fdiv (pe_op op_mod (pe_op op_add (pe_op op_mul (pe_ix ix_list (pv 0) pe_int (fun _ _ => rfl)) (pe_ix ix_list (pv 0) pe_int (fun _ _ => rfl))) (pe_op op_mul pe_int (pe_ix ix_list (pv 0) pe_int (fun _ _ => rfl)))) pe_int) pe_int) (pv 1))))), ?_⟩
    refine ⟨.ref a, rfl, a, _, 1, .int fl, rfl, rfl, s0, g1, rfl, _, rfl, ite2 (fun e => ?_) (fun e => ?_)⟩
    · refine ⟨.ref a, rfl, a, _, 0, .int x, rfl, rfl, s0, g0, .int m, rfl, x, m, rfl, rfl, by omega, ?_⟩
      refine ⟨.ref a, rfl, a, _, 0, .int x, rfl, rfl, s0, g0, .int m, rfl, x, m, rfl, rfl, ⟨by omega, Nat.lt_of_lt_of_le ((Nat.log2_lt (show m.natAbs ≠ 0 by omega)).mpr (show m.natAbs < 2 ^ 70 by omega)) (by decide)⟩, .ref a, rfl, a, _, 0, 0, rfl, rfl, hA, rfl, ?_⟩
      exact ⟨.int (x % m), rfl, q _ _ _ (Int.emod_nonneg _ (by omega)) (Int.emod_lt_of_pos _ (by omega))⟩
    · have b0 := Int.emod_nonneg x (show (2147483629 : Int) ≠ 0 by decide)
      have b1 := Int.emod_lt_of_pos x (show (0 : Int) < 2147483629 by decide)
      refine ⟨.ref a, rfl, a, _, 0, .int x, rfl, rfl, s0, g0, x, 2147483629, rfl, rfl, (by show (0 : Int) < 2147483629; decide), x % 2147483629, 48271, rfl, rfl, .inr ⟨by decide, by decide⟩, _, 11, rfl, rfl, _, 2147483629, rfl, rfl, (by show (0 : Int) < 2147483629; decide), .ref a, rfl, a, _, 0, 0, rfl, rfl, hA, rfl, ?_⟩
      have c0 := Int.emod_nonneg (x % 2147483629 * 48271 + 11) (show (2147483629 : Int) ≠ 0 by decide)
      have c1 := Int.emod_lt_of_pos (x % 2147483629 * 48271 + 11) (show (0 : Int) < 2147483629 by decide)
      have s1 : SqL K (upd H a (.lst [.int ((x % 2147483629 * 48271 + 11) % 2147483629), .int fl])) a [.int ((x % 2147483629 * 48271 + 11) % 2147483629), .int fl] := .inl (.inl upd_same)
      refine ⟨.ref a, rfl, a, _, 0, .int ((x % 2147483629 * 48271 + 11) % 2147483629), rfl, rfl, s1, g0, .ref a, rfl, a, _, 0, .int ((x % 2147483629 * 48271 + 11) % 2147483629), rfl, rfl, s1, g0, ((x % 2147483629 * 48271 + 11) % 2147483629), ((x % 2147483629 * 48271 + 11) % 2147483629), rfl, rfl, .inl ⟨by omega, by omega⟩, .ref a, rfl, a, _, 0, .int ((x % 2147483629 * 48271 + 11) % 2147483629), rfl, rfl, s1, g0, 40692, ((x % 2147483629 * 48271 + 11) % 2147483629), rfl, rfl, .inl ⟨by decide, by decide⟩, _, _, rfl, rfl,
        _, 2147483647, rfl, rfl, (by show (0 : Int) < 2147483647; decide), _, 8, rfl, rfl, ⟨by decide, by decide⟩, .int m, rfl, _, m, rfl, rfl, (by show (0 : Int) < m; omega), ?_⟩
      exact q _ _ _ (Int.emod_nonneg _ (by omega)) (Int.emod_lt_of_pos _ (by omega))
end
end Lf

set_option maxHeartbeats 1000000
namespace Lf
open PySem PySem.Spec PyProof.Rows L2 GxR GxA SrT
/-! ### data, compared -/
abbrev iD (ns : List Int) : List PyData := ns.map PyData.int
abbrev tD (ns : List Int) : PyData := .tuple (iD ns)
theorem lay_ints : ∀ ns : List Int, PyData.canLayAll0 (iD ns) = true
  | [] => by simp [PyData.canLayAll0]
  | n :: ns => by
    have := lay_ints ns
    simp [PyData.canLayAll0, PyData.canLay0, this]
theorem dep_ints : ∀ ns : List Int, PyData.depthAll (iD ns) = 0
  | [] => by simp [PyData.depthAll]
  | n :: ns => by
    have := dep_ints ns
    simp [PyData.depthAll, PyData.depth, this]
theorem lay_tups : ∀ fs : List (List Int), PyData.canLayAll0 (fs.map tD) = true
  | [] => by simp [PyData.canLayAll0]
  | n :: ns => by
    have := lay_tups ns
    simp [PyData.canLayAll0, PyData.canLay0, this, lay_ints]
theorem dep_tups : ∀ fs : List (List Int), PyData.depthAll (fs.map tD) ≤ 1
  | [] => by simp [PyData.depthAll]
  | n :: ns => by
    have := dep_tups ns
    simp [PyData.depthAll, PyData.depth, this, dep_ints]
theorem shp_list (ns : List Int) : SeqAt.shaped (.list (iD ns)) = true := by
  unfold SeqAt.shaped
  simp [PyData.canLay0, PyData.depth, lay_ints, dep_ints]
theorem shp_tup (ns : List Int) : SeqAt.shaped (tD ns) = true := by
  unfold SeqAt.shaped
  simp [PyData.canLay0, PyData.depth, lay_ints, dep_ints]
theorem shp_tups (fs : List (List Int)) : SeqAt.shaped (.list (fs.map tD)) = true := by
  unfold SeqAt.shaped
  have h1 := dep_tups fs
  have h2 : PyData.canLay0 (.list (fs.map tD)) = true := by
    rw [PyData.canLay0]
    exact lay_tups fs
  have h3 : PyData.depth (.list (fs.map tD)) = PyData.depthAll (fs.map tD) + 1 := by rw [PyData.depth]
  rw [h2, h3, Bool.true_and]
  exact decide_eq_true (by omega)
theorem eqv_ints : ∀ ns ms : List Int, PyData.eqvAll (iD ns) (iD ms) = decide (ns = ms)
  | [], [] => by simp [PyData.eqvAll]
  | [], m :: ms => by simp [PyData.eqvAll]
  | n :: ns, [] => by simp [PyData.eqvAll]
  | n :: ns, m :: ms => by
    have := eqv_ints ns ms
    simp only [List.map_cons, PyData.eqvAll, PyData.eqv, this]
    by_cases h : n = m
    · subst h
      simp
    · simp [h]
theorem eqv_tups : ∀ fs gs : List (List Int), PyData.eqvAll (fs.map tD) (gs.map tD) = decide (fs = gs)
  | [], [] => by simp [PyData.eqvAll]
  | [], m :: ms => by simp [PyData.eqvAll]
  | n :: ns, [] => by simp [PyData.eqvAll]
  | n :: ns, m :: ms => by
    have := eqv_tups ns ms
    simp only [List.map_cons, PyData.eqvAll, PyData.eqv, this, eqv_ints]
    by_cases h : n = m
    · subst h
      simp
    · simp [h]
section
variable {K : PySem.W.Frag} {H : Hp}
theorem dp_ints : ∀ ns : List Int, DpAll K H (ns.map V.int) (iD ns)
  | [] => .nil
  | n :: ns => .cons (.int n) (dp_ints ns)
theorem dp_tup {x : V} {ns : List Int} (h : TupI K H x ns) : Dp K H x (tD ns) := by
  obtain ⟨t, rfl, hs⟩ := h
  exact .tup hs (dp_ints ns)
theorem dp_tups : ∀ {xs : List V} {fs : List (List Int)}, Paired (TupI K H) xs fs → DpAll K H xs (fs.map tD)
  | _, _, .nil => .nil
  | _, _, .cons r t => .cons (dp_tup r) (dp_tups t)
theorem dp_lst {x : V} {fs : List (List Int)} (h : LstT K H x fs) : Dp K H x (.list (fs.map tD)) := by
  obtain ⟨l, xs, rfl, h1, h2⟩ := h
  exact .lst h1 (dp_tups h2)
end
/-! ### all faces: the mathematics -/
def growK (k : Nat) (l : List (List Int)) (p : Int) : List (List Int) := l ++ (l.filter fun g => decide (g.length < k)).map (· ++ [p])
def allK : Nat → Nat → List (List Int)
  | 0, _ => [[]]
  | n + 1, k => growK k (allK n k) n
def allF (n k : Nat) : List (List Int) := sortL ((allK n k).filter fun g => decide (g.length = k))
theorem allK_len : ∀ n k, (allK n k).length ≤ 2 ^ n
  | 0, _ => by simp [allK]
  | n + 1, k => by
    have h := allK_len n k
    show (growK k (allK n k) n).length ≤ _
    unfold growK
    rw [List.length_append, List.length_map, Nat.pow_succ]
    have := List.length_filter_le (fun g : List Int => decide (g.length < k)) (allK n k)
    omega
/-- rising, of points below n -/
def RisB (n : Nat) (g : List Int) : Prop := g.Pairwise (· < ·) ∧ ∀ i ∈ g, 0 ≤ i ∧ i < (n : Int)
theorem mem_allK : ∀ (n k : Nat) (g : List Int), g ∈ allK n k ↔ RisB n g ∧ g.length ≤ k
  | 0, k, g => by
    show g ∈ [[]] ↔ _
    rw [List.mem_singleton]
    constructor
    · rintro rfl
      exact ⟨⟨.nil, fun i hi => absurd hi (by simp)⟩, Nat.zero_le _⟩
    · rintro ⟨⟨_, h⟩, _⟩
      cases g with
      | nil => rfl
      | cons x r =>
        have := h x List.mem_cons_self
        omega
  | n + 1, k, g => by
    have ih := mem_allK n k
    show g ∈ growK k (allK n k) n ↔ _
    unfold growK
    rw [List.mem_append, List.mem_map]
    constructor
    · rintro (h | ⟨h, hm, rfl⟩)
      · obtain ⟨⟨h1, h2⟩, h3⟩ := (ih g).mp h
        exact ⟨⟨h1, fun i hi => let q := h2 i hi; ⟨q.1, by omega⟩⟩, h3⟩
      · obtain ⟨hm1, hm2⟩ := List.mem_filter.mp hm
        obtain ⟨⟨h1, h2⟩, h3⟩ := (ih h).mp hm1
        have h4 := of_decide_eq_true hm2
        refine ⟨⟨List.pairwise_append.mpr ⟨h1, List.pairwise_singleton _ _, fun a ha b hb => ?_⟩, fun i hi => ?_⟩, ?_⟩
        · rw [List.mem_singleton.mp hb]
          exact (h2 a ha).2
        · rcases List.mem_append.mp hi with q | q
          · have := h2 i q
            omega
          · rw [List.mem_singleton.mp q]
            omega
        · rw [List.length_append, List.length_singleton]
          omega
    · rintro ⟨⟨h1, h2⟩, h3⟩
      rcases List.eq_nil_or_concat g with rfl | ⟨h, z, rfl⟩
      · exact .inl ((ih []).mpr ⟨⟨.nil, fun i hi => absurd hi (by simp)⟩, Nat.zero_le _⟩)
      · rw [List.concat_eq_append] at *
        obtain ⟨p1, p2, p3⟩ := List.pairwise_append.mp h1
        have hz := h2 z (List.mem_append_right _ (List.mem_singleton.mpr rfl))
        have hb : ∀ i ∈ h, 0 ≤ i ∧ i < z := fun i hi => ⟨(h2 i (List.mem_append_left _ hi)).1, p3 i hi z (List.mem_singleton.mpr rfl)⟩
        rw [List.length_append, List.length_singleton] at h3
        by_cases e : z = n
        · subst e
          refine .inr ⟨h, List.mem_filter.mpr ⟨(ih h).mpr ⟨⟨p1, hb⟩, by omega⟩, decide_eq_true (by omega)⟩, rfl⟩
        · refine .inl ((ih _).mpr ⟨⟨h1, fun i hi => ?_⟩, by rw [List.length_append, List.length_singleton]; exact h3⟩)
          have hi2 := h2 i hi
          rcases List.mem_append.mp hi with q | q
          · have := hb i q
            omega
          · rw [List.mem_singleton.mp q]
            omega
theorem nodup_allK : ∀ n k, (allK n k).Nodup
  | 0, _ => by
    show ([[]] : List (List Int)).Nodup
    simp
  | n + 1, k => by
    have ih := nodup_allK n k
    show (growK k (allK n k) n).Nodup
    unfold growK
    refine List.nodup_append.mpr ⟨ih, ?_, fun a ha b hb e => ?_⟩
    · refine List.Pairwise.map _ (fun a b hab e => ?_) (ih.filter _)
      exact hab (List.append_cancel_right e)
    · obtain ⟨h, _, rfl⟩ := List.mem_map.mp hb
      have := ((mem_allK n k a).mp ha).1.2 n (by rw [e]; exact List.mem_append_right _ (List.mem_singleton.mpr rfl))
      omega
theorem mem_allF {n k : Nat} {g : List Int} : g ∈ allF n k ↔ RisB n g ∧ g.length = k := by
  unfold allF
  rw [(sortL_perm _).mem_iff, List.mem_filter, mem_allK, decide_eq_true_eq]
  constructor
  · rintro ⟨⟨h, _⟩, h2⟩
    exact ⟨h, h2⟩
  · rintro ⟨h, h2⟩
    exact ⟨⟨h, by omega⟩, h2⟩
theorem nodup_allF (n k : Nat) : (allF n k).Nodup := by
  unfold allF
  exact (sortL_perm _).nodup_iff.mpr ((nodup_allK n k).filter _)
theorem allF_len (n k : Nat) : (allF n k).length ≤ 2 ^ n := by
  unfold allF
  rw [(sortL_perm _).length_eq]
  exact Nat.le_trans (List.length_filter_le _ _) (allK_len n k)
theorem allF_ne {n k : Nat} (h : k ≤ n) : 0 < (allF n k).length := by
  have hm : (List.range k).map (fun i : Nat => (i : Int)) ∈ allF n k := by
    refine mem_allF.mpr ⟨⟨?_, fun i hi => ?_⟩, by simp⟩
    · refine List.Pairwise.map _ (fun a b hab => ?_) List.pairwise_lt_range
      omega
    · obtain ⟨j, hj, rfl⟩ := List.mem_map.mp hi
      have := List.mem_range.mp hj
      omega
  exact List.length_pos_of_mem hm
section
variable {P : Program} {w : World} {K : PySem.W.Frag} {mg : Str → Option Value} {base : Heap} {Ps : Tbs} {H H' : Hp} {k : Nat} {f c : Addr} {fd : FuncData}
def spAll (K : PySem.W.Frag) (Ps : Tbs) : Sp := fun vs H Q _ => ∃ n kk : Nat, vs = [.int n, .int kk] ∧ n ≤ 8 ∧ kk ≤ 8 ∧ Tb Ps H ∧ ∀ l ys H', Ext Ps H H' → H l = none → H' l = some (.lst ys) → Paired (TupI K H') ys (allF n kk) → Q (.ref l) H'
theorem fm_take {α β : Type} (p : α → Bool) (g : α → β) {l : List α} {i : Nat} {y : α} (h : l[i]? = some y) : ((l.take (i + 1)).filter p).map g = ((l.take i).filter p).map g ++ (if p y = true then [g y] else []) := by
  rw [filt_take p h, List.map_append]
  cases hp : p y <;> simp
end
end Lf

set_option maxHeartbeats 1000000
namespace Lf
open PySem PySem.Spec PyProof.Rows L2 GxR GxA SrT
abbrev sCommon : Stmt := topS 54
theorem scCommon : FnScope ["_law_one", "_law_other", "_law_point"] ["_law_one", "_law_other"] (defScope sCommon) := ⟨rfl, rfl, rfl, by decide +kernel, rfl, by decide +kernel, by decide +kernel⟩
/-- a list or a tuple of ints -/
def SeqI (K : PySem.W.Frag) (H : Hp) (x : V) (ns : List Int) : Prop := ∃ a, x = .ref a ∧ (SqL K H a (ns.map V.int) ∨ SqT K H a (ns.map V.int))
/-- a list of ints -/
def LI (K : PySem.W.Frag) (H : Hp) (x : V) (ns : List Int) : Prop := ∃ a, x = .ref a ∧ SqL K H a (ns.map V.int)
section
variable {P : Program} {w : World} {K : PySem.W.Frag} {mg : Str → Option Value} {base : Heap} {Ps : Tbs} {H H' : Hp} {k : Nat} {f c : Addr} {fd : FuncData}
theorem Ext.seqI (e : Ext Ps H H') {x : V} {ns : List Int} (h : SeqI K H x ns) : SeqI K H' x ns := by
  obtain ⟨a, rfl, h⟩ := h
  exact ⟨a, rfl, h.elim (fun z => .inl (e.sqL z)) fun z => .inr (e.sqT z)⟩
theorem Ext.li (e : Ext Ps H H') {x : V} {ns : List Int} (h : LI K H x ns) : LI K H' x ns := let ⟨a, h1, h2⟩ := h; ⟨a, h1, e.sqL h2⟩
theorem TupI.seq {x : V} {ns : List Int} (h : TupI K H x ns) : SeqI K H x ns := let ⟨a, h1, h2⟩ := h; ⟨a, h1, .inr h2⟩
theorem LI.seq {x : V} {ns : List Int} (h : LI K H x ns) : SeqI K H x ns := let ⟨a, h1, h2⟩ := h; ⟨a, h1, .inl h2⟩
theorem hasAll_iff (fc pts : List Int) : hasAll fc pts = decide ((pts.filter fun p => !decide (p ∈ fc)) = []) := by
  unfold hasAll
  rw [Bool.eq_iff_iff, List.all_eq_true, decide_eq_true_eq, List.filter_eq_nil_iff]
  constructor
  · intro h a ha
    simpa using h a ha
  · intro h a ha
    simpa using h a ha
/-! ### _law_within -/
def spWithinL (K : PySem.W.Frag) (Ps : Tbs) : Sp := fun vs H Q _ => ∃ (x y : V) (pts fc : List Int), vs = [x, y] ∧ SeqI K H x pts ∧ SeqI K H y fc ∧ pts.length ≤ 100 ∧ Tb Ps H ∧ ∀ H', Ext Ps H H' → Q (.bl (hasAll fc pts)) H'
/-! ### _law_common -/
def spCommon (K : PySem.W.Frag) (Ps : Tbs) : Sp := fun vs H Q _ => ∃ (x y : V) (pts fc : List Int), vs = [x, y] ∧ TupI K H x pts ∧ TupI K H y fc ∧ pts.length ≤ 100 ∧ Tb Ps H ∧ ∀ (l : Addr) (ns : List Int) (H' : Hp), Ext Ps H H' → H l = none → ns.length ≤ 100 → H' l = some (.lst (ns.map V.int)) → Q (.ref l) H'
theorem ok_common (D : Def K mg "_law_common" sCommon ["_law_one", "_law_other"] f fd c) : FnOk P w K mg base CX0 (k + 1) f fd ["_law_one", "_law_other"] (spCommon K Ps) := by
  refine D.ok (k := k) scCommon (fun vs H Q E h => ?_) (fun A outer s H vs Q E hr h => ?_)
  · obtain ⟨x, y, pts, fc, rfl, _⟩ := h
    rfl
  · obtain ⟨_, _, pts, fc, rfl, ⟨a, rfl, hA⟩, ⟨b, rfl, hB⟩, hl, ht, q⟩ := h
    refine ⟨_, pss_one (ps_ret (pe_lc (own := [("_law_point", 2)]) (g := gName 2) (by rfl) scCommon.nd (pi_tup (pv 0)) (blkOk_by (N := ["_law_one", "_law_other", "_law_point"]) (sc := defScope sCommon) (by decide +kernel))
      (fun _ _ _ _ _ => pg_name (i := 2) scCommon.nd rfl (Or.inl rfl)) (fun _ _ _ _ _ => pts_one (pt_cmpR (show OpR _ _ (rIn K false) from op_in_seq) (pv 2) (pv 1) (by with_unfolding_all rfl))) (fun _ _ _ _ _ => pv 2))), ?_⟩
    refine ⟨.ref a, rfl, a, rfl, ⟨_, hA⟩, fun D0 hD => lc_tup (K := K) (a := a) (xs := pts.map V.int) (fun i H3 => ∃ ns : List Int, CP Ps FI H D0 ns i H3) ⟨[], CP.start ht hD⟩ (fun i H3 _ p => let ⟨_, z⟩ := p; z.ext.sqT hA) (fun i x H3 hx p => ?_) (fun H3 p => ?_)⟩
    · obtain ⟨y, hy, rfl⟩ := map_int hx
      obtain ⟨ns, p⟩ := p
      have hi : i < pts.length := (List.getElem?_eq_some_iff.mp hy).1
      refine ⟨rfl, .int y, rfl, .ref b, rfl, b, _, rfl, .inr (p.ext.sqT hB), rfl, flat_ints fc, _, rfl, ite2 (fun hc => ?_) (fun hc => ?_)⟩
      · obtain ⟨acc, r1, r2, r3⟩ := CP.put (stbI (K := K)) hD (by omega) p (show FI H3 (.int y) y from rfl)
        exact ⟨.int y, rfl, acc, r1, r2, _, r3⟩
      · exact ⟨ns, p.mono (Nat.le_succ i)⟩
    · obtain ⟨ns, p⟩ := p
      obtain ⟨ys, e1, e2, e3⟩ := p.at_
      have e4 := Paired.length e2
      rw [paired_ints e2] at e1
      rw [List.length_map] at e3
      exact q D0 ns H3 p.ext hD (by omega) e1
/-! ### _law_at -/
def spAt (K : PySem.W.Frag) (Ps : Tbs) : Sp := fun vs H Q _ => ∃ (x y : V) (n k : Int) (fss : List (List Int)) (ns : List Int), vs = [x, y] ∧ Stk K H x n k fss ∧ LI K H y ns ∧ (∀ i ∈ ns, 0 ≤ i ∧ i < (fss.length : Int)) ∧ ns.length ≤ 100 ∧ Tb Ps H ∧
  ∀ l ys H', Ext Ps H H' → H l = none → H' l = some (.lst ys) → Paired (TupI K H') ys (facesAt fss ns) → Q (.ref l) H'
/-! ### _law_lot -/
def spLot (K : PySem.W.Frag) (Ps : Tbs) : Sp := fun vs H Q _ => ∃ (a : Addr) (x : V) (n k : Int) (fss : List (List Int)), vs = [.ref a, x] ∧ Pen H a ∧ Stk K H x n k fss ∧ fss.length ≤ 64 ∧ Tb Ps H ∧ ∀ (v : V) (ns : List Int) (H' : Hp), Epn Ps a H H' → TupI K H' v ns → LotOk fss.length ns → Q v H'
end
end Lf

set_option maxHeartbeats 1000000
namespace Lf
open PySem PySem.Spec PyProof.Rows L2 GxR GxA SrT
theorem u65 {k : Nat} {A : Around} (r : Room k A) : A.units + 65 < cLine := by
  have := r.un
  omega
/-! ### lists of lists of ints as data -/
abbrev lD (ns : List Int) : PyData := .list (iD ns)
theorem lay_lls : ∀ fs : List (List Int), PyData.canLayAll0 (fs.map lD) = true
  | [] => by simp [PyData.canLayAll0]
  | n :: ns => by
    have := lay_lls ns
    simp [PyData.canLayAll0, PyData.canLay0, this, lay_ints]
theorem dep_lls : ∀ fs : List (List Int), PyData.depthAll (fs.map lD) ≤ 1
  | [] => by simp [PyData.depthAll]
  | n :: ns => by
    have := dep_lls ns
    simp [PyData.depthAll, PyData.depth, this, dep_ints]
theorem shp_lls (fs : List (List Int)) : SeqAt.shaped (.list (fs.map lD)) = true := by
  unfold SeqAt.shaped
  have h1 := dep_lls fs
  have h2 : PyData.canLay0 (.list (fs.map lD)) = true := by
    rw [PyData.canLay0]
    exact lay_lls fs
  have h3 : PyData.depth (.list (fs.map lD)) = PyData.depthAll (fs.map lD) + 1 := by rw [PyData.depth]
  rw [h2, h3, Bool.true_and]
  exact decide_eq_true (by omega)
/-- a list of ints of ours, that is not the list at D -/
def LIn (D : Addr) : Hp → V → List Int → Prop := fun H x ns => ∃ a, x = .ref a ∧ a ≠ D ∧ H a = some (.lst (ns.map V.int)) ∧ ns.length ≤ 100
section
variable {P : Program} {w : World} {K : PySem.W.Frag} {mg : Str → Option Value} {base : Heap} {Ps : Tbs} {H H' H0 : Hp} {k : Nat} {f c : Addr} {fd : FuncData}
theorem LIn.ext {D : Addr} {x : V} {ns : List Int} (e : Ext Ps H H') (h : LIn D H x ns) : LIn D H' x ns := let ⟨a, h1, h2, h3, h4⟩ := h; ⟨a, h1, h2, e.lst h3, h4⟩
theorem LIn.put {D : Addr} {x : V} {ns : List Int} {l' : List V} (h : LIn D H x ns) : LIn D (upd H D (.lst l')) x ns := let ⟨a, h1, h2, h3, h4⟩ := h; ⟨a, h1, h2, by rw [upd_ne h2]; exact h3, h4⟩
theorem LIn.seq {D : Addr} {x : V} {ns : List Int} (h : LIn D H x ns) : SeqI K H x ns := let ⟨a, h1, h2, h3, h4⟩ := h; ⟨a, h1, .inl (.inl (.inl h3))⟩
theorem LIn.other {D D' : Addr} {x : V} {ns : List Int} (h : LIn D H x ns) (hD : H D' = none) : LIn D' H x ns := let ⟨a, h1, h2, h3, h4⟩ := h; ⟨a, h1, ne_of_none h3 hD, h3, h4⟩
theorem dp_lls {D : Addr} : ∀ {xs : List V} {fs : List (List Int)}, Paired (LIn D H) xs fs → DpAll K H xs (fs.map lD)
  | _, _, .nil => .nil
  | _, _, .cons ⟨a, h1, h2, h3, h4⟩ t => by
    subst h1
    exact .cons (.lst (.inl (.inl h3)) (dp_ints _)) (dp_lls t)
theorem CP.skipL {D : Addr} {out : List (List Int)} {n : Nat} (h : CP Ps (LIn D) H0 D out n H) (e : Ext Ps H H') : CP Ps (LIn D) H0 D out n H' := by
  obtain ⟨ys, h1, h2, h3⟩ := h.at_
  exact ⟨h.ext.trans e, ys, e.lst h1, L2.Paired.mapP h2 fun _ _ z => LIn.ext e z, h3⟩
theorem CP.putL {D : Addr} {out : List (List Int)} {n : Nat} (hD : H0 D = none) (hn : n ≤ 1000) {y : V} {z : List Int} (h : CP Ps (LIn D) H0 D out n H) (hF : LIn D H y z) :
    ∃ acc, H D = some (.lst acc) ∧ acc.length < sizeLine ∧ CP Ps (LIn D) H0 D (out ++ [z]) (n + 1) (upd H D (.lst (acc ++ [y]))) := by
  obtain ⟨ys, h1, h2, h3⟩ := h.at_
  refine ⟨ys, h1, small1000 (Nat.le_trans h3 hn), ⟨h.ext.write hD h1 (fun q z => by cases z), ys ++ [y], upd_same, ?_, ?_⟩⟩
  · exact paired_snoc (L2.Paired.mapP h2 fun _ _ z => LIn.put z) (LIn.put hF)
  · rw [List.length_append]
    exact Nat.add_le_add_right h3 1
/-! ### _law_may -/
def spMay (K : PySem.W.Frag) (Ps : Tbs) : Sp := fun vs H Q _ => ∃ (kk : Int) (y z : V) (fss : List (List Int)) (fc : List Int), vs = [.int kk, y, z] ∧ LstT K H y fss ∧ TupI K H z fc ∧ fss.length ≤ 100 ∧ fc.length ≤ 100 ∧ Tb Ps H ∧ ∀ (b : Bool) (H' : Hp), Ext Ps H H' → Q (.bl b) H'
end
end Lf

set_option maxHeartbeats 1000000
namespace Lf
open PySem PySem.Spec PyProof.Rows L2 GxR GxA SrT
/-- the numbers from 0 on -/
def rng (m : Nat) : List Int := (List.range m).map fun i : Nat => (i : Int)
theorem rng_len (m : Nat) : (rng m).length = m := by simp [rng]
theorem rng_V (m : Nat) : rgV 0 (m : Int) = (rng m).map V.int := by
  unfold rgV rng
  rw [List.map_map]
  have e : ((m : Int) - 0).toNat = m := by omega
  rw [e]
  refine List.map_congr_left fun i _ => ?_
  show V.int (0 + (i : Int)) = V.int i
  rw [Int.zero_add]
theorem mem_rng {m : Nat} {i : Int} (h : i ∈ rng m) : 0 ≤ i ∧ i < (m : Int) := by
  obtain ⟨j, hj, rfl⟩ := List.mem_map.mp h
  have := List.mem_range.mp hj
  omega
theorem nd_rng (m : Nat) : (rng m).Nodup := by
  unfold rng
  refine List.Pairwise.map _ (fun a b hab e => ?_) List.nodup_range
  exact hab (by omega)
theorem find_at {ls : List Int} {v : Int} (nd : ls.Nodup) (h : v ∈ ls) : ∃ j : Nat, ls[j]? = some v ∧ (∀ m : Nat, m < j → ls[m]? ≠ some v) ∧ (v :: ls.eraseIdx j).Perm ls := by
  obtain ⟨j, hj, e⟩ := List.getElem_of_mem h
  refine ⟨j, by rw [List.getElem?_eq_getElem hj, e], fun m hm z => ?_, ?_⟩
  · obtain ⟨hm2, e2⟩ := List.getElem?_eq_some_iff.mp z
    have := (List.getElem_inj nd).mp (e2.trans e.symm)
    omega
  · have e3 : ls = ls.take j ++ v :: ls.drop (j + 1) := by
      rw [← e, ← List.drop_eq_getElem_cons hj, List.take_append_drop]
    rw [List.eraseIdx_eq_take_drop_succ]
    conv => rhs; rw [e3]
    exact List.perm_middle.symm
/-- how many things the list in the fourth slot has -/
def lstLen : Option HO → Nat
  | some (.lst xs) => xs.length
  | _ => 0
def slotLen (H : Hp) : Option (Option V) → Nat
  | some (some (V.ref l)) => lstLen (H l)
  | _ => 0
def lefts (σ : L2.St) (H : Hp) : Nat := slotLen H σ[3]?
section
variable {P : Program} {w : World} {K : PySem.W.Frag} {mg : Str → Option Value} {base : Heap} {Ps : Tbs} {H H' H0 : Hp} {k : Nat} {f c : Addr} {fd : FuncData}
def spLaid (K : PySem.W.Frag) (Ps : Tbs) : Sp := fun vs H Q _ => ∃ (a : Addr) (x : V) (n kk : Int) (fss : List (List Int)), vs = [.ref a, x] ∧ Pen H a ∧ Stk K H x n kk fss ∧ fss.length < 64 ∧ (∀ f ∈ fss, f.length ≤ 4) ∧ Tb Ps H ∧
  ∀ (v : V) (ns : List Int) (H' : Hp), Epn Ps a H H' → TupI K H' v ns → ns.Perm (rng fss.length) → Q v H'
/-- between two turns: the row, what is left, what can be laid -/
structure Rw (Ps : Tbs) (a : Addr) (m : Nat) (H0 H : Hp) (r l cn : Addr) (rs ls cs : List Int) : Prop where
  ext : Epn Ps a H0 H
  hr : H r = some (.lst (rs.map V.int))
  hl : H l = some (.lst (ls.map V.int))
  hc : H cn = some (.lst (cs.map V.int))
  nr : H0 r = none
  nl : H0 l = none
  nc : H0 cn = none
  rl : r ≠ l
  rc : r ≠ cn
  lc : l ≠ cn
  perm : (rs ++ ls).Perm (rng m)
  sub : ∀ z ∈ cs, z ∈ ls
  few : cs.length ≤ 64
theorem Rw.ne {a : Addr} {m : Nat} {r l cn : Addr} {rs ls cs : List Int} (h : Rw Ps a m H0 H r l cn rs ls cs) : r ≠ a ∧ l ≠ a ∧ cn ≠ a := by
  obtain ⟨x, f, e⟩ := h.ext.p0
  exact ⟨Ne.symm (ne_of_none e h.nr), Ne.symm (ne_of_none e h.nl), Ne.symm (ne_of_none e h.nc)⟩
theorem facesAt_len (fss : List (List Int)) (ns : List Int) : (facesAt fss ns).length = ns.length := by simp [facesAt]
end
end Lf

set_option maxHeartbeats 2000000
namespace Lf
open PySem PySem.Spec PyProof.Rows L2 GxR GxA SrT
abbrev nStack : List Str := ["_law_pen_here", "_law_most", "_law_way", "_law_n", "_law_k", "_law_every", "_law_faces", "_law_turn", "_law_face", "_law_out", "_law_others", "_law_into", "_law_rest", "_law_point"]
/-! ### the mathematics of a drawn face -/
theorem filt_split {α : Type} (p : α → Bool) : ∀ l : List α, (l.filter p).length + (l.filter fun x => !p x).length = l.length
  | [] => rfl
  | x :: l => by
    have := filt_split p l
    cases h : p x <;> simp [List.filter_cons, h] <;> omega
theorem RisB.nd {n : Nat} {g : List Int} (h : RisB n g) : g.Nodup := h.1.imp fun {a b} hab e => by omega
theorem in_rng {m : Nat} {i : Int} (h0 : 0 ≤ i) (h1 : i < (m : Int)) : i ∈ rng m := List.mem_map.mpr ⟨i.toNat, List.mem_range.mpr (by omega), by omega⟩
theorem others_len {n : Nat} {g : List Int} (h : RisB n g) : ((rng n).filter fun p => !decide (p ∈ g)).length = n - g.length := by
  have h1 : ((rng n).filter fun p => decide (p ∈ g)).Perm g := by
    refine (List.perm_ext_iff_of_nodup ((nd_rng n).filter _) h.nd).mpr fun z => ?_
    rw [List.mem_filter, decide_eq_true_eq]
    constructor
    · exact fun q => q.2
    · intro q
      exact ⟨in_rng (h.2 z q).1 (h.2 z q).2, q⟩
  have h2 := filt_split (fun p => decide (p ∈ g)) (rng n)
  rw [rng_len, h1.length_eq] at h2
  omega
theorem lt_of_le_nd {l : List Int} (h1 : l.Pairwise (· ≤ ·)) (h2 : l.Nodup) : l.Pairwise (· < ·) := List.Pairwise.imp₂ (fun a b h n => by omega) h1 h2
theorem rest_len {g : List Int} {o : Int} (nd : g.Nodup) (h : o ∈ g) : (g.filter fun p => !decide (p = o)).length + 1 = g.length := by
  have e := nd.filter (fun p => decide (p = o))
  have h1 : (g.filter fun p => decide (p = o)).Perm [o] := by
    refine (List.perm_ext_iff_of_nodup e (by simp)).mpr fun z => ?_
    rw [List.mem_filter, decide_eq_true_eq, List.mem_singleton]
    constructor
    · exact fun q => q.2
    · rintro rfl
      exact ⟨h, rfl⟩
  have h2 := filt_split (fun p => decide (p = o)) g
  rw [h1.length_eq, List.length_singleton] at h2
  omega
theorem swap_ok {n : Nat} {g ns : List Int} {o i : Int} (h : RisB n g) (ho : o ∈ g) (hi : i ∉ g) (h0 : 0 ≤ i) (h1 : i < (n : Int)) (pm : ns.Perm ((g.filter fun p => !decide (p = o)) ++ [i])) (sr : ns.Pairwise (· ≤ ·)) : RisB n ns ∧ ns.length = g.length := by
  have nd : ((g.filter fun p => !decide (p = o)) ++ [i]).Nodup := by
    refine List.nodup_append.mpr ⟨h.nd.filter _, by simp, fun a ha b hb e => ?_⟩
    rw [List.mem_singleton.mp hb] at e
    rw [e] at ha
    exact hi (List.mem_filter.mp ha).1
  refine ⟨⟨lt_of_le_nd sr (pm.nodup_iff.mpr nd), fun z hz => ?_⟩, ?_⟩
  · rcases List.mem_append.mp (pm.mem_iff.mp hz) with q | q
    · exact h.2 z (List.mem_filter.mp q).1
    · rw [List.mem_singleton.mp q]
      exact ⟨h0, h1⟩
  · rw [pm.length_eq, List.length_append, List.length_singleton]
    exact rest_len h.nd ho
theorem RisB.mono {n m : Nat} {g : List Int} (h : RisB n g) (hm : n ≤ m) : RisB m g := ⟨h.1, fun i hi => by have := h.2 i hi; omega⟩
/-- tuples of ints by their addresses -/
theorem keys_at {K : PySem.W.Frag} {H : Hp} : ∀ {ys : List V} {gss : List (List Int)}, Paired (TupI K H) ys gss → ∃ ks : List (Addr × List Int), ys = ks.map (fun p => V.ref p.1) ∧ ks.map (·.2) = gss ∧ ∀ p ∈ ks, SqT K H p.1 (p.2.map V.int)
  | _, _, .nil => ⟨[], rfl, rfl, fun p hp => absurd hp (by simp)⟩
  | _, _, .cons ⟨t, e, hs⟩ q => by
    obtain ⟨ks, e1, e2, e3⟩ := keys_at q
    refine ⟨(t, _) :: ks, by rw [List.map_cons, e, e1], by rw [List.map_cons, e2], fun p hp => ?_⟩
    rcases List.mem_cons.mp hp with z | z
    · rw [z]
      exact hs
    · exact e3 p z
section
variable {P : Program} {w : World} {K : PySem.W.Frag} {mg : Str → Option Value} {base : Heap} {Ps : Tbs} {H H' H0 : Hp} {k : Nat} {f c : Addr} {fd : FuncData}
def spStack (K : PySem.W.Frag) (Ps : Tbs) : Sp := fun vs H Q _ => ∃ (a : Addr) (m : Int), vs = [.ref a, .int m] ∧ Pen H a ∧ 1 ≤ m ∧ m ≤ 40 ∧ Tb Ps H ∧ ∀ (v : V) (n kk : Int) (fss : List (List Int)) (H' : Hp), Epn Ps a H H' → Stk K H' v n kk fss → StkOk n kk fss → fss.length ≤ 40 → Q v H'
/-- between two turns of the loop: all faces, the faces drawn -/
structure Fc (K : PySem.W.Frag) (Ps : Tbs) (a : Addr) (n k : Nat) (H0 H : Hp) (ev fa : Addr) (es ys : List V) (gss : List (List Int)) : Prop where
  ext : Epn Ps a H0 H
  he : H ev = some (.lst es)
  hf : H fa = some (.lst ys)
  ne : H0 ev = none
  nf : H0 fa = none
  ef : ev ≠ fa
  pe : Paired (TupI K H) es (allF n k)
  pf : Paired (TupI K H) ys gss
  ok : ∀ g ∈ gss, RisB n g ∧ g.length = k
theorem Fc.away {a : Addr} {n kk : Nat} {ev fa : Addr} {es ys : List V} {gss : List (List Int)} (h : Fc K Ps a n kk H0 H ev fa es ys gss) : ev ≠ a ∧ fa ≠ a := by
  obtain ⟨x, f, e⟩ := h.ext.p0
  exact ⟨Ne.symm (ne_of_none e h.ne), Ne.symm (ne_of_none e h.nf)⟩
theorem Fc.move {a : Addr} {n kk : Nat} {ev fa : Addr} {es ys : List V} {gss : List (List Int)} (h : Fc K Ps a n kk H0 H ev fa es ys gss) (e : Epn Ps a H H') : Fc K Ps a n kk H0 H' ev fa es ys gss :=
  ⟨h.ext.trans e, e.lst h.away.1 h.he, e.lst h.away.2 h.hf, h.ne, h.nf, h.ef, e.tups h.pe, e.tups h.pf, h.ok⟩
theorem Fc.put {a : Addr} {n kk : Nat} {ev fa : Addr} {es ys : List V} {gss : List (List Int)} {x : V} {g : List Int} (h : Fc K Ps a n kk H0 H ev fa es ys gss) (hx : TupI K H x g) (hg : RisB n g ∧ g.length = kk) : Fc K Ps a n kk H0 (upd H fa (.lst (ys ++ [x]))) ev fa es (ys ++ [x]) (gss ++ [g]) := by
  refine ⟨h.ext.write h.nf h.hf (fun q z => by cases z), by rw [upd_ne h.ef]; exact h.he, upd_same, h.ne, h.nf, h.ef, L2.Paired.mapP h.pe fun _ _ z => tupI_put h.hf z, paired_snoc (L2.Paired.mapP h.pf fun _ _ z => tupI_put h.hf z) (tupI_put h.hf hx), fun z hz => ?_⟩
  rcases List.mem_append.mp hz with q | q
  · exact h.ok z q
  · rw [List.mem_singleton.mp q]
    exact hg
theorem nd_le {α : Type} [BEq α] [LawfulBEq α] : ∀ {l D : List α}, l.Nodup → (∀ x ∈ l, x ∈ D) → l.length ≤ D.length
  | [], _, _, _ => Nat.zero_le _
  | x :: l, D, nd, h => by
    obtain ⟨n1, n2⟩ := List.nodup_cons.mp nd
    have hx := h x List.mem_cons_self
    have z := nd_le (l := l) (D := D.erase x) n2 fun y hy => (List.mem_erase_of_ne (show y ≠ x from fun e => n1 (by rw [← e]; exact hy))).mpr (h y (List.mem_cons_of_mem _ hy))
    rw [List.length_erase_of_mem hx] at z
    have := List.length_pos_of_mem hx
    rw [List.length_cons]
    omega
theorem lex_nd {l : List (List Int)} (h : l.Pairwise fun x y => lex x y = true) : l.Nodup := h.imp fun {a b} hab e => by
  rw [e, SrT.lex_irrefl] at hab
  cases hab
theorem pick {l : List Int} {d : Int} (d0 : 0 ≤ d) (d1 : d < (l.length : Int)) : ∃ z ∈ l, atI (l.map V.int) d = some (.int z) := by
  have hd : d.toNat < l.length := by omega
  exact ⟨_, List.getElem_mem hd, atI_int d0 (by rw [List.getElem?_map, List.getElem?_eq_getElem hd]; rfl)⟩
theorem pickT {K : PySem.W.Frag} {H : Hp} {ys : List V} {gss : List (List Int)} (p : Paired (TupI K H) ys gss) {d : Int} (d0 : 0 ≤ d) (d1 : d < (ys.length : Int)) : ∃ x g, g ∈ gss ∧ TupI K H x g ∧ atI ys d = some x := by
  have hd : d.toNat < ys.length := by omega
  obtain ⟨g, hg, hI⟩ := paired_get p (List.getElem?_eq_getElem hd)
  exact ⟨_, g, List.mem_of_getElem? hg, hI, atI_int d0 (List.getElem?_eq_getElem hd)⟩
end
end Lf

set_option maxHeartbeats 2000000
namespace Lf
open PySem PySem.Spec PyProof.Rows L2 GxR GxA SrT RZ
/-! ### data that stand in the heap -/
section
variable {K : PySem.W.Frag} {Ps : Tbs} {H H' : Hp}
mutual
theorem Ext.dp (e : Ext Ps H H') : ∀ {d : PyData} {x : V}, Dp K H x d → Dp K H' x d
  | .none, _, h => by cases h; exact .non
  | .bool b, _, h => by cases h; exact .bl b
  | .int i, _, h => by cases h; exact .int i
  | .str y, _, h => by cases h; exact .str y
  | .list ds, _, h => by
    cases h with
    | lst hs ha => exact .lst (e.sqL hs) (Ext.dpAll e ha)
  | .tuple ds, _, h => by
    cases h with
    | tup hs ha => exact .tup (e.sqT hs) (Ext.dpAll e ha)
  | .dict _, _, h => nomatch h
theorem Ext.dpAll (e : Ext Ps H H') : ∀ {ds : List PyData} {xs : List V}, DpAll K H xs ds → DpAll K H' xs ds
  | [], _, h => by cases h; exact .nil
  | d :: ds, _, h => by
    cases h with
    | cons h1 h2 => exact .cons (Ext.dp e h1) (Ext.dpAll e h2)
end
theorem dpAll_len : ∀ {ds : List PyData} {xs : List V}, DpAll K H xs ds → xs.length = ds.length
  | [], _, h => by cases h; rfl
  | d :: ds, _, h => by
    cases h with
    | cons h1 h2 => rw [List.length_cons, List.length_cons, dpAll_len h2]
theorem dpAll_get : ∀ {ds : List PyData} {xs : List V} {i : Nat} {x : V}, DpAll K H xs ds → xs[i]? = some x → ∃ d, ds[i]? = some d ∧ Dp K H x d
  | [], _, i, x, h, e => by
    cases h
    simp at e
  | d :: ds, _, 0, x, h, e => by
    cases h with
    | cons h1 h2 =>
      cases e
      exact ⟨d, rfl, h1⟩
  | d :: ds, _, i + 1, x, h, e => by
    cases h with
    | cons h1 h2 =>
      obtain ⟨d', q1, q2⟩ := dpAll_get (i := i) (x := x) h2 (by simpa using e)
      exact ⟨d', by simpa using q1, q2⟩
/-- the type's name -/
def tyN : PyData → String
  | .none => "NoneType"
  | .bool _ => "bool"
  | .int _ => "int"
  | .str _ => "str"
  | .list _ => "list"
  | .tuple _ => "tuple"
  | .dict _ => "dict"
theorem ty_lst {a : Addr} {xs : List V} (h : SqL K H a xs) : TyX K H (.ref a) (.type "list") := by
  rcases h with (h | ⟨o, h⟩) | ⟨o, _, _, h, h2, _⟩
  · exact .base (.lst h)
  · exact .base (.frz h)
  · exact .kList h h2
theorem dp_ty {x : V} {d : PyData} (h : Dp K H x d) : TyX K H x (.type (tyN d)) := by
  cases h with
  | non => exact .base .non
  | bl b => exact .base (.bl b)
  | int i => exact .base (.int i)
  | str y => exact .base (.str y)
  | lst hs ha => exact ty_lst hs
  | tup hs ha => exact ty_tup hs
end
def FBl : Hp → V → Bool → Prop := fun _ x b => x = .bl b
theorem stbB {K : PySem.W.Frag} {Ps : Tbs} : Stb K Ps FBl := ⟨fun _ _ _ _ _ h => h, fun _ _ _ _ _ _ _ h => h⟩
theorem paired_bls {H : Hp} : ∀ {ys : List V} {bs : List Bool}, Paired (FBl H) ys bs → ys = bs.map V.bl
  | _, _, .nil => rfl
  | _, _, .cons r t => by
    rw [List.map_cons, ← paired_bls t, show _ = V.bl _ from r]
/-- [.. for x, y in zip(two lists)] -/
theorem lc_zipL {K : PySem.W.Frag} {a b : Addr} {xs ys : List V} {g : TG} {tt : TT} {te : TE} {vs : List Nat} {σ : L2.St} {H1 : Hp} {D : Addr} {Qd : Hp → Prop} (hl : xs.length = ys.length) (Pv : Nat → Hp → Prop) (h0 : Pv 0 (upd H1 D (.lst []))) (hq : ∀ i H, Pv i H → SqL K H a xs ∧ SqL K H b ys)
    (hs : ∀ i x y H T, xs[i]? = some x → ys[i]? = some y → Pv i H → H T = none → g (.ref T) (wipe σ vs) (upd H T (.tup [x, y])) fun σ2 H2 => wipe σ2 vs = wipe σ vs ∧ tt σ2 H2 fun b H3 =>
      if b = true then te σ2 H3 fun y H4 => ∃ acc, H4 D = some (.lst acc) ∧ acc.length < sizeLine ∧ Pv (i + 1) (upd H4 D (.lst (acc ++ [y]))) else Pv (i + 1) H3) (hd : ∀ H, Pv xs.length H → Qd H) :
    ∃ W : Nat → Nat → Hp → Prop, (∃ m, W 0 m (upd H1 D (.lst []))) ∧ ∀ i m H, W i m H →
      ((Itz K a b).stop i H ∧ Qd H) ∨ ((Itz K a b).go i H ∧ ∃ Nx : Hp → Prop, (∀ H', Nx H' → ∃ m', m' < m ∧ W (i + 1) m' H') ∧ ∀ x H', (Itz K a b).yld i H x H' → g x (wipe σ vs) H' fun σ2 H2 => wipe σ2 vs = wipe σ vs ∧ tt σ2 H2 fun b H3 =>
        if b = true then te σ2 H3 fun y H4 => ∃ acc, H4 D = some (.lst acc) ∧ acc.length < sizeLine ∧ Nx (upd H4 D (.lst (acc ++ [y]))) else Nx H3) := by
  refine ⟨fun i m H => m = xs.length - i ∧ i ≤ xs.length ∧ Pv i H, ⟨xs.length, by simp, Nat.zero_le _, h0⟩, ?_⟩
  rintro i m H ⟨rfl, hi, p⟩
  obtain ⟨q1, q2⟩ := hq i H p
  by_cases hlt : i < xs.length
  · have hlt2 : i < ys.length := by omega
    refine .inr ⟨⟨xs, ys, xs[i], ys[i], q1, q2, List.getElem?_eq_getElem hlt, List.getElem?_eq_getElem hlt2⟩, Pv (i + 1), fun H' p' => ⟨xs.length - (i + 1), by omega, rfl, hlt, p'⟩, fun x H' y => ?_⟩
    obtain ⟨T, z, u, rfl, hT, rfl, hz, hu⟩ := y
    exact hs i z u H T (hz xs q1) (hu ys q2) p hT
  · have e : i = xs.length := by omega
    subst e
    exact .inl ⟨⟨xs, ys, q1, q2, .inl (Nat.le_refl _)⟩, hd H p⟩
theorem lc_zipT {K : PySem.W.Frag} {a b : Addr} {xs ys : List V} {g : TG} {tt : TT} {te : TE} {vs : List Nat} {σ : L2.St} {H1 : Hp} {D : Addr} {Qd : Hp → Prop} (hl : xs.length = ys.length) (Pv : Nat → Hp → Prop) (h0 : Pv 0 (upd H1 D (.lst []))) (hq : ∀ i H, Pv i H → SqT K H a xs ∧ SqT K H b ys)
    (hs : ∀ i x y H T, xs[i]? = some x → ys[i]? = some y → Pv i H → H T = none → g (.ref T) (wipe σ vs) (upd H T (.tup [x, y])) fun σ2 H2 => wipe σ2 vs = wipe σ vs ∧ tt σ2 H2 fun b H3 =>
      if b = true then te σ2 H3 fun y H4 => ∃ acc, H4 D = some (.lst acc) ∧ acc.length < sizeLine ∧ Pv (i + 1) (upd H4 D (.lst (acc ++ [y]))) else Pv (i + 1) H3) (hd : ∀ H, Pv xs.length H → Qd H) :
    ∃ W : Nat → Nat → Hp → Prop, (∃ m, W 0 m (upd H1 D (.lst []))) ∧ ∀ i m H, W i m H →
      ((ItzT K a b).stop i H ∧ Qd H) ∨ ((ItzT K a b).go i H ∧ ∃ Nx : Hp → Prop, (∀ H', Nx H' → ∃ m', m' < m ∧ W (i + 1) m' H') ∧ ∀ x H', (ItzT K a b).yld i H x H' → g x (wipe σ vs) H' fun σ2 H2 => wipe σ2 vs = wipe σ vs ∧ tt σ2 H2 fun b H3 =>
        if b = true then te σ2 H3 fun y H4 => ∃ acc, H4 D = some (.lst acc) ∧ acc.length < sizeLine ∧ Nx (upd H4 D (.lst (acc ++ [y]))) else Nx H3) := by
  refine ⟨fun i m H => m = xs.length - i ∧ i ≤ xs.length ∧ Pv i H, ⟨xs.length, by simp, Nat.zero_le _, h0⟩, ?_⟩
  rintro i m H ⟨rfl, hi, p⟩
  obtain ⟨q1, q2⟩ := hq i H p
  by_cases hlt : i < xs.length
  · have hlt2 : i < ys.length := by omega
    refine .inr ⟨⟨xs, ys, xs[i], ys[i], q1, q2, List.getElem?_eq_getElem hlt, List.getElem?_eq_getElem hlt2⟩, Pv (i + 1), fun H' p' => ⟨xs.length - (i + 1), by omega, rfl, hlt, p'⟩, fun x H' y => ?_⟩
    obtain ⟨T, z, u, rfl, hT, rfl, hz, hu⟩ := y
    exact hs i z u H T (hz xs q1) (hu ys q2) p hT
  · have e : i = xs.length := by omega
    subst e
    exact .inl ⟨⟨xs, ys, q1, q2, .inl (Nat.le_refl _)⟩, hd H p⟩
end Lf

set_option maxHeartbeats 4000000
namespace Lf
open PySem PySem.Spec PyProof.Rows L2 GxR GxA SrT RZ
abbrev nSame : List Str := ["_law_found", "_law_due", "_law_one", "_law_other"]
theorem lay_mem : ∀ {ds : List PyData} {d : PyData}, PyData.canLayAll0 ds = true → d ∈ ds → d.canLay0 = true
  | e :: ds, d, h, hd => by
    rw [PyData.canLayAll0, Bool.and_eq_true] at h
    rcases List.mem_cons.mp hd with q | q
    · rw [q]
      exact h.1
    · exact lay_mem h.2 q
theorem dep_mem : ∀ {ds : List PyData} {d : PyData}, d ∈ ds → d.depth ≤ PyData.depthAll ds
  | e :: ds, d, hd => by
    rw [PyData.depthAll]
    rcases List.mem_cons.mp hd with q | q
    · rw [q]
      exact Nat.le_max_left _ _
    · exact Nat.le_trans (dep_mem q) (Nat.le_max_right _ _)
mutual
/-- no list and no tuple of more than a thousand -/
def wide : PyData → Bool
  | .list ds => decide (ds.length ≤ 1000) && wideAll ds
  | .tuple ds => decide (ds.length ≤ 1000) && wideAll ds
  | .dict _ => true
  | .none => true
  | .bool _ => true
  | .int _ => true
  | .str _ => true
def wideAll : List PyData → Bool
  | [] => true
  | d :: ds => wide d && wideAll ds
end
theorem wideAll_mem : ∀ {ds : List PyData} {d : PyData}, wideAll ds = true → d ∈ ds → wide d = true
  | e :: ds, d, h, hd => by
    rw [wideAll, Bool.and_eq_true] at h
    rcases List.mem_cons.mp hd with q | q
    · rw [q]
      exact h.1
    · exact wideAll_mem h.2 q
/-- isinstance of data, by the type's name -/
theorem isi_b {K : PySem.W.Frag} {b : String} {d : PyData} {r : Bool} (h : kitB (tyN d) b = some r) : PySem.W.kitOne K (.type (tyN d)) (.type b) = some r := kit_ty h
section
variable {P : Program} {w : World} {K : PySem.W.Frag} {mg : Str → Option Value} {base : Heap} {Ps : Tbs} {H H' H0 : Hp} {f c : Addr} {fd : FuncData}
/-- the same data are told to be the same -/
def spSame (K : PySem.W.Frag) (Ps : Tbs) : Nat → Sp
  | 0 => fun _ _ _ _ => False
  | m + 1 => fun vs H Q _ => ∃ (x y : V) (d : PyData), vs = [x, y] ∧ Dp K H x d ∧ Dp K H y d ∧ d.canLay0 = true ∧ wide d = true ∧ d.depth ≤ m ∧ m ≤ 60 ∧ Tb Ps H ∧ ∀ H', Ext Ps H H' → Q (.bl true) H'
end
end Lf

set_option maxHeartbeats 4000000
namespace Lf
open PySem PySem.Spec PyProof.Rows L2 GxR GxA SrT RZ
abbrev sSame2 : Stmt := topS 49
theorem scSame2 : FnScope ["_law_found", "_law_due_here", "_law_one", "_law_other"] ["_law_found", "_law_due_here"] (defScope sSame2) := ⟨rfl, rfl, rfl, by decide +kernel, rfl, by decide +kernel, by decide +kernel⟩
section
variable {P : Program} {w : World} {K : PySem.W.Frag} {mg : Str → Option Value} {base : Heap} {Ps : Tbs} {H H' H0 : Hp} {f c : Addr} {fd : FuncData}
theorem same2_step {m : Nat} (D : Def K mg "_law_same" sSame2 ["_law_found", "_law_due_here"] f fd c) (GS : FnOk P w K mg base CX0 m f fd ["_law_found", "_law_due_here"] (spSame K Ps m)) (mi : mg "isinstance" = none) (mL : mg "list" = none) (mT : mg "tuple" = none) (mS : mg "str" = none) (mB : mg "bool" = none) (mI : mg "int" = none)
    (ml : mg "len" = none) (mz : mg "zip" = none) : FnOk P w K mg base CX0 (m + 1) f fd ["_law_found", "_law_due_here"] (spSame K Ps (m + 1)) := by
  refine D.ok (k := m) scSame2 (fun vs H Q E h => ?_) (fun A outer s H vs Q E hr h => ?_)
  · obtain ⟨x, y, d, rfl, _⟩ := h
    rfl
  · obtain ⟨x, y, d, rfl, hx, hy, hL, hW, hd, hm, ht, q⟩ := h
    refine ⟨_, (pss_cons (ps_if (pt_cmpR op_isN (pv 1) pe_non (nomark _)) (pss_one (ps_ret (pe_cmpR op_isN (pv 0) pe_non (nomark _)))) pss_nil) (pss_cons (ps_if (PW.pt (pw_or (pt_val (pe_callB call_isi (by rfl) mi (by decide +kernel) (pa_cons (pv 1) (pa_cons (pe_bltn (v := .ty "tuple") (by rfl) mT (by decide +kernel) rfl) pa_nil)))) (pw_or1 (pt_val (pe_callB call_isi (by rfl) mi (by decide +kernel) (pa_cons (pv 1) (pa_cons (pe_bltn (v := .ty "list") (by rfl) mL (by decide +kernel) rfl) pa_nil))))))) (pss_cons (ps_if (PW.pt (pw_or (pt_cmpR op_ne (pe_callB call_isi (by rfl) mi (by decide +kernel) (pa_cons (pv 0) (pa_cons (pe_bltn (v := .ty "tuple") (by rfl) mT (by decide +kernel) rfl) pa_nil))) (pe_callB call_isi (by rfl) mi (by decide +kernel) (pa_cons (pv 1) (pa_cons (pe_bltn (v := .ty "tuple") (by rfl) mT (by decide +kernel) rfl) pa_nil))) (nomark _)) (pw_or1 (pt_cmpR op_ne (pe_callB call_isi (by rfl) mi (by decide +kernel) (pa_cons (pv 0) (pa_cons (pe_bltn (v := .ty "list") (by rfl) mL (by decide +kernel) rfl) pa_nil))) (pe_callB call_isi (by rfl) mi (by decide +kernel) (pa_cons (pv 1) (pa_cons (pe_bltn (v := .ty "list") (by rfl) mL (by decide +kernel) rfl) pa_nil))) (nomark _))))) (pss_one (ps_ret pe_bl)) pss_nil) (pss_cons (ps_if (pt_cmpR op_ne (pe_callB (call_lenS (K := K) rfl) (by rfl) ml PySem.boot_len (pa_cons (pv 0) pa_nil)) (pe_callB (call_lenS (K := K) rfl) (by rfl) ml PySem.boot_len (pa_cons (pv 1) pa_nil)) (nomark _)) (pss_one (ps_ret pe_bl)) pss_nil) (pss_cons (ps_for PassesOwn.never rfl (pi_zipA (by rfl) mz (pa_cons (pv 0) (pa_cons (pv 1) pa_nil))) (pg_tup rfl (pgs_cons (pg_name (i := 2) scSame2.nd rfl (.inl rfl)) (pgs_cons (pg_name (i := 3) scSame2.nd rfl (.inl rfl)) pgs_nil))) (pss_one (ps_if (pt_not (pt_val (pcl D GS hr (pa_cons (pv 2) (pa_cons (pv 3) pa_nil))))) (pss_one (ps_ret pe_bl)) pss_nil))) (pss_one (ps_ret pe_bl))))) pss_nil) (pss_cons (ps_if (pt_val (pe_callB call_isi (by rfl) mi (by decide +kernel) (pa_cons (pv 1) (pa_cons (pe_bltn (v := .ty "str") (by rfl) mS (by decide +kernel) rfl) pa_nil)))) (pss_one (ps_ret (pe_and (pe_callB call_isi (by rfl) mi (by decide +kernel) (pa_cons (pv 0) (pa_cons (pe_bltn (v := .ty "str") (by rfl) mS (by decide +kernel) rfl) pa_nil))) (pe_one (pe_cmpR (op_eqD hr.units) (pv 0) (pv 1) (nomark _)))))) pss_nil) (pss_one (ps_ret (pe_and (pe_cmpR op_eq (pe_callB call_isi (by rfl) mi (by decide +kernel) (pa_cons (pv 0) (pa_cons (pe_bltn (v := .ty "bool") (by rfl) mB (by decide +kernel) rfl) pa_nil))) (pe_callB call_isi (by rfl) mi (by decide +kernel) (pa_cons (pv 1) (pa_cons (pe_bltn (v := .ty "bool") (by rfl) mB (by decide +kernel) rfl) pa_nil))) (nomark _)) (pe_and (pe_callB call_isi (by rfl) mi (by decide +kernel) (pa_cons (pv 0) (pa_cons (pe_bltn (v := .ty "int") (by rfl) mI (by decide +kernel) rfl) pa_nil))) (pe_one (pe_cmpR (op_eqD hr.units) (pv 0) (pv 1) (nomark _)))))))))), ?_⟩
    have fin : ∀ {HX : Hp} {v : V} {dd : PyData}, Ext Ps H HX → SeqAt.shaped dd = true → Dp K HX v dd → Dp K HX y dd → v = x → PyData.eqv dd dd = true → rEqD K v y HX Q := fun e1 sh h1 h2 ev hq => ⟨_, _, h1, h2, sh, sh, by rw [hq]; exact q _ e1⟩
    cases d with
    | none =>
      cases hx
      cases hy
      exact ⟨.non, rfl, rfl, true, rfl, iteT ⟨.non, rfl, rfl, q _ (Ext.refl ht)⟩⟩
    | bool b =>
      cases hx
      cases hy
      refine ⟨.bl b, rfl, rfl, false, rfl, iteF ?_⟩
      refine ⟨.bl b, rfl, .bl b, .ty "tuple", .type "bool", .type "tuple", false, rfl, .ty _, .base (.bl b), kit_ty (by decide +kernel), false, rfl, iteF ⟨.bl b, rfl, .bl b, .ty "list", .type "bool", .type "list", false, rfl, .ty _, .base (.bl b), kit_ty (by decide +kernel), false, rfl, iteF ?_⟩⟩
      refine ⟨.bl b, rfl, .bl b, .ty "str", .type "bool", .type "str", false, rfl, .ty _, .base (.bl b), kit_ty (by decide +kernel), false, rfl, iteF ?_⟩
      refine ⟨.bl b, rfl, .bl b, .ty "bool", .type "bool", .type "bool", true, rfl, .ty _, .base (.bl b), kit_ty (by decide +kernel), .bl b, rfl, .bl b, .ty "bool", .type "bool", .type "bool", true, rfl, .ty _, .base (.bl b), kit_ty (by decide +kernel), rfl, true, rfl, iteT ?_⟩
      exact ⟨.bl b, rfl, .bl b, .ty "int", .type "bool", .type "int", true, rfl, .ty _, .base (.bl b), kit_ty (by decide +kernel), true, rfl, iteT ⟨.bl b, rfl, .bl b, rfl, fin (Ext.refl ht) rfl (.bl b) (.bl b) rfl (by cases b <;> rfl)⟩⟩
    | int i =>
      cases hx
      cases hy
      refine ⟨.int i, rfl, rfl, false, rfl, iteF ?_⟩
      refine ⟨.int i, rfl, .int i, .ty "tuple", .type "int", .type "tuple", false, rfl, .ty _, .base (.int i), kit_ty (by decide +kernel), false, rfl, iteF ⟨.int i, rfl, .int i, .ty "list", .type "int", .type "list", false, rfl, .ty _, .base (.int i), kit_ty (by decide +kernel), false, rfl, iteF ?_⟩⟩
      refine ⟨.int i, rfl, .int i, .ty "str", .type "int", .type "str", false, rfl, .ty _, .base (.int i), kit_ty (by decide +kernel), false, rfl, iteF ?_⟩
      refine ⟨.int i, rfl, .int i, .ty "bool", .type "int", .type "bool", false, rfl, .ty _, .base (.int i), kit_ty (by decide +kernel), .int i, rfl, .int i, .ty "bool", .type "int", .type "bool", false, rfl, .ty _, .base (.int i), kit_ty (by decide +kernel), rfl, true, rfl, iteT ?_⟩
      exact ⟨.int i, rfl, .int i, .ty "int", .type "int", .type "int", true, rfl, .ty _, .base (.int i), kit_ty (by decide +kernel), true, rfl, iteT ⟨.int i, rfl, .int i, rfl, fin (Ext.refl ht) rfl (.int i) (.int i) rfl (by simp [PyData.eqv])⟩⟩
    | str z =>
      cases hx
      cases hy
      refine ⟨.str z, rfl, rfl, false, rfl, iteF ?_⟩
      refine ⟨.str z, rfl, .str z, .ty "tuple", .type "str", .type "tuple", false, rfl, .ty _, .base (.str z), kit_ty (by decide +kernel), false, rfl, iteF ⟨.str z, rfl, .str z, .ty "list", .type "str", .type "list", false, rfl, .ty _, .base (.str z), kit_ty (by decide +kernel), false, rfl, iteF ?_⟩⟩
      refine ⟨.str z, rfl, .str z, .ty "str", .type "str", .type "str", true, rfl, .ty _, .base (.str z), kit_ty (by decide +kernel), true, rfl, iteT ?_⟩
      have sh : SeqAt.shaped (.str z) = true := by
        unfold SeqAt.shaped
        rw [hL]
        rfl
      exact ⟨.str z, rfl, .str z, .ty "str", .type "str", .type "str", true, rfl, .ty _, .base (.str z), kit_ty (by decide +kernel), true, rfl, iteT ⟨.str z, rfl, .str z, rfl, fin (Ext.refl ht) sh (.str z) (.str z) rfl (by simp [PyData.eqv])⟩⟩
    | list ds =>
      cases hx with
      | @lst a xs _ hs ha =>
      cases hy with
      | @lst b ys _ hs2 ha2 =>
      have hl1 := dpAll_len ha
      have hl2 := dpAll_len ha2
      have hlay : PyData.canLayAll0 ds = true := by simpa [PyData.canLay0] using hL
      have hdep : PyData.depthAll ds + 1 ≤ m := by simpa [PyData.depth] using hd
      have hww : (decide (ds.length ≤ 1000) && wideAll ds) = true := by simpa [wide] using hW
      obtain ⟨m', rfl⟩ : ∃ m', m = m' + 1 := ⟨m - 1, by omega⟩
      refine ⟨.ref b, rfl, rfl, false, rfl, iteF ?_⟩
      refine ⟨.ref b, rfl, .ref b, .ty "tuple", .type "list", .type "tuple", false, rfl, .ty _, ty_lst hs2, kit_ty (by decide +kernel), false, rfl, iteF ⟨.ref b, rfl, .ref b, .ty "list", .type "list", .type "list", true, rfl, .ty _, ty_lst hs2, kit_ty (by decide +kernel), true, rfl, iteT ?_⟩⟩
      refine ⟨.ref a, rfl, .ref a, .ty "tuple", .type "list", .type "tuple", false, rfl, .ty _, ty_lst hs, kit_ty (by decide +kernel), .ref b, rfl, .ref b, .ty "tuple", .type "list", .type "tuple", false, rfl, .ty _, ty_lst hs2, kit_ty (by decide +kernel), rfl, false, rfl, iteF ?_⟩
      refine ⟨.ref a, rfl, .ref a, .ty "list", .type "list", .type "list", true, rfl, .ty _, ty_lst hs, kit_ty (by decide +kernel), .ref b, rfl, .ref b, .ty "list", .type "list", .type "list", true, rfl, .ty _, ty_lst hs2, kit_ty (by decide +kernel), rfl, false, rfl, iteF ?_⟩
      refine ⟨.ref a, rfl, a, xs, rfl, .inl hs, .ref b, rfl, b, ys, rfl, .inl hs2, rfl, false, ?_, iteF ?_⟩
      · rw [hl1, hl2]
        simp
      refine ⟨.ref a, rfl, .ref b, rfl, a, b, xs, ys, rfl, .inl ⟨hs, hs2, for_zipL (K := K) (hl1.trans hl2.symm) (fun i σ H3 => Ext Ps H H3 ∧ ∃ y2 y3 : Option V, σ = [some (.ref a), some (.ref b), y2, y3]) ⟨Ext.refl ht, none, none, rfl⟩ (fun i σ H3 p => ⟨p.1.sqL hs, p.1.sqL hs2⟩) (fun i u v T2 σ H3 hu hv p hT2 => ?_) (fun σ H3 p => ?_)⟩⟩
      · obtain ⟨e3, y2, y3, rfl⟩ := p
        obtain ⟨d1, k1, k2⟩ := dpAll_get ha hu
        obtain ⟨d2, k3, k4⟩ := dpAll_get ha2 hv
        rw [k1] at k3
        cases k3
        have hmem := List.mem_of_getElem? k1
        have eT := Ext.new (o := .tup [u, v]) e3.tb hT2
        have e4 := e3.trans eT
        have hT4 : SqT K (upd H3 T2 (.tup [u, v])) T2 [u, v] := .inl (.inl upd_same)
        generalize upd H3 T2 (.tup [u, v]) = H4 at *
        refine ⟨T2, _, rfl, hT4, rfl, _, _, rfl, _, _, rfl, rfl, ?_⟩
        exact ⟨u, rfl, v, rfl, u, v, d1, rfl, e4.dp k2, e4.dp k4, lay_mem hlay hmem, wideAll_mem (Bool.and_eq_true_iff.mp hww).2 hmem, by have := dep_mem hmem; omega, by omega, e4.tb, fun H5 e5 => ⟨true, rfl, iteF ⟨e4.trans e5, _, _, rfl⟩⟩⟩
      · obtain ⟨e3, y2, y3, rfl⟩ := p
        exact q _ e3
    | tuple ds =>
      cases hx with
      | @tup a xs _ hs ha =>
      cases hy with
      | @tup b ys _ hs2 ha2 =>
      have hl1 := dpAll_len ha
      have hl2 := dpAll_len ha2
      have hlay : PyData.canLayAll0 ds = true := by simpa [PyData.canLay0] using hL
      have hdep : PyData.depthAll ds + 1 ≤ m := by simpa [PyData.depth] using hd
      have hww : (decide (ds.length ≤ 1000) && wideAll ds) = true := by simpa [wide] using hW
      obtain ⟨m', rfl⟩ : ∃ m', m = m' + 1 := ⟨m - 1, by omega⟩
      refine ⟨.ref b, rfl, rfl, false, rfl, iteF ?_⟩
      refine ⟨.ref b, rfl, .ref b, .ty "tuple", .type "tuple", .type "tuple", true, rfl, .ty _, ty_tup hs2, kit_ty (by decide +kernel), true, rfl, iteT ?_⟩
      refine ⟨.ref a, rfl, .ref a, .ty "tuple", .type "tuple", .type "tuple", true, rfl, .ty _, ty_tup hs, kit_ty (by decide +kernel), .ref b, rfl, .ref b, .ty "tuple", .type "tuple", .type "tuple", true, rfl, .ty _, ty_tup hs2, kit_ty (by decide +kernel), rfl, false, rfl, iteF ?_⟩
      refine ⟨.ref a, rfl, .ref a, .ty "list", .type "tuple", .type "list", false, rfl, .ty _, ty_tup hs, kit_ty (by decide +kernel), .ref b, rfl, .ref b, .ty "list", .type "tuple", .type "list", false, rfl, .ty _, ty_tup hs2, kit_ty (by decide +kernel), rfl, false, rfl, iteF ?_⟩
      refine ⟨.ref a, rfl, a, xs, rfl, .inr hs, .ref b, rfl, b, ys, rfl, .inr hs2, rfl, false, ?_, iteF ?_⟩
      · rw [hl1, hl2]
        simp
      refine ⟨.ref a, rfl, .ref b, rfl, a, b, xs, ys, rfl, .inr ⟨hs, hs2, for_zipT (K := K) (hl1.trans hl2.symm) (fun i σ H3 => Ext Ps H H3 ∧ ∃ y2 y3 : Option V, σ = [some (.ref a), some (.ref b), y2, y3]) ⟨Ext.refl ht, none, none, rfl⟩ (fun i σ H3 p => ⟨p.1.sqT hs, p.1.sqT hs2⟩) (fun i u v T2 σ H3 hu hv p hT2 => ?_) (fun σ H3 p => ?_)⟩⟩
      · obtain ⟨e3, y2, y3, rfl⟩ := p
        obtain ⟨d1, k1, k2⟩ := dpAll_get ha hu
        obtain ⟨d2, k3, k4⟩ := dpAll_get ha2 hv
        rw [k1] at k3
        cases k3
        have hmem := List.mem_of_getElem? k1
        have eT := Ext.new (o := .tup [u, v]) e3.tb hT2
        have e4 := e3.trans eT
        have hT4 : SqT K (upd H3 T2 (.tup [u, v])) T2 [u, v] := .inl (.inl upd_same)
        generalize upd H3 T2 (.tup [u, v]) = H4 at *
        refine ⟨T2, _, rfl, hT4, rfl, _, _, rfl, _, _, rfl, rfl, ?_⟩
        exact ⟨u, rfl, v, rfl, u, v, d1, rfl, e4.dp k2, e4.dp k4, lay_mem hlay hmem, wideAll_mem (Bool.and_eq_true_iff.mp hww).2 hmem, by have := dep_mem hmem; omega, by omega, e4.tb, fun H5 e5 => ⟨true, rfl, iteF ⟨e4.trans e5, _, _, rfl⟩⟩⟩
      · obtain ⟨e3, y2, y3, rfl⟩ := p
        exact q _ e3
    | dict kvs => cases hx
theorem ok_same2 (D : Def K mg "_law_same" sSame2 ["_law_found", "_law_due_here"] f fd c) (mi : mg "isinstance" = none) (mL : mg "list" = none) (mT : mg "tuple" = none) (mS : mg "str" = none) (mB : mg "bool" = none) (mI : mg "int" = none)
    (ml : mg "len" = none) (mz : mg "zip" = none) : ∀ m, FnOk P w K mg base CX0 m f fd ["_law_found", "_law_due_here"] (spSame K Ps m)
  | 0 => ⟨fun _ _ _ _ h => h.elim, fun _ _ _ _ _ _ _ _ _ _ _ _ _ h => h.elim⟩
  | m + 1 => same2_step D (ok_same2 D mi mL mT mS mB mI ml mz m) mi mL mT mS mB mI ml mz
end
end Lf

set_option maxHeartbeats 2000000
namespace Lf
open PySem PySem.Spec PyProof.Rows L2 GxR GxA SrT
/-! ### parts: the mathematics -/
theorem sub_of : ∀ {fc g : List Int}, fc.Pairwise (· < ·) → g.Pairwise (· < ·) → (∀ x ∈ g, x ∈ fc) → g.Sublist fc
  | [], [], _, _, _ => .slnil
  | [], x :: g, _, _, h => absurd (h x List.mem_cons_self) (by simp)
  | y :: r, [], _, _, _ => List.nil_sublist _
  | y :: r, x :: g, hf, hg, h => by
    obtain ⟨f1, f2⟩ := List.pairwise_cons.mp hf
    obtain ⟨g1, g2⟩ := List.pairwise_cons.mp hg
    rcases List.mem_cons.mp (h x List.mem_cons_self) with e | e
    · subst e
      refine List.Sublist.cons_cons _ (sub_of f2 g2 fun z hz => ?_)
      rcases List.mem_cons.mp (h z (List.mem_cons_of_mem _ hz)) with q | q
      · have := g1 z hz
        omega
      · exact q
    · refine List.Sublist.cons _ (sub_of f2 hg fun z hz => ?_)
      have hxy := f1 x e
      rcases List.mem_cons.mp (h z hz) with q | q
      · rcases List.mem_cons.mp hz with q2 | q2
        · rw [q2]
          exact e
        · have := g1 z q2
          omega
      · exact q
theorem subs_nodup : ∀ (m : Nat) (l : List Int), l.length = m → l.Nodup → (subsL l).Nodup
  | 0, l, hl, _ => by
    rw [List.length_eq_zero_iff.mp hl]
    show ([[]] : List (List Int)).Nodup
    simp
  | m + 1, l, hl, nd => by
    rcases List.eq_nil_or_concat l with rfl | ⟨r, p, rfl⟩
    · simp at hl
    · rw [List.concat_eq_append] at *
      have hr : r.length = m := by simpa using hl
      obtain ⟨n1, n2, n3⟩ := List.nodup_append.mp nd
      have ih := subs_nodup m r hr n1
      have e : subsL (r ++ [p]) = grow (subsL r) p := by
        unfold subsL
        rw [List.foldl_append]
        rfl
      rw [e]
      unfold grow
      refine List.nodup_append.mpr ⟨ih, ?_, fun a ha b hb e2 => ?_⟩
      · exact List.Pairwise.map _ (fun a b hab e3 => hab (List.append_cancel_right e3)) ih
      · obtain ⟨c, _, rfl⟩ := List.mem_map.mp hb
        have hp : p ∈ a := by
          rw [e2]
          exact List.mem_append_right _ (List.mem_singleton.mpr rfl)
        exact n3 p ((mem_subs.mp ha).subset hp) p (List.mem_singleton.mpr rfl) rfl
theorem hasAll_true {fc pts : List Int} : hasAll fc pts = true ↔ ∀ p ∈ pts, p ∈ fc := by
  unfold hasAll
  rw [List.all_eq_true]
  constructor
  · intro h p hp
    simpa using h p hp
  · intro h p hp
    simpa using h p hp
theorem inSome_true {pts : List Int} {laid : List (List Int)} : inSome pts laid = true ↔ ∃ f ∈ laid, ∀ p ∈ pts, p ∈ f := by
  unfold inSome
  rw [List.any_eq_true]
  constructor
  · rintro ⟨f, hf, h⟩
    exact ⟨f, hf, hasAll_true.mp h⟩
  · rintro ⟨f, hf, h⟩
    exact ⟨f, hf, hasAll_true.mpr h⟩
theorem lex_le {x y : List Int} (h : lex x y = true) : le x y = true := by
  have z := NtL.lex_asym x y h
  simp [le, z]
theorem strict_eq {l m : List (List Int)} (hl : l.Pairwise fun x y => lex x y = true) (hm : m.Pairwise fun x y => le x y = true) (nm : m.Nodup) (h : ∀ z, z ∈ l ↔ z ∈ m) : l = m :=
  sorted_eq ((List.perm_ext_iff_of_nodup (lex_nd hl) nm).mpr h) (hl.imp lex_le) hm
/-- the parts of m points of a stack -/
def partsN (n : Nat) (fss : List (List Int)) (m : Nat) : List (List Int) := (allF n m).filter fun z => inSome z fss
theorem mem_partsN {n m : Nat} {fss : List (List Int)} {z : List Int} : z ∈ partsN n fss m ↔ RisB n z ∧ z.length = m ∧ ∃ f ∈ fss, ∀ x ∈ z, x ∈ f := by
  unfold partsN
  rw [List.mem_filter, mem_allF, inSome_true]
  constructor
  · rintro ⟨⟨h1, h2⟩, h3⟩
    exact ⟨h1, h2, h3⟩
  · rintro ⟨h1, h2, h3⟩
    exact ⟨⟨h1, h2⟩, h3⟩
theorem partsN_pw (n m : Nat) (fss : List (List Int)) : (partsN n fss m).Pairwise fun x y => le x y = true := (sortL_pw _).filter _
theorem partsN_nd (n m : Nat) (fss : List (List Int)) : (partsN n fss m).Nodup := (nodup_allF n m).filter _
/-- the faces of a stack as told -/
structure FacesOk (n k : Nat) (fss : List (List Int)) : Prop where
  len : ∀ f ∈ fss, f.length = k
  ris : ∀ f ∈ fss, RisB n f
theorem StkOk.faces {n k : Int} {fss : List (List Int)} (S : StkOk n k fss) : FacesOk n.toNat k.toNat fss := by
  have h1 := S.n1
  have h2 := S.k0
  exact ⟨fun f hf => by have := S.len f hf; omega, fun f hf => ⟨S.ris f hf, fun i hi => by have := S.bel f hf i hi; omega⟩⟩
theorem mem_partsN' {n k m : Nat} {fss : List (List Int)} (F : FacesOk n k fss) {z : List Int} : z ∈ partsN n fss m ↔ z.length = m ∧ ∃ f ∈ fss, z.Sublist f := by
  rw [mem_partsN]
  constructor
  · rintro ⟨h1, h2, f, hf, h3⟩
    exact ⟨h2, f, hf, sub_of (F.ris f hf).1 h1.1 h3⟩
  · rintro ⟨h2, f, hf, h3⟩
    exact ⟨⟨(F.ris f hf).1.sublist h3, fun i hi => (F.ris f hf).2 i (h3.subset hi)⟩, h2, f, hf, fun x hx => h3.subset hx⟩
theorem few_all : ((List.range 9).all fun n => (List.range 4).all fun m => decide (((allK n m).filter fun g => decide (g.length = m)).length ≤ 56)) = true := by decide +kernel
theorem allF_few {n m : Nat} (hn : n ≤ 8) (hm : m ≤ 3) : (allF n m).length ≤ 56 := by
  unfold allF
  rw [(sortL_perm _).length_eq]
  have z := List.all_eq_true.mp (List.all_eq_true.mp few_all n (List.mem_range.mpr (by omega))) m (List.mem_range.mpr (by omega))
  exact of_decide_eq_true z
/-- few parts of each number of points -/
theorem partsN_few {n k m : Nat} {fss : List (List Int)} (F : FacesOk n k fss) (hn : n ≤ 8) (hk : k ≤ 4) (hm : m ≤ k) (h60 : fss.length ≤ 60) : (partsN n fss m).length ≤ 60 := by
  by_cases h3 : m ≤ 3
  · have := allF_few hn h3
    have h2 := List.length_filter_le (fun z => inSome z fss) (allF n m)
    unfold partsN
    omega
  · have e : m = k := by omega
    refine Nat.le_trans (nd_le (partsN_nd n m fss) fun z hz => ?_) h60
    obtain ⟨h1, f, hf, h2⟩ := (mem_partsN' F).mp hz
    rw [List.Sublist.eq_of_length h2 (by rw [F.len f hf]; omega)]
    exact hf
/-! ### a walk that adds to a set -/
section
variable {K : PySem.W.Frag} {g : TG} {tt : TT} {ta : TD} {vs : List Nat} {σ : L2.St} {Qd : Hp → Prop} {H1 : Hp}
theorem wk_tup {a : Addr} {xs : List V} (Pv : Nat → Hp → Prop) (h0 : Pv 0 H1) (hl : ∀ i H, Pv i H → SqT K H a xs)
    (hs : ∀ i x H, xs[i]? = some x → Pv i H → g x (wipe σ vs) H fun σ2 H2 => wipe σ2 vs = wipe σ vs ∧ tt σ2 H2 fun b H3 => if b = true then ta σ2 H3 (Pv (i + 1)) else Pv (i + 1) H3) (hd : ∀ H, Pv xs.length H → Qd H) :
    ∃ W : Nat → Nat → Hp → Prop, (∃ m, W 0 m H1) ∧ tWk (Itt K a) σ vs g tt ta Qd W := by
  refine ⟨fun i m H => m = xs.length - i ∧ i ≤ xs.length ∧ Pv i H, ⟨xs.length, by simp, Nat.zero_le _, h0⟩, ?_⟩
  rintro i m H ⟨rfl, hi, p⟩
  by_cases hlt : i < xs.length
  · refine .inr ⟨⟨xs, xs[i], hl i H p, List.getElem?_eq_getElem hlt⟩, Pv (i + 1), fun H' p' => ⟨xs.length - (i + 1), by omega, rfl, hlt, p'⟩, fun x H' y => ?_⟩
    obtain ⟨rfl, y⟩ := y
    exact hs i x _ (y xs (hl i _ p)) p
  · have ei : i = xs.length := by omega
    subst ei
    exact .inl ⟨⟨xs, hl _ H p, Nat.le_refl _⟩, hd H p⟩
theorem wk_lst {a : Addr} {xs : List V} (Pv : Nat → Hp → Prop) (h0 : Pv 0 H1) (hl : ∀ i H, Pv i H → SqL K H a xs)
    (hs : ∀ i x H, xs[i]? = some x → Pv i H → g x (wipe σ vs) H fun σ2 H2 => wipe σ2 vs = wipe σ vs ∧ tt σ2 H2 fun b H3 => if b = true then ta σ2 H3 (Pv (i + 1)) else Pv (i + 1) H3) (hd : ∀ H, Pv xs.length H → Qd H) :
    ∃ W : Nat → Nat → Hp → Prop, (∃ m, W 0 m H1) ∧ tWk (Itl K a) σ vs g tt ta Qd W := by
  refine ⟨fun i m H => m = xs.length - i ∧ i ≤ xs.length ∧ Pv i H, ⟨xs.length, by simp, Nat.zero_le _, h0⟩, ?_⟩
  rintro i m H ⟨rfl, hi, p⟩
  by_cases hlt : i < xs.length
  · refine .inr ⟨⟨xs, xs[i], hl i H p, List.getElem?_eq_getElem hlt⟩, Pv (i + 1), fun H' p' => ⟨xs.length - (i + 1), by omega, rfl, hlt, p'⟩, fun x H' y => ?_⟩
    obtain ⟨rfl, y⟩ := y
    exact hs i x _ (y xs (hl i _ p)) p
  · have ei : i = xs.length := by omega
    subst ei
    exact .inl ⟨⟨xs, hl _ H p, Nat.le_refl _⟩, hd H p⟩
end
/-- the set at D has got the tuples of seen -/
structure SP (K : PySem.W.Frag) (P : Program) (w : World) (Ps : Tbs) (H0 : Hp) (D : Addr) (seen : List (List Int)) (H : Hp) : Prop where
  ext : Ext Ps H0 H
  at_ : ∃ L, H D = some (SetTO P w D L) ∧ (∀ p ∈ L, SqT K H p.1 (p.2.map V.int)) ∧ (L.map (·.2)).Nodup ∧ ∀ z, z ∈ L.map (·.2) ↔ z ∈ seen
section
variable {K : PySem.W.Frag} {P : Program} {w : World} {Ps : Tbs} {H0 H H' : Hp} {D : Addr} {seen : List (List Int)}
theorem SP.start (ht : Tb Ps H0) (hD : H0 D = none) : SP K P w Ps H0 D [] (upd H0 D (SetTO P w D [])) := ⟨Ext.new ht hD, [], upd_same, fun p hp => (nomatch hp), List.nodup_nil, fun z => Iff.rfl⟩
theorem SP.skip (h : SP K P w Ps H0 D seen H) (e : Ext Ps H H') : SP K P w Ps H0 D seen H' := by
  obtain ⟨L, h1, h2, h3, h4⟩ := h.at_
  exact ⟨h.ext.trans e, L, e.old _ _ h1 (fun q z => by cases z), fun p hp => e.sqT (h2 p hp), h3, h4⟩
theorem sqT_set {L L' : List (Addr × List Int)} {t : Addr} {xs : List V} (hD : H D = some (SetTO P w D L)) (h : SqT K H t xs) : SqT K (upd H D (SetTO P w D L')) t xs := by
  rcases h with (h | ⟨o, h⟩) | h
  · exact .inl (.inl (by rw [upd_ne (ne_of h hD (by intro z; cases z))]; exact h))
  · exact .inl (.inr ⟨o, by rw [upd_ne (ne_of h hD (by intro z; cases z))]; exact h⟩)
  · exact .inr h
/-- one more -/
theorem SP.put {U : List (List Int)} {x : Addr} {k : List Int} (hD : H0 D = none) (h : SP K P w Ps H0 D seen H) (hx : SqT K H x (k.map V.int)) (hU : U.length ≤ 60) (hs : ∀ z ∈ seen, z ∈ U) :
    ∃ L, H D = some (SetTO P w D L) ∧ (∀ p ∈ L, SqT K H p.1 (p.2.map V.int)) ∧ L.length + 1 < 64 ∧ ∀ L', Grown L x k L' → SP K P w Ps H0 D (seen ++ [k]) (upd H D (SetTO P w D L')) := by
  obtain ⟨L, h1, h2, h3, h4⟩ := h.at_
  refine ⟨L, h1, h2, ?_, fun L' gr => ?_⟩
  · have z := nd_le h3 (D := U) fun z hz => hs z ((h4 z).mp hz)
    rw [List.length_map] at z
    omega
  · have ex : Ext Ps H0 (upd H D (SetTO P w D L')) := h.ext.write hD h1 (fun q z => by cases z) (fun q => ext_ne_code fun h' oc vs R g e => by
      obtain ⟨⟨es, ep, t, ⟨o, e1, e2, e3⟩, _⟩⟩ := R
      rw [e1] at g
      cases g
      rw [e] at e3
      cases e3)
    by_cases hk : k ∈ L.map (·.2)
    · have e := gr.1 hk
      subst e
      refine ⟨ex, L', upd_same, fun p hp => sqT_set h1 (h2 p hp), h3, fun z => ?_⟩
      rw [List.mem_append, ← h4 z]
      constructor
      · exact .inl
      · rintro (q | q)
        · exact q
        · rw [List.mem_singleton.mp q]
          exact hk
    · have pm := gr.2 hk
      have pm2 := pm.map (·.2)
      refine ⟨ex, L', upd_same, fun p hp => ?_, ?_, fun z => ?_⟩
      · rcases List.mem_cons.mp (pm.mem_iff.mp hp) with e | q
        · rw [e]
          exact sqT_set h1 hx
        · exact sqT_set h1 (h2 p q)
      · rw [pm2.nodup_iff, List.map_cons, List.nodup_cons]
        exact ⟨hk, h3⟩
      · rw [pm2.mem_iff, List.map_cons, List.mem_cons, List.mem_append, List.mem_singleton, h4 z]
        exact Or.comm
end
end Lf

set_option maxHeartbeats 2000000
namespace Lf
open PySem PySem.Spec PyProof.Rows L2 GxR GxA SrT
abbrev nPartsOf : List Str := ["stack", "many", "face", "part"]
section
variable {P : Program} {w : World} {K : PySem.W.Frag} {mg : Str → Option Value} {base : Heap} {Ps : Tbs} {H H' H0 : Hp} {k : Nat} {f c : Addr} {fd : FuncData}
/-- what the set has got from the first faces -/
def gotP (fss : List (List Int)) (m : Nat) : List (List Int) := fss.flatMap fun f => (sortL (subsL f)).filter fun p => decide (p.length = m)
theorem mem_gotP {fss : List (List Int)} {m : Nat} {z : List Int} : z ∈ gotP fss m ↔ z.length = m ∧ ∃ f ∈ fss, z.Sublist f := by
  unfold gotP
  rw [List.mem_flatMap]
  constructor
  · rintro ⟨f, hf, h⟩
    obtain ⟨h1, h2⟩ := List.mem_filter.mp h
    exact ⟨of_decide_eq_true h2, f, hf, mem_subs.mp ((sortL_perm _).mem_iff.mp h1)⟩
  · rintro ⟨h1, f, hf, h2⟩
    exact ⟨f, hf, List.mem_filter.mpr ⟨(sortL_perm _).mem_iff.mpr (mem_subs.mpr h2), decide_eq_true h1⟩⟩
theorem gotP_take {fss : List (List Int)} {m i : Nat} {f : List Int} (h : fss[i]? = some f) : gotP (fss.take (i + 1)) m = gotP (fss.take i) m ++ (sortL (subsL f)).filter fun p => decide (p.length = m) := by
  unfold gotP
  rw [List.take_add_one, h, List.flatMap_append]
  simp
def spPartsOf (K : PySem.W.Frag) (Ps : Tbs) : Sp := fun vs H Q _ => ∃ (x : V) (n kk m : Int) (fss : List (List Int)), vs = [x, .int m] ∧ Stk K H x n kk fss ∧ StkOk n kk fss ∧ fss.length ≤ 60 ∧ 0 ≤ m ∧ m ≤ kk ∧ Tb Ps H ∧
  ∀ (l : Addr) (ys : List V) (H' : Hp), Ext Ps H H' → H l = none → H' l = some (.lst ys) → Paired (TupI K H') ys (partsN n.toNat fss m.toNat) → Q (.ref l) H'
end
end Lf

set_option maxHeartbeats 2000000
namespace Lf
open PySem PySem.Spec PyProof.Rows L2 GxR GxA SrT
abbrev nLink : List Str := ["stack", "part", "n", "k", "faces", "rest", "face"]
section
variable {P : Program} {w : World} {K : PySem.W.Frag} {mg : Str → Option Value} {base : Heap} {Ps : Tbs} {H H' H0 : Hp} {k : Nat} {f c : Addr} {fd : FuncData}
/-- a stack, and a rising tuple of points -/
structure AskP (K : PySem.W.Frag) (Ps : Tbs) (H : Hp) (x y : V) (n k : Int) (fss : List (List Int)) (z : List Int) : Prop where
  stk : Stk K H x n k fss
  ok : StkOk n k fss
  part : TupI K H y z
  ris : RisB n.toNat z
  tb : Tb Ps H
theorem AskP.ext {x y : V} {n k : Int} {fss : List (List Int)} {z : List Int} (h : AskP K Ps H x y n k fss z) (e : Ext Ps H H') : AskP K Ps H' x y n k fss z := ⟨e.stk h.stk, h.ok, e.tupI h.part, h.ris, e.tb⟩
theorem RisB.len {n : Nat} {g : List Int} (h : RisB n g) : g.length ≤ n := by
  have z := nd_le h.nd (D := rng n) fun x hx => in_rng (h.2 x hx).1 (h.2 x hx).2
  rw [rng_len] at z
  exact z
/-! ### is_part, need_part -/
def spIsPart (K : PySem.W.Frag) (Ps : Tbs) : Sp := fun vs H Q _ => ∃ (x y : V) (n kk : Int) (fss : List (List Int)) (z : List Int), vs = [x, y] ∧ AskP K Ps H x y n kk fss z ∧ ∀ H', Ext Ps H H' → Q (.bl (inSome z fss)) H'
def spNeedPart (K : PySem.W.Frag) (Ps : Tbs) : Sp := fun vs H Q _ => ∃ (x y : V) (n kk : Int) (fss : List (List Int)) (z : List Int), vs = [x, y] ∧ AskP K Ps H x y n kk fss z ∧ inSome z fss = true ∧ ∀ H', Ext Ps H H' → Q .non H'
/-! ### sides -/
def sidesN (fc : List Int) (kk : Int) : List (List Int) := (sortL (subsL fc)).filter fun p => decide ((p.length : Int) = kk - 1)
def spSides (K : PySem.W.Frag) (Ps : Tbs) : Sp := fun vs H Q _ => ∃ (x : V) (n kk i : Int) (fss : List (List Int)) (fc : List Int), vs = [x, .int i] ∧ Stk K H x n kk fss ∧ StkOk n kk fss ∧ 0 ≤ i ∧ i < (fss.length : Int) ∧ fss[i.toNat]? = some fc ∧ Tb Ps H ∧
  ∀ (l : Addr) (ys : List V) (H' : Hp), Ext Ps H H' → H l = none → H' l = some (.lst ys) → Paired (TupI K H') ys (sidesN fc kk) → Q (.ref l) H'
end
end Lf

set_option maxHeartbeats 2000000
namespace Lf
open PySem PySem.Spec PyProof.Rows L2 GxR GxA SrT
/-! ### links: the mathematics -/
def restL (fss : List (List Int)) (z : List Int) : List (List Int) := (fss.filter fun f => hasAll f z).map fun f => lessL f z
def linkL (fss : List (List Int)) (z : List Int) : List (List Int) := sortL (restL fss z)
theorem mem_lessL {f z : List Int} {x : Int} : x ∈ lessL f z ↔ x ∈ f ∧ x ∉ z := by
  unfold lessL
  rw [List.mem_filter]
  simp
theorem lessL_sub (f z : List Int) : (lessL f z).Sublist f := List.filter_sublist
theorem mem_linkL {fss : List (List Int)} {z g : List Int} : g ∈ linkL fss z ↔ ∃ f ∈ fss, (∀ x ∈ z, x ∈ f) ∧ g = lessL f z := by
  unfold linkL restL
  rw [(sortL_perm _).mem_iff, List.mem_map]
  constructor
  · rintro ⟨f, hf, e⟩
    obtain ⟨h1, h2⟩ := List.mem_filter.mp hf
    exact ⟨f, h1, hasAll_true.mp h2, e.symm⟩
  · rintro ⟨f, h1, h2, e⟩
    exact ⟨f, List.mem_filter.mpr ⟨h1, hasAll_true.mpr h2⟩, e.symm⟩
/-- how many are left -/
theorem lessL_len {f z : List Int} (hf : f.Nodup) (hz : z.Nodup) (h : ∀ x ∈ z, x ∈ f) : (lessL f z).length + z.length = f.length := by
  have e1 := filt_split (fun p => !decide (p ∈ z)) f
  have e2 : (f.filter fun x => !!decide (x ∈ z)).length = z.length := by
    have p : (f.filter fun x => !!decide (x ∈ z)).Perm z := (List.perm_ext_iff_of_nodup (hf.filter _) hz).mpr fun x => by
      rw [List.mem_filter]
      constructor
      · rintro ⟨_, h2⟩
        simpa using h2
      · intro hx
        exact ⟨h x hx, by simpa using hx⟩
    exact p.length_eq
  unfold lessL
  omega
/-- two rising ones of which the same is left are the same -/
theorem lessL_inj {n : Nat} {f g z : List Int} (hf : RisB n f) (hg : RisB n g) (h1 : ∀ x ∈ z, x ∈ f) (h2 : ∀ x ∈ z, x ∈ g) (e : lessL f z = lessL g z) : f = g := by
  have p : f.Perm g := (List.perm_ext_iff_of_nodup hf.nd hg.nd).mpr fun x => by
    by_cases hx : x ∈ z
    · exact ⟨fun _ => h2 x hx, fun _ => h1 x hx⟩
    · have e' : x ∈ lessL f z ↔ x ∈ lessL g z := by rw [e]
      rw [mem_lessL, mem_lessL] at e'
      constructor
      · intro h
        exact (e'.mp ⟨h, hx⟩).1
      · intro h
        exact (e'.mpr ⟨h, hx⟩).1
  exact List.Perm.eq_of_pairwise (fun a b _ _ h1 h2 => by omega) hf.1 hg.1 p
theorem nd_restL {n : Nat} {fss : List (List Int)} {z : List Int} (hr : ∀ f ∈ fss, RisB n f) (nd : fss.Nodup) : (restL fss z).Nodup := by
  unfold restL
  rw [List.nodup_iff_pairwise_ne, List.pairwise_map]
  refine List.Pairwise.imp_of_mem (fun {a b} ha hb hab e => ?_) (nd.filter _)
  obtain ⟨a1, a2⟩ := List.mem_filter.mp ha
  obtain ⟨b1, b2⟩ := List.mem_filter.mp hb
  exact hab (lessL_inj (hr a a1) (hr b b1) (hasAll_true.mp a2) (hasAll_true.mp b2) e)
theorem le_strict {l : List (List Int)} (h : l.Pairwise fun x y => le x y = true) (nd : l.Nodup) : l.Pairwise fun x y => lex x y = true :=
  List.Pairwise.imp₂ (fun a b h1 h2 => by
    cases e : lex a b with
    | true => rfl
    | false =>
      have e2 : lex b a = false := by simpa [le] using h1
      exact absurd (lex_tot a b e e2) h2) h nd
/-- a link is a stack -/
theorem StkOk.link {n k : Int} {fss : List (List Int)} {z : List Int} (S : StkOk n k fss) (hz : RisB n.toNat z) (hp : inSome z fss = true) : StkOk n (k - z.length) (linkL fss z) := by
  have F := S.faces
  have hn1 := S.n1
  have hk0 := S.k0
  have hk4 := S.k4
  have hkn := S.kn
  have hn8 := S.n8
  have nd : fss.Nodup := lex_nd S.srt
  obtain ⟨f0, hf0, hs0⟩ := inSome_true.mp hp
  have hl : ∀ g ∈ linkL fss z, g.length + z.length = k.toNat ∧ RisB n.toNat g := fun g hg => by
    obtain ⟨f, hf, hs, rfl⟩ := mem_linkL.mp hg
    have hr := F.ris f hf
    refine ⟨?_, hr.1.sublist (lessL_sub f z), fun i hi => hr.2 i ((lessL_sub f z).subset hi)⟩
    rw [← F.len f hf]
    exact lessL_len hr.nd hz.nd hs
  have h0 := hl _ (mem_linkL.mpr ⟨f0, hf0, hs0, rfl⟩)
  refine ⟨hn1, hn8, by omega, by omega, by omega, ?_, ?_, fun g hg => by have := (hl g hg).1; omega, fun g hg => (hl g hg).2.1, fun g hg i hi => by have := (hl g hg).2.2 i hi; omega, le_strict (sortL_pw _) ((sortL_perm _).nodup_iff.mpr (nd_restL F.ris nd))⟩
  · exact List.length_pos_of_mem (mem_linkL.mpr ⟨f0, hf0, hs0, rfl⟩)
  · unfold linkL restL
    rw [(sortL_perm _).length_eq, List.length_map]
    exact Nat.le_trans (List.length_filter_le _ _) S.l70
theorem linkL_le (fss : List (List Int)) (z : List Int) : (linkL fss z).length ≤ fss.length := by
  unfold linkL restL
  rw [(sortL_perm _).length_eq, List.length_map]
  exact List.length_filter_le _ _
section
variable {P : Program} {w : World} {K : PySem.W.Frag} {mg : Str → Option Value} {base : Heap} {Ps : Tbs} {H H' H0 : Hp} {k : Nat} {f c : Addr} {fd : FuncData}
def spLink (K : PySem.W.Frag) (Ps : Tbs) : Sp := fun vs H Q _ => ∃ (x y : V) (n kk : Int) (fss : List (List Int)) (z : List Int), vs = [x, y] ∧ AskP K Ps H x y n kk fss z ∧ inSome z fss = true ∧ ∀ v H', Ext Ps H H' → Stk K H' v n (kk - z.length) (linkL fss z) → Q v H'
theorem fmap_take {α β : Type} (p : α → Bool) (g : α → β) {l : List α} {i : Nat} {y : α} (h : l[i]? = some y) : ((l.take (i + 1)).filter p).map g = ((l.take i).filter p).map g ++ (if p y = true then [g y] else []) := by
  rw [filt_take p h, List.map_append]
  cases p y <;> rfl
end
end Lf

set_option maxHeartbeats 2000000
namespace Lf
open PySem PySem.Spec PyProof.Rows L2 GxR GxA SrT
/-! ### a stack's data -/
def stkD (n k : Int) (fss : List (List Int)) : PyData := .tuple [.int n, .int k, .tuple (fss.map tD)]
section
variable {K : PySem.W.Frag} {H : Hp}
theorem dp_stk {v : V} {n k : Int} {fss : List (List Int)} (h : Stk K H v n k fss) : Dp K H v (stkD n k fss) := by
  obtain ⟨a, fa, xs, rfl, h1, h2, h3⟩ := h
  exact .tup h1 (.cons (.int n) (.cons (.int k) (.cons (.tup h2 (dp_tups h3)) .nil)))
end
theorem wide_ints : ∀ ns : List Int, wideAll (iD ns) = true
  | [] => rfl
  | i :: ns => by
    show wideAll (.int i :: iD ns) = true
    rw [wideAll, wide_ints ns]
    rfl
theorem wide_tups {fss : List (List Int)} (h : ∀ f ∈ fss, f.length ≤ 1000) : wideAll (fss.map tD) = true := by
  induction fss with
  | nil => rfl
  | cons f fss ih =>
    rw [List.map_cons, wideAll, ih fun g hg => h g (List.mem_cons_of_mem _ hg), Bool.and_true]
    show wide (.tuple (iD f)) = true
    rw [wide, wide_ints, Bool.and_true]
    refine decide_eq_true ?_
    rw [List.length_map]
    exact h f List.mem_cons_self
theorem stkD_ok {n k : Int} {fss : List (List Int)} (h : fss.length ≤ 1000) (h4 : ∀ f ∈ fss, f.length ≤ 4) : (stkD n k fss).canLay0 = true ∧ wide (stkD n k fss) = true ∧ (stkD n k fss).depth ≤ 3 := by
  refine ⟨?_, ?_, ?_⟩
  · simp [stkD, PyData.canLay0, PyData.canLayAll0, lay_tups]
  · have z := wide_tups (fss := fss) fun f hf => by have := h4 f hf; omega
    unfold stkD
    rw [wide, wideAll, wideAll, wideAll, wideAll, wide, wide, wide, z, Bool.and_true, Bool.and_true]
    simp only [List.length_cons, List.length_nil, List.length_map, Bool.true_and, Bool.and_eq_true, decide_eq_true_eq]
    omega
  · have z := dep_tups fss
    simp only [stkD, PyData.depth, PyData.depthAll]
    omega
theorem StkOk.data {n k : Int} {fss : List (List Int)} (S : StkOk n k fss) : (stkD n k fss).canLay0 = true ∧ wide (stkD n k fss) = true ∧ (stkD n k fss).depth ≤ 3 := stkD_ok (by have := S.l70; omega) S.len4
/-- all faces of so many points -/
theorem all_stk {n k : Nat} (h1 : 1 ≤ n) (h8 : n ≤ 8) (hk : k ≤ n) (h4 : k ≤ 4) (hl : (allF n k).length ≤ 70) : StkOk n k (allF n k) := by
  refine ⟨by omega, by omega, by omega, by omega, by omega, allF_ne hk, hl, fun f hf => ?_, fun f hf => (mem_allF.mp hf).1.1, fun f hf i hi => (mem_allF.mp hf).1.2 i hi, le_strict (sortL_pw _) (nodup_allF n k)⟩
  have := (mem_allF.mp hf).2
  omega
theorem paired_drop {α γ : Type} {G : α → γ → Prop} : ∀ {m : Nat} {xs : List α} {ys : List γ}, Paired G xs ys → Paired G (xs.drop m) (ys.drop m)
  | 0, _, _, h => h
  | m + 1, _, _, .nil => .nil
  | m + 1, _, _, .cons _ t => paired_drop (m := m) t
/-- t[m:] -/
theorem cut_from {xs : List V} {m : Nat} (h : m ≤ xs.length) : cutV xs (some (m : Int)) none = xs.drop m := by
  unfold cutV
  rw [HT.sIx_nat, HT.sIx_none, Nat.min_eq_left h, List.take_of_length_le]
  rw [List.length_drop]
  omega
/-- the faces of k of m points from lo on, as they rise -/
def pickF : Nat → Nat → Nat → List (List Int)
  | _, _, 0 => [[]]
  | 0, _, _ + 1 => []
  | m + 1, lo, k + 1 => (pickF m (lo + 1) k).map (fun g => (lo : Int) :: g) ++ pickF m (lo + 1) (k + 1)
theorem pick83 : allF 8 3 = pickF 8 0 3 := by
  unfold allF
  exact (eq_sortL (by decide +kernel) (by decide +kernel)).symm
theorem pick84 : allF 8 4 = pickF 8 0 4 := by
  unfold allF
  exact (eq_sortL (by decide +kernel) (by decide +kernel)).symm
end Lf

set_option maxHeartbeats 1000000
/-! defs that refuse, lambdas handed to a def that catches -/
namespace Lf
open PySem PySem.Spec PyProof.Rows L2 GxR GxA SrT
section
variable {P : Program} {w : World} {K : PySem.W.Frag} {mg : Str → Option Value} {base : Heap}
/-- a def that may refuse -/
theorem Def.okX {x : Str} {st : Stmt} {f c : Addr} {fd : FuncData} {N ps : List Str} {k : Nat} {sp : Sp} (D : Def K mg x st ps f fd c) (S : FnScope N ps (defScope st)) (len : ∀ vs H Q E, sp vs H Q E → vs.length = ps.length)
    (hbody : ∀ (A : Around) (outer : List Env) (s : Shared) (H : Hp) (vs : List V) (Q : VK) (E : XK), Room k (A.deeper (envOfC x (defScope st) s.heap.objs.size f (.ref c))) → Takes (cxOf (L2.CX P w) P w K mg base N x (defScope st) f (.ref c) A outer s H E) (fun cls d _ H' => E cls d H') → sp vs H Q E →
      ∃ t, PSs (cxOf (L2.CX P w) P w K mg base N x (defScope st) f (.ref c) A outer s H E) (defBody st) t ∧ t { nx := fun _ H' => Q .non H', rt := Q } (start N vs) H) : FnOk P w K mg base (L2.CX P w) (k + 1) f fd ps sp := by
  obtain ⟨oc, od, kV, doc, pm, an, ct, osl, rfl, lk, hcd⟩ := D.F.ex
  exact fn_of lk hcd S len fun A outer s H vs Q E hr hsp => hbody A outer s H vs Q E hr (takes_of (E := E) rfl rfl rfl rfl) hsp
end
/-- a call of a def that may refuse; what it lets out is taken -/
theorem pclX {X : Cx} {x : Str} {st : Stmt} {ps : List Str} {f c : Addr} {fd : FuncData} {k : Nat} {sp : Sp} {e : Expr} {es : List Expr} {t : TA} {p pos : Pos} {E : XK} (D : Def X.K X.mg x st ps f fd c) (G : FnOk X.prog X.w X.K X.mg X.base (L2.CX X.prog X.w) k f fd ps sp) (hr : Room k X.A) (tk : Takes X fun cls d _ H => E cls d H) (ha : PA X (e :: es) t)
    (hg : Gl X x := by rfl) (hdb : (x == ("__debug__" : Str)) = false := by decide) (he : starEach (e :: es) X.env = (false, eval e X.env) :: starEach es X.env := by rfl) (hpl : (backTo pos (starEach es X.env)).any (·.1) = false := by rfl) :
    PE X (.Call (.Name x p) (e :: es) [] pos) (tCall sp [] E t) := pe_call G hr hg D.g D.F.kp D.b .nil (passes_call tk fun _ _ _ _ h => h) ha hdb he hpl
/-- the same, where it refuses nothing -/
theorem pclN {X : Cx} {x : Str} {st : Stmt} {ps : List Str} {f c : Addr} {fd : FuncData} {k : Nat} {sp : Sp} {e : Expr} {es : List Expr} {t : TA} {p pos : Pos} (D : Def X.K X.mg x st ps f fd c) (G : FnOk X.prog X.w X.K X.mg X.base (L2.CX X.prog X.w) k f fd ps sp) (hr : Room k X.A) (ha : PA X (e :: es) t)
    (hg : Gl X x := by rfl) (hdb : (x == ("__debug__" : Str)) = false := by decide) (he : starEach (e :: es) X.env = (false, eval e X.env) :: starEach es X.env := by rfl) (hpl : (backTo pos (starEach es X.env)).any (·.1) = false := by rfl) :
    PE X (.Call (.Name x p) (e :: es) [] pos) (tCall sp [] E0 t) := pe_call G hr hg D.g D.F.kp D.b .nil passL ha hdb he hpl
/-- a class of refusals -/
structure Ref (K : PySem.W.Frag) (mg : Str → Option Value) (x : Str) (C : Addr) : Prop where
  ex : ∃ (B newId initId : String) (bmB : List Value), ExcBaseFacts B newId initId bmB ∧ PySem.W.excIn K C bmB newId = true
  g : mg x = some (.ref C)
  kp : PySem.W.keepIn K (.ref C) = true
  sub : PySem.W.subIn K (.ref C) (.type "BaseException") = some true
  ty : PySem.W.typeIn K (.ref C) = some (.type "type")
/-- raise x('..') -/
theorem ps_refuse {X : Cx} {x m : Str} {C : Addr} {j : Nat} {p p2 pos pos' : Pos} {E : XK} (R : Ref X.K X.mg x C) (tk : Takes X fun cls d _ H => E cls d H) (hc : X.calm = true := by rfl) (hg : Gl X x := by rfl) (hdb : (x == ("__debug__" : Str)) = false := by decide) :
    PS X (.Raise (some (.Call (.Name x p) [.Constant (.str m) j p2] [] pos)) none pos') (fun _ _ H => E (.ref C) none H) := by
  obtain ⟨B, nI, iI, bmB, F, q⟩ := R.ex
  exact ps_raise hc tk (pmk_own F q R.g R.kp (raises_own R.sub R.ty) hg hdb)
/-- isinstance(e, c), e a pinned refusal -/
theorem call_isP {X : Cx} {a D : Addr} {oe : Obj} (C : ExcC X.K D) (hz : Zc (.ref D) none oe) (hf : ∃ vs, oe.data = .fields vs) (hp : (a, oe) ∈ X.pn) : CallR X (.builtin "isinstance") (rIsE X.K D a) := by
  intro pins s σ H xs us Q I r h
  obtain ⟨c, cv, b, rfl, hcv, e, q⟩ := h
  obtain ⟨u1, u2, rfl, r1, r2⟩ := vals2 r
  cases r1
  have ec := hcv _ r2
  subst ec
  have hget := (I.pin (a, oe) (List.mem_append_left _ hp)).1
  obtain ⟨vs, hv⟩ := hf
  obtain ⟨hz1, hz2⟩ := hz
  have J : PySem.W.InstAt s.heap a oe D none := by
    cases oe
    cases hz1
    cases hz2
    cases hv
    exact ⟨hget, rfl, rfl, trivial⟩
  refine PySem.W.kia_one (PySem.W.handS_kitx_exc C.hg C.hk C.hs C.hd C.ha C.hn C.ht C.hm) I.kIn J e (fun z => nomatch z) fun tk => ?_
  exact ⟨.bl b, H, I.kept (t' := tk) fun _ _ z => z, rfl, q⟩
/-- l.count(x), data -/
def rCountD (K : PySem.W.Frag) : V → List V → Hp → VK → Prop := fun x xs H Q => ∃ (a : Addr) (y : V) (d : PyData) (ds : List PyData), x = V.ref a ∧ xs = [y] ∧ Dp K H (V.ref a) (.list ds) ∧ Dp K H y d ∧ PyData.plainAll ds = true ∧ d.plain = true ∧ d.depth ≤ 60 ∧ Q (.int ((ds.countP fun z => PyData.eqv z d : Nat) : Int)) H
theorem mt_countD {X : Cx} (hu : X.A.units + 65 < cLine) : MtR X "list.count" (rCountD X.K) := by
  intro pins s σ H x xs v us Q I rx rxs h
  obtain ⟨a, y, d, ds, rfl, rfl, hl, hy, pl, pd, dd, q⟩ := h
  cases rx
  obtain ⟨u, rfl, ru⟩ := rxs.one
  obtain ⟨bs, r1⟩ := Dp.reads I d y u hy ru
  cases hl with
  | lst hs ha =>
    obtain ⟨its, rv, li, hlen⟩ := I.list hs
    obtain ⟨as, h4⟩ := Dp.readsAll I ds _ its ha rv
    refine PySem.SeqAt.count_list_data (as := as) (xs := ds) (vs := its.toArray) li.isList (by simpa using h4) r1 pl pd (by omega) ?_
    exact ⟨.int ((ds.countP fun z => PyData.eqv z d : Nat) : Int), H, I.tok _, ⟨_, rfl⟩, q⟩
/-! ### a lambda is made -/
theorem lam_mk {X : Cx} {pins : List (Addr × Obj)} {σ : L2.St} {H : Hp} {s : Shared} {Ps : Tbs} {c P : Addr} {params : Arguments} {body : Expr} {scope : Scope} {pos : Pos} {E : Value → Shared → Prop} {Q : Value → Shared → Prop} (I : Inv X pins σ H s) (TB : LamX.TabB X.base X.mg c P) (hcode : X.env.code = .ref c)
    (hm : (P, X.env.qual ++ "<lambda>") ∈ Ps.lam) (ht : Tb Ps H) (hdef : defaultsOf params X.env = ([], [])) (hfree : ∀ y ∈ scope.names, y.2 = .free → ∃ d, X.env.cells.lookup y.1 = some d)
    (h : ∀ (f d : Addr) (pm ctv : Value) (H1 : Hp) (s' : Shared), Inv X pins σ H1 s' → Ext Ps H H1 → s'.heap.get? f = some (PySem.W.kla_obj "<lambda>" (X.env.qual ++ "<lambda>") params body scope (cloFrom X.env.cells scope.names []) pm d ctv) →
      H1 f = none → f ∉ frs X.stack → H1 d = some (LamX.CodeO d (X.env.qual ++ "<lambda>")) → Q (.ref f) s') :
    wpAny (model X.prog X.w) X.A (eval (.Lambda params body scope pos) X.env) Q E s := by
  obtain ⟨ps, hP, tr, codes⟩ := ht.lam _ hm
  have bP := TB.bm.keeps I.bk
  have gP : s.heap.get? P = some { cls := .none, data := .fields ps } := I.hok P _ hP
  have out : ∀ f, s.heap.objs.size ≤ f → f ∉ frs X.stack := fun f hf z => (List.mem_cons.mp (I.stkSub _ z)).elim (fun e => by
    have lt := I.lt
    rw [← e] at lt
    exact absurd (Nat.lt_of_lt_of_le lt hf) (Nat.lt_irrefl _)) fun e => I.nofs hf e
  have cl := closure_ok hfree
  have gl := I.mod.glob.keeps I.bk
  have hd := TB.code.keeps I.bk
  refine PySem.W.kla_eval hdef ?_
  rcases hc : codeAmong pos ps.toList with _ | cv
  · refine PySem.W.kla_makeFunction (mg := X.mg) (P := P) (ps := ps) cl I.ok.glob gl hcode hd gP tr hc TB.gP bP fun d ctv h' tk hx hge hlt hrec htb => ?_
    obtain ⟨d2, od, vs, t, e2, hod, hdd, hv⟩ := hrec
    cases e2
    have hsz : s.heap.objs.size ≤ h'.objs.size := by omega
    have nD : H d = none := I.hok.fresh hge
    have nPd : P ≠ d := ne_of_none hP nD
    let ob := PySem.W.kla_obj "<lambda>" (X.env.qual ++ "<lambda>") params body scope (cloFrom X.env.cells scope.names []) ((X.mg "__name__").getD .none) d ctv
    have I1 := LamX.inv_table (t' := tk) (more := #[rawInt pos.line, rawInt pos.col, .ref d]) (h' := h'.push ob) I hP (fun b o hb e => Heap.get?_push_of_some _ (hx b o hb e)) (Heap.get?_push_of_some _ htb) hge ⟨od, vs, t, Heap.get?_push_of_some _ hod, hdd, hv⟩
    have at0 : ∀ b o, H b = some o → b ≠ P → (upd (upd H P (.tbl (ps ++ #[rawInt pos.line, rawInt pos.col, .ref d]))) d (LamX.CodeO d (X.env.qual ++ "<lambda>"))) b = some o := fun b o e n => by
      rw [upd_ne (ne_of_none e nD), upd_ne n]
      exact e
    have atP : (upd (upd H P (.tbl (ps ++ #[rawInt pos.line, rawInt pos.col, .ref d]))) d (LamX.CodeO d (X.env.qual ++ "<lambda>"))) P = some (.tbl (ps ++ #[rawInt pos.line, rawInt pos.col, .ref d])) := by
      rw [upd_ne nPd, upd_same]
    have noT : ∀ b o, H b = some o → (∀ q, o ≠ .tbl q) → b ≠ P := fun b o e n z => by
      rw [z, hP] at e
      cases e
      exact n _ rfl
    have eL : (ps ++ #[rawInt pos.line, rawInt pos.col, .ref d]).toList = ps.toList ++ [rawInt pos.line, rawInt pos.col, .ref d] := by simp
    have atD : (upd (upd H P (.tbl (ps ++ #[rawInt pos.line, rawInt pos.col, .ref d]))) d (LamX.CodeO d (X.env.qual ++ "<lambda>"))) d = some (LamX.CodeO d (X.env.qual ++ "<lambda>")) := upd_same
    refine h h'.objs.size d ((X.mg "__name__").getD .none) ctv _ _ I1 ⟨⟨fun Q hQ => ?_, fun p hp => ?_⟩, fun b o e n => at0 b o e (noT b o e n), fun b o e => ?_⟩ (Heap.get?_push_size _ rfl) ?_ (out _ hsz) atD
    · obtain ⟨qs, h1, h2⟩ := ht.gen Q hQ
      exact ⟨qs, at0 Q _ h1 (fun z => Ps.apart _ hm (show P ∈ Ps.gen from z ▸ hQ)), h2⟩
    · by_cases hb : p.1 = P
      · have e2 : p.2 = X.env.qual ++ "<lambda>" := Ps.one p hp _ hm hb
        rw [hb, e2]
        refine ⟨_, atP, by rw [eL]; exact PySem.TriplesOk_snoc _ _ _ _ tr, fun p' cv hcv => ?_⟩
        rw [eL] at hcv
        rcases LamX.among_app _ tr hcv with z | z
        · obtain ⟨c0, e3, e4⟩ := codes p' cv z
          exact ⟨c0, e3, at0 _ _ e4 (noT _ _ e4 LamX.codeO_ne)⟩
        · exact ⟨d, z, atD⟩
      · exact tabS_keep (ht.lam p hp) (fun qs e => at0 _ _ e hb) fun b e => at0 _ _ e (noT _ _ e LamX.codeO_ne)
    · by_cases hb : b = P
      · exact ⟨_, by rw [hb]; exact atP⟩
      · exact ⟨o, at0 b o e hb⟩
    · have n1 : h'.objs.size ≠ d := by omega
      have n2 : h'.objs.size ≠ P := fun z => by
        have lt := Heap.lt_size gP
        rw [← z] at lt
        exact absurd (Nat.lt_of_lt_of_le lt hsz) (Nat.lt_irrefl _)
      rw [upd_ne n1, upd_ne n2]
      exact I.hok.fresh hsz
  · obtain ⟨d, rfl, hco⟩ := codes pos cv hc
    refine PySem.W.kla_makeFunctionHit (mg := X.mg) (P := P) (ps := ps) cl I.ok.glob gl hcode hd gP tr hc bP fun ctv h' tk hx hsz => ?_
    exact h h'.objs.size d ((X.mg "__name__").getD .none) ctv H _ (I.kept fun b o e => Heap.get?_push_of_some _ (hx b o e)) (Ext.refl ht) (Heap.get?_push_size _ rfl) (I.hok.fresh hsz) (out _ hsz) hco
end Lf

set_option maxHeartbeats 1000000
namespace Lf
open PySem PySem.Spec PyProof.Rows L2 GxR GxA SrT
/-- the reading of x(lambda: ..) -/
def tLamX (Ps : Tbs) (TT : (XK → Hp → VK → Prop) → Hp → VK → Prop) (t : XK → TE) : TE := fun σ H Q => Tb Ps H ∧ ∀ H1, Ext Ps H H1 → TT (fun E H' Q' => t E σ H' Q') H1 Q
theorem pe_lamX {X : Cx} {Ps : Tbs} {TT : (XK → Hp → VK → Prop) → Hp → VK → Prop} {x a : Str} {st : Stmt} {g cg c P : Addr} {k : Nat} {fd : FuncData} {Ng : List Str} {params : Arguments} {body : Expr} {scope : Scope} {t : XK → TE} {p lpos pos : Pos}
    (D : Def X.K X.mg x st [a] g fd cg) (Sg : FnScope Ng [a] (defScope st)) (hG : LamX.GivesTo X Ng x (defScope st) g (.ref cg) (defBody st) a (X.env.qual ++ "<lambda>") TT) (TB : LamX.TabB X.base X.mg c P) (hmT : (P, X.env.qual ++ "<lambda>") ∈ Ps.lam) (hr : Room (k + 2) X.A)
    (L : LamX.LamS X.env.scope scope) (hbody : ∀ (A : Around) (outer : List Env) (s : Shared) (H : Hp) (E : XK) (f d : Addr), Room k (A.deeper (LamX.lamEnv X scope s.heap.objs.size f d)) → Takes (LamX.lamCx X A outer s H E scope f d) (fun cls d _ H' => E cls d H') → PE (LamX.lamCx X A outer s H E scope f d) body (t E))
    (hcode : X.env.code = .ref c := by rfl) (hNg : Ng[0]? = some a := by rfl) (hva : Vis (defScope st) a := by exact Or.inl rfl) (hg : Gl X x := by rfl) (hdef : defaultsOf params X.env = ([], []) := by rfl)
    (hbind : ∀ (q : Str) (cl : List (Str × Addr)) (pm cv ctv : Value), bindArgs (PySem.W.kla_fn "<lambda>" q params body scope cl pm cv ctv) ⟨[], []⟩ = pure [] := by intros; rfl) (hdb : (x == ("__debug__" : Str)) = false := by decide) (hd : (a == ("__debug__" : Str)) = false := by decide) (hcd : (a == ("__classdict__" : Str)) = false := by decide) :
    PE X (.Call (.Name x p) [.Lambda params body scope lpos] [] pos) (tLamX Ps TT t) := by
  obtain ⟨oc, od, kV, doc, pm, an, ct, osl, efd, lk, hcg⟩ := D.F.ex
  subst efd
  refine ⟨fun pins s σ H Q I h => ?_⟩
  refine wpAny_Call_Name_kw (ld_glob I hg D.g ?_ hdb)
  refine PySem.W.callWith_K (h₀ := X.base) I.ok.mod.kin D.F.kp ?_ (by rfl) (by rfl)
  show wpAny _ _ (spliced ((false, eval (.Lambda params body scope lpos) X.env) :: backTo pos (starEach [] X.env))) _ _ _
  refine Calls.spliced_cons (lam_mk I TB hcode hmT h.1 hdef (L.has I.ok) fun f d pm' ctv H1 s' I1 e1 hf hfn hfr hco => Calls.spliced_nil ⟨I1.kIn, ?_⟩)
  have run : codeAny (model X.prog X.w) X.A (.call (.ref g) ⟨[.ref f], []⟩) (CR C8.CX0 X.stack X.prog X.w H1 s' Q C8.E0) s' := by
    refine LamX.run_ofS (N := Ng) (ps := [a]) (us := [.ref f]) (vs := [.ref f]) lk hcg Sg hr I1.env0 (D.b s' [.ref f] I1.kIn rfl) (.cons rfl .nil) rfl fun hr' => ?_
    obtain ⟨t', q1, q2⟩ := hG f d s' H1 Q (fun E H' Q' => t E σ H' Q')
      (fun W pn xe E p1 p2 tk hW => LamX.pe_act (i := 0) I1 L hf hfn hfr (hbind _ _ _ _ _) tk hW hr' (fun A outer s H hr2 => hbody A outer s H E f d hr2 (takes_of (E := E) rfl rfl rfl rfl)) hNg hva hd hcd) hco (h.2 H1 e1)
    exact ⟨t', q1.nox, q2⟩
  refine wpAny_call (codeAny_mono run fun r s2 hq => ?_)
  match r, hq with
  | .ok (.ret u), hq => exact I1.after hq
  | .error e, hq => exact False.elim hq
/-- a def called where an exception is handled -/
theorem pe_hot {X : Cx} {x : Str} {st : Stmt} {N ps : List Str} {f c : Addr} {fd : FuncData} {k : Nat} {sp : Sp} {e : Expr} {es : List Expr} {t : TA} {p pos : Pos} (D : Def X.K X.mg x st ps f fd c) (S : FnScope N ps (defScope st)) {pn : Addr × Obj} (hp : pn ∈ X.pn) (hr : L2H.RoomH (k + 1) X.A) (ha : PA X (e :: es) t) (len : ∀ vs H Q E, sp vs H Q E → vs.length = ps.length)
    (hbody : ∀ (s : Shared) (H : Hp) (vs : List V) (Q : VK), L2H.RoomH k (X.A.deeper (envOfC x (defScope st) s.heap.objs.size f (.ref c))) → sp vs H Q E0 →
      ∃ u, PSs (L2H.cxH CX0 X.prog X.w X.K X.mg X.base N x (defScope st) f (.ref c) X.A X.stack s H E0 pn) (defBody st) u ∧ u { nx := fun _ H' => Q .non H', rt := Q } (start N vs) H)
    (hg : Gl X x := by rfl) (hdb : (x == ("__debug__" : Str)) = false := by decide) (he : starEach (e :: es) X.env = (false, eval e X.env) :: starEach es X.env := by rfl) (hpl : (backTo pos (starEach es X.env)).any (·.1) = false := by rfl) :
    PE X (.Call (.Name x p) (e :: es) [] pos) (tCall sp [] E0 t) := by
  obtain ⟨oc, od, kV, doc, pm, an, ct, osl, efd, lk, hcd⟩ := D.F.ex
  subst efd
  refine ⟨fun pins s0 σ H0 Q I0 h => ?_⟩
  refine wpAny_Call_Name_kw (ld_glob I0 hg D.g ?_ hdb)
  refine PySem.W.callWith_K (h₀ := X.base) I0.ok.mod.kin D.F.kp (thn (ha.run pos pins s0 σ H0 _ I0 h) fun us s hh => ?_) he hpl
  obtain ⟨vs, H, I, rv, q⟩ := hh
  rw [List.append_nil] at q
  have hl := len _ _ _ _ q
  have P1 := I.pin pn (List.mem_append_left _ hp)
  have pin : L2H.PinOk X.stack H s pn := ⟨P1.1, P1.2.1, fun hm => (List.mem_cons.mp (I.stkSub _ hm)).elim P1.2.2.1 P1.2.2.2.1, P1.2.2.2.2⟩
  have bd := D.b s us I.kIn (by rw [List.append_nil, ← rv.length]; exact hl)
  rw [List.append_nil] at bd
  refine ⟨I.kIn, wpAny_call (codeAny_mono (R := CR CX0 X.stack X.prog X.w H s Q E0) ?_ fun r s2 hq => ?_)⟩
  · have kinds : ∀ y ∈ ps.zip us, (defScope st).names.lookup y.1 = some .local ∨ ((defScope st).names.lookup y.1 = some .cell ∧ ((cellsFrom (s.heap.objs.size + 1) (defScope st).names []).lookup y.1).isSome = true) := fun y hy => by
      have hy1 : y.1 ∈ ps := (List.of_mem_zip (show (y.1, y.2) ∈ ps.zip us from hy)).1
      exact (S.par y.1 hy1).imp (fun z => z) fun z => ⟨z, PySem.W.cellsFrom_some _ _ _ (.inl z)⟩
    refine codeAny_call_function hr.depth (I.kIn _ _ lk) rfl S.co S.gen rfl (PySem.W.codeRec_of I.kIn hcd) (bd _ _ _ _ (wpAny_newFunctionEnv_cells S.kind kinds fun env he2 s1 x1 => ?_))
    subst he2
    refine ⟨I.nolimit.keeps x1.toInCall.keep, codeAny_func ?_⟩
    obtain ⟨u, hu, hq⟩ := hbody s H vs Q (hr.deeper _) q
    have J := L2H.inv_startH (CX := CX0) (E := E0) (qual := x) (f := f) (cd := .ref c) S pin I.env0 hl rv x1
    refine wpAny_mono (hu.run [] s1 (start N vs) H _ J hq) (fun fl s' hs => ?_) fun e2 s' hs => hs
    match fl, hs with
    | .ret u2, ⟨v, σ', H', J2, r2, q2⟩ => exact ⟨v, H', J2.os, J2.bare, J2.base, J2.hok, r2, q2⟩
    | .next, ⟨σ', H', J2, q2⟩ => exact ⟨V.non, H', J2.os, J2.bare, J2.base, J2.hok, rfl, q2⟩
    | .brk, ⟨_, _, _, q2⟩ => exact q2.elim
    | .cont, ⟨_, _, _, q2⟩ => exact q2.elim
  · match r, hq with
    | .ok (.ret u), hq => exact I.after hq
    | .error e2, hq => exact False.elim hq
/-- a block's reading is wanted only of as many slots as there are names -/
theorem pss_len {X : Cx} {sts : List Stmt} {t : TS} {n : Nat} (hn : X.N.length = n) (h : PSs X sts t) : PSs X sts (fun D σ H => σ.length = n → t D σ H) :=
  ⟨fun pins s σ H D I q => h.run pins s σ H D I (q (I.len.trans hn))⟩
end Lf

set_option maxHeartbeats 2000000
/-! things of any kind, and what the program makes of them -/
namespace Lf
open PySem PySem.Spec PyProof.Rows L2 GxR GxA SrT
mutual
/-- the thing x is the data d; its lists and dicts stand where F says -/
inductive ThF (K : PySem.W.Frag) (H : Hp) (F : Addr → Prop) : V → PyData → Prop
  | non : ThF K H F .non .none
  | bl (b : Bool) : ThF K H F (.bl b) (.bool b)
  | int (i : Int) : ThF K H F (.int i) (.int i)
  | str (z : Str) : ThF K H F (.str z) (.str z)
  | lst {a : Addr} {xs : List V} {ds : List PyData} : F a → SqL K H a xs → ThAllF K H F xs ds → ThF K H F (.ref a) (.list ds)
  | tup {a : Addr} {xs : List V} {ds : List PyData} : SqT K H a xs → ThAllF K H F xs ds → ThF K H F (.ref a) (.tuple ds)
  | dic {a : Addr} : F a → H a = some (.dK []) → ThF K H F (.ref a) (.dict [])
inductive ThAllF (K : PySem.W.Frag) (H : Hp) (F : Addr → Prop) : List V → List PyData → Prop
  | nil : ThAllF K H F [] []
  | cons {v : V} {vs : List V} {d : PyData} {ds : List PyData} : ThF K H F v d → ThAllF K H F vs ds → ThAllF K H F (v :: vs) (d :: ds)
end
abbrev Th (K : PySem.W.Frag) (H : Hp) : V → PyData → Prop := ThF K H fun _ => True
abbrev ThAll (K : PySem.W.Frag) (H : Hp) : List V → List PyData → Prop := ThAllF K H fun _ => True
section
variable {K : PySem.W.Frag} {Ps : Tbs} {H H' : Hp} {F F' : Addr → Prop}
mutual
theorem Ext.th (e : Ext Ps H H') : ∀ {d : PyData} {x : V}, ThF K H F x d → ThF K H' F x d
  | .none, _, h => by cases h; exact .non
  | .bool b, _, h => by cases h; exact .bl b
  | .int i, _, h => by cases h; exact .int i
  | .str y, _, h => by cases h; exact .str y
  | .list ds, _, h => by
    cases h with
    | lst hf hs ha => exact .lst hf (e.sqL hs) (Ext.thAll e ha)
  | .tuple ds, _, h => by
    cases h with
    | tup hs ha => exact .tup (e.sqT hs) (Ext.thAll e ha)
  | .dict _, _, h => by
    cases h with
    | dic hf hd => exact .dic hf (e.old _ _ hd fun q z => by cases z)
theorem Ext.thAll (e : Ext Ps H H') : ∀ {ds : List PyData} {xs : List V}, ThAllF K H F xs ds → ThAllF K H' F xs ds
  | [], _, h => by cases h; exact .nil
  | d :: ds, _, h => by
    cases h with
    | cons h1 h2 => exact .cons (Ext.th e h1) (Ext.thAll e h2)
end
mutual
theorem ThF.imp (e : ∀ a, F a → F' a) : ∀ {d : PyData} {x : V}, ThF K H F x d → ThF K H F' x d
  | .none, _, h => by cases h; exact .non
  | .bool b, _, h => by cases h; exact .bl b
  | .int i, _, h => by cases h; exact .int i
  | .str y, _, h => by cases h; exact .str y
  | .list ds, _, h => by
    cases h with
    | lst hf hs ha => exact .lst (e _ hf) hs (ThAllF.imp e ha)
  | .tuple ds, _, h => by
    cases h with
    | tup hs ha => exact .tup hs (ThAllF.imp e ha)
  | .dict _, _, h => by
    cases h with
    | dic hf hd => exact .dic (e _ hf) hd
theorem ThAllF.imp (e : ∀ a, F a → F' a) : ∀ {ds : List PyData} {xs : List V}, ThAllF K H F xs ds → ThAllF K H F' xs ds
  | [], _, h => by cases h; exact .nil
  | d :: ds, _, h => by
    cases h with
    | cons h1 h2 => exact .cons (ThF.imp e h1) (ThAllF.imp e h2)
end
theorem ThF.th {x : V} {d : PyData} (h : ThF K H F x d) : Th K H x d := h.imp fun _ _ => trivial
theorem ThAllF.th {xs : List V} {ds : List PyData} (h : ThAllF K H F xs ds) : ThAll K H xs ds := h.imp fun _ _ => trivial
mutual
/-- a list that is none of its own is written -/
theorem ThF.put {r : Addr} {l l' : List V} (hr : H r = some (.lst l)) (hn : ∀ a, F a → a ≠ r) : ∀ {d : PyData} {x : V}, ThF K H F x d → ThF K (upd H r (.lst l')) F x d
  | .none, _, h => by cases h; exact .non
  | .bool b, _, h => by cases h; exact .bl b
  | .int i, _, h => by cases h; exact .int i
  | .str y, _, h => by cases h; exact .str y
  | .list ds, _, h => by
    cases h with
    | lst hf hs ha =>
      refine .lst hf ?_ (ThAllF.put hr hn ha)
      rcases hs with (h | ⟨o, h⟩) | h
      · exact .inl (.inl (by rw [upd_ne (hn _ hf)]; exact h))
      · exact .inl (.inr ⟨o, by rw [upd_ne (hn _ hf)]; exact h⟩)
      · exact .inr h
  | .tuple ds, _, h => by
    cases h with
    | tup hs ha =>
      refine .tup ?_ (ThAllF.put hr hn ha)
      rcases hs with (h | ⟨o, h⟩) | h
      · exact .inl (.inl (by rw [upd_ne (ne_of h hr (by intro z; cases z))]; exact h))
      · exact .inl (.inr ⟨o, by rw [upd_ne (ne_of h hr (by intro z; cases z))]; exact h⟩)
      · exact .inr h
  | .dict _, _, h => by
    cases h with
    | dic hf hd => exact .dic hf (by rw [upd_ne (hn _ hf)]; exact hd)
theorem ThAllF.put {r : Addr} {l l' : List V} (hr : H r = some (.lst l)) (hn : ∀ a, F a → a ≠ r) : ∀ {ds : List PyData} {xs : List V}, ThAllF K H F xs ds → ThAllF K (upd H r (.lst l')) F xs ds
  | [], _, h => by cases h; exact .nil
  | d :: ds, _, h => by
    cases h with
    | cons h1 h2 => exact .cons (ThF.put hr hn h1) (ThAllF.put hr hn h2)
end
theorem thAll_len : ∀ {ds : List PyData} {xs : List V}, ThAllF K H F xs ds → xs.length = ds.length
  | [], _, h => by cases h; rfl
  | d :: ds, _, h => by
    cases h with
    | cons h1 h2 => rw [List.length_cons, List.length_cons, thAll_len h2]
theorem thAll_get : ∀ {ds : List PyData} {xs : List V} {i : Nat} {x : V}, ThAllF K H F xs ds → xs[i]? = some x → ∃ d, ds[i]? = some d ∧ ThF K H F x d
  | [], _, i, x, h, e => by
    cases h
    simp at e
  | d :: ds, _, 0, x, h, e => by
    cases h with
    | cons h1 h2 =>
      cases e
      exact ⟨d, rfl, h1⟩
  | d :: ds, _, i + 1, x, h, e => by
    cases h with
    | cons h1 h2 =>
      obtain ⟨d', q1, q2⟩ := thAll_get (i := i) (x := x) h2 (by simpa using e)
      exact ⟨d', by simpa using q1, q2⟩
theorem thAll_app : ∀ {ds es : List PyData} {xs ys : List V}, ThAllF K H F xs ds → ThAllF K H F ys es → ThAllF K H F (xs ++ ys) (ds ++ es)
  | [], _, _, _, h, h2 => by cases h; exact h2
  | d :: ds, _, _, _, h, h2 => by
    cases h with
    | cons h1 ht => exact .cons h1 (thAll_app ht h2)
theorem th_ints : ∀ ns : List Int, ThAllF K H F (ns.map V.int) (iD ns)
  | [] => .nil
  | n :: ns => .cons (.int n) (th_ints ns)
theorem th_tup {x : V} {ns : List Int} (h : TupI K H x ns) : ThF K H F x (tD ns) := by
  obtain ⟨t, rfl, hs⟩ := h
  exact .tup hs (th_ints ns)
theorem th_tups : ∀ {xs : List V} {fs : List (List Int)}, Paired (TupI K H) xs fs → ThAllF K H F xs (fs.map tD)
  | _, _, .nil => .nil
  | _, _, .cons h t => .cons (th_tup h) (th_tups t)
theorem th_stk {v : V} {n k : Int} {fss : List (List Int)} (h : Stk K H v n k fss) : ThF K H F v (stkD n k fss) := by
  obtain ⟨a, fa, xs, rfl, h1, h2, h3⟩ := h
  exact .tup h1 (.cons (.int n) (.cons (.int k) (.cons (.tup h2 (th_tups h3)) .nil)))
theorem th_ty {x : V} {d : PyData} (h : ThF K H F x d) : TyX K H x (.type (tyN d)) := by
  cases h with
  | non => exact .base .non
  | bl b => exact .base (.bl b)
  | int i => exact .base (.int i)
  | str y => exact .base (.str y)
  | lst hf hs ha => exact ty_lst hs
  | tup hs ha => exact ty_tup hs
  | dic hf hd => exact .base (.dK hd)
/-- a thing that is a tuple of ints -/
theorem th_asInts : ∀ {ds : List PyData} {xs : List V}, ThAllF K H F xs ds → (∀ d ∈ ds, ∃ i, d = .int i) → ∃ ns : List Int, xs = ns.map V.int ∧ ds = iD ns
  | [], _, h, _ => by cases h; exact ⟨[], rfl, rfl⟩
  | d :: ds, _, h, hd => by
    cases h with
    | cons h1 h2 =>
      obtain ⟨i, e⟩ := hd d List.mem_cons_self
      subst e
      cases h1
      obtain ⟨ns, e1, e2⟩ := th_asInts h2 fun d hd' => hd d (List.mem_cons_of_mem _ hd')
      exact ⟨i :: ns, by rw [e1]; rfl, by rw [e2]; rfl⟩
theorem th_asTups : ∀ {ds : List PyData} {xs : List V}, ThAllF K H F xs ds → (∀ d ∈ ds, ∃ ns, d = tD ns) → ∃ fss : List (List Int), Paired (TupI K H) xs fss ∧ ds = fss.map tD
  | [], _, h, _ => by cases h; exact ⟨[], .nil, rfl⟩
  | d :: ds, _, h, hd => by
    cases h with
    | cons h1 h2 =>
      obtain ⟨ns, e⟩ := hd d List.mem_cons_self
      subst e
      obtain ⟨fss, e1, e2⟩ := th_asTups h2 fun d hd' => hd d (List.mem_cons_of_mem _ hd')
      cases h1 with
      | tup hs ha =>
        obtain ⟨ms, e3, e4⟩ := th_asInts ha fun d hd => by
          obtain ⟨i, _, rfl⟩ := List.mem_map.mp hd
          exact ⟨i, rfl⟩
        have e5 : ns = ms := List.map_inj_right (fun a b h => by cases h; rfl) |>.mp (show ns.map PyData.int = ms.map PyData.int from e4)
        subst e5
        rw [e3] at hs
        exact ⟨ns :: fss, .cons ⟨_, rfl, hs⟩ e1, by rw [e2]; rfl⟩
end
/-! ### what is asked of data -/
def intIn (d : PyData) (lo hi : Int) : Bool := match d with
  | .int i => decide (lo ≤ i) && decide (i ≤ hi)
  | _ => false
def belowD (d : PyData) (m : Int) : Bool := match d with
  | .tuple ds => ds.all fun e => intIn e 0 (m - 1)
  | _ => false
def intsOf : PyData → List Int
  | .tuple ds => ds.map fun e => match e with
    | .int i => i
    | _ => 0
  | _ => []
theorem intsOf_tD (ns : List Int) : intsOf (tD ns) = ns := by
  show (ns.map PyData.int).map _ = ns
  rw [List.map_map]
  exact List.map_id' ns
def adjB {α : Type} (lt : α → α → Bool) : List α → Bool
  | x :: y :: r => lt x y && adjB lt (y :: r)
  | _ => true
theorem adjB_iff {α : Type} {lt : α → α → Bool} : ∀ {l : List α}, adjB lt l = true ↔ ∀ (i : Nat) (h : i + 1 < l.length), lt l[i] l[i + 1] = true
  | [] => by simp [adjB]
  | [x] => by simp [adjB]
  | x :: y :: r => by
    rw [adjB, Bool.and_eq_true, adjB_iff]
    constructor
    · rintro ⟨h1, h2⟩ i h
      cases i with
      | zero => exact h1
      | succ i => exact h2 i (by simpa using h)
    · intro h
      exact ⟨h 0 (by simp), fun i hi => h (i + 1) (by simpa using hi)⟩
theorem adjB_pw {α : Type} {lt : α → α → Bool} (tr : ∀ a b c, lt a b = true → lt b c = true → lt a c = true) : ∀ {l : List α}, adjB lt l = true ↔ l.Pairwise fun x y => lt x y = true
  | [] => by simp [adjB]
  | [x] => by simp [adjB]
  | x :: y :: r => by
    rw [adjB, Bool.and_eq_true, adjB_pw tr]
    constructor
    · rintro ⟨h1, h2⟩
      refine List.pairwise_cons.mpr ⟨fun a ha => ?_, h2⟩
      rcases List.mem_cons.mp ha with rfl | ha
      · exact h1
      · exact tr _ _ _ h1 ((List.pairwise_cons.mp h2).1 a ha)
    · intro h
      obtain ⟨h1, h2⟩ := List.pairwise_cons.mp h
      exact ⟨h1 y List.mem_cons_self, h2⟩
def ltI (a b : Int) : Bool := decide (a < b)
theorem adjI_pw {ns : List Int} : adjB ltI ns = true ↔ ns.Pairwise (· < ·) := by
  rw [adjB_pw (lt := ltI) fun a b c h1 h2 => decide_eq_true (by have := of_decide_eq_true h1; have := of_decide_eq_true h2; omega)]
  unfold ltI
  simp only [decide_eq_true_eq]
def risD (d : PyData) (m : Int) : Bool := belowD d m && adjB ltI (intsOf d)
def lenD : PyData → Nat
  | .tuple ds => ds.length
  | _ => 0
def facesD (n k : Int) (d : PyData) : Bool := match d with
  | .tuple ds => decide (1 ≤ ds.length ∧ ds.length ≤ 70) && (ds.all fun f => risD f n && decide ((lenD f : Int) = k)) && adjB lex (ds.map intsOf)
  | _ => false
def isStackD (d : PyData) : Bool := match d with
  | .tuple [.int n, .int k, f] => decide (1 ≤ n ∧ n ≤ 8) && decide (0 ≤ k ∧ k ≤ n ∧ k ≤ 4) && facesD n k f
  | _ => false
/-- below: a tuple of ints -/
theorem below_ints {d : PyData} {m : Int} (h : belowD d m = true) : ∃ ns, d = tD ns ∧ ∀ i ∈ ns, 0 ≤ i ∧ i < m := by
  cases d with
  | tuple ds =>
    have h' : ∀ e ∈ ds, intIn e 0 (m - 1) = true := List.all_eq_true.mp h
    have key : ∀ ds : List PyData, (∀ e ∈ ds, intIn e 0 (m - 1) = true) → ∃ ns : List Int, ds = iD ns ∧ ∀ i ∈ ns, 0 ≤ i ∧ i < m := by
      intro ds
      induction ds with
      | nil => intro _; exact ⟨[], rfl, fun i hi => by cases hi⟩
      | cons e ds ih =>
        intro h
        obtain ⟨ns, e1, e2⟩ := ih fun e he => h e (List.mem_cons_of_mem _ he)
        have h0 := h e List.mem_cons_self
        cases e with
        | int i =>
          have h0' : (decide (0 ≤ i) && decide (i ≤ m - 1)) = true := h0
          rw [Bool.and_eq_true, decide_eq_true_eq, decide_eq_true_eq] at h0'
          refine ⟨i :: ns, by rw [e1]; rfl, fun j hj => ?_⟩
          rcases List.mem_cons.mp hj with rfl | hj
          · omega
          · exact e2 j hj
        | _ => cases h0
    obtain ⟨ns, e1, e2⟩ := key ds h'
    exact ⟨ns, by subst e1; rfl, e2⟩
  | _ => cases h
theorem below_tD {ns : List Int} {m : Int} (h : ∀ i ∈ ns, 0 ≤ i ∧ i < m) : belowD (tD ns) m = true := by
  show (ns.map PyData.int).all _ = true
  rw [List.all_map, List.all_eq_true]
  intro i hi
  have := h i hi
  show (decide (0 ≤ i) && decide (i ≤ m - 1)) = true
  rw [decide_eq_true this.1, decide_eq_true (by omega)]
  rfl
theorem risD_iff {d : PyData} {m : Int} : risD d m = true ↔ ∃ ns, d = tD ns ∧ (∀ i ∈ ns, 0 ≤ i ∧ i < m) ∧ ns.Pairwise (· < ·) := by
  unfold risD
  rw [Bool.and_eq_true]
  constructor
  · rintro ⟨h1, h2⟩
    obtain ⟨ns, rfl, h3⟩ := below_ints h1
    rw [intsOf_tD, adjI_pw] at h2
    exact ⟨ns, rfl, h3, h2⟩
  · rintro ⟨ns, rfl, h1, h2⟩
    exact ⟨below_tD h1, by rw [intsOf_tD, adjI_pw]; exact h2⟩
end Lf

set_option maxHeartbeats 2000000
namespace Lf
open PySem PySem.Spec PyProof.Rows L2 GxR GxA SrT
section
variable {P : Program} {w : World} {K : PySem.W.Frag} {mg : Str → Option Value} {base : Heap} {Ps : Tbs} {H H' H0 : Hp} {k : Nat} {f c : Addr} {fd : FuncData}
/-! ### is_within of any thing -/
def spWithinX (K : PySem.W.Frag) : Sp := fun vs H Q _ => ∃ (x : V) (d : PyData) (lo hi : Int), vs = [x, .int lo, .int hi] ∧ Th K H x d ∧ Q (.bl (intIn d lo hi)) H
theorem ok_withinX (D : Def K mg "is_within" sWithin ["thing", "least", "most"] f fd c) (mi : mg "isinstance" = none) (mn : mg "int" = none) (mb : mg "bool" = none) : FnOk P w K mg base CX0 (k + 1) f fd ["thing", "least", "most"] (spWithinX K) := by
  refine D.ok scWithin (fun vs H Q E h => ?_) (fun A outer s H vs Q E hr h => ?_)
  · obtain ⟨x, d, lo, hi, rfl, _⟩ := h
    rfl
  · obtain ⟨x, d, lo, hi, rfl, hx, q⟩ := h
    refine ⟨_, pss_cons (ps_if (PW.pt (pw_or (pt_not (pt_val (pe_callB call_isi (by rfl) mi (by decide +kernel) (pa_cons (pv 0) (pa_cons (pe_bltn (v := .ty "int") (by rfl) mn (by decide +kernel) rfl) pa_nil)))))
        (pw_or1 (pt_val (pe_callB call_isi (by rfl) mi (by decide +kernel) (pa_cons (pv 0) (pa_cons (pe_bltn (v := .ty "bool") (by rfl) mb (by decide +kernel) rfl) pa_nil))))))) (pss_one (ps_ret pe_bl)) pss_nil)
      (pss_one (ps_ret (pe_chain op_le op_le (pv 1) (pv 0) (pv 2)))), ?_⟩
    have ty := th_ty hx
    cases d with
    | int i =>
      cases hx
      refine ⟨.int i, rfl, .int i, .ty "int", .type "int", .type "int", true, rfl, .ty _, ty, kit_ty (by decide +kernel), true, rfl, iteF ?_⟩
      refine ⟨.int i, rfl, .int i, .ty "bool", .type "int", .type "bool", false, rfl, .ty _, ty, kit_ty (by decide +kernel), false, rfl, iteF ?_⟩
      refine ⟨.int lo, rfl, .int i, rfl, lo, i, rfl, rfl, _, rfl, ?_⟩
      have q' : Q (.bl (decide (lo ≤ i) && decide (i ≤ hi))) H := q
      refine ite2 (fun hc => ?_) (fun hc => ?_)
      · have hc' : decide (lo ≤ i) = true := hc
        rw [hc', Bool.true_and] at q'
        exact ⟨.int hi, rfl, i, hi, rfl, rfl, q'⟩
      · have hc' : decide (lo ≤ i) = false := by
          cases e : decide (lo ≤ i) with
          | false => rfl
          | true => exact absurd e hc
        rw [hc', Bool.false_and] at q'
        exact q'
    | bool b =>
      cases hx
      refine ⟨.bl b, rfl, .bl b, .ty "int", .type "bool", .type "int", true, rfl, .ty _, ty, kit_ty (by decide +kernel), true, rfl, iteF ?_⟩
      exact ⟨.bl b, rfl, .bl b, .ty "bool", .type "bool", .type "bool", true, rfl, .ty _, ty, kit_ty (by decide +kernel), true, rfl, iteT q⟩
    | none => exact ⟨x, rfl, x, .ty "int", .type "NoneType", .type "int", false, rfl, .ty _, ty, kit_ty (by decide +kernel), false, rfl, iteT q⟩
    | str z => exact ⟨x, rfl, x, .ty "int", .type "str", .type "int", false, rfl, .ty _, ty, kit_ty (by decide +kernel), false, rfl, iteT q⟩
    | list ds => exact ⟨x, rfl, x, .ty "int", .type "list", .type "int", false, rfl, .ty _, ty, kit_ty (by decide +kernel), false, rfl, iteT q⟩
    | tuple ds => exact ⟨x, rfl, x, .ty "int", .type "tuple", .type "int", false, rfl, .ty _, ty, kit_ty (by decide +kernel), false, rfl, iteT q⟩
    | dict kvs => exact ⟨x, rfl, x, .ty "int", .type "dict", .type "int", false, rfl, .ty _, ty, kit_ty (by decide +kernel), false, rfl, iteT q⟩
/-- whether a thing is a tuple -/
def isTup : PyData → Bool
  | .tuple _ => true
  | _ => false
theorem tup_kit {x : V} {d : PyData} (hx : Th K H x d) : ∃ t : String, TyX K H x (.type t) ∧ kitB t "tuple" = some (isTup d) := by
  refine ⟨tyN d, th_ty hx, ?_⟩
  cases d with
  | none => exact (show kitB "NoneType" "tuple" = some false by decide +kernel)
  | bool b => exact (show kitB "bool" "tuple" = some false by decide +kernel)
  | int i => exact (show kitB "int" "tuple" = some false by decide +kernel)
  | str z => exact (show kitB "str" "tuple" = some false by decide +kernel)
  | list ds => exact (show kitB "list" "tuple" = some false by decide +kernel)
  | tuple ds => exact (show kitB "tuple" "tuple" = some true by decide +kernel)
  | dict kvs => exact (show kitB "dict" "tuple" = some false by decide +kernel)
/-! ### all_below of any thing -/
def spBelowX (K : PySem.W.Frag) (Ps : Tbs) : Sp := fun vs H Q _ => ∃ (x : V) (d : PyData) (m : Int), vs = [x, .int m] ∧ Th K H x d ∧ Tb Ps H ∧ ∀ H', Ext Ps H H' → Q (.bl (belowD d m)) H'
theorem ok_belowX {fW cW PT : Addr} {fdW : FuncData} (D : Def K mg "all_below" sBelow ["thing", "many"] f fd c) (DW : Def K mg "is_within" sWithin ["thing", "least", "most"] fW fdW cW) (TB : TabB base mg c PT) (hP : PT ∈ Ps)
    (mi : mg "isinstance" = none) (mn : mg "int" = none) (mb : mg "bool" = none) (mt : mg "tuple" = none) (ma : mg "all" = none) : FnOk P w K mg base CX0 (k + 3) f fd ["thing", "many"] (spBelowX K Ps) := by
  have GW : FnOk P w K mg base CX0 (k + 1) fW fdW ["thing", "least", "most"] (spWithinX K) := ok_withinX DW mi mn mb
  refine D.ok (k := k + 2) scBelow (fun vs H Q E h => ?_) (fun A outer s H vs Q E hr h => ?_)
  · obtain ⟨x, d, m, rfl, _⟩ := h
    rfl
  · obtain ⟨x, d, m, rfl, hx, ht, q⟩ := h
    refine ⟨_, pss_one (ps_ret (pe_and (pe_callB call_isi (by rfl) mi (by decide +kernel) (pa_cons (pv 0) (pa_cons (pe_bltn (v := .ty "tuple") (by rfl) mt (by decide +kernel) rfl) pa_nil)))
      (pe_one (pe_allG (k := k + 1) (caps := [1]) (xs := ["many"]) hr (by rfl) ma TB rfl (genS rfl rfl (by decide +kernel) rfl rfl) ⟨⟨rfl, .inl rfl, rfl⟩, trivial⟩ (by decide +kernel) (pi_tup (pv 0))
        (fun _ _ _ _ _ _ _ hr' => pcl DW GW hr' (pa_cons (pv 0) (pa_cons pe_int (pa_cons (pe_op op_sub (pv 1) pe_int) pa_nil)))) (fun _ => rfl))))), ?_⟩
    obtain ⟨t, ty, hk⟩ := tup_kit hx
    refine ⟨x, rfl, x, .ty "tuple", .type t, .type "tuple", isTup d, rfl, .ty _, ty, kit_ty hk, isTup d, rfl, ?_⟩
    cases d with
    | tuple ds =>
      cases hx with
      | @tup a xs _ hS ha =>
      refine iteT ⟨.ref a, rfl, a, rfl, ⟨_, hS⟩, ht.gen PT hP, fun H2 hT2 => ?_⟩
      have e2 := Ext.of_tabbed ht hP hT2
      refine gW_tup (xs := xs) (fun i H3 => H3 = H2 ∧ (ds.take i).all (fun e => intIn e 0 (m - 1)) = true) ⟨rfl, rfl⟩ (fun i H3 e => by rw [e.1]; exact e2.sqT hS) (fun H3 e => ?_) fun i H3 y hy e => ?_
      · obtain ⟨rfl, h2⟩ := e
        rw [thAll_len ha, List.take_length] at h2
        have z := q _ e2
        rw [show belowD (.tuple ds) m = true from h2] at z
        exact z
      · obtain ⟨rfl, h2⟩ := e
        obtain ⟨d', hd, hy'⟩ := thAll_get ha hy
        refine ⟨y, rfl, .int m, rfl, m, 1, rfl, rfl, y, d', 0, m - 1, rfl, e2.th hy', _, rfl, fun hb => ⟨rfl, ?_⟩, fun hb => ?_⟩
        · rw [List.take_add_one, hd, List.all_append, h2]
          simpa using hb
        · have z := q _ e2
          have hb' : intIn d' 0 (m - 1) = false := by simpa using hb
          have e5 : belowD (.tuple ds) m = false := by
            show ds.all _ = false
            rw [List.all_eq_false]
            exact ⟨d', List.mem_of_getElem? hd, by rw [hb']; simp⟩
          rw [e5] at z
          rw [hb']
          exact z
    | none => exact iteF (q _ (Ext.refl ht))
    | bool b => exact iteF (q _ (Ext.refl ht))
    | int i => exact iteF (q _ (Ext.refl ht))
    | str z => exact iteF (q _ (Ext.refl ht))
    | list ds => exact iteF (q _ (Ext.refl ht))
    | dict kvs => exact iteF (q _ (Ext.refl ht))
/-! ### rises, either way -/
/-- the things of xs, and whether each is less than the next -/
def AdjV (K : PySem.W.Frag) (H : Hp) (xs : List V) (b : Bool) : Prop := (∃ ns : List Int, xs = ns.map V.int ∧ b = adjB ltI ns) ∨ ∃ fss, Paired (TupI K H) xs fss ∧ b = adjB lex fss
def spRisesX (K : PySem.W.Frag) (Ps : Tbs) : Sp := fun vs H Q _ => ∃ (a : Addr) (xs : List V) (b : Bool), vs = [.ref a] ∧ SqT K H a xs ∧ AdjV K H xs b ∧ xs.length ≤ 1000 ∧ Tb Ps H ∧ ∀ H', Ext Ps H H' → Q (.bl b) H'
theorem ok_risesX {PT : Addr} (D : Def K mg "rises" sRises ["things"] f fd c) (TB : TabB base mg c PT) (hP : PT ∈ Ps) (ma : mg "all" = none) (mr : mg "range" = none) (ml : mg "len" = none) :
    FnOk P w K mg base CX0 (k + 2) f fd ["things"] (spRisesX K Ps) := by
  refine D.ok (k := k + 1) scRises (fun vs H Q E h => ?_) (fun A outer s H vs Q E hr h => ?_)
  · obtain ⟨a, xs, b, rfl, _⟩ := h
    rfl
  · obtain ⟨a, xs, b, rfl, hS, hR, hl, ht, q⟩ := h
    refine ⟨_, pss_one (ps_ret (pe_allG (k := k) (caps := [0]) (xs := ["things"]) hr (by rfl) ma TB rfl (genS rfl rfl (by decide +kernel) rfl rfl) ⟨⟨rfl, .inl rfl, rfl⟩, trivial⟩ (by decide +kernel)
      (pi_range1 (by rfl) mr (pa_cons (pe_op op_sub (pe_callB call_len_seq (by rfl) ml PySem.boot_len (pa_cons (pv 0) pa_nil)) pe_int) pa_nil))
        (fun _ _ _ _ _ _ _ hr' => pe_cmpR (OpR.or op_lt (show OpR _ _ (rLtT K) from op_ltT hr'.units0)) (pe_ix (show IxR _ (rIxT K) from ix_tup) (pv 1) (pv 0) (fun _ _ => rfl)) (pe_ix (show IxR _ (rIxT K) from ix_tup) (pv 1) (pe_op op_add (pv 0) pe_int) (fun _ _ => rfl)) (nomark _)) (fun _ => rfl))), ?_⟩
    refine ⟨.ref a, rfl, a, xs, rfl, .inr hS, (xs.length : Int), 1, rfl, rfl, (xs.length : Int) - 1, rfl, by omega, by omega, ht.gen PT hP, fun H2 hT2 => ?_⟩
    have e2 := Ext.of_tabbed ht hP hT2
    rcases hR with ⟨ns, rfl, rfl⟩ | ⟨fss, hp, rfl⟩
    · refine gW_rng (fun i H3 => H3 = H2 ∧ ∀ (j : Nat) (h : j + 1 < ns.length), j < i → ltI ns[j] ns[j + 1] = true) ⟨rfl, fun j _ hj => by omega⟩ (fun H3 e => ?_) fun i H3 hi e => ?_
      · obtain ⟨rfl, e⟩ := e
        have z := q _ e2
        rw [adjB_iff.mpr fun j hj => e j hj (by rw [List.length_map]; omega)] at z
        exact z
      · obtain ⟨rfl, e⟩ := e
        rw [List.length_map] at hi
        have h1 : i < ns.length := by omega
        have h2 : i + 1 < ns.length := by omega
        refine ⟨.ref a, rfl, .int (0 + i), rfl, a, _, 0 + i, .int ns[i], rfl, rfl, e2.sqT hS, ?_, .ref a, rfl, .int (0 + i), rfl, 0 + i, 1, rfl, rfl, a, _, 0 + i + 1, .int ns[i + 1], rfl, rfl, e2.sqT hS, ?_, ?_⟩
        · rw [Int.zero_add]
          exact atI_nat (by rw [List.getElem?_map, List.getElem?_eq_getElem h1]; rfl)
        · have : (0 + (i : Int) + 1) = ((i + 1 : Nat) : Int) := by omega
          rw [this]
          exact atI_nat (by rw [List.getElem?_map, List.getElem?_eq_getElem h2]; rfl)
        · refine .inl ⟨ns[i], ns[i + 1], rfl, rfl, ltI ns[i] ns[i + 1], rfl, fun hb => ⟨rfl, fun j hj hji => ?_⟩, fun hb => ?_⟩
          · by_cases eij : j = i
            · subst eij
              exact hb
            · exact e j hj (by omega)
          · have hb' : ltI ns[i] ns[i + 1] = false := by simpa using hb
            have z := q _ e2
            have e5 : adjB ltI ns = false := by
              cases e6 : adjB ltI ns with
              | false => rfl
              | true =>
                rw [adjB_iff.mp e6 i h2] at hb'
                cases hb'
            rw [e5] at z
            rw [hb']
            exact z
    · have hlen := Paired.length hp
      refine gW_rng (fun i H3 => H3 = H2 ∧ ∀ (j : Nat) (h : j + 1 < fss.length), j < i → lex fss[j] fss[j + 1] = true) ⟨rfl, fun j _ hj => by omega⟩ (fun H3 e => ?_) fun i H3 hi e => ?_
      · obtain ⟨rfl, e⟩ := e
        have z := q _ e2
        rw [adjB_iff.mpr fun j hj => e j hj (by omega)] at z
        exact z
      · obtain ⟨rfl, e⟩ := e
        have h1 : i < xs.length := by omega
        have h2 : i + 1 < xs.length := by omega
        refine ⟨.ref a, rfl, .int (0 + i), rfl, a, xs, 0 + i, xs[i], rfl, rfl, e2.sqT hS, ?_, .ref a, rfl, .int (0 + i), rfl, 0 + i, 1, rfl, rfl, a, xs, 0 + i + 1, xs[i + 1], rfl, rfl, e2.sqT hS, ?_, ?_⟩
        · rw [Int.zero_add]
          exact atI_nat (List.getElem?_eq_getElem h1)
        · have : (0 + (i : Int) + 1) = ((i + 1 : Nat) : Int) := by omega
          rw [this]
          exact atI_nat (List.getElem?_eq_getElem h2)
        · obtain ⟨f1, k1, ⟨t1, z1, s1⟩⟩ := paired_get hp (List.getElem?_eq_getElem h1)
          obtain ⟨f2, k2, ⟨t2, z2, s2⟩⟩ := paired_get hp (List.getElem?_eq_getElem h2)
          obtain ⟨g1, k1⟩ := List.getElem?_eq_some_iff.mp k1
          obtain ⟨g2, k2⟩ := List.getElem?_eq_some_iff.mp k2
          refine .inr ⟨t1, t2, f1, f2, z1, z2, e2.sqT s1, e2.sqT s2, lex f1 f2, rfl, fun hb => ⟨rfl, fun j hj hji => ?_⟩, fun hb => ?_⟩
          · by_cases eij : j = i
            · subst eij
              rw [k1, k2]
              exact hb
            · exact e j hj (by omega)
          · have hb' : lex f1 f2 = false := by simpa using hb
            have z := q _ e2
            have e5 : adjB lex fss = false := by
              cases e6 : adjB lex fss with
              | false => rfl
              | true =>
                have := adjB_iff.mp e6 i g2
                rw [k1, k2, hb'] at this
                cases this
            rw [e5] at z
            rw [hb']
            exact z
/-! ### is_rising of any thing -/
def spRisingX (K : PySem.W.Frag) (Ps : Tbs) : Sp := fun vs H Q _ => ∃ (x : V) (d : PyData) (m : Int), vs = [x, .int m] ∧ Th K H x d ∧ wide d = true ∧ Tb Ps H ∧ ∀ H', Ext Ps H H' → Q (.bl (risD d m)) H'
theorem ok_risingX {fB cB fR cR : Addr} {fdB fdR : FuncData} (D : Def K mg "is_rising" sRising ["thing", "many"] f fd c) (DB : Def K mg "all_below" sBelow ["thing", "many"] fB fdB cB) (DR : Def K mg "rises" sRises ["things"] fR fdR cR)
    (GB : FnOk P w K mg base CX0 (k + 3) fB fdB ["thing", "many"] (spBelowX K Ps)) (GR : FnOk P w K mg base CX0 (k + 3) fR fdR ["things"] (spRisesX K Ps)) : FnOk P w K mg base CX0 (k + 4) f fd ["thing", "many"] (spRisingX K Ps) := by
  refine D.ok (k := k + 3) scRising (fun vs H Q E h => ?_) (fun A outer s H vs Q E hr h => ?_)
  · obtain ⟨x, d, m, rfl, _⟩ := h
    rfl
  · obtain ⟨x, d, m, rfl, hx, hw, ht, q⟩ := h
    refine ⟨_, pss_one (ps_ret (pe_and (pcl DB GB hr (pa_cons (pv 0) (pa_cons (pv 1) pa_nil))) (pe_one (pcl DR GR hr (pa_cons (pv 0) pa_nil))))), ?_⟩
    refine ⟨x, rfl, .int m, rfl, x, d, m, rfl, hx, ht, fun H1 e1 => ⟨belowD d m, rfl, ?_⟩⟩
    cases hb : belowD d m with
    | false =>
      have e5 : risD d m = false := by
        unfold risD
        rw [hb]
        rfl
      have z := q _ e1
      rw [e5] at z
      exact iteF z
    | true =>
      obtain ⟨ns, rfl, hns⟩ := below_ints hb
      have e5 : risD (tD ns) m = adjB ltI ns := by
        unfold risD
        rw [hb, intsOf_tD]
        rfl
      have hl : ns.length ≤ 1000 := by
        have h0 : wide (.tuple (iD ns)) = true := hw
        rw [wide, Bool.and_eq_true, decide_eq_true_eq, List.length_map] at h0
        exact h0.1
      rw [e5] at q
      cases hx with
      | @tup a xs _ hS ha =>
      obtain ⟨ms, rfl, e4⟩ := th_asInts ha fun d hd => by
        obtain ⟨i, _, rfl⟩ := List.mem_map.mp hd
        exact ⟨i, rfl⟩
      have e6 : ns = ms := List.map_inj_right (fun a b h => by cases h; rfl) |>.mp (show ns.map PyData.int = ms.map PyData.int from e4)
      subst e6
      exact iteT ⟨.ref a, rfl, a, _, adjB ltI ns, rfl, e1.sqT hS, .inl ⟨ns, rfl, rfl⟩, by rw [List.length_map]; exact hl, e1.tb, fun H2 e2 => q _ (e1.trans e2)⟩
end
end Lf

set_option maxHeartbeats 2000000
namespace Lf
open PySem PySem.Spec PyProof.Rows L2 GxR GxA SrT
theorem lexT : ∀ {a b c : List Int}, lex a b = true → lex b c = true → lex a c = true
  | [], [], _, h, _ => by cases h
  | [], _ :: _, [], _, h => by cases h
  | [], _ :: _, _ :: _, _, _ => rfl
  | _ :: _, [], _, h, _ => by cases h
  | _ :: _, _ :: _, [], _, h => by cases h
  | x :: xs, y :: ys, z :: zs, h1, h2 => by
    have a1 : (if x = y then lex xs ys else decide (x < y)) = true := h1
    have a2 : (if y = z then lex ys zs else decide (y < z)) = true := h2
    show (if x = z then lex xs zs else decide (x < z)) = true
    by_cases e1 : x = y
    · by_cases e2 : y = z
      · rw [if_pos e1] at a1
        rw [if_pos e2] at a2
        rw [if_pos (e1.trans e2)]
        exact lexT a1 a2
      · rw [if_neg e2] at a2
        rw [if_neg (by omega)]
        have := of_decide_eq_true a2
        exact decide_eq_true (by omega)
    · rw [if_neg e1] at a1
      have b1 := of_decide_eq_true a1
      by_cases e2 : y = z
      · rw [if_neg (by omega)]
        exact decide_eq_true (by omega)
      · rw [if_neg e2] at a2
        have b2 := of_decide_eq_true a2
        rw [if_neg (by omega)]
        exact decide_eq_true (by omega)
theorem wide_tup {ds : List PyData} (h : wide (.tuple ds) = true) : ds.length ≤ 1000 ∧ ∀ d ∈ ds, wide d = true := by
  rw [wide, Bool.and_eq_true, decide_eq_true_eq] at h
  exact ⟨h.1, fun d hd => wideAll_mem h.2 hd⟩
/-- where all are rising, they are tuples of ints -/
theorem all_ris {ds : List PyData} {n k : Int} (h : (ds.all fun f => risD f n && decide ((lenD f : Int) = k)) = true) : ∃ fss : List (List Int), ds = fss.map tD ∧ ∀ g ∈ fss, (∀ i ∈ g, 0 ≤ i ∧ i < n) ∧ g.Pairwise (· < ·) ∧ (g.length : Int) = k := by
  induction ds with
  | nil => exact ⟨[], rfl, fun g hg => by cases hg⟩
  | cons d ds ih =>
    rw [List.all_cons, Bool.and_eq_true, Bool.and_eq_true, decide_eq_true_eq] at h
    obtain ⟨⟨h1, h2⟩, h3⟩ := h
    obtain ⟨fss, e1, e2⟩ := ih h3
    obtain ⟨ns, rfl, h4, h5⟩ := risD_iff.mp h1
    have h6 : (ns.length : Int) = k := by
      have z : lenD (tD ns) = ns.length := List.length_map ..
      rw [z] at h2
      exact h2
    refine ⟨ns :: fss, by rw [e1]; rfl, fun g hg => ?_⟩
    rcases List.mem_cons.mp hg with rfl | hg
    · exact ⟨h4, h5, h6⟩
    · exact e2 g hg
theorem map_ints (fss : List (List Int)) : (fss.map tD).map intsOf = fss := by
  rw [List.map_map]
  have e : (intsOf ∘ tD) = id := by
    funext g
    exact intsOf_tD g
  rw [e, List.map_id]
/-- a stack by its data -/
theorem isStackD_iff {d : PyData} : isStackD d = true ↔ ∃ n k fss, d = stkD n k fss ∧ StkOk n k fss := by
  constructor
  · intro h
    unfold isStackD at h
    split at h
    · rename_i n k f
      rw [Bool.and_eq_true, Bool.and_eq_true, decide_eq_true_eq, decide_eq_true_eq] at h
      obtain ⟨⟨hn, hk⟩, hf⟩ := h
      unfold facesD at hf
      split at hf
      · rename_i ds
        rw [Bool.and_eq_true, Bool.and_eq_true, decide_eq_true_eq] at hf
        obtain ⟨⟨hl, ha⟩, hs⟩ := hf
        obtain ⟨fss, rfl, hg⟩ := all_ris ha
        rw [map_ints, adjB_pw (lt := lex) fun a b c h1 h2 => lexT h1 h2] at hs
        rw [List.length_map] at hl
        exact ⟨n, k, fss, rfl, hn.1, hn.2, hk.1, hk.2.1, hk.2.2, hl.1, hl.2, fun g h => (hg g h).2.2, fun g h => (hg g h).2.1, fun g h => (hg g h).1, hs⟩
      · cases hf
    · cases h
  · rintro ⟨n, k, fss, rfl, S⟩
    show (decide (1 ≤ n ∧ n ≤ 8) && decide (0 ≤ k ∧ k ≤ n ∧ k ≤ 4) && facesD n k (.tuple (fss.map tD))) = true
    rw [decide_eq_true ⟨S.n1, S.n8⟩, decide_eq_true ⟨S.k0, S.kn, S.k4⟩, Bool.and_self, Bool.true_and]
    show (decide (1 ≤ (fss.map tD).length ∧ (fss.map tD).length ≤ 70) && ((fss.map tD).all fun f => risD f n && decide ((lenD f : Int) = k)) && adjB lex ((fss.map tD).map intsOf)) = true
    rw [map_ints, (adjB_pw (lt := lex) fun a b c h1 h2 => lexT h1 h2).mpr S.srt, List.length_map, decide_eq_true ⟨S.l1, S.l70⟩, Bool.true_and, Bool.and_true, List.all_map, List.all_eq_true]
    intro g hg
    show (risD (tD g) n && decide ((lenD (tD g) : Int) = k)) = true
    rw [risD_iff.mpr ⟨g, rfl, S.bel g hg, S.ris g hg⟩, Bool.true_and]
    have z : lenD (tD g) = g.length := List.length_map ..
    rw [z]
    exact decide_eq_true (S.len g hg)
section
variable {P : Program} {w : World} {K : PySem.W.Frag} {mg : Str → Option Value} {base : Heap} {Ps : Tbs} {H H' H0 : Hp} {k : Nat} {f c : Addr} {fd : FuncData}
/-! ### are_faces of any thing -/
def spAreFacesX (K : PySem.W.Frag) (Ps : Tbs) : Sp := fun vs H Q _ => ∃ (n k : Int) (x : V) (d : PyData), vs = [.int n, .int k, x] ∧ Th K H x d ∧ wide d = true ∧ Tb Ps H ∧ ∀ H', Ext Ps H H' → Q (.bl (facesD n k d)) H'
theorem ok_areFacesX {fR cR fS cS PT : Addr} {fdR fdS : FuncData} {t70 : Tok} (D : Def K mg "are_faces" sAreFaces ["n", "k", "thing"] f fd c) (DR : Def K mg "is_rising" sRising ["thing", "many"] fR fdR cR) (GR : FnOk P w K mg base CX0 k fR fdR ["thing", "many"] (spRisingX K Ps))
    (DS : Def K mg "rises" sRises ["things"] fS fdS cS) (GS : FnOk P w K mg base CX0 (k + 1) fS fdS ["things"] (spRisesX K Ps)) (TB : TabB base mg c PT) (hP : PT ∈ Ps)
    (mi : mg "isinstance" = none) (mt : mg "tuple" = none) (ml : mg "len" = none) (ma : mg "all" = none) (m70 : mg "MOST_FACES" = some (.int 70 t70)) : FnOk P w K mg base CX0 (k + 2) f fd ["n", "k", "thing"] (spAreFacesX K Ps) := by
  refine D.ok (k := k + 1) scAreFaces (fun vs H Q E h => ?_) (fun A outer s H vs Q E hr h => ?_)
  · obtain ⟨n, kk, x, d, rfl, _⟩ := h
    rfl
  · obtain ⟨n, kk, x, d, rfl, hx, hw, ht, q⟩ := h
    refine ⟨_, pss_cons (ps_if (PW.pt (pw_or (pt_not (pt_val (pe_callB call_isi (by rfl) mi (by decide +kernel) (pa_cons (pv 2) (pa_cons (pe_bltn (v := .ty "tuple") (by rfl) mt (by decide +kernel) rfl) pa_nil)))))
        (pw_or1 (pt_not (pt_chain op_le op_le pe_int (pe_callB call_len_seq (by rfl) ml PySem.boot_len (pa_cons (pv 2) pa_nil)) (pe_glob rfl m70 (v := .int 70) ⟨_, rfl⟩)))))) (pss_one (ps_ret pe_bl)) pss_nil)
      (pss_one (ps_ret (pe_and (pe_allG (k := k) (caps := [0, 1]) (xs := ["n", "k"]) hr (by rfl) ma TB rfl (genS rfl rfl (by decide +kernel) rfl rfl) ⟨⟨rfl, .inl rfl, rfl⟩, ⟨rfl, .inl rfl, rfl⟩, trivial⟩ (by decide +kernel) (pi_tup (pv 2))
        (fun _ _ _ _ _ _ _ hr' => pe_and (pcl DR GR hr' (pa_cons (pv 0) (pa_cons (pv 1) pa_nil))) (pe_one (pe_cmpR op_eq (pe_callB (call_lenS (K := K) rfl) (by rfl) ml PySem.boot_len (pa_cons (pv 0) pa_nil)) (pv 2) (nomark _)))) (fun _ => rfl))
        (pe_one (pcl DS GS hr (pa_cons (pv 2) pa_nil)))))), ?_⟩
    obtain ⟨t, ty, hk⟩ := tup_kit hx
    refine ⟨x, rfl, x, .ty "tuple", .type t, .type "tuple", isTup d, rfl, .ty _, ty, kit_ty hk, isTup d, rfl, ?_⟩
    have no : isTup d = false → facesD n kk d = false := by
      intro e
      cases d with
      | tuple ds => cases e
      | _ => rfl
    cases hd : isTup d with
    | false =>
      have z := q _ (Ext.refl ht)
      rw [no hd] at z
      exact iteT z
    | true =>
      cases d with
      | tuple ds =>
        cases hx with
        | @tup a xs _ hS ha =>
        have hlen := thAll_len ha
        obtain ⟨hw1, hw2⟩ := wide_tup hw
        refine iteF ⟨.ref a, rfl, a, xs, rfl, .inr hS, 1, (xs.length : Int), rfl, rfl, decide ((1 : Int) ≤ (xs.length : Int)), rfl, ?_⟩
        by_cases c1 : 1 ≤ ds.length ∧ ds.length ≤ 70
        · rw [decide_eq_true (show (1 : Int) ≤ (xs.length : Int) by omega)]
          refine iteT ⟨(xs.length : Int), 70, rfl, rfl, decide ((xs.length : Int) ≤ 70), rfl, ?_⟩
          rw [decide_eq_true (show (xs.length : Int) ≤ 70 by omega)]
          refine iteF ⟨.ref a, rfl, a, rfl, ⟨_, hS⟩, ht.gen PT hP, fun H2 hT2 => ?_⟩
          have e2 := Ext.of_tabbed ht hP hT2
          refine gW_tup (xs := xs) (fun i H3 => Ext Ps H H3 ∧ ((ds.take i).all fun f => risD f n && decide ((lenD f : Int) = kk)) = true) ⟨e2, rfl⟩ (fun i H3 e => e.1.sqT hS) (fun H3 e => ?_) fun i H3 y hy e => ?_
          · obtain ⟨e, h2⟩ := e
            rw [hlen, List.take_length] at h2
            have ef : facesD n kk (.tuple ds) = adjB lex (ds.map intsOf) := by
              show (decide (1 ≤ ds.length ∧ ds.length ≤ 70) && (ds.all fun f => risD f n && decide ((lenD f : Int) = kk)) && adjB lex (ds.map intsOf)) = _
              rw [decide_eq_true c1, h2]
              rfl
            rw [ef] at q
            obtain ⟨fss, rfl, hg⟩ := all_ris h2
            rw [map_ints] at q
            obtain ⟨gss, hp, e4⟩ := th_asTups (e.thAll ha) fun d hd => by
              obtain ⟨g, _, rfl⟩ := List.mem_map.mp hd
              exact ⟨g, rfl⟩
            have e5 : fss = gss := by
              have z := congrArg (List.map intsOf) e4
              rw [map_ints, map_ints] at z
              exact z
            subst e5
            exact ⟨true, rfl, iteT ⟨.ref a, rfl, a, xs, _, rfl, e.sqT hS, .inr ⟨fss, hp, rfl⟩, by omega, e.tb, fun H4 e4 => q _ (e.trans e4)⟩⟩
          · obtain ⟨e, h2⟩ := e
            obtain ⟨d', hd', hy'⟩ := thAll_get ha hy
            have hm := List.mem_of_getElem? hd'
            have wrong : (risD d' n && decide ((lenD d' : Int) = kk)) = false → facesD n kk (.tuple ds) = false := fun hb => by
              have z : (ds.all fun f => risD f n && decide ((lenD f : Int) = kk)) = false := by
                rw [List.all_eq_false]
                exact ⟨d', hm, by rw [hb]; simp⟩
              show (decide (1 ≤ ds.length ∧ ds.length ≤ 70) && (ds.all fun f => risD f n && decide ((lenD f : Int) = kk)) && adjB lex (ds.map intsOf)) = false
              rw [z, Bool.and_false, Bool.false_and]
            refine ⟨y, rfl, .int n, rfl, y, d', n, rfl, e.th hy', hw2 d' hm, e.tb, fun H4 e4 => ⟨risD d' n, rfl, ?_⟩⟩
            cases hb : risD d' n with
            | false =>
              have z := q _ (e.trans e4)
              rw [wrong (by rw [hb]; rfl)] at z
              exact iteF ⟨false, rfl, (fun y => by cases y), fun _ => ⟨false, rfl, iteF z⟩⟩
            | true =>
              obtain ⟨g, rfl, hg1, hg2⟩ := risD_iff.mp hb
              obtain ⟨gt, rfl, hgs⟩ : TupI K H4 y g := by
                cases (e4.th (e.th hy')) with
                | @tup b zs _ hS2 ha2 =>
                obtain ⟨ms, rfl, e7⟩ := th_asInts ha2 fun d hd => by
                  obtain ⟨i, _, rfl⟩ := List.mem_map.mp hd
                  exact ⟨i, rfl⟩
                have e8 : g = ms := List.map_inj_right (fun a b h => by cases h; rfl) |>.mp (show g.map PyData.int = ms.map PyData.int from e7)
                subst e8
                exact ⟨b, rfl, hS2⟩
              have el : lenD (tD g) = g.length := List.length_map ..
              refine iteT ⟨.ref gt, rfl, gt, _, rfl, .inr hgs, .int kk, rfl, rfl, decide ((g.length : Int) = kk), ?_, fun hb2 => ⟨e.trans e4, ?_⟩, fun hb2 => ?_⟩
              · rw [List.length_map]
                refine congrArg V.bl ?_
                by_cases e9 : (g.length : Int) = kk
                · rw [decide_eq_true e9, decide_eq_true (congrArg V.int e9)]
                · rw [decide_eq_false e9, decide_eq_false (fun z => e9 (V.int.inj z))]
              · rw [List.take_add_one, hd', List.all_append, h2]
                simp only [Bool.true_and, Option.toList_some, List.all_cons, List.all_nil, Bool.and_true]
                rw [hb, el, hb2]
                rfl
              · have z := q _ (e.trans e4)
                have hb3 : decide ((g.length : Int) = kk) = false := by simpa using hb2
                rw [wrong (by rw [hb, el, hb3]; rfl)] at z
                refine ⟨decide ((g.length : Int) = kk), rfl, ?_⟩
                rw [hb3]
                exact iteF z
        · have ef : facesD n kk (.tuple ds) = false := by
            show (decide (1 ≤ ds.length ∧ ds.length ≤ 70) && (ds.all fun f => risD f n && decide ((lenD f : Int) = kk)) && adjB lex (ds.map intsOf)) = false
            rw [decide_eq_false c1]
            rfl
          have z := q _ (Ext.refl ht)
          rw [ef] at z
          by_cases c2 : 1 ≤ ds.length
          · rw [decide_eq_true (show (1 : Int) ≤ (xs.length : Int) by omega)]
            refine iteT ⟨(xs.length : Int), 70, rfl, rfl, decide ((xs.length : Int) ≤ 70), rfl, ?_⟩
            rw [decide_eq_false (show ¬ (xs.length : Int) ≤ 70 by omega)]
            exact iteT z
          · rw [decide_eq_false (show ¬ (1 : Int) ≤ (xs.length : Int) by omega)]
            exact iteF ⟨false, rfl, iteT z⟩
      | _ => cases hd
end
end Lf

set_option maxHeartbeats 2000000
namespace Lf
open PySem PySem.Spec PyProof.Rows L2 GxR GxA SrT
section
variable {P : Program} {w : World} {K : PySem.W.Frag} {mg : Str → Option Value} {base : Heap} {Ps : Tbs} {H H' H0 : Hp} {k : Nat} {f c : Addr} {fd : FuncData}
/-- two promises of one def -/
theorem fn_or {CX : CXT} {ps : List Str} {sp sp' : Sp} (F : FnOk P w K mg base CX k f fd ps sp) (G : FnOk P w K mg base CX k f fd ps sp') : FnOk P w K mg base CX k f fd ps (fun vs H Q E => sp vs H Q E ∨ sp' vs H Q E) :=
  ⟨fun vs H Q E h => h.elim (F.len vs H Q E) (G.len vs H Q E), fun A outer s H args us vs Q E r0 r1 r2 r3 h => h.elim (F.run A outer s H args us vs Q E r0 r1 r2 r3) (G.run A outer s H args us vs Q E r0 r1 r2 r3)⟩
/-- a def that refuses nothing, among those that may -/
theorem fn_lift {ps : List Str} {sp : Sp} (F : FnOk P w K mg base CX0 k f fd ps sp) : FnOk P w K mg base (L2.CX P w) k f fd ps sp :=
  ⟨F.len, fun A outer s H args us vs Q E r0 r1 r2 r3 h => codeAny_mono (F.run A outer s H args us vs Q E r0 r1 r2 r3 h) fun r s' hq => match r, hq with
    | .ok (.ret _), hq => hq
    | .error _, hq => False.elim hq⟩
theorem isStackD_len {ds : List PyData} (h : ds.length ≠ 3) : isStackD (.tuple ds) = false := by
  unfold isStackD
  split
  · rename_i n k f e
    cases e
    exact absurd rfl h
  · rfl
/-- is_stack of three things -/
theorem isStackD_3 (d1 d2 d3 : PyData) : isStackD (.tuple [d1, d2, d3]) = true → ∃ n k, d1 = .int n ∧ d2 = .int k ∧ 1 ≤ n ∧ n ≤ 8 ∧ 0 ≤ k ∧ k ≤ n ∧ k ≤ 4 ∧ facesD n k d3 = true := by
  intro h
  unfold isStackD at h
  split at h
  · rename_i n k f e
    simp only [PyData.tuple.injEq, List.cons.injEq, and_true] at e
    obtain ⟨rfl, rfl, rfl⟩ := e
    rw [Bool.and_eq_true, Bool.and_eq_true, decide_eq_true_eq, decide_eq_true_eq] at h
    exact ⟨n, k, rfl, rfl, h.1.1.1, h.1.1.2, h.1.2.1, h.1.2.2.1, h.1.2.2.2, h.2⟩
  · cases h
def spIsStackX (K : PySem.W.Frag) (Ps : Tbs) : Sp := fun vs H Q _ => ∃ (x : V) (d : PyData), vs = [x] ∧ Th K H x d ∧ wide d = true ∧ Tb Ps H ∧ ∀ H', Ext Ps H H' → Q (.bl (isStackD d)) H'
theorem ok_isStackX {fW cW fA cA : Addr} {fdW fdA : FuncData} {t8 t4 : Tok} (D : Def K mg "is_stack" sIsStack ["thing"] f fd c) (DW : Def K mg "is_within" sWithin ["thing", "least", "most"] fW fdW cW) (GW : FnOk P w K mg base CX0 k fW fdW ["thing", "least", "most"] (spWithinX K))
    (DA : Def K mg "are_faces" sAreFaces ["n", "k", "thing"] fA fdA cA) (GA : FnOk P w K mg base CX0 k fA fdA ["n", "k", "thing"] (spAreFacesX K Ps))
    (mi : mg "isinstance" = none) (mt : mg "tuple" = none) (ml : mg "len" = none) (mm : mg "min" = none) (m8 : mg "MOST_POINTS" = some (.int 8 t8)) (m4 : mg "MOST_IN_FACE" = some (.int 4 t4)) : FnOk P w K mg base CX0 (k + 1) f fd ["thing"] (spIsStackX K Ps) := by
  refine D.ok (k := k) scIsStack (fun vs H Q E h => ?_) (fun A outer s H vs Q E hr h => ?_)
  · obtain ⟨x, d, rfl, _⟩ := h
    rfl
  · obtain ⟨x, d, rfl, hx, hw, ht, q⟩ := h
    refine ⟨_, pss_cons (ps_if (PW.pt (pw_or (pt_not (pt_val (pe_callB call_isi (by rfl) mi (by decide +kernel) (pa_cons (pv 0) (pa_cons (pe_bltn (v := .ty "tuple") (by rfl) mt (by decide +kernel) rfl) pa_nil)))))
        (pw_or1 (pt_cmpR op_ne (pe_callB (call_lenS (K := K) rfl) (by rfl) ml PySem.boot_len (pa_cons (pv 0) pa_nil)) pe_int (nomark _))))) (pss_one (ps_ret pe_bl)) pss_nil)
      (pss_cons (ps_asg (pv 0) (pg_tup (by rfl) (pgs_cons (pg_name (i := 1) scIsStack.nd rfl (.inl rfl)) (pgs_cons (pg_name (i := 2) scIsStack.nd rfl (.inl rfl)) (pgs_cons (pg_name (i := 3) scIsStack.nd rfl (.inl rfl)) pgs_nil)))))
      (pss_cons (ps_if (PW.pt (pw_or (pt_not (pt_val (pcl DW GW hr (pa_cons (pv 1) (pa_cons pe_int (pa_cons (pe_glob rfl m8 (v := .int 8) ⟨_, rfl⟩) pa_nil))))))
        (pw_or1 (pt_not (pt_val (pcl DW GW hr (pa_cons (pv 2) (pa_cons pe_int (pa_cons (pe_callB (call_min2 rfl) (by rfl) mm (by decide +kernel) (pa_cons (pv 1) (pa_cons (pe_glob rfl m4 (v := .int 4) ⟨_, rfl⟩) pa_nil))) pa_nil))))))))) (pss_one (ps_ret pe_bl)) pss_nil)
      (pss_one (ps_ret (pcl DA GA hr (pa_cons (pv 1) (pa_cons (pv 2) (pa_cons (pv 3) pa_nil)))))))), ?_⟩
    obtain ⟨t, ty, hk⟩ := tup_kit hx
    have qf : isStackD d = false → Q (.bl false) H := fun e => by
      have z := q _ (Ext.refl ht)
      rw [e] at z
      exact z
    refine ⟨x, rfl, x, .ty "tuple", .type t, .type "tuple", isTup d, rfl, .ty _, ty, kit_ty hk, isTup d, rfl, ?_⟩
    cases d with
    | tuple ds =>
      cases hx with
      | @tup a xs _ hS ha =>
      have hlen := thAll_len ha
      refine iteF ⟨.ref a, rfl, a, xs, rfl, .inr hS, rfl, !decide (xs.length = 3), ?_, ?_⟩
      · refine congrArg V.bl ?_
        by_cases e : xs.length = 3
        · rw [decide_eq_true e, decide_eq_true (by rw [e]; rfl)]
        · rw [decide_eq_false e, decide_eq_false (fun z => e (by have := V.int.inj z; omega))]
      match ds, xs, ha, hlen with
      | [d1, d2, d3], [x1, x2, x3], .cons h1 (.cons h2 (.cons h3 .nil)), _ =>
        obtain ⟨_, hw2⟩ := wide_tup hw
        refine iteF ⟨.ref a, rfl, a, _, rfl, hS, rfl, _, _, rfl, _, _, rfl, _, _, rfl, rfl, ?_⟩
        refine ⟨x1, rfl, x1, d1, 1, 8, rfl, h1, intIn d1 1 8, rfl, ?_⟩
        cases b1 : intIn d1 1 8 with
        | false =>
          refine iteT (qf ?_)
          cases e : isStackD (.tuple [d1, d2, d3]) with
          | false => rfl
          | true =>
            obtain ⟨n, kk, rfl, rfl, e1, e2, _⟩ := isStackD_3 _ _ _ e
            rw [show intIn (.int n) 1 8 = true from by show (decide (1 ≤ n) && decide (n ≤ 8)) = true; rw [decide_eq_true e1, decide_eq_true e2]; rfl] at b1
            cases b1
        | true =>
          cases d1 with
          | int n =>
            cases h1
            have hn : 1 ≤ n ∧ n ≤ 8 := by
              have z : (decide (1 ≤ n) && decide (n ≤ 8)) = true := b1
              rw [Bool.and_eq_true, decide_eq_true_eq, decide_eq_true_eq] at z
              exact z
            have hmin : ∀ m : Int, (m ≤ n ∧ m ≤ 4 ∧ (m = n ∨ m = 4)) → (∃ b : Bool, V.bl (intIn d2 0 m) = V.bl b ∧ (if (!b) = true then Q (.bl false) H else tCall (spAreFacesX K Ps) [] E0 (tCons (tVar 1) (tCons (tVar 2) (tCons (tVar 3) tNil))) [some (.ref a), some (.int n), some x2, some x3] H Q)) := by
              intro m hm
              refine ⟨intIn d2 0 m, rfl, ?_⟩
              cases b2 : intIn d2 0 m with
              | false =>
                refine iteT (qf ?_)
                cases e : isStackD (.tuple [.int n, d2, d3]) with
                | false => rfl
                | true =>
                  obtain ⟨n', kk, e0, rfl, e1, e2, e3, e4, e5, _⟩ := isStackD_3 _ _ _ e
                  cases e0
                  rw [show intIn (.int kk) 0 m = true from by show (decide (0 ≤ kk) && decide (kk ≤ m)) = true; rw [decide_eq_true e3, decide_eq_true (by omega)]; rfl] at b2
                  cases b2
              | true =>
                cases d2 with
                | int kk =>
                  cases h2
                  have hkk : 0 ≤ kk ∧ kk ≤ m := by
                    have z : (decide (0 ≤ kk) && decide (kk ≤ m)) = true := b2
                    rw [Bool.and_eq_true, decide_eq_true_eq, decide_eq_true_eq] at z
                    exact z
                  have hk2 : kk ≤ n ∧ kk ≤ 4 := by omega
                  have e6 : isStackD (.tuple [.int n, .int kk, d3]) = facesD n kk d3 := by
                    show (decide (1 ≤ n ∧ n ≤ 8) && decide (0 ≤ kk ∧ kk ≤ n ∧ kk ≤ 4) && facesD n kk d3) = _
                    rw [decide_eq_true hn, decide_eq_true ⟨hkk.1, hk2.1, hk2.2⟩]
                    rfl
                  refine iteF ⟨.int n, rfl, .int kk, rfl, x3, rfl, n, kk, x3, d3, rfl, h3, hw2 d3 (by simp), ht, fun H' e => ?_⟩
                  rw [← e6]
                  exact q H' e
                | _ => cases b2
            refine iteF ⟨x2, rfl, .int n, rfl, n, 4, rfl, x2, d2, 0, _, rfl, h2, ?_⟩
            obtain ⟨b, e1, e2⟩ := hmin _ (show (if (4 : Int) < n then (4 : Int) else n) ≤ n ∧ _ from by split <;> omega)
            exact ⟨b, e1, e2⟩
          | _ => cases b1
      | [], [], _, _ => exact iteT (qf (isStackD_len (by simp)))
      | [_], [_], _, _ => exact iteT (qf (isStackD_len (by simp)))
      | [_, _], [_, _], _, _ => exact iteT (qf (isStackD_len (by simp)))
      | d1 :: d2 :: d3 :: d4 :: ds, x1 :: x2 :: x3 :: x4 :: xs, _, _ =>
        have e3 : decide ((x1 :: x2 :: x3 :: x4 :: xs).length = 3) = false := decide_eq_false (by simp)
        rw [e3]
        exact iteT (qf (isStackD_len (by simp)))
    | none => exact iteT (qf rfl)
    | bool b => exact iteT (qf rfl)
    | int i => exact iteT (qf rfl)
    | str z => exact iteT (qf rfl)
    | list ds => exact iteT (qf rfl)
    | dict kvs => exact iteT (qf rfl)
end
end Lf

set_option maxHeartbeats 2000000
namespace Lf
open PySem PySem.Spec PyProof.Rows L2 GxR GxA SrT
theorem thAll_take {K : PySem.W.Frag} {H : Hp} {F : Addr → Prop} : ∀ {m : Nat} {ds : List PyData} {xs : List V}, ThAllF K H F xs ds → ThAllF K H F (xs.take m) (ds.take m)
  | 0, _, _, _ => by
    rw [List.take_zero, List.take_zero]
    exact .nil
  | m + 1, [], _, h => by cases h; exact .nil
  | m + 1, d :: ds, _, h => by
    cases h with
    | cons h1 h2 => exact .cons h1 (thAll_take h2)
theorem thAll_drop {K : PySem.W.Frag} {H : Hp} {F : Addr → Prop} : ∀ {m : Nat} {ds : List PyData} {xs : List V}, ThAllF K H F xs ds → ThAllF K H F (xs.drop m) (ds.drop m)
  | 0, _, _, h => h
  | m + 1, [], _, h => by cases h; exact .nil
  | m + 1, d :: ds, _, h => by
    cases h with
    | cons h1 h2 => exact thAll_drop (m := m) h2
/-- the cut of data -/
def cutD (ds : List PyData) (lo hi : Option Int) : List PyData := (ds.drop (HT.sIx ds.length 0 lo)).take (HT.sIx ds.length ds.length hi - HT.sIx ds.length 0 lo)
theorem thAll_cut {K : PySem.W.Frag} {H : Hp} {F : Addr → Prop} {ds : List PyData} {xs : List V} {lo hi : Option Int} (h : ThAllF K H F xs ds) : ThAllF K H F (cutV xs lo hi) (cutD ds lo hi) := by
  unfold cutV cutD
  rw [thAll_len h]
  exact thAll_take (thAll_drop h)
/-- ds[m:] -/
theorem cutD_from {ds : List PyData} {m : Nat} (h : m ≤ ds.length) : cutD ds (some (m : Int)) none = ds.drop m := by
  unfold cutD
  rw [HT.sIx_nat, HT.sIx_none, Nat.min_eq_left h, List.take_of_length_le]
  rw [List.length_drop]
  omega
/-- ds[:m] -/
theorem cutD_to {ds : List PyData} {m : Nat} (h : m ≤ ds.length) : cutD ds none (some (m : Int)) = ds.take m := by
  unfold cutD
  rw [HT.sIx_nat, HT.sIx_none, Nat.min_eq_left h, List.drop_zero, Nat.sub_zero]
section
variable {X : Cx} {Ps : Tbs} {F : Addr → Prop}
/-- t + u, two tuples of things -/
def rCatTh (K : PySem.W.Frag) (Ps : Tbs) : R2 := fun x y H Q => ∃ (F : Addr → Prop) (ds es : List PyData), ThF K H F x (.tuple ds) ∧ ThF K H F y (.tuple es) ∧ ds.length + es.length ≤ 1000 ∧ Tb Ps H ∧ ∀ v H3, Ext Ps H H3 → ThF K H3 F v (.tuple (ds ++ es)) → Q v H3
theorem op_catTh : OpR X (binaryOp .Add) (rCatTh X.K Ps) := by
  intro pins s σ H x y v u Q I rx ry h
  obtain ⟨F, ds, es, hx, hy, hl, ht, q⟩ := h
  cases hx with
  | @tup a xs _ ha hxa =>
  cases hy with
  | @tup b ys _ hb hyb =>
  have l1 := thAll_len hxa
  have l2 := thAll_len hyb
  refine op_catA pins s σ H _ _ v u Q I rx ry ⟨a, b, _, _, rfl, rfl, ha, hb, ?_, fun e => ?_, fun _ e => ?_, fun _ _ p np => ?_⟩
  · rw [sizeLine_eq]
    omega
  · subst e
    have e2 : ds = [] := List.length_eq_zero_iff.mp (by rw [← l1]; rfl)
    subst e2
    exact q _ _ (Ext.refl ht) (.tup hb hyb)
  · subst e
    have e2 : es = [] := List.length_eq_zero_iff.mp (by rw [← l2]; rfl)
    subst e2
    exact q _ _ (Ext.refl ht) (by rw [List.append_nil]; exact .tup ha hxa)
  · have e := Ext.new (o := .tup (xs ++ ys)) ht np
    exact q _ _ e (.tup (.inl (.inl upd_same)) (thAll_app (e.thAll hxa) (e.thAll hyb)))
/-- t[i:j] of a tuple of things -/
def rSlTh (K : PySem.W.Frag) (Ps : Tbs) : V → Option Int → Option Int → Hp → VK → Prop := fun x lo hi H Q => ∃ (F : Addr → Prop) (ds : List PyData), ThF K H F x (.tuple ds) ∧ Tb Ps H ∧ ∀ v H3, Ext Ps H H3 → ThF K H3 F v (.tuple (cutD ds lo hi)) → Q v H3
theorem sl_Th : SlR X (rSlTh X.K Ps) := by
  intro pins s σ H x v vl vu lo hi sl Q I rx hs pl pu h
  obtain ⟨F, ds, hx, ht, q⟩ := h
  cases hx with
  | @tup a xs _ ha hxa =>
  have l1 := thAll_len hxa
  refine sl_tupA pins s σ H _ v vl vu lo hi sl Q I rx hs pl pu ⟨a, _, rfl, ha, fun z => ?_, fun _ p np => ?_⟩
  · refine q _ _ (Ext.refl ht) ?_
    have e : cutD ds lo hi = ds := by
      rw [l1] at z
      unfold cutD
      rw [z.1, z.2, List.drop_zero, Nat.sub_zero, List.take_length]
    rw [e]
    exact .tup ha hxa
  · have e := Ext.new (o := .tup (cutV xs lo hi)) ht np
    exact q _ _ e (.tup (.inl (.inl upd_same)) (e.thAll (thAll_cut hxa)))
end
/-- a tuple just laid -/
theorem th_new {K : PySem.W.Frag} {H : Hp} {F : Addr → Prop} {p : Addr} {xs : List V} {ds : List PyData} {Ps : Tbs} (ht : Tb Ps H) (np : H p = none) (h : ThAllF K H F xs ds) : ThF K (upd H p (.tup xs)) F (.ref p) (.tuple ds) := .tup (.inl (.inl upd_same)) ((Ext.new (Ps := Ps) ht np).thAll h)
theorem th_newL {K : PySem.W.Frag} {H : Hp} {F : Addr → Prop} {p : Addr} {xs : List V} {ds : List PyData} {Ps : Tbs} (ht : Tb Ps H) (np : H p = none) (hF : F p) (h : ThAllF K H F xs ds) : ThF K (upd H p (.lst xs)) F (.ref p) (.list ds) := .lst hF (.inl (.inl upd_same)) ((Ext.new (Ps := Ps) ht np).thAll h)
/-- what follows a statement, by a name -/
theorem tseq_intro {t u : TS} {D : Ends} {σ : L2.St} {H : Hp} (h : ∀ R, R = u D → t { D with nx := R } σ H) : tSeq t u D σ H := h _ rfl
/-! ### the lists and dicts of a thing: new since H, standing in Y, such as S says -/
def FS (S : Addr → Prop) (H Y : Hp) : Addr → Prop := fun b => H b = none ∧ Y b ≠ none ∧ S b
section
variable {K : PySem.W.Frag} {Ps : Tbs} {H Y Y' : Hp} {S S' : Addr → Prop} {x : V} {d : PyData} {xs : List V} {ds : List PyData}
theorem fs_mono (e : Ext Ps Y Y') : ∀ b, FS S H Y b → FS S H Y' b := fun b h => ⟨h.1, fun z => h.2.1 (e.free z), h.2.2⟩
theorem Ext.thS (e : Ext Ps Y Y') (h : ThF K Y (FS S H Y) x d) : ThF K Y' (FS S H Y') x d := (e.th h).imp (fs_mono e)
theorem Ext.thAllS (e : Ext Ps Y Y') (h : ThAllF K Y (FS S H Y) xs ds) : ThAllF K Y' (FS S H Y') xs ds := (e.thAll h).imp (fs_mono e)
theorem fs_new {p : Addr} {o : HO} (z : H p = none) (hS : S p) : FS S H (upd Y p o) p := ⟨z, by rw [upd_same]; exact Option.some_ne_none _, hS⟩
theorem th_newS {p : Addr} (ht : Tb Ps Y) (np : Y p = none) (h : ThAllF K Y (FS S H Y) xs ds) : ThF K (upd Y p (.tup xs)) (FS S H (upd Y p (.tup xs))) (.ref p) (.tuple ds) := .tup (.inl (.inl upd_same)) ((Ext.new (Ps := Ps) ht np).thAllS h)
theorem th_newLS {p : Addr} (ht : Tb Ps Y) (np : Y p = none) (z : H p = none) (hS : S p) (h : ThAllF K Y (FS S H Y) xs ds) : ThF K (upd Y p (.lst xs)) (FS S H (upd Y p (.lst xs))) (.ref p) (.list ds) := .lst (fs_new z hS) (.inl (.inl upd_same)) ((Ext.new (Ps := Ps) ht np).thAllS h)
theorem th_newDS {p : Addr} (z : H p = none) (hS : S p) : ThF K (upd Y p (.dK [])) (FS S H (upd Y p (.dK []))) (.ref p) (.dict []) := .dic (fs_new z hS) upd_same
/-- a list is laid that none of them is -/
theorem thAll_hold {r : Addr} {o : HO} (ht : Tb Ps Y) (nr : Y r = none) (h : ThAllF K Y (FS S H Y) xs ds) : ThAllF K (upd Y r o) (FS (fun b => b ≠ r) H (upd Y r o)) xs ds :=
  ((Ext.new (Ps := Ps) (o := o) ht nr).thAll h).imp fun b hb => ⟨hb.1, fun z => hb.2.1 ((Ext.new (Ps := Ps) (o := o) ht nr).free z), fun z => hb.2.1 (by rw [z]; exact nr)⟩
theorem th_hold {r : Addr} {o : HO} (ht : Tb Ps Y) (nr : Y r = none) (h : ThF K Y (FS S H Y) x d) : ThF K (upd Y r o) (FS (fun b => b ≠ r) H (upd Y r o)) x d :=
  ((Ext.new (Ps := Ps) (o := o) ht nr).th h).imp fun b hb => ⟨hb.1, fun z => hb.2.1 ((Ext.new (Ps := Ps) (o := o) ht nr).free z), fun z => hb.2.1 (by rw [z]; exact nr)⟩
theorem fs_put {r : Addr} {l l' : List V} (hr : Y r = some (.lst l)) : ∀ b, FS S H Y b → FS S H (upd Y r (.lst l')) b := fun b h => ⟨h.1, fun z => by
  by_cases e : b = r
  · rw [e, upd_same] at z
    cases z
  · rw [upd_ne e] at z
    exact h.2.1 z, h.2.2⟩
theorem thAll_put {r : Addr} {l l' : List V} (hr : Y r = some (.lst l)) (h : ThAllF K Y (FS (fun b => b ≠ r) H Y) xs ds) : ThAllF K (upd Y r (.lst l')) (FS (fun b => b ≠ r) H (upd Y r (.lst l'))) xs ds := (ThAllF.put hr (fun a ha => ha.2.2) h).imp (fs_put hr)
theorem th_put {r : Addr} {l l' : List V} (hr : Y r = some (.lst l)) (h : ThF K Y (FS (fun b => b ≠ r) H Y) x d) : ThF K (upd Y r (.lst l')) (FS (fun b => b ≠ r) H (upd Y r (.lst l'))) x d := (ThF.put hr (fun a ha => ha.2.2) h).imp (fs_put hr)
theorem sqT_put {r t : Addr} {l l' ys : List V} (hr : Y r = some (.lst l)) (h : SqT K Y t ys) : SqT K (upd Y r (.lst l')) t ys := by
  rcases h with (h | ⟨o, h⟩) | h
  · exact .inl (.inl (by rw [upd_ne (ne_of h hr (by intro z; cases z))]; exact h))
  · exact .inl (.inr ⟨o, by rw [upd_ne (ne_of h hr (by intro z; cases z))]; exact h⟩)
  · exact .inr h
theorem stk_put {r : Addr} {l l' : List V} {v : V} {n k : Int} {fss : List (List Int)} (hr : Y r = some (.lst l)) (h : Stk K Y v n k fss) : Stk K (upd Y r (.lst l')) v n k fss :=
  let ⟨a, fa, zs, h1, h2, h3, h4⟩ := h
  ⟨a, fa, zs, h1, sqT_put hr h2, sqT_put hr h3, L2.Paired.mapP h4 fun _ _ z => tupI_put hr z⟩
end
/-- no stack -/
theorem bad_of {d : PyData} (h : ∀ n k fss, d = stkD n k fss → StkOk n k fss → False) : isStackD d = false := by
  cases e : isStackD d with
  | false => rfl
  | true =>
    obtain ⟨n, k, fss, e1, e2⟩ := isStackD_iff.mp e
    exact (h n k fss e1 e2).elim
theorem tD_inj {f g : List Int} (h : tD f = tD g) : f = g := by
  have := congrArg intsOf h
  rwa [intsOf_tD, intsOf_tD] at this
theorem tDs_inj {f g : List (List Int)} (h : f.map tD = g.map tD) : f = g := by
  have := congrArg (List.map intsOf) h
  rwa [map_ints, map_ints] at this
end Lf

set_option maxHeartbeats 1000000
namespace Lf
open PySem PySem.Spec PyProof.Rows L2 GxR GxA SrT
section
variable {P : Program} {w : World} {K : PySem.W.Frag} {mg : Str → Option Value} {base : Heap} {Ps : Tbs} {H H' H0 : Hp} {k : Nat} {f c : Addr} {fd : FuncData}
theorem cut_ints (ns : List Int) (lo hi : Option Int) : ∃ ms : List Int, ms.Sublist ns ∧ cutV (ns.map V.int) lo hi = ms.map V.int := by
  refine ⟨(ns.drop (HT.sIx (ns.map V.int).length 0 lo)).take (HT.sIx (ns.map V.int).length (ns.map V.int).length hi - HT.sIx (ns.map V.int).length 0 lo), (List.take_sublist _ _).trans (List.drop_sublist _ _), ?_⟩
  unfold cutV
  rw [List.map_take, List.map_drop]
theorem Epn.ext {a : Addr} (e : Ext Ps H0 H) (n : H0 a = none) (p : Epn Ps a H H') : Ext Ps H0 H' := by
  refine ⟨p.tb, fun b o q nt => p.old b o (ne_of_none q n) (e.old b o q nt) nt, fun b o q => ?_⟩
  obtain ⟨o', q'⟩ := e.there b o q
  exact p.there b o' q'
def spLaw (K : PySem.W.Frag) (Ps : Tbs) : Sp := fun vs H Q _ => ∃ (a : Addr) (ns : List Int), vs = [.ref a] ∧ SqL K H a (ns.map V.int) ∧ ns.length ≤ 63 ∧ Tb Ps H ∧ ∀ H', Q (.bl true) H'
end
end Lf

set_option maxHeartbeats 8000000
namespace Lf
open PySem PySem.Spec PyProof.Rows L2 GxR GxA SrT
abbrev nNoStack : List Str := ["_law_pen_here", "_law_stack_here", "_law_way", "_law_n", "_law_k", "_law_faces", "_law_at_here", "_law_face", "_law_some"]
theorem wide_t {ds : List PyData} (h1 : ds.length ≤ 1000) (h2 : ∀ d ∈ ds, wide d = true) : wide (.tuple ds) = true := by
  rw [wide, decide_eq_true h1, Bool.true_and]
  induction ds with
  | nil => rfl
  | cons d ds ih =>
    rw [wideAll, h2 d List.mem_cons_self, Bool.true_and]
    exact ih (by rw [List.length_cons] at h1; omega) fun e he => h2 e (List.mem_cons_of_mem _ he)
theorem wide_l {ds : List PyData} (h1 : ds.length ≤ 1000) (h2 : ∀ d ∈ ds, wide d = true) : wide (.list ds) = true := by
  have z := wide_t h1 h2
  have e : wide (.list ds) = wide (.tuple ds) := by simp only [wide]
  rw [e]
  exact z
theorem wide_tD {ns : List Int} (h : ns.length ≤ 1000) : wide (tD ns) = true := wide_t (by rw [List.length_map]; exact h) fun d hd => by
  obtain ⟨i, _, rfl⟩ := List.mem_map.mp hd
  rfl
/-- each of the pool is none -/
def badDs (n kk : Int) (fss : List (List Int)) (fc : List Int) (j : Nat) : List PyData := [.none, .str "4 2: 01", .dict [], .int 7, .list [.int n, .int kk, .tuple (fss.map tD)], .tuple [.int n, .int kk], .tuple [.int n, .int kk, .list (fss.map tD)], .tuple [.int n, .int kk, .tuple []], .tuple ([.int n, .int kk, .tuple (fss.map tD)] ++ [.int 0]), .tuple [.int 0, .int kk, .tuple (fss.map tD)], .tuple [.int 9, .int kk, .tuple (fss.map tD)], .tuple [.bool true, .int kk, .tuple (fss.map tD)], .tuple [.int n, .none, .tuple (fss.map tD)], .tuple [.int n, .int (-1), .tuple (fss.map tD)], .tuple [.int n, .int (kk + 1), .tuple (fss.map tD)], .tuple [.int n, .int kk, .tuple ((fss.map tD) ++ [.tuple (iD fc)])], .tuple [.int n, .int kk, .tuple ((((fss.map tD).take j) ++ [.list (iD fc)]) ++ ((fss.map tD).drop (j + 1)))], .tuple [.int n, .int kk, .tuple ((((fss.map tD).take j) ++ [.tuple ([.int n] ++ (iD fc))]) ++ ((fss.map tD).drop (j + 1)))]]
theorem badDs_ok {n kk : Int} {fss : List (List Int)} {fc : List Int} {j : Nat} (S : StkOk n kk fss) (hj : fss[j]? = some fc) : ∀ d ∈ badDs n kk fss fc j, isStackD d = false ∧ wide d = true := by
  have hm := List.mem_of_getElem? hj
  have l1 := S.l1
  have l70 := S.l70
  have h4 := S.len4 fc hm
  have wf : wide (.tuple (fss.map tD)) = true := wide_t (by rw [List.length_map]; omega) fun d hd => by
    obtain ⟨g, hg, rfl⟩ := List.mem_map.mp hd
    exact wide_tD (by have := S.len4 g hg; omega)
  have w3 : ∀ {x y z : PyData}, wide x = true → wide y = true → wide z = true → wide (.tuple [x, y, z]) = true := fun h1 h2 h3 => wide_t (by show 3 ≤ 1000; decide) fun d hd => by
    simp only [List.mem_cons, List.not_mem_nil, or_false] at hd
    rcases hd with rfl | rfl | rfl <;> assumption
  have i3 : ∀ i : Int, wide (.int i) = true := fun i => rfl
  intro d hd
  unfold badDs at hd
  simp only [List.mem_cons, List.not_mem_nil, or_false] at hd
  rcases hd with rfl | rfl | rfl | rfl | rfl | rfl | rfl | rfl | rfl | rfl | rfl | rfl | rfl | rfl | rfl | rfl | rfl | rfl
  · exact ⟨rfl, rfl⟩
  · exact ⟨rfl, rfl⟩
  · exact ⟨rfl, rfl⟩
  · exact ⟨rfl, rfl⟩
  · refine ⟨rfl, wide_l (by show 3 ≤ 1000; decide) fun d hd => ?_⟩
    simp only [List.mem_cons, List.not_mem_nil, or_false] at hd
    rcases hd with rfl | rfl | rfl
    · rfl
    · rfl
    · exact wf
  · exact ⟨isStackD_len (by simp), wide_t (by show 2 ≤ 1000; decide) fun d hd => by
      simp only [List.mem_cons, List.not_mem_nil, or_false] at hd
      rcases hd with rfl | rfl <;> rfl⟩
  · refine ⟨bad_of fun n' k' g e S' => ?_, w3 (i3 _) (i3 _) (wide_l (by rw [List.length_map]; omega) (wide_tup wf).2)⟩
    simp only [stkD, PyData.tuple.injEq, List.cons.injEq] at e
    exact nomatch e.2.2.1
  · refine ⟨bad_of fun n' k' g e S' => ?_, w3 (i3 _) (i3 _) rfl⟩
    simp only [stkD, PyData.tuple.injEq, List.cons.injEq, and_true] at e
    have z := congrArg List.length e.2.2
    rw [List.length_map] at z
    have := S'.l1
    simp at z
    omega
  · refine ⟨isStackD_len (by simp), wide_t (by show 4 ≤ 1000; decide) fun d hd => ?_⟩
    simp only [List.cons_append, List.nil_append, List.mem_cons, List.not_mem_nil, or_false] at hd
    rcases hd with rfl | rfl | rfl | rfl
    · rfl
    · rfl
    · exact wf
    · rfl
  · refine ⟨bad_of fun n' k' g e S' => ?_, w3 (i3 _) (i3 _) wf⟩
    simp only [stkD, PyData.tuple.injEq, List.cons.injEq, PyData.int.injEq] at e
    have := S'.n1
    omega
  · refine ⟨bad_of fun n' k' g e S' => ?_, w3 (i3 _) (i3 _) wf⟩
    simp only [stkD, PyData.tuple.injEq, List.cons.injEq, PyData.int.injEq] at e
    have := S'.n8
    omega
  · exact ⟨rfl, w3 rfl (i3 _) wf⟩
  · exact ⟨rfl, w3 (i3 _) rfl wf⟩
  · refine ⟨bad_of fun n' k' g e S' => ?_, w3 (i3 _) (i3 _) wf⟩
    simp only [stkD, PyData.tuple.injEq, List.cons.injEq, PyData.int.injEq] at e
    have := S'.k0
    omega
  · refine ⟨bad_of fun n' k' g e S' => ?_, w3 (i3 _) (i3 _) wf⟩
    simp only [stkD, PyData.tuple.injEq, List.cons.injEq, PyData.int.injEq, and_true] at e
    have eg := tDs_inj e.2.2
    subst eg
    have a1 := S.len fc hm
    have a2 := S'.len fc hm
    omega
  · refine ⟨bad_of fun n' k' g e S' => ?_, w3 (i3 _) (i3 _) (wide_t (by rw [List.length_append, List.length_map]; show fss.length + 1 ≤ 1000; omega) fun d hd => ?_)⟩
    · simp only [stkD, PyData.tuple.injEq, List.cons.injEq, PyData.int.injEq, and_true] at e
      have eg : fss ++ [fc] = g := tDs_inj (by rw [List.map_append, ← e.2.2]; rfl)
      have z := S'.srt
      rw [← eg, List.pairwise_append] at z
      have z2 := z.2.2 fc hm fc (by simp)
      rw [SrT.lex_irrefl] at z2
      cases z2
    · rcases List.mem_append.mp hd with hd | hd
      · exact (wide_tup wf).2 d hd
      · rw [List.mem_singleton.mp hd]
        exact wide_tD (by omega)
  · refine ⟨bad_of fun n' k' g e S' => ?_, w3 (i3 _) (i3 _) (wide_t (by simp only [List.length_append, List.length_take, List.length_drop, List.length_map, List.length_cons, List.length_nil]; omega) fun d hd => ?_)⟩
    · simp only [stkD, PyData.tuple.injEq, List.cons.injEq, PyData.int.injEq, and_true] at e
      have hx : PyData.list (iD fc) ∈ g.map tD := by
        rw [← e.2.2]
        simp
      obtain ⟨y, _, hy⟩ := List.mem_map.mp hx
      cases hy
    · rcases List.mem_append.mp hd with hd | hd
      · rcases List.mem_append.mp hd with hd | hd
        · exact (wide_tup wf).2 d (List.mem_of_mem_take hd)
        · rw [List.mem_singleton.mp hd]
          exact wide_l (by rw [List.length_map]; omega) fun d hd => by
            obtain ⟨i, _, rfl⟩ := List.mem_map.mp hd
            rfl
      · exact (wide_tup wf).2 d (List.mem_of_mem_drop hd)
  · refine ⟨bad_of fun n' k' g e S' => ?_, w3 (i3 _) (i3 _) (wide_t (by simp only [List.length_append, List.length_take, List.length_drop, List.length_map, List.length_cons, List.length_nil]; omega) fun d hd => ?_)⟩
    · simp only [stkD, PyData.tuple.injEq, List.cons.injEq, PyData.int.injEq, and_true] at e
      have hx : tD (n :: fc) ∈ g.map tD := by
        rw [← e.2.2]
        refine List.mem_append_left _ (List.mem_append_right _ ?_)
        exact List.mem_singleton.mpr rfl
      obtain ⟨y, hy1, hy⟩ := List.mem_map.mp hx
      have ey := tD_inj hy
      subst ey
      have := S'.bel _ hy1 n (by simp)
      omega
    · rcases List.mem_append.mp hd with hd | hd
      · rcases List.mem_append.mp hd with hd | hd
        · exact (wide_tup wf).2 d (List.mem_of_mem_take hd)
        · rw [List.mem_singleton.mp hd]
          exact wide_tD (ns := n :: fc) (by simp only [List.length_cons]; omega)
      · exact (wide_tup wf).2 d (List.mem_of_mem_drop hd)
section
variable {P : Program} {w : World} {K : PySem.W.Frag} {mg : Str → Option Value} {base : Heap} {Ps : Tbs} {H H' H0 : Hp} {k : Nat} {f c : Addr} {fd : FuncData}
def spNoStack (K : PySem.W.Frag) (Ps : Tbs) : Sp := fun vs H Q _ => ∃ (a : Addr) (x : V) (n kk : Int) (fss : List (List Int)), vs = [.ref a, x] ∧ Pen H a ∧ Stk K H x n kk fss ∧ StkOk n kk fss ∧ Tb Ps H ∧ ∀ v d H', Epn Ps a H H' → ThF K H' (fun b => H b = none) v d → wide d = true → isStackD d = false → Q v H'
end
end Lf

set_option maxHeartbeats 2000000
namespace Lf
open PySem PySem.Spec PyProof.Rows L2 GxR GxA SrT
/-! ### repr of a thing -/
mutual
def noList : PyData → Bool
  | .list _ => false
  | .tuple ds => noLists ds
  | _ => true
def noLists : List PyData → Bool
  | [] => true
  | d :: ds => noList d && noLists ds
end
section
variable {X : Cx} {H : Hp} {pins : List (Addr × Obj)} {σ : L2.St} {s : Shared} {F : Addr → Prop}
mutual
theorem ThF.reads (I : L2.Inv X pins σ H s) : ∀ (d : PyData) (v : V) (u : Value), ThF X.K H F v d → RelV v u → ∃ as, Reads s.heap u d as ∧ (noList d = true → sysModules ∉ as)
  | .none, _, _, h, r => by
    cases h
    cases r
    exact ⟨_, Reads.none, fun _ z => nomatch z⟩
  | .bool b, _, _, h, r => by
    cases h
    cases r
    exact ⟨_, Reads.bool b, fun _ z => nomatch z⟩
  | .int i, _, _, h, r => by
    cases h
    obtain ⟨t, rfl⟩ := r
    exact ⟨_, Reads.int i t, fun _ z => nomatch z⟩
  | .str x, _, _, h, r => by
    cases h
    obtain ⟨t, rfl⟩ := r
    exact ⟨_, Reads.str x t, fun _ z => nomatch z⟩
  | .list ds, _, _, h, r => by
    cases h with
    | lst hf hs ha =>
      cases r
      obtain ⟨its, rv, ⟨o, n, ho, hc, _, hd⟩, _⟩ := I.list hs
      obtain ⟨as, hr, _⟩ := ThAllF.reads I ds _ its ha rv
      exact ⟨_, Reads.list ho hc hd hr, fun z => nomatch z⟩
  | .tuple ds, _, _, h, r => by
    cases h with
    | tup hs ha =>
      cases r
      obtain ⟨its, rv, ⟨o, ho, hc, n, hd⟩, _⟩ := I.tuple hs
      obtain ⟨as, hr, hm⟩ := ThAllF.reads I ds _ its ha rv
      exact ⟨_, Reads.tuple ho hc hd hr, fun z => hm z⟩
  | .dict kvs, _, _, h, r => by
    cases h with
    | dic hf hd =>
      cases r
      obtain ⟨_, low, vs, hkv, o, es, ep, ho, hex, hdt, _, hes, _⟩ := I.hok _ _ hd
      cases hkv
      have he0 : es.toList = [] := by
        cases e : es.toList with
        | nil => rfl
        | cons _ _ =>
          rw [e] at hes
          cases hes
      refine ⟨_, Reads.dict (kvs := []) ho hex.1 hdt (by rw [he0]; exact .nil) (by rw [he0]; exact .nil), fun _ z => ?_⟩
      have e := List.mem_singleton.mp z
      rw [← e] at low
      simp at low
theorem ThAllF.reads (I : L2.Inv X pins σ H s) : ∀ (ds : List PyData) (vs : List V) (us : List Value), ThAllF X.K H F vs ds → Vals vs us → ∃ as, ReadsAll s.heap us ds as ∧ (noLists ds = true → sysModules ∉ as)
  | [], _, _, h, r => by
    cases h
    cases r
    exact ⟨_, .nil, fun _ z => nomatch z⟩
  | d :: ds, _, _, h, r => by
    cases h with
    | cons h1 h2 =>
      cases r with
      | cons r1 r2 =>
        obtain ⟨as, a1, a2⟩ := ThF.reads I d _ _ h1 r1
        obtain ⟨bs, b1, b2⟩ := ThAllF.reads I ds _ _ h2 r2
        refine ⟨_, .cons a1 b1, fun z m => ?_⟩
        rw [noLists, Bool.and_eq_true] at z
        rcases List.mem_append.mp m with m | m
        · exact a2 z.1 m
        · exact b2 z.2 m
end
/-- what repr tells -/
def rpD : PyData → Str
  | .none => "None"
  | .bool b => if b then "True" else "False"
  | .int i => toString i
  | .str x => reprText x
  | d => d.shown
structure RpOk (d : PyData) : Prop where
  int : ∀ i, d = .int i → i.natAbs.log2 < 1920
  str : ∀ x, d = .str x → (reprText x).length ≤ sizeLine
  sh : d.showable = true
  sz : d.shown.length ≤ sizeLine
  dp : d.depth + 1 ≤ 60
  mix : d.hasDict = true → noList d = true
def rRepr (K : PySem.W.Frag) : List V → Hp → VK → Prop := fun vs H Q => ∃ (F : Addr → Prop) (x : V) (d : PyData), vs = [x] ∧ ThF K H F x d ∧ RpOk d ∧ Q (.str (rpD d)) H
theorem cr_repr (gd : X.A.guards = some []) (hu : X.A.units + 64 < cLine) : CallR X (.builtin "repr") (rRepr X.K) := by
  intro pins s σ H vs us Q I r h
  obtain ⟨F, x, d, rfl, hx, ok, q⟩ := h
  cases r with
  | cons r1 r2 =>
    cases r2
    obtain ⟨as, rd, hm⟩ := ThF.reads I d x _ hx r1
    have hdp := ok.dp
    cases hx with
    | non => cases r1; exact PySem.P.repr_of_none ⟨.str _, H, I.kept (fun _ _ e => e), ⟨_, rfl⟩, q⟩
    | bl b => cases r1; exact PySem.P.repr_of_bool ⟨.str _, H, I.kept (fun _ _ e => e), ⟨_, rfl⟩, q⟩
    | int i => obtain ⟨t, rfl⟩ := r1; exact PySem.P.repr_of_int (ok.int i rfl) ⟨.str _, H, I.kept (fun _ _ e => e), ⟨_, rfl⟩, q⟩
    | str z => obtain ⟨t, rfl⟩ := r1; exact PySem.P.repr_of_str ⟨.str _, H, I.kept (fun _ _ e => e), ⟨_, rfl⟩, q⟩ (ok.str z rfl)
    | lst hf hs ha =>
      cases r1
      exact repr_of_reads' rd ok.sh (fun z => hm (ok.mix z)) gd (by omega) (fun _ _ e => e) (fun h' u tk hk => ⟨.str _, H, I.kept hk, ⟨_, rfl⟩, q⟩) ok.sz
    | tup hs ha =>
      cases r1
      exact repr_of_reads' rd ok.sh (fun z => hm (ok.mix z)) gd (by omega) (fun _ _ e => e) (fun h' u tk hk => ⟨.str _, H, I.kept hk, ⟨_, rfl⟩, q⟩) ok.sz
    | dic hf hd =>
      cases r1
      exact repr_of_reads' rd ok.sh (fun z => hm (ok.mix z)) gd (by omega) (fun _ _ e => e) (fun h' u tk hk => ⟨.str _, H, I.kept hk, ⟨_, rfl⟩, q⟩) ok.sz
end
end Lf

set_option maxHeartbeats 2000000
namespace Lf
open PySem PySem.Spec PyProof.Rows L2 GxR GxA SrT
/-! ### things that can be shown -/
/-- a thing of a row: a number not far off, or one of few others -/
structure El (e : PyData) : Prop where
  sh : e.showable = true
  lv : e.leavesShort 13 = true
  wt : e.weight ≤ 60
  dp : e.depth ≤ 2
theorem el_int {i : Int} (h : i.natAbs < 1000000) : El (.int i) := by
  have hl : i.natAbs.log2 < 40 := by
    by_cases e : i.natAbs = 0
    · rw [e]; decide
    · exact (Nat.log2_lt e).mpr (by have : (2 : Nat) ^ 40 = 1099511627776 := by decide
                                    omega)
  refine ⟨?_, ?_, ?_, by simp [PyData.depth]⟩
  · simp only [PyData.showable]
    exact decide_eq_true (by omega)
  · simp only [PyData.leavesShort]
    exact decide_eq_true (PyData.shown_int_le (by omega))
  · simp only [PyData.weight]
    split <;> omega
theorem el_none : El .none := ⟨rfl, rfl, by simp [PyData.weight], by simp [PyData.depth]⟩
theorem el_bool (b : Bool) : El (.bool b) := ⟨rfl, rfl, by simp [PyData.weight], by simp [PyData.depth]⟩
theorem showAll {ds : List PyData} (h : ∀ e ∈ ds, El e) : PyData.showableAll ds = true := by
  induction ds with
  | nil => rfl
  | cons e ds ih =>
    rw [PyData.showableAll, (h e List.mem_cons_self).sh, ih fun x hx => h x (List.mem_cons_of_mem _ hx)]
    rfl
theorem leafAll {ds : List PyData} (h : ∀ e ∈ ds, El e) : PyData.leavesShortAll 13 ds = true := by
  induction ds with
  | nil => rfl
  | cons e ds ih =>
    rw [PyData.leavesShortAll, (h e List.mem_cons_self).lv, ih fun x hx => h x (List.mem_cons_of_mem _ hx)]
    rfl
theorem wtAll {ds : List PyData} (h : ∀ e ∈ ds, El e) : PyData.weightAll ds ≤ 61 * ds.length := by
  induction ds with
  | nil => simp [PyData.weightAll]
  | cons e ds ih =>
    have h1 := (h e List.mem_cons_self).wt
    have h2 := ih fun x hx => h x (List.mem_cons_of_mem _ hx)
    rw [PyData.weightAll, List.length_cons]
    omega
theorem dpAll_le {ds : List PyData} (h : ∀ e ∈ ds, El e) : PyData.depthAll ds ≤ 2 := by
  induction ds with
  | nil => simp [PyData.depthAll]
  | cons e ds ih =>
    have h1 := (h e List.mem_cons_self).dp
    have h2 := ih fun x hx => h x (List.mem_cons_of_mem _ hx)
    simp only [PyData.depthAll]
    omega
theorem rp_tup {ds : List PyData} (h : ∀ e ∈ ds, El e) (hl : ds.length ≤ 1000) (hm : PyData.hasDictAll ds = true → noLists ds = true) : RpOk (.tuple ds) := by
  refine ⟨(fun i z => by cases z), (fun x z => by cases z), showAll h, PyData.shown_fits (B := 13) (by decide) (by decide) (d := .tuple ds) (leafAll h) ?_, ?_, hm⟩
  · have := wtAll h
    have e : (2 : Nat) ^ 20 = 1048576 := by decide
    show PyData.weightAll ds ≤ 2 ^ 20
    omega
  · have := dpAll_le h
    simp only [PyData.depth]
    omega
theorem rp_lst {ds : List PyData} (h : ∀ e ∈ ds, El e) (hl : ds.length ≤ 1000) (hm : PyData.hasDictAll ds = false) : RpOk (.list ds) := by
  refine ⟨(fun i z => by cases z), (fun x z => by cases z), showAll h, PyData.shown_fits (B := 13) (by decide) (by decide) (d := .list ds) (leafAll h) ?_, ?_, fun z => ?_⟩
  · have := wtAll h
    have e : (2 : Nat) ^ 20 = 1048576 := by decide
    show PyData.weightAll ds ≤ 2 ^ 20
    omega
  · have := dpAll_le h
    simp only [PyData.depth]
    omega
  · have z' : PyData.hasDictAll ds = true := z
    rw [hm] at z'
    cases z'
theorem rp_none : RpOk .none := ⟨(fun i z => by cases z), (fun x z => by cases z), rfl, by decide, by simp [PyData.depth], (fun z => by cases z)⟩
theorem rp_dict : RpOk (.dict []) := ⟨(fun i z => by cases z), (fun x z => by cases z), rfl, by decide +kernel, by simp [PyData.depth, PyData.depthKv], fun _ => rfl⟩
theorem noDict_ints : ∀ ns : List Int, PyData.hasDictAll (iD ns) = false
  | [] => rfl
  | i :: ns => by
    show (PyData.hasDict (.int i) || PyData.hasDictAll (iD ns)) = false
    rw [noDict_ints ns]
    rfl
theorem el_ints {ns : List Int} (h : ∀ i ∈ ns, i.natAbs < 1000000) : ∀ e ∈ iD ns, El e := fun e he => by
  obtain ⟨i, hi, rfl⟩ := List.mem_map.mp he
  exact el_int (h i hi)
theorem noDictAll {ds : List PyData} (h : ∀ e ∈ ds, e.hasDict = false) : PyData.hasDictAll ds = false := by
  induction ds with
  | nil => rfl
  | cons e ds ih =>
    rw [PyData.hasDictAll, h e List.mem_cons_self, ih fun x hx => h x (List.mem_cons_of_mem _ hx)]
    rfl
theorem rp_t0 {ds : List PyData} (h : ∀ e ∈ ds, El e ∧ e.hasDict = false) (hl : ds.length ≤ 1000) : RpOk (.tuple ds) := rp_tup (fun e he => (h e he).1) hl fun z => by
  rw [noDictAll fun e he => (h e he).2] at z
  cases z
theorem rp_l0 {ds : List PyData} (h : ∀ e ∈ ds, El e ∧ e.hasDict = false) (hl : ds.length ≤ 1000) : RpOk (.list ds) := rp_lst (fun e he => (h e he).1) hl (noDictAll fun e he => (h e he).2)
theorem el0_ints {ns : List Int} (h : ∀ i ∈ ns, i.natAbs < 1000) : ∀ e ∈ iD ns, El e ∧ e.hasDict = false := fun e he => by
  obtain ⟨i, hi, rfl⟩ := List.mem_map.mp he
  exact ⟨el_int (by have := h i hi; omega), rfl⟩
theorem el_str0 : El (.str "0") := ⟨rfl, by decide +kernel, by decide +kernel, by simp [PyData.depth]⟩
theorem el_tup0 : El (.tuple [.int 0]) := ⟨by decide +kernel, by decide +kernel, by decide +kernel, by simp [PyData.depth, PyData.depthAll]⟩
theorem rp_tD {ns : List Int} (h : ∀ i ∈ ns, i.natAbs < 1000000) (hl : ns.length ≤ 1000) : RpOk (tD ns) := rp_tup (el_ints h) (by rw [List.length_map]; exact hl) fun z => by
  rw [noDict_ints] at z
  cases z
end Lf

set_option maxHeartbeats 2000000
/-! things that can be looked at, and shown -/
namespace Lf
open PySem PySem.Spec PyProof.Rows L2 GxR GxA SrT
def Good (d : PyData) : Prop := wide d = true ∧ RpOk d
def Gd0 (e : PyData) : Prop := wide e = true ∧ El e ∧ e.hasDict = false
theorem gd_int {i : Int} (h : i.natAbs < 1000) : Gd0 (.int i) := ⟨rfl, el_int (by omega), rfl⟩
theorem gd_ints {ns : List Int} (h : ∀ i ∈ ns, i.natAbs < 1000) : ∀ e ∈ iD ns, Gd0 e := fun e he => by
  obtain ⟨i, hi, rfl⟩ := List.mem_map.mp he
  exact gd_int (h i hi)
theorem gd_app {xs ys : List PyData} (h1 : ∀ e ∈ xs, Gd0 e) (h2 : ∀ e ∈ ys, Gd0 e) : ∀ e ∈ xs ++ ys, Gd0 e := fun e he => (List.mem_append.mp he).elim (h1 e) (h2 e)
theorem gd_one {e : PyData} (h : Gd0 e) : ∀ x ∈ [e], Gd0 x := fun x hx => by rw [List.mem_singleton.mp hx]; exact h
theorem gd_none : Gd0 .none := ⟨rfl, el_none, rfl⟩
theorem gd_bool (b : Bool) : Gd0 (.bool b) := ⟨rfl, el_bool b, rfl⟩
theorem gd_str0 : Gd0 (.str "0") := ⟨rfl, el_str0, rfl⟩
theorem good_t {ds : List PyData} (h : ∀ e ∈ ds, Gd0 e) (hl : ds.length ≤ 1000) : Good (.tuple ds) := ⟨wide_t hl fun d hd => (h d hd).1, rp_t0 (fun e he => (h e he).2) hl⟩
theorem good_l {ds : List PyData} (h : ∀ e ∈ ds, Gd0 e) (hl : ds.length ≤ 1000) : Good (.list ds) := ⟨wide_l hl fun d hd => (h d hd).1, rp_l0 (fun e he => (h e he).2) hl⟩
theorem good_none : Good .none := ⟨rfl, rp_none⟩
theorem good_dict : Good (.dict []) := ⟨rfl, rp_dict⟩
theorem good_str0 : Good (.str "0") := ⟨rfl, (fun i z => by cases z), (fun x z => by cases z; decide +kernel), rfl, by decide +kernel, by simp [PyData.depth], (fun z => by cases z)⟩
theorem good_int {i : Int} (h : i.natAbs < 1000) : Good (.int i) := by
  have hl : i.natAbs.log2 < 40 := by
    by_cases e : i.natAbs = 0
    · rw [e]; decide
    · exact (Nat.log2_lt e).mpr (by have : (2 : Nat) ^ 40 = 1099511627776 := by decide
                                    omega)
  have E := el_int (i := i) (by omega)
  refine ⟨rfl, (fun j z => by cases z; omega), (fun x z => by cases z), E.sh, PyData.shown_fits (B := 13) (by decide) (by decide) (d := .int i) E.lv ?_, by simp [PyData.depth], fun z => by cases z⟩
  have := E.wt
  omega
theorem good_tb : Good (.tuple [.bool true]) := good_t (gd_one (gd_bool _)) (by decide)
theorem good_tt {ns : List Int} (hl : ns.length ≤ 8) (hb : ∀ i ∈ ns, i.natAbs < 1000) : Good (.tuple [.tuple (iD ns)]) := by
  have g := gd_ints hb
  have E : ∀ e ∈ iD ns, El e := fun e he => (g e he).2.1
  refine ⟨wide_t (show 1 ≤ 1000 by decide) fun d hd => ?_, (fun i z => by cases z), (fun x z => by cases z), ?_, PyData.shown_fits (B := 13) (by decide) (by decide) (d := .tuple [.tuple (iD ns)]) ?_ ?_, ?_, fun z => ?_⟩
  · rw [List.mem_singleton.mp hd]
    exact wide_tD (by omega)
  · simp [PyData.showable, PyData.showableAll, showAll E]
  · simp [PyData.leavesShort, PyData.leavesShortAll, leafAll E]
  · have := wtAll E
    rw [List.length_map] at this
    simp only [PyData.weight, PyData.weightAll]
    omega
  · have := dpAll_le E
    simp only [PyData.depth, PyData.depthAll]
    omega
  · have hd := noDictAll fun e he => (g e he).2.2
    simp [PyData.hasDict, PyData.hasDictAll, hd] at z
theorem cutD_ints (ns : List Int) (lo hi : Option Int) : ∃ us, cutD (iD ns) lo hi = iD us ∧ us.Sublist ns := by
  unfold cutD
  refine ⟨(ns.drop (HT.sIx (iD ns).length 0 lo)).take (HT.sIx (iD ns).length (iD ns).length hi - HT.sIx (iD ns).length 0 lo), ?_, (List.take_sublist _ _).trans (List.drop_sublist _ _)⟩
  rw [iD, ← List.map_drop, ← List.map_take]
end Lf

set_option maxHeartbeats 2000000
namespace Lf
open PySem PySem.Spec PyProof.Rows L2 GxR GxA SrT
/-! ### a thing that has no list at the pen stays -/
section
variable {K : PySem.W.Frag} {Ps : Tbs} {H H' : Hp} {F : Addr → Prop} {a : Addr}
mutual
theorem Epn.th (e : Epn Ps a H H') (hF : ∀ b, F b → b ≠ a) : ∀ {d : PyData} {x : V}, ThF K H F x d → ThF K H' F x d
  | .none, _, h => by cases h; exact .non
  | .bool b, _, h => by cases h; exact .bl b
  | .int i, _, h => by cases h; exact .int i
  | .str y, _, h => by cases h; exact .str y
  | .list ds, _, h => by
    cases h with
    | lst hf hs ha => exact .lst hf (e.sqL (hF _ hf) hs) (Epn.thAll e hF ha)
  | .tuple ds, _, h => by
    cases h with
    | tup hs ha => exact .tup (e.sqT hs) (Epn.thAll e hF ha)
  | .dict _, _, h => by
    cases h with
    | dic hf hd => exact .dic hf (e.old _ _ (hF _ hf) hd fun q z => by cases z)
theorem Epn.thAll (e : Epn Ps a H H') (hF : ∀ b, F b → b ≠ a) : ∀ {ds : List PyData} {xs : List V}, ThAllF K H F xs ds → ThAllF K H' F xs ds
  | [], _, h => by cases h; exact .nil
  | d :: ds, _, h => by
    cases h with
    | cons h1 h2 => exact .cons (Epn.th e hF h1) (Epn.thAll e hF h2)
end
end
theorem ne_no {x y : V} (e : x = y) : V.bl (!decide (x = y)) = V.bl false := by
  rw [decide_eq_true e]
  rfl
end Lf

set_option maxHeartbeats 8000000
namespace Lf
open PySem PySem.Spec PyProof.Rows L2 GxR GxA SrT
abbrev sNoStackN : Stmt := topS 60
theorem scNoStackN : FnScope ["_law_pen_here", "_law_stack", "_law_n", "_law_k", "_law_faces", "_law_way", "_law_spot", "_law_at", "_law_odd", "_law_face", "_law_ahead", "_law_behind", "_law_bent", "_law_some"] ["_law_pen_here", "_law_stack"] (defScope sNoStackN) := ⟨rfl, rfl, rfl, by decide +kernel, rfl, by decide +kernel, by decide +kernel⟩
theorem oddDs_in {n : Int} (h : n ≤ 8) : ∀ d ∈ ([.none, .bool true, .int (-1), .int n, .str "0", .tuple [.int 0], .int (10 ^ (30 : Int).toNat)] : List PyData), intIn d 0 (n - 1) = false := by
  intro d hd
  have ii : ∀ i : Int, (i < 0 ∨ n - 1 < i) → intIn (.int i) 0 (n - 1) = false := fun i h => by
    show (decide (0 ≤ i) && decide (i ≤ n - 1)) = false
    rcases h with h | h
    · rw [decide_eq_false (show ¬ 0 ≤ i by omega)]
      rfl
    · rw [decide_eq_false (show ¬ i ≤ n - 1 by omega), Bool.and_false]
  have big : (1000 : Int) < 10 ^ (30 : Int).toNat := by decide
  simp only [List.mem_cons, List.not_mem_nil, or_false] at hd
  rcases hd with rfl | rfl | rfl | rfl | rfl | rfl | rfl
  · rfl
  · rfl
  · exact ii _ (.inl (by omega))
  · exact ii _ (.inr (by omega))
  · rfl
  · rfl
  · exact ii _ (.inr (Int.lt_of_le_of_lt (show n - 1 ≤ 1000 by omega) big))
theorem oddDs_wide {n : Int} : ∀ d ∈ ([.none, .bool true, .int (-1), .int n, .str "0", .tuple [.int 0], .int (10 ^ (30 : Int).toNat)] : List PyData), wide d = true := by
  intro d hd
  simp only [List.mem_cons, List.not_mem_nil, or_false] at hd
  rcases hd with rfl | rfl | rfl | rfl | rfl | rfl | rfl <;> rfl
def badNs (n kk : Int) (fss : List (List Int)) (fc u1 u2 : List Int) (od : PyData) (j : Nat) : List PyData := [.tuple [.int n, .int kk, .tuple ((((fss.map tD).take j) ++ [.tuple (((iD u1) ++ [od]) ++ (iD u2))]) ++ ((fss.map tD).drop (j + 1)))], .tuple [.int n, .int kk, .tuple ((((fss.map tD).take j) ++ [.list (iD fc)]) ++ ((fss.map tD).drop (j + 1)))], .tuple [.int n, .int kk, .tuple ((((fss.map tD).take j) ++ [.tuple (iD fc), .tuple (iD fc)]) ++ ((fss.map tD).drop (j + 1)))], .tuple [.int n, .int kk, .tuple ((fss.map tD) ++ ((fss.map tD).take 1))], .tuple [.int n, .int kk, .list (fss.map tD)], .tuple [.int n, .int kk, .tuple []], .tuple [.int 0, .int kk, .tuple (fss.map tD)], .tuple [.int 9, .int kk, .tuple (fss.map tD)], .tuple [.int n, .int 5, .tuple (fss.map tD)], .tuple [.int n, .int (kk + 1), .tuple (fss.map tD)], .tuple [.int n, .int (kk - 1), .tuple (fss.map tD)], .tuple [.bool true, .int kk, .tuple (fss.map tD)], .tuple [.int n, .none, .tuple (fss.map tD)], .list [.int n, .int kk, .tuple (fss.map tD)], .tuple [.int n, .int kk], .none, .tuple [.int n, .int kk, .tuple (fss.map tD), .int 0], .int 7, .str "3 2: 01 02 12", .dict []]
theorem badNs_ok {n kk : Int} {fss : List (List Int)} {fc u1 u2 : List Int} {od : PyData} {j : Nat} (S : StkOk n kk fss) (hj : fss[j]? = some fc) (l1' : u1.length ≤ 8) (l2' : u2.length ≤ 8) (ho1 : intIn od 0 (n - 1) = false) (ho2 : wide od = true) : ∀ d ∈ badNs n kk fss fc u1 u2 od j, isStackD d = false ∧ wide d = true := by
  have hm := List.mem_of_getElem? hj
  have l1 := S.l1
  have l70 := S.l70
  have h4 := S.len4 fc hm
  have wf : wide (.tuple (fss.map tD)) = true := wide_t (by rw [List.length_map]; omega) fun d hd => by
    obtain ⟨g, hg, rfl⟩ := List.mem_map.mp hd
    exact wide_tD (by have := S.len4 g hg; omega)
  have w3 : ∀ {x y z : PyData}, wide x = true → wide y = true → wide z = true → wide (.tuple [x, y, z]) = true := fun h1 h2 h3 => wide_t (by show 3 ≤ 1000; decide) fun d hd => by
    simp only [List.mem_cons, List.not_mem_nil, or_false] at hd
    rcases hd with rfl | rfl | rfl <;> assumption
  have i3 : ∀ i : Int, wide (.int i) = true := fun i => rfl
  intro d hd
  unfold badNs at hd
  simp only [List.mem_cons, List.not_mem_nil, or_false] at hd
  rcases hd with rfl | rfl | rfl | rfl | rfl | rfl | rfl | rfl | rfl | rfl | rfl | rfl | rfl | rfl | rfl | rfl | rfl | rfl | rfl | rfl
  · refine ⟨bad_of fun n' k' g e S' => ?_, w3 (i3 _) (i3 _) (wide_t (by simp only [List.length_append, List.length_take, List.length_drop, List.length_map, List.length_cons, List.length_nil]; omega) fun d hd => ?_)⟩
    · simp only [stkD, PyData.tuple.injEq, List.cons.injEq, PyData.int.injEq, and_true] at e
      have hx : PyData.tuple ((iD u1 ++ [od]) ++ iD u2) ∈ g.map tD := by
        rw [← e.2.2]
        exact List.mem_append_left _ (List.mem_append_right _ (List.mem_singleton.mpr rfl))
      obtain ⟨y, hy1, hy⟩ := List.mem_map.mp hx
      injection hy with hy
      have hm2 : od ∈ iD y := by
        rw [hy]
        simp
      obtain ⟨z, hz, rfl⟩ := List.mem_map.mp hm2
      have := S'.bel y hy1 z hz
      rw [show intIn (.int z) 0 (n - 1) = (decide (0 ≤ z) && decide (z ≤ n - 1)) from rfl, decide_eq_true this.1, decide_eq_true (show z ≤ n - 1 by omega)] at ho1
      cases ho1
    · rcases List.mem_append.mp hd with hd | hd
      · rcases List.mem_append.mp hd with hd | hd
        · exact (wide_tup wf).2 d (List.mem_of_mem_take hd)
        · rw [List.mem_singleton.mp hd]
          refine wide_t (by simp only [iD, List.length_append, List.length_map, List.length_cons, List.length_nil]; omega) fun d hd => ?_
          rcases List.mem_append.mp hd with hd | hd
          · rcases List.mem_append.mp hd with hd | hd
            · obtain ⟨i, _, rfl⟩ := List.mem_map.mp hd
              rfl
            · rw [List.mem_singleton.mp hd]
              exact ho2
          · obtain ⟨i, _, rfl⟩ := List.mem_map.mp hd
            rfl
      · exact (wide_tup wf).2 d (List.mem_of_mem_drop hd)
  · refine ⟨bad_of fun n' k' g e S' => ?_, w3 (i3 _) (i3 _) (wide_t (by simp only [List.length_append, List.length_take, List.length_drop, List.length_map, List.length_cons, List.length_nil]; omega) fun d hd => ?_)⟩
    · simp only [stkD, PyData.tuple.injEq, List.cons.injEq, PyData.int.injEq, and_true] at e
      have hx : PyData.list (iD fc) ∈ g.map tD := by
        rw [← e.2.2]
        simp
      obtain ⟨y, _, hy⟩ := List.mem_map.mp hx
      cases hy
    · rcases List.mem_append.mp hd with hd | hd
      · rcases List.mem_append.mp hd with hd | hd
        · exact (wide_tup wf).2 d (List.mem_of_mem_take hd)
        · rw [List.mem_singleton.mp hd]
          exact wide_l (by rw [List.length_map]; omega) fun d hd => by
            obtain ⟨i, _, rfl⟩ := List.mem_map.mp hd
            rfl
      · exact (wide_tup wf).2 d (List.mem_of_mem_drop hd)
  · refine ⟨bad_of fun n' k' g e S' => ?_, w3 (i3 _) (i3 _) (wide_t (by simp only [List.length_append, List.length_take, List.length_drop, List.length_map, List.length_cons, List.length_nil]; omega) fun d hd => ?_)⟩
    · simp only [stkD, PyData.tuple.injEq, List.cons.injEq, PyData.int.injEq, and_true] at e
      have eg : (fss.take j ++ [fc, fc]) ++ fss.drop (j + 1) = g := tDs_inj (by rw [List.map_append, List.map_append, ← e.2.2, List.map_take, List.map_drop]; rfl)
      have z := S'.srt
      rw [← eg, List.pairwise_append, List.pairwise_append] at z
      have z2 := z.1.2.1
      rw [List.pairwise_cons] at z2
      have z3 := z2.1 fc (by simp)
      rw [SrT.lex_irrefl] at z3
      cases z3
    · rcases List.mem_append.mp hd with hd | hd
      · rcases List.mem_append.mp hd with hd | hd
        · exact (wide_tup wf).2 d (List.mem_of_mem_take hd)
        · simp only [List.mem_cons, List.not_mem_nil, or_false] at hd
          rcases hd with rfl | rfl <;> exact wide_tD (by omega)
      · exact (wide_tup wf).2 d (List.mem_of_mem_drop hd)
  · refine ⟨bad_of fun n' k' g e S' => ?_, w3 (i3 _) (i3 _) (wide_t (by simp only [List.length_append, List.length_take, List.length_map]; omega) fun d hd => ?_)⟩
    · simp only [stkD, PyData.tuple.injEq, List.cons.injEq, PyData.int.injEq, and_true] at e
      have eg : fss ++ fss.take 1 = g := tDs_inj (by rw [List.map_append, ← e.2.2, List.map_take])
      have z := S'.srt
      rw [← eg, List.pairwise_append] at z
      cases fss with
      | nil => simp at l1
      | cons h t =>
        have z2 := z.2.2 h (by simp) h (by simp)
        rw [SrT.lex_irrefl] at z2
        cases z2
    · rcases List.mem_append.mp hd with hd | hd
      · exact (wide_tup wf).2 d hd
      · exact (wide_tup wf).2 d (List.mem_of_mem_take hd)
  · refine ⟨bad_of fun n' k' g e S' => ?_, w3 (i3 _) (i3 _) (wide_l (by rw [List.length_map]; omega) (wide_tup wf).2)⟩
    simp only [stkD, PyData.tuple.injEq, List.cons.injEq] at e
    exact nomatch e.2.2.1
  · refine ⟨bad_of fun n' k' g e S' => ?_, w3 (i3 _) (i3 _) rfl⟩
    simp only [stkD, PyData.tuple.injEq, List.cons.injEq, PyData.int.injEq, and_true] at e
    have z := congrArg List.length e.2.2
    rw [List.length_map] at z
    have := S'.l1
    simp at z
    omega
  · refine ⟨bad_of fun n' k' g e S' => ?_, w3 (i3 _) (i3 _) wf⟩
    simp only [stkD, PyData.tuple.injEq, List.cons.injEq, PyData.int.injEq] at e
    have := S'.n1
    omega
  · refine ⟨bad_of fun n' k' g e S' => ?_, w3 (i3 _) (i3 _) wf⟩
    simp only [stkD, PyData.tuple.injEq, List.cons.injEq, PyData.int.injEq] at e
    have := S'.n8
    omega
  · refine ⟨bad_of fun n' k' g e S' => ?_, w3 (i3 _) (i3 _) wf⟩
    simp only [stkD, PyData.tuple.injEq, List.cons.injEq, PyData.int.injEq] at e
    have := S'.k4
    omega
  · refine ⟨bad_of fun n' k' g e S' => ?_, w3 (i3 _) (i3 _) wf⟩
    simp only [stkD, PyData.tuple.injEq, List.cons.injEq, PyData.int.injEq, and_true] at e
    have eg := tDs_inj e.2.2
    subst eg
    have a1 := S.len fc hm
    have a2 := S'.len fc hm
    omega
  · refine ⟨bad_of fun n' k' g e S' => ?_, w3 (i3 _) (i3 _) wf⟩
    simp only [stkD, PyData.tuple.injEq, List.cons.injEq, PyData.int.injEq, and_true] at e
    have eg := tDs_inj e.2.2
    subst eg
    have a1 := S.len fc hm
    have a2 := S'.len fc hm
    omega
  · exact ⟨rfl, w3 rfl (i3 _) wf⟩
  · exact ⟨rfl, w3 (i3 _) rfl wf⟩
  · refine ⟨rfl, wide_l (by show 3 ≤ 1000; decide) fun d hd => ?_⟩
    simp only [List.mem_cons, List.not_mem_nil, or_false] at hd
    rcases hd with rfl | rfl | rfl
    · rfl
    · rfl
    · exact wf
  · exact ⟨isStackD_len (by simp), wide_t (by show 2 ≤ 1000; decide) fun d hd => by
      simp only [List.mem_cons, List.not_mem_nil, or_false] at hd
      rcases hd with rfl | rfl <;> rfl⟩
  · exact ⟨rfl, rfl⟩
  · refine ⟨isStackD_len (by simp), wide_t (by show 4 ≤ 1000; decide) fun d hd => ?_⟩
    simp only [List.mem_cons, List.not_mem_nil, or_false] at hd
    rcases hd with rfl | rfl | rfl | rfl
    · rfl
    · rfl
    · exact wf
    · rfl
  · exact ⟨rfl, rfl⟩
  · exact ⟨rfl, rfl⟩
  · exact ⟨rfl, rfl⟩
section
variable {P : Program} {w : World} {K : PySem.W.Frag} {mg : Str → Option Value} {base : Heap} {Ps : Tbs} {H H' H0 : Hp} {k : Nat} {f c : Addr} {fd : FuncData}
theorem th_draw {a : Addr} {Y Y' : Hp} {x : V} {d : PyData} (hP : Pen H a) (e : Epn Ps a Y Y') (h : ThF K Y (FS (fun _ => True) H Y) x d) : ThF K Y' (FS (fun _ => True) H Y') x d := by
  refine (Epn.th e (fun b hb z => ?_) h).imp fun b hb => ⟨hb.1, ?_, trivial⟩
  · obtain ⟨u, v, hp⟩ := hP
    have := hb.1
    rw [z, hp] at this
    cases this
  · cases hy : Y b with
    | none => exact absurd hy hb.2.1
    | some q =>
      obtain ⟨q', hq⟩ := e.there b q hy
      rw [hq]
      exact Option.some_ne_none _
theorem thAll_draw {a : Addr} {Y Y' : Hp} {xs : List V} {ds : List PyData} (hP : Pen H a) (e : Epn Ps a Y Y') (h : ThAllF K Y (FS (fun _ => True) H Y) xs ds) : ThAllF K Y' (FS (fun _ => True) H Y') xs ds := by
  refine (Epn.thAll e (fun b hb z => ?_) h).imp fun b hb => ⟨hb.1, ?_, trivial⟩
  · obtain ⟨u, v, hp⟩ := hP
    have := hb.1
    rw [z, hp] at this
    cases this
  · cases hy : Y b with
    | none => exact absurd hy hb.2.1
    | some q =>
      obtain ⟨q', hq⟩ := e.there b q hy
      rw [hq]
      exact Option.some_ne_none _
def spNoStackN (K : PySem.W.Frag) (Ps : Tbs) : Sp := fun vs H Q _ => ∃ (a : Addr) (x : V) (n kk : Int) (fss : List (List Int)), vs = [.ref a, x] ∧ Pen H a ∧ Stk K H x n kk fss ∧ StkOk n kk fss ∧ Tb Ps H ∧ ∀ v d H', Epn Ps a H H' → ThF K H' (fun b => H b = none) v d → wide d = true → isStackD d = false → Q v H'
theorem ok_noStackN {fD cD : Addr} {fdD : FuncData} (D : Def K mg "_law_no_stack" sNoStackN ["_law_pen_here", "_law_stack"] f fd c) (DD : Def K mg "_law_draw" sDraw ["_law_pen_here", "_law_many"] fD fdD cD) (GD : FnOk P w K mg base CX0 k fD fdD ["_law_pen_here", "_law_many"] spDraw) (mL : mg "list" = none) (ml : mg "len" = none) (mx : mg "max" = none) :
    FnOk P w K mg base CX0 (k + 1) f fd ["_law_pen_here", "_law_stack"] (spNoStackN K Ps) := by
  refine D.ok (k := k) scNoStackN (fun vs H Q E h => ?_) (fun A outer s H vs Q E hr h => ?_)
  · obtain ⟨a, x, n, kk, fss, rfl, _⟩ := h
    rfl
  · obtain ⟨a, x, n, kk, fss, rfl, hP, ⟨b, fa, xs, rfl, h1, h2, h3⟩, S, ht, q⟩ := h
    refine ⟨_, (pss_cons (ps_asg (pv 1) (pg_tup (by rfl) (pgs_cons (pg_name (i := 2) scNoStackN.nd rfl (.inl rfl)) (pgs_cons (pg_name (i := 3) scNoStackN.nd rfl (.inl rfl)) (pgs_cons (pg_name (i := 4) scNoStackN.nd rfl (.inl rfl)) pgs_nil))))) (pss_cons (ps_par3 (i := 5) (j := 6) (l := 7) (by rfl) scNoStackN.nd rfl rfl rfl (by decide) (by decide) (by decide) rfl rfl rfl (pa_cons (pcl DD GD hr (pa_cons (pv 0) (pa_cons pe_int pa_nil))) (pa_cons (pcl DD GD hr (pa_cons (pv 0) (pa_cons (pe_callB (call_lenS (K := K) rfl) (by rfl) ml PySem.boot_len (pa_cons (pv 4) pa_nil)) pa_nil))) (pa_cons (pcl DD GD hr (pa_cons (pv 0) (pa_cons (pe_callB (call_max2 rfl) (by rfl) mx (by decide +kernel) (pa_cons pe_int (pa_cons (pv 3) pa_nil))) pa_nil))) pa_nil))) (by rfl)) (pss_cons (ps_set (i := 8) scNoStackN.nd rfl (.inl rfl) (pe_ix ix_list (pe_lst (pa_cons pe_non (pa_cons pe_bl (pa_cons (pe_un un_neg pe_int) (pa_cons (pv 2) (pa_cons pe_str (pa_cons (pe_tup (pa_cons pe_int pa_nil)) (pa_cons (pe_op op_pow pe_int pe_int) pa_nil)))))))) (pcl DD GD hr (pa_cons (pv 0) (pa_cons pe_int pa_nil))) (fun _ _ => rfl))) (pss_cons (ps_set (i := 9) scNoStackN.nd rfl (.inl rfl) (pe_ix (show IxR _ (rIxT K) from ix_tup) (pv 4) (pv 6) (fun _ _ => rfl))) (pss_cons (ps_par (i := 10) (j := 11) (by rfl) scNoStackN.nd rfl rfl (by decide) rfl rfl (pa_cons (pe_slice (show SlR _ (rSlTh K Ps) from sl_Th) (pv 4) po_none (po_some (pv 6))) (pa_cons (pe_slice (show SlR _ (rSlTh K Ps) from sl_Th) (pv 4) (po_some (pe_op op_add (pv 6) pe_int)) po_none) pa_nil)) (by rfl)) (pss_cons (ps_set (i := 12) scNoStackN.nd rfl (.inl rfl) (pe_op (show OpR _ _ (rCatTh K Ps) from op_catTh) (pe_op (show OpR _ _ (rCatTh K Ps) from op_catTh) (pe_slice (show SlR _ (rSlTh K Ps) from sl_Th) (pv 9) po_none (po_some (pv 7))) (pe_tup (pa_cons (pv 8) pa_nil))) (pe_slice (show SlR _ (rSlTh K Ps) from sl_Th) (pv 9) (po_some (pe_op op_add (pv 7) pe_int)) po_none))) (pss_cons (ps_set (i := 13) scNoStackN.nd rfl (.inl rfl) (pe_lst (pa_cons (pe_tup (pa_cons (pv 2) (pa_cons (pv 3) (pa_cons (pe_op (show OpR _ _ (rCatTh K Ps) from op_catTh) (pe_op (show OpR _ _ (rCatTh K Ps) from op_catTh) (pv 10) (pe_tup (pa_cons (pv 12) pa_nil))) (pv 11)) pa_nil)))) (pa_cons (pe_tup (pa_cons (pv 2) (pa_cons (pv 3) (pa_cons (pe_op (show OpR _ _ (rCatTh K Ps) from op_catTh) (pe_op (show OpR _ _ (rCatTh K Ps) from op_catTh) (pv 10) (pe_tup (pa_cons (pe_callTy call_list_of (by rfl) mL (by decide +kernel) (pa_cons (pv 9) pa_nil)) pa_nil))) (pv 11)) pa_nil)))) pa_nil)))) (pss_cons (ps_set (i := 13) scNoStackN.nd rfl (.inl rfl) (pe_op op_cat (pv 13) (pe_lst (pa_cons (pe_tup (pa_cons (pv 2) (pa_cons (pv 3) (pa_cons (pe_op (show OpR _ _ (rCatTh K Ps) from op_catTh) (pe_op (show OpR _ _ (rCatTh K Ps) from op_catTh) (pv 10) (pe_tup (pa_cons (pv 9) (pa_cons (pv 9) pa_nil)))) (pv 11)) pa_nil)))) (pa_cons (pe_tup (pa_cons (pv 2) (pa_cons (pv 3) (pa_cons (pe_op (show OpR _ _ (rCatTh K Ps) from op_catTh) (pv 4) (pe_slice (show SlR _ (rSlTh K Ps) from sl_Th) (pv 4) po_none (po_some pe_int))) pa_nil)))) (pa_cons (pe_tup (pa_cons (pv 2) (pa_cons (pv 3) (pa_cons (pe_callTy call_list_of (by rfl) mL (by decide +kernel) (pa_cons (pv 4) pa_nil)) pa_nil)))) pa_nil)))))) (pss_cons (ps_set (i := 13) scNoStackN.nd rfl (.inl rfl) (pe_op op_cat (pv 13) (pe_lst (pa_cons (pe_tup (pa_cons (pv 2) (pa_cons (pv 3) (pa_cons (pe_tup pa_nil) pa_nil)))) (pa_cons (pe_tup (pa_cons pe_int (pa_cons (pv 3) (pa_cons (pv 4) pa_nil)))) (pa_cons (pe_tup (pa_cons pe_int (pa_cons (pv 3) (pa_cons (pv 4) pa_nil)))) pa_nil)))))) (pss_cons (ps_set (i := 13) scNoStackN.nd rfl (.inl rfl) (pe_op op_cat (pv 13) (pe_lst (pa_cons (pe_tup (pa_cons (pv 2) (pa_cons pe_int (pa_cons (pv 4) pa_nil)))) (pa_cons (pe_tup (pa_cons (pv 2) (pa_cons (pe_op op_add (pv 3) pe_int) (pa_cons (pv 4) pa_nil)))) (pa_cons (pe_tup (pa_cons (pv 2) (pa_cons (pe_op op_sub (pv 3) pe_int) (pa_cons (pv 4) pa_nil)))) (pa_cons (pe_tup (pa_cons pe_bl (pa_cons (pv 3) (pa_cons (pv 4) pa_nil)))) (pa_cons (pe_tup (pa_cons (pv 2) (pa_cons pe_non (pa_cons (pv 4) pa_nil)))) pa_nil)))))))) (pss_one (ps_ret (pe_ix ix_list (pe_op op_cat (pv 13) (pe_lst (pa_cons (pe_lst (pa_cons (pv 2) (pa_cons (pv 3) (pa_cons (pv 4) pa_nil)))) (pa_cons (pe_tup (pa_cons (pv 2) (pa_cons (pv 3) pa_nil))) (pa_cons pe_non (pa_cons (pe_tup (pa_cons (pv 2) (pa_cons (pv 3) (pa_cons (pv 4) (pa_cons pe_int pa_nil))))) (pa_cons pe_int (pa_cons pe_str (pa_cons pe_dnewK pa_nil))))))))) (pv 5) (fun _ _ => rfl)))))))))))))), ?_⟩
    have hlen := Paired.length h3
    have l1 := S.l1
    have l70 := S.l70
    have hn8 := S.n8
    have hk0 := S.k0
    have hk4 := S.k4
    refine tseq_intro fun R hR => ?_
    refine ⟨.ref b, rfl, b, _, rfl, h1, rfl, _, _, rfl, _, _, rfl, _, _, rfl, rfl, ?_⟩
    show R [some (.ref a), some (.ref b), some (.int n), some (.int kk), some (.ref fa), none, none, none, none, none, none, none, none, none] H
    rw [hR]
    clear hR
    refine tseq_intro fun R hR => ?_
    refine ⟨.ref a, rfl, a, 20, rfl, hP, by decide, by decide, fun x1 f1 wy0 w0 w1 => ?_⟩
    have e1 : Epn Ps a H (upd H a (.lst [.int x1, .int f1])) := Epn.draw ht hP
    generalize upd H a (.lst [.int x1, .int f1]) = H1 at *
    refine ⟨.ref a, rfl, .ref fa, rfl, fa, xs, rfl, .inr (e1.sqT h2), a, (xs.length : Int), rfl, e1.pen, by omega, by omega, fun x2 f2 j0 j00 j1 => ?_⟩
    have e2 : Epn Ps a H (upd H1 a (.lst [.int x2, .int f2])) := e1.trans (Epn.draw e1.tb e1.pen)
    generalize upd H1 a (.lst [.int x2, .int f2]) = H2 at *
    refine ⟨.ref a, rfl, .int kk, rfl, 1, kk, rfl, a, _, rfl, e2.pen, ?_, ?_, fun x3 f3 o0 o00 o1 => ?_⟩
    · split <;> omega
    · split <;> omega
    have EE0 : Epn Ps a H (upd H2 a (.lst [.int x3, .int f3])) := e2.trans (Epn.draw e2.tb e2.pen)
    generalize upd H2 a (.lst [.int x3, .int f3]) = Y0 at *
    refine ⟨.int wy0, .int j0, .int o0, rfl, ?_⟩
    obtain ⟨wy, rfl⟩ := Int.eq_ofNat_of_zero_le w0
    obtain ⟨j, rfl⟩ := Int.eq_ofNat_of_zero_le j00
    obtain ⟨o, rfl⟩ := Int.eq_ofNat_of_zero_le o00
    show R [some (.ref a), some (.ref b), some (.int n), some (.int kk), some (.ref fa), some (.int (wy : Int)), some (.int (j : Int)), some (.int (o : Int)), none, none, none, none, none, none] Y0
    rw [hR]
    clear hR o1
    have hjx : j < xs.length := by omega
    have hjf : j < fss.length := by omega
    obtain ⟨fc, hfc, ft, hft0, hft⟩ := paired_get (EE0.tups h3) (List.getElem?_eq_getElem hjx)
    have hjm : j ≤ (fss.map tD).length := by rw [List.length_map]; omega
    have hjm1 : j + 1 ≤ (fss.map tD).length := by rw [List.length_map]; omega
    have hm1 : 1 ≤ (fss.map tD).length := by rw [List.length_map]; omega
    have hf4 := S.len4 fc (List.mem_of_getElem? hfc)
    have qfcs := EE0.sqT h2
    have qfce := hft
    have afcs : ThAllF K Y0 (FS (fun _ => True) H Y0) xs (fss.map tD) := th_tups (EE0.tups h3)
    have tfcs : ThF K Y0 (FS (fun _ => True) H Y0) (.ref fa) (.tuple (fss.map tD)) := .tup qfcs afcs
    have tfce : ThF K Y0 (FS (fun _ => True) H Y0) (.ref ft) (.tuple (iD fc)) := th_tup ⟨ft, rfl, hft⟩
    obtain ⟨u1, hu1, s1⟩ := cutD_ints fc none (some (o : Int))
    obtain ⟨u2, hu2, s2⟩ := cutD_ints fc (some ((o : Int) + 1)) none
    have k1 := s1.length_le
    have k2 := s2.length_le
    clear hft e1 e2 h1 h2 h3
    refine tseq_intro fun R hR => ?_
    refine ⟨1, rfl, .int n, rfl, (by show 1 ≤ sizeLine; decide), fun p1 np1 => ?_⟩
    have xp1 := Ext.new (o := .tup [.int 0]) EE0.tb np1
    have zp1 : H p1 = none := EE0.free np1
    have tp1 : ThF K (upd Y0 p1 (.tup [.int 0])) (FS (fun _ => True) H (upd Y0 p1 (.tup [.int 0]))) (.ref p1) (.tuple [.int 0]) := th_newS EE0.tb np1 (.cons (.int 0) .nil)
    replace tfcs := xp1.thS tfcs
    replace qfcs := xp1.sqT qfcs
    replace qfce := xp1.sqT qfce
    replace tfce := xp1.thS tfce
    replace afcs := xp1.thAllS afcs
    have EE1 := EE0.trans (xp1.epn EE0.pen)
    clear xp1 np1 EE0
    generalize upd Y0 p1 (.tup [.int 0]) = Y1 at EE1 tfcs qfcs qfce tfce afcs tp1 ⊢
    have hv : ThAllF K Y1 (FS (fun _ => True) H Y1) [.non, .bl true, .int (-1), .int n, .str "0", .ref p1, .int (10 ^ (30 : Int).toNat)] [.none, .bool true, .int (-1), .int n, .str "0", .tuple [.int 0], .int (10 ^ (30 : Int).toNat)] := (.cons .non (.cons (.bl true) (.cons (.int (-1)) (.cons (.int n) (.cons (.str "0") (.cons tp1 (.cons (.int (10 ^ (30 : Int).toNat)) .nil)))))))
    clear tp1
    refine ⟨10, 30, rfl, rfl, ⟨by decide, by decide, by decide⟩, (by show 7 ≤ sizeLine; decide), fun l0 nl0 => ?_⟩
    have xl0 := Ext.new (o := .lst [.non, .bl true, .int (-1), .int n, .str "0", .ref p1, .int (10 ^ (30 : Int).toNat)]) EE1.tb nl0
    have zl0 : H l0 = none := EE1.free nl0
    have hl : (upd Y1 l0 (.lst [.non, .bl true, .int (-1), .int n, .str "0", .ref p1, .int (10 ^ (30 : Int).toNat)])) l0 = some (.lst [.non, .bl true, .int (-1), .int n, .str "0", .ref p1, .int (10 ^ (30 : Int).toNat)]) := upd_same
    replace tfcs := xl0.thS tfcs
    replace qfcs := xl0.sqT qfcs
    replace qfce := xl0.sqT qfce
    replace tfce := xl0.thS tfce
    replace afcs := xl0.thAllS afcs
    replace hv := xl0.thAllS hv
    have EE2 := EE1.trans (xl0.epn EE1.pen)
    clear xl0 nl0 EE1
    generalize upd Y1 l0 (.lst [.non, .bl true, .int (-1), .int n, .str "0", .ref p1, .int (10 ^ (30 : Int).toNat)]) = Y2 at EE2 tfcs qfcs qfce tfce afcs hv hl ⊢
    refine ⟨.ref a, rfl, a, 7, rfl, EE2.pen, by decide, by decide, fun x9 f9 ow0 o0 o1 => ?_⟩
    have eD : Epn Ps a Y2 (upd Y2 a (.lst [.int x9, .int f9])) := Epn.draw EE2.tb EE2.pen
    have EE3 := EE2.trans eD
    have nl0a : l0 ≠ a := by
      obtain ⟨u, v, e⟩ := hP
      intro z
      rw [z, e] at zl0
      cases zl0
    replace hl := eD.lst nl0a hl
    replace tfcs := th_draw hP eD tfcs
    replace tfce := th_draw hP eD tfce
    replace afcs := thAll_draw hP eD afcs
    replace hv := thAll_draw hP eD hv
    replace qfcs := eD.sqT qfcs
    replace qfce := eD.sqT qfce
    clear eD EE2
    generalize upd Y2 a (.lst [.int x9, .int f9]) = Y3 at *
    obtain ⟨ow, rfl⟩ := Int.eq_ofNat_of_zero_le o0
    have how : ow < ([.non, .bl true, .int (-1), .int n, .str "0", .ref p1, .int (10 ^ (30 : Int).toNat)] : List V).length := by
      show ow < 7
      omega
    obtain ⟨od, hod, todd⟩ := thAll_get hv (List.getElem?_eq_getElem how)
    have hodb : intIn od 0 (n - 1) = false ∧ wide od = true := ⟨oddDs_in hn8 od (List.mem_of_getElem? hod), oddDs_wide (n := n) od (List.mem_of_getElem? hod)⟩
    refine ⟨l0, _, (ow : Int), _, rfl, rfl, .inl (.inl hl), atI_nat (List.getElem?_eq_getElem how), ?_⟩
    generalize ([.non, .bl true, .int (-1), .int n, .str "0", .ref p1, .int (10 ^ (30 : Int).toNat)] : List V)[ow] = ov at *
    show R [some (.ref a), some (.ref b), some (.int n), some (.int kk), some (.ref fa), some (.int (wy : Int)), some (.int (j : Int)), some (.int (o : Int)), some ov, none, none, none, none, none] Y3
    rw [hR]
    clear hR hv hl hod how zl0
    refine tseq_intro fun R hR => ?_
    refine ⟨.ref fa, rfl, .int (j : Int), rfl, fa, xs, (j : Int), .ref ft, rfl, rfl, qfcs, by rw [← hft0]; exact atI_nat (List.getElem?_eq_getElem hjx), ?_⟩
    show R [some (.ref a), some (.ref b), some (.int n), some (.int kk), some (.ref fa), some (.int (wy : Int)), some (.int (j : Int)), some (.int (o : Int)), some ov, some (.ref ft), none, none, none, none] Y3
    rw [hR]
    clear hR
    refine tseq_intro fun R hR => ?_
    refine ⟨.ref fa, rfl, .int (j : Int), rfl, (j : Int), rfl, _, _, tfcs, EE3.tb, fun v2 Y4 xv2 tv2 => ?_⟩
    replace tfcs := xv2.thS tfcs
    replace qfcs := xv2.sqT qfcs
    replace qfce := xv2.sqT qfce
    replace tfce := xv2.thS tfce
    replace afcs := xv2.thAllS afcs
    replace todd := xv2.thS todd
    replace tv2 := tv2.imp (fs_mono xv2)
    have EE4 := EE3.trans (xv2.epn EE3.pen)
    clear xv2 EE3
    rw [cutD_to (m := j) hjm] at tv2
    refine ⟨.ref fa, rfl, .int (j : Int), rfl, (j : Int), 1, rfl, rfl, (j : Int) + 1, rfl, _, _, tfcs, EE4.tb, fun v3 Y5 xv3 tv3 => ?_⟩
    replace tfcs := xv3.thS tfcs
    replace qfcs := xv3.sqT qfcs
    replace qfce := xv3.sqT qfce
    replace tfce := xv3.thS tfce
    replace afcs := xv3.thAllS afcs
    replace todd := xv3.thS todd
    replace tv2 := xv3.thS tv2
    replace tv3 := tv3.imp (fs_mono xv3)
    have EE5 := EE4.trans (xv3.epn EE4.pen)
    clear xv3 EE4
    rw [show cutD (fss.map tD) (some ((j : Int) + 1)) none = (fss.map tD).drop (j + 1) from cutD_from (m := j + 1) hjm1] at tv3
    refine ⟨v2, v3, rfl, ?_⟩
    show R [some (.ref a), some (.ref b), some (.int n), some (.int kk), some (.ref fa), some (.int (wy : Int)), some (.int (j : Int)), some (.int (o : Int)), some ov, some (.ref ft), some v2, some v3, none, none] Y5
    rw [hR]
    clear hR
    refine tseq_intro fun R hR => ?_
    refine ⟨.ref ft, rfl, .int (o : Int), rfl, (o : Int), rfl, _, _, tfce, EE5.tb, fun v4 Y6 xv4 tv4 => ?_⟩
    replace tfcs := xv4.thS tfcs
    replace qfcs := xv4.sqT qfcs
    replace qfce := xv4.sqT qfce
    replace tfce := xv4.thS tfce
    replace afcs := xv4.thAllS afcs
    replace todd := xv4.thS todd
    replace tv2 := xv4.thS tv2
    replace tv3 := xv4.thS tv3
    replace tv4 := tv4.imp (fs_mono xv4)
    have EE6 := EE5.trans (xv4.epn EE5.pen)
    clear xv4 EE5
    rw [hu1] at tv4
    refine ⟨ov, rfl, (by show 1 ≤ sizeLine; decide), fun p5 np5 => ?_⟩
    have xp5 := Ext.new (o := .tup [ov]) EE6.tb np5
    have zp5 : H p5 = none := EE6.free np5
    have tp5 : ThF K (upd Y6 p5 (.tup [ov])) (FS (fun _ => True) H (upd Y6 p5 (.tup [ov]))) (.ref p5) (.tuple [od]) := th_newS EE6.tb np5 (.cons todd .nil)
    replace tfcs := xp5.thS tfcs
    replace qfcs := xp5.sqT qfcs
    replace qfce := xp5.sqT qfce
    replace tfce := xp5.thS tfce
    replace afcs := xp5.thAllS afcs
    replace todd := xp5.thS todd
    replace tv2 := xp5.thS tv2
    replace tv3 := xp5.thS tv3
    replace tv4 := xp5.thS tv4
    have EE7 := EE6.trans (xp5.epn EE6.pen)
    clear xp5 np5 EE6
    generalize upd Y6 p5 (.tup [ov]) = Y7 at EE7 tfcs qfcs qfce tfce afcs todd tv2 tv3 tv4 tp5 ⊢
    refine ⟨_, _, _, tv4, tp5, by simp only [iD, List.length_append, List.length_take, List.length_drop, List.length_map, List.length_cons, List.length_nil]; omega, EE7.tb, fun v6 Y8 xv6 tv6 => ?_⟩
    replace tfcs := xv6.thS tfcs
    replace qfcs := xv6.sqT qfcs
    replace qfce := xv6.sqT qfce
    replace tfce := xv6.thS tfce
    replace afcs := xv6.thAllS afcs
    replace todd := xv6.thS todd
    replace tv2 := xv6.thS tv2
    replace tv3 := xv6.thS tv3
    replace tv4 := xv6.thS tv4
    replace tp5 := xv6.thS tp5
    replace tv6 := tv6.imp (fs_mono xv6)
    have EE8 := EE7.trans (xv6.epn EE7.pen)
    clear xv6 EE7
    refine ⟨.ref ft, rfl, .int (o : Int), rfl, (o : Int), 1, rfl, rfl, (o : Int) + 1, rfl, _, _, tfce, EE8.tb, fun v7 Y9 xv7 tv7 => ?_⟩
    replace tfcs := xv7.thS tfcs
    replace qfcs := xv7.sqT qfcs
    replace qfce := xv7.sqT qfce
    replace tfce := xv7.thS tfce
    replace afcs := xv7.thAllS afcs
    replace todd := xv7.thS todd
    replace tv2 := xv7.thS tv2
    replace tv3 := xv7.thS tv3
    replace tv4 := xv7.thS tv4
    replace tp5 := xv7.thS tp5
    replace tv6 := xv7.thS tv6
    replace tv7 := tv7.imp (fs_mono xv7)
    have EE9 := EE8.trans (xv7.epn EE8.pen)
    clear xv7 EE8
    rw [hu2] at tv7
    refine ⟨_, _, _, tv6, tv7, by simp only [iD, List.length_append, List.length_take, List.length_drop, List.length_map, List.length_cons, List.length_nil]; omega, EE9.tb, fun v8 Y10 xv8 tv8 => ?_⟩
    replace tfcs := xv8.thS tfcs
    replace qfcs := xv8.sqT qfcs
    replace qfce := xv8.sqT qfce
    replace tfce := xv8.thS tfce
    replace afcs := xv8.thAllS afcs
    replace todd := xv8.thS todd
    replace tv2 := xv8.thS tv2
    replace tv3 := xv8.thS tv3
    replace tv4 := xv8.thS tv4
    replace tp5 := xv8.thS tp5
    replace tv6 := xv8.thS tv6
    replace tv7 := xv8.thS tv7
    replace tv8 := tv8.imp (fs_mono xv8)
    have EE10 := EE9.trans (xv8.epn EE9.pen)
    clear xv8 EE9
    show R [some (.ref a), some (.ref b), some (.int n), some (.int kk), some (.ref fa), some (.int (wy : Int)), some (.int (j : Int)), some (.int (o : Int)), some ov, some (.ref ft), some v2, some v3, some v8, none] Y10
    rw [hR]
    clear hR
    clear tv4 tp5 tv6 tv7
    refine tseq_intro fun R hR => ?_
    refine ⟨.int n, rfl, .int kk, rfl, v2, rfl, v8, rfl, (by show 1 ≤ sizeLine; decide), fun p9 np9 => ?_⟩
    have xp9 := Ext.new (o := .tup [v8]) EE10.tb np9
    have zp9 : H p9 = none := EE10.free np9
    have tp9 : ThF K (upd Y10 p9 (.tup [v8])) (FS (fun _ => True) H (upd Y10 p9 (.tup [v8]))) (.ref p9) (.tuple [.tuple (((iD u1) ++ [od]) ++ (iD u2))]) := th_newS EE10.tb np9 (.cons tv8 .nil)
    replace tfcs := xp9.thS tfcs
    replace qfcs := xp9.sqT qfcs
    replace qfce := xp9.sqT qfce
    replace tfce := xp9.thS tfce
    replace afcs := xp9.thAllS afcs
    replace todd := xp9.thS todd
    replace tv2 := xp9.thS tv2
    replace tv3 := xp9.thS tv3
    replace tv8 := xp9.thS tv8
    have EE11 := EE10.trans (xp9.epn EE10.pen)
    clear xp9 np9 EE10
    generalize upd Y10 p9 (.tup [v8]) = Y11 at EE11 tfcs qfcs qfce tfce afcs todd tv2 tv3 tv8 tp9 ⊢
    refine ⟨_, _, _, tv2, tp9, by simp only [iD, List.length_append, List.length_take, List.length_drop, List.length_map, List.length_cons, List.length_nil]; omega, EE11.tb, fun v10 Y12 xv10 tv10 => ?_⟩
    replace tfcs := xv10.thS tfcs
    replace qfcs := xv10.sqT qfcs
    replace qfce := xv10.sqT qfce
    replace tfce := xv10.thS tfce
    replace afcs := xv10.thAllS afcs
    replace todd := xv10.thS todd
    replace tv2 := xv10.thS tv2
    replace tv3 := xv10.thS tv3
    replace tv8 := xv10.thS tv8
    replace tp9 := xv10.thS tp9
    replace tv10 := tv10.imp (fs_mono xv10)
    have EE12 := EE11.trans (xv10.epn EE11.pen)
    clear xv10 EE11
    refine ⟨v3, rfl, _, _, _, tv10, tv3, by simp only [iD, List.length_append, List.length_take, List.length_drop, List.length_map, List.length_cons, List.length_nil]; omega, EE12.tb, fun v11 Y13 xv11 tv11 => ?_⟩
    replace tfcs := xv11.thS tfcs
    replace qfcs := xv11.sqT qfcs
    replace qfce := xv11.sqT qfce
    replace tfce := xv11.thS tfce
    replace afcs := xv11.thAllS afcs
    replace todd := xv11.thS todd
    replace tv2 := xv11.thS tv2
    replace tv3 := xv11.thS tv3
    replace tv8 := xv11.thS tv8
    replace tp9 := xv11.thS tp9
    replace tv10 := xv11.thS tv10
    replace tv11 := tv11.imp (fs_mono xv11)
    have EE13 := EE12.trans (xv11.epn EE12.pen)
    clear xv11 EE12
    refine ⟨(by show 3 ≤ sizeLine; decide), fun p12 np12 => ?_⟩
    have xp12 := Ext.new (o := .tup [.int n, .int kk, v11]) EE13.tb np12
    have zp12 : H p12 = none := EE13.free np12
    have tp12 : ThF K (upd Y13 p12 (.tup [.int n, .int kk, v11])) (FS (fun _ => True) H (upd Y13 p12 (.tup [.int n, .int kk, v11]))) (.ref p12) (.tuple [.int n, .int kk, .tuple ((((fss.map tD).take j) ++ [.tuple (((iD u1) ++ [od]) ++ (iD u2))]) ++ ((fss.map tD).drop (j + 1)))]) := th_newS EE13.tb np12 (.cons (.int n) (.cons (.int kk) (.cons tv11 .nil)))
    replace tfcs := xp12.thS tfcs
    replace qfcs := xp12.sqT qfcs
    replace qfce := xp12.sqT qfce
    replace tfce := xp12.thS tfce
    replace afcs := xp12.thAllS afcs
    replace todd := xp12.thS todd
    replace tv2 := xp12.thS tv2
    replace tv3 := xp12.thS tv3
    replace tv8 := xp12.thS tv8
    replace tp9 := xp12.thS tp9
    replace tv10 := xp12.thS tv10
    replace tv11 := xp12.thS tv11
    have EE14 := EE13.trans (xp12.epn EE13.pen)
    clear xp12 np12 EE13
    generalize upd Y13 p12 (.tup [.int n, .int kk, v11]) = Y14 at EE14 tfcs qfcs qfce tfce afcs todd tv2 tv3 tv8 tp9 tv10 tv11 tp12 ⊢
    refine ⟨.int n, rfl, .int kk, rfl, v2, rfl, .ref ft, rfl, ft, (fc.map V.int), rfl, .inr qfce, fun p13 np13 => ?_⟩
    have xp13 := Ext.new (o := .lst (fc.map V.int)) EE14.tb np13
    have zp13 : H p13 = none := EE14.free np13
    have tp13 : ThF K (upd Y14 p13 (.lst (fc.map V.int))) (FS (fun _ => True) H (upd Y14 p13 (.lst (fc.map V.int)))) (.ref p13) (.list (iD fc)) := th_newLS EE14.tb np13 zp13 trivial (th_ints fc)
    replace tfcs := xp13.thS tfcs
    replace qfcs := xp13.sqT qfcs
    replace qfce := xp13.sqT qfce
    replace tfce := xp13.thS tfce
    replace afcs := xp13.thAllS afcs
    replace todd := xp13.thS todd
    replace tv2 := xp13.thS tv2
    replace tv3 := xp13.thS tv3
    replace tv8 := xp13.thS tv8
    replace tp9 := xp13.thS tp9
    replace tv10 := xp13.thS tv10
    replace tv11 := xp13.thS tv11
    replace tp12 := xp13.thS tp12
    have EE15 := EE14.trans (xp13.epn EE14.pen)
    clear xp13 np13 EE14
    generalize upd Y14 p13 (.lst (fc.map V.int)) = Y15 at EE15 tfcs qfcs qfce tfce afcs todd tv2 tv3 tv8 tp9 tv10 tv11 tp12 tp13 ⊢
    refine ⟨(by show 1 ≤ sizeLine; decide), fun p14 np14 => ?_⟩
    have xp14 := Ext.new (o := .tup [.ref p13]) EE15.tb np14
    have zp14 : H p14 = none := EE15.free np14
    have tp14 : ThF K (upd Y15 p14 (.tup [.ref p13])) (FS (fun _ => True) H (upd Y15 p14 (.tup [.ref p13]))) (.ref p14) (.tuple [.list (iD fc)]) := th_newS EE15.tb np14 (.cons tp13 .nil)
    replace tfcs := xp14.thS tfcs
    replace qfcs := xp14.sqT qfcs
    replace qfce := xp14.sqT qfce
    replace tfce := xp14.thS tfce
    replace afcs := xp14.thAllS afcs
    replace todd := xp14.thS todd
    replace tv2 := xp14.thS tv2
    replace tv3 := xp14.thS tv3
    replace tv8 := xp14.thS tv8
    replace tp9 := xp14.thS tp9
    replace tv10 := xp14.thS tv10
    replace tv11 := xp14.thS tv11
    replace tp12 := xp14.thS tp12
    replace tp13 := xp14.thS tp13
    have EE16 := EE15.trans (xp14.epn EE15.pen)
    clear xp14 np14 EE15
    generalize upd Y15 p14 (.tup [.ref p13]) = Y16 at EE16 tfcs qfcs qfce tfce afcs todd tv2 tv3 tv8 tp9 tv10 tv11 tp12 tp13 tp14 ⊢
    refine ⟨_, _, _, tv2, tp14, by simp only [iD, List.length_append, List.length_take, List.length_drop, List.length_map, List.length_cons, List.length_nil]; omega, EE16.tb, fun v15 Y17 xv15 tv15 => ?_⟩
    replace tfcs := xv15.thS tfcs
    replace qfcs := xv15.sqT qfcs
    replace qfce := xv15.sqT qfce
    replace tfce := xv15.thS tfce
    replace afcs := xv15.thAllS afcs
    replace todd := xv15.thS todd
    replace tv2 := xv15.thS tv2
    replace tv3 := xv15.thS tv3
    replace tv8 := xv15.thS tv8
    replace tp9 := xv15.thS tp9
    replace tv10 := xv15.thS tv10
    replace tv11 := xv15.thS tv11
    replace tp12 := xv15.thS tp12
    replace tp13 := xv15.thS tp13
    replace tp14 := xv15.thS tp14
    replace tv15 := tv15.imp (fs_mono xv15)
    have EE17 := EE16.trans (xv15.epn EE16.pen)
    clear xv15 EE16
    refine ⟨v3, rfl, _, _, _, tv15, tv3, by simp only [iD, List.length_append, List.length_take, List.length_drop, List.length_map, List.length_cons, List.length_nil]; omega, EE17.tb, fun v16 Y18 xv16 tv16 => ?_⟩
    replace tfcs := xv16.thS tfcs
    replace qfcs := xv16.sqT qfcs
    replace qfce := xv16.sqT qfce
    replace tfce := xv16.thS tfce
    replace afcs := xv16.thAllS afcs
    replace todd := xv16.thS todd
    replace tv2 := xv16.thS tv2
    replace tv3 := xv16.thS tv3
    replace tv8 := xv16.thS tv8
    replace tp9 := xv16.thS tp9
    replace tv10 := xv16.thS tv10
    replace tv11 := xv16.thS tv11
    replace tp12 := xv16.thS tp12
    replace tp13 := xv16.thS tp13
    replace tp14 := xv16.thS tp14
    replace tv15 := xv16.thS tv15
    replace tv16 := tv16.imp (fs_mono xv16)
    have EE18 := EE17.trans (xv16.epn EE17.pen)
    clear xv16 EE17
    refine ⟨(by show 3 ≤ sizeLine; decide), fun p17 np17 => ?_⟩
    have xp17 := Ext.new (o := .tup [.int n, .int kk, v16]) EE18.tb np17
    have zp17 : H p17 = none := EE18.free np17
    have tp17 : ThF K (upd Y18 p17 (.tup [.int n, .int kk, v16])) (FS (fun _ => True) H (upd Y18 p17 (.tup [.int n, .int kk, v16]))) (.ref p17) (.tuple [.int n, .int kk, .tuple ((((fss.map tD).take j) ++ [.list (iD fc)]) ++ ((fss.map tD).drop (j + 1)))]) := th_newS EE18.tb np17 (.cons (.int n) (.cons (.int kk) (.cons tv16 .nil)))
    replace tfcs := xp17.thS tfcs
    replace qfcs := xp17.sqT qfcs
    replace qfce := xp17.sqT qfce
    replace tfce := xp17.thS tfce
    replace afcs := xp17.thAllS afcs
    replace todd := xp17.thS todd
    replace tv2 := xp17.thS tv2
    replace tv3 := xp17.thS tv3
    replace tv8 := xp17.thS tv8
    replace tp9 := xp17.thS tp9
    replace tv10 := xp17.thS tv10
    replace tv11 := xp17.thS tv11
    replace tp12 := xp17.thS tp12
    replace tp13 := xp17.thS tp13
    replace tp14 := xp17.thS tp14
    replace tv15 := xp17.thS tv15
    replace tv16 := xp17.thS tv16
    have EE19 := EE18.trans (xp17.epn EE18.pen)
    clear xp17 np17 EE18
    generalize upd Y18 p17 (.tup [.int n, .int kk, v16]) = Y19 at EE19 tfcs qfcs qfce tfce afcs todd tv2 tv3 tv8 tp9 tv10 tv11 tp12 tp13 tp14 tv15 tv16 tp17 ⊢
    have hv : ThAllF K Y19 (FS (fun _ => True) H Y19) [.ref p12, .ref p17] [.tuple [.int n, .int kk, .tuple ((((fss.map tD).take j) ++ [.tuple (((iD u1) ++ [od]) ++ (iD u2))]) ++ ((fss.map tD).drop (j + 1)))], .tuple [.int n, .int kk, .tuple ((((fss.map tD).take j) ++ [.list (iD fc)]) ++ ((fss.map tD).drop (j + 1)))]] := (.cons tp12 (.cons tp17 .nil))
    clear tp9 tv10 tv11 tp12 tp13 tp14 tv15 tv16 tp17
    refine ⟨(by show 2 ≤ sizeLine; decide), fun l1 nl1 => ?_⟩
    have xl1 := Ext.new (o := .lst [.ref p12, .ref p17]) EE19.tb nl1
    have zl1 : H l1 = none := EE19.free nl1
    have hl : (upd Y19 l1 (.lst [.ref p12, .ref p17])) l1 = some (.lst [.ref p12, .ref p17]) := upd_same
    replace tfcs := xl1.thS tfcs
    replace qfcs := xl1.sqT qfcs
    replace qfce := xl1.sqT qfce
    replace tfce := xl1.thS tfce
    replace afcs := xl1.thAllS afcs
    replace todd := xl1.thS todd
    replace tv2 := xl1.thS tv2
    replace tv3 := xl1.thS tv3
    replace tv8 := xl1.thS tv8
    replace hv := xl1.thAllS hv
    have EE20 := EE19.trans (xl1.epn EE19.pen)
    clear xl1 nl1 EE19
    generalize upd Y19 l1 (.lst [.ref p12, .ref p17]) = Y20 at EE20 tfcs qfcs qfce tfce afcs todd tv2 tv3 tv8 hv hl ⊢
    show R [some (.ref a), some (.ref b), some (.int n), some (.int kk), some (.ref fa), some (.int (wy : Int)), some (.int (j : Int)), some (.int (o : Int)), some ov, some (.ref ft), some v2, some v3, some v8, some (.ref l1)] Y20
    rw [hR]
    clear hR
    refine tseq_intro fun R hR => ?_
    refine ⟨.ref l1, rfl, .int n, rfl, .int kk, rfl, v2, rfl, .ref ft, rfl, .ref ft, rfl, (by show 2 ≤ sizeLine; decide), fun p18 np18 => ?_⟩
    have xp18 := Ext.new (o := .tup [.ref ft, .ref ft]) EE20.tb np18
    have zp18 : H p18 = none := EE20.free np18
    have tp18 : ThF K (upd Y20 p18 (.tup [.ref ft, .ref ft])) (FS (fun _ => True) H (upd Y20 p18 (.tup [.ref ft, .ref ft]))) (.ref p18) (.tuple [.tuple (iD fc), .tuple (iD fc)]) := th_newS EE20.tb np18 (.cons tfce (.cons tfce .nil))
    replace tfcs := xp18.thS tfcs
    replace qfcs := xp18.sqT qfcs
    replace qfce := xp18.sqT qfce
    replace tfce := xp18.thS tfce
    replace afcs := xp18.thAllS afcs
    replace todd := xp18.thS todd
    replace tv2 := xp18.thS tv2
    replace tv3 := xp18.thS tv3
    replace tv8 := xp18.thS tv8
    replace hv := xp18.thAllS hv
    replace hl := xp18.lst hl
    have EE21 := EE20.trans (xp18.epn EE20.pen)
    clear xp18 np18 EE20
    generalize upd Y20 p18 (.tup [.ref ft, .ref ft]) = Y21 at EE21 tfcs qfcs qfce tfce afcs todd tv2 tv3 tv8 hv hl tp18 ⊢
    refine ⟨_, _, _, tv2, tp18, by simp only [iD, List.length_append, List.length_take, List.length_drop, List.length_map, List.length_cons, List.length_nil]; omega, EE21.tb, fun v19 Y22 xv19 tv19 => ?_⟩
    replace tfcs := xv19.thS tfcs
    replace qfcs := xv19.sqT qfcs
    replace qfce := xv19.sqT qfce
    replace tfce := xv19.thS tfce
    replace afcs := xv19.thAllS afcs
    replace todd := xv19.thS todd
    replace tv2 := xv19.thS tv2
    replace tv3 := xv19.thS tv3
    replace tv8 := xv19.thS tv8
    replace hv := xv19.thAllS hv
    replace hl := xv19.lst hl
    replace tp18 := xv19.thS tp18
    replace tv19 := tv19.imp (fs_mono xv19)
    have EE22 := EE21.trans (xv19.epn EE21.pen)
    clear xv19 EE21
    refine ⟨v3, rfl, _, _, _, tv19, tv3, by simp only [iD, List.length_append, List.length_take, List.length_drop, List.length_map, List.length_cons, List.length_nil]; omega, EE22.tb, fun v20 Y23 xv20 tv20 => ?_⟩
    replace tfcs := xv20.thS tfcs
    replace qfcs := xv20.sqT qfcs
    replace qfce := xv20.sqT qfce
    replace tfce := xv20.thS tfce
    replace afcs := xv20.thAllS afcs
    replace todd := xv20.thS todd
    replace tv2 := xv20.thS tv2
    replace tv3 := xv20.thS tv3
    replace tv8 := xv20.thS tv8
    replace hv := xv20.thAllS hv
    replace hl := xv20.lst hl
    replace tp18 := xv20.thS tp18
    replace tv19 := xv20.thS tv19
    replace tv20 := tv20.imp (fs_mono xv20)
    have EE23 := EE22.trans (xv20.epn EE22.pen)
    clear xv20 EE22
    refine ⟨(by show 3 ≤ sizeLine; decide), fun p21 np21 => ?_⟩
    have xp21 := Ext.new (o := .tup [.int n, .int kk, v20]) EE23.tb np21
    have zp21 : H p21 = none := EE23.free np21
    have tp21 : ThF K (upd Y23 p21 (.tup [.int n, .int kk, v20])) (FS (fun _ => True) H (upd Y23 p21 (.tup [.int n, .int kk, v20]))) (.ref p21) (.tuple [.int n, .int kk, .tuple ((((fss.map tD).take j) ++ [.tuple (iD fc), .tuple (iD fc)]) ++ ((fss.map tD).drop (j + 1)))]) := th_newS EE23.tb np21 (.cons (.int n) (.cons (.int kk) (.cons tv20 .nil)))
    replace tfcs := xp21.thS tfcs
    replace qfcs := xp21.sqT qfcs
    replace qfce := xp21.sqT qfce
    replace tfce := xp21.thS tfce
    replace afcs := xp21.thAllS afcs
    replace todd := xp21.thS todd
    replace tv2 := xp21.thS tv2
    replace tv3 := xp21.thS tv3
    replace tv8 := xp21.thS tv8
    replace hv := xp21.thAllS hv
    replace hl := xp21.lst hl
    replace tp18 := xp21.thS tp18
    replace tv19 := xp21.thS tv19
    replace tv20 := xp21.thS tv20
    have EE24 := EE23.trans (xp21.epn EE23.pen)
    clear xp21 np21 EE23
    generalize upd Y23 p21 (.tup [.int n, .int kk, v20]) = Y24 at EE24 tfcs qfcs qfce tfce afcs todd tv2 tv3 tv8 hv hl tp18 tv19 tv20 tp21 ⊢
    refine ⟨.int n, rfl, .int kk, rfl, .ref fa, rfl, .ref fa, rfl, 1, rfl, _, _, tfcs, EE24.tb, fun v22 Y25 xv22 tv22 => ?_⟩
    replace tfcs := xv22.thS tfcs
    replace qfcs := xv22.sqT qfcs
    replace qfce := xv22.sqT qfce
    replace tfce := xv22.thS tfce
    replace afcs := xv22.thAllS afcs
    replace todd := xv22.thS todd
    replace tv2 := xv22.thS tv2
    replace tv3 := xv22.thS tv3
    replace tv8 := xv22.thS tv8
    replace hv := xv22.thAllS hv
    replace hl := xv22.lst hl
    replace tp18 := xv22.thS tp18
    replace tv19 := xv22.thS tv19
    replace tv20 := xv22.thS tv20
    replace tp21 := xv22.thS tp21
    replace tv22 := tv22.imp (fs_mono xv22)
    have EE25 := EE24.trans (xv22.epn EE24.pen)
    clear xv22 EE24
    rw [show cutD (fss.map tD) none (some 1) = (fss.map tD).take 1 from cutD_to (m := 1) hm1] at tv22
    refine ⟨_, _, _, tfcs, tv22, by simp only [iD, List.length_append, List.length_take, List.length_drop, List.length_map, List.length_cons, List.length_nil]; omega, EE25.tb, fun v23 Y26 xv23 tv23 => ?_⟩
    replace tfcs := xv23.thS tfcs
    replace qfcs := xv23.sqT qfcs
    replace qfce := xv23.sqT qfce
    replace tfce := xv23.thS tfce
    replace afcs := xv23.thAllS afcs
    replace todd := xv23.thS todd
    replace tv2 := xv23.thS tv2
    replace tv3 := xv23.thS tv3
    replace tv8 := xv23.thS tv8
    replace hv := xv23.thAllS hv
    replace hl := xv23.lst hl
    replace tp18 := xv23.thS tp18
    replace tv19 := xv23.thS tv19
    replace tv20 := xv23.thS tv20
    replace tp21 := xv23.thS tp21
    replace tv22 := xv23.thS tv22
    replace tv23 := tv23.imp (fs_mono xv23)
    have EE26 := EE25.trans (xv23.epn EE25.pen)
    clear xv23 EE25
    refine ⟨(by show 3 ≤ sizeLine; decide), fun p24 np24 => ?_⟩
    have xp24 := Ext.new (o := .tup [.int n, .int kk, v23]) EE26.tb np24
    have zp24 : H p24 = none := EE26.free np24
    have tp24 : ThF K (upd Y26 p24 (.tup [.int n, .int kk, v23])) (FS (fun _ => True) H (upd Y26 p24 (.tup [.int n, .int kk, v23]))) (.ref p24) (.tuple [.int n, .int kk, .tuple ((fss.map tD) ++ ((fss.map tD).take 1))]) := th_newS EE26.tb np24 (.cons (.int n) (.cons (.int kk) (.cons tv23 .nil)))
    replace tfcs := xp24.thS tfcs
    replace qfcs := xp24.sqT qfcs
    replace qfce := xp24.sqT qfce
    replace tfce := xp24.thS tfce
    replace afcs := xp24.thAllS afcs
    replace todd := xp24.thS todd
    replace tv2 := xp24.thS tv2
    replace tv3 := xp24.thS tv3
    replace tv8 := xp24.thS tv8
    replace hv := xp24.thAllS hv
    replace hl := xp24.lst hl
    replace tp18 := xp24.thS tp18
    replace tv19 := xp24.thS tv19
    replace tv20 := xp24.thS tv20
    replace tp21 := xp24.thS tp21
    replace tv22 := xp24.thS tv22
    replace tv23 := xp24.thS tv23
    have EE27 := EE26.trans (xp24.epn EE26.pen)
    clear xp24 np24 EE26
    generalize upd Y26 p24 (.tup [.int n, .int kk, v23]) = Y27 at EE27 tfcs qfcs qfce tfce afcs todd tv2 tv3 tv8 hv hl tp18 tv19 tv20 tp21 tv22 tv23 tp24 ⊢
    refine ⟨.int n, rfl, .int kk, rfl, .ref fa, rfl, fa, xs, rfl, .inr qfcs, fun p25 np25 => ?_⟩
    have xp25 := Ext.new (o := .lst xs) EE27.tb np25
    have zp25 : H p25 = none := EE27.free np25
    have tp25 : ThF K (upd Y27 p25 (.lst xs)) (FS (fun _ => True) H (upd Y27 p25 (.lst xs))) (.ref p25) (.list (fss.map tD)) := th_newLS EE27.tb np25 zp25 trivial afcs
    replace tfcs := xp25.thS tfcs
    replace qfcs := xp25.sqT qfcs
    replace qfce := xp25.sqT qfce
    replace tfce := xp25.thS tfce
    replace afcs := xp25.thAllS afcs
    replace todd := xp25.thS todd
    replace tv2 := xp25.thS tv2
    replace tv3 := xp25.thS tv3
    replace tv8 := xp25.thS tv8
    replace hv := xp25.thAllS hv
    replace hl := xp25.lst hl
    replace tp18 := xp25.thS tp18
    replace tv19 := xp25.thS tv19
    replace tv20 := xp25.thS tv20
    replace tp21 := xp25.thS tp21
    replace tv22 := xp25.thS tv22
    replace tv23 := xp25.thS tv23
    replace tp24 := xp25.thS tp24
    have EE28 := EE27.trans (xp25.epn EE27.pen)
    clear xp25 np25 EE27
    generalize upd Y27 p25 (.lst xs) = Y28 at EE28 tfcs qfcs qfce tfce afcs todd tv2 tv3 tv8 hv hl tp18 tv19 tv20 tp21 tv22 tv23 tp24 tp25 ⊢
    refine ⟨(by show 3 ≤ sizeLine; decide), fun p26 np26 => ?_⟩
    have xp26 := Ext.new (o := .tup [.int n, .int kk, .ref p25]) EE28.tb np26
    have zp26 : H p26 = none := EE28.free np26
    have tp26 : ThF K (upd Y28 p26 (.tup [.int n, .int kk, .ref p25])) (FS (fun _ => True) H (upd Y28 p26 (.tup [.int n, .int kk, .ref p25]))) (.ref p26) (.tuple [.int n, .int kk, .list (fss.map tD)]) := th_newS EE28.tb np26 (.cons (.int n) (.cons (.int kk) (.cons tp25 .nil)))
    replace tfcs := xp26.thS tfcs
    replace qfcs := xp26.sqT qfcs
    replace qfce := xp26.sqT qfce
    replace tfce := xp26.thS tfce
    replace afcs := xp26.thAllS afcs
    replace todd := xp26.thS todd
    replace tv2 := xp26.thS tv2
    replace tv3 := xp26.thS tv3
    replace tv8 := xp26.thS tv8
    replace hv := xp26.thAllS hv
    replace hl := xp26.lst hl
    replace tp18 := xp26.thS tp18
    replace tv19 := xp26.thS tv19
    replace tv20 := xp26.thS tv20
    replace tp21 := xp26.thS tp21
    replace tv22 := xp26.thS tv22
    replace tv23 := xp26.thS tv23
    replace tp24 := xp26.thS tp24
    replace tp25 := xp26.thS tp25
    have EE29 := EE28.trans (xp26.epn EE28.pen)
    clear xp26 np26 EE28
    generalize upd Y28 p26 (.tup [.int n, .int kk, .ref p25]) = Y29 at EE29 tfcs qfcs qfce tfce afcs todd tv2 tv3 tv8 hv hl tp18 tv19 tv20 tp21 tv22 tv23 tp24 tp25 tp26 ⊢
    have hw : ThAllF K Y29 (FS (fun _ => True) H Y29) [.ref p21, .ref p24, .ref p26] [.tuple [.int n, .int kk, .tuple ((((fss.map tD).take j) ++ [.tuple (iD fc), .tuple (iD fc)]) ++ ((fss.map tD).drop (j + 1)))], .tuple [.int n, .int kk, .tuple ((fss.map tD) ++ ((fss.map tD).take 1))], .tuple [.int n, .int kk, .list (fss.map tD)]] := (.cons tp21 (.cons tp24 (.cons tp26 .nil)))
    clear tp18 tv19 tv20 tp21 tv22 tv23 tp24 tp25 tp26
    refine ⟨(by show 3 ≤ sizeLine; decide), fun p27 np27 => ?_⟩
    have xp27 := Ext.new (o := .lst [.ref p21, .ref p24, .ref p26]) EE29.tb np27
    have zp27 : H p27 = none := EE29.free np27
    have hm : (upd Y29 p27 (.lst [.ref p21, .ref p24, .ref p26])) p27 = some (.lst [.ref p21, .ref p24, .ref p26]) := upd_same
    replace tfcs := xp27.thS tfcs
    replace qfcs := xp27.sqT qfcs
    replace qfce := xp27.sqT qfce
    replace tfce := xp27.thS tfce
    replace afcs := xp27.thAllS afcs
    replace todd := xp27.thS todd
    replace tv2 := xp27.thS tv2
    replace tv3 := xp27.thS tv3
    replace tv8 := xp27.thS tv8
    replace hv := xp27.thAllS hv
    replace hl := xp27.lst hl
    replace hw := xp27.thAllS hw
    have EE30 := EE29.trans (xp27.epn EE29.pen)
    clear xp27 np27 EE29
    generalize upd Y29 p27 (.lst [.ref p21, .ref p24, .ref p26]) = Y30 at EE30 tfcs qfcs qfce tfce afcs todd tv2 tv3 tv8 hv hl hw hm ⊢
    replace hv := thAll_app hv hw
    clear hw
    refine ⟨l1, p27, _, _, rfl, rfl, hl, hm, Nat.le_of_lt (small1000 (by show 2 + 3 ≤ 1000; decide)), fun l2 nl2 => ?_⟩
    have xl2 := Ext.new (o := .lst ([.ref p12, .ref p17] ++ [.ref p21, .ref p24, .ref p26])) EE30.tb nl2
    have zl2 : H l2 = none := EE30.free nl2
    have hl2 : (upd Y30 l2 (.lst ([.ref p12, .ref p17] ++ [.ref p21, .ref p24, .ref p26]))) l2 = some (.lst [.ref p12, .ref p17, .ref p21, .ref p24, .ref p26]) := upd_same
    replace tfcs := xl2.thS tfcs
    replace qfcs := xl2.sqT qfcs
    replace qfce := xl2.sqT qfce
    replace tfce := xl2.thS tfce
    replace afcs := xl2.thAllS afcs
    replace todd := xl2.thS todd
    replace tv2 := xl2.thS tv2
    replace tv3 := xl2.thS tv3
    replace tv8 := xl2.thS tv8
    replace hv := xl2.thAllS hv
    have EE31 := EE30.trans (xl2.epn EE30.pen)
    clear xl2 nl2 EE30
    generalize upd Y30 l2 (.lst ([.ref p12, .ref p17] ++ [.ref p21, .ref p24, .ref p26])) = Y31 at EE31 tfcs qfcs qfce tfce afcs todd tv2 tv3 tv8 hv hl2 ⊢
    have hl := hl2
    clear hl2
    replace hv : ThAllF K Y31 (FS (fun _ => True) H Y31) [.ref p12, .ref p17, .ref p21, .ref p24, .ref p26] [.tuple [.int n, .int kk, .tuple ((((fss.map tD).take j) ++ [.tuple (((iD u1) ++ [od]) ++ (iD u2))]) ++ ((fss.map tD).drop (j + 1)))], .tuple [.int n, .int kk, .tuple ((((fss.map tD).take j) ++ [.list (iD fc)]) ++ ((fss.map tD).drop (j + 1)))], .tuple [.int n, .int kk, .tuple ((((fss.map tD).take j) ++ [.tuple (iD fc), .tuple (iD fc)]) ++ ((fss.map tD).drop (j + 1)))], .tuple [.int n, .int kk, .tuple ((fss.map tD) ++ ((fss.map tD).take 1))], .tuple [.int n, .int kk, .list (fss.map tD)]] := hv
    show R [some (.ref a), some (.ref b), some (.int n), some (.int kk), some (.ref fa), some (.int (wy : Int)), some (.int (j : Int)), some (.int (o : Int)), some ov, some (.ref ft), some v2, some v3, some v8, some (.ref l2)] Y31
    rw [hR]
    clear hR
    refine tseq_intro fun R hR => ?_
    refine ⟨.ref l2, rfl, .int n, rfl, .int kk, rfl, (by show 0 ≤ sizeLine; decide), fun p28 np28 => ?_⟩
    have xp28 := Ext.new (o := .tup []) EE31.tb np28
    have zp28 : H p28 = none := EE31.free np28
    have tp28 : ThF K (upd Y31 p28 (.tup [])) (FS (fun _ => True) H (upd Y31 p28 (.tup []))) (.ref p28) (.tuple []) := th_newS EE31.tb np28 .nil
    replace tfcs := xp28.thS tfcs
    replace qfcs := xp28.sqT qfcs
    replace qfce := xp28.sqT qfce
    replace tfce := xp28.thS tfce
    replace afcs := xp28.thAllS afcs
    replace todd := xp28.thS todd
    replace tv2 := xp28.thS tv2
    replace tv3 := xp28.thS tv3
    replace tv8 := xp28.thS tv8
    replace hv := xp28.thAllS hv
    replace hl := xp28.lst hl
    have EE32 := EE31.trans (xp28.epn EE31.pen)
    clear xp28 np28 EE31
    generalize upd Y31 p28 (.tup []) = Y32 at EE32 tfcs qfcs qfce tfce afcs todd tv2 tv3 tv8 hv hl tp28 ⊢
    refine ⟨(by show 3 ≤ sizeLine; decide), fun p29 np29 => ?_⟩
    have xp29 := Ext.new (o := .tup [.int n, .int kk, .ref p28]) EE32.tb np29
    have zp29 : H p29 = none := EE32.free np29
    have tp29 : ThF K (upd Y32 p29 (.tup [.int n, .int kk, .ref p28])) (FS (fun _ => True) H (upd Y32 p29 (.tup [.int n, .int kk, .ref p28]))) (.ref p29) (.tuple [.int n, .int kk, .tuple []]) := th_newS EE32.tb np29 (.cons (.int n) (.cons (.int kk) (.cons tp28 .nil)))
    replace tfcs := xp29.thS tfcs
    replace qfcs := xp29.sqT qfcs
    replace qfce := xp29.sqT qfce
    replace tfce := xp29.thS tfce
    replace afcs := xp29.thAllS afcs
    replace todd := xp29.thS todd
    replace tv2 := xp29.thS tv2
    replace tv3 := xp29.thS tv3
    replace tv8 := xp29.thS tv8
    replace hv := xp29.thAllS hv
    replace hl := xp29.lst hl
    replace tp28 := xp29.thS tp28
    have EE33 := EE32.trans (xp29.epn EE32.pen)
    clear xp29 np29 EE32
    generalize upd Y32 p29 (.tup [.int n, .int kk, .ref p28]) = Y33 at EE33 tfcs qfcs qfce tfce afcs todd tv2 tv3 tv8 hv hl tp28 tp29 ⊢
    refine ⟨.int kk, rfl, .ref fa, rfl, (by show 3 ≤ sizeLine; decide), fun p30 np30 => ?_⟩
    have xp30 := Ext.new (o := .tup [.int 0, .int kk, .ref fa]) EE33.tb np30
    have zp30 : H p30 = none := EE33.free np30
    have tp30 : ThF K (upd Y33 p30 (.tup [.int 0, .int kk, .ref fa])) (FS (fun _ => True) H (upd Y33 p30 (.tup [.int 0, .int kk, .ref fa]))) (.ref p30) (.tuple [.int 0, .int kk, .tuple (fss.map tD)]) := th_newS EE33.tb np30 (.cons (.int 0) (.cons (.int kk) (.cons tfcs .nil)))
    replace tfcs := xp30.thS tfcs
    replace qfcs := xp30.sqT qfcs
    replace qfce := xp30.sqT qfce
    replace tfce := xp30.thS tfce
    replace afcs := xp30.thAllS afcs
    replace todd := xp30.thS todd
    replace tv2 := xp30.thS tv2
    replace tv3 := xp30.thS tv3
    replace tv8 := xp30.thS tv8
    replace hv := xp30.thAllS hv
    replace hl := xp30.lst hl
    replace tp28 := xp30.thS tp28
    replace tp29 := xp30.thS tp29
    have EE34 := EE33.trans (xp30.epn EE33.pen)
    clear xp30 np30 EE33
    generalize upd Y33 p30 (.tup [.int 0, .int kk, .ref fa]) = Y34 at EE34 tfcs qfcs qfce tfce afcs todd tv2 tv3 tv8 hv hl tp28 tp29 tp30 ⊢
    refine ⟨.int kk, rfl, .ref fa, rfl, (by show 3 ≤ sizeLine; decide), fun p31 np31 => ?_⟩
    have xp31 := Ext.new (o := .tup [.int 9, .int kk, .ref fa]) EE34.tb np31
    have zp31 : H p31 = none := EE34.free np31
    have tp31 : ThF K (upd Y34 p31 (.tup [.int 9, .int kk, .ref fa])) (FS (fun _ => True) H (upd Y34 p31 (.tup [.int 9, .int kk, .ref fa]))) (.ref p31) (.tuple [.int 9, .int kk, .tuple (fss.map tD)]) := th_newS EE34.tb np31 (.cons (.int 9) (.cons (.int kk) (.cons tfcs .nil)))
    replace tfcs := xp31.thS tfcs
    replace qfcs := xp31.sqT qfcs
    replace qfce := xp31.sqT qfce
    replace tfce := xp31.thS tfce
    replace afcs := xp31.thAllS afcs
    replace todd := xp31.thS todd
    replace tv2 := xp31.thS tv2
    replace tv3 := xp31.thS tv3
    replace tv8 := xp31.thS tv8
    replace hv := xp31.thAllS hv
    replace hl := xp31.lst hl
    replace tp28 := xp31.thS tp28
    replace tp29 := xp31.thS tp29
    replace tp30 := xp31.thS tp30
    have EE35 := EE34.trans (xp31.epn EE34.pen)
    clear xp31 np31 EE34
    generalize upd Y34 p31 (.tup [.int 9, .int kk, .ref fa]) = Y35 at EE35 tfcs qfcs qfce tfce afcs todd tv2 tv3 tv8 hv hl tp28 tp29 tp30 tp31 ⊢
    have hw : ThAllF K Y35 (FS (fun _ => True) H Y35) [.ref p29, .ref p30, .ref p31] [.tuple [.int n, .int kk, .tuple []], .tuple [.int 0, .int kk, .tuple (fss.map tD)], .tuple [.int 9, .int kk, .tuple (fss.map tD)]] := (.cons tp29 (.cons tp30 (.cons tp31 .nil)))
    clear tp28 tp29 tp30 tp31
    refine ⟨(by show 3 ≤ sizeLine; decide), fun p32 np32 => ?_⟩
    have xp32 := Ext.new (o := .lst [.ref p29, .ref p30, .ref p31]) EE35.tb np32
    have zp32 : H p32 = none := EE35.free np32
    have hm : (upd Y35 p32 (.lst [.ref p29, .ref p30, .ref p31])) p32 = some (.lst [.ref p29, .ref p30, .ref p31]) := upd_same
    replace tfcs := xp32.thS tfcs
    replace qfcs := xp32.sqT qfcs
    replace qfce := xp32.sqT qfce
    replace tfce := xp32.thS tfce
    replace afcs := xp32.thAllS afcs
    replace todd := xp32.thS todd
    replace tv2 := xp32.thS tv2
    replace tv3 := xp32.thS tv3
    replace tv8 := xp32.thS tv8
    replace hv := xp32.thAllS hv
    replace hl := xp32.lst hl
    replace hw := xp32.thAllS hw
    have EE36 := EE35.trans (xp32.epn EE35.pen)
    clear xp32 np32 EE35
    generalize upd Y35 p32 (.lst [.ref p29, .ref p30, .ref p31]) = Y36 at EE36 tfcs qfcs qfce tfce afcs todd tv2 tv3 tv8 hv hl hw hm ⊢
    replace hv := thAll_app hv hw
    clear hw
    refine ⟨l2, p32, _, _, rfl, rfl, hl, hm, Nat.le_of_lt (small1000 (by show 5 + 3 ≤ 1000; decide)), fun l3 nl3 => ?_⟩
    have xl3 := Ext.new (o := .lst ([.ref p12, .ref p17, .ref p21, .ref p24, .ref p26] ++ [.ref p29, .ref p30, .ref p31])) EE36.tb nl3
    have zl3 : H l3 = none := EE36.free nl3
    have hl2 : (upd Y36 l3 (.lst ([.ref p12, .ref p17, .ref p21, .ref p24, .ref p26] ++ [.ref p29, .ref p30, .ref p31]))) l3 = some (.lst [.ref p12, .ref p17, .ref p21, .ref p24, .ref p26, .ref p29, .ref p30, .ref p31]) := upd_same
    replace tfcs := xl3.thS tfcs
    replace qfcs := xl3.sqT qfcs
    replace qfce := xl3.sqT qfce
    replace tfce := xl3.thS tfce
    replace afcs := xl3.thAllS afcs
    replace todd := xl3.thS todd
    replace tv2 := xl3.thS tv2
    replace tv3 := xl3.thS tv3
    replace tv8 := xl3.thS tv8
    replace hv := xl3.thAllS hv
    have EE37 := EE36.trans (xl3.epn EE36.pen)
    clear xl3 nl3 EE36
    generalize upd Y36 l3 (.lst ([.ref p12, .ref p17, .ref p21, .ref p24, .ref p26] ++ [.ref p29, .ref p30, .ref p31])) = Y37 at EE37 tfcs qfcs qfce tfce afcs todd tv2 tv3 tv8 hv hl2 ⊢
    have hl := hl2
    clear hl2
    replace hv : ThAllF K Y37 (FS (fun _ => True) H Y37) [.ref p12, .ref p17, .ref p21, .ref p24, .ref p26, .ref p29, .ref p30, .ref p31] [.tuple [.int n, .int kk, .tuple ((((fss.map tD).take j) ++ [.tuple (((iD u1) ++ [od]) ++ (iD u2))]) ++ ((fss.map tD).drop (j + 1)))], .tuple [.int n, .int kk, .tuple ((((fss.map tD).take j) ++ [.list (iD fc)]) ++ ((fss.map tD).drop (j + 1)))], .tuple [.int n, .int kk, .tuple ((((fss.map tD).take j) ++ [.tuple (iD fc), .tuple (iD fc)]) ++ ((fss.map tD).drop (j + 1)))], .tuple [.int n, .int kk, .tuple ((fss.map tD) ++ ((fss.map tD).take 1))], .tuple [.int n, .int kk, .list (fss.map tD)], .tuple [.int n, .int kk, .tuple []], .tuple [.int 0, .int kk, .tuple (fss.map tD)], .tuple [.int 9, .int kk, .tuple (fss.map tD)]] := hv
    show R [some (.ref a), some (.ref b), some (.int n), some (.int kk), some (.ref fa), some (.int (wy : Int)), some (.int (j : Int)), some (.int (o : Int)), some ov, some (.ref ft), some v2, some v3, some v8, some (.ref l3)] Y37
    rw [hR]
    clear hR
    refine tseq_intro fun R hR => ?_
    refine ⟨.ref l3, rfl, .int n, rfl, .ref fa, rfl, (by show 3 ≤ sizeLine; decide), fun p33 np33 => ?_⟩
    have xp33 := Ext.new (o := .tup [.int n, .int 5, .ref fa]) EE37.tb np33
    have zp33 : H p33 = none := EE37.free np33
    have tp33 : ThF K (upd Y37 p33 (.tup [.int n, .int 5, .ref fa])) (FS (fun _ => True) H (upd Y37 p33 (.tup [.int n, .int 5, .ref fa]))) (.ref p33) (.tuple [.int n, .int 5, .tuple (fss.map tD)]) := th_newS EE37.tb np33 (.cons (.int n) (.cons (.int 5) (.cons tfcs .nil)))
    replace tfcs := xp33.thS tfcs
    replace qfcs := xp33.sqT qfcs
    replace qfce := xp33.sqT qfce
    replace tfce := xp33.thS tfce
    replace afcs := xp33.thAllS afcs
    replace todd := xp33.thS todd
    replace tv2 := xp33.thS tv2
    replace tv3 := xp33.thS tv3
    replace tv8 := xp33.thS tv8
    replace hv := xp33.thAllS hv
    replace hl := xp33.lst hl
    have EE38 := EE37.trans (xp33.epn EE37.pen)
    clear xp33 np33 EE37
    generalize upd Y37 p33 (.tup [.int n, .int 5, .ref fa]) = Y38 at EE38 tfcs qfcs qfce tfce afcs todd tv2 tv3 tv8 hv hl tp33 ⊢
    refine ⟨.int n, rfl, .int kk, rfl, kk, 1, rfl, rfl, .ref fa, rfl, (by show 3 ≤ sizeLine; decide), fun p34 np34 => ?_⟩
    have xp34 := Ext.new (o := .tup [.int n, .int (kk + 1), .ref fa]) EE38.tb np34
    have zp34 : H p34 = none := EE38.free np34
    have tp34 : ThF K (upd Y38 p34 (.tup [.int n, .int (kk + 1), .ref fa])) (FS (fun _ => True) H (upd Y38 p34 (.tup [.int n, .int (kk + 1), .ref fa]))) (.ref p34) (.tuple [.int n, .int (kk + 1), .tuple (fss.map tD)]) := th_newS EE38.tb np34 (.cons (.int n) (.cons (.int (kk + 1)) (.cons tfcs .nil)))
    replace tfcs := xp34.thS tfcs
    replace qfcs := xp34.sqT qfcs
    replace qfce := xp34.sqT qfce
    replace tfce := xp34.thS tfce
    replace afcs := xp34.thAllS afcs
    replace todd := xp34.thS todd
    replace tv2 := xp34.thS tv2
    replace tv3 := xp34.thS tv3
    replace tv8 := xp34.thS tv8
    replace hv := xp34.thAllS hv
    replace hl := xp34.lst hl
    replace tp33 := xp34.thS tp33
    have EE39 := EE38.trans (xp34.epn EE38.pen)
    clear xp34 np34 EE38
    generalize upd Y38 p34 (.tup [.int n, .int (kk + 1), .ref fa]) = Y39 at EE39 tfcs qfcs qfce tfce afcs todd tv2 tv3 tv8 hv hl tp33 tp34 ⊢
    refine ⟨.int n, rfl, .int kk, rfl, kk, 1, rfl, rfl, .ref fa, rfl, (by show 3 ≤ sizeLine; decide), fun p35 np35 => ?_⟩
    have xp35 := Ext.new (o := .tup [.int n, .int (kk - 1), .ref fa]) EE39.tb np35
    have zp35 : H p35 = none := EE39.free np35
    have tp35 : ThF K (upd Y39 p35 (.tup [.int n, .int (kk - 1), .ref fa])) (FS (fun _ => True) H (upd Y39 p35 (.tup [.int n, .int (kk - 1), .ref fa]))) (.ref p35) (.tuple [.int n, .int (kk - 1), .tuple (fss.map tD)]) := th_newS EE39.tb np35 (.cons (.int n) (.cons (.int (kk - 1)) (.cons tfcs .nil)))
    replace tfcs := xp35.thS tfcs
    replace qfcs := xp35.sqT qfcs
    replace qfce := xp35.sqT qfce
    replace tfce := xp35.thS tfce
    replace afcs := xp35.thAllS afcs
    replace todd := xp35.thS todd
    replace tv2 := xp35.thS tv2
    replace tv3 := xp35.thS tv3
    replace tv8 := xp35.thS tv8
    replace hv := xp35.thAllS hv
    replace hl := xp35.lst hl
    replace tp33 := xp35.thS tp33
    replace tp34 := xp35.thS tp34
    have EE40 := EE39.trans (xp35.epn EE39.pen)
    clear xp35 np35 EE39
    generalize upd Y39 p35 (.tup [.int n, .int (kk - 1), .ref fa]) = Y40 at EE40 tfcs qfcs qfce tfce afcs todd tv2 tv3 tv8 hv hl tp33 tp34 tp35 ⊢
    refine ⟨.int kk, rfl, .ref fa, rfl, (by show 3 ≤ sizeLine; decide), fun p36 np36 => ?_⟩
    have xp36 := Ext.new (o := .tup [.bl true, .int kk, .ref fa]) EE40.tb np36
    have zp36 : H p36 = none := EE40.free np36
    have tp36 : ThF K (upd Y40 p36 (.tup [.bl true, .int kk, .ref fa])) (FS (fun _ => True) H (upd Y40 p36 (.tup [.bl true, .int kk, .ref fa]))) (.ref p36) (.tuple [.bool true, .int kk, .tuple (fss.map tD)]) := th_newS EE40.tb np36 (.cons (.bl true) (.cons (.int kk) (.cons tfcs .nil)))
    replace tfcs := xp36.thS tfcs
    replace qfcs := xp36.sqT qfcs
    replace qfce := xp36.sqT qfce
    replace tfce := xp36.thS tfce
    replace afcs := xp36.thAllS afcs
    replace todd := xp36.thS todd
    replace tv2 := xp36.thS tv2
    replace tv3 := xp36.thS tv3
    replace tv8 := xp36.thS tv8
    replace hv := xp36.thAllS hv
    replace hl := xp36.lst hl
    replace tp33 := xp36.thS tp33
    replace tp34 := xp36.thS tp34
    replace tp35 := xp36.thS tp35
    have EE41 := EE40.trans (xp36.epn EE40.pen)
    clear xp36 np36 EE40
    generalize upd Y40 p36 (.tup [.bl true, .int kk, .ref fa]) = Y41 at EE41 tfcs qfcs qfce tfce afcs todd tv2 tv3 tv8 hv hl tp33 tp34 tp35 tp36 ⊢
    refine ⟨.int n, rfl, .ref fa, rfl, (by show 3 ≤ sizeLine; decide), fun p37 np37 => ?_⟩
    have xp37 := Ext.new (o := .tup [.int n, .non, .ref fa]) EE41.tb np37
    have zp37 : H p37 = none := EE41.free np37
    have tp37 : ThF K (upd Y41 p37 (.tup [.int n, .non, .ref fa])) (FS (fun _ => True) H (upd Y41 p37 (.tup [.int n, .non, .ref fa]))) (.ref p37) (.tuple [.int n, .none, .tuple (fss.map tD)]) := th_newS EE41.tb np37 (.cons (.int n) (.cons .non (.cons tfcs .nil)))
    replace tfcs := xp37.thS tfcs
    replace qfcs := xp37.sqT qfcs
    replace qfce := xp37.sqT qfce
    replace tfce := xp37.thS tfce
    replace afcs := xp37.thAllS afcs
    replace todd := xp37.thS todd
    replace tv2 := xp37.thS tv2
    replace tv3 := xp37.thS tv3
    replace tv8 := xp37.thS tv8
    replace hv := xp37.thAllS hv
    replace hl := xp37.lst hl
    replace tp33 := xp37.thS tp33
    replace tp34 := xp37.thS tp34
    replace tp35 := xp37.thS tp35
    replace tp36 := xp37.thS tp36
    have EE42 := EE41.trans (xp37.epn EE41.pen)
    clear xp37 np37 EE41
    generalize upd Y41 p37 (.tup [.int n, .non, .ref fa]) = Y42 at EE42 tfcs qfcs qfce tfce afcs todd tv2 tv3 tv8 hv hl tp33 tp34 tp35 tp36 tp37 ⊢
    have hw : ThAllF K Y42 (FS (fun _ => True) H Y42) [.ref p33, .ref p34, .ref p35, .ref p36, .ref p37] [.tuple [.int n, .int 5, .tuple (fss.map tD)], .tuple [.int n, .int (kk + 1), .tuple (fss.map tD)], .tuple [.int n, .int (kk - 1), .tuple (fss.map tD)], .tuple [.bool true, .int kk, .tuple (fss.map tD)], .tuple [.int n, .none, .tuple (fss.map tD)]] := (.cons tp33 (.cons tp34 (.cons tp35 (.cons tp36 (.cons tp37 .nil)))))
    clear tp33 tp34 tp35 tp36 tp37
    refine ⟨(by show 5 ≤ sizeLine; decide), fun p38 np38 => ?_⟩
    have xp38 := Ext.new (o := .lst [.ref p33, .ref p34, .ref p35, .ref p36, .ref p37]) EE42.tb np38
    have zp38 : H p38 = none := EE42.free np38
    have hm : (upd Y42 p38 (.lst [.ref p33, .ref p34, .ref p35, .ref p36, .ref p37])) p38 = some (.lst [.ref p33, .ref p34, .ref p35, .ref p36, .ref p37]) := upd_same
    replace tfcs := xp38.thS tfcs
    replace qfcs := xp38.sqT qfcs
    replace qfce := xp38.sqT qfce
    replace tfce := xp38.thS tfce
    replace afcs := xp38.thAllS afcs
    replace todd := xp38.thS todd
    replace tv2 := xp38.thS tv2
    replace tv3 := xp38.thS tv3
    replace tv8 := xp38.thS tv8
    replace hv := xp38.thAllS hv
    replace hl := xp38.lst hl
    replace hw := xp38.thAllS hw
    have EE43 := EE42.trans (xp38.epn EE42.pen)
    clear xp38 np38 EE42
    generalize upd Y42 p38 (.lst [.ref p33, .ref p34, .ref p35, .ref p36, .ref p37]) = Y43 at EE43 tfcs qfcs qfce tfce afcs todd tv2 tv3 tv8 hv hl hw hm ⊢
    replace hv := thAll_app hv hw
    clear hw
    refine ⟨l3, p38, _, _, rfl, rfl, hl, hm, Nat.le_of_lt (small1000 (by show 8 + 5 ≤ 1000; decide)), fun l4 nl4 => ?_⟩
    have xl4 := Ext.new (o := .lst ([.ref p12, .ref p17, .ref p21, .ref p24, .ref p26, .ref p29, .ref p30, .ref p31] ++ [.ref p33, .ref p34, .ref p35, .ref p36, .ref p37])) EE43.tb nl4
    have zl4 : H l4 = none := EE43.free nl4
    have hl2 : (upd Y43 l4 (.lst ([.ref p12, .ref p17, .ref p21, .ref p24, .ref p26, .ref p29, .ref p30, .ref p31] ++ [.ref p33, .ref p34, .ref p35, .ref p36, .ref p37]))) l4 = some (.lst [.ref p12, .ref p17, .ref p21, .ref p24, .ref p26, .ref p29, .ref p30, .ref p31, .ref p33, .ref p34, .ref p35, .ref p36, .ref p37]) := upd_same
    replace tfcs := xl4.thS tfcs
    replace qfcs := xl4.sqT qfcs
    replace qfce := xl4.sqT qfce
    replace tfce := xl4.thS tfce
    replace afcs := xl4.thAllS afcs
    replace todd := xl4.thS todd
    replace tv2 := xl4.thS tv2
    replace tv3 := xl4.thS tv3
    replace tv8 := xl4.thS tv8
    replace hv := xl4.thAllS hv
    have EE44 := EE43.trans (xl4.epn EE43.pen)
    clear xl4 nl4 EE43
    generalize upd Y43 l4 (.lst ([.ref p12, .ref p17, .ref p21, .ref p24, .ref p26, .ref p29, .ref p30, .ref p31] ++ [.ref p33, .ref p34, .ref p35, .ref p36, .ref p37])) = Y44 at EE44 tfcs qfcs qfce tfce afcs todd tv2 tv3 tv8 hv hl2 ⊢
    have hl := hl2
    clear hl2
    replace hv : ThAllF K Y44 (FS (fun _ => True) H Y44) [.ref p12, .ref p17, .ref p21, .ref p24, .ref p26, .ref p29, .ref p30, .ref p31, .ref p33, .ref p34, .ref p35, .ref p36, .ref p37] [.tuple [.int n, .int kk, .tuple ((((fss.map tD).take j) ++ [.tuple (((iD u1) ++ [od]) ++ (iD u2))]) ++ ((fss.map tD).drop (j + 1)))], .tuple [.int n, .int kk, .tuple ((((fss.map tD).take j) ++ [.list (iD fc)]) ++ ((fss.map tD).drop (j + 1)))], .tuple [.int n, .int kk, .tuple ((((fss.map tD).take j) ++ [.tuple (iD fc), .tuple (iD fc)]) ++ ((fss.map tD).drop (j + 1)))], .tuple [.int n, .int kk, .tuple ((fss.map tD) ++ ((fss.map tD).take 1))], .tuple [.int n, .int kk, .list (fss.map tD)], .tuple [.int n, .int kk, .tuple []], .tuple [.int 0, .int kk, .tuple (fss.map tD)], .tuple [.int 9, .int kk, .tuple (fss.map tD)], .tuple [.int n, .int 5, .tuple (fss.map tD)], .tuple [.int n, .int (kk + 1), .tuple (fss.map tD)], .tuple [.int n, .int (kk - 1), .tuple (fss.map tD)], .tuple [.bool true, .int kk, .tuple (fss.map tD)], .tuple [.int n, .none, .tuple (fss.map tD)]] := hv
    show R [some (.ref a), some (.ref b), some (.int n), some (.int kk), some (.ref fa), some (.int (wy : Int)), some (.int (j : Int)), some (.int (o : Int)), some ov, some (.ref ft), some v2, some v3, some v8, some (.ref l4)] Y44
    rw [hR]
    clear hR
    refine ⟨.ref l4, rfl, .int n, rfl, .int kk, rfl, .ref fa, rfl, (by show 3 ≤ sizeLine; decide), fun p39 np39 => ?_⟩
    have xp39 := Ext.new (o := .lst [.int n, .int kk, .ref fa]) EE44.tb np39
    have zp39 : H p39 = none := EE44.free np39
    have tp39 : ThF K (upd Y44 p39 (.lst [.int n, .int kk, .ref fa])) (FS (fun _ => True) H (upd Y44 p39 (.lst [.int n, .int kk, .ref fa]))) (.ref p39) (.list [.int n, .int kk, .tuple (fss.map tD)]) := th_newLS EE44.tb np39 zp39 trivial (.cons (.int n) (.cons (.int kk) (.cons tfcs .nil)))
    replace tfcs := xp39.thS tfcs
    replace qfcs := xp39.sqT qfcs
    replace qfce := xp39.sqT qfce
    replace tfce := xp39.thS tfce
    replace afcs := xp39.thAllS afcs
    replace todd := xp39.thS todd
    replace tv2 := xp39.thS tv2
    replace tv3 := xp39.thS tv3
    replace tv8 := xp39.thS tv8
    replace hv := xp39.thAllS hv
    replace hl := xp39.lst hl
    have EE45 := EE44.trans (xp39.epn EE44.pen)
    clear xp39 np39 EE44
    generalize upd Y44 p39 (.lst [.int n, .int kk, .ref fa]) = Y45 at EE45 tfcs qfcs qfce tfce afcs todd tv2 tv3 tv8 hv hl tp39 ⊢
    refine ⟨.int n, rfl, .int kk, rfl, (by show 2 ≤ sizeLine; decide), fun p40 np40 => ?_⟩
    have xp40 := Ext.new (o := .tup [.int n, .int kk]) EE45.tb np40
    have zp40 : H p40 = none := EE45.free np40
    have tp40 : ThF K (upd Y45 p40 (.tup [.int n, .int kk])) (FS (fun _ => True) H (upd Y45 p40 (.tup [.int n, .int kk]))) (.ref p40) (.tuple [.int n, .int kk]) := th_newS EE45.tb np40 (.cons (.int n) (.cons (.int kk) .nil))
    replace tfcs := xp40.thS tfcs
    replace qfcs := xp40.sqT qfcs
    replace qfce := xp40.sqT qfce
    replace tfce := xp40.thS tfce
    replace afcs := xp40.thAllS afcs
    replace todd := xp40.thS todd
    replace tv2 := xp40.thS tv2
    replace tv3 := xp40.thS tv3
    replace tv8 := xp40.thS tv8
    replace hv := xp40.thAllS hv
    replace hl := xp40.lst hl
    replace tp39 := xp40.thS tp39
    have EE46 := EE45.trans (xp40.epn EE45.pen)
    clear xp40 np40 EE45
    generalize upd Y45 p40 (.tup [.int n, .int kk]) = Y46 at EE46 tfcs qfcs qfce tfce afcs todd tv2 tv3 tv8 hv hl tp39 tp40 ⊢
    refine ⟨.int n, rfl, .int kk, rfl, .ref fa, rfl, (by show 4 ≤ sizeLine; decide), fun p41 np41 => ?_⟩
    have xp41 := Ext.new (o := .tup [.int n, .int kk, .ref fa, .int 0]) EE46.tb np41
    have zp41 : H p41 = none := EE46.free np41
    have tp41 : ThF K (upd Y46 p41 (.tup [.int n, .int kk, .ref fa, .int 0])) (FS (fun _ => True) H (upd Y46 p41 (.tup [.int n, .int kk, .ref fa, .int 0]))) (.ref p41) (.tuple [.int n, .int kk, .tuple (fss.map tD), .int 0]) := th_newS EE46.tb np41 (.cons (.int n) (.cons (.int kk) (.cons tfcs (.cons (.int 0) .nil))))
    replace tfcs := xp41.thS tfcs
    replace qfcs := xp41.sqT qfcs
    replace qfce := xp41.sqT qfce
    replace tfce := xp41.thS tfce
    replace afcs := xp41.thAllS afcs
    replace todd := xp41.thS todd
    replace tv2 := xp41.thS tv2
    replace tv3 := xp41.thS tv3
    replace tv8 := xp41.thS tv8
    replace hv := xp41.thAllS hv
    replace hl := xp41.lst hl
    replace tp39 := xp41.thS tp39
    replace tp40 := xp41.thS tp40
    have EE47 := EE46.trans (xp41.epn EE46.pen)
    clear xp41 np41 EE46
    generalize upd Y46 p41 (.tup [.int n, .int kk, .ref fa, .int 0]) = Y47 at EE47 tfcs qfcs qfce tfce afcs todd tv2 tv3 tv8 hv hl tp39 tp40 tp41 ⊢
    refine fun p42 np42 => ?_
    have xp42 := Ext.new (o := .dK []) EE47.tb np42
    have zp42 : H p42 = none := EE47.free np42
    have tp42 : ThF K (upd Y47 p42 (.dK [])) (FS (fun _ => True) H (upd Y47 p42 (.dK []))) (.ref p42) (.dict []) := th_newDS zp42 trivial
    replace tfcs := xp42.thS tfcs
    replace qfcs := xp42.sqT qfcs
    replace qfce := xp42.sqT qfce
    replace tfce := xp42.thS tfce
    replace afcs := xp42.thAllS afcs
    replace todd := xp42.thS todd
    replace tv2 := xp42.thS tv2
    replace tv3 := xp42.thS tv3
    replace tv8 := xp42.thS tv8
    replace hv := xp42.thAllS hv
    replace hl := xp42.lst hl
    replace tp39 := xp42.thS tp39
    replace tp40 := xp42.thS tp40
    replace tp41 := xp42.thS tp41
    have EE48 := EE47.trans (xp42.epn EE47.pen)
    clear xp42 np42 EE47
    generalize upd Y47 p42 (.dK []) = Y48 at EE48 tfcs qfcs qfce tfce afcs todd tv2 tv3 tv8 hv hl tp39 tp40 tp41 tp42 ⊢
    have hw : ThAllF K Y48 (FS (fun _ => True) H Y48) [.ref p39, .ref p40, .non, .ref p41, .int 7, .str "3 2: 01 02 12", .ref p42] [.list [.int n, .int kk, .tuple (fss.map tD)], .tuple [.int n, .int kk], .none, .tuple [.int n, .int kk, .tuple (fss.map tD), .int 0], .int 7, .str "3 2: 01 02 12", .dict []] := (.cons tp39 (.cons tp40 (.cons .non (.cons tp41 (.cons (.int 7) (.cons (.str "3 2: 01 02 12") (.cons tp42 .nil)))))))
    clear tp39 tp40 tp41 tp42
    refine ⟨(by show 7 ≤ sizeLine; decide), fun p43 np43 => ?_⟩
    have xp43 := Ext.new (o := .lst [.ref p39, .ref p40, .non, .ref p41, .int 7, .str "3 2: 01 02 12", .ref p42]) EE48.tb np43
    have zp43 : H p43 = none := EE48.free np43
    have hm : (upd Y48 p43 (.lst [.ref p39, .ref p40, .non, .ref p41, .int 7, .str "3 2: 01 02 12", .ref p42])) p43 = some (.lst [.ref p39, .ref p40, .non, .ref p41, .int 7, .str "3 2: 01 02 12", .ref p42]) := upd_same
    replace tfcs := xp43.thS tfcs
    replace qfcs := xp43.sqT qfcs
    replace qfce := xp43.sqT qfce
    replace tfce := xp43.thS tfce
    replace afcs := xp43.thAllS afcs
    replace todd := xp43.thS todd
    replace tv2 := xp43.thS tv2
    replace tv3 := xp43.thS tv3
    replace tv8 := xp43.thS tv8
    replace hv := xp43.thAllS hv
    replace hl := xp43.lst hl
    replace hw := xp43.thAllS hw
    have EE49 := EE48.trans (xp43.epn EE48.pen)
    clear xp43 np43 EE48
    generalize upd Y48 p43 (.lst [.ref p39, .ref p40, .non, .ref p41, .int 7, .str "3 2: 01 02 12", .ref p42]) = Y49 at EE49 tfcs qfcs qfce tfce afcs todd tv2 tv3 tv8 hv hl hw hm ⊢
    replace hv := thAll_app hv hw
    clear hw
    refine ⟨l4, p43, _, _, rfl, rfl, hl, hm, Nat.le_of_lt (small1000 (by show 13 + 7 ≤ 1000; decide)), fun l5 nl5 => ?_⟩
    have xl5 := Ext.new (o := .lst ([.ref p12, .ref p17, .ref p21, .ref p24, .ref p26, .ref p29, .ref p30, .ref p31, .ref p33, .ref p34, .ref p35, .ref p36, .ref p37] ++ [.ref p39, .ref p40, .non, .ref p41, .int 7, .str "3 2: 01 02 12", .ref p42])) EE49.tb nl5
    have zl5 : H l5 = none := EE49.free nl5
    have hl2 : (upd Y49 l5 (.lst ([.ref p12, .ref p17, .ref p21, .ref p24, .ref p26, .ref p29, .ref p30, .ref p31, .ref p33, .ref p34, .ref p35, .ref p36, .ref p37] ++ [.ref p39, .ref p40, .non, .ref p41, .int 7, .str "3 2: 01 02 12", .ref p42]))) l5 = some (.lst [.ref p12, .ref p17, .ref p21, .ref p24, .ref p26, .ref p29, .ref p30, .ref p31, .ref p33, .ref p34, .ref p35, .ref p36, .ref p37, .ref p39, .ref p40, .non, .ref p41, .int 7, .str "3 2: 01 02 12", .ref p42]) := upd_same
    replace tfcs := xl5.thS tfcs
    replace qfcs := xl5.sqT qfcs
    replace qfce := xl5.sqT qfce
    replace tfce := xl5.thS tfce
    replace afcs := xl5.thAllS afcs
    replace todd := xl5.thS todd
    replace tv2 := xl5.thS tv2
    replace tv3 := xl5.thS tv3
    replace tv8 := xl5.thS tv8
    replace hv := xl5.thAllS hv
    have EE50 := EE49.trans (xl5.epn EE49.pen)
    clear xl5 nl5 EE49
    generalize upd Y49 l5 (.lst ([.ref p12, .ref p17, .ref p21, .ref p24, .ref p26, .ref p29, .ref p30, .ref p31, .ref p33, .ref p34, .ref p35, .ref p36, .ref p37] ++ [.ref p39, .ref p40, .non, .ref p41, .int 7, .str "3 2: 01 02 12", .ref p42])) = Y50 at EE50 tfcs qfcs qfce tfce afcs todd tv2 tv3 tv8 hv hl2 ⊢
    have hl := hl2
    clear hl2
    replace hv : ThAllF K Y50 (FS (fun _ => True) H Y50) [.ref p12, .ref p17, .ref p21, .ref p24, .ref p26, .ref p29, .ref p30, .ref p31, .ref p33, .ref p34, .ref p35, .ref p36, .ref p37, .ref p39, .ref p40, .non, .ref p41, .int 7, .str "3 2: 01 02 12", .ref p42] [.tuple [.int n, .int kk, .tuple ((((fss.map tD).take j) ++ [.tuple (((iD u1) ++ [od]) ++ (iD u2))]) ++ ((fss.map tD).drop (j + 1)))], .tuple [.int n, .int kk, .tuple ((((fss.map tD).take j) ++ [.list (iD fc)]) ++ ((fss.map tD).drop (j + 1)))], .tuple [.int n, .int kk, .tuple ((((fss.map tD).take j) ++ [.tuple (iD fc), .tuple (iD fc)]) ++ ((fss.map tD).drop (j + 1)))], .tuple [.int n, .int kk, .tuple ((fss.map tD) ++ ((fss.map tD).take 1))], .tuple [.int n, .int kk, .list (fss.map tD)], .tuple [.int n, .int kk, .tuple []], .tuple [.int 0, .int kk, .tuple (fss.map tD)], .tuple [.int 9, .int kk, .tuple (fss.map tD)], .tuple [.int n, .int 5, .tuple (fss.map tD)], .tuple [.int n, .int (kk + 1), .tuple (fss.map tD)], .tuple [.int n, .int (kk - 1), .tuple (fss.map tD)], .tuple [.bool true, .int kk, .tuple (fss.map tD)], .tuple [.int n, .none, .tuple (fss.map tD)], .list [.int n, .int kk, .tuple (fss.map tD)], .tuple [.int n, .int kk], .none, .tuple [.int n, .int kk, .tuple (fss.map tD), .int 0], .int 7, .str "3 2: 01 02 12", .dict []] := hv
    have hi : wy < 20 := by omega
    have hiv : wy < ([.ref p12, .ref p17, .ref p21, .ref p24, .ref p26, .ref p29, .ref p30, .ref p31, .ref p33, .ref p34, .ref p35, .ref p36, .ref p37, .ref p39, .ref p40, .non, .ref p41, .int 7, .str "3 2: 01 02 12", .ref p42] : List V).length := hi
    obtain ⟨d, hd, hT⟩ := thAll_get hv (List.getElem?_eq_getElem hiv)
    obtain ⟨b1, b2⟩ := badNs_ok (u1 := u1) (u2 := u2) (od := od) S hfc (by omega) (by omega) hodb.1 hodb.2 d (List.mem_of_getElem? hd)
    exact ⟨.int (wy : Int), rfl, l5, _, (wy : Int), _, rfl, rfl, .inl (.inl hl), atI_nat (List.getElem?_eq_getElem hiv), q _ d _ EE50 (hT.imp fun b hb => hb.1) b2 b1⟩
end
end Lf

set_option maxHeartbeats 1000000
/-! for i, x in enumerate(t), t a tuple. -/
namespace EnT
open PySem PySem.Spec PyProof.Rows L2
theorem new_enum {v : Value} {o : Obj} {Hh : Heap → Prop} (B : Begins v o Hh) :
    Meets (Builtin.«enumerate.__new__» ⟨[.type "enumerate", v], []⟩) (fun _ R s => Hh s.heap ∧
      R (.ok (.ret (.ref (s.heap.push o).objs.size))) { s with heap := (s.heap.push o).push { cls := .type "enumerate", data := .fields #[.none, .bool false, .ref s.heap.objs.size, rawInt 0, .none, .none] } }) :=
  .of_wp fun prog w A R s h => by
    obtain ⟨hp, g, d, tk, os⟩ := s
    obtain ⟨h1, h⟩ := h
    have hs := sub_enumerate
    have it1 : ∀ {A' : Around} {E : Value → Shared → Prop} {Q : Value → Shared → Prop}, Q (.ref hp.objs.size) ⟨hp.push o, g, d, tk, os⟩ → wpAny (model prog w) A' (pyIter v) Q E ⟨hp, g, d, tk, os⟩ :=
      fun q => B.iter prog w _ _ ⟨hp, g, d, tk, os⟩ _ h1 q
    wp_walk using it1
    refine wpAny_stack_any fun st => wpAny_pure ?_
    split
    · rename_i cc _ _ _ _ _
      cases (cc == Value.type "enumerate")
      · wp_walk using it1
        exact ⟨_, rfl, h⟩
      · wp_walk using it1
        exact ⟨_, rfl, h⟩
    · wp_walk using it1
      exact ⟨_, rfl, h⟩
section
variable {prog : Program} {w : World} {A : Around} {E : Value → Shared → Prop} {s : Shared}
theorem call_enumT {t : Addr} {items : Array Value} {Q : Value → Shared → Prop} (ht : s.heap.IsTuple t items)
    (h : ∀ h', IsEnum h' (s.heap.objs.size + 1) s.heap.objs.size 0 .none → h'.IsTupleIter s.heap.objs.size t 0 → (∀ b o, s.heap.get? b = some o → h'.get? b = some o) → Q (.ref (s.heap.objs.size + 1)) { s with heap := h' }) :
    wpAny (model prog w) A (call (.type "enumerate") [.ref t]) Q E s := by
  refine callType_new F.called_enumerate (by decide) (F.typeCall_enumerate_1 _) (F.newCall_enumerate_1 _) (fun obj => F.args_object_init_2 obj _) F.entry_enumerate_new (new_enum (begins_tuple t items)) ⟨ht, ?_⟩
  have z1 : (s.heap.push { cls := .type "tuple_iterator", data := .fields #[.ref t, .int 0 0] }).objs.size = s.heap.objs.size + 1 := Heap.size_push ..
  show _ ∧ _
  rw [z1]
  have he : IsEnum ((s.heap.push { cls := .type "tuple_iterator", data := .fields #[.ref t, .int 0 0] }).push { cls := .type "enumerate", data := .fields #[.none, .bool false, .ref s.heap.objs.size, rawInt 0, .none, .none] }) (s.heap.objs.size + 1) s.heap.objs.size 0 .none := by
    have q := Heap.get?_push_size (s.heap.push { cls := .type "tuple_iterator", data := .fields #[.ref t, .int 0 0] }) (o := { cls := .type "enumerate", data := .fields #[.none, .bool false, .ref s.heap.objs.size, rawInt 0, .none, .none] }) rfl
    rw [z1] at q
    exact q
  exact ⟨⟨_, he, rfl⟩, h _ he ⟨_, Heap.get?_push_of_some _ (Heap.get?_push_size _ rfl), rfl, rfl⟩ fun b o x => Heap.get?_push_of_some _ (Heap.get?_push_of_some _ x)⟩
end
/-- the tuple at a: the index and the item in a new pair -/
def ItT (K : PySem.W.Frag) (a : Addr) : It :=
  ⟨fun i H => ∃ (xs : List V) (x : V), SqT K H a xs ∧ xs[i]? = some x, fun i H v H' => ∃ T x, v = .ref T ∧ H T = none ∧ H' = upd H T (.tup [.int (i : Nat), x]) ∧ ∀ xs, SqT K H a xs → xs[i]? = some x, fun i H => ∃ xs : List V, SqT K H a xs ∧ xs.length = i⟩
theorem turn_enumT {P : Program} {w : World} {K : PySem.W.Frag} {elts : List Expr} {kk : Nat} {tpos : Pos} (a e it : Addr) (hae : a ≠ e) (hai : a ≠ it) :
    Turn P w K (.Tuple elts kk tpos) (ItT K a) [e, it] e (fun i h => (∃ old, IsEnum h e it ((i : Nat) : Int) old) ∧ h.IsTupleIter it a i ∧ e ≠ it) where
  mem := by simp
  obj := fun i h st b hb => by
    obtain ⟨⟨old, he⟩, ⟨o, ho, hc, hd⟩, _⟩ := st
    have e' : b = e ∨ b = it := by simpa using hb
    rcases e' with z | z
    · rw [z]
      exact ⟨_, he, fun v q => nomatch q⟩
    · rw [z]
      exact ⟨o, ho, fun v q => by rw [hd] at q; cases q⟩
  keep := fun i h h' st k => let ⟨⟨old, he⟩, hi, hne⟩ := st; ⟨⟨old, k e (by simp) _ he⟩, hi.at fun o q => k it (by simp) o q, hne⟩
  item := by
    intro X hP hw hK hc i pins s σ H E I hf st hg
    subst hP hw hK
    obtain ⟨⟨old, he⟩, hit, hne⟩ := st
    obtain ⟨xs, x, hq, hx⟩ := hg
    obtain ⟨its, rv, p, hz⟩ := I.tuple hq
    obtain ⟨u, hu, ru⟩ := rv.get hx
    have hel : e < s.heap.objs.size := Heap.lt_size he
    have hil : it < s.heap.objs.size := by
      obtain ⟨_, q, _⟩ := hit
      exact Heap.lt_size q
    have hT0 : s.heap.IsTuple a its.toArray := p
    have hlen : i < its.toArray.size := by
      have := (List.getElem?_eq_some_iff.mp hu).1
      simpa using this
    have DD := Draws.tuple (prog := X.prog) (w := X.w) (A := X.A.in1) (I.ok.hd hc) it a hai its.toArray
    refine wpAny_pyNext_enum_itemD DD he ⟨hit, hT0⟩ hlen hne (by simp [hne, Ne.symm hae]) fun x' h' tk hPx ho hit' hT hsz hk => ?_
    have ex : x' = u := by
      have h1 : its.toArray[i]? = some x' := hPx
      have h2 : its.toArray[i]? = some u := by simpa using hu
      rw [h1] at h2
      exact Option.some.inj h2
    subst ex
    refine ⟨_, rfl, wpAny_letOwnedTupleGo_enum (s := { s with heap := h', toks := tk + 1 }) ho fun h'' he' sb => ?_⟩
    have hT2 : h''.get? s.heap.objs.size = some { cls := .type "tuple", data := .seq #[.int i tk, x'] } := (sb.2 _ (Nat.ne_of_gt hel)).trans hT
    have new : ObjOk X.prog X.w (upd H s.heap.objs.size (.tup [.int (i : Nat), x])) h'' s.heap.objs.size (.tup [.int (i : Nat), x]) :=
      ⟨by show 2 ≤ sizeLine; decide, [.int i tk, x'], .cons ⟨_, rfl⟩ (.cons ru .nil), ⟨_, hT2, rfl, _, rfl⟩⟩
    have I1 : Inv X pins σ (upd H s.heap.objs.size (.tup [.int (i : Nat), x])) { s with heap := h'', toks := tk + 1 } :=
      I.turnedNew (ch := [e, it]) (fun b ob hb q => (sb.2 b (fun z => hb (by simp [z]))).trans (hk b ob (fun z => hb (by simp [z])) (fun z => hb (by simp [z])) q)) hf (Nat.le_refl _) new
    refine ⟨.ref s.heap.objs.size, _, I1, rfl, ⟨_, x, rfl, I.hok.fresh (Nat.le_refl _), rfl, fun ys hy => by rw [I.tuple_inj hy hq]; exact hx⟩, ⟨⟨x', ?_⟩, hit'.1.at fun o q => (sb.2 it (Ne.symm hne)).trans q, hne⟩, fun b hb => ?_⟩
    · have e1 : ((i + 1 : Nat) : Int) = (i : Int) + 1 := by omega
      rw [e1]
      exact he'
    · have hb' : b < s.heap.objs.size := by
        have e' : b = e ∨ b = it := by simpa using hb
        rcases e' with z | z
        · rw [z]
          exact hel
        · rw [z]
          exact hil
      rw [upd_ne (Nat.ne_of_lt hb')]
      exact (hf b hb).1
  done := by
    intro X hP hw hK hc i pins s σ H E I hf st hg
    subst hP hw hK
    obtain ⟨⟨old, he⟩, hit, hne⟩ := st
    obtain ⟨xs, hq, hx⟩ := hg
    obtain ⟨its, rv, p, hz⟩ := I.tuple hq
    obtain ⟨f0, f1, f2, f3, f4, f5⟩ := hf it (by simp)
    have hl := rv.length
    have hT0 : s.heap.IsTuple a its.toArray := p
    have DD := Draws.tuple (prog := X.prog) (w := X.w) (A := X.A.in1) (I.ok.hd hc) it a hai its.toArray
    have en : its.toArray.size = i := by
      rw [List.size_toArray]
      omega
    refine wpAny_pyNext_enum_endD DD he ⟨by rw [en]; exact hit, hT0⟩ fun h' eb => ⟨rfl, I.turned (t' := s.toks) (fun b o hb q => eb b o hb q) f0 f1 f3 f4 f5⟩
  self := fun A i s Q E st h => let ⟨⟨_, he⟩, _⟩ := st; wpAny_pyIter_enum he h
def iEnT (K : PySem.W.Frag) (ta : TA) : TI := fun σ H R => ta σ H fun vs H1 => ∃ a xs, vs = [.ref a] ∧ SqT K H1 a xs ∧ R (ItT K a) H1
theorem pi_enumT {X : Cx} {e : Expr} {ta : TA} {p pos tpos : Pos} {elts : List Expr} {kk : Nat} (hg : Gl X "enumerate") (hm : X.mg "enumerate" = none) (ha : PA X [e] ta) (hs : starEach [e] X.env = [(false, eval e X.env)] := by rfl) :
    PI X (.Tuple elts kk tpos) (.Call (.Name "enumerate" p) [e] [] pos) (iEnT X.K ta) := by
  refine ⟨fun pins s σ H R I h => ?_⟩
  refine Call_ (ld_blt I hg hm boot_enumerate (PyProof.Rows.callWith_type1 (thn (ha.run pos pins s σ H _ I h) fun us s1 ⟨vs, H1, I1, r1, q1⟩ => ?_) hs rfl))
  obtain ⟨a, xs, ex, hq, q⟩ := q1
  subst ex
  cases r1 with
  | cons r rr =>
    cases rr
    cases r
    obtain ⟨its, rv, p', hz⟩ := I1.tuple hq
    have hT0 : s1.heap.IsTuple a its.toArray := p'
    have hal : a < s1.heap.objs.size := by
      obtain ⟨o, ho, _⟩ := hT0
      exact Heap.lt_size ho
    refine call_enumT hT0 fun h' he hit hk => wpAny_pyIter_enum he ?_
    have I2 : Inv X pins σ H1 { s1 with heap := h' } := I1.kept (t' := s1.toks) hk
    refine ⟨s1.heap.objs.size + 1, [s1.heap.objs.size + 1, s1.heap.objs.size], _, _, H1, rfl, I2, turn_enumT a (s1.heap.objs.size + 1) s1.heap.objs.size (Nat.ne_of_lt (Nat.lt_succ_of_lt hal)) (Nat.ne_of_lt hal), ⟨⟨.none, he⟩, hit, Nat.succ_ne_self _⟩, fun b hb => ?_, q⟩
    have e' : b = s1.heap.objs.size + 1 ∨ b = s1.heap.objs.size := by simpa using hb
    have hle : s1.heap.objs.size ≤ b := by
      rcases e' with z | z
      · rw [z]
        exact Nat.le_add_right _ _
      · rw [z]
        exact Nat.le_refl _
    exact I1.fpOk hle (I1.hok.fresh hle)
end EnT

set_option maxHeartbeats 2000000
namespace Lf
open PySem PySem.Spec PyProof.Rows L2 GxR GxA SrT EnT
abbrev sIsRow : Stmt := topS 36
abbrev sWrong : Stmt := topS 37
abbrev sIsOrder : Stmt := topS 38
abbrev sNeedOrder : Stmt := topS 39
abbrev sEach : Stmt := topS 21
theorem scEach : FnScope ["thing", "many"] ["thing", "many"] (defScope sEach) := ⟨rfl, rfl, rfl, by decide +kernel, rfl, by decide +kernel, by decide +kernel⟩
theorem scIsRow : FnScope ["stack", "thing"] ["stack", "thing"] (defScope sIsRow) := ⟨rfl, rfl, rfl, by decide +kernel, rfl, by decide +kernel, by decide +kernel⟩
theorem scWrong : FnScope ["stack", "row", "laid", "place", "face"] ["stack", "row"] (defScope sWrong) := ⟨rfl, rfl, rfl, by decide +kernel, rfl, by decide +kernel, by decide +kernel⟩
theorem scIsOrder : FnScope ["stack", "thing"] ["stack", "thing"] (defScope sIsOrder) := ⟨rfl, rfl, rfl, by decide +kernel, rfl, by decide +kernel, by decide +kernel⟩
theorem scNeedOrder : FnScope ["stack", "order"] ["stack", "order"] (defScope sNeedOrder) := ⟨rfl, rfl, rfl, by decide +kernel, rfl, by decide +kernel, by decide +kernel⟩
/-- for i, x in enumerate(a list that stands still) -/
theorem for_enL {K : PySem.W.Frag} {a : Addr} {xs : List V} {g : TG} {tb : TS} {D : Ends} {σ : L2.St} {H : Hp} (Pv : Nat → L2.St → Hp → Prop) (h0 : Pv 0 σ H) (hl : ∀ i σ H, Pv i σ H → SqL K H a xs)
    (hs : ∀ i x σ H T, xs[i]? = some x → Pv i σ H → H T = none → g (.ref T) σ (upd H T (.tup [.int (i : Nat), x])) fun σ2 H2 => tb { D with nx := Pv (i + 1), ct := Pv (i + 1), bk := D.nx } σ2 H2) (hd : ∀ σ H, Pv xs.length σ H → D.nx σ H) :
    ∃ W : Nat → Nat → L2.St → Hp → Prop, (∃ m, W 0 m σ H) ∧ ∀ i m σ H, W i m σ H →
      ((Ite K a).stop i H ∧ D.nx σ H) ∨ ((Ite K a).go i H ∧ ∃ N : L2.St → Hp → Prop, (∀ σ' H', N σ' H' → ∃ m', m' < m ∧ W (i + 1) m' σ' H') ∧ ∀ x H', (Ite K a).yld i H x H' → g x σ H' fun σ2 H2 => tb { D with nx := N, ct := N, bk := D.nx } σ2 H2) := by
  refine ⟨fun i m σ H => m = xs.length - i ∧ i ≤ xs.length ∧ Pv i σ H, ⟨xs.length, by simp, Nat.zero_le _, h0⟩, ?_⟩
  rintro i m σ H ⟨rfl, hi, p⟩
  have q := hl i σ H p
  by_cases hlt : i < xs.length
  · refine .inr ⟨⟨xs, xs[i], q, List.getElem?_eq_getElem hlt⟩, Pv (i + 1), fun σ' H' p' => ⟨xs.length - (i + 1), by omega, rfl, hlt, p'⟩, fun x H' y => ?_⟩
    obtain ⟨T, z, rfl, hT, rfl, hz⟩ := y
    exact hs i z σ H T (hz xs q) p hT
  · have e : i = xs.length := by omega
    subst e
    exact .inl ⟨⟨xs, q, Nat.le_refl _⟩, hd σ H p⟩
/-- [.. for i, x in enumerate(a list that stands still)] -/
theorem lc_enL {K : PySem.W.Frag} {a : Addr} {xs : List V} {g : TG} {tt : TT} {te : TE} {vs : List Nat} {σ : L2.St} {H1 : Hp} {D : Addr} {Qd : Hp → Prop} (Pv : Nat → Hp → Prop) (h0 : Pv 0 (upd H1 D (.lst []))) (hl : ∀ i H, Pv i H → SqL K H a xs)
    (hs : ∀ i x H T, xs[i]? = some x → Pv i H → H T = none → g (.ref T) (wipe σ vs) (upd H T (.tup [.int (i : Nat), x])) fun σ2 H2 => wipe σ2 vs = wipe σ vs ∧ tt σ2 H2 fun b H3 =>
      if b = true then te σ2 H3 fun y H4 => ∃ acc, H4 D = some (.lst acc) ∧ acc.length < sizeLine ∧ Pv (i + 1) (upd H4 D (.lst (acc ++ [y]))) else Pv (i + 1) H3) (hd : ∀ H, Pv xs.length H → Qd H) :
    ∃ W : Nat → Nat → Hp → Prop, (∃ m, W 0 m (upd H1 D (.lst []))) ∧ ∀ i m H, W i m H →
      ((Ite K a).stop i H ∧ Qd H) ∨ ((Ite K a).go i H ∧ ∃ Nx : Hp → Prop, (∀ H', Nx H' → ∃ m', m' < m ∧ W (i + 1) m' H') ∧ ∀ x H', (Ite K a).yld i H x H' → g x (wipe σ vs) H' fun σ2 H2 => wipe σ2 vs = wipe σ vs ∧ tt σ2 H2 fun b H3 =>
        if b = true then te σ2 H3 fun y H4 => ∃ acc, H4 D = some (.lst acc) ∧ acc.length < sizeLine ∧ Nx (upd H4 D (.lst (acc ++ [y]))) else Nx H3) := by
  refine ⟨fun i m H => m = xs.length - i ∧ i ≤ xs.length ∧ Pv i H, ⟨xs.length, by simp, Nat.zero_le _, h0⟩, ?_⟩
  rintro i m H ⟨rfl, hi, p⟩
  have q := hl i H p
  by_cases hlt : i < xs.length
  · refine .inr ⟨⟨xs, xs[i], q, List.getElem?_eq_getElem hlt⟩, Pv (i + 1), fun H' p' => ⟨xs.length - (i + 1), by omega, rfl, hlt, p'⟩, fun x H' y => ?_⟩
    obtain ⟨T, z, rfl, hT, rfl, hz⟩ := y
    exact hs i z H T (hz xs q) p hT
  · have e : i = xs.length := by omega
    subst e
    exact .inl ⟨⟨xs, q, Nat.le_refl _⟩, hd H p⟩
section
variable {P : Program} {w : World} {K : PySem.W.Frag} {mg : Str → Option Value} {base : Heap} {Ps : Tbs} {H H' H0 : Hp} {k : Nat} {f c : Addr} {fd : FuncData}
/-! ### counts -/
def countsN (n kk : Nat) (fss : List (List Int)) : List Int := (List.range (kk + 1)).map fun m => ((partsN n fss m).length : Int)
def spCounts (K : PySem.W.Frag) (Ps : Tbs) : Sp := fun vs H Q _ => ∃ (x : V) (n kk : Int) (fss : List (List Int)), vs = [x] ∧ Stk K H x n kk fss ∧ StkOk n kk fss ∧ fss.length ≤ 60 ∧ Tb Ps H ∧
  ∀ v H', Ext Ps H H' → TupI K H' v (countsN n.toNat kk.toNat fss) → Q v H'
/-! ### is_row -/
/-- a stack, and a tuple of numbers of its faces -/
structure AskR (K : PySem.W.Frag) (Ps : Tbs) (H : Hp) (x y : V) (n k : Int) (fss : List (List Int)) (ns : List Int) : Prop where
  stk : Stk K H x n k fss
  ok : StkOk n k fss
  row : TupI K H y ns
  bel : ∀ i ∈ ns, 0 ≤ i ∧ i < (fss.length : Int)
  len : ns.length ≤ 100
  tb : Tb Ps H
theorem AskR.ext {x y : V} {n k : Int} {fss : List (List Int)} {ns : List Int} (h : AskR K Ps H x y n k fss ns) (e : Ext Ps H H') : AskR K Ps H' x y n k fss ns := ⟨e.stk h.stk, h.ok, e.tupI h.row, h.bel, h.len, e.tb⟩
def spIsRow (K : PySem.W.Frag) (Ps : Tbs) : Sp := fun vs H Q _ => ∃ (x y : V) (n kk : Int) (fss : List (List Int)) (ns : List Int), vs = [x, y] ∧ AskR K Ps H x y n kk fss ns ∧ ∀ b H', (b = true ↔ ns.Perm (rng fss.length)) → Ext Ps H H' → Q (.bl b) H'
theorem le_perm_eq {us vs : List Int} (p : us.Perm vs) (h1 : us.Pairwise (· ≤ ·)) (h2 : vs.Pairwise (· ≤ ·)) : us = vs := List.Perm.eq_of_pairwise (fun a b _ _ h1 h2 => by omega) h1 h2 p
theorem rng_le (m : Nat) : (rng m).Pairwise (· ≤ ·) := by
  unfold rng
  rw [List.pairwise_map]
  exact List.Pairwise.imp (fun {a b} h => by omega) List.pairwise_lt_range
def spEach (K : PySem.W.Frag) (Ps : Tbs) : Sp := fun vs H Q _ => ∃ (y : V) (m : Nat) (ns : List Int), vs = [y, .int m] ∧ TupI K H y ns ∧ (∀ i ∈ ns, 0 ≤ i ∧ i < (m : Int)) ∧ m ≤ 1000 ∧ Tb Ps H ∧ ∀ b H', (b = true ↔ ns.Perm (rng m)) → Ext Ps H H' → Q (.bl b) H'
theorem ok_each {fB cB : Addr} {fdB : FuncData} (D : Def K mg "is_each_once" sEach ["thing", "many"] f fd c) (DB : Def K mg "all_below" sBelow ["thing", "many"] fB fdB cB) (GB : FnOk P w K mg base CX0 k fB fdB ["thing", "many"] (spBelow K Ps))
    (ms : mg "sorted" = none) (mL : mg "list" = none) (mr : mg "range" = none) : FnOk P w K mg base CX0 (k + 1) f fd ["thing", "many"] (spEach K Ps) := by
  refine D.ok (k := k) scEach (fun vs H Q E h => ?_) (fun A outer s H vs Q E hr h => ?_)
  · obtain ⟨y, m, ns, rfl, _⟩ := h
    rfl
  · obtain ⟨_, m, ns, rfl, ⟨t, rfl, hT⟩, hb, hm, ht, q⟩ := h
    refine ⟨_, pss_one (ps_ret (pe_and (pcl DB GB hr (pa_cons (pv 0) (pa_cons (pv 1) pa_nil))) (pe_one (pe_cmpR (op_eqD hr.units) (pe_callB cr_sortTI (by rfl) ms (by decide +kernel) (pa_cons (pv 0) pa_nil)) (pe_listRg (by rfl) (by rfl) mL (prg_1 (by rfl) mr (pv 1))) (nomark _))))), ?_⟩
    refine ⟨.ref t, rfl, .int (m : Int), rfl, t, ns, (m : Int), rfl, hT, hb, ht, fun H1 e1 => ⟨true, rfl, iteT ?_⟩⟩
    refine ⟨.ref t, rfl, t, ns, rfl, e1.sqT hT, fun us p pm sr np => ?_⟩
    have e2 := Ext.new (o := .lst (us.map V.int)) e1.tb np
    refine ⟨.int (m : Int), rfl, (m : Int), rfl, RgOk.of_le (by omega) (by omega) (by omega) (by omega), fun l nl => ?_⟩
    rw [rng_V]
    have e3 := Ext.new (o := .lst ((rng m).map V.int)) e2.tb nl
    refine ⟨.list (iD us), .list (iD (rng m)), .lst (.inl (.inl (e3.lst upd_same))) (dp_ints us), .lst (.inl (.inl upd_same)) (dp_ints _), shp_list us, shp_list _, ?_⟩
    refine q _ _ ?_ (e1.trans (e2.trans e3))
    rw [PyData.eqv, eqv_ints, decide_eq_true_eq]
    constructor
    · intro e
      rw [← e]
      exact pm.symm
    · intro e
      exact le_perm_eq (pm.trans e) sr (rng_le _)
theorem ok_isRow {fB cB : Addr} {fdB : FuncData} (D : Def K mg "is_row" sIsRow ["stack", "thing"] f fd c) (DB : Def K mg "is_each_once" sEach ["thing", "many"] fB fdB cB) (GB : FnOk P w K mg base CX0 k fB fdB ["thing", "many"] (spEach K Ps))
    (ml : mg "len" = none) : FnOk P w K mg base CX0 (k + 1) f fd ["stack", "thing"] (spIsRow K Ps) := by
  refine D.ok (k := k) scIsRow (fun vs H Q E h => ?_) (fun A outer s H vs Q E hr h => ?_)
  · obtain ⟨x, y, n, kk, fss, ns, rfl, _⟩ := h
    rfl
  · obtain ⟨x, y, n, kk, fss, ns, rfl, h0, q⟩ := h
    obtain ⟨a, fa, xs, rfl, h1, h2, h3⟩ := id h0.stk
    have hlen := Paired.length h3
    have l70 := h0.ok.l70
    refine ⟨_, pss_one (ps_ret (pcl DB GB hr (pa_cons (pv 1) (pa_cons (pe_callB (call_lenS (K := K) rfl) (by rfl) ml PySem.boot_len (pa_cons (pe_ix ix_tup (pv 0) pe_int (fun _ _ => rfl)) pa_nil)) pa_nil)))), ?_⟩
    exact ⟨y, rfl, .ref a, rfl, a, _, 2, .ref fa, rfl, rfl, h1, at2, fa, xs, rfl, .inr h2, y, xs.length, ns, rfl, h0.row, by rw [hlen]; exact h0.bel, by omega, h0.tb, fun b H' hb e => q b H' (by rw [← hlen]; exact hb) e⟩
end
end Lf

set_option maxHeartbeats 4000000
namespace Lf
open PySem PySem.Spec PyProof.Rows L2 GxR GxA SrT
/-- the classes of refusals by their names -/
structure Kinds (mg : Str → Option Value) (C : Nat → Addr) : Prop where
  n0 : mg "NoStack" = some (.ref (C 0))
  n1 : mg "NoNumber" = some (.ref (C 1))
  n2 : mg "NoPart" = some (.ref (C 2))
  n3 : mg "NoLot" = some (.ref (C 3))
  n4 : mg "NoRow" = some (.ref (C 4))
  n5 : mg "NoOrder" = some (.ref (C 5))
  n6 : mg "NoNames" = some (.ref (C 6))
  n7 : mg "NoRim" = some (.ref (C 7))
  n8 : mg "NoTaking" = some (.ref (C 8))
  n9 : mg "NoText" = some (.ref (C 9))
  n10 : mg "NoLine" = some (.ref (C 10))
  n11 : mg "NoDeed" = some (.ref (C 11))
  n12 : mg "TooGreat" = some (.ref (C 12))
/-- the class at D is the i-th -/
structure Kind (K : PySem.W.Frag) (C : Nat → Addr) (CL : Addr) (i : Nat) (D : Addr) : Prop where
  lt : i < 12
  exc : ExcC K D
  kit : ∀ j, j < 13 → PySem.W.kitOne K (.ref D) (.ref (C j)) = some (decide (j = i))
  ve : PySem.W.kitOne K (.ref D) (.type "ValueError") = some true
  lay : PySem.W.exmOne K (.ref D) (.ref CL) = some true
def words : List Str := ["stack", "number", "part", "lot", "row", "order", "names", "rim", "taking", "text", "line", "deed"]
def wordOf (i : Nat) : Str := words.getD i ""
def boolsAt (i : Nat) : List Bool := (List.range 13).map fun j => decide (j = i)
theorem bools_dp {K : PySem.W.Frag} {H : Hp} : ∀ bs : List Bool, DpAll K H (bs.map V.bl) (bs.map PyData.bool)
  | [] => .nil
  | b :: bs => .cons (.bl b) (bools_dp bs)
theorem eqv_bools : PyData.eqv (.bool true) (.bool true) = true ∧ PyData.eqv (.bool false) (.bool true) = false := ⟨by simp [PyData.eqv], by simp [PyData.eqv]⟩
theorem bools_count (i : Nat) (h : i < 12) : ((boolsAt i).map PyData.bool).countP (fun z => PyData.eqv z (.bool true)) = 1 := by
  have e : ∀ b : Bool, PyData.eqv (.bool b) (.bool true) = b := fun b => by cases b <;> simp [PyData.eqv]
  rw [List.countP_map]
  have e2 : ((fun z => PyData.eqv z (.bool true)) ∘ PyData.bool) = id := by
    funext b
    exact e b
  rw [e2]
  have z : ((List.range 12).all fun i => decide ((boolsAt i).countP id = 1)) = true := by decide +kernel
  exact of_decide_eq_true (List.all_eq_true.mp z i (List.mem_range.mpr h))
theorem bools_at {i j : Nat} (h : j < 13) : ((boolsAt i).map PyData.bool)[j]? = some (.bool (decide (j = i))) := by
  unfold boolsAt
  rw [List.getElem?_map, List.getElem?_map, List.getElem?_range h]
  rfl
theorem bools_plain : ∀ bs : List Bool, PyData.plainAll (bs.map PyData.bool) = true ∧ PyData.canLayAll0 (bs.map PyData.bool) = true ∧ PyData.depthAll (bs.map PyData.bool) = 0
  | [] => ⟨by simp [PyData.plainAll], by simp [PyData.canLayAll0], by simp [PyData.depthAll]⟩
  | b :: bs => by
    obtain ⟨h1, h2, h3⟩ := bools_plain bs
    exact ⟨by simp [PyData.plainAll, PyData.plain, h1], by simp [PyData.canLayAll0, PyData.canLay0, h2], by simp [PyData.depthAll, PyData.depth, h3]⟩
section
variable {K : PySem.W.Frag} {mg : Str → Option Value} {C : Nat → Addr} {CL : Addr}
/-- what the kinds are told to be -/
def spKinds (Ps : Tbs) (a : Addr) (i : Nat) : Sp := fun vs H Q _ => vs = [.ref a] ∧ Tb Ps H ∧ ∀ H', Ext Ps H H' → Q (.str (wordOf i)) H'
end
end Lf

set_option maxHeartbeats 4000000
namespace Lf
open PySem PySem.Spec PyProof.Rows L2 GxR GxA SrT
section
variable {K : PySem.W.Frag} {mg : Str → Option Value} {C : Nat → Addr} {CL : Addr}
/-- what a call of _law_refused makes of the lambda's reading -/
def TRef (K : PySem.W.Frag) (C : Nat → Addr) (CL : Addr) (Ps : Tbs) : (XK → Hp → VK → Prop) → Hp → VK → Prop := fun tl H Q =>
  tl (fun cls d H' => d = none ∧ ∃ i D, cls = .ref D ∧ Kind K C CL i D ∧ Tb Ps H' ∧ ∀ H2, Ext Ps H' H2 → Q (.str (wordOf i)) H2) H (fun _ H' => Q (.str "told") H')
end
end Lf

set_option maxHeartbeats 2000000
namespace Lf
open PySem PySem.Spec PyProof.Rows L2 GxR GxA SrT
abbrev nWithout : List Str := ["stack", "point", "n", "k", "faces", "rest", "face"]
abbrev nPartsL : List Str := ["_law_stack_here", "_law_many", "_law_found", "_law_one", "_law_face"]
abbrev nLinkL : List Str := ["_law_stack_here", "_law_part", "_law_rest", "_law_face", "_law_point"]
/-! ### the mathematics -/
def withoutL (fss : List (List Int)) (p : Int) : List (List Int) := fss.filter fun f => !decide (p ∈ f)
theorem allF_le {n k : Nat} (h : n ≤ 8) : (allF n k).length ≤ 256 := by
  unfold allF
  rw [(sortL_perm _).length_eq]
  have h1 := allK_len n k
  have h2 : 2 ^ n ≤ 2 ^ 8 := Nat.pow_le_pow_right (by omega) h
  have h3 : ((allK n k).filter fun g => decide (g.length = k)).length ≤ (allK n k).length := List.length_filter_le _ _
  omega
theorem partsN_le {n m : Nat} {fss : List (List Int)} (h : n ≤ 8) : (partsN n fss m).length ≤ 256 := Nat.le_trans (List.length_filter_le _ _) (allF_le h)
def everyN (n k : Nat) (fss : List (List Int)) : List (List Int) := (List.range k).flatMap fun m => partsN n fss m
theorem everyN_succ (n k : Nat) (fss : List (List Int)) : everyN n (k + 1) fss = everyN n k fss ++ partsN n fss k := by
  unfold everyN
  rw [List.range_succ, List.flatMap_append]
  simp
theorem everyN_le {n k : Nat} {fss : List (List Int)} (h : n ≤ 8) : (everyN n k fss).length ≤ 256 * k := by
  induction k with
  | zero => simp [everyN]
  | succ k ih =>
    rw [everyN_succ, List.length_append]
    have := partsN_le (m := k) (fss := fss) h
    omega
theorem eqv_nil (gs : List (List Int)) : PyData.eqv (.list (gs.map tD)) (.list []) = gs.isEmpty := by
  cases gs with
  | nil => simp [PyData.eqv, PyData.eqvAll]
  | cons g gs => simp [PyData.eqv, PyData.eqvAll]
theorem inSome_filt (g : List Int) (fss : List (List Int)) : (!(fss.filter fun fc => hasAll fc g).isEmpty) = inSome g fss := by
  unfold inSome
  rw [Bool.eq_iff_iff, Bool.not_eq_true', List.any_eq_true, List.isEmpty_eq_false_iff_exists_mem]
  constructor
  · rintro ⟨f, hf⟩
    obtain ⟨h1, h2⟩ := List.mem_filter.mp hf
    exact ⟨f, h1, h2⟩
  · rintro ⟨f, h1, h2⟩
    exact ⟨f, List.mem_filter.mpr ⟨h1, h2⟩⟩
theorem StkOk.without {n k : Int} {fss : List (List Int)} {p : Int} (S : StkOk n k fss) (h : withoutL fss p ≠ []) : StkOk n k (withoutL fss p) := by
  have sub : (withoutL fss p).Sublist fss := List.filter_sublist
  refine ⟨S.n1, S.n8, S.k0, S.kn, S.k4, ?_, Nat.le_trans sub.length_le S.l70, fun f hf => S.len f (sub.subset hf), fun f hf => S.ris f (sub.subset hf), fun f hf => S.bel f (sub.subset hf), S.srt.sublist sub⟩
  cases e : withoutL fss p with
  | nil => exact absurd e h
  | cons _ _ => simp
theorem tupI_seqI {K : PySem.W.Frag} {H : Hp} {x : V} {ns : List Int} (h : TupI K H x ns) : SeqI K H x ns := let ⟨t, e, hs⟩ := h; ⟨t, e, .inr hs⟩
section
variable {P : Program} {w : World} {K : PySem.W.Frag} {mg : Str → Option Value} {base : Heap} {Ps : Tbs} {H H' H0 : Hp} {k : Nat} {f c : Addr} {fd : FuncData}
/-! ### without -/
def spWithout (K : PySem.W.Frag) (Ps : Tbs) (CN : Addr) : Sp := fun vs H Q E => ∃ (x : V) (n kk i : Int) (fss : List (List Int)), vs = [x, .int i] ∧ Stk K H x n kk fss ∧ StkOk n kk fss ∧ 0 ≤ i ∧ i < n ∧ Tb Ps H ∧
  (withoutL fss i ≠ [] → ∀ v H', Ext Ps H H' → Stk K H' v n kk (withoutL fss i) → Q v H') ∧ (withoutL fss i = [] → ∀ H', Ext Ps H H' → E (.ref CN) none H')
/-! ### _law_parts -/
def spPartsL (K : PySem.W.Frag) (Ps : Tbs) : Sp := fun vs H Q _ => ∃ (x : V) (n kk m : Int) (fss : List (List Int)), vs = [x, .int m] ∧ Stk K H x n kk fss ∧ StkOk n kk fss ∧ 0 ≤ m ∧ m ≤ kk ∧ Tb Ps H ∧
  ∀ (l : Addr) (ys : List V) (H' : Hp), Ext Ps H H' → H l = none → H' l = some (.lst ys) → Paired (TupI K H') ys (partsN n.toNat fss m.toNat) → Q (.ref l) H'
/-! ### _law_every_part -/
def spEvery (K : PySem.W.Frag) (Ps : Tbs) : Sp := fun vs H Q _ => ∃ (x : V) (n kk : Int) (fss : List (List Int)), vs = [x] ∧ Stk K H x n kk fss ∧ StkOk n kk fss ∧ Tb Ps H ∧
  ∀ (l : Addr) (ys : List V) (H' : Hp), Ext Ps H H' → H l = none → H' l = some (.lst ys) → Paired (TupI K H') ys (everyN n.toNat (kk.toNat + 1) fss) → Q (.ref l) H'
/-! ### _law_link -/
def spLinkL (K : PySem.W.Frag) (Ps : Tbs) : Sp := fun vs H Q _ => ∃ (x y : V) (n kk : Int) (fss : List (List Int)) (z : List Int), vs = [x, y] ∧ AskP K Ps H x y n kk fss z ∧ ∀ v H', Ext Ps H H' → Stk K H' v n (kk - z.length) (linkL fss z) → Q v H'
end
end Lf

set_option maxHeartbeats 2000000
namespace Lf
open PySem PySem.Spec PyProof.Rows L2 GxR GxA SrT
/-- raise x(e) -/
theorem ps_refuse1 {X : Cx} {x : Str} {C : Addr} {e : Expr} {ta : TE} {p pos pos' : Pos} {E : XK} (R : Ref X.K X.mg x C) (tk : Takes X fun cls d _ H => E cls d H) (he : PE X e ta) (hc : X.calm = true := by rfl) (hg : Gl X x := by rfl) (hs : starEach [e] X.env = (false, eval e X.env) :: starEach [] X.env := by rfl) (hdb : (x == ("__debug__" : Str)) = false := by decide) :
    PS X (.Raise (some (.Call (.Name x p) [e] [] pos)) none pos') (fun _ σ H => ta σ H fun _ H1 => E (.ref C) none H1) := by
  obtain ⟨B, nI, iI, bmB, F, q⟩ := R.ex
  exact ps_raise hc tk (SkE.pmk_own1 F q R.g R.kp (raises_own R.sub R.ty) hg he hs hdb)
theorem log_small {i : Int} (h : i.natAbs ≤ 1000) : i.natAbs.log2 < 11 := by
  by_cases e : i.natAbs = 0
  · rw [e]
    decide
  · exact (Nat.log2_lt e).mpr (by omega)
theorem text_small {i : Int} (h : i.natAbs ≤ 1000) : (Str.ofString (toString i)).length ≤ 12 := by
  rw [PySem.ofString_length]
  exact int_text_length_le (by decide) (log_small h)
section
variable {P : Program} {w : World} {K : PySem.W.Frag} {mg : Str → Option Value} {base : Heap} {Ps : Tbs} {H H' H0 : Hp} {k : Nat} {f c : Addr} {fd : FuncData} {CS CN CL CR CO CP : Addr}
/-! ### need_stack, need_within, need_face, need_lot, refusing -/
def spNeedStackX (K : PySem.W.Frag) (Ps : Tbs) (CS : Addr) : Sp := fun vs H _ E => ∃ (x : V) (d : PyData), vs = [x] ∧ Th K H x d ∧ wide d = true ∧ isStackD d = false ∧ Tb Ps H ∧ ∀ H', Ext Ps H H' → E (.ref CS) none H'
theorem ok_needStackX {fS cS : Addr} {fdS : FuncData} (D : Def K mg "need_stack" sNeedStack ["stack"] f fd c) (DS : Def K mg "is_stack" sIsStack ["thing"] fS fdS cS) (GS : FnOk P w K mg base CX0 k fS fdS ["thing"] (spIsStackX K Ps)) (RS : Ref K mg "NoStack" CS) : FnOk P w K mg base (L2.CX P w) (k + 1) f fd ["stack"] (spNeedStackX K Ps CS) := by
  refine D.okX (k := k) scNeedStack (fun vs H Q E h => ?_) (fun A outer s H vs Q E hr tk h => ?_)
  · obtain ⟨x, d, rfl, _⟩ := h
    rfl
  · obtain ⟨x, d, rfl, hx, hw, hd, ht, q⟩ := h
    refine ⟨_, pss_one (ps_if (pt_not (pt_val (pcl DS GS hr (pa_cons (pv 0) pa_nil)))) (pss_one (ps_refuse RS tk)) pss_nil), ?_⟩
    refine ⟨x, rfl, x, d, rfl, hx, hw, ht, fun H1 e1 => ⟨false, by rw [hd], iteT (q _ e1)⟩⟩
def spNeedWithinX (K : PySem.W.Frag) (CN : Addr) : Sp := fun vs H _ E => ∃ (x : V) (d : PyData) (lo hi : Int), vs = [x, .int lo, .int hi] ∧ Th K H x d ∧ intIn d lo hi = false ∧ lo.natAbs ≤ 1000 ∧ hi.natAbs ≤ 1000 ∧ E (.ref CN) none H
def spNeedFaceX (K : PySem.W.Frag) (CN : Addr) : Sp := fun vs H _ E => ∃ (x y : V) (n kk : Int) (fss : List (List Int)) (d : PyData), vs = [x, y] ∧ Stk K H x n kk fss ∧ fss.length ≤ 70 ∧ Th K H y d ∧ intIn d 0 ((fss.length : Int) - 1) = false ∧ E (.ref CN) none H
def spNeedLotX (K : PySem.W.Frag) (Ps : Tbs) (CL : Addr) : Sp := fun vs H _ E => ∃ (x y : V) (n kk : Int) (fss : List (List Int)) (d : PyData), vs = [x, y] ∧ Stk K H x n kk fss ∧ Th K H y d ∧ wide d = true ∧ risD d fss.length = false ∧ Tb Ps H ∧ ∀ H', Ext Ps H H' → E (.ref CL) none H'
end
end Lf

set_option maxHeartbeats 1000000
namespace Lf
open PySem PySem.Spec PyProof.Rows L2 GxR GxA SrT
section
variable {X : Cx} {Ps : Tbs}
/-- t + u, two tuples of ints: some tuple of both -/
def rCatI (K : PySem.W.Frag) (Ps : Tbs) : R2 := fun x y H Q => ∃ us vs : List Int, TupI K H x us ∧ TupI K H y vs ∧ us.length + vs.length ≤ 1000 ∧ Tb Ps H ∧ ∀ v H3, Ext Ps H H3 → TupI K H3 v (us ++ vs) → Q v H3
theorem op_catI : OpR X (binaryOp .Add) (rCatI X.K Ps) := by
  intro pins s σ H x y v u Q I rx ry h
  obtain ⟨us, vs, ⟨a, rfl, ha⟩, ⟨b, rfl, hb⟩, hl, ht, q⟩ := h
  refine op_catA pins s σ H _ _ v u Q I rx ry ⟨a, b, _, _, rfl, rfl, ha, hb, ?_, fun e => ?_, fun _ e => ?_, fun _ _ p np => ?_⟩
  · rw [List.length_map, List.length_map, sizeLine_eq]
    omega
  · have e1 : us = [] := List.map_eq_nil_iff.mp e
    subst e1
    exact q _ _ (Ext.refl ht) ⟨b, rfl, hb⟩
  · have e1 : vs = [] := List.map_eq_nil_iff.mp e
    subst e1
    exact q _ _ (Ext.refl ht) ⟨a, rfl, by rw [List.append_nil]; exact ha⟩
  · exact q _ _ (Ext.new ht np) ⟨p, rfl, .inl (.inl (by rw [List.map_append]; exact upd_same))⟩
/-- t[:i], t[i:]: some tuple of those -/
def rSlI (K : PySem.W.Frag) (Ps : Tbs) : V → Option Int → Option Int → Hp → VK → Prop := fun x lo hi H Q => ∃ us ws : List Int, TupI K H x us ∧ Tb Ps H ∧ cutV (us.map V.int) lo hi = ws.map V.int ∧ ∀ v H3, Ext Ps H H3 → TupI K H3 v ws → Q v H3
theorem sl_tupI : SlR X (rSlI X.K Ps) := by
  intro pins s σ H x v vl vu lo hi sl Q I rx hs pl pu h
  obtain ⟨us, ws, ⟨a, rfl, ha⟩, ht, hw, q⟩ := h
  refine sl_tupA pins s σ H _ v vl vu lo hi sl Q I rx hs pl pu ⟨a, _, rfl, ha, fun z => ?_, fun _ p np => ?_⟩
  · refine q _ _ (Ext.refl ht) ⟨a, rfl, ?_⟩
    have e : cutV (us.map V.int) lo hi = us.map V.int := by
      unfold cutV
      rw [z.1, z.2, List.drop_zero, Nat.sub_zero, List.take_length]
    rw [← hw, e]
    exact ha
  · exact q _ _ (Ext.new ht np) ⟨p, rfl, .inl (.inl (by rw [← hw]; exact upd_same))⟩
end
end Lf

set_option maxHeartbeats 1000000
/-! tuples that are known to their object: methods of them -/
namespace Lf
open PySem PySem.Spec PyProof.Rows L2
def FzT (H : Hp) (t : Addr) : Prop := ∃ (o : Obj) (u : HO), H t = some (.frz o u) ∧ o.cls = .type "tuple" ∧ o.dict = none
section
variable {X : Cx}
theorem call_tuple_frz : CallR X (.type "tuple") (fun xs H Q => ∃ p ys, xs = [.ref p] ∧ SqL X.K H p ys ∧ ∀ (l : Addr) (o : Obj), o.cls = .type "tuple" → o.dict = none → H l = none → Q (.ref l) (upd H l (.frz o (.tup ys)))) := by
  intro pins s σ H xs us Q I r h
  obtain ⟨p, ys, rfl, hq, q⟩ := h
  obtain ⟨u, rfl, rx⟩ := vals1 r
  cases rx
  obtain ⟨its, r', pl, hz⟩ := I.list hq
  have hlen := r'.length
  refine call_tuple_list pl.isList (fun h' kp => ?_) (by simp only [List.size_toArray] <;> omega)
  have I1 : L2.Inv X pins σ H { s with heap := h' } := I.kept (t' := s.toks) kp
  have I2 : L2.Inv X pins σ (upd H h'.objs.size (.frz { cls := .type "tuple", data := .seq its.toArray } (.tup ys))) { s with heap := h'.push { cls := .type "tuple", data := .seq its.toArray } } :=
    I1.laid (t' := s.toks) (fun b o e => Heap.get?_push_of_some _ e) (Nat.le_refl _) (show ObjOk X.prog X.w _ _ _ (.frz _ (.tup ys)) from ⟨Heap.get?_push_size _ rfl, hz, its, r', IsTup.new _ _⟩)
  exact ⟨.ref h'.objs.size, _, I2, rfl, q _ _ rfl rfl (I1.hok.fresh (Nat.le_refl _))⟩
def tyT (x : V) (H : Hp) : Prop := ∃ t, x = .ref t ∧ FzT H t
theorem tyT_is {pins : List (Addr × Obj)} {σ : L2.St} {H : Hp} {s : Shared} {x : V} {v : Value} (I : L2.Inv X pins σ H s) (r : RelV x v) (ty : tyT x H) :
    s.TypeIs v "tuple" ∧ ∀ a, v = .ref a → ∃ ob, s.heap.get? a = some ob ∧ ob.dict = none := by
  obtain ⟨t, rfl, o, u, h, hc, hd⟩ := ty
  cases r
  obtain ⟨e, _⟩ := (show ObjOk X.prog X.w H s.heap t (.frz o u) from I.hok t _ h)
  refine ⟨⟨o, e, hc⟩, fun a e2 => ?_⟩
  cases e2
  exact ⟨o, e, hd⟩
def tBMT (r : V → List V → Hp → VK → Prop) (to : TE) (t : TA) : TE := fun σ H Q => to σ H fun x H1 => tyT x H1 ∧ t σ H1 fun xs H2 => r x xs H2 Q
variable {o e : Expr} {es : List Expr} {to : TE} {t : TA} {name : Str} {apos cpos : Pos} {id : String} {r : V → List V → Hp → VK → Prop}
theorem pe_bmT (slot : Slot "tuple" name id) (hty : typeOf (.builtin id) = pure (.type "method_descriptor")) (hm : MtR X id r) (ho : PE X o to) (ha : PA X (e :: es) t)
    (hbase : attributeBase o name X.env (eval o X.env) = eval o X.env := by rfl)
    (hfew : ((backTo cpos (starEach (e :: es) X.env)).all (fun x => !x.1) && (backToKw cpos (keywordEach [] X.env)).all (fun x => x.1.isSome)
      && decide ((e :: es).length + ([] : List Keyword).length + (if ([] : List Keyword).isEmpty then 0 else 1) < 30)) = true := by rfl)
    (hline : (apos.endLine == cpos.line) = true := by rfl) (hs : starEach (e :: es) X.env = (false, eval e X.env) :: starEach es X.env := by rfl) (hplain : (backTo cpos (starEach es X.env)).any (·.1) = false := by rfl) :
    PE X (.Call (.Attribute o name apos) (e :: es) [] cpos) (tBMT r to t) := by
  refine ⟨fun pins s σ H Q I h => ?_⟩
  refine wpAny_Call_method_late hbase hfew hline rfl (thn (ho.run pins s σ H _ I h) fun v s1 ⟨x, H1, I1, r1, ty, q1⟩ => ?_)
  obtain ⟨h1, h2⟩ := tyT_is I1 r1 ty
  refine ⟨"tuple", id, PySem.F.plainAttrs_tuple, slot, hty, h1, h2, ?_⟩
  have hA := ha.run cpos pins s1 σ H1 _ I1 q1
  rw [hs] at hA ⊢
  refine Calls.callWith_builtin (by show (false || (backTo cpos (starEach es X.env)).any (·.1)) = false; rw [hplain] <;> rfl) (Calls.evalArgs_plain ?_)
  exact thn hA fun us s2 ⟨vs, H2, I2, r2, q2⟩ => hm pins s2 σ H2 x vs v us Q I2 r1 r2 q2
end
section
variable {Ps : Tbs} {H H' : Hp} {t : Addr}
theorem Ext.fzT (e : Ext Ps H H') (h : FzT H t) : FzT H' t := by
  obtain ⟨o, u, h1, h2, h3⟩ := h
  exact ⟨o, u, e.old t _ h1 (fun q z => by cases z), h2, h3⟩
end
end Lf

set_option maxHeartbeats 4000000
namespace Lf
open PySem PySem.Spec PyProof.Rows L2 GxR GxA SrT
/-! ### a list of two for: over a list, then over a tuple -/
section
variable {K : PySem.W.Frag} {a t : Addr} {xs ys : List V} {g g1 : TG} {tt tt1 : TT} {wi1 : TI} {te : TE} {vs vs1 : List Nat} {σ σ2 : L2.St} {H1 H4 : Hp} {D : Addr} {Qd Nx : Hp → Prop}
/-- the inner loop's claim -/
def In2 (J1 : It) (g1 : TG) (tt1 : TT) (te : TE) (vs1 : List Nat) (D : Addr) (σ2 : L2.St) (H4 : Hp) (Nx : Hp → Prop) : Prop := ∃ W1 : Nat → Nat → Hp → Prop, (∃ m, W1 0 m H4) ∧ ∀ j k H, W1 j k H → (J1.stop j H ∧ Nx H) ∨ (J1.go j H ∧ ∃ N1 : Hp → Prop, (∀ H', N1 H' → ∃ k', k' < k ∧ W1 (j + 1) k' H') ∧
  ∀ x H', J1.yld j H x H' → g1 x (wipe σ2 vs1) H' fun σ3 H5 => wipe σ3 vs1 = wipe σ2 vs1 ∧ tt1 σ3 H5 fun b H6 => if b = true then te σ3 H6 fun y H7 => ∃ acc, H7 D = some (.lst acc) ∧ acc.length < sizeLine ∧ N1 (upd H7 D (.lst (acc ++ [y]))) else N1 H6)
theorem lc2_list (Pv : Nat → Hp → Prop) (h0 : Pv 0 (upd H1 D (.lst []))) (hl : ∀ i H, i ≤ xs.length → Pv i H → SqL K H a xs)
    (hs : ∀ i x H, xs[i]? = some x → Pv i H → g x (wipe σ vs) H fun σ2 H2 => wipe σ2 vs = wipe σ vs ∧ tt σ2 H2 fun b H3 => if b = true then wi1 σ2 H3 fun J1 H4 => In2 J1 g1 tt1 te vs1 D σ2 H4 (Pv (i + 1)) else Pv (i + 1) H3) (hd : ∀ H, Pv xs.length H → Qd H) :
    ∃ W : Nat → Nat → Hp → Prop, (∃ m, W 0 m (upd H1 D (.lst []))) ∧ ∀ i m H, W i m H → ((Itl K a).stop i H ∧ Qd H) ∨ ((Itl K a).go i H ∧ ∃ N : Hp → Prop, (∀ H', N H' → ∃ m', m' < m ∧ W (i + 1) m' H') ∧
      ∀ x H', (Itl K a).yld i H x H' → g x (wipe σ vs) H' fun σ2 H2 => wipe σ2 vs = wipe σ vs ∧ tt σ2 H2 fun b H3 => if b = true then wi1 σ2 H3 fun J1 H4 => In2 J1 g1 tt1 te vs1 D σ2 H4 N else N H3) := by
  refine ⟨fun u v HH => v = xs.length - u ∧ u ≤ xs.length ∧ Pv u HH, ⟨xs.length, (by omega), (Nat.zero_le _), h0⟩, ?_⟩
  rintro u v HH ⟨rfl, hu, pu⟩
  have qu := hl u HH hu pu
  by_cases lt : u < xs.length
  · refine Or.inr ⟨⟨xs, xs[u], qu, (by simp [lt])⟩, Pv (u + 1), fun H9 p9 => ⟨xs.length - (u + 1), (by omega), rfl, lt, p9⟩, fun x H9 y9 => ?_⟩
    obtain ⟨e9, z9⟩ := y9
    subst e9
    exact hs u x _ (z9 xs qu) pu
  · obtain rfl : u = xs.length := by omega
    exact Or.inl ⟨⟨xs, qu, Nat.le_refl _⟩, hd HH pu⟩
theorem in2_tup (Pv : Nat → Hp → Prop) (h0 : Pv 0 H4) (hl : ∀ i H, i ≤ ys.length → Pv i H → SqT K H t ys)
    (hs : ∀ j x H, ys[j]? = some x → Pv j H → g1 x (wipe σ2 vs1) H fun σ3 H5 => wipe σ3 vs1 = wipe σ2 vs1 ∧ tt1 σ3 H5 fun b H6 => if b = true then te σ3 H6 fun y H7 => ∃ acc, H7 D = some (.lst acc) ∧ acc.length < sizeLine ∧ Pv (j + 1) (upd H7 D (.lst (acc ++ [y]))) else Pv (j + 1) H6)
    (hd : ∀ H, Pv ys.length H → Nx H) : In2 (Itt K t) g1 tt1 te vs1 D σ2 H4 Nx := by
  refine ⟨fun u v HH => v = ys.length - u ∧ u ≤ ys.length ∧ Pv u HH, ⟨ys.length, (by omega), (Nat.zero_le _), h0⟩, ?_⟩
  rintro u v HH ⟨rfl, hu, pu⟩
  have qu := hl u HH hu pu
  by_cases lt : u < ys.length
  · refine Or.inr ⟨⟨ys, ys[u], qu, (by simp [lt])⟩, Pv (u + 1), fun H9 p9 => ⟨ys.length - (u + 1), (by omega), rfl, lt, p9⟩, fun x H9 y9 => ?_⟩
    obtain ⟨e9, z9⟩ := y9
    subst e9
    exact hs u x _ (z9 ys qu) pu
  · obtain rfl : u = ys.length := by omega
    exact Or.inl ⟨⟨ys, qu, Nat.le_refl _⟩, hd HH pu⟩
end
/-! ### parts of up to eight points -/
theorem subs_le8 {fc : List Int} (h : fc.length ≤ 8) (i : Nat) : (subsL (fc.take i)).length ≤ 256 := by
  rw [subs_len]
  have : (fc.take i).length ≤ 8 := by rw [List.length_take]; omega
  exact Nat.le_trans (Nat.pow_le_pow_right (by decide) this) (by decide)
section
variable {P : Program} {w : World} {K : PySem.W.Frag} {mg : Str → Option Value} {base : Heap} {Ps : Tbs}
def spParts8 (K : PySem.W.Frag) (Ps : Tbs) : Sp := fun vs H Q _ => ∃ (x : V) (fc : List Int), vs = [x] ∧ TupI K H x fc ∧ fc.length ≤ 8 ∧ Tb Ps H ∧ ∀ l ys H', Ext Ps H H' → H l = none → H' l = some (.lst ys) → Paired (TupI K H') ys (sortL (subsL fc)) → Q (.ref l) H'
end
end Lf

set_option maxHeartbeats 4000000
namespace Lf
open PySem PySem.Spec PyProof.Rows L2 GxR GxA SrT
def fullL (n k : Nat) : List (List Int) := (sortL (subsL (rng n))).filter fun g => decide (g.length = k)
def stepsL (m : Nat) : List (List Int) := (List.range m).map fun i : Nat => [(i : Int), (i : Int) + 1]
def ringL (n : Nat) : List (List Int) := sortL (stepsL (n - 1) ++ [[0, (n : Int) - 1]])
def pairsP : Nat → List (List Int)
  | 0 => [[]]
  | i + 1 => (pairsP i).flatMap fun g => [g ++ [2 * (i : Int)], g ++ [2 * (i : Int) + 1]]
theorem pairsP_len : ∀ i, (pairsP i).length = 2 ^ i ∧ ∀ g ∈ pairsP i, g.length = i
  | 0 => ⟨rfl, fun g hg => by rw [List.mem_singleton.mp hg]; rfl⟩
  | i + 1 => by
    obtain ⟨h1, h2⟩ := pairsP_len i
    constructor
    · show (List.flatMap _ (pairsP i)).length = _
      rw [List.length_flatMap]
      have : ∀ l : List (List Int), (l.map fun g : List Int => ([g ++ [2 * (i : Int)], g ++ [2 * (i : Int) + 1]] : List (List Int)).length).sum = 2 * l.length := fun l => by
        induction l with
        | nil => rfl
        | cons g l ih =>
          rw [List.map_cons, List.sum_cons, ih, List.length_cons]
          simp
          omega
      rw [this, h1, Nat.pow_succ]
      omega
    · intro g hg
      obtain ⟨g0, hg0, hg1⟩ := List.mem_flatMap.mp hg
      have := h2 g0 hg0
      simp only [List.mem_cons, List.not_mem_nil, or_false] at hg1
      rcases hg1 with rfl | rfl <;> simp [this]
section
variable {P : Program} {w : World} {K : PySem.W.Frag} {mg : Str → Option Value} {base : Heap} {Ps : Tbs} {H H' H0 : Hp} {k : Nat} {f c : Addr} {fd : FuncData} {CN : Addr}
/-! ### full_stack -/
def spFull (K : PySem.W.Frag) (Ps : Tbs) : Sp := fun vs H Q _ => ∃ n kk : Nat, vs = [.int n, .int kk] ∧ 1 ≤ n ∧ n ≤ 8 ∧ kk ≤ n ∧ kk ≤ 4 ∧ Tb Ps H ∧ ∀ v H', Ext Ps H H' → Stk K H' v n kk (fullL n kk) → Q v H'
def spBadFull (K : PySem.W.Frag) (CN : Addr) : Sp := fun vs H _ E => ∃ (x y : V) (d : PyData), vs = [x, y] ∧ Th K H x d ∧ intIn d 1 8 = false ∧ E (.ref CN) none H
def spBadFullK (K : PySem.W.Frag) (CN : Addr) : Sp := fun vs H _ E => ∃ (n : Nat) (y : V) (d : PyData), vs = [.int n, y] ∧ 1 ≤ n ∧ n ≤ 8 ∧ Th K H y d ∧ intIn d 0 (if (4 : Int) < n then 4 else n) = false ∧ E (.ref CN) none H
/-! ### steps, row_stack, ring_stack -/
def spSteps (K : PySem.W.Frag) (Ps : Tbs) : Sp := fun vs H Q _ => ∃ n : Nat, vs = [.int n] ∧ 1 ≤ n ∧ n ≤ 8 ∧ Tb Ps H ∧ ∀ l ys H', Ext Ps H H' → H l = none → H' l = some (.lst ys) → Paired (TupI K H') ys (stepsL (n - 1)) → Q (.ref l) H'
theorem stepsL_succ (m : Nat) : stepsL (m + 1) = stepsL m ++ [[(m : Int), (m : Int) + 1]] := by
  unfold stepsL
  rw [List.range_succ, List.map_append]
  rfl
def spRow (K : PySem.W.Frag) (Ps : Tbs) : Sp := fun vs H Q _ => ∃ n : Nat, vs = [.int n] ∧ 2 ≤ n ∧ n ≤ 8 ∧ Tb Ps H ∧ ∀ v H', Ext Ps H H' → Stk K H' v n 2 (stepsL (n - 1)) → Q v H'
def spBadRow (K : PySem.W.Frag) (CN : Addr) : Sp := fun vs H _ E => ∃ (x : V) (d : PyData), vs = [x] ∧ Th K H x d ∧ intIn d 2 8 = false ∧ E (.ref CN) none H
def spRing (K : PySem.W.Frag) (Ps : Tbs) : Sp := fun vs H Q _ => ∃ n : Nat, vs = [.int n] ∧ 3 ≤ n ∧ n ≤ 8 ∧ Tb Ps H ∧ ∀ v H', Ext Ps H H' → Stk K H' v n 2 (ringL n) → Q v H'
def spBadRing (K : PySem.W.Frag) (CN : Addr) : Sp := fun vs H _ E => ∃ (x : V) (d : PyData), vs = [x] ∧ Th K H x d ∧ intIn d 3 8 = false ∧ E (.ref CN) none H
/-! ### pairs_stack -/
def spPairs (K : PySem.W.Frag) (Ps : Tbs) : Sp := fun vs H Q _ => ∃ n : Nat, vs = [.int n] ∧ 1 ≤ n ∧ n ≤ 4 ∧ Tb Ps H ∧ ∀ v H', Ext Ps H H' → Stk K H' v (2 * (n : Int)) n (pairsP n) → Q v H'
def spBadPairs (K : PySem.W.Frag) (CN : Addr) : Sp := fun vs H _ E => ∃ (x : V) (d : PyData), vs = [x] ∧ Th K H x d ∧ intIn d 1 4 = false ∧ E (.ref CN) none H
end
end Lf

set_option maxHeartbeats 4000000
namespace Lf
open PySem PySem.Spec PyProof.Rows L2 GxR GxA SrT
abbrev sEveryL : Stmt := topS 51
abbrev sMade : Stmt := topS 53
abbrev sPairsL : Stmt := topS 57
theorem scEveryL : FnScope ["_law_n", "_law_k", "_law_found", "_law_point", "_law_one"] ["_law_n", "_law_k"] (defScope sEveryL) := ⟨rfl, rfl, rfl, by decide +kernel, rfl, by decide +kernel, by decide +kernel⟩
theorem scMade : FnScope ["_law_n", "_law_k", "_law_faces"] ["_law_n", "_law_k", "_law_faces"] (defScope sMade) := ⟨rfl, rfl, rfl, by decide +kernel, rfl, by decide +kernel, by decide +kernel⟩
theorem scPairsL : FnScope ["_law_d", "_law_found", "_law_place", "_law_one"] ["_law_d"] (defScope sPairsL) := ⟨rfl, rfl, rfl, by decide +kernel, rfl, by decide +kernel, by decide +kernel⟩
def everyL (n k : Nat) : List (List Int) := sortL ((subsL (rng n)).filter fun g => decide (g.length = k))
def pairsQ : Nat → List (List Int)
  | 0 => [[]]
  | i + 1 => (pairsQ i).map (· ++ [2 * (i : Int)]) ++ (pairsQ i).map (· ++ [2 * (i : Int) + 1])
theorem pairsQ_len : ∀ i, (pairsQ i).length = 2 ^ i ∧ ∀ g ∈ pairsQ i, g.length = i
  | 0 => ⟨rfl, fun g hg => by rw [List.mem_singleton.mp hg]; rfl⟩
  | i + 1 => by
    obtain ⟨h1, h2⟩ := pairsQ_len i
    constructor
    · show (List.map _ (pairsQ i) ++ List.map _ (pairsQ i)).length = _
      rw [List.length_append, List.length_map, List.length_map, h1, Nat.pow_succ]
      omega
    · intro g hg
      rcases List.mem_append.mp hg with hg | hg
      · obtain ⟨g0, hg0, rfl⟩ := List.mem_map.mp hg
        simp [h2 g0 hg0]
      · obtain ⟨g0, hg0, rfl⟩ := List.mem_map.mp hg
        simp [h2 g0 hg0]
section
variable {P : Program} {w : World} {K : PySem.W.Frag} {mg : Str → Option Value} {base : Heap} {Ps : Tbs} {H H' H0 : Hp} {k : Nat} {f c : Addr} {fd : FuncData}
/-- the reading of [one + (point,) for one in found] -/
theorem rd_grow {D0 : Addr} {ys : List V} {gss : List (List Int)} {pt : Int} {H3 H4 : Hp} {j : Nat} {g : List Int} {t u : Addr} (hD : H3 D0 = none) (hy : ys.length ≤ 256) (hj : j < ys.length) (hg : gss[j]? = some g) (hgl : g.length ≤ 8) (hT : SqT K H4 t (g.map V.int))
    (p : CP Ps (TupI K) H3 D0 ((gss.take j).map (· ++ [pt])) j H4) (hu : H4 u = none) : rCatI K Ps (.ref t) (.ref u) (upd H4 u (.tup [.int pt])) (fun v H6 => ∃ acc, H6 D0 = some (.lst acc) ∧ acc.length < sizeLine ∧ CP Ps (TupI K) H3 D0 ((gss.take (j + 1)).map (· ++ [pt])) (j + 1) (upd H6 D0 (.lst (acc ++ [v])))) := by
  have x5 := Ext.new (o := .tup [.int pt]) p.ext.tb hu
  refine ⟨g, [pt], ⟨t, rfl, x5.sqT hT⟩, ⟨u, rfl, .inl (.inl upd_same)⟩, by simp; omega, x5.tb, fun v H6 e6 hv => ?_⟩
  have r := CP.put (stbT (K := K)) hD (by omega) (p.skip (stbT (K := K)) (x5.trans e6)) hv
  rw [List.take_add_one, hg, List.map_append]
  exact r
/-! ### _law_every -/
def spEveryK (K : PySem.W.Frag) (Ps : Tbs) : Sp := fun vs H Q _ => ∃ n kk : Nat, vs = [.int n, .int kk] ∧ n ≤ 8 ∧ kk ≤ 8 ∧ Tb Ps H ∧ ∀ l ys H', Ext Ps H H' → H l = none → H' l = some (.lst ys) → Paired (TupI K H') ys (everyL n kk) → Q (.ref l) H'
theorem ok_everyL (D : Def K mg "_law_every" sEveryL ["_law_n", "_law_k"] f fd c) (mr : mg "range" = none) (ml : mg "len" = none) (ms : mg "sorted" = none) : FnOk P w K mg base CX0 (k + 1) f fd ["_law_n", "_law_k"] (spEveryK K Ps) := by
  refine D.ok (k := k) scEveryL (fun vs H Q E h => ?_) (fun A outer s H vs Q E hr h => ?_)
  · obtain ⟨n, kk, rfl, _⟩ := h
    rfl
  · obtain ⟨n, kk, rfl, hn, hk, ht, q⟩ := h
    refine ⟨_, (pss_cons (ps_set (i := 2) scEveryL.nd rfl (.inl rfl) (pe_lst (pa_cons (pe_tup pa_nil) pa_nil))) (pss_cons (ps_for PassesOwn.never rfl (pi_range1 (by rfl) mr (pa_cons (pv 0) pa_nil)) (pg_name (i := 3) scEveryL.nd rfl (.inr rfl)) (pss_one (ps_set (i := 2) scEveryL.nd rfl (.inl rfl) (pe_op op_cat (pv 2) (pe_lc (own := [("_law_one", 4)]) (g := gName 4) (by rfl) scEveryL.nd (pi_list (pv 2)) (blkOk_by (N := ["_law_n", "_law_k", "_law_found", "_law_point", "_law_one"]) (sc := defScope sEveryL) (by decide +kernel)) (fun _ _ _ _ _ => pg_name (i := 4) scEveryL.nd rfl (Or.inl rfl)) (fun _ _ _ _ _ => pts_nil) (fun _ _ _ _ _ => (pe_op (show OpR _ _ (rCatI K Ps) from op_catI) (pv 4) (pe_tup (pa_cons (pv 3) pa_nil))))))))) (pss_one (ps_ret (pe_callB (cr_sortL hr.units) (by rfl) ms (by decide +kernel) (pa_cons (pe_lc (own := [("_law_one", 4)]) (g := gName 4) (by rfl) scEveryL.nd (pi_list (pv 2)) (blkOk_by (N := ["_law_n", "_law_k", "_law_found", "_law_point", "_law_one"]) (sc := defScope sEveryL) (by decide +kernel)) (fun _ _ _ _ _ => pg_name (i := 4) scEveryL.nd rfl (Or.inl rfl)) (fun _ _ _ _ _ => pts_one (pt_cmpR op_eq (pe_callB (call_lenS (K := K) rfl) (by rfl) ml PySem.boot_len (pa_cons (pv 4) pa_nil)) (pv 1) (nomark _))) (fun _ _ _ _ _ => (pv 4))) pa_nil)))))), ?_⟩
    refine ⟨Nat.zero_le _, fun e he => ⟨(by show 1 ≤ sizeLine; decide), fun l0 hl0 => ?_⟩⟩
    have x1 : Ext Ps H (upd H e (.tup [])) := Ext.new ht he
    have x2 := x1.trans (Ext.new (o := .lst [.ref e]) x1.tb hl0)
    have h8 : (rng n).length ≤ 8 := by rw [rng_len]; exact hn
    refine ⟨.int n, rfl, (n : Int), rfl, by omega, by omega, for_range (lo := 0) (n := (n : Int).toNat) (fun i σ H3 => Ext Ps H H3 ∧ ∃ (l : Addr) (ys : List V) (y3 : Option V), σ = [some (.int n), some (.int kk), some (.ref l), y3, none] ∧ H l = none ∧ H3 l = some (.lst ys) ∧ Paired (TupI K H3) ys (subsL ((rng n).take i))) ?_ (fun i σ H3 hi p => ?_) (fun σ H3 p => ?_)⟩
    · refine ⟨x2, l0, [.ref e], none, rfl, x1.free hl0, upd_same, .cons ⟨e, rfl, .inl (.inl ?_)⟩ .nil⟩
      rw [upd_ne (ne_of_none upd_same hl0)]
      exact upd_same
    · obtain ⟨x3, l, ys, y3, rfl, hnl, h3, hp⟩ := p
      have hin : i < n := by omega
      have h256 := subs_le8 h8 i
      have hlen : ys.length ≤ 256 := by
        rw [Paired.length hp]
        exact h256
      have e0 : (0 : Int) + (i : Nat) = (i : Nat) := by omega
      have hri : (rng n)[i]? = some (i : Int) := by
        unfold rng
        rw [List.getElem?_map, List.getElem?_range hin]
        rfl
      refine ⟨.ref l, rfl, .ref l, rfl, l, rfl, ⟨_, .inl (.inl h3)⟩, fun D0 hD => lc_list (K := K) (a := l) (xs := ys) (fun j H4 => CP Ps (TupI K) H3 D0 (((subsL ((rng n).take i)).take j).map (· ++ [(i : Int)])) j H4) (CP.start x3.tb hD) (fun j H4 _ p => p.ext.sqL (.inl (.inl h3))) (fun j z H4 hz p => ?_) (fun H4 p => ?_)⟩
      · obtain ⟨g, hg, t, rfl, hT⟩ := paired_get hp hz
        have hj : j < ys.length := (List.getElem?_eq_some_iff.mp hz).1
        have hgl : g.length ≤ 8 := by
          have := (mem_subs.mp (List.mem_of_getElem? hg)).length_le
          rw [List.length_take] at this
          omega
        refine ⟨rfl, yes_ (iteT ⟨.ref t, rfl, .int (0 + (i : Nat)), rfl, (by show 1 ≤ sizeLine; decide), fun u hu => ?_⟩)⟩
        rw [e0]
        exact rd_grow (K := K) hD hlen hj hg hgl (p.ext.sqT hT) p hu
      · obtain ⟨zs, h4, h5, h6⟩ := p.at_
        refine ⟨l, D0, ys, zs, rfl, rfl, p.ext.lst h3, h4, Nat.le_of_lt (small1000 (by omega)), fun l2 hl2 => ?_⟩
        have x6 := Ext.new (o := .lst (ys ++ zs)) p.ext.tb hl2
        refine ⟨x3.trans (p.ext.trans x6), l2, ys ++ zs, some (.int (0 + (i : Nat))), rfl, (x3.trans p.ext).free hl2, upd_same, ?_⟩
        rw [subs_take hri]
        unfold grow
        have e9 : (subsL ((rng n).take i)).take ys.length = subsL ((rng n).take i) := by
          rw [Paired.length hp, List.take_length]
        rw [e9] at h5
        exact x6.tups (paired_app (p.ext.tups hp) h5)
    · obtain ⟨x3, l, ys, y3, rfl, hnl, h3, hp⟩ := p
      rw [Int.toNat_natCast, List.take_of_length_le (by rw [rng_len]; exact Nat.le_refl _)] at hp
      have hlen : ys.length ≤ 256 := by
        have := subs_le8 h8 n
        rw [List.take_of_length_le (by rw [rng_len]; exact Nat.le_refl _)] at this
        rw [Paired.length hp]
        exact this
      refine ⟨.ref l, rfl, l, rfl, ⟨_, .inl (.inl h3)⟩, fun D0 hD => lc_list (K := K) (a := l) (xs := ys) (fun j H4 => CP Ps (TupI K) H3 D0 (((subsL (rng n)).take j).filter fun g => decide (g.length = kk)) j H4) (by rw [List.take_zero]; exact CP.start x3.tb hD) (fun j H4 _ p => p.ext.sqL (.inl (.inl h3))) (fun j z H4 hz p => ?_) (fun H4 p => ?_)⟩
      · obtain ⟨g, hg, t2, rfl, hT⟩ := paired_get hp hz
        have hj : j < ys.length := (List.getElem?_eq_some_iff.mp hz).1
        have hft := filt_take (fun g : List Int => decide (g.length = kk)) hg
        refine ⟨rfl, .ref t2, rfl, t2, _, rfl, .inr (p.ext.sqT hT), .int kk, rfl, rfl, _, rfl, ?_⟩
        have ed : decide (V.int ((g.map V.int).length : Int) = V.int (kk : Int)) = decide (g.length = kk) := by
          rw [List.length_map]
          congr 1
          exact propext ⟨fun z => by injection z with z; omega, fun z => by rw [z]⟩
        rw [ed]
        refine ite2 (fun hc => ?_) (fun hc => ?_)
        · refine ⟨.ref t2, rfl, ?_⟩
          have r := CP.put (stbT (K := K)) hD (by omega) p (show TupI K H4 (.ref t2) g from ⟨t2, rfl, p.ext.sqT hT⟩)
          rw [if_pos hc] at hft
          rw [hft]
          exact r
        · rw [if_neg hc, List.append_nil] at hft
          rw [hft]
          exact p.mono (Nat.le_succ j)
      · obtain ⟨zs, g1, g2, g3⟩ := p.at_
        rw [Paired.length hp, List.take_length] at g2
        refine ⟨D0, zs, _, rfl, .inl (.inl g1), g2, fun ws u hw _ nu => ?_⟩
        have x7 := Ext.new (o := .lst ws) p.ext.tb nu
        exact q u ws _ (x3.trans (p.ext.trans x7)) ((x3.trans p.ext).free nu) upd_same (x7.tups hw)
/-! ### _law_made -/
def spMade (K : PySem.W.Frag) (Ps : Tbs) : Sp := fun vs H Q _ => ∃ (n kk : Int) (l : Addr) (xs : List V) (fss : List (List Int)), vs = [.int n, .int kk, .ref l] ∧ SqL K H l xs ∧ Paired (TupI K H) xs fss ∧ Tb Ps H ∧ ∀ v H', Ext Ps H H' → Stk K H' v n kk (sortL fss) → Q v H'
theorem ok_made (D : Def K mg "_law_made" sMade ["_law_n", "_law_k", "_law_faces"] f fd c) (mt : mg "tuple" = none) (ms : mg "sorted" = none) : FnOk P w K mg base CX0 (k + 1) f fd ["_law_n", "_law_k", "_law_faces"] (spMade K Ps) := by
  refine D.ok (k := k) scMade (fun vs H Q E h => ?_) (fun A outer s H vs Q E hr h => ?_)
  · obtain ⟨n, kk, l, xs, fss, rfl, _⟩ := h
    rfl
  · obtain ⟨n, kk, l, xs, fss, rfl, hl, hp, ht, q⟩ := h
    refine ⟨_, (pss_one (ps_ret (pe_tup (pa_cons (pv 0) (pa_cons (pv 1) (pa_cons (pe_callTy call_tuple_of (by rfl) mt (by decide +kernel) (pa_cons (pe_callB (cr_sortL hr.units) (by rfl) ms (by decide +kernel) (pa_cons (pv 2) pa_nil)) pa_nil)) pa_nil)))))), ?_⟩
    refine ⟨.int n, rfl, .int kk, rfl, .ref l, rfl, l, xs, fss, rfl, hl, hp, fun zs p hz _ np => ?_⟩
    have x5 := Ext.new (o := .lst zs) ht np
    refine ⟨p, zs, rfl, .inl ⟨.inl (.inl upd_same), fun tf ntf => ⟨(by show 3 ≤ sizeLine; decide), fun ts nts => ?_⟩⟩⟩
    have x6 := Ext.new (o := .tup zs) x5.tb ntf
    have x7 := Ext.new (o := .tup [.int n, .int kk, .ref tf]) x6.tb nts
    exact q _ _ (x5.trans (x6.trans x7)) ⟨ts, tf, zs, rfl, .inl (.inl upd_same), x7.sqT (.inl (.inl upd_same)), (x5.trans (x6.trans x7)).tups hz⟩
/-! ### _law_pairs -/
def spPairsL (K : PySem.W.Frag) (Ps : Tbs) : Sp := fun vs H Q _ => ∃ d : Nat, vs = [.int d] ∧ d ≤ 4 ∧ Tb Ps H ∧ ∀ l ys H', Ext Ps H H' → H l = none → H' l = some (.lst ys) → Paired (TupI K H') ys (sortL (pairsQ d)) → Q (.ref l) H'
theorem ok_pairsL (D : Def K mg "_law_pairs" sPairsL ["_law_d"] f fd c) (mr : mg "range" = none) (ms : mg "sorted" = none) : FnOk P w K mg base CX0 (k + 1) f fd ["_law_d"] (spPairsL K Ps) := by
  refine D.ok (k := k) scPairsL (fun vs H Q E h => ?_) (fun A outer s H vs Q E hr h => ?_)
  · obtain ⟨d, rfl, _⟩ := h
    rfl
  · obtain ⟨d, rfl, d4, ht, q⟩ := h
    refine ⟨_, (pss_cons (ps_set (i := 1) scPairsL.nd rfl (.inl rfl) (pe_lst (pa_cons (pe_tup pa_nil) pa_nil))) (pss_cons (ps_for PassesOwn.never rfl (pi_range1 (by rfl) mr (pa_cons (pv 0) pa_nil)) (pg_name (i := 2) scPairsL.nd rfl (.inr rfl)) (pss_one (ps_set (i := 1) scPairsL.nd rfl (.inl rfl) (pe_op op_cat (pe_lc (own := [("_law_one", 3)]) (g := gName 3) (by rfl) scPairsL.nd (pi_list (pv 1)) (blkOk_by (N := ["_law_d", "_law_found", "_law_place", "_law_one"]) (sc := defScope sPairsL) (by decide +kernel)) (fun _ _ _ _ _ => pg_name (i := 3) scPairsL.nd rfl (Or.inl rfl)) (fun _ _ _ _ _ => pts_nil) (fun _ _ _ _ _ => (pe_op (show OpR _ _ (rCatI K Ps) from op_catI) (pv 3) (pe_tup (pa_cons (pe_op op_mul pe_int (pv 2)) pa_nil))))) (pe_lc (own := [("_law_one", 3)]) (g := gName 3) (by rfl) scPairsL.nd (pi_list (pv 1)) (blkOk_by (N := ["_law_d", "_law_found", "_law_place", "_law_one"]) (sc := defScope sPairsL) (by decide +kernel)) (fun _ _ _ _ _ => pg_name (i := 3) scPairsL.nd rfl (Or.inl rfl)) (fun _ _ _ _ _ => pts_nil) (fun _ _ _ _ _ => (pe_op (show OpR _ _ (rCatI K Ps) from op_catI) (pv 3) (pe_tup (pa_cons (pe_op op_add (pe_op op_mul pe_int (pv 2)) pe_int) pa_nil))))))))) (pss_one (ps_ret (pe_callB (cr_sortL hr.units) (by rfl) ms (by decide +kernel) (pa_cons (pv 1) pa_nil)))))), ?_⟩
    refine ⟨Nat.zero_le _, fun e he => ⟨(by show 1 ≤ sizeLine; decide), fun l0 hl0 => ?_⟩⟩
    have x1 : Ext Ps H (upd H e (.tup [])) := Ext.new ht he
    have x2 := x1.trans (Ext.new (o := .lst [.ref e]) x1.tb hl0)
    refine ⟨.int d, rfl, (d : Int), rfl, by omega, by omega, for_range (lo := 0) (n := (d : Int).toNat) (fun i σ H3 => Ext Ps H H3 ∧ ∃ (l : Addr) (ys : List V) (y2 : Option V), σ = [some (.int d), some (.ref l), y2, none] ∧ H l = none ∧ H3 l = some (.lst ys) ∧ Paired (TupI K H3) ys (pairsQ i)) ?_ (fun i σ H3 hi p => ?_) (fun σ H3 p => ?_)⟩
    · refine ⟨x2, l0, [.ref e], none, rfl, x1.free hl0, upd_same, .cons ⟨e, rfl, .inl (.inl ?_)⟩ .nil⟩
      rw [upd_ne (ne_of_none upd_same hl0)]
      exact upd_same
    · obtain ⟨x3, l, ys, y2, rfl, hnl, h3, hp⟩ := p
      have hid : i < d := by omega
      have hlen : ys.length ≤ 16 := by
        rw [Paired.length hp, (pairsQ_len i).1]
        exact Nat.le_trans (Nat.pow_le_pow_right (by decide) (show i ≤ 4 by omega)) (by decide)
      have e0 : (0 : Int) + (i : Nat) = (i : Nat) := by omega
      have e9 : (pairsQ i).take ys.length = pairsQ i := by rw [Paired.length hp, List.take_length]
      refine ⟨.ref l, rfl, l, rfl, ⟨_, .inl (.inl h3)⟩, fun D0 hD => lc_list (K := K) (a := l) (xs := ys) (fun j H4 => CP Ps (TupI K) H3 D0 (((pairsQ i).take j).map (· ++ [2 * (i : Int)])) j H4) (CP.start x3.tb hD) (fun j H4 _ p => p.ext.sqL (.inl (.inl h3))) (fun j z H4 hz p => ?_) (fun H4 p => ?_)⟩
      · obtain ⟨g, hg, t, rfl, hT⟩ := paired_get hp hz
        have hj : j < ys.length := (List.getElem?_eq_some_iff.mp hz).1
        have hgl : g.length ≤ 8 := by have := (pairsQ_len i).2 g (List.mem_of_getElem? hg); omega
        refine ⟨rfl, yes_ (iteT ⟨.ref t, rfl, .int (0 + (i : Nat)), rfl, 2, _, rfl, rfl, .inl ⟨by decide, by decide⟩, (by show 1 ≤ sizeLine; decide), fun u hu => ?_⟩)⟩
        rw [e0]
        exact rd_grow (K := K) hD (by omega) hj hg hgl (p.ext.sqT hT) p hu
      · obtain ⟨zs, h4, h5, h6⟩ := p.at_
        rw [e9] at h5
        have x4 := x3.trans p.ext
        have h34 := p.ext.lst h3
        have hp4 := p.ext.tups hp
        refine ⟨.ref l, rfl, l, rfl, ⟨_, .inl (.inl h34)⟩, fun D1 hD1 => lc_list (K := K) (a := l) (xs := ys) (fun j H5 => CP Ps (TupI K) H4 D1 (((pairsQ i).take j).map (· ++ [2 * (i : Int) + 1])) j H5) (CP.start x4.tb hD1) (fun j H5 _ p => p.ext.sqL (.inl (.inl h34))) (fun j z H5 hz p2 => ?_) (fun H5 p2 => ?_)⟩
        · obtain ⟨g, hg, t, rfl, hT⟩ := paired_get hp4 hz
          have hj : j < ys.length := (List.getElem?_eq_some_iff.mp hz).1
          have hgl : g.length ≤ 8 := by have := (pairsQ_len i).2 g (List.mem_of_getElem? hg); omega
          refine ⟨rfl, yes_ (iteT ⟨.ref t, rfl, .int (0 + (i : Nat)), rfl, 2, _, rfl, rfl, .inl ⟨by decide, by decide⟩, _, 1, rfl, rfl, (by show 1 ≤ sizeLine; decide), fun u hu => ?_⟩)⟩
          rw [e0]
          exact rd_grow (K := K) hD1 (by omega) hj hg hgl (p2.ext.sqT hT) p2 hu
        · obtain ⟨ws, k4, k5, k6⟩ := p2.at_
          rw [e9] at k5
          refine ⟨D0, D1, zs, ws, rfl, rfl, p2.ext.lst h4, k4, Nat.le_of_lt (small1000 (by omega)), fun l2 hl2 => ?_⟩
          have x6 := Ext.new (o := .lst (zs ++ ws)) p2.ext.tb hl2
          exact ⟨x4.trans (p2.ext.trans x6), l2, zs ++ ws, some (.int (0 + (i : Nat))), rfl, (x4.trans p2.ext).free hl2, upd_same, x6.tups (paired_app (p2.ext.tups h5) k5)⟩
    · obtain ⟨x3, l, ys, y2, rfl, hnl, h3, hp⟩ := p
      rw [Int.toNat_natCast] at hp
      refine ⟨.ref l, rfl, l, ys, _, rfl, .inl (.inl h3), hp, fun ws u hw _ nu => ?_⟩
      have x7 := Ext.new (o := .lst ws) x3.tb nu
      exact q u ws _ (x3.trans x7) (x3.free nu) upd_same (x7.tups hw)
end
end Lf

set_option maxHeartbeats 4000000
namespace Lf
open PySem PySem.Spec PyProof.Rows L2 GxR GxA SrT
abbrev sSize : Stmt := topS 52
theorem scSize : FnScope ["_law_pen_here", "_law_k"] ["_law_pen_here"] (defScope sSize) := ⟨rfl, rfl, rfl, by decide +kernel, rfl, by decide +kernel, by decide +kernel⟩
theorem mem_everyL {n k : Nat} {g : List Int} : g ∈ everyL n k ↔ g.Sublist (rng n) ∧ g.length = k := by
  unfold everyL
  rw [(sortL_perm _).mem_iff, List.mem_filter, mem_subs, decide_eq_true_eq]
theorem nodup_everyL (n k : Nat) : (everyL n k).Nodup := by
  unfold everyL
  exact (sortL_perm _).nodup_iff.mpr ((subs_nodup _ (rng n) rfl (nd_rng n)).filter _)
theorem everyL_len {n k : Nat} (h : n ≤ 8) : (everyL n k).length ≤ 256 := by
  unfold everyL
  rw [(sortL_perm _).length_eq]
  refine Nat.le_trans (List.length_filter_le _ _) ?_
  rw [subs_len, rng_len]
  exact Nat.le_trans (Nat.pow_le_pow_right (by decide) h) (by decide)
theorem everyL_pos : ∀ n, n < 9 → ∀ k, k < 5 → k ≤ n → 0 < ((subsL (rng n)).filter fun g => decide (g.length = k)).length := by decide +kernel
theorem every_pos {n k : Nat} (h8 : n ≤ 8) (h4 : k ≤ 4) (hk : k ≤ n) : 1 ≤ (everyL n k).length := by
  unfold everyL
  rw [(sortL_perm _).length_eq]
  exact everyL_pos n (by omega) k (by omega) hk
theorem seqIx {m j : Nat} (h : j < m) : seqIndex? (j : Int) m = some j := by
  have e : (if (j : Int) < 0 then (j : Int) + m else (j : Int)) = (j : Int) := if_neg (by omega)
  unfold seqIndex?
  simp only [e]
  rw [decide_eq_true (show (0 : Int) ≤ j by omega), decide_eq_true (show (j : Int) < m by omega)]
  simp
section
variable {P : Program} {w : World} {K : PySem.W.Frag} {mg : Str → Option Value} {base : Heap} {Ps : Tbs} {H H' H0 : Hp} {k : Nat} {f c : Addr} {fd : FuncData}
theorem tups_put {r : Addr} {l l' xs : List V} {fss : List (List Int)} (hr : H r = some (.lst l)) (h : Paired (TupI K H) xs fss) : Paired (TupI K (upd H r (.lst l'))) xs fss := L2.Paired.mapP h fun _ _ z => let ⟨t, e, s⟩ := z; ⟨t, e, sqT_put hr s⟩
theorem paired_erase {α γ : Type} {G : α → γ → Prop} : ∀ {xs : List α} {ys : List γ} (j : Nat), Paired G xs ys → Paired G (xs.eraseIdx j) (ys.eraseIdx j)
  | _, _, _, .nil => .nil
  | _, _, 0, .cons r t => t
  | _, _, j + 1, .cons r t => .cons r (paired_erase j t)
theorem perm_erase {α : Type} : ∀ {l : List α} {j : Nat} {y : α}, l[j]? = some y → (y :: l.eraseIdx j).Perm l
  | [], j, y, h => by simp at h
  | x :: l, 0, y, h => by
    cases h
    exact List.Perm.refl _
  | x :: l, j + 1, y, h => by
    have := perm_erase (l := l) (j := j) h
    exact (List.Perm.swap x y _).trans (this.cons x)
/-! ### _law_size -/
def spSize (K : PySem.W.Frag) (Ps : Tbs) : Sp := fun vs H Q _ => ∃ a : Addr, vs = [.ref a] ∧ Pen H a ∧ Tb Ps H ∧ ∀ (t : Addr) (n kk : Nat) (H' : Hp), Epn Ps a H H' → SqT K H' t [.int n, .int kk] → 1 ≤ n → n ≤ 8 → kk ≤ n → kk ≤ 4 → Q (.ref t) H'
theorem ok_size {fD cD : Addr} {fdD : FuncData} (D : Def K mg "_law_size" sSize ["_law_pen_here"] f fd c) (DD : Def K mg "_law_draw" sDraw ["_law_pen_here", "_law_many"] fD fdD cD) (GD : FnOk P w K mg base CX0 k fD fdD ["_law_pen_here", "_law_many"] spDraw) (mx : mg "max" = none) : FnOk P w K mg base CX0 (k + 1) f fd ["_law_pen_here"] (spSize K Ps) := by
  refine D.ok (k := k) scSize (fun vs H Q E h => ?_) (fun A outer s H vs Q E hr h => ?_)
  · obtain ⟨a, rfl, _⟩ := h
    rfl
  · obtain ⟨a, rfl, hP, ht, q⟩ := h
    refine ⟨_, (pss_cons (ps_set (i := 1) scSize.nd rfl (.inl rfl) (pe_ix ix_list (pe_lst (pa_cons pe_int (pa_cons pe_int (pa_cons pe_int (pa_cons pe_int (pa_cons pe_int (pa_cons pe_int (pa_cons pe_int (pa_cons pe_int pa_nil))))))))) (pcl DD GD hr (pa_cons (pv 0) (pa_cons pe_int pa_nil))) (fun _ _ => rfl))) (pss_one (ps_ret (pe_tup (pa_cons (pe_op op_add (pe_callB (call_max2 rfl) (by rfl) mx (by decide +kernel) (pa_cons pe_int (pa_cons (pv 1) pa_nil))) (pcl DD GD hr (pa_cons (pv 0) (pa_cons (pe_op op_sub pe_int (pe_callB (call_max2 rfl) (by rfl) mx (by decide +kernel) (pa_cons pe_int (pa_cons (pv 1) pa_nil)))) pa_nil)))) (pa_cons (pv 1) pa_nil)))))), ?_⟩
    refine tseq_intro fun R hR => ?_
    refine ⟨(by show 8 ≤ sizeLine; decide), fun l nl => ?_⟩
    have x1 := Ext.new (o := .lst [.int 2, .int 3, .int 2, .int 3, .int 1, .int 4, .int 0, .int 2]) ht nl
    have hl : upd H l (.lst [.int 2, .int 3, .int 2, .int 3, .int 1, .int 4, .int 0, .int 2]) l = some (.lst [.int 2, .int 3, .int 2, .int 3, .int 1, .int 4, .int 0, .int 2]) := upd_same
    have e1 := x1.epn hP
    have nla : l ≠ a := by
      obtain ⟨u, v, e⟩ := hP
      exact (ne_of_none e nl).symm
    generalize upd H l (.lst [.int 2, .int 3, .int 2, .int 3, .int 1, .int 4, .int 0, .int 2]) = H1 at *
    refine ⟨.ref a, rfl, a, 8, rfl, e1.pen, by decide, by decide, fun u1 f1 r1 r10 r11 => ?_⟩
    have e2 : Epn Ps a H (upd H1 a (.lst [.int u1, .int f1])) := e1.trans (Epn.draw e1.tb e1.pen)
    have hl2 := (Epn.draw (x := u1) (f := f1) e1.tb e1.pen).lst nla hl
    generalize upd H1 a (.lst [.int u1, .int f1]) = H2 at *
    obtain ⟨j, rfl⟩ := Int.eq_ofNat_of_zero_le r10
    obtain ⟨kk, hk, hk4⟩ : ∃ kk : Nat, [V.int 2, .int 3, .int 2, .int 3, .int 1, .int 4, .int 0, .int 2][j]? = some (.int kk) ∧ kk ≤ 4 := by
      have hj : j < 8 := by omega
      match j, hj with
      | 0, _ => exact ⟨2, rfl, by decide⟩
      | 1, _ => exact ⟨3, rfl, by decide⟩
      | 2, _ => exact ⟨2, rfl, by decide⟩
      | 3, _ => exact ⟨3, rfl, by decide⟩
      | 4, _ => exact ⟨1, rfl, by decide⟩
      | 5, _ => exact ⟨4, rfl, by decide⟩
      | 6, _ => exact ⟨0, rfl, by decide⟩
      | 7, _ => exact ⟨2, rfl, by decide⟩
    refine ⟨l, _, (j : Int), .int kk, rfl, rfl, .inl (.inl hl2), atI_nat hk, ?_⟩
    show R [some (.ref a), some (.int kk)] H2
    rw [hR]
    refine ⟨.int kk, rfl, 1, kk, rfl, .ref a, rfl, .int kk, rfl, 1, kk, rfl, 9, _, rfl, rfl, a, _, rfl, e2.pen, ?_, ?_, fun u2 f2 r2 r20 r21 => ?_⟩
    · split <;> omega
    · split <;> omega
    have e3 : Epn Ps a H (upd H2 a (.lst [.int u2, .int f2])) := e2.trans (Epn.draw e2.tb e2.pen)
    generalize upd H2 a (.lst [.int u2, .int f2]) = H3 at *
    refine ⟨_, _, rfl, rfl, .int kk, rfl, (by show 2 ≤ sizeLine; decide), fun t nt => ?_⟩
    have x4 := Ext.new (o := .tup [.int ((if (kk : Int) > 1 then (kk : Int) else 1) + r2), .int kk]) e3.tb nt
    obtain ⟨m, hm⟩ : ∃ m : Nat, (if (kk : Int) > 1 then (kk : Int) else 1) + r2 = (m : Int) := ⟨((if (kk : Int) > 1 then (kk : Int) else 1) + r2).toNat, by split <;> omega⟩
    have b1 : 1 ≤ m ∧ m ≤ 8 ∧ kk ≤ m := by
      split at hm <;> split at r21 <;> omega
    refine q t m kk _ (e3.trans (x4.epn e3.pen)) (.inl (.inl ?_)) b1.1 b1.2.1 b1.2.2 hk4
    rw [upd_same, ← hm]
/-! ### _law_drawn -/
def spDrawn (K : PySem.W.Frag) (Ps : Tbs) : Sp := fun vs H Q _ => ∃ (a : Addr) (n kk m : Nat), vs = [.ref a, .int n, .int kk, .int m] ∧ Pen H a ∧ n ≤ 8 ∧ kk ≤ n ∧ kk ≤ 4 ∧ 1 ≤ m ∧ m ≤ 100 ∧ Tb Ps H ∧ ∀ (l : Addr) (ys : List V) (df : List (List Int)) (H' : Hp), Epn Ps a H H' → H l = none → H' l = some (.lst ys) → Paired (TupI K H') ys df → df.Nodup → (∀ g ∈ df, g ∈ everyL n kk) → 1 ≤ df.length → df.length ≤ m → Q (.ref l) H'
end
end Lf

set_option maxHeartbeats 2000000
namespace Lf
open PySem PySem.Spec PyProof.Rows L2 GxR GxA SrT EnT
theorem cut_take {xs : List V} {i : Nat} (h : i ≤ xs.length) : cutV xs none (some (i : Int)) = xs.take i := by
  unfold cutV
  rw [HT.sIx_nat]
  show (xs.drop 0).take (min i xs.length - 0) = xs.take i
  rw [List.drop_zero, Nat.sub_zero, Nat.min_eq_left h]
theorem paired_take {α β : Type} {F : α → β → Prop} : ∀ {xs : List α} {ys : List β}, Paired F xs ys → ∀ i, Paired F (xs.take i) (ys.take i)
  | _, _, .nil, i => by simp only [List.take_nil]; exact .nil
  | _, _, .cons r t, 0 => .nil
  | _, _, .cons r t, i + 1 => .cons r (paired_take t i)
/-- the first place at which a face may not be laid -/
def wrongAt : List (List Int) → List (List Int) → Nat → Option Nat
  | _, [], _ => none
  | laid, fc :: r, i => if liesOn laid fc = true then wrongAt (laid ++ [fc]) r (i + 1) else some i
def placeV : Option Nat → V
  | none => .non
  | some i => .int (i : Int)
theorem wrong_step {fs : List (List Int)} {i : Nat} {fc : List Int} (h : fs[i]? = some fc) : wrongAt (fs.take i) (fs.drop i) i = if liesOn (fs.take i) fc = true then wrongAt (fs.take (i + 1)) (fs.drop (i + 1)) (i + 1) else some i := by
  obtain ⟨hi, e⟩ := List.getElem?_eq_some_iff.mp h
  rw [List.drop_eq_getElem_cons hi, e, List.take_add_one, h]
  rfl
section
variable {P : Program} {w : World} {K : PySem.W.Frag} {mg : Str → Option Value} {base : Heap} {Ps : Tbs} {H H' H0 : Hp} {k : Nat} {f c : Addr} {fd : FuncData}
theorem facesAt_4 {n kk : Int} {fss : List (List Int)} {ns : List Int} (S : StkOk n kk fss) (hb : ∀ i ∈ ns, 0 ≤ i ∧ i < (fss.length : Int)) : ∀ g ∈ facesAt fss ns, g ∈ fss := by
  intro g hg
  unfold facesAt at hg
  obtain ⟨i, hi, e⟩ := List.mem_map.mp hg
  obtain ⟨b0, b1⟩ := hb i hi
  have hlt : i.toNat < fss.length := by omega
  rw [List.getD_eq_getElem?_getD, List.getElem?_eq_getElem hlt] at e
  rw [← e]
  exact List.getElem_mem hlt
/-! ### wrong_place -/
def spWrong (K : PySem.W.Frag) (Ps : Tbs) : Sp := fun vs H Q _ => ∃ (x y : V) (n kk : Int) (fss : List (List Int)) (ns : List Int), vs = [x, y] ∧ AskR K Ps H x y n kk fss ns ∧ ∀ H', Ext Ps H H' → Q (placeV (wrongAt [] (facesAt fss ns) 0)) H'
theorem ok_wrong {fA cA fO cO : Addr} {fdA fdO : FuncData} (D : Def K mg "wrong_place" sWrong ["stack", "row"] f fd c) (DA : Def K mg "faces_at" sFacesAt ["stack", "lot"] fA fdA cA) (GA : FnOk P w K mg base CX0 k fA fdA ["stack", "lot"] (spFacesAtF K Ps))
    (DO : Def K mg "lies_on" sLies ["laid", "face"] fO fdO cO) (GO : FnOk P w K mg base CX0 k fO fdO ["laid", "face"] (spLies K Ps)) (me : mg "enumerate" = none) : FnOk P w K mg base CX0 (k + 1) f fd ["stack", "row"] (spWrong K Ps) := by
  refine D.ok (k := k) scWrong (fun vs H Q E h => ?_) (fun A outer s H vs Q E hr h => ?_)
  · obtain ⟨x, y, n, kk, fss, ns, rfl, _⟩ := h
    rfl
  · obtain ⟨x, y, n, kk, fss, ns, rfl, h0, q⟩ := h
    have f4 := facesAt_4 h0.ok h0.bel
    have l100 := h0.len
    refine ⟨_, pss_cons (ps_set (i := 2) scWrong.nd rfl (.inl rfl) (pe_lst pa_nil))
      (pss_cons (ps_for PassesOwn.never rfl (pi_enum (by rfl) me (pa_cons (pcl DA GA hr (pa_cons (pv 0) (pa_cons (pv 1) pa_nil))) pa_nil)) (pg_tup rfl (pgs_cons (pg_name (i := 3) scWrong.nd rfl (.inl rfl)) (pgs_cons (pg_name (i := 4) scWrong.nd rfl (.inl rfl)) pgs_nil)))
        (pss_cons (ps_if (pt_not (pt_val (pcl DO GO hr (pa_cons (pv 2) (pa_cons (pv 4) pa_nil))))) (pss_one (ps_ret (pv 3))) pss_nil)
        (pss_one (ps_expr (pe_bm PySem.F.plainAttrs_list PySem.F.slot_list_append PySem.F.type_list_append mt_append (pv 2) (pa_cons (pv 4) pa_nil))))))
      (pss_one (ps_ret pe_non))), ?_⟩
    refine ⟨Nat.zero_le _, fun D0 hD => ?_⟩
    have e1 : Ext Ps H (upd H D0 (.lst [])) := Ext.new h0.tb hD
    have a1 := h0.ext e1
    refine ⟨x, rfl, y, rfl, x, y, n, kk, fss, ns, rfl, a1.stk, a1.row, a1.bel, a1.len, a1.tb, fun l xs H2 e2 nl hl hp => ?_⟩
    have hlen := Paired.length hp
    have hxl : xs.length ≤ 100 := by rw [hlen, facesAt_len]; exact l100
    have ne : l ≠ D0 := fun z => by
      rw [z, upd_same] at nl
      cases nl
    have c2 : CP Ps (TupI K) H D0 [] 0 H2 := (CP.start (F := TupI K) h0.tb hD).skip (stbT (K := K)) e2
    refine ⟨l, xs, rfl, .inl (.inl hl), for_enL (K := K) (a := l) (xs := xs) (fun i σ H3 => CP Ps (TupI K) H D0 ((facesAt fss ns).take i) i H3 ∧ H3 l = some (.lst xs) ∧ Paired (TupI K H3) xs (facesAt fss ns) ∧ wrongAt [] (facesAt fss ns) 0 = wrongAt ((facesAt fss ns).take i) ((facesAt fss ns).drop i) i ∧ ∃ y3 y4 : Option V, σ = [some x, some y, some (.ref D0), y3, y4])
      ⟨by rw [List.take_zero]; exact c2, hl, hp, rfl, none, none, rfl⟩ (fun i σ H3 p => .inl (.inl p.2.1)) (fun i z σ H3 T hz p hT => ?_) (fun σ H3 p => ?_)⟩
    · obtain ⟨p3, hl3, hp3, hw, y3, y4, rfl⟩ := p
      obtain ⟨fc, hfc, hI⟩ := paired_get hp3 hz
      have hfm := f4 fc (List.mem_of_getElem? hfc)
      have hf4 := h0.ok.len4 fc hfm
      have eT := Ext.new (o := .tup [.int (i : Nat), z]) p3.ext.tb hT
      have p4 := p3.skip (stbT (K := K)) eT
      have hT4 : SqT K (upd H3 T (.tup [.int (i : Nat), z])) T [.int (i : Nat), z] := .inl (.inl upd_same)
      have hl4 := eT.lst hl3
      have hp4 := eT.tups hp3
      have hI4 := eT.tupI hI
      generalize upd H3 T (.tup [.int (i : Nat), z]) = H4 at *
      obtain ⟨zs, g1, g2, g3⟩ := p4.at_
      refine ⟨T, _, rfl, hT4, rfl, _, _, rfl, _, _, rfl, rfl, ?_⟩
      refine ⟨.ref D0, rfl, z, rfl, .ref D0, z, (facesAt fss ns).take i, fc, rfl, ⟨D0, zs, rfl, .inl (.inl g1), g2⟩, hI4, by omega, p4.ext.tb, fun H5 e5 => ⟨_, rfl, ?_⟩⟩
      have p5 := p4.skip (stbT (K := K)) e5
      have hi : i < xs.length := (List.getElem?_eq_some_iff.mp hz).1
      rw [wrong_step hfc] at hw
      refine ite2 (fun hc => ?_) (fun hc => ?_)
      · have hno : ¬ liesOn ((facesAt fss ns).take i) fc = true := by simpa using hc
        rw [if_neg hno] at hw
        have z := q H5 p5.ext
        rw [hw] at z
        exact ⟨.int (i : Nat), rfl, z⟩
      · have hyes : liesOn ((facesAt fss ns).take i) fc = true := by simpa using hc
        rw [if_pos hyes] at hw
        obtain ⟨acc, r1, r2, r3⟩ := CP.put (stbT (K := K)) hD (by omega) p5 (e5.tupI hI4)
        refine ⟨.ref D0, rfl, .inl ⟨rfl, _, .inl (.inl r1)⟩, z, rfl, D0, acc, z, rfl, rfl, r1, r2, ?_, ?_, ?_, hw, _, _, rfl⟩
        · rw [List.take_add_one, hfc]
          exact r3
        · rw [upd_ne ne]
          exact e5.lst hl4
        · exact L2.Paired.mapP (e5.tups hp4) fun _ _ z => tupI_put r1 z
    · obtain ⟨p3, hl3, hp3, hw, y3, y4, rfl⟩ := p
      rw [hlen, List.drop_length] at hw
      have z := q H3 p3.ext
      rw [hw] at z
      exact z
/-! ### is_order -/
def isOrd (fss : List (List Int)) (ns : List Int) : Prop := ns.Perm (rng fss.length) ∧ wrongAt [] (facesAt fss ns) 0 = none
def spIsOrder (K : PySem.W.Frag) (Ps : Tbs) : Sp := fun vs H Q _ => ∃ (x y : V) (n kk : Int) (fss : List (List Int)) (ns : List Int), vs = [x, y] ∧ AskR K Ps H x y n kk fss ns ∧ ∀ b H', (b = true ↔ isOrd fss ns) → Ext Ps H H' → Q (.bl b) H'
theorem ok_isOrder {fS cS fR cR fW cW : Addr} {fdS fdR fdW : FuncData} (D : Def K mg "is_order" sIsOrder ["stack", "thing"] f fd c) (DS : Def K mg "need_stack" sNeedStack ["stack"] fS fdS cS) (GS : FnOk P w K mg base CX0 k fS fdS ["stack"] (spNeedStack K Ps))
    (DR : Def K mg "is_row" sIsRow ["stack", "thing"] fR fdR cR) (GR : FnOk P w K mg base CX0 k fR fdR ["stack", "thing"] (spIsRow K Ps)) (DW : Def K mg "wrong_place" sWrong ["stack", "row"] fW fdW cW) (GW : FnOk P w K mg base CX0 k fW fdW ["stack", "row"] (spWrong K Ps)) :
    FnOk P w K mg base CX0 (k + 1) f fd ["stack", "thing"] (spIsOrder K Ps) := by
  refine D.ok (k := k) scIsOrder (fun vs H Q E h => ?_) (fun A outer s H vs Q E hr h => ?_)
  · obtain ⟨x, y, n, kk, fss, ns, rfl, _⟩ := h
    rfl
  · obtain ⟨x, y, n, kk, fss, ns, rfl, h0, q⟩ := h
    refine ⟨_, pss_cons (ps_expr (pcl DS GS hr (pa_cons (pv 0) pa_nil))) (pss_one (ps_ret (pe_and (pcl DR GR hr (pa_cons (pv 0) (pa_cons (pv 1) pa_nil))) (pe_one (pe_cmpR op_isN (pcl DW GW hr (pa_cons (pv 0) (pa_cons (pv 1) pa_nil))) pe_non (nomark _)))))), ?_⟩
    refine ⟨x, rfl, x, n, kk, fss, rfl, h0.stk, h0.ok, h0.tb, fun H1 e1 => ?_⟩
    refine ⟨x, rfl, y, rfl, x, y, n, kk, fss, ns, rfl, h0.ext e1, fun b H2 hb e2 => ⟨b, rfl, ?_⟩⟩
    cases b with
    | false =>
      refine iteF (q false _ ?_ (e1.trans e2))
      constructor
      · intro z
        cases z
      · intro z
        exact absurd (hb.mpr z.1) (by simp)
    | true =>
      refine iteT ⟨x, rfl, y, rfl, x, y, n, kk, fss, ns, rfl, h0.ext (e1.trans e2), fun H3 e3 => ⟨rfl, ?_⟩⟩
      refine q _ _ ?_ (e1.trans (e2.trans e3))
      unfold isOrd
      cases hw : wrongAt [] (facesAt fss ns) 0 with
      | none => exact ⟨fun _ => ⟨hb.mp rfl, rfl⟩, fun _ => decide_eq_true rfl⟩
      | some p => exact ⟨fun z => absurd (of_decide_eq_true z) (by intro q; cases q), fun z => nomatch z.2⟩
/-! ### need_order, brings -/
def spNeedOrder (K : PySem.W.Frag) (Ps : Tbs) : Sp := fun vs H Q _ => ∃ (x y : V) (n kk : Int) (fss : List (List Int)) (ns : List Int), vs = [x, y] ∧ AskR K Ps H x y n kk fss ns ∧ isOrd fss ns ∧ ∀ H', Ext Ps H H' → Q .non H'
theorem ok_needOrder {fO cO : Addr} {fdO : FuncData} (D : Def K mg "need_order" sNeedOrder ["stack", "order"] f fd c) (DO : Def K mg "is_order" sIsOrder ["stack", "thing"] fO fdO cO) (GO : FnOk P w K mg base CX0 k fO fdO ["stack", "thing"] (spIsOrder K Ps)) :
    FnOk P w K mg base CX0 (k + 1) f fd ["stack", "order"] (spNeedOrder K Ps) := by
  refine D.ok (k := k) scNeedOrder (fun vs H Q E h => ?_) (fun A outer s H vs Q E hr h => ?_)
  · obtain ⟨x, y, n, kk, fss, ns, rfl, _⟩ := h
    rfl
  · obtain ⟨x, y, n, kk, fss, ns, rfl, h0, ho, q⟩ := h
    refine ⟨_, pss_one (ps_if (pt_not (pt_val (pcl DO GO hr (pa_cons (pv 0) (pa_cons (pv 1) pa_nil))))) (pss_one ps_never) pss_nil), ?_⟩
    refine ⟨x, rfl, y, rfl, x, y, n, kk, fss, ns, rfl, h0, fun b H1 hb e1 => ⟨b, rfl, ?_⟩⟩
    rw [hb.mpr ho]
    exact iteF (q _ e1)
def bringsL (fs : List (List Int)) : Nat → List (List Int)
  | 0 => []
  | i + 1 => bringsL fs i ++ [brOn (fs.take i) (fs.getD i [])]
def spBrings (K : PySem.W.Frag) (Ps : Tbs) : Sp := fun vs H Q _ => ∃ (x y : V) (n kk : Int) (fss : List (List Int)) (ns : List Int), vs = [x, y] ∧ AskR K Ps H x y n kk fss ns ∧ isOrd fss ns ∧ ∀ v H', Ext Ps H H' → LstT K H' v (bringsL (facesAt fss ns) ns.length) → Q v H'
end
end Lf

set_option maxHeartbeats 1000000
namespace Lf
/-! what may be laid, told in two ways -/
def comL (fc g : List Int) : List Int := fc.filter fun p => decide (p ∈ g)
def mayL (kk : Int) (fss : List (List Int)) (fc : List Int) : Bool :=
  ((fss.map (comL fc)).all fun own => ((fss.map (comL fc)).filter fun o => decide ((o.length : Int) = kk - 1)).any fun one => hasAll one own) && !decide (fc ∈ fss)
theorem hasAll_all {face pts : List Int} : hasAll face pts = true ↔ ∀ p ∈ pts, p ∈ face := by
  unfold hasAll
  rw [List.all_eq_true]
  simp only [decide_eq_true_eq]
theorem inSome_ex {pts : List Int} {fss : List (List Int)} : inSome pts fss = true ↔ ∃ g ∈ fss, ∀ p ∈ pts, p ∈ g := by
  unfold inSome
  rw [List.any_eq_true]
  simp only [hasAll_all]
theorem mem_less1 {fc : List Int} {p q : Int} : q ∈ lessL fc [p] ↔ q ∈ fc ∧ q ≠ p := by
  unfold lessL
  rw [List.mem_filter]
  simp
theorem mem_brOn {laid : List (List Int)} {fc : List Int} {p : Int} : p ∈ brOn laid fc ↔ p ∈ fc ∧ ∃ g ∈ laid, ∀ q ∈ fc, q ≠ p → q ∈ g := by
  unfold brOn
  rw [List.mem_filter, inSome_ex]
  simp only [mem_less1, and_imp]
theorem lies_iff {laid : List (List Int)} {fc : List Int} : liesOn laid fc = true ↔ ∀ g ∈ laid, ∃ p ∈ brOn laid fc, p ∉ g := by
  unfold liesOn
  rw [Bool.not_eq_true', ← Bool.not_eq_true, inSome_ex]
  constructor
  · intro h g hg
    apply Classical.byContradiction
    intro z
    exact h ⟨g, hg, fun p hp => Classical.byContradiction fun n => z ⟨p, hp, n⟩⟩
  · rintro h ⟨g, hg, z⟩
    obtain ⟨p, hp, n⟩ := h g hg
    exact n (z p hp)
theorem mem_comL {fc g : List Int} {p : Int} : p ∈ comL fc g ↔ p ∈ fc ∧ p ∈ g := by
  unfold comL
  rw [List.mem_filter, decide_eq_true_eq]
theorem may_iff {kk : Int} {fss : List (List Int)} {fc : List Int} : mayL kk fss fc = true ↔ (∀ g ∈ fss, ∃ h ∈ fss, ((comL fc h).length : Int) = kk - 1 ∧ ∀ p ∈ fc, p ∈ g → p ∈ h) ∧ fc ∉ fss := by
  unfold mayL
  rw [Bool.and_eq_true, List.all_eq_true]
  refine and_congr ?_ (by simp)
  constructor
  · intro z g hg
    have z1 := z _ (List.mem_map.mpr ⟨g, hg, rfl⟩)
    rw [List.any_eq_true] at z1
    obtain ⟨o, ho, hh⟩ := z1
    obtain ⟨ho1, ho2⟩ := List.mem_filter.mp ho
    obtain ⟨h, hh1, rfl⟩ := List.mem_map.mp ho1
    exact ⟨h, hh1, of_decide_eq_true ho2, fun p hp hg => (mem_comL.mp (hasAll_all.mp hh p (mem_comL.mpr ⟨hp, hg⟩))).2⟩
  · intro z o ho
    obtain ⟨g, hg, rfl⟩ := List.mem_map.mp ho
    obtain ⟨h, h1, h2, h3⟩ := z g hg
    rw [List.any_eq_true]
    exact ⟨comL fc h, List.mem_filter.mpr ⟨List.mem_map.mpr ⟨h, h1, rfl⟩, decide_eq_true h2⟩, hasAll_all.mpr fun p hp => mem_comL.mpr ⟨(mem_comL.mp hp).1, h3 p (mem_comL.mp hp).1 (mem_comL.mp hp).2⟩⟩
theorem len_filter_add (l : List Int) (q : Int → Bool) : (l.filter q).length + (l.filter fun x => !q x).length = l.length := by
  induction l with
  | nil => rfl
  | cons x l ih =>
    by_cases h : q x = true
    · simp only [List.filter_cons, h, if_true, Bool.not_true, Bool.false_eq_true, if_false, List.length_cons]
      omega
    · have h' : q x = false := by simpa using h
      simp only [List.filter_cons, h', if_false, Bool.not_false, Bool.false_eq_true, if_true, List.length_cons]
      omega
theorem ris_eq {f g : List Int} (hf : f.Pairwise (· < ·)) (hg : g.Pairwise (· < ·)) (hl : f.length = g.length) (h : ∀ p ∈ f, p ∈ g) : f = g := by
  have nf : f.Nodup := hf.imp (fun {a b} h => by omega)
  have ng : g.Nodup := hg.imp (fun {a b} h => by omega)
  have back : ∀ p ∈ g, p ∈ f := fun p hp => Classical.byContradiction fun n => by
    have z := List.Nodup.length_le_of_subset (l₁ := p :: f) (l₂ := g) (List.nodup_cons.mpr ⟨n, nf⟩) fun q hq => (List.mem_cons.mp hq).elim (fun e => e ▸ hp) (h q)
    rw [List.length_cons] at z
    omega
  have pm : f.Perm g := (List.perm_ext_iff_of_nodup nf ng).mpr fun p => ⟨h p, back p⟩
  exact List.Perm.eq_of_pairwise (fun a b _ _ h1 h2 => by omega) hf hg pm
/-- the law's way and the program's way -/
theorem may_lies {kk : Int} {fss : List (List Int)} {fc : List Int} (hl : ∀ g ∈ fss, (g.length : Int) = kk) (hs : ∀ g ∈ fss, g.Pairwise (· < ·)) (fl : (fc.length : Int) = kk) (fs : fc.Pairwise (· < ·)) : mayL kk fss fc = liesOn fss fc := by
  have nf : fc.Nodup := fs.imp (fun {a b} h => by omega)
  rw [Bool.eq_iff_iff, may_iff, lies_iff]
  have one : ∀ h : List Int, ((comL fc h).length : Int) = kk - 1 → ∃ p ∈ fc, p ∉ h ∧ ∀ q ∈ fc, q ≠ p → q ∈ h := by
    intro h e
    have e2 := len_filter_add fc fun p => decide (p ∈ h)
    have e3 : (fc.filter fun p => !decide (p ∈ h)).length = 1 := by
      have : (comL fc h).length = (fc.filter fun p => decide (p ∈ h)).length := rfl
      omega
    obtain ⟨p, hp⟩ := List.length_eq_one_iff.mp e3
    have mp : ∀ q, q ∈ fc ∧ q ∉ h ↔ q = p := fun q => by
      have : q ∈ fc.filter (fun p => !decide (p ∈ h)) ↔ q ∈ [p] := by rw [hp]
      rw [List.mem_filter, List.mem_singleton] at this
      simpa using this
    have m0 := (mp p).mpr rfl
    exact ⟨p, m0.1, m0.2, fun q hq hn => Classical.byContradiction fun z => hn ((mp q).mp ⟨hq, z⟩)⟩
  constructor
  · rintro ⟨z, n⟩ g hg
    obtain ⟨h, h1, h2, h3⟩ := z g hg
    obtain ⟨p, p1, p2, p3⟩ := one h h2
    exact ⟨p, mem_brOn.mpr ⟨p1, h, h1, p3⟩, fun pg => p2 (h3 p p1 pg)⟩
  · intro z
    have n : fc ∉ fss := fun hm => by
      obtain ⟨p, hp, hn⟩ := z fc hm
      exact hn (mem_brOn.mp hp).1
    refine ⟨fun g hg => ?_, n⟩
    obtain ⟨p, hp, hn⟩ := z g hg
    obtain ⟨p1, h, h1, h2⟩ := mem_brOn.mp hp
    have ph : p ∉ h := fun ph => by
      have e : fc = h := ris_eq fs (hs h h1) (by have := hl h h1; omega) fun q hq => by
        by_cases e : q = p
        · rw [e]
          exact ph
        · exact h2 q hq e
      exact n (e ▸ h1)
    refine ⟨h, h1, ?_, fun q hq hg => h2 q hq fun e => hn (e ▸ hg)⟩
    have e2 := len_filter_add fc fun p => decide (p ∈ h)
    have e3 : (fc.filter fun q => !decide (q ∈ h)) = fc.filter fun q => decide (q = p) := List.filter_congr fun q hq => by
      by_cases e : q = p
      · rw [e, decide_eq_false ph, decide_eq_true rfl]
        rfl
      · rw [decide_eq_true (h2 q hq e), decide_eq_false e]
        rfl
    have e4 : (fc.filter fun q => decide (q = p)).length = 1 := by
      rw [← List.countP_eq_length_filter]
      have this := nf.count (a := p)
      rw [if_pos p1, List.count] at this
      rw [← this]
      refine List.countP_congr fun q _ => ?_
      simp
    have : (comL fc h).length = (fc.filter fun p => decide (p ∈ h)).length := rfl
    rw [e3, e4] at e2
    omega
end Lf

set_option maxHeartbeats 2000000
namespace Lf
open PySem PySem.Spec PyProof.Rows L2 GxR GxA SrT
theorem filter_step {α : Type} {l : List α} {q : α → Bool} {i : Nat} {y : α} (h : l[i]? = some y) : (l.take (i + 1)).filter q = (l.take i).filter q ++ (if q y = true then [y] else []) := by
  rw [List.take_add_one, h, List.filter_append]
  show _ ++ List.filter q [y] = _
  by_cases e : q y = true
  · rw [if_pos e, List.filter_cons_of_pos e, List.filter_nil]
  · rw [if_neg e, List.filter_cons_of_neg e, List.filter_nil]
theorem comL_len (fc g : List Int) : (comL fc g).length ≤ fc.length := List.length_filter_le _ _
theorem eqv_tD (f g : List Int) : PyData.eqv (tD f) (tD g) = decide (f = g) := by
  show PyData.eqv (.tuple (iD f)) (.tuple (iD g)) = _
  rw [PyData.eqv, eqv_ints]
section
variable {P : Program} {w : World} {K : PySem.W.Frag} {mg : Str → Option Value} {base : Heap} {Ps : Tbs} {H H' H0 : Hp} {k : Nat} {f c : Addr} {fd : FuncData}
/-! ### _law_common, told -/
def spCommonE (K : PySem.W.Frag) (Ps : Tbs) : Sp := fun vs H Q _ => ∃ (x y : V) (pts fc : List Int), vs = [x, y] ∧ TupI K H x pts ∧ TupI K H y fc ∧ pts.length ≤ 100 ∧ Tb Ps H ∧ ∀ (l : Addr) (H' : Hp), Ext Ps H H' → H l = none → H' l = some (.lst ((comL pts fc).map V.int)) → Q (.ref l) H'
theorem ok_commonE (D : Def K mg "_law_common" sCommon ["_law_one", "_law_other"] f fd c) : FnOk P w K mg base CX0 (k + 1) f fd ["_law_one", "_law_other"] (spCommonE K Ps) := by
  refine D.ok (k := k) scCommon (fun vs H Q E h => ?_) (fun A outer s H vs Q E hr h => ?_)
  · obtain ⟨x, y, pts, fc, rfl, _⟩ := h
    rfl
  · obtain ⟨_, _, pts, fc, rfl, ⟨a, rfl, hA⟩, ⟨b, rfl, hB⟩, hl, ht, q⟩ := h
    refine ⟨_, pss_one (ps_ret (pe_lc (own := [("_law_point", 2)]) (g := gName 2) (by rfl) scCommon.nd (pi_tup (pv 0)) (blkOk_by (N := ["_law_one", "_law_other", "_law_point"]) (sc := defScope sCommon) (by decide +kernel))
      (fun _ _ _ _ _ => pg_name (i := 2) scCommon.nd rfl (Or.inl rfl)) (fun _ _ _ _ _ => pts_one (pt_cmpR (show OpR _ _ (rIn K false) from op_in_seq) (pv 2) (pv 1) (by with_unfolding_all rfl))) (fun _ _ _ _ _ => pv 2))), ?_⟩
    refine ⟨.ref a, rfl, a, rfl, ⟨_, hA⟩, fun D0 hD => lc_tup (K := K) (a := a) (xs := pts.map V.int) (fun i H3 => CP Ps FI H D0 (comL (pts.take i) fc) i H3) (CP.start ht hD) (fun i H3 _ p => p.ext.sqT hA) (fun i x H3 hx p => ?_) (fun H3 p => ?_)⟩
    · obtain ⟨y, hy, rfl⟩ := map_int hx
      have hi : i < pts.length := (List.getElem?_eq_some_iff.mp hy).1
      have e : comL (pts.take (i + 1)) fc = comL (pts.take i) fc ++ (if decide (y ∈ fc) = true then [y] else []) := filter_step (q := fun p => decide (p ∈ fc)) hy
      refine ⟨rfl, .int y, rfl, .ref b, rfl, b, _, rfl, .inr (p.ext.sqT hB), rfl, flat_ints fc, _, rfl, ite2 (fun hc => ?_) (fun hc => ?_)⟩
      · have hc' : decide (y ∈ fc) = true := (inV_ints y fc).symm.trans hc
        obtain ⟨acc, r1, r2, r3⟩ := CP.put (stbI (K := K)) hD (by omega) p (show FI H3 (.int y) y from rfl)
        rw [if_pos hc'] at e
        exact ⟨.int y, rfl, acc, r1, r2, by rw [e]; exact r3⟩
      · have hc' : ¬ decide (y ∈ fc) = true := fun z => hc ((inV_ints y fc).trans z)
        rw [if_neg hc', List.append_nil] at e
        rw [e]
        exact p.mono (Nat.le_succ i)
    · rw [List.length_map, List.take_length] at p
      obtain ⟨ys, e1, e2, e3⟩ := p.at_
      rw [paired_ints e2] at e1
      exact q D0 H3 p.ext hD e1
/-! ### _law_may, told -/
def spMayE (K : PySem.W.Frag) (Ps : Tbs) : Sp := fun vs H Q _ => ∃ (kk : Int) (y z : V) (fss : List (List Int)) (fc : List Int), vs = [.int kk, y, z] ∧ LstT K H y fss ∧ TupI K H z fc ∧ fss.length ≤ 100 ∧ fc.length ≤ 100 ∧ Tb Ps H ∧ ∀ (H' : Hp), Ext Ps H H' → Q (.bl (mayL kk fss fc)) H'
end
end Lf

set_option maxHeartbeats 4000000
namespace Lf
open PySem PySem.Spec PyProof.Rows L2 GxR GxA SrT
abbrev sMayN : Stmt := topS 55
abbrev sGrown : Stmt := topS 56
theorem scMayN : FnScope ["_law_laid_here", "_law_face", "_law_beside", "_law_one", "_law_other", "_law_both"] ["_law_laid_here", "_law_face"] (defScope sMayN) := ⟨rfl, rfl, rfl, by decide +kernel, rfl, by decide +kernel, by decide +kernel⟩
theorem scGrown : FnScope ["_law_pen_here", "_law_n", "_law_k", "_law_most", "_law_left", "_law_many", "_law_laid_here", "_law_turn", "_law_face"] ["_law_pen_here", "_law_n", "_law_k", "_law_most"] (defScope sGrown) := ⟨rfl, rfl, rfl, by decide +kernel, rfl, by decide +kernel, by decide +kernel⟩
def besideL (laid : List (List Int)) (fc : List Int) : List (List Int) := laid.filter fun one => decide (((comL fc one).length : Int) = (fc.length : Int) - 1)
def mayB (laid : List (List Int)) (fc : List Int) : Bool := laid.all fun o => !((besideL laid fc).filter fun one => decide ((comL (comL fc o) one).length = (comL fc o).length)).isEmpty
section
variable {P : Program} {w : World} {K : PySem.W.Frag} {mg : Str → Option Value} {base : Heap} {Ps : Tbs} {H H' H0 : Hp} {k : Nat} {f c : Addr} {fd : FuncData}
/-! ### _law_common of a list -/
def spCommonLE (K : PySem.W.Frag) (Ps : Tbs) : Sp := fun vs H Q _ => ∃ (l0 : Addr) (y : V) (pts fc : List Int), vs = [.ref l0, y] ∧ SqL K H l0 (pts.map V.int) ∧ TupI K H y fc ∧ pts.length ≤ 100 ∧ Tb Ps H ∧ ∀ (l : Addr) (H' : Hp), Ext Ps H H' → H l = none → H' l = some (.lst ((comL pts fc).map V.int)) → Q (.ref l) H'
theorem ok_commonLE (D : Def K mg "_law_common" sCommon ["_law_one", "_law_other"] f fd c) : FnOk P w K mg base CX0 (k + 1) f fd ["_law_one", "_law_other"] (spCommonLE K Ps) := by
  refine D.ok (k := k) scCommon (fun vs H Q E h => ?_) (fun A outer s H vs Q E hr h => ?_)
  · obtain ⟨x, y, pts, fc, rfl, _⟩ := h
    rfl
  · obtain ⟨a, _, pts, fc, rfl, hA, ⟨b, rfl, hB⟩, hl, ht, q⟩ := h
    refine ⟨_, pss_one (ps_ret (pe_lc (own := [("_law_point", 2)]) (g := gName 2) (by rfl) scCommon.nd (pi_list (pv 0)) (blkOk_by (N := ["_law_one", "_law_other", "_law_point"]) (sc := defScope sCommon) (by decide +kernel))
      (fun _ _ _ _ _ => pg_name (i := 2) scCommon.nd rfl (Or.inl rfl)) (fun _ _ _ _ _ => pts_one (pt_cmpR (show OpR _ _ (rIn K false) from op_in_seq) (pv 2) (pv 1) (by with_unfolding_all rfl))) (fun _ _ _ _ _ => pv 2))), ?_⟩
    refine ⟨.ref a, rfl, a, rfl, ⟨_, hA⟩, fun D0 hD => lc_list (K := K) (a := a) (xs := pts.map V.int) (fun i H3 => CP Ps FI H D0 (comL (pts.take i) fc) i H3) (CP.start ht hD) (fun i H3 _ p => p.ext.sqL hA) (fun i x H3 hx p => ?_) (fun H3 p => ?_)⟩
    · obtain ⟨y, hy, rfl⟩ := map_int hx
      have hi : i < pts.length := (List.getElem?_eq_some_iff.mp hy).1
      have e : comL (pts.take (i + 1)) fc = comL (pts.take i) fc ++ (if decide (y ∈ fc) = true then [y] else []) := filter_step (q := fun p => decide (p ∈ fc)) hy
      refine ⟨rfl, .int y, rfl, .ref b, rfl, b, _, rfl, .inr (p.ext.sqT hB), rfl, flat_ints fc, _, rfl, ite2 (fun hc => ?_) (fun hc => ?_)⟩
      · have hc' : decide (y ∈ fc) = true := (inV_ints y fc).symm.trans hc
        obtain ⟨acc, r1, r2, r3⟩ := CP.put (stbI (K := K)) hD (by omega) p (show FI H3 (.int y) y from rfl)
        rw [if_pos hc'] at e
        exact ⟨.int y, rfl, acc, r1, r2, by rw [e]; exact r3⟩
      · have hc' : ¬ decide (y ∈ fc) = true := fun z => hc ((inV_ints y fc).trans z)
        rw [if_neg hc', List.append_nil] at e
        rw [e]
        exact p.mono (Nat.le_succ i)
    · rw [List.length_map, List.take_length] at p
      obtain ⟨ys, e1, e2, e3⟩ := p.at_
      rw [paired_ints e2] at e1
      exact q D0 H3 p.ext hD e1
def spCommon2 (K : PySem.W.Frag) (Ps : Tbs) : Sp := fun vs H Q E => spCommonE K Ps vs H Q E ∨ spCommonLE K Ps vs H Q E
/-! ### _law_may -/
def spMayB (K : PySem.W.Frag) (Ps : Tbs) : Sp := fun vs H Q _ => ∃ (l : Addr) (xs : List V) (z : V) (fss : List (List Int)) (fc : List Int), vs = [.ref l, z] ∧ SqL K H l xs ∧ Paired (TupI K H) xs fss ∧ TupI K H z fc ∧ fss.length ≤ 100 ∧ fc.length ≤ 100 ∧ Tb Ps H ∧ ∀ (H' : Hp), Ext Ps H H' → Q (.bl (mayB fss fc)) H'
theorem ok_mayN {fC cC : Addr} {fdC : FuncData} (D : Def K mg "_law_may" sMayN ["_law_laid_here", "_law_face"] f fd c) (DC : Def K mg "_law_common" sCommon ["_law_one", "_law_other"] fC fdC cC) (GC : FnOk P w K mg base CX0 k fC fdC ["_law_one", "_law_other"] (spCommon2 K Ps)) (ml : mg "len" = none) : FnOk P w K mg base CX0 (k + 1) f fd ["_law_laid_here", "_law_face"] (spMayB K Ps) := by
  refine D.ok (k := k) scMayN (fun vs H Q E h => ?_) (fun A outer s H vs Q E hr h => ?_)
  · obtain ⟨l, xs, z, fss, fc, rfl, _⟩ := h
    rfl
  · obtain ⟨l, xs, _, fss, fc, rfl, hL, hp, ⟨zt, rfl, hZ⟩, hfl, hcl, ht, q⟩ := h
    refine ⟨_, (pss_cons (ps_setLc (i := 2) (own := [("_law_one", 3)]) (g := gName 3) (by rfl) scMayN.nd rfl rfl (by rfl) (pi_list (pv 0)) (blkOk_by (N := ["_law_laid_here", "_law_face", "_law_beside", "_law_one", "_law_other", "_law_both"]) (sc := defScope sMayN) (by decide +kernel)) (fun _ _ _ _ _ => pg_name (i := 3) scMayN.nd rfl (Or.inl rfl)) (fun _ _ _ _ _ => pts_one (pt_cmpR op_eq (pe_callB (call_lenS (K := K) rfl) (by rfl) ml PySem.boot_len (pa_cons (pcl DC GC hr (pa_cons (pv 1) (pa_cons (pv 3) pa_nil))) pa_nil)) (pe_op op_sub (pe_callB (call_lenS (K := K) rfl) (by rfl) ml PySem.boot_len (pa_cons (pv 1) pa_nil)) pe_int) (nomark _))) (fun _ _ _ _ _ => (pv 3))) (pss_cons (ps_for PassesOwn.never rfl (pi_list (pv 0)) (pg_name (i := 4) scMayN.nd rfl (.inl rfl)) (pss_cons (ps_set (i := 5) scMayN.nd rfl (.inr rfl) (pcl DC GC hr (pa_cons (pv 1) (pa_cons (pv 4) pa_nil)))) (pss_one (ps_if (pt_cmpR (op_eqD hr.units) (pe_lc (own := [("_law_one", 3)]) (g := gName 3) (by rfl) scMayN.nd (pi_list (pv 2)) (blkOk_by (N := ["_law_laid_here", "_law_face", "_law_beside", "_law_one", "_law_other", "_law_both"]) (sc := defScope sMayN) (by decide +kernel)) (fun _ _ _ _ _ => pg_name (i := 3) scMayN.nd rfl (Or.inl rfl)) (fun _ _ _ _ _ => pts_one (pt_cmpR op_eq (pe_callB (call_lenS (K := K) rfl) (by rfl) ml PySem.boot_len (pa_cons (pcl DC GC hr (pa_cons (pv 5) (pa_cons (pv 3) pa_nil))) pa_nil)) (pe_callB (call_lenS (K := K) rfl) (by rfl) ml PySem.boot_len (pa_cons (pv 5) pa_nil)) (nomark _))) (fun _ _ _ _ _ => (pv 3))) (pe_lst pa_nil) (nomark _)) (pss_one (ps_ret pe_bl)) pss_nil)))) (pss_one (ps_ret pe_bl)))), ?_⟩
    have hxl := Paired.length hp
    refine ⟨.ref l, rfl, l, rfl, ⟨_, hL⟩, fun D0 hD => lc_list (K := K) (a := l) (xs := xs) (fun i H3 => CP Ps (TupI K) H D0 (besideL (fss.take i) fc) i H3) (CP.start ht hD) (fun i H3 _ p => p.ext.sqL hL) (fun i x H3 hx p => ?_) (fun H3 p => ?_)⟩
    · have hi : i < xs.length := (List.getElem?_eq_some_iff.mp hx).1
      obtain ⟨g, hg, hI⟩ := paired_get hp hx
      have e := filter_step (q := fun one : List Int => decide (((comL fc one).length : Int) = (fc.length : Int) - 1)) hg
      refine ⟨rfl, .ref zt, rfl, x, rfl, .inl ⟨.ref zt, x, fc, g, rfl, ⟨zt, rfl, p.ext.sqT hZ⟩, p.ext.tupI hI, hcl, p.ext.tb, fun u H4 e4 hu h4 => ?_⟩⟩
      have p4 := p.skip (stbT (K := K)) e4
      refine ⟨u, _, rfl, .inl (.inl (.inl h4)), .ref zt, rfl, zt, _, rfl, .inr (p4.ext.sqT hZ), _, 1, rfl, rfl, rfl, _, rfl, ?_⟩
      have ed : decide (V.int (((comL fc g).map V.int).length : Int) = V.int (((fc.map V.int).length : Int) - 1)) = decide (((comL fc g).length : Int) = (fc.length : Int) - 1) := by
        rw [List.length_map, List.length_map]
        congr 1
        exact propext ⟨fun z => by injection z, fun z => by rw [z]⟩
      rw [ed]
      refine ite2 (fun hc => ?_) (fun hc => ?_)
      · rw [if_pos hc] at e
        refine ⟨x, rfl, ?_⟩
        obtain ⟨acc, r1, r2, r3⟩ := CP.put (stbT (K := K)) hD (by omega) p4 (p4.ext.tupI hI)
        exact ⟨acc, r1, r2, by show CP Ps (TupI K) H D0 ((fss.take (i + 1)).filter _) (i + 1) _; rw [e]; exact r3⟩
      · rw [if_neg hc, List.append_nil] at e
        show CP Ps (TupI K) H D0 ((fss.take (i + 1)).filter _) (i + 1) _
        rw [e]
        exact p4.mono (Nat.le_succ i)
    rw [hxl, List.take_length] at p
    obtain ⟨bs, b1, b2, b3⟩ := p.at_
    have x3 := p.ext
    refine ⟨.ref l, rfl, l, rfl, ⟨_, x3.sqL hL⟩, for_list (K := K) (a := l) (xs := xs) (fun i σ H5 => Ext Ps H3 H5 ∧ (fss.take i).all (fun o => !((besideL fss fc).filter fun one => decide ((comL (comL fc o) one).length = (comL fc o).length)).isEmpty) = true ∧ ∃ y4 y5, σ = [some (.ref l), some (.ref zt), some (.ref D0), none, y4, y5]) ⟨Ext.refl x3.tb, rfl, none, none, rfl⟩ (fun i σ H5 _ p => p.1.sqL (x3.sqL hL)) (fun i x σ H5 hx p => ?_) (fun σ H5 p => ?_)⟩
    · obtain ⟨e5, ha, y4, y5, rfl⟩ := p
      obtain ⟨g, hg, hI⟩ := paired_get hp hx
      have x5 := x3.trans e5
      refine ⟨.ref zt, rfl, x, rfl, .inl ⟨.ref zt, x, fc, g, rfl, ⟨zt, rfl, x5.sqT hZ⟩, x5.tupI hI, hcl, e5.tb, fun bo H6 e6 hbo h6 => ?_⟩⟩
      have hcl2 := comL_len fc g
      have hb6 := (e5.trans e6).lst b1
      have hbl := Paired.length b2
      have hbf : (besideL fss fc).length ≤ fss.length := List.length_filter_le _ _
      refine ⟨.ref D0, rfl, D0, rfl, ⟨_, .inl (.inl hb6)⟩, fun D1 hD1 => lc_list (K := K) (a := D0) (xs := bs) (fun j H7 => CP Ps (TupI K) H6 D1 (((besideL fss fc).take j).filter fun one => decide ((comL (comL fc g) one).length = (comL fc g).length)) j H7) (CP.start e6.tb hD1) (fun j H7 _ p => p.ext.sqL (.inl (.inl hb6))) (fun j u H7 hu p7 => ?_) (fun H7 p7 => ?_)⟩
      · have hj : j < bs.length := (List.getElem?_eq_some_iff.mp hu).1
        obtain ⟨o, ho, hIo⟩ := paired_get b2 hu
        have e := filter_step (q := fun one : List Int => decide ((comL (comL fc g) one).length = (comL fc g).length)) ho
        have x7 := (e5.trans e6).trans p7.ext
        refine ⟨rfl, .ref bo, rfl, u, rfl, .inr ⟨bo, u, comL fc g, o, rfl, .inl (.inl (p7.ext.lst h6)), x7.tupI hIo, by omega, p7.ext.tb, fun v H8 e8 hv h8 => ?_⟩⟩
        have p8 := p7.skip (stbT (K := K)) e8
        refine ⟨v, _, rfl, .inl (.inl (.inl h8)), .ref bo, rfl, bo, _, rfl, .inl (.inl (.inl (p8.ext.lst h6))), rfl, _, rfl, ?_⟩
        have ed : decide (V.int (((comL (comL fc g) o).map V.int).length : Int) = V.int (((comL fc g).map V.int).length : Int)) = decide ((comL (comL fc g) o).length = (comL fc g).length) := by
          rw [List.length_map, List.length_map]
          congr 1
          exact propext ⟨fun z => by injection z with z; omega, fun z => by rw [z]⟩
        rw [ed]
        refine ite2 (fun hc => ?_) (fun hc => ?_)
        · rw [if_pos hc] at e
          refine ⟨u, rfl, ?_⟩
          obtain ⟨acc, r1, r2, r3⟩ := CP.put (stbT (K := K)) hD1 (by omega) p8 ((x7.trans e8).tupI hIo)
          exact ⟨acc, r1, r2, by rw [e]; exact r3⟩
        · rw [if_neg hc, List.append_nil] at e
          rw [e]
          exact p8.mono (Nat.le_succ j)
      · rw [hbl, List.take_length] at p7
        obtain ⟨ws, c1, c2, c3⟩ := p7.at_
        refine ⟨Nat.zero_le _, fun el nel => ?_⟩
        have e9 := Ext.new (o := .lst []) p7.ext.tb nel
        refine ⟨.list (((besideL fss fc).filter fun one => decide ((comL (comL fc g) one).length = (comL fc g).length)).map tD), .list [], .lst (.inl (.inl (e9.lst c1))) (dp_tups (e9.tups c2)), .lst (xs := []) (.inl (.inl upd_same)) .nil, shp_tups _, by rfl, _, rfl, ?_⟩
        rw [eqv_nil]
        refine ite2 (fun hc => ?_) (fun hc => ?_)
        · have hf : mayB fss fc = false := by
            unfold mayB
            rw [List.all_eq_false]
            exact ⟨g, List.mem_of_getElem? hg, by rw [hc]; simp⟩
          have := q _ (x5.trans (e6.trans (p7.ext.trans e9)))
          rw [hf] at this
          exact this
        · refine ⟨e5.trans (e6.trans (p7.ext.trans e9)), ?_, _, _, rfl⟩
          rw [List.take_add_one, hg, List.all_append, ha, Bool.true_and]
          simp only [Option.toList_some, List.all_cons, List.all_nil, Bool.and_true]
          cases he : ((besideL fss fc).filter fun one => decide ((comL (comL fc g) one).length = (comL fc g).length)).isEmpty with
          | true => exact absurd he hc
          | false => rfl
    · obtain ⟨e5, ha, y4, y5, rfl⟩ := p
      rw [hxl, List.take_length] at ha
      have := q _ (x3.trans e5)
      unfold mayB at this
      rw [ha] at this
      exact this
/-! ### _law_grown -/
theorem permA {gf lf rest : List (List Int)} {o : Nat} {g : List Int} (h : lf[o]? = some g) : ((gf ++ [g]) ++ lf.eraseIdx o ++ rest).Perm (gf ++ lf ++ rest) := by
  refine List.Perm.append_right rest ?_
  rw [List.append_assoc]
  exact List.Perm.append_left gf (perm_erase h)
theorem permB {gf lf rest : List (List Int)} {o : Nat} {g : List Int} (h : lf[o]? = some g) : (gf ++ lf.eraseIdx o ++ (g :: rest)).Perm (gf ++ lf ++ rest) := by
  rw [List.append_assoc, List.append_assoc]
  refine List.Perm.append_left gf ?_
  exact List.perm_middle.trans (List.Perm.append_right rest (perm_erase h))
def OrdG (gf : List (List Int)) : Prop := ∀ i, 0 < i → ∀ g, gf[i]? = some g → mayB (gf.take i) g = true
theorem OrdG.snoc {gf : List (List Int)} {g : List Int} (h : OrdG gf) (hg : mayB gf g = true) : OrdG (gf ++ [g]) := by
  intro i hi g' hg'
  by_cases hl : i < gf.length
  · rw [List.getElem?_append_left hl] at hg'
    rw [List.take_append_of_le_length (by omega)]
    exact h i hi g' hg'
  · rw [List.getElem?_append_right (by omega)] at hg'
    have e : i - gf.length = 0 := by
      cases hh : i - gf.length with
      | zero => rfl
      | succ j => rw [hh] at hg'; simp at hg'
    rw [e] at hg'
    cases hg'
    rw [show i = gf.length by omega, List.take_append_of_le_length (Nat.le_refl _), List.take_length]
    exact hg
def spGrown (K : PySem.W.Frag) (Ps : Tbs) : Sp := fun vs H Q _ => ∃ (a : Addr) (n kk m : Nat), vs = [.ref a, .int n, .int kk, .int m] ∧ Pen H a ∧ n ≤ 8 ∧ kk ≤ n ∧ kk ≤ 4 ∧ 1 ≤ m ∧ m ≤ 90 ∧ Tb Ps H ∧ ∀ (l : Addr) (ys : List V) (df : List (List Int)) (H' : Hp), Epn Ps a H H' → H l = none → H' l = some (.lst ys) → Paired (TupI K H') ys df → df.Nodup → (∀ g ∈ df, g ∈ everyL n kk) → 1 ≤ df.length → df.length ≤ m → (∀ i, 0 < i → ∀ g, df[i]? = some g → mayB (df.take i) g = true) → Q (.ref l) H'
theorem ok_grown {fD cD fE cE fM cM : Addr} {fdD fdE fdM : FuncData} (D : Def K mg "_law_grown" sGrown ["_law_pen_here", "_law_n", "_law_k", "_law_most"] f fd c) (DD : Def K mg "_law_draw" sDraw ["_law_pen_here", "_law_many"] fD fdD cD) (GD : FnOk P w K mg base CX0 k fD fdD ["_law_pen_here", "_law_many"] spDraw)
    (DE : Def K mg "_law_every" sEveryL ["_law_n", "_law_k"] fE fdE cE) (GE : FnOk P w K mg base CX0 k fE fdE ["_law_n", "_law_k"] (spEveryK K Ps)) (DM : Def K mg "_law_may" sMayN ["_law_laid_here", "_law_face"] fM fdM cM) (GM : FnOk P w K mg base CX0 k fM fdM ["_law_laid_here", "_law_face"] (spMayB K Ps)) (mr : mg "range" = none) (ml : mg "len" = none) : FnOk P w K mg base CX0 (k + 1) f fd ["_law_pen_here", "_law_n", "_law_k", "_law_most"] (spGrown K Ps) := by
  refine D.ok (k := k) scGrown (fun vs H Q E h => ?_) (fun A outer s H vs Q E hr h => ?_)
  · obtain ⟨a, n, kk, m, rfl, _⟩ := h
    rfl
  · obtain ⟨a, n, kk, m, rfl, hP, n8, hkn, hk4, m1, m90, ht, q⟩ := h
    refine ⟨_, (pss_cons (ps_set (i := 4) scGrown.nd rfl (.inl rfl) (pcl DE GE hr (pa_cons (pv 1) (pa_cons (pv 2) pa_nil)))) (pss_cons (ps_set (i := 5) scGrown.nd rfl (.inl rfl) (pe_op op_add pe_int (pcl DD GD hr (pa_cons (pv 0) (pa_cons (pv 3) pa_nil))))) (pss_cons (ps_set (i := 6) scGrown.nd rfl (.inl rfl) (pe_lst (pa_cons (show PE _ _ (tBM K "list" rPopAt _ _) from pe_bm PySem.F.plainAttrs_list PySem.F.slot_list_pop PySem.F.type_list_pop mt_popAt (pv 4) (pa_cons (pcl DD GD hr (pa_cons (pv 0) (pa_cons (pe_callB (call_lenS (K := K) rfl) (by rfl) ml PySem.boot_len (pa_cons (pv 4) pa_nil)) pa_nil))) pa_nil)) pa_nil))) (pss_cons (ps_for PassesOwn.never rfl (pi_range1 (by rfl) mr (pa_cons (pe_op op_mul pe_int (pv 3)) pa_nil)) (pg_name (i := 7) scGrown.nd rfl (.inl rfl)) (pss_one (ps_if (PW.pt (pw_and (pt_cmpR (show OpR _ _ (rNeD K) from op_neD hr.units) (pv 4) (pe_lst pa_nil) (nomark _)) (pw_and1 (pt_cmpR op_lt (pe_callB (call_lenS (K := K) rfl) (by rfl) ml PySem.boot_len (pa_cons (pv 6) pa_nil)) (pv 5) (nomark _))))) (pss_cons (ps_set (i := 8) scGrown.nd rfl (.inl rfl) (show PE _ _ (tBM K "list" rPopAt _ _) from pe_bm PySem.F.plainAttrs_list PySem.F.slot_list_pop PySem.F.type_list_pop mt_popAt (pv 4) (pa_cons (pcl DD GD hr (pa_cons (pv 0) (pa_cons (pe_callB (call_lenS (K := K) rfl) (by rfl) ml PySem.boot_len (pa_cons (pv 4) pa_nil)) pa_nil))) pa_nil))) (pss_one (ps_if (pt_val (pcl DM GM hr (pa_cons (pv 6) (pa_cons (pv 8) pa_nil)))) (pss_one (ps_expr (pe_bm PySem.F.plainAttrs_list PySem.F.slot_list_append PySem.F.type_list_append mt_append (pv 6) (pa_cons (pv 8) pa_nil)))) pss_nil))) pss_nil))) (pss_one (ps_ret (pv 6))))))), ?_⟩
    refine ⟨.int n, rfl, .int kk, rfl, n, kk, rfl, n8, by omega, ht, fun L ls H1 e1 nL hL hls => ?_⟩
    have lenL := Paired.length hls
    have l256 := everyL_len (k := kk) n8
    have lpos := every_pos n8 hk4 hkn
    have E1 := e1.epn hP
    have nLa : L ≠ a := by
      obtain ⟨u, v, e⟩ := hP
      exact (ne_of_none e nL).symm
    refine ⟨.ref a, rfl, .int m, rfl, a, m, rfl, E1.pen, by omega, by omega, fun u1 f1 r1 r10 r11 => ⟨1, r1, rfl, rfl, ?_⟩⟩
    have e2 : Epn Ps a H1 (upd H1 a (.lst [.int u1, .int f1])) := Epn.draw E1.tb E1.pen
    have E2 := E1.trans e2
    have hL2 := e2.lst nLa hL
    have hls2 := e2.tups hls
    generalize upd H1 a (.lst [.int u1, .int f1]) = H2 at *
    obtain ⟨j, rfl⟩ := Int.eq_ofNat_of_zero_le r10
    -- the first
    refine ⟨.ref L, rfl, .inl ⟨rfl, _, .inl (.inl hL2)⟩, .ref a, rfl, .ref L, rfl, L, ls, rfl, .inl (.inl (.inl hL2)), a, _, rfl, E2.pen, by omega, by omega, fun u2 f2 r2 r20 r21 => ?_⟩
    have e3 : Epn Ps a H2 (upd H2 a (.lst [.int u2, .int f2])) := Epn.draw E2.tb E2.pen
    have E3 := E2.trans e3
    have hL3 := e3.lst nLa hL2
    have hls3 := e3.tups hls2
    generalize upd H2 a (.lst [.int u2, .int f2]) = H3 at *
    obtain ⟨o, rfl⟩ := Int.eq_ofNat_of_zero_le r20
    have ho : o < ls.length := by omega
    obtain ⟨y, hy⟩ : ∃ y, ls[o]? = some y := ⟨_, List.getElem?_eq_getElem ho⟩
    obtain ⟨g, hg, hI⟩ := paired_get hls3 hy
    refine ⟨L, ls, (o : Int), o, y, rfl, rfl, hL3, by omega, by omega, seqIx ho, hy, (by show 1 ≤ sizeLine; decide), fun G nG => ?_⟩
    have E4 := E3.write (o' := .lst (ls.eraseIdx o)) nL hL3 (fun q z => by cases z)
    have hL4 : upd H3 L (.lst (ls.eraseIdx o)) L = some (.lst (ls.eraseIdx o)) := upd_same
    have hls4 := tups_put (l' := ls.eraseIdx o) hL3 (paired_erase o hls3)
    have hI4 := tups_put (l' := ls.eraseIdx o) hL3 (.cons hI .nil : Paired (TupI K H3) [y] [g])
    generalize upd H3 L (.lst (ls.eraseIdx o)) = H4 at *
    have x5 := Ext.new (o := .lst [y]) E4.tb nG
    have nGH := E4.free nG
    have nGa : G ≠ a := by
      obtain ⟨u, v, e⟩ := hP
      exact (ne_of_none e nGH).symm
    have nGL : L ≠ G := ne_of_none hL4 nG
    refine ⟨.int m, rfl, 3, m, rfl, rfl, .inl ⟨by decide, by decide⟩, 3 * (m : Int), rfl, by omega, by omega, for_range (lo := 0) (n := (3 * (m : Int)).toNat) (fun i σ H5 => Epn Ps a H H5 ∧ ∃ (ls gs : List V) (lf gf rest : List (List Int)) (y7 y8 : Option V), H5 L = some (.lst ls) ∧ H5 G = some (.lst gs) ∧ Paired (TupI K H5) ls lf ∧ Paired (TupI K H5) gs gf ∧ (gf ++ lf ++ rest).Perm (everyL n kk) ∧ 1 ≤ gf.length ∧ gf.length ≤ 1 + j ∧ OrdG gf ∧ σ = [some (.ref a), some (.int n), some (.int kk), some (.int m), some (.ref L), some (.int (1 + (j : Int))), some (.ref G), y7, y8]) ?_ (fun i σ H5 hi p => ?_) (fun σ H5 p => ?_)⟩
    · refine ⟨E4.trans (x5.epn E4.pen), ls.eraseIdx o, [y], (everyL n kk).eraseIdx o, [g], [], none, none, x5.lst hL4, upd_same, x5.tups hls4, x5.tups hI4, ?_, by simp, by simp, ?_, rfl⟩
      · rw [List.append_nil]
        exact perm_erase hg
      · intro i hi g' hg'
        cases i with
        | zero => omega
        | succ i => simp at hg'
    · obtain ⟨E5, ls5, gs5, lf5, gf5, rest, y7, y8, hL5, hG5, hp5, hq5, hperm, hg1, hgj, hord, rfl⟩ := p
      have hll := hperm.length_eq
      rw [List.length_append, List.length_append] at hll
      have hl5 := Paired.length hp5
      have hd5 := Paired.length hq5
      refine ⟨.ref L, rfl, Nat.zero_le _, fun e0 ne0 => ?_⟩
      have x6 := Ext.new (o := .lst []) E5.tb ne0
      have E6 := E5.trans (x6.epn E5.pen)
      have hL6 := x6.lst hL5
      have hG6 := x6.lst hG5
      have hp6 := x6.tups hp5
      have hq6 := x6.tups hq5
      have hz6 : upd H5 e0 (.lst []) e0 = some (.lst []) := upd_same
      generalize upd H5 e0 (.lst []) = H6 at *
      refine ⟨.list (lf5.map tD), .list [], .lst (.inl (.inl hL6)) (dp_tups hp6), .lst (xs := []) (.inl (.inl hz6)) .nil, shp_tups _, by rfl, _, rfl, ?_⟩
      rw [eqv_nil]
      have keep : Epn Ps a H H6 ∧ ∃ (ls gs : List V) (lf gf rest : List (List Int)) (y7' y8' : Option V), H6 L = some (.lst ls) ∧ H6 G = some (.lst gs) ∧ Paired (TupI K H6) ls lf ∧ Paired (TupI K H6) gs gf ∧ (gf ++ lf ++ rest).Perm (everyL n kk) ∧ 1 ≤ gf.length ∧ gf.length ≤ 1 + j ∧ OrdG gf ∧ [some (.ref a), some (.int n), some (.int kk), some (.int m), some (.ref L), some (.int (1 + (j : Int))), some (.ref G), some (.int (0 + (i : Nat))), y8] = [some (.ref a), some (.int n), some (.int kk), some (.int m), some (.ref L), some (.int (1 + (j : Int))), some (.ref G), y7', y8'] := ⟨E6, ls5, gs5, lf5, gf5, rest, _, _, hL6, hG6, hp6, hq6, hperm, hg1, hgj, hord, rfl⟩
      refine ite2 (fun hc => ?_) (fun hc => keep)
      refine ⟨.ref G, rfl, G, gs5, rfl, .inl (.inl (.inl hG6)), .int (1 + (j : Int)), rfl, _, _, rfl, rfl, _, rfl, ite2 (fun hc2 => ?_) (fun hc2 => keep)⟩
      have hlt : (gs5.length : Int) < 1 + (j : Int) := of_decide_eq_true hc2
      have hne : 0 < lf5.length := by
        cases lf5 with
        | nil => simp at hc
        | cons u v => simp
      refine ⟨.ref L, rfl, .inl ⟨rfl, _, .inl (.inl hL6)⟩, .ref a, rfl, .ref L, rfl, L, ls5, rfl, .inl (.inl (.inl hL6)), a, _, rfl, E6.pen, by omega, by omega, fun u3 f3 r3 r30 r31 => ?_⟩
      have e7 : Epn Ps a H6 (upd H6 a (.lst [.int u3, .int f3])) := Epn.draw E6.tb E6.pen
      have E7 := E6.trans e7
      have hL7 := e7.lst nLa hL6
      have hG7 := e7.lst nGa hG6
      have hp7 := e7.tups hp6
      have hq7 := e7.tups hq6
      generalize upd H6 a (.lst [.int u3, .int f3]) = H7 at *
      obtain ⟨o2, rfl⟩ := Int.eq_ofNat_of_zero_le r30
      have ho2 : o2 < ls5.length := by omega
      obtain ⟨y2, hy2⟩ : ∃ y, ls5[o2]? = some y := ⟨_, List.getElem?_eq_getElem ho2⟩
      obtain ⟨g2, hg2, hI2⟩ := paired_get hp7 hy2
      refine ⟨L, ls5, (o2 : Int), o2, y2, rfl, rfl, hL7, by omega, by omega, seqIx ho2, hy2, ?_⟩
      have E8 := E7.write (o' := .lst (ls5.eraseIdx o2)) nL hL7 (fun q z => by cases z)
      have hL8 : upd H7 L (.lst (ls5.eraseIdx o2)) L = some (.lst (ls5.eraseIdx o2)) := upd_same
      have hG8 : upd H7 L (.lst (ls5.eraseIdx o2)) G = some (.lst gs5) := by
        rw [upd_ne (Ne.symm nGL)]
        exact hG7
      have hp8 := tups_put (l' := ls5.eraseIdx o2) hL7 (paired_erase o2 hp7)
      have hq8 := tups_put (l' := ls5.eraseIdx o2) hL7 hq7
      have hI8 := tups_put (l' := ls5.eraseIdx o2) hL7 (.cons hI2 .nil : Paired (TupI K H7) [y2] [g2])
      generalize upd H7 L (.lst (ls5.eraseIdx o2)) = H8 at *
      have hmem : g2 ∈ everyL n kk := hperm.mem_iff.mp (List.mem_append_left _ (List.mem_append_right _ (List.mem_of_getElem? hg2)))
      have hg2l := (mem_everyL.mp hmem).2
      have hI9 : TupI K H8 y2 g2 := by
        cases hI8 with
        | cons r t => exact r
      refine ⟨.ref G, rfl, y2, rfl, G, gs5, y2, gf5, g2, rfl, .inl (.inl hG8), hq8, hI9, by omega, by omega, E8.tb, fun H9 e9 => ⟨_, rfl, ?_⟩⟩
      have E9 := E8.trans (e9.epn E8.pen)
      have hL9 := e9.lst hL8
      have hG9 := e9.lst hG8
      refine ite2 (fun hm => ?_) (fun hm => ?_)
      · refine ⟨.ref G, rfl, .inl ⟨rfl, _, .inl (.inl hG9)⟩, y2, rfl, G, gs5, y2, rfl, rfl, hG9, Nat.lt_of_le_of_lt (show gs5.length ≤ 256 by omega) (small1000 (by decide)), ?_⟩
        refine ⟨E9.write nGH hG9 (fun q z => by cases z), ls5.eraseIdx o2, gs5 ++ [y2], lf5.eraseIdx o2, gf5 ++ [g2], rest, _, _, ?_, upd_same, tups_put hG9 (e9.tups hp8), tups_put hG9 (paired_app (e9.tups hq8) (e9.tups hI8)), (permA hg2).trans hperm, by rw [List.length_append]; simp, by rw [List.length_append]; simp; omega, hord.snoc hm, rfl⟩
        rw [upd_ne nGL]
        exact hL9
      · exact ⟨E9, ls5.eraseIdx o2, gs5, lf5.eraseIdx o2, gf5, g2 :: rest, _, _, hL9, hG9, e9.tups hp8, e9.tups hq8, (permB hg2).trans hperm, hg1, hgj, hord, rfl⟩
    · obtain ⟨E5, ls5, gs5, lf5, gf5, rest, y7, y8, hL5, hG5, hp5, hq5, hperm, hg1, hgj, hord, rfl⟩ := p
      have nd := hperm.nodup_iff.mpr (nodup_everyL n kk)
      rw [List.append_assoc] at nd
      exact ⟨.ref G, rfl, q G gs5 gf5 _ E5 nGH hG5 hq5 (List.nodup_append.mp nd).1 (fun g hg => hperm.mem_iff.mp (List.mem_append_left _ (List.mem_append_left _ hg))) hg1 (by omega) hord⟩
end
end Lf

set_option maxHeartbeats 4000000
namespace Lf
open PySem PySem.Spec PyProof.Rows L2 GxR GxA SrT
abbrev sKindly : Stmt := topS 58
theorem scKindly : FnScope ["_law_pen_here", "_law_most", "_law_way", "_law_more", "_law_n", "_law_k", "_law_ties", "_law_point"] ["_law_pen_here", "_law_most"] (defScope sKindly) := ⟨rfl, rfl, rfl, by decide +kernel, rfl, by decide +kernel, by decide +kernel⟩
theorem cut_to (xs : List V) (m : Nat) : cutV xs none (some (m : Int)) = xs.take m := by
  unfold cutV
  rw [HT.sIx_nat, HT.sIx_none, List.drop_zero, Nat.sub_zero]
  by_cases h : m ≤ xs.length
  · rw [Nat.min_eq_left h]
  · rw [Nat.min_eq_right (by omega), List.take_length, List.take_of_length_le (by omega)]
theorem paired_cut {γ : Type} {G : V → γ → Prop} {xs : List V} {ys : List γ} (h : Paired G xs ys) (m : Nat) : Paired G (cutV xs none (some (m : Int))) (ys.take m) := by
  rw [cut_to]
  exact paired_take h m
/-- faces of k of n points, each once -/
structure FacesB (n k : Nat) (df : List (List Int)) : Prop where
  nd : df.Nodup
  ris : ∀ g ∈ df, RisB n g ∧ g.length = k
theorem ris_rng {n : Nat} {g : List Int} (h : g.Sublist (rng n)) : RisB n g := by
  refine ⟨List.Pairwise.sublist h ?_, fun i hi => mem_rng (h.subset hi)⟩
  unfold rng
  rw [List.pairwise_map]
  exact List.pairwise_lt_range.imp fun h => by omega
theorem FacesB.every {n k : Nat} {df : List (List Int)} (nd : df.Nodup) (h : ∀ g ∈ df, g ∈ everyL n k) : FacesB n k df := ⟨nd, fun g hg => let z := mem_everyL.mp (h g hg); ⟨ris_rng z.1, z.2⟩⟩
theorem FacesB.take {n k : Nat} {df : List (List Int)} (F : FacesB n k df) (m : Nat) : FacesB n k (df.take m) := ⟨F.nd.sublist (List.take_sublist _ _), fun g hg => F.ris g (List.mem_of_mem_take hg)⟩
theorem FacesB.sort {n k : Nat} {df : List (List Int)} (F : FacesB n k df) : FacesB n k (sortL df) := ⟨(sortL_perm _).nodup_iff.mpr F.nd, fun g hg => F.ris g ((sortL_perm _).mem_iff.mp hg)⟩
theorem FacesB.stk {n k : Nat} {df : List (List Int)} (F : FacesB n k df) (n1 : 1 ≤ n) (n8 : n ≤ 8) (hkn : k ≤ n) (hk4 : k ≤ 4) (l1 : 1 ≤ df.length) (l70 : df.length ≤ 70) : StkOk n k (sortL df) := by
  have G := F.sort
  refine ⟨by omega, by omega, by omega, by omega, by omega, by rw [(sortL_perm _).length_eq]; exact l1, by rw [(sortL_perm _).length_eq]; exact l70, fun f hf => by rw [(G.ris f hf).2], fun f hf => (G.ris f hf).1.1, fun f hf i hi => (G.ris f hf).1.2 i hi, le_strict (sortL_pw _) G.nd⟩
theorem pairs_sub : ∀ d, d < 5 → (∀ g ∈ pairsQ d, g.Sublist (rng (2 * d)) ∧ g.length = d) ∧ (pairsQ d).Nodup := by decide +kernel
theorem ring_sub : ∀ m, m < 8 → 2 ≤ m → (∀ g ∈ stepsL m ++ [[0, (m : Int)]], g.Sublist (rng (m + 1)) ∧ g.length = 2) ∧ (stepsL m ++ [[0, (m : Int)]]).Nodup := by decide +kernel
theorem facesB_pairs {d : Nat} (h : d ≤ 4) : FacesB (2 * d) d (sortL (pairsQ d)) := FacesB.sort ⟨(pairs_sub d (by omega)).2, fun g hg => let z := (pairs_sub d (by omega)).1 g hg; ⟨ris_rng z.1, z.2⟩⟩
theorem facesB_ring {m : Nat} (h : m ≤ 7) (h2 : 2 ≤ m) : FacesB (m + 1) 2 (stepsL m ++ [[0, (m : Int)]]) := ⟨(ring_sub m (by omega) h2).2, fun g hg => let z := (ring_sub m (by omega) h2).1 g hg; ⟨ris_rng z.1, z.2⟩⟩
theorem facesB_steps {m : Nat} (h : m ≤ 7) (h2 : 2 ≤ m) : FacesB (m + 1) 2 (stepsL m) := by
  have F := facesB_ring h h2
  exact ⟨(List.nodup_append.mp F.nd).1, fun g hg => F.ris g (List.mem_append_left _ hg)⟩
section
variable {P : Program} {w : World} {K : PySem.W.Frag} {mg : Str → Option Value} {base : Heap} {Ps : Tbs} {H H' H0 : Hp} {k : Nat} {f c : Addr} {fd : FuncData}
/-! ### _law_kindly -/
def spStackN (K : PySem.W.Frag) (Ps : Tbs) : Sp := fun vs H Q _ => ∃ (a : Addr) (m : Nat), vs = [.ref a, .int m] ∧ Pen H a ∧ 1 ≤ m ∧ m ≤ 70 ∧ Tb Ps H ∧ ∀ (v : V) (n kk : Int) (fss : List (List Int)) (H' : Hp), Epn Ps a H H' → Stk K H' v n kk fss → StkOk n kk fss → fss.length ≤ m → Q v H'
theorem ok_kindly {fD cD fE cE fP cP fM cM : Addr} {fdD fdE fdP fdM : FuncData} (D : Def K mg "_law_kindly" sKindly ["_law_pen_here", "_law_most"] f fd c) (DD : Def K mg "_law_draw" sDraw ["_law_pen_here", "_law_many"] fD fdD cD) (GD : FnOk P w K mg base CX0 k fD fdD ["_law_pen_here", "_law_many"] spDraw)
    (DE : Def K mg "_law_every" sEveryL ["_law_n", "_law_k"] fE fdE cE) (GE : FnOk P w K mg base CX0 k fE fdE ["_law_n", "_law_k"] (spEveryK K Ps)) (DP : Def K mg "_law_pairs" sPairsL ["_law_d"] fP fdP cP) (GP : FnOk P w K mg base CX0 k fP fdP ["_law_d"] (spPairsL K Ps))
    (DM : Def K mg "_law_made" sMade ["_law_n", "_law_k", "_law_faces"] fM fdM cM) (GM : FnOk P w K mg base CX0 k fM fdM ["_law_n", "_law_k", "_law_faces"] (spMade K Ps)) (mr : mg "range" = none) (ms : mg "sorted" = none) : FnOk P w K mg base CX0 (k + 1) f fd ["_law_pen_here", "_law_most"] (spStackN K Ps) := by
  refine D.ok (k := k) scKindly (fun vs H Q E h => ?_) (fun A outer s H vs Q E hr h => ?_)
  · obtain ⟨a, m, rfl, _⟩ := h
    rfl
  · obtain ⟨a, m, rfl, hP, m1, m70, ht, q⟩ := h
    refine ⟨_, (pss_cons (ps_par (i := 2) (j := 3) (by rfl) scKindly.nd rfl rfl (by decide) rfl rfl (pa_cons (pcl DD GD hr (pa_cons (pv 0) (pa_cons pe_int pa_nil))) (pa_cons (pcl DD GD hr (pa_cons (pv 0) (pa_cons pe_int pa_nil))) pa_nil)) (by rfl)) (pss_cons (ps_if (pt_cmpR op_eq (pv 2) pe_int (nomark _)) (pss_cons (ps_asg (pe_ix ix_list (pe_lst (pa_cons (pe_tup (pa_cons pe_int (pa_cons pe_int pa_nil))) (pa_cons (pe_tup (pa_cons pe_int (pa_cons pe_int pa_nil))) (pa_cons (pe_tup (pa_cons pe_int (pa_cons pe_int pa_nil))) (pa_cons (pe_tup (pa_cons pe_int (pa_cons pe_int pa_nil))) (pa_cons (pe_tup (pa_cons pe_int (pa_cons pe_int pa_nil))) (pa_cons (pe_tup (pa_cons pe_int (pa_cons pe_int pa_nil))) pa_nil))))))) (pv 3) (fun _ _ => rfl)) (pg_tup (by rfl) (pgs_cons (pg_name (i := 4) scKindly.nd rfl (.inl rfl)) (pgs_cons (pg_name (i := 5) scKindly.nd rfl (.inl rfl)) pgs_nil)))) (pss_one (ps_ret (pcl DM GM hr (pa_cons (pv 4) (pa_cons (pv 5) (pa_cons (pe_slice sl_list (pcl DE GE hr (pa_cons (pv 4) (pa_cons (pv 5) pa_nil))) po_none (po_some (pv 1))) pa_nil))))))) pss_nil) (pss_cons (ps_if (pt_cmpR op_eq (pv 2) pe_int (nomark _)) (pss_one (ps_ret (pcl DM GM hr (pa_cons (pe_op op_add pe_int (pe_op op_mul pe_int (pe_op op_mod (pv 3) pe_int))) (pa_cons (pe_op op_add pe_int (pe_op op_mod (pv 3) pe_int)) (pa_cons (pe_slice sl_list (pcl DP GP hr (pa_cons (pe_op op_add pe_int (pe_op op_mod (pv 3) pe_int)) pa_nil)) po_none (po_some (pv 1))) pa_nil)))))) pss_nil) (pss_cons (ps_setLc (i := 6) (own := [("_law_point", 7)]) (g := gName 7) (by rfl) scKindly.nd rfl rfl (by rfl) (pi_range1 (by rfl) mr (pa_cons (pe_op op_add pe_int (pv 3)) pa_nil)) (blkOk_by (N := ["_law_pen_here", "_law_most", "_law_way", "_law_more", "_law_n", "_law_k", "_law_ties", "_law_point"]) (sc := defScope sKindly) (by decide +kernel)) (fun _ _ _ _ _ => pg_name (i := 7) scKindly.nd rfl (Or.inl rfl)) (fun _ _ _ _ _ => pts_nil) (fun _ _ _ _ _ => (pe_tup (pa_cons (pv 7) (pa_cons (pe_op op_add (pv 7) pe_int) pa_nil))))) (pss_cons (ps_if (pt_cmpR op_eq (pv 2) pe_int (nomark _)) (pss_one (ps_set (i := 6) scKindly.nd rfl (.inl rfl) (pe_callB (cr_sortL hr.units) (by rfl) ms (by decide +kernel) (pa_cons (pe_op op_cat (pv 6) (pe_lst (pa_cons (pe_tup (pa_cons pe_int (pa_cons (pe_op op_add pe_int (pv 3)) pa_nil))) pa_nil))) pa_nil)))) pss_nil) (pss_one (ps_ret (pcl DM GM hr (pa_cons (pe_op op_add pe_int (pv 3)) (pa_cons pe_int (pa_cons (pe_slice sl_list (pv 6) po_none (po_some (pv 1))) pa_nil))))))))))), ?_⟩
    refine tseq_intro fun R hR => ?_
    refine ⟨.ref a, rfl, a, 4, rfl, hP, by decide, by decide, fun u1 f1 wy0 w0 w1 => ?_⟩
    have e1 : Epn Ps a H (upd H a (.lst [.int u1, .int f1])) := Epn.draw ht hP
    generalize upd H a (.lst [.int u1, .int f1]) = H1 at *
    refine ⟨.ref a, rfl, a, 6, rfl, e1.pen, by decide, by decide, fun u2 f2 mo0 mo00 mo1 => ?_⟩
    have e2 : Epn Ps a H (upd H1 a (.lst [.int u2, .int f2])) := e1.trans (Epn.draw e1.tb e1.pen)
    generalize upd H1 a (.lst [.int u2, .int f2]) = H2 at *
    refine ⟨.int wy0, .int mo0, rfl, ?_⟩
    obtain ⟨wy, rfl⟩ := Int.eq_ofNat_of_zero_le w0
    obtain ⟨mo, rfl⟩ := Int.eq_ofNat_of_zero_le mo00
    have hmo : mo < 6 := by omega
    show R [some (.ref a), some (.int m), some (.int wy), some (.int mo), none, none, none, none] H2
    rw [hR]
    clear hR
    refine tseq_intro fun R hR => ?_
    by_cases w0' : wy = 0
    · clear hR
      subst w0'
      refine ⟨.int (0 : Nat), rfl, rfl, true, by simp, iteT ?_⟩
      refine ⟨(by show 2 ≤ sizeLine; decide), fun t0 m0 => ?_⟩
      have w0 := Ext.new (o := .tup [.int 4, .int 2]) e2.tb m0
      have g0 : SqT K (upd H2 t0 (.tup [.int 4, .int 2])) t0 [.int 4, .int 2] := .inl (.inl upd_same)
      generalize upd H2 t0 (.tup [.int 4, .int 2]) = X0 at *
      refine ⟨(by show 2 ≤ sizeLine; decide), fun t1 m1 => ?_⟩
      have w1 := Ext.new (o := .tup [.int 4, .int 3]) w0.tb m1
      have g1 : SqT K (upd X0 t1 (.tup [.int 4, .int 3])) t1 [.int 4, .int 3] := .inl (.inl upd_same)
      generalize upd X0 t1 (.tup [.int 4, .int 3]) = X1 at *
      refine ⟨(by show 2 ≤ sizeLine; decide), fun t2 m2 => ?_⟩
      have w2 := Ext.new (o := .tup [.int 5, .int 2]) w1.tb m2
      have g2 : SqT K (upd X1 t2 (.tup [.int 5, .int 2])) t2 [.int 5, .int 2] := .inl (.inl upd_same)
      generalize upd X1 t2 (.tup [.int 5, .int 2]) = X2 at *
      refine ⟨(by show 2 ≤ sizeLine; decide), fun t3 m3 => ?_⟩
      have w3 := Ext.new (o := .tup [.int 5, .int 4]) w2.tb m3
      have g3 : SqT K (upd X2 t3 (.tup [.int 5, .int 4])) t3 [.int 5, .int 4] := .inl (.inl upd_same)
      generalize upd X2 t3 (.tup [.int 5, .int 4]) = X3 at *
      refine ⟨(by show 2 ≤ sizeLine; decide), fun t4 m4 => ?_⟩
      have w4 := Ext.new (o := .tup [.int 5, .int 3]) w3.tb m4
      have g4 : SqT K (upd X3 t4 (.tup [.int 5, .int 3])) t4 [.int 5, .int 3] := .inl (.inl upd_same)
      generalize upd X3 t4 (.tup [.int 5, .int 3]) = X4 at *
      refine ⟨(by show 2 ≤ sizeLine; decide), fun t5 m5 => ?_⟩
      have w5 := Ext.new (o := .tup [.int 3, .int 2]) w4.tb m5
      have g5 : SqT K (upd X4 t5 (.tup [.int 3, .int 2])) t5 [.int 3, .int 2] := .inl (.inl upd_same)
      generalize upd X4 t5 (.tup [.int 3, .int 2]) = X5 at *
      refine ⟨(by show 6 ≤ sizeLine; decide), fun L6 nL6 => ?_⟩
      have w6 := Ext.new (o := .lst [.ref t0, .ref t1, .ref t2, .ref t3, .ref t4, .ref t5]) w5.tb nL6
      have hL6 : upd X5 L6 (.lst [.ref t0, .ref t1, .ref t2, .ref t3, .ref t4, .ref t5]) L6 = some (.lst [.ref t0, .ref t1, .ref t2, .ref t3, .ref t4, .ref t5]) := upd_same
      have k0 := (w1.trans (w2.trans (w3.trans (w4.trans (w5.trans w6))))).sqT g0
      have k1 := (w2.trans (w3.trans (w4.trans (w5.trans w6)))).sqT g1
      have k2 := (w3.trans (w4.trans (w5.trans w6))).sqT g2
      have k3 := (w4.trans (w5.trans w6)).sqT g3
      have k4 := (w5.trans w6).sqT g4
      have k5 := w6.sqT g5
      have W6 := w0.trans (w1.trans (w2.trans (w3.trans (w4.trans (w5.trans w6)))))
      generalize upd X5 L6 (.lst [.ref t0, .ref t1, .ref t2, .ref t3, .ref t4, .ref t5]) = X6 at *
      obtain ⟨t, n, kk, hat, hT, n1, n8, hkn, hk4⟩ : ∃ (t : Addr) (n kk : Nat), ([.ref t0, .ref t1, .ref t2, .ref t3, .ref t4, .ref t5] : List V)[mo]? = some (.ref t) ∧ SqT K X6 t [.int n, .int kk] ∧ 1 ≤ n ∧ n ≤ 8 ∧ kk ≤ n ∧ kk ≤ 4 := by
        match mo, hmo with
        | 0, _ => exact ⟨t0, 4, 2, rfl, k0, by decide, by decide, by decide, by decide⟩
        | 1, _ => exact ⟨t1, 4, 3, rfl, k1, by decide, by decide, by decide, by decide⟩
        | 2, _ => exact ⟨t2, 5, 2, rfl, k2, by decide, by decide, by decide, by decide⟩
        | 3, _ => exact ⟨t3, 5, 4, rfl, k3, by decide, by decide, by decide, by decide⟩
        | 4, _ => exact ⟨t4, 5, 3, rfl, k4, by decide, by decide, by decide, by decide⟩
        | 5, _ => exact ⟨t5, 3, 2, rfl, k5, by decide, by decide, by decide, by decide⟩

      refine ⟨.int mo, rfl, L6, _, (mo : Int), .ref t, rfl, rfl, .inl (.inl hL6), atI_nat hat, t, _, rfl, hT, rfl, _, _, rfl, _, _, rfl, rfl, ?_⟩
      have P6 := e2.trans (W6.epn e2.pen)
      refine ⟨.int n, rfl, .int kk, rfl, .int n, rfl, .int kk, rfl, n, kk, rfl, n8, by omega, P6.tb, fun l ys H3 e3 nl hl hp => ?_⟩
      refine ⟨.int m, rfl, m, rfl, l, ys, rfl, .inl (.inl hl), fun p np => ?_⟩
      have x4 := Ext.new (o := .lst (cutV ys none (some (m : Int)))) e3.tb np
      have F := (FacesB.every (nodup_everyL n kk) (fun g hg => hg)).take m
      have lpos := every_pos n8 hk4 hkn
      refine ⟨n, kk, p, cutV ys none (some (m : Int)), (everyL n kk).take m, rfl, .inl (.inl upd_same), paired_cut (x4.tups hp) m, x4.tb, fun v H5 e5 hv => ?_⟩
      have hlt : ((everyL n kk).take m).length ≤ m := by rw [List.length_take]; omega
      exact q v n kk _ _ (P6.trans ((e3.trans (x4.trans e5)).epn P6.pen)) hv (F.stk n1 n8 hkn hk4 (by rw [List.length_take]; omega) (by omega)) (by rw [(sortL_perm _).length_eq]; exact hlt)
    refine ⟨.int wy, rfl, rfl, false, ?_, iteF ?_⟩
    · congr 1
      exact decide_eq_false fun z => w0' (by injection z with z; omega)
    show R [some (.ref a), some (.int m), some (.int wy), some (.int mo), none, none, none, none] H2
    rw [hR]
    clear hR
    refine tseq_intro fun R hR => ?_
    by_cases w1' : wy = 1
    · clear hR
      subst w1'
      refine ⟨.int (1 : Nat), rfl, rfl, true, by simp, iteT ?_⟩
      obtain ⟨d, hd⟩ : ∃ d : Nat, d = 1 + mo % 4 := ⟨_, rfl⟩
      have d4 : 1 ≤ d ∧ d ≤ 4 := by omega
      have ed : (1 : Int) + (mo : Int) % 4 = (d : Int) := by omega
      have en : (2 : Int) + 2 * ((mo : Int) % 4) = ((2 * d : Nat) : Int) := by omega
      refine ⟨.int mo, rfl, _, 4, rfl, rfl, (by show (0 : Int) < 4; decide), 2, _, rfl, rfl, .inl ⟨by decide, by decide⟩, 2, _, rfl, rfl, .int mo, rfl, _, 4, rfl, rfl, (by show (0 : Int) < 4; decide), 1, _, rfl, rfl, .int mo, rfl, _, 4, rfl, rfl, (by show (0 : Int) < 4; decide), 1, _, rfl, rfl, ?_⟩
      refine ⟨d, by rw [← ed]; rfl, d4.2, e2.tb, fun l ys H3 e3 nl hl hp => ?_⟩
      refine ⟨.int m, rfl, m, rfl, l, ys, rfl, .inl (.inl hl), fun p np => ?_⟩
      have x4 := Ext.new (o := .lst (cutV ys none (some (m : Int)))) e3.tb np
      have F := (facesB_pairs d4.2).take m
      have lp : (sortL (pairsQ d)).length = 2 ^ d := by rw [(sortL_perm _).length_eq]; exact (pairsQ_len d).1
      have lp1 : 1 ≤ 2 ^ d := Nat.one_le_two_pow
      refine ⟨((2 * d : Nat) : Int), d, p, cutV ys none (some (m : Int)), (sortL (pairsQ d)).take m, by rw [← ed, ← en]; rfl, .inl (.inl upd_same), paired_cut (x4.tups hp) m, x4.tb, fun v H5 e5 hv => ?_⟩
      have hlt : ((sortL (pairsQ d)).take m).length ≤ m := by rw [List.length_take]; omega
      exact q v _ _ _ _ (e2.trans ((e3.trans (x4.trans e5)).epn e2.pen)) hv (F.stk (by omega) (by omega) (by omega) d4.2 (by rw [List.length_take, lp]; omega) (by omega)) (by rw [(sortL_perm _).length_eq]; exact hlt)
    refine ⟨.int wy, rfl, rfl, false, ?_, iteF ?_⟩
    · congr 1
      exact decide_eq_false fun z => w1' (by injection z with z; omega)
    show R [some (.ref a), some (.int m), some (.int wy), some (.int mo), none, none, none, none] H2
    rw [hR]
    clear hR
    -- ties
    obtain ⟨b, hb⟩ : ∃ b : Nat, b = 2 + mo := ⟨_, rfl⟩
    have eb : (2 : Int) + (mo : Int) = (b : Int) := by omega
    refine tseq_intro fun R hR => ?_
    refine ⟨.int mo, rfl, 2, mo, rfl, rfl, 2 + (mo : Int), rfl, by omega, by omega, fun D0 hD => lc_range (lo := 0) (n := (2 + (mo : Int)).toNat) (fun j H4 => CP Ps (TupI K) H2 D0 (stepsL j) j H4) (CP.start e2.tb hD) (fun j H4 hj p => ?_) (fun H4 p => ?_)⟩
    · refine ⟨rfl, yes_ (iteT ⟨.int (0 + (j : Nat)), rfl, .int (0 + (j : Nat)), rfl, _, 1, rfl, rfl, (by show 2 ≤ sizeLine; decide), fun u hu => ?_⟩)⟩
      have x5 := Ext.new (o := .tup [.int (0 + (j : Nat)), .int (0 + (j : Nat) + 1)]) p.ext.tb hu
      have r := CP.put (stbT (K := K)) hD (by omega) (p.skip (stbT (K := K)) x5) (show TupI K _ (.ref u) [(j : Int), (j : Int) + 1] from ⟨u, rfl, .inl (.inl (by rw [upd_same]; simp))⟩)
      rw [stepsL_succ]
      exact r
    obtain ⟨zs, g1, g2, g3⟩ := p.at_
    rw [show (2 + (mo : Int)).toNat = b by omega] at g2
    have P4 := e2.trans (p.ext.epn e2.pen)
    have hzl : zs.length ≤ 8 := by
      rw [Paired.length g2]
      simp [stepsL]
      omega
    show R [some (.ref a), some (.int m), some (.int wy), some (.int mo), none, none, some (.ref D0), none] H4
    rw [hR]
    clear hR
    refine tseq_intro fun R hR => ?_
    have tail : ∀ (HX : Hp) (l : Addr) (ys : List V) (df : List (List Int)), Epn Ps a H HX → HX l = some (.lst ys) → Paired (TupI K HX) ys df → FacesB (b + 1) 2 df → 1 ≤ df.length → R [some (.ref a), some (.int m), some (.int wy), some (.int mo), none, none, some (.ref l), none] HX := by
      intro HX l ys df EX hl hp F l1
      rw [hR]
      refine ⟨.int mo, rfl, 3, mo, rfl, rfl, .ref l, rfl, .int m, rfl, m, rfl, l, ys, rfl, .inl (.inl hl), fun p np => ?_⟩
      have x4 := Ext.new (o := .lst (cutV ys none (some (m : Int)))) EX.tb np
      refine ⟨((b + 1 : Nat) : Int), ((2 : Nat) : Int), p, cutV ys none (some (m : Int)), df.take m, by rw [show ((b + 1 : Nat) : Int) = 3 + (mo : Int) by omega]; rfl, .inl (.inl upd_same), paired_cut (x4.tups hp) m, x4.tb, fun v H5 e5 hv => ?_⟩
      have hlt : (df.take m).length ≤ m := by rw [List.length_take]; omega
      exact q v _ _ _ _ (EX.trans ((x4.trans e5).epn EX.pen)) hv ((F.take m).stk (by omega) (by omega) (by omega) (by decide) (by rw [List.length_take]; omega) (by omega)) (by rw [(sortL_perm _).length_eq]; exact hlt)
    have slen : (stepsL b).length = b := by simp [stepsL]
    by_cases w2' : wy = 2
    · subst w2'
      refine ⟨.int (2 : Nat), rfl, rfl, true, by simp, iteT ?_⟩
      refine ⟨.ref D0, rfl, .int mo, rfl, 2, mo, rfl, rfl, (by show 2 ≤ sizeLine; decide), fun u nu => ?_⟩
      have x5 := Ext.new (o := .tup [.int 0, .int (2 + (mo : Int))]) P4.tb nu
      have hu : TupI K (upd H4 u (.tup [.int 0, .int (2 + (mo : Int))])) (.ref u) [0, (b : Int)] := ⟨u, rfl, .inl (.inl (by rw [upd_same, eb]; rfl))⟩
      generalize upd H4 u (.tup [.int 0, .int (2 + (mo : Int))]) = H5 at *
      refine ⟨(by show 1 ≤ sizeLine; decide), fun l1 nl1 => ?_⟩
      have x6 := Ext.new (o := .lst [.ref u]) x5.tb nl1
      refine ⟨D0, l1, _, _, rfl, rfl, (x5.trans x6).lst g1, upd_same, Nat.le_of_lt (small1000 (by show zs.length + 1 ≤ 1000; omega)), fun l2 nl2 => ?_⟩
      have x7 := Ext.new (o := .lst (zs ++ [.ref u])) x6.tb nl2
      have X7 := x5.trans (x6.trans x7)
      refine ⟨l2, _, stepsL b ++ [[0, (b : Int)]], rfl, .inl (.inl upd_same), paired_app (X7.tups g2) (.cons ((x6.trans x7).tupI hu) .nil), fun ws p hw _ np => ?_⟩
      have x8 := Ext.new (o := .lst ws) x7.tb np
      refine tail _ p ws _ (P4.trans ((X7.trans x8).epn P4.pen)) upd_same (x8.tups hw) (facesB_ring (by omega) (by omega)).sort ?_
      rw [(sortL_perm _).length_eq, List.length_append]
      simp
    · refine ⟨.int wy, rfl, rfl, false, ?_, iteF ?_⟩
      · congr 1
        exact decide_eq_false fun z => w2' (by injection z with z; omega)
      exact tail _ D0 zs _ P4 g1 g2 (facesB_steps (by omega) (by omega)) (by omega)
/-! ### _law_stack -/
end
end Lf

set_option maxHeartbeats 2000000
namespace Lf
open PySem PySem.Spec PyProof.Rows L2 GxR GxA SrT
section
variable {X : Cx}
/-- t.index(g), a tuple of tuples of numbers -/
def rTix (K : PySem.W.Frag) : V → List V → Hp → VK → Prop := fun x xs H Q => ∃ (t : Addr) (y : V) (ws : List V) (fss : List (List Int)) (g : List Int) (j : Nat), x = V.ref t ∧ xs = [y] ∧ SqT K H t ws ∧ Paired (TupI K H) ws fss ∧ TupI K H y g ∧ fss[j]? = some g ∧ (∀ m, m < j → fss[m]? ≠ some g) ∧ Q (.int (j : Nat)) H
theorem mt_tix (room : X.A.units + 65 < cLine) : MtR X "tuple.index" (rTix X.K) := by
  intro pins s σ H x xs v us Q I rx rxs h
  obtain ⟨t, y, ws, fss, g, j, rfl, rfl, hT, hp, hy, hj, hno, q⟩ := h
  cases rx
  obtain ⟨uy, rfl, ry⟩ := vals1 rxs
  obtain ⟨bs, ry1⟩ := Dp.reads I (tD g) y uy (dp_tup hy) ry
  obtain ⟨its, rv, ⟨⟨cls, dd, data, sls⟩, ho, hc, n, hdt⟩, hlen⟩ := I.tuple hT
  simp only at hc hdt
  subst hc hdt
  obtain ⟨as, ra⟩ := Dp.readsAll I (fss.map tD) _ its (dp_tups hp) rv
  have lay : PyData.canLayAll0 (fss.map tD) = true := lay_tups fss
  have lenE : its.length = (fss.map tD).length := SeqAt.ReadsAll.length (fss.map tD) its as ra
  have asD : its.map (SeqAt.readOf s.heap) = fss.map tD := SeqAt.readsAll_map (fss.map tD) its as lay ra
  rw [List.length_map] at lenE
  have jl : j < fss.length := (List.getElem?_eq_some_iff.mp hj).1
  have js : j < its.toArray.size := by
    rw [List.size_toArray]
    omega
  have rd : ∀ (m : Nat) (hm : m < its.toArray.size) (z : List Int), fss[m]? = some z → SeqAt.readOf s.heap its.toArray[m] = tD z := fun m hm z hz => by
    have hml : m < its.length := by simpa using hm
    have e : (its.map (SeqAt.readOf s.heap))[m]? = some (tD z) := by rw [asD, List.getElem?_map, hz]; rfl
    rw [List.getElem?_map, List.getElem?_eq_getElem hml] at e
    simpa using Option.some.inj e
  refine call_meets PySem.F.slot_tuple_index ⟨_, ho, rfl⟩ PySem.F.entry_tuple_index (PySem.F.args_tuple_index_2 _ _) (TI.tuple_indexAt t its.toArray n dd sls uy (fun u => PyData.eqv (SeqAt.readOf s.heap u) (tD g)) j js ?_ ?_) ⟨ho, SeqAt.items_eqAt (vs := its.toArray) (show ReadsAll s.heap its.toArray.toList (fss.map tD) as from ra) ry1 lay (SeqAt.canLay_of_shaped (shp_tup g)) (room_in_shaped (shp_tup g) room), ⟨.int (j : Nat), H, I.tok _, ⟨_, rfl⟩, q⟩⟩
  · show PyData.eqv (SeqAt.readOf s.heap its.toArray[j]) (tD g) = true
    rw [rd j js g hj, eqv_tD]
    exact decide_eq_true rfl
  · intro m hm hmj
    have ml : m < fss.length := by omega
    show PyData.eqv (SeqAt.readOf s.heap its.toArray[m]) (tD g) = false
    rw [rd m hm _ (List.getElem?_eq_getElem ml), eqv_tD]
    refine decide_eq_false fun e => hno m hmj ?_
    rw [List.getElem?_eq_getElem ml, e]
end
end Lf

set_option maxHeartbeats 2000000
namespace Lf
open PySem PySem.Spec PyProof.Rows L2 GxR GxA SrT EnT
/-! ### rows and orders of any thing -/
def RowD (d : PyData) (m : Nat) : Prop := ∃ ns : List Int, d = tD ns ∧ ns.Perm (rng m)
def OrdD (d : PyData) (fss : List (List Int)) : Prop := ∃ ns : List Int, d = tD ns ∧ isOrd fss ns
theorem OrdD.row {d : PyData} {fss : List (List Int)} (h : OrdD d fss) : RowD d fss.length := let ⟨ns, e, h1, _⟩ := h; ⟨ns, e, h1⟩
theorem th_tupI {K : PySem.W.Frag} {H : Hp} {F : Addr → Prop} {x : V} {ns : List Int} (h : ThF K H F x (tD ns)) : TupI K H x ns := by
  cases h with
  | @tup a xs _ hs ha =>
    obtain ⟨ms, e3, e4⟩ := th_asInts ha fun d hd => by
      obtain ⟨i, _, rfl⟩ := List.mem_map.mp hd
      exact ⟨i, rfl⟩
    have e5 : ns = ms := List.map_inj_right (fun a b h => by cases h; rfl) |>.mp (show ns.map PyData.int = ms.map PyData.int from e4)
    subst e5
    rw [e3] at hs
    exact ⟨_, rfl, hs⟩
theorem row_bel {ns : List Int} {m : Nat} (h : ns.Perm (rng m)) : ∀ i ∈ ns, 0 ≤ i ∧ i < (m : Int) := by
  intro i hi
  have z := h.mem_iff.mp hi
  unfold rng at z
  obtain ⟨j, hj, rfl⟩ := List.mem_map.mp z
  have := List.mem_range.mp hj
  omega
theorem row_len {ns : List Int} {m : Nat} (h : ns.Perm (rng m)) : ns.length = m := by
  rw [h.length_eq]
  unfold rng
  rw [List.length_map, List.length_range]
section
variable {P : Program} {w : World} {K : PySem.W.Frag} {mg : Str → Option Value} {base : Heap} {Ps : Tbs} {H H' H0 : Hp} {k : Nat} {f c : Addr} {fd : FuncData} {CS CN CL CR CO CP : Addr}
/-- a stack and any thing -/
structure AskX (K : PySem.W.Frag) (Ps : Tbs) (H : Hp) (x y : V) (n k : Int) (fss : List (List Int)) (d : PyData) : Prop where
  stk : Stk K H x n k fss
  ok : StkOk n k fss
  th : Th K H y d
  wd : wide d = true
  tb : Tb Ps H
theorem AskX.ext {x y : V} {n k : Int} {fss : List (List Int)} {d : PyData} (h : AskX K Ps H x y n k fss d) (e : Ext Ps H H') : AskX K Ps H' x y n k fss d := ⟨e.stk h.stk, h.ok, e.th h.th, h.wd, e.tb⟩
theorem AskX.row {x y : V} {n k : Int} {fss : List (List Int)} {ns : List Int} (h : AskX K Ps H x y n k fss (tD ns)) (hp : ns.Perm (rng fss.length)) : AskR K Ps H x y n k fss ns :=
  ⟨h.stk, h.ok, th_tupI h.th, row_bel hp, by rw [row_len hp]; have := h.ok.l70; omega, h.tb⟩
def spIsRowX (K : PySem.W.Frag) (Ps : Tbs) : Sp := fun vs H Q _ => ∃ (x y : V) (n kk : Int) (fss : List (List Int)) (d : PyData), vs = [x, y] ∧ AskX K Ps H x y n kk fss d ∧ ∀ b H', (b = true ↔ RowD d fss.length) → Ext Ps H H' → Q (.bl b) H'
def spEachX (K : PySem.W.Frag) (Ps : Tbs) : Sp := fun vs H Q _ => ∃ (y : V) (m : Nat) (d : PyData), vs = [y, .int m] ∧ Th K H y d ∧ m ≤ 1000 ∧ Tb Ps H ∧ ∀ b H', (b = true ↔ RowD d m) → Ext Ps H H' → Q (.bl b) H'
theorem ok_eachX {fB cB : Addr} {fdB : FuncData} (D : Def K mg "is_each_once" sEach ["thing", "many"] f fd c) (DB : Def K mg "all_below" sBelow ["thing", "many"] fB fdB cB) (GB : FnOk P w K mg base CX0 k fB fdB ["thing", "many"] (spBelowX K Ps))
    (ms : mg "sorted" = none) (mL : mg "list" = none) (mr : mg "range" = none) : FnOk P w K mg base CX0 (k + 1) f fd ["thing", "many"] (spEachX K Ps) := by
  refine D.ok (k := k) scEach (fun vs H Q E h => ?_) (fun A outer s H vs Q E hr h => ?_)
  · obtain ⟨y, m, d, rfl, _⟩ := h
    rfl
  · obtain ⟨y, m, d, rfl, hth, hm, ht, q⟩ := h
    refine ⟨_, pss_one (ps_ret (pe_and (pcl DB GB hr (pa_cons (pv 0) (pa_cons (pv 1) pa_nil))) (pe_one (pe_cmpR (op_eqD hr.units) (pe_callB cr_sortTI (by rfl) ms (by decide +kernel) (pa_cons (pv 0) pa_nil)) (pe_listRg (by rfl) (by rfl) mL (prg_1 (by rfl) mr (pv 1))) (nomark _))))), ?_⟩
    refine ⟨y, rfl, .int (m : Int), rfl, y, d, (m : Int), rfl, hth, ht, fun H1 e1 => ⟨_, rfl, ite2 (fun hc => ?_) (fun hc => ?_)⟩⟩
    · have hb : belowD d (m : Int) = true := hc
      obtain ⟨ns, rfl, hbn⟩ := below_ints hb
      obtain ⟨t, rfl, hT⟩ := th_tupI hth
      refine ⟨.ref t, rfl, t, ns, rfl, e1.sqT hT, fun us p pm sr np => ?_⟩
      have e2 := Ext.new (o := .lst (us.map V.int)) e1.tb np
      refine ⟨.int (m : Int), rfl, (m : Int), rfl, RgOk.of_le (by omega) (by omega) (by omega) (by omega), fun l nl => ?_⟩
      rw [rng_V]
      have e3 := Ext.new (o := .lst ((rng m).map V.int)) e2.tb nl
      refine ⟨.list (iD us), .list (iD (rng m)), .lst (.inl (.inl (e3.lst upd_same))) (dp_ints us), .lst (.inl (.inl upd_same)) (dp_ints _), shp_list us, shp_list _, ?_⟩
      refine q _ _ ?_ (e1.trans (e2.trans e3))
      rw [PyData.eqv, eqv_ints, decide_eq_true_eq]
      constructor
      · intro e
        exact ⟨ns, rfl, by rw [← e]; exact pm.symm⟩
      · rintro ⟨ms', em, hm⟩
        rw [← tD_inj em] at hm
        exact le_perm_eq (pm.trans hm) sr (rng_le _)
    · have hb : belowD d (m : Int) = false := by
        cases e : belowD d (m : Int) with
        | false => rfl
        | true => exact absurd e hc
      have z := q false _ ?_ e1
      · exact z
      constructor
      · intro z
        cases z
      · rintro ⟨ns, rfl, hp⟩
        rw [below_tD (row_bel hp)] at hb
        exact absurd hb (by simp)
theorem ok_isRowX {fB cB : Addr} {fdB : FuncData} (D : Def K mg "is_row" sIsRow ["stack", "thing"] f fd c) (DB : Def K mg "is_each_once" sEach ["thing", "many"] fB fdB cB) (GB : FnOk P w K mg base CX0 k fB fdB ["thing", "many"] (spEachX K Ps))
    (ml : mg "len" = none) : FnOk P w K mg base CX0 (k + 1) f fd ["stack", "thing"] (spIsRowX K Ps) := by
  refine D.ok (k := k) scIsRow (fun vs H Q E h => ?_) (fun A outer s H vs Q E hr h => ?_)
  · obtain ⟨x, y, n, kk, fss, d, rfl, _⟩ := h
    rfl
  · obtain ⟨x, y, n, kk, fss, d, rfl, h0, q⟩ := h
    obtain ⟨a, fa, xs, rfl, h1, h2, h3⟩ := id h0.stk
    have hlen := Paired.length h3
    have l70 := h0.ok.l70
    refine ⟨_, pss_one (ps_ret (pcl DB GB hr (pa_cons (pv 1) (pa_cons (pe_callB (call_lenS (K := K) rfl) (by rfl) ml PySem.boot_len (pa_cons (pe_ix ix_tup (pv 0) pe_int (fun _ _ => rfl)) pa_nil)) pa_nil)))), ?_⟩
    exact ⟨y, rfl, .ref a, rfl, a, _, 2, .ref fa, rfl, rfl, h1, at2, fa, xs, rfl, .inr h2, y, xs.length, d, rfl, h0.th, by omega, h0.tb, fun b H' hb e => q b H' (by rw [← hlen]; exact hb) e⟩
/-! ### what refuses: no stack, and then -/
def BadS (K : PySem.W.Frag) (Ps : Tbs) (CS : Addr) (x : V) (H : Hp) (E : XK) : Prop := ∃ d, Th K H x d ∧ wide d = true ∧ isStackD d = false ∧ Tb Ps H ∧ ∀ H', Ext Ps H H' → E (.ref CS) none H'
/-- need_stack, both ways -/
def spNeedStack2 (K : PySem.W.Frag) (Ps : Tbs) (CS : Addr) : Sp := fun vs H Q E => spNeedStack K Ps vs H Q E ∨ spNeedStackX K Ps CS vs H Q E
def spIsOrderX (K : PySem.W.Frag) (Ps : Tbs) (CS : Addr) : Sp := fun vs H Q E => ∃ (x y : V), vs = [x, y] ∧ (BadS K Ps CS x H E ∨ ∃ (n kk : Int) (fss : List (List Int)) (d : PyData), AskX K Ps H x y n kk fss d ∧ ∀ b H', (b = true ↔ OrdD d fss) → Ext Ps H H' → Q (.bl b) H')
theorem ok_isOrderX {fS cS fR cR fW cW : Addr} {fdS fdR fdW : FuncData} (D : Def K mg "is_order" sIsOrder ["stack", "thing"] f fd c) (DS : Def K mg "need_stack" sNeedStack ["stack"] fS fdS cS) (GS : FnOk P w K mg base (L2.CX P w) k fS fdS ["stack"] (spNeedStack2 K Ps CS))
    (DR : Def K mg "is_row" sIsRow ["stack", "thing"] fR fdR cR) (GR : FnOk P w K mg base CX0 k fR fdR ["stack", "thing"] (spIsRowX K Ps)) (DW : Def K mg "wrong_place" sWrong ["stack", "row"] fW fdW cW) (GW : FnOk P w K mg base CX0 k fW fdW ["stack", "row"] (spWrong K Ps)) :
    FnOk P w K mg base (L2.CX P w) (k + 1) f fd ["stack", "thing"] (spIsOrderX K Ps CS) := by
  refine D.okX (k := k) scIsOrder (fun vs H Q E h => ?_) (fun A outer s H vs Q E hr tk h => ?_)
  · obtain ⟨x, y, rfl, _⟩ := h
    rfl
  · obtain ⟨x, y, rfl, h⟩ := h
    refine ⟨_, pss_cons (ps_expr (pclX DS GS hr tk (pa_cons (pv 0) pa_nil))) (pss_one (ps_ret (pe_and (pcl DR GR hr (pa_cons (pv 0) (pa_cons (pv 1) pa_nil))) (pe_one (pe_cmpR op_isN (pcl DW GW hr (pa_cons (pv 0) (pa_cons (pv 1) pa_nil))) pe_non (nomark _)))))), ?_⟩
    rcases h with ⟨d, b1, b2, b3, b4, q⟩ | ⟨n, kk, fss, d, h0, q⟩
    · exact ⟨x, rfl, .inr ⟨x, d, rfl, b1, b2, b3, b4, q⟩⟩
    refine ⟨x, rfl, .inl ⟨x, n, kk, fss, rfl, h0.stk, h0.ok, h0.tb, fun H1 e1 => ?_⟩⟩
    refine ⟨x, rfl, y, rfl, x, y, n, kk, fss, d, rfl, h0.ext e1, fun b H2 hb e2 => ⟨b, rfl, ?_⟩⟩
    cases b with
    | false =>
      refine iteF (q false _ ?_ (e1.trans e2))
      constructor
      · intro z
        cases z
      · intro z
        exact absurd (hb.mpr z.row) (by simp)
    | true =>
      obtain ⟨ns, rfl, hp⟩ := hb.mp rfl
      refine iteT ⟨x, rfl, y, rfl, x, y, n, kk, fss, ns, rfl, (h0.ext (e1.trans e2)).row hp, fun H3 e3 => ⟨rfl, ?_⟩⟩
      refine q _ _ ?_ (e1.trans (e2.trans e3))
      cases hw : wrongAt [] (facesAt fss ns) 0 with
      | none => exact ⟨fun _ => ⟨ns, rfl, hp, hw⟩, fun _ => decide_eq_true rfl⟩
      | some p => exact ⟨fun z => absurd (of_decide_eq_true z) (by intro q; cases q), fun ⟨ms, em, z⟩ => by
          rw [← tD_inj em] at z
          exact absurd (z.2.symm.trans hw) (by simp)⟩
/-- need_order of any thing -/
def spNeedOrderX (K : PySem.W.Frag) (Ps : Tbs) (CO : Addr) : Sp := fun vs H Q E => ∃ (x y : V) (n kk : Int) (fss : List (List Int)) (d : PyData), vs = [x, y] ∧ AskX K Ps H x y n kk fss d ∧ ∀ H', Ext Ps H H' → (OrdD d fss → Q .non H') ∧ (¬ OrdD d fss → E (.ref CO) none H')
theorem ok_needOrderX {fO cO : Addr} {fdO : FuncData} (D : Def K mg "need_order" sNeedOrder ["stack", "order"] f fd c) (DO : Def K mg "is_order" sIsOrder ["stack", "thing"] fO fdO cO) (GO : FnOk P w K mg base (L2.CX P w) k fO fdO ["stack", "thing"] (spIsOrderX K Ps CS)) (RO : Ref K mg "NoOrder" CO) :
    FnOk P w K mg base (L2.CX P w) (k + 1) f fd ["stack", "order"] (spNeedOrderX K Ps CO) := by
  refine D.okX (k := k) scNeedOrder (fun vs H Q E h => ?_) (fun A outer s H vs Q E hr tk h => ?_)
  · obtain ⟨x, y, n, kk, fss, d, rfl, _⟩ := h
    rfl
  · obtain ⟨x, y, n, kk, fss, d, rfl, h0, q⟩ := h
    refine ⟨_, pss_one (ps_if (pt_not (pt_val (pclN DO GO hr (pa_cons (pv 0) (pa_cons (pv 1) pa_nil))))) (pss_one (ps_refuse RO tk)) pss_nil), ?_⟩
    refine ⟨x, rfl, y, rfl, x, y, rfl, .inr ⟨n, kk, fss, d, h0, fun b H1 hb e1 => ⟨b, rfl, ?_⟩⟩⟩
    cases b with
    | true => exact iteF ((q _ e1).1 (hb.mp rfl))
    | false => exact iteT ((q _ e1).2 fun z => absurd (hb.mpr z) (by simp))
/-! ### first_wrong, brings, refusing -/
def spFirstWrongX (K : PySem.W.Frag) (Ps : Tbs) (CS CR : Addr) : Sp := fun vs H Q E => ∃ (x y : V), vs = [x, y] ∧ (BadS K Ps CS x H E ∨ ∃ (n kk : Int) (fss : List (List Int)) (d : PyData), AskX K Ps H x y n kk fss d ∧ ¬ RowD d fss.length ∧ ∀ H', Ext Ps H H' → E (.ref CR) none H')
def spBringsX (K : PySem.W.Frag) (Ps : Tbs) (CS CO : Addr) : Sp := fun vs H Q E => ∃ (x y : V), vs = [x, y] ∧ (BadS K Ps CS x H E ∨ ∃ (n kk : Int) (fss : List (List Int)) (d : PyData), AskX K Ps H x y n kk fss d ∧ ¬ OrdD d fss ∧ ∀ H', Ext Ps H H' → E (.ref CO) none H')
/-! ### may_lay, brought, new_parts, refusing -/
/-- why a lot and a number are refused -/
def BadL (K : PySem.W.Frag) (Ps : Tbs) (CS CL CN : Addr) (x y z : V) (H : Hp) (E : XK) : Prop :=
  BadS K Ps CS x H E ∨ (∃ (n kk : Int) (fss : List (List Int)) (d : PyData), AskX K Ps H x y n kk fss d ∧ risD d fss.length = false ∧ ∀ H', Ext Ps H H' → E (.ref CL) none H') ∨
  (∃ (n kk : Int) (fss : List (List Int)) (d : PyData) (ns : List Int), AskX K Ps H x z n kk fss d ∧ TupI K H y ns ∧ LotOk fss.length ns ∧ intIn d 0 ((fss.length : Int) - 1) = false ∧ ∀ H', Ext Ps H H' → E (.ref CN) none H')
def spLotX (K : PySem.W.Frag) (Ps : Tbs) (CS CL CN : Addr) : Sp := fun vs H Q E => ∃ (x y z : V), vs = [x, y, z] ∧ BadL K Ps CS CL CN x y z H E
def spNeedLot2 (K : PySem.W.Frag) (Ps : Tbs) (CL : Addr) : Sp := fun vs H Q E => spNeedLot K Ps vs H Q E ∨ spNeedLotX K Ps CL vs H Q E
variable {fS cS fL cL fF cF : Addr} {fdS fdL fdF : FuncData}
end
end Lf

set_option maxHeartbeats 4000000
namespace Lf
open PySem PySem.Spec PyProof.Rows L2 GxR GxA SrT
theorem eqv_nilT' (gs : List (List Int)) : PyData.eqv (.tuple (gs.map tD)) (.tuple []) = gs.isEmpty := by
  cases gs with
  | nil => simp [PyData.eqv, PyData.eqvAll]
  | cons g gs => simp [PyData.eqv, PyData.eqvAll]
theorem shp_tupsT' (fs : List (List Int)) : SeqAt.shaped (.tuple (fs.map tD)) = true := by
  have z := dep_tups fs
  unfold SeqAt.shaped
  rw [PyData.canLay0, lay_tups, PyData.depth, Bool.true_and]
  exact decide_eq_true (by omega)
def lackL (fss : List (List Int)) (p : Int) : List (List Int) := fss.filter fun g => !decide (p ∈ g)
def arF (fss : List (List Int)) (p : Int) : List (List Int) := (fss.filter fun g => decide (p ∈ g)).map fun g => lessL g [p]
def comesB (fss : List (List Int)) (p : Int) : Bool := !(arF fss p).isEmpty && (arF fss p).all fun g => inSome g (lackL fss p)
def takL (n : Nat) (fss : List (List Int)) : List Int := ((List.range n).map fun i : Nat => (i : Int)).filter fun p => comesB fss p
section
variable {P : Program} {w : World} {K : PySem.W.Frag} {mg : Str → Option Value} {base : Heap} {Ps : Tbs} {H H' H0 : Hp} {k : Nat} {f c : Addr} {fd : FuncData}
variable {CS CN : Addr}
def spLack (K : PySem.W.Frag) (Ps : Tbs) : Sp := fun vs H Q _ => ∃ (fa : Addr) (p : Int) (xs : List V) (fss : List (List Int)), vs = [.ref fa, .int p] ∧ SqT K H fa xs ∧ Paired (TupI K H) xs fss ∧ fss.length ≤ 70 ∧ Tb Ps H ∧ ∀ (t : Addr) (ys : List V) (H' : Hp), Ext Ps H H' → SqT K H' t ys → Paired (TupI K H') ys (lackL fss p) → Q (.ref t) H'
def spArF (K : PySem.W.Frag) (Ps : Tbs) : Sp := fun vs H Q _ => ∃ (fa : Addr) (p : Int) (xs : List V) (fss : List (List Int)), vs = [.ref fa, .int p] ∧ SqT K H fa xs ∧ Paired (TupI K H) xs fss ∧ fss.length ≤ 70 ∧ (∀ g ∈ fss, g.length ≤ 8) ∧ Tb Ps H ∧ ∀ (t : Addr) (ys : List V) (H' : Hp), Ext Ps H H' → SqT K H' t ys → Paired (TupI K H') ys (arF fss p) → Q (.ref t) H'
def spComes (K : PySem.W.Frag) (Ps : Tbs) : Sp := fun vs H Q _ => ∃ (fa : Addr) (p : Int) (xs : List V) (fss : List (List Int)), vs = [.ref fa, .int p] ∧ SqT K H fa xs ∧ Paired (TupI K H) xs fss ∧ fss.length ≤ 70 ∧ (∀ g ∈ fss, g.length ≤ 8) ∧ Tb Ps H ∧ ∀ H', Ext Ps H H' → Q (.bl (comesB fss p)) H'
/-! ### may_take, takable -/
def spMayTake (K : PySem.W.Frag) (Ps : Tbs) : Sp := fun vs H Q _ => ∃ (x : V) (n kk p : Int) (fss : List (List Int)), vs = [x, .int p] ∧ Stk K H x n kk fss ∧ StkOk n kk fss ∧ 0 ≤ p ∧ p < n ∧ Tb Ps H ∧ ∀ H', Ext Ps H H' → Q (.bl (comesB fss p)) H'
def spTakable (K : PySem.W.Frag) (Ps : Tbs) : Sp := fun vs H Q _ => ∃ (x : V) (n kk : Int) (fss : List (List Int)), vs = [x] ∧ Stk K H x n kk fss ∧ StkOk n kk fss ∧ Tb Ps H ∧ ∀ (l : Addr) (H' : Hp), Ext Ps H H' → H l = none → H' l = some (.lst ((takL n.toNat fss).map V.int)) → Q (.ref l) H'
/-! ### refused -/
def spMayTakeX (K : PySem.W.Frag) (Ps : Tbs) (CS CN : Addr) : Sp := fun vs H _ E => ∃ (x y : V), vs = [x, y] ∧ (BadS K Ps CS x H E ∨ ∃ (n kk : Int) (fss : List (List Int)) (d : PyData), Stk K H x n kk fss ∧ StkOk n kk fss ∧ Th K H y d ∧ intIn d 0 (n - 1) = false ∧ Tb Ps H ∧ ∀ H', Ext Ps H H' → E (.ref CN) none H')
def spTakableX (K : PySem.W.Frag) (Ps : Tbs) (CS : Addr) : Sp := fun vs H _ E => ∃ (x : V), vs = [x] ∧ BadS K Ps CS x H E
end
end Lf

set_option maxHeartbeats 4000000
namespace Lf
open PySem PySem.Spec PyProof.Rows L2 GxR GxA SrT
section
variable {X : Cx}
/-- t.index(z), a tuple of numbers -/
def rTixI (K : PySem.W.Frag) : V → List V → Hp → VK → Prop := fun x xs H Q => ∃ (p : Addr) (ys : List Int) (z : Int) (j : Nat), x = .ref p ∧ xs = [.int z] ∧ SqT K H p (ys.map V.int) ∧ ys[j]? = some z ∧ (∀ m, m < j → ys[m]? ≠ some z) ∧ Q (.int (j : Nat)) H
theorem mt_tixI : MtR X "tuple.index" (rTixI X.K) := by
  intro pins s σ H x xs v us Q I rx rs h
  obtain ⟨p, ys, z, j, rfl, rfl, hq, hy, hno, q⟩ := h
  cases rx
  obtain ⟨u, rfl, t, rfl⟩ := vals1 rs
  obtain ⟨its, r, pl, hz⟩ := I.tuple hq
  obtain ⟨⟨cls, dd, dt, sl⟩, ho, hc, n, hd⟩ := pl
  simp only at hc hd
  subst hc
  subst hd
  have hl : its.toArray.size = ys.length := by rw [List.size_toArray, ← r.length, List.length_map]
  have hj : j < its.toArray.size := by rw [hl]; exact (List.getElem?_eq_some_iff.mp hy).1
  have at' : ∀ (m : Nat) (hm : m < its.toArray.size), ∃ y t', ys[m]? = some y ∧ its.toArray[m] = Value.int y t' := fun m hm => by
    have hm' : m < ys.length := by rw [← hl]; exact hm
    obtain ⟨w, hw, t', hw'⟩ := r.get (i := m) (x := .int ys[m]) (by simp [hm'])
    refine ⟨ys[m], t', List.getElem?_eq_getElem hm', ?_⟩
    have e := (List.getElem?_eq_some_iff.mp hw).2
    rw [← hw', ← e]
    simp
  refine call_meets PySem.F.slot_tuple_index ⟨_, ho, rfl⟩ PySem.F.entry_tuple_index (PySem.F.args_tuple_index_2 _ _) (TI.tuple_indexAt p its.toArray n dd sl (.int z t) (eqU (.int z)) j hj ?_ ?_)
    ⟨ho, fun w hw => mem_eqAt (x := .int z) ⟨t, rfl⟩ rfl r (flat_ints ys) w (by simpa using hw), ⟨.int (j : Nat), H, I.tok _, ⟨_, rfl⟩, q⟩⟩
  · obtain ⟨y, t', h1, h2⟩ := at' j hj
    rw [hy] at h1
    cases h1
    rw [h2]
    show (z == z) = true
    exact beq_self_eq_true z
  · intro m hm hmj
    obtain ⟨y, t', h1, h2⟩ := at' m hm
    rw [h2]
    show (y == z) = false
    exact beq_eq_false_iff_ne.mpr fun e => hno m hmj (e ▸ h1)
end
/-! ### names -/
def srtI (l : List Int) : List Int := l.mergeSort fun a b => decide (a ≤ b)
theorem srtI_perm (l : List Int) : (srtI l).Perm l := List.mergeSort_perm l _
theorem srtI_pw (l : List Int) : (srtI l).Pairwise (· ≤ ·) := by
  have h := List.pairwise_mergeSort (le := fun a b : Int => decide (a ≤ b)) (fun a b c h1 h2 => by simp at *; omega) (fun a b => by simp; omega) l
  exact h.imp fun {a b} z => by simpa using z
theorem eq_srtI {us l : List Int} (p : us.Perm l) (h : us.Pairwise (· ≤ ·)) : us = srtI l := le_perm_eq (p.trans (srtI_perm l).symm) h (srtI_pw l)
def ntI (ns : List Int) (p : Int) : Int := ns.getD p.toNat 0
def nmF (ns fc : List Int) : List Int := srtI (fc.map (ntI ns))
theorem nmF_len (ns fc : List Int) : (nmF ns fc).length = fc.length := by
  unfold nmF
  rw [(srtI_perm _).length_eq, List.length_map]
def bkL (n : Nat) (ns : List Int) : List Int := (rng n).map fun z => (ns.idxOf z : Int)
theorem rng_get {n i : Nat} (h : i < n) : (rng n)[i]? = some (i : Int) := by
  unfold rng
  rw [List.getElem?_map, List.getElem?_range h]
  rfl
theorem rng_succ (n : Nat) : rng (n + 1) = rng n ++ [(n : Int)] := by
  unfold rng
  rw [List.range_succ, List.map_append]
  rfl
theorem bkL_succ (n : Nat) (ns : List Int) : bkL (n + 1) ns = bkL n ns ++ [(ns.idxOf (n : Int) : Int)] := by
  unfold bkL
  rw [rng_succ, List.map_append]
  rfl
theorem idx_get {ns : List Int} {z : Int} (h : z ∈ ns) : ns[ns.idxOf z]? = some z ∧ ∀ m, m < ns.idxOf z → ns[m]? ≠ some z := by
  induction ns with
  | nil => cases h
  | cons y ns ih =>
    by_cases e : y = z
    · subst e
      have e0 : (y :: ns).idxOf y = 0 := by simp
      rw [e0]
      exact ⟨rfl, fun m hm => by omega⟩
    · have e0 : (y :: ns).idxOf z = ns.idxOf z + 1 := by
        rw [List.idxOf_cons, beq_false_of_ne e]
        rfl
      rw [e0]
      rcases List.mem_cons.mp h with h | h
      · exact absurd h.symm e
      obtain ⟨h1, h2⟩ := ih h
      refine ⟨h1, fun m hm => ?_⟩
      match m with
      | 0 => exact fun z => e (by injection z)
      | m + 1 => exact h2 m (by omega)
theorem mem_perm_rng {ns : List Int} {n i : Nat} (p : ns.Perm (rng n)) (h : i < n) : (i : Int) ∈ ns := p.mem_iff.mpr (List.mem_of_getElem? (rng_get h))
theorem len_perm_rng {ns : List Int} {n : Nat} (p : ns.Perm (rng n)) : ns.length = n := by
  rw [p.length_eq]
  unfold rng
  rw [List.length_map, List.length_range]
section
variable {P : Program} {w : World} {K : PySem.W.Frag} {mg : Str → Option Value} {base : Heap} {Ps : Tbs} {H H' H0 : Hp} {k : Nat} {f c : Addr} {fd : FuncData}
variable {CS CM : Addr}
/-! ### need_names -/
def spNeedNames (K : PySem.W.Frag) (Ps : Tbs) : Sp := fun vs H Q _ => ∃ (x y : V) (n kk : Int) (fss : List (List Int)) (ns : List Int), vs = [x, y] ∧ Stk K H x n kk fss ∧ StkOk n kk fss ∧ TupI K H y ns ∧ ns.Perm (rng n.toNat) ∧ Tb Ps H ∧ ∀ H', Ext Ps H H' → Q .non H'
def spNeedNamesX (K : PySem.W.Frag) (Ps : Tbs) (CM : Addr) : Sp := fun vs H _ E => ∃ (x y : V) (n kk : Int) (fss : List (List Int)) (d : PyData), vs = [x, y] ∧ Stk K H x n kk fss ∧ StkOk n kk fss ∧ Th K H y d ∧ ¬ RowD d n.toNat ∧ Tb Ps H ∧ ∀ H', Ext Ps H H' → E (.ref CM) none H'
/-! ### told_by -/
def spToldBy (K : PySem.W.Frag) (Ps : Tbs) : Sp := fun vs H Q _ => ∃ (x y : V) (fc ns : List Int), vs = [x, y] ∧ TupI K H x fc ∧ TupI K H y ns ∧ (∀ p ∈ fc, 0 ≤ p ∧ p < ns.length) ∧ fc.length ≤ 8 ∧ Tb Ps H ∧ ∀ v H', Ext Ps H H' → TupI K H' v (nmF ns fc) → Q v H'
/-! ### named -/
def spNamed (K : PySem.W.Frag) (Ps : Tbs) : Sp := fun vs H Q _ => ∃ (x y : V) (n kk : Int) (fss : List (List Int)) (ns : List Int), vs = [x, y] ∧ Stk K H x n kk fss ∧ StkOk n kk fss ∧ TupI K H y ns ∧ ns.Perm (rng n.toNat) ∧ Tb Ps H ∧ ∀ v H', Ext Ps H H' → Stk K H' v n kk (sortL (fss.map (nmF ns))) → Q v H'
/-! ### named_back -/
def spBack (K : PySem.W.Frag) (Ps : Tbs) : Sp := fun vs H Q _ => ∃ (x : V) (t : Addr) (n kk : Int) (fss : List (List Int)) (ns : List Int), vs = [x, .ref t] ∧ Stk K H x n kk fss ∧ StkOk n kk fss ∧ SqT K H t (ns.map V.int) ∧ FzT H t ∧ ns.Perm (rng n.toNat) ∧ Tb Ps H ∧ ∀ v H', Ext Ps H H' → TupI K H' v (bkL n.toNat ns) → Q v H'
/-! ### refused -/
def spNmX (K : PySem.W.Frag) (Ps : Tbs) (CS CM : Addr) : Sp := fun vs H _ E => ∃ (x y : V), vs = [x, y] ∧ (BadS K Ps CS x H E ∨ ∃ (n kk : Int) (fss : List (List Int)) (d : PyData), Stk K H x n kk fss ∧ StkOk n kk fss ∧ Th K H y d ∧ ¬ RowD d n.toNat ∧ Tb Ps H ∧ ∀ H', Ext Ps H H' → E (.ref CM) none H')
end
end Lf

set_option maxHeartbeats 4000000
namespace Lf
open PySem PySem.Spec PyProof.Rows L2 GxR GxA SrT
theorem idxG_get {ns : List (List Int)} {z : List Int} (h : z ∈ ns) : ns[ns.idxOf z]? = some z ∧ ∀ m, m < ns.idxOf z → ns[m]? ≠ some z := by
  induction ns with
  | nil => cases h
  | cons y ns ih =>
    by_cases e : y = z
    · subst e
      have e0 : (y :: ns).idxOf y = 0 := by simp
      rw [e0]
      exact ⟨rfl, fun m hm => by omega⟩
    · have e0 : (y :: ns).idxOf z = ns.idxOf z + 1 := by
        rw [List.idxOf_cons, beq_false_of_ne e]
        rfl
      rw [e0]
      rcases List.mem_cons.mp h with h | h
      · exact absurd h.symm e
      obtain ⟨h1, h2⟩ := ih h
      refine ⟨h1, fun m hm => ?_⟩
      match m with
      | 0 => exact fun z => e (by injection z)
      | m + 1 => exact h2 m (by omega)
theorem idx_rng {l : List (List Int)} (nd : l.Nodup) : (l.map fun g => (l.idxOf g : Int)) = rng l.length := by
  apply List.ext_getElem?
  intro i
  rw [List.getElem?_map]
  by_cases h : i < l.length
  · rw [List.getElem?_eq_getElem h, rng_get h]
    obtain ⟨h1, h2⟩ := idxG_get (List.getElem_mem h)
    have hi : l.idxOf l[i] = i := by
      obtain ⟨h3, h4⟩ := List.getElem?_eq_some_iff.mp h1
      have pw := List.pairwise_iff_getElem.mp nd
      rcases Nat.lt_trichotomy (l.idxOf l[i]) i with h5 | h5 | h5
      · exact absurd h4 (pw _ _ h3 h h5)
      · exact h5
      · exact absurd h4.symm (pw _ _ h h3 h5)
    show some ((l.idxOf l[i] : Nat) : Int) = _
    rw [hi]
  · rw [List.getElem?_eq_none (by omega), List.getElem?_eq_none (by rw [rng_len]; omega)]
    rfl
theorem idx_perm {df : List (List Int)} (nd : df.Nodup) : (df.map fun g => ((sortL df).idxOf g : Int)).Perm (rng (sortL df).length) := by
  have nd2 : (sortL df).Nodup := (sortL_perm df).nodup_iff.mpr nd
  rw [← idx_rng nd2]
  exact (sortL_perm df).symm.map _
abbrev sLaidN : Stmt := topS 59
theorem scLaidN : FnScope ["_law_pen_here", "_law_most", "_law_way", "_law_n", "_law_k", "_law_stack", "_law_faces", "_law_face"] ["_law_pen_here", "_law_most"] (defScope sLaidN) := ⟨rfl, rfl, rfl, by decide +kernel, rfl, by decide +kernel, by decide +kernel⟩
section
variable {P : Program} {w : World} {K : PySem.W.Frag} {mg : Str → Option Value} {base : Heap} {Ps : Tbs} {H H' H0 : Hp} {k : Nat} {f c : Addr} {fd : FuncData}
def spMadeF (K : PySem.W.Frag) (Ps : Tbs) : Sp := fun vs H Q _ => ∃ (n kk : Int) (l : Addr) (xs : List V) (fss : List (List Int)), vs = [.int n, .int kk, .ref l] ∧ SqL K H l xs ∧ Paired (TupI K H) xs fss ∧ Tb Ps H ∧ ∀ (ts tf : Addr) (zs : List V) (H' : Hp), Ext Ps H H' → SqT K H' ts [.int n, .int kk, .ref tf] → SqT K H' tf zs → FzT H' tf → Paired (TupI K H') zs (sortL fss) → Q (.ref ts) H'
theorem ok_madeF (D : Def K mg "_law_made" sMade ["_law_n", "_law_k", "_law_faces"] f fd c) (mt : mg "tuple" = none) (ms : mg "sorted" = none) : FnOk P w K mg base CX0 (k + 1) f fd ["_law_n", "_law_k", "_law_faces"] (spMadeF K Ps) := by
  refine D.ok (k := k) scMade (fun vs H Q E h => ?_) (fun A outer s H vs Q E hr h => ?_)
  · obtain ⟨n, kk, l, xs, fss, rfl, _⟩ := h
    rfl
  · obtain ⟨n, kk, l, xs, fss, rfl, hl, hp, ht, q⟩ := h
    refine ⟨_, (pss_one (ps_ret (pe_tup (pa_cons (pv 0) (pa_cons (pv 1) (pa_cons (pe_callTy call_tuple_frz (by rfl) mt (by decide +kernel) (pa_cons (pe_callB (cr_sortL hr.units) (by rfl) ms (by decide +kernel) (pa_cons (pv 2) pa_nil)) pa_nil)) pa_nil)))))), ?_⟩
    refine ⟨.int n, rfl, .int kk, rfl, .ref l, rfl, l, xs, fss, rfl, hl, hp, fun zs p hz _ np => ?_⟩
    have x5 := Ext.new (o := .lst zs) ht np
    refine ⟨p, zs, rfl, .inl (.inl upd_same), fun tf oT oc od ntf => ⟨(by show 3 ≤ sizeLine; decide), fun ts nts => ?_⟩⟩
    have x6 := Ext.new (o := .frz oT (.tup zs)) x5.tb ntf
    have x7 := Ext.new (o := .tup [.int n, .int kk, .ref tf]) x6.tb nts
    exact q ts tf zs _ (x5.trans (x6.trans x7)) (.inl (.inl upd_same)) (x7.sqT (.inl (.inr ⟨_, upd_same⟩))) (x7.fzT ⟨_, _, upd_same, oc, od⟩) ((x5.trans (x6.trans x7)).tups hz)
def spLaidN (K : PySem.W.Frag) (Ps : Tbs) : Sp := fun vs H Q _ => ∃ (a : Addr) (m : Nat), vs = [.ref a, .int m] ∧ Pen H a ∧ 1 ≤ m ∧ m ≤ 70 ∧ Tb Ps H ∧ ∀ (t : Addr) (v w : V) (n kk : Int) (fss : List (List Int)) (ns : List Int) (H' : Hp), Epn Ps a H H' → SqT K H' t [v, w] → Stk K H' v n kk fss → StkOk n kk fss → fss.length ≤ m → TupI K H' w ns → ns.Perm (rng fss.length) → Q (.ref t) H'
theorem ok_laidN {fD cD fS cS fK cK fG cG fM cM : Addr} {fdD fdS fdK fdG fdM : FuncData} (D : Def K mg "_law_laid" sLaidN ["_law_pen_here", "_law_most"] f fd c) (DD : Def K mg "_law_draw" sDraw ["_law_pen_here", "_law_many"] fD fdD cD) (GD : FnOk P w K mg base CX0 k fD fdD ["_law_pen_here", "_law_many"] spDraw)
    (DS : Def K mg "_law_size" sSize ["_law_pen_here"] fS fdS cS) (GS : FnOk P w K mg base CX0 k fS fdS ["_law_pen_here"] (spSize K Ps)) (DK : Def K mg "_law_kindly" sKindly ["_law_pen_here", "_law_most"] fK fdK cK) (GK : FnOk P w K mg base CX0 k fK fdK ["_law_pen_here", "_law_most"] (spStackN K Ps))
    (DG : Def K mg "_law_grown" sGrown ["_law_pen_here", "_law_n", "_law_k", "_law_most"] fG fdG cG) (GG : FnOk P w K mg base CX0 k fG fdG ["_law_pen_here", "_law_n", "_law_k", "_law_most"] (spGrown K Ps)) (DM : Def K mg "_law_made" sMade ["_law_n", "_law_k", "_law_faces"] fM fdM cM) (GM : FnOk P w K mg base CX0 k fM fdM ["_law_n", "_law_k", "_law_faces"] (spMadeF K Ps)) (mt : mg "tuple" = none) (mr : mg "range" = none) (ml : mg "len" = none) : FnOk P w K mg base CX0 (k + 1) f fd ["_law_pen_here", "_law_most"] (spLaidN K Ps) := by
  refine D.ok (k := k) scLaidN (fun vs H Q E h => ?_) (fun A outer s H vs Q E hr h => ?_)
  · obtain ⟨a, m, rfl, _⟩ := h
    rfl
  · obtain ⟨a, m, rfl, hP, m1, m70, ht, q⟩ := h
    have rm : (A.deeper (envOfC "_law_laid" (defScope sLaidN) s.heap.objs.size f (.ref c))).units + 65 < cLine := by
      have := hr.un
      omega
    refine ⟨_, (pss_cons (ps_set (i := 2) scLaidN.nd rfl (.inl rfl) (pcl DD GD hr (pa_cons (pv 0) (pa_cons pe_int pa_nil)))) (pss_cons (ps_asg (pcl DS GS hr (pa_cons (pv 0) pa_nil)) (pg_tup (by rfl) (pgs_cons (pg_name (i := 3) scLaidN.nd rfl (.inl rfl)) (pgs_cons (pg_name (i := 4) scLaidN.nd rfl (.inl rfl)) pgs_nil)))) (pss_cons (ps_if (pt_cmpR op_eq (pv 2) pe_int (nomark _)) (pss_cons (ps_set (i := 5) scLaidN.nd rfl (.inr rfl) (pcl DK GK hr (pa_cons (pv 0) (pa_cons (pv 1) pa_nil)))) (pss_one (ps_ret (pe_tup (pa_cons (pv 5) (pa_cons (pe_tupRg (by rfl) (by rfl) mt (prg_1 (by rfl) mr (pe_callB (call_lenS (K := K) rfl) (by rfl) ml PySem.boot_len (pa_cons (pe_ix (show IxR _ (rIxT K) from ix_tup) (pv 5) pe_int (fun _ _ => rfl)) pa_nil)))) pa_nil)))))) pss_nil) (pss_cons (ps_set (i := 6) scLaidN.nd rfl (.inl rfl) (pcl DG GG hr (pa_cons (pv 0) (pa_cons (pv 3) (pa_cons (pv 4) (pa_cons (pv 1) pa_nil)))))) (pss_cons (ps_set (i := 5) scLaidN.nd rfl (.inr rfl) (pcl DM GM hr (pa_cons (pv 3) (pa_cons (pv 4) (pa_cons (pv 6) pa_nil))))) (pss_one (ps_ret (pe_tup (pa_cons (pv 5) (pa_cons (pe_callTy call_tuple_of (by rfl) mt (by decide +kernel) (pa_cons (pe_lc (own := [("_law_face", 7)]) (g := gName 7) (by rfl) scLaidN.nd (pi_list (pv 6)) (blkOk_by (N := ["_law_pen_here", "_law_most", "_law_way", "_law_n", "_law_k", "_law_stack", "_law_faces", "_law_face"]) (sc := defScope sLaidN) (by decide +kernel)) (fun _ _ _ _ _ => pg_name (i := 7) scLaidN.nd rfl (Or.inl rfl)) (fun _ _ _ _ _ => pts_nil) (fun _ _ _ _ _ => (show PE _ _ (tBMT (rTix K) _ _) from pe_bmT PySem.F.slot_tuple_index PySem.F.type_tuple_index (show MtR _ _ (rTix K) from mt_tix rm) (pe_ix (show IxR _ (rIxT K) from ix_tup) (pv 5) pe_int (fun _ _ => rfl)) (pa_cons (pv 7) pa_nil)))) pa_nil)) pa_nil)))))))))), ?_⟩
    have two : (2 : Nat) ≤ sizeLine := by decide
    refine tseq_intro fun R hR => ?_
    refine ⟨.ref a, rfl, a, 4, rfl, hP, by decide, by decide, fun u1 f1 wy0 w0 w1 => ?_⟩
    have e1 : Epn Ps a H (upd H a (.lst [.int u1, .int f1])) := Epn.draw ht hP
    generalize upd H a (.lst [.int u1, .int f1]) = H1 at *
    obtain ⟨wy, rfl⟩ := Int.eq_ofNat_of_zero_le w0
    show R [some (.ref a), some (.int m), some (.int wy), none, none, none, none, none] H1
    rw [hR]
    clear hR
    refine tseq_intro fun R hR => ?_
    refine ⟨.ref a, rfl, a, rfl, e1.pen, e1.tb, fun t n kk H2 e2 hT n1 n8 hkn hk4 => ?_⟩
    refine ⟨t, _, rfl, hT, rfl, _, _, rfl, _, _, rfl, rfl, ?_⟩
    have P2 := e1.trans e2
    show R [some (.ref a), some (.int m), some (.int wy), some (.int n), some (.int kk), none, none, none] H2
    rw [hR]
    clear hR
    refine tseq_intro fun R hR => ?_
    by_cases w0' : wy = 0
    · subst w0'
      refine ⟨.int (0 : Nat), rfl, rfl, true, by simp, iteT ?_⟩
      refine tseq_intro fun R2 hR2 => ?_
      refine ⟨.ref a, rfl, .int m, rfl, a, m, rfl, P2.pen, m1, m70, P2.tb, fun v n' k' fss H3 e3 hv S hl => ?_⟩
      show R2 [some (.ref a), some (.int m), some (.int (0 : Nat)), some (.int n), some (.int kk), some v, none, none] H3
      rw [hR2]
      clear hR2
      obtain ⟨sa, fa, xs, rfl, h1, h2, h3⟩ := id hv
      have hxl := Paired.length h3
      have l70 := S.l70
      refine ⟨.ref sa, rfl, .ref sa, rfl, sa, _, 2, .ref fa, rfl, rfl, h1, at2, fa, xs, rfl, .inr h2, (xs.length : Int), rfl, RgOk.of_le (by omega) (by omega) (by omega) (by omega), fun l nl => ?_⟩
      have hlenI : (xs.length : Int) = (fss.length : Int) := by omega
      rw [hlenI, rng_V]
      have P3 := P2.trans e3
      have e4 := Ext.new (o := .tup ((rng fss.length).map V.int)) P3.tb nl
      refine ⟨two, fun tt ntt => ?_⟩
      have e5 := Ext.new (o := .tup [.ref sa, .ref l]) e4.tb ntt
      exact q tt (.ref sa) (.ref l) n' k' fss (rng fss.length) _ (P3.trans ((e4.trans e5).epn P3.pen)) (.inl (.inl upd_same)) ((e4.trans e5).stk hv) S hl ⟨l, rfl, e5.sqT (.inl (.inl upd_same))⟩ (List.Perm.refl _)
    refine ⟨.int wy, rfl, rfl, false, ?_, iteF ?_⟩
    · congr 1
      exact decide_eq_false fun z => w0' (by injection z with z; omega)
    show R [some (.ref a), some (.int m), some (.int wy), some (.int n), some (.int kk), none, none, none] H2
    rw [hR]
    clear hR
    refine tseq_intro fun R hR => ?_
    refine ⟨.ref a, rfl, .int n, rfl, .int kk, rfl, .int m, rfl, a, n, kk, m, rfl, P2.pen, n8, hkn, hk4, m1, by omega, P2.tb, fun l ys df H3 e3 nl hl hp nd hin l1 lm _ => ?_⟩
    show R [some (.ref a), some (.int m), some (.int wy), some (.int n), some (.int kk), none, some (.ref l), none] H3
    rw [hR]
    clear hR
    have P3 := P2.trans e3
    refine tseq_intro fun R hR => ?_
    refine ⟨.int n, rfl, .int kk, rfl, .ref l, rfl, n, kk, l, ys, df, rfl, .inl (.inl hl), hp, P3.tb, fun ts tf zs H4 e4 ht4 hf4 hz4 hp4 => ?_⟩
    show R [some (.ref a), some (.int m), some (.int wy), some (.int n), some (.int kk), some (.ref ts), some (.ref l), none] H4
    rw [hR]
    clear hR
    have S := (FacesB.every nd hin).stk n1 n8 hkn hk4 l1 (by omega)
    have hl4 := e4.lst hl
    have hpl := e4.tups hp
    have lyl := Paired.length hp
    refine ⟨.ref ts, rfl, .ref l, rfl, l, rfl, ⟨_, .inl (.inl hl4)⟩, fun D0 hD => lc_list (K := K) (a := l) (xs := ys) (fun i H5 => CP Ps FI H4 D0 ((df.take i).map fun g => ((sortL df).idxOf g : Int)) i H5) (CP.start e4.tb hD) (fun i H5 _ p => p.ext.sqL (.inl (.inl hl4))) (fun i u H5 hu p5 => ?_) (fun H5 p5 => ?_)⟩
    · obtain ⟨g, hg, hI⟩ := paired_get hpl hu
      have hi : i < ys.length := (List.getElem?_eq_some_iff.mp hu).1
      obtain ⟨j1, j2⟩ := idxG_get ((sortL_perm df).mem_iff.mpr (List.mem_of_getElem? hg))
      refine ⟨rfl, yes_ (iteT ⟨.ref ts, rfl, ts, _, 2, .ref tf, rfl, rfl, p5.ext.sqT ht4, at2, ⟨tf, rfl, p5.ext.fzT hz4⟩, u, rfl, tf, u, zs, sortL df, g, (sortL df).idxOf g, rfl, rfl, p5.ext.sqT hf4, p5.ext.tups hp4, p5.ext.tupI hI, j1, j2, ?_⟩)⟩
      have r := CP.put (stbI (K := K)) hD (by omega) p5 (show FI H5 (.int (((sortL df).idxOf g : Nat) : Int)) (((sortL df).idxOf g : Nat) : Int) from rfl)
      rw [List.take_add_one, hg, List.map_append]
      exact r
    · rw [lyl, List.take_length] at p5
      obtain ⟨ws, g1, g2, g3⟩ := p5.at_
      rw [paired_ints g2] at g1
      refine ⟨D0, _, rfl, .inl ⟨.inl (.inl g1), fun tg ntg => ⟨two, fun tt ntt => ?_⟩⟩⟩
      have e6 := Ext.new (o := .tup ((df.map fun g => ((sortL df).idxOf g : Int)).map V.int)) p5.ext.tb ntg
      have e7 := Ext.new (o := .tup [.ref ts, .ref tg]) e6.tb ntt
      have E7 := p5.ext.trans (e6.trans e7)
      exact q tt (.ref ts) (.ref tg) n kk (sortL df) _ _ (P3.trans ((e4.trans E7).epn P3.pen)) (.inl (.inl upd_same)) ⟨ts, tf, zs, rfl, E7.sqT ht4, E7.sqT hf4, E7.tups hp4⟩ S (by rw [(sortL_perm _).length_eq]; exact lm) ⟨tg, rfl, e7.sqT (.inl (.inl upd_same))⟩ (idx_perm nd)
end
end Lf

set_option maxHeartbeats 8000000
namespace Lf
open PySem PySem.Spec PyProof.Rows L2 GxR GxA SrT
abbrev sNoRow : Stmt := topS 64
theorem scNoRow : FnScope ["_law_pen_here", "_law_row", "_law_way", "_law_at", "_law_odd", "_law_some"] ["_law_pen_here", "_law_row"] (defScope sNoRow) := ⟨rfl, rfl, rfl, by decide +kernel, rfl, by decide +kernel, by decide +kernel⟩
/-! ### greater things that can be shown -/
structure El2 (e : PyData) : Prop where
  sh : e.showable = true
  lv : e.leavesShort 40 = true
  wt : e.weight ≤ 3000
  dp : e.depth ≤ 2
theorem El.two {e : PyData} (h : El e) (hl : e.leavesShort 40 = true) : El2 e := ⟨h.sh, hl, Nat.le_trans h.wt (by decide), h.dp⟩
theorem fits40 {d : PyData} (hl : d.leavesShort 40 = true) (hw : d.weight ≤ 350000) : d.shown.length ≤ sizeLine := by
  have h := PyData.shown_le 40 (by decide) d hl
  have h2 : (40 + 2) * d.weight ≤ 42 * 350000 := Nat.mul_le_mul (by decide) hw
  rw [PySem.sizeLine_eq]
  omega
theorem short_int {i : Int} (h : i.natAbs < 1000000) : PyData.leavesShort 40 (.int i) = true := by
  simp only [PyData.leavesShort]
  exact decide_eq_true (Nat.le_trans (PyData.shown_int_le (by omega)) (by decide))
theorem short_ints {ns : List Int} (h : ∀ i ∈ ns, i.natAbs < 1000000) : PyData.leavesShortAll 40 (iD ns) = true := by
  induction ns with
  | nil => rfl
  | cons i ns ih =>
    show (PyData.leavesShort 40 (.int i) && PyData.leavesShortAll 40 (iD ns)) = true
    rw [short_int (h i List.mem_cons_self), ih fun x hx => h x (List.mem_cons_of_mem _ hx)]
    rfl
theorem showAll2 {ds : List PyData} (h : ∀ e ∈ ds, El2 e) : PyData.showableAll ds = true ∧ PyData.leavesShortAll 40 ds = true ∧ PyData.weightAll ds ≤ 3001 * ds.length ∧ PyData.depthAll ds ≤ 2 := by
  induction ds with
  | nil => exact ⟨rfl, rfl, by simp [PyData.weightAll], by simp [PyData.depthAll]⟩
  | cons e ds ih =>
    obtain ⟨h1, h2, h3, h4⟩ := ih fun x hx => h x (List.mem_cons_of_mem _ hx)
    have z := h e List.mem_cons_self
    have z3 := z.wt
    have z4 := z.dp
    refine ⟨by rw [PyData.showableAll, z.sh, h1]; rfl, by rw [PyData.leavesShortAll, z.lv, h2]; rfl, ?_, ?_⟩
    · rw [PyData.weightAll, List.length_cons]
      omega
    · simp only [PyData.depthAll]
      omega
theorem rp2_t {ds : List PyData} (h : ∀ e ∈ ds, El2 e) (hl : ds.length ≤ 100) (hd : ∀ e ∈ ds, e.hasDict = false) : RpOk (.tuple ds) := by
  obtain ⟨h1, h2, h3, h4⟩ := showAll2 h
  refine ⟨(fun i z => by cases z), (fun x z => by cases z), h1, fits40 (d := .tuple ds) h2 ?_, ?_, fun z => ?_⟩
  · show PyData.weightAll ds ≤ 350000
    omega
  · simp only [PyData.depth]
    omega
  · have z' : PyData.hasDictAll ds = true := z
    rw [noDictAll hd] at z'
    cases z'
theorem rp2_l {ds : List PyData} (h : ∀ e ∈ ds, El2 e) (hl : ds.length ≤ 100) (hd : ∀ e ∈ ds, e.hasDict = false) : RpOk (.list ds) := by
  obtain ⟨h1, h2, h3, h4⟩ := showAll2 h
  refine ⟨(fun i z => by cases z), (fun x z => by cases z), h1, fits40 (d := .list ds) h2 ?_, ?_, fun z => ?_⟩
  · show PyData.weightAll ds ≤ 350000
    omega
  · simp only [PyData.depth]
    omega
  · have z' : PyData.hasDictAll ds = true := z
    rw [noDictAll hd] at z'
    cases z'
def G2 (e : PyData) : Prop := El2 e ∧ e.hasDict = false ∧ wide e = true
theorem g2_t {ds : List PyData} (h : ∀ e ∈ ds, G2 e) (hl : ds.length ≤ 100) : Good (.tuple ds) := ⟨wide_t (by omega) fun d hd => (h d hd).2.2, rp2_t (fun e he => (h e he).1) hl fun e he => (h e he).2.1⟩
theorem g2_l {ds : List PyData} (h : ∀ e ∈ ds, G2 e) (hl : ds.length ≤ 100) : Good (.list ds) := ⟨wide_l (by omega) fun d hd => (h d hd).2.2, rp2_l (fun e he => (h e he).1) hl fun e he => (h e he).2.1⟩
theorem g2_int {i : Int} (h : i.natAbs < 1000000) : G2 (.int i) := ⟨(el_int h).two (short_int h), rfl, rfl⟩
theorem g2_ints {ns : List Int} (h : ∀ i ∈ ns, i.natAbs < 1000000) : ∀ e ∈ iD ns, G2 e := fun e he => by
  obtain ⟨i, hi, rfl⟩ := List.mem_map.mp he
  exact g2_int (h i hi)
theorem g2_big : G2 (.int (10 ^ (30 : Int).toNat)) := by
  exact ⟨⟨by decide +kernel, by decide +kernel, by decide +kernel, by simp [PyData.depth]⟩, rfl, rfl⟩
theorem g2_app {xs ys : List PyData} (h1 : ∀ e ∈ xs, G2 e) (h2 : ∀ e ∈ ys, G2 e) : ∀ e ∈ xs ++ ys, G2 e := fun e he => (List.mem_append.mp he).elim (h1 e) (h2 e)
theorem g2_one {e : PyData} (h : G2 e) : ∀ x ∈ [e], G2 x := fun x hx => by rw [List.mem_singleton.mp hx]; exact h
theorem g2_tD {ns : List Int} (hl : ns.length ≤ 45) (h : ∀ i ∈ ns, i.natAbs < 1000000) : G2 (.tuple (iD ns)) := by
  have z := el_ints h
  have il : (iD ns).length = ns.length := List.length_map ..
  refine ⟨⟨showAll z, short_ints h, ?_, ?_⟩, noDict_ints ns, wide_tD (by omega)⟩
  · have := wtAll z
    show PyData.weightAll (iD ns) ≤ 3000
    omega
  · have : PyData.depthAll (iD ns) ≤ 1 := by
      clear z il hl h
      induction ns with
      | nil => simp [iD, PyData.depthAll]
      | cons i ns ih =>
        have ih' : PyData.depthAll (iD ns) ≤ 1 := ih
        show PyData.depthAll (.int i :: iD ns) ≤ 1
        simp only [PyData.depthAll, PyData.depth]
        omega
    show PyData.depth (.tuple (iD ns)) ≤ 2
    simp only [PyData.depth]
    omega
theorem oddR_ok {ns : List Int} (hl : ns.length ≤ 70) : ∀ d ∈ ([.int (((ns.map V.int).length : Nat) : Int), .int (-1), .none, .bool true, .str "0", .tuple [.int 0], .int (10 ^ (30 : Int).toNat)] : List PyData), El2 d ∧ d.hasDict = false ∧ wide d = true := by
  intro d hd
  have ml : (ns.map V.int).length = ns.length := List.length_map ..
  simp only [List.mem_cons, List.not_mem_nil, or_false] at hd
  rcases hd with rfl | rfl | rfl | rfl | rfl | rfl | rfl
  · exact g2_int (by omega)
  · exact g2_int (by decide)
  · exact ⟨el_none.two rfl, rfl, rfl⟩
  · exact ⟨(el_bool _).two rfl, rfl, rfl⟩
  · exact ⟨el_str0.two (by decide +kernel), rfl, rfl⟩
  · exact ⟨el_tup0.two (by decide +kernel), rfl, rfl⟩
  · exact g2_big
def badRs (ns u1 u2 u3 u4 : List Int) (od : PyData) : List PyData := [.tuple (((iD u1) ++ [od]) ++ (iD u2)), .tuple (iD u3), .tuple ((iD ns) ++ [.int (((ns.map V.int).length : Nat) : Int)]), .list (iD ns), .tuple ((iD ns) ++ (iD u4)), .none, .int 0, .dict [], .str "0 1", .tuple (((iD u1) ++ [od]) ++ (iD u2)), .tuple [.tuple (iD ns)], .list [.tuple (iD ns)]]
theorem badRs_ok {ns u1 u2 u3 u4 : List Int} {od : PyData} (hl : ns.length ≤ 40) (hb : ∀ i ∈ ns, i.natAbs < 1000000) (ho : G2 od) (s1 : u1.Sublist ns) (s2 : u2.Sublist ns) (s3 : u3.Sublist ns) (s4 : u4.Sublist ns) (k12 : u1.length + u2.length ≤ 90) (k4 : u4.length ≤ 1) : ∀ d ∈ badRs ns u1 u2 u3 u4 od, Good d := by
  have il : ∀ l : List Int, (iD l).length = l.length := fun l => List.length_map ..
  have ml : (ns.map V.int).length = ns.length := List.length_map ..
  have gs : ∀ {u : List Int}, u.Sublist ns → ∀ e ∈ iD u, G2 e := fun hs => g2_ints fun i hi => hb i (hs.subset hi)
  have l3 := s3.length_le
  have gm : Good (.tuple ((iD u1 ++ [od]) ++ iD u2)) := g2_t (g2_app (g2_app (gs s1) (g2_one ho)) (gs s2)) (by rw [List.length_append, List.length_append, il, il]; show u1.length + 1 + u2.length ≤ 100; omega)
  intro d hd
  unfold badRs at hd
  simp only [List.mem_cons, List.not_mem_nil, or_false] at hd
  rcases hd with rfl | rfl | rfl | rfl | rfl | rfl | rfl | rfl | rfl | rfl | rfl | rfl
  · exact gm
  · exact g2_t (gs s3) (by rw [il]; omega)
  · exact g2_t (g2_app (g2_ints hb) (g2_one (g2_int (by omega)))) (by rw [List.length_append, il]; show ns.length + 1 ≤ 100; omega)
  · exact g2_l (g2_ints hb) (by rw [il]; omega)
  · exact g2_t (g2_app (g2_ints hb) (gs s4)) (by rw [List.length_append, il, il]; omega)
  · exact good_none
  · exact good_int (by decide)
  · exact good_dict
  · exact ⟨rfl, (fun i z => by cases z), (fun x z => by cases z; decide +kernel), rfl, by decide +kernel, by simp [PyData.depth], (fun z => by cases z)⟩
  · exact gm
  · exact g2_t (g2_one (g2_tD (by omega) hb)) (by show 1 ≤ 100; decide)
  · exact g2_l (g2_one (g2_tD (by omega) hb)) (by show 1 ≤ 100; decide)
/-- how great it is when it is shown -/
def Sh4 (d : PyData) : Prop := d.showable = true ∧ d.leavesShort 40 = true ∧ d.weight ≤ 310000 ∧ d.depth ≤ 6
theorem sh4_t {ds : List PyData} (h : ∀ e ∈ ds, G2 e) (hl : ds.length ≤ 100) : Sh4 (.tuple ds) ∧ Sh4 (.list ds) := by
  obtain ⟨h1, h2, h3, h4⟩ := showAll2 fun e he => (h e he).1
  have w : PyData.weightAll ds ≤ 310000 := by omega
  exact ⟨⟨h1, h2, w, by simp only [PyData.depth]; omega⟩, ⟨h1, h2, w, by simp only [PyData.depth]; omega⟩⟩
theorem badRs_sh {ns u1 u2 u3 u4 : List Int} {od : PyData} (hl : ns.length ≤ 40) (hb : ∀ i ∈ ns, i.natAbs < 1000000) (ho : G2 od) (s1 : u1.Sublist ns) (s2 : u2.Sublist ns) (s3 : u3.Sublist ns) (s4 : u4.Sublist ns) (k12 : u1.length + u2.length ≤ 90) (k4 : u4.length ≤ 1) : ∀ d ∈ badRs ns u1 u2 u3 u4 od, Sh4 d := by
  have il : ∀ l : List Int, (iD l).length = l.length := fun l => List.length_map ..
  have ml : (ns.map V.int).length = ns.length := List.length_map ..
  have gs : ∀ {u : List Int}, u.Sublist ns → ∀ e ∈ iD u, G2 e := fun hs => g2_ints fun i hi => hb i (hs.subset hi)
  have l3 := s3.length_le
  have gm : Sh4 (.tuple ((iD u1 ++ [od]) ++ iD u2)) := (sh4_t (g2_app (g2_app (gs s1) (g2_one ho)) (gs s2)) (by rw [List.length_append, List.length_append, il, il]; show u1.length + 1 + u2.length ≤ 100; omega)).1
  intro d hd
  unfold badRs at hd
  simp only [List.mem_cons, List.not_mem_nil, or_false] at hd
  rcases hd with rfl | rfl | rfl | rfl | rfl | rfl | rfl | rfl | rfl | rfl | rfl | rfl
  · exact gm
  · exact (sh4_t (gs s3) (by rw [il]; omega)).1
  · exact (sh4_t (g2_app (g2_ints hb) (g2_one (g2_int (by omega)))) (by rw [List.length_append, il]; show ns.length + 1 ≤ 100; omega)).1
  · exact (sh4_t (g2_ints hb) (by rw [il]; omega)).2
  · exact (sh4_t (g2_app (g2_ints hb) (gs s4)) (by rw [List.length_append, il, il]; omega)).1
  · exact ⟨rfl, rfl, by decide +kernel, by decide +kernel⟩
  · exact ⟨by decide +kernel, by decide +kernel, by decide +kernel, by decide +kernel⟩
  · exact ⟨rfl, rfl, by decide +kernel, by decide +kernel⟩
  · exact ⟨rfl, by decide +kernel, by decide +kernel, by decide +kernel⟩
  · exact gm
  · exact (sh4_t (g2_one (g2_tD (by omega) hb)) (by show 1 ≤ 100; decide)).1
  · exact (sh4_t (g2_one (g2_tD (by omega) hb)) (by show 1 ≤ 100; decide)).2
section
variable {P : Program} {w : World} {K : PySem.W.Frag} {mg : Str → Option Value} {base : Heap} {Ps : Tbs} {H H' H0 : Hp} {k : Nat} {f c : Addr} {fd : FuncData}
def spNoRow (K : PySem.W.Frag) (Ps : Tbs) : Sp := fun vs H Q _ => ∃ (a t : Addr) (ns : List Int), vs = [.ref a, .ref t] ∧ Pen H a ∧ SqT K H t (ns.map V.int) ∧ 1 ≤ ns.length ∧ ns.length ≤ 40 ∧ (∀ i ∈ ns, i.natAbs < 1000000) ∧ Tb Ps H ∧ ∀ v d H', Epn Ps a H H' → ThF K H' (fun b => H b = none) v d → Good d → Q v H'
def spNoRow4 (K : PySem.W.Frag) (Ps : Tbs) : Sp := fun vs H Q _ => ∃ (a t : Addr) (ns : List Int), vs = [.ref a, .ref t] ∧ Pen H a ∧ SqT K H t (ns.map V.int) ∧ 1 ≤ ns.length ∧ ns.length ≤ 40 ∧ (∀ i ∈ ns, i.natAbs < 1000000) ∧ Tb Ps H ∧ ∀ v d H', Epn Ps a H H' → ThF K H' (fun b => H b = none) v d → Good d → Sh4 d → Q v H'
theorem ok_noRow4 {fD cD : Addr} {fdD : FuncData} (D : Def K mg "_law_no_row" sNoRow ["_law_pen_here", "_law_row"] f fd c) (DD : Def K mg "_law_draw" sDraw ["_law_pen_here", "_law_many"] fD fdD cD) (GD : FnOk P w K mg base CX0 k fD fdD ["_law_pen_here", "_law_many"] spDraw) (mL : mg "list" = none) (ml : mg "len" = none) :
    FnOk P w K mg base CX0 (k + 1) f fd ["_law_pen_here", "_law_row"] (spNoRow4 K Ps) := by
  refine D.ok (k := k) scNoRow (fun vs H Q E h => ?_) (fun A outer s H vs Q E hr h => ?_)
  · obtain ⟨a, t, ns, rfl, _⟩ := h
    rfl
  · obtain ⟨a, t, ns, rfl, hP, hN, n1, n40, hnb, ht, q⟩ := h
    refine ⟨_, (pss_cons (ps_par (i := 2) (j := 3) (by rfl) scNoRow.nd rfl rfl (by decide) rfl rfl (pa_cons (pcl DD GD hr (pa_cons (pv 0) (pa_cons pe_int pa_nil))) (pa_cons (pcl DD GD hr (pa_cons (pv 0) (pa_cons (pe_callB (call_lenS (K := K) rfl) (by rfl) ml PySem.boot_len (pa_cons (pv 1) pa_nil)) pa_nil))) pa_nil)) (by rfl)) (pss_cons (ps_set (i := 4) scNoRow.nd rfl (.inl rfl) (pe_ix ix_list (pe_lst (pa_cons (pe_callB (call_lenS (K := K) rfl) (by rfl) ml PySem.boot_len (pa_cons (pv 1) pa_nil)) (pa_cons (pe_un un_neg pe_int) (pa_cons pe_non (pa_cons pe_bl (pa_cons pe_str (pa_cons (pe_tup (pa_cons pe_int pa_nil)) (pa_cons (pe_op op_pow pe_int pe_int) pa_nil)))))))) (pcl DD GD hr (pa_cons (pv 0) (pa_cons pe_int pa_nil))) (fun _ _ => rfl))) (pss_cons (ps_set (i := 5) scNoRow.nd rfl (.inl rfl) (pe_lst (pa_cons (pe_op (show OpR _ _ (rCatTh K Ps) from op_catTh) (pe_op (show OpR _ _ (rCatTh K Ps) from op_catTh) (pe_slice (show SlR _ (rSlTh K Ps) from sl_Th) (pv 1) po_none (po_some (pv 3))) (pe_tup (pa_cons (pv 4) pa_nil))) (pe_slice (show SlR _ (rSlTh K Ps) from sl_Th) (pv 1) (po_some (pe_op op_add (pv 3) pe_int)) po_none)) (pa_cons (pe_slice (show SlR _ (rSlTh K Ps) from sl_Th) (pv 1) po_none (po_some (pe_un un_neg pe_int))) (pa_cons (pe_op (show OpR _ _ (rCatTh K Ps) from op_catTh) (pv 1) (pe_tup (pa_cons (pe_callB (call_lenS (K := K) rfl) (by rfl) ml PySem.boot_len (pa_cons (pv 1) pa_nil)) pa_nil))) (pa_cons (pe_callTy call_list_of (by rfl) mL (by decide +kernel) (pa_cons (pv 1) pa_nil)) (pa_cons (pe_op (show OpR _ _ (rCatTh K Ps) from op_catTh) (pv 1) (pe_slice (show SlR _ (rSlTh K Ps) from sl_Th) (pv 1) po_none (po_some pe_int))) (pa_cons pe_non pa_nil)))))))) (pss_one (ps_ret (pe_ix ix_list (pe_op op_cat (pv 5) (pe_lst (pa_cons pe_int (pa_cons pe_dnewK (pa_cons pe_str (pa_cons (pe_op (show OpR _ _ (rCatTh K Ps) from op_catTh) (pe_op (show OpR _ _ (rCatTh K Ps) from op_catTh) (pe_slice (show SlR _ (rSlTh K Ps) from sl_Th) (pv 1) po_none (po_some (pv 3))) (pe_tup (pa_cons (pv 4) pa_nil))) (pe_slice (show SlR _ (rSlTh K Ps) from sl_Th) (pv 1) (po_some (pe_op op_add (pv 3) pe_int)) po_none)) (pa_cons (pe_tup (pa_cons (pv 1) pa_nil)) (pa_cons (pe_lst (pa_cons (pv 1) pa_nil)) pa_nil)))))))) (pv 2) (fun _ _ => rfl))))))), ?_⟩
    have l70 : ns.length ≤ 70 := by omega
    have hml : (ns.map V.int).length = ns.length := List.length_map ..
    refine tseq_intro fun R hR => ?_
    refine ⟨.ref a, rfl, a, 12, rfl, hP, by decide, by decide, fun x1 f1 wy0 w0 w1 => ?_⟩
    have e1 : Epn Ps a H (upd H a (.lst [.int x1, .int f1])) := Epn.draw ht hP
    generalize upd H a (.lst [.int x1, .int f1]) = H1 at *
    refine ⟨.ref a, rfl, .ref t, rfl, t, _, rfl, .inr (e1.sqT hN), a, _, rfl, e1.pen, by omega, by omega, fun x2 f2 o0 o00 o1 => ?_⟩
    have EE0 : Epn Ps a H (upd H1 a (.lst [.int x2, .int f2])) := e1.trans (Epn.draw e1.tb e1.pen)
    generalize upd H1 a (.lst [.int x2, .int f2]) = Y0 at *
    refine ⟨.int wy0, .int o0, rfl, ?_⟩
    obtain ⟨wy, rfl⟩ := Int.eq_ofNat_of_zero_le w0
    obtain ⟨o, rfl⟩ := Int.eq_ofNat_of_zero_le o00
    show R [some (.ref a), some (.ref t), some (.int (wy : Int)), some (.int (o : Int)), none, none] Y0
    rw [hR]
    clear hR o1
    have qn := EE0.sqT hN
    have an : ThAllF K Y0 (FS (fun _ => True) H Y0) (ns.map V.int) (iD ns) := th_ints ns
    have tn : ThF K Y0 (FS (fun _ => True) H Y0) (.ref t) (.tuple (iD ns)) := .tup qn an
    have il : (iD ns).length = ns.length := List.length_map ..
    obtain ⟨u1, hu1, s1⟩ := cutD_ints ns none (some (o : Int))
    obtain ⟨u2, hu2, s2⟩ := cutD_ints ns (some ((o : Int) + 1)) none
    obtain ⟨u3, hu3, s3⟩ := cutD_ints ns none (some (-1))
    obtain ⟨u4, hu4, s4⟩ := cutD_ints ns none (some 1)
    have k1 := s1.length_le
    have k2 := s2.length_le
    have k4 : u4.length = 1 := by
      have e := congrArg List.length hu4
      rw [show (some 1 : Option Int) = some ((1 : Nat) : Int) from rfl, cutD_to (by omega), List.length_take, il] at e
      have e2 : (iD u4).length = u4.length := List.length_map ..
      omega
    clear e1 hN
    refine tseq_intro fun R hR => ?_
    refine ⟨.ref t, rfl, t, _, rfl, .inr qn, 1, rfl, (by show 1 ≤ sizeLine; decide), fun p1 np1 => ?_⟩
    have xp1 := Ext.new (o := .tup [.int 0]) EE0.tb np1
    have zp1 : H p1 = none := EE0.free np1
    have tp1 : ThF K (upd Y0 p1 (.tup [.int 0])) (FS (fun _ => True) H (upd Y0 p1 (.tup [.int 0]))) (.ref p1) (.tuple [.int 0]) := th_newS EE0.tb np1 (.cons (.int 0) .nil)
    replace tn := xp1.thS tn
    replace qn := xp1.sqT qn
    replace an := xp1.thAllS an
    have EE1 := EE0.trans (xp1.epn EE0.pen)
    clear xp1 np1 EE0
    generalize upd Y0 p1 (.tup [.int 0]) = Y1 at EE1 tn qn an tp1 ⊢
    have hv : ThAllF K Y1 (FS (fun _ => True) H Y1) [.int (((ns.map V.int).length : Nat) : Int), .int (-1), .non, .bl true, .str "0", .ref p1, .int (10 ^ (30 : Int).toNat)] [.int (((ns.map V.int).length : Nat) : Int), .int (-1), .none, .bool true, .str "0", .tuple [.int 0], .int (10 ^ (30 : Int).toNat)] := (.cons (.int (((ns.map V.int).length : Nat) : Int)) (.cons (.int (-1)) (.cons .non (.cons (.bl true) (.cons (.str "0") (.cons tp1 (.cons (.int (10 ^ (30 : Int).toNat)) .nil)))))))
    clear tp1
    refine ⟨10, 30, rfl, rfl, ⟨by decide, by decide, by decide⟩, (by show 7 ≤ sizeLine; decide), fun l0 nl0 => ?_⟩
    have xl0 := Ext.new (o := .lst [.int (((ns.map V.int).length : Nat) : Int), .int (-1), .non, .bl true, .str "0", .ref p1, .int (10 ^ (30 : Int).toNat)]) EE1.tb nl0
    have zl0 : H l0 = none := EE1.free nl0
    have hl : (upd Y1 l0 (.lst [.int (((ns.map V.int).length : Nat) : Int), .int (-1), .non, .bl true, .str "0", .ref p1, .int (10 ^ (30 : Int).toNat)])) l0 = some (.lst [.int (((ns.map V.int).length : Nat) : Int), .int (-1), .non, .bl true, .str "0", .ref p1, .int (10 ^ (30 : Int).toNat)]) := upd_same
    replace tn := xl0.thS tn
    replace qn := xl0.sqT qn
    replace an := xl0.thAllS an
    replace hv := xl0.thAllS hv
    have EE2 := EE1.trans (xl0.epn EE1.pen)
    clear xl0 nl0 EE1
    generalize upd Y1 l0 (.lst [.int (((ns.map V.int).length : Nat) : Int), .int (-1), .non, .bl true, .str "0", .ref p1, .int (10 ^ (30 : Int).toNat)]) = Y2 at EE2 tn qn an hv hl ⊢
    refine ⟨.ref a, rfl, a, 7, rfl, EE2.pen, by decide, by decide, fun x9 f9 ow0 o0 o1 => ?_⟩
    have eD : Epn Ps a Y2 (upd Y2 a (.lst [.int x9, .int f9])) := Epn.draw EE2.tb EE2.pen
    have EE3 := EE2.trans eD
    have nl0a : l0 ≠ a := by
      obtain ⟨u, v, e⟩ := hP
      intro z
      rw [z, e] at zl0
      cases zl0
    replace hl := eD.lst nl0a hl
    replace tn := th_draw hP eD tn
    replace an := thAll_draw hP eD an
    replace hv := thAll_draw hP eD hv
    replace qn := eD.sqT qn
    generalize upd Y2 a (.lst [.int x9, .int f9]) = Y3 at *
    obtain ⟨ow, rfl⟩ := Int.eq_ofNat_of_zero_le o0
    have how : ow < ([.int (((ns.map V.int).length : Nat) : Int), .int (-1), .non, .bl true, .str "0", .ref p1, .int (10 ^ (30 : Int).toNat)] : List V).length := by show ow < 7; omega
    obtain ⟨od, hod, tod⟩ := thAll_get hv (List.getElem?_eq_getElem how)
    have hodb : El2 od ∧ od.hasDict = false ∧ wide od = true := oddR_ok (ns := ns) l70 od (List.mem_of_getElem? hod)
    refine ⟨l0, _, (ow : Int), _, rfl, rfl, .inl (.inl hl), atI_nat (List.getElem?_eq_getElem how), ?_⟩
    generalize ([.int (((ns.map V.int).length : Nat) : Int), .int (-1), .non, .bl true, .str "0", .ref p1, .int (10 ^ (30 : Int).toNat)] : List V)[ow] = ov at *
    show R [some (.ref a), some (.ref t), some (.int (wy : Int)), some (.int (o : Int)), some ov, none] Y3
    rw [hR]
    clear hR hl hv eD hod how
    refine tseq_intro fun R hR => ?_
    refine ⟨.ref t, rfl, .int (o : Int), rfl, o, rfl, _, _, tn, EE3.tb, fun v2 Y4 xv2 tv2 => ?_⟩
    replace tn := xv2.thS tn
    replace qn := xv2.sqT qn
    replace an := xv2.thAllS an
    replace tod := xv2.thS tod
    replace tv2 := tv2.imp (fs_mono xv2)
    have EE4 := EE3.trans (xv2.epn EE3.pen)
    clear xv2 EE3
    rw [hu1] at tv2
    refine ⟨ov, rfl, (by show 1 ≤ sizeLine; decide), fun p3 np3 => ?_⟩
    have xp3 := Ext.new (o := .tup [ov]) EE4.tb np3
    have zp3 : H p3 = none := EE4.free np3
    have tp3 : ThF K (upd Y4 p3 (.tup [ov])) (FS (fun _ => True) H (upd Y4 p3 (.tup [ov]))) (.ref p3) (.tuple [od]) := th_newS EE4.tb np3 (.cons tod .nil)
    replace tn := xp3.thS tn
    replace qn := xp3.sqT qn
    replace an := xp3.thAllS an
    replace tod := xp3.thS tod
    replace tv2 := xp3.thS tv2
    have EE5 := EE4.trans (xp3.epn EE4.pen)
    clear xp3 np3 EE4
    generalize upd Y4 p3 (.tup [ov]) = Y5 at EE5 tn qn an tod tv2 tp3 ⊢
    refine ⟨_, _, _, tv2, tp3, by simp only [iD, List.length_append, List.length_take, List.length_drop, List.length_map, List.length_cons, List.length_nil]; omega, EE5.tb, fun v4 Y6 xv4 tv4 => ?_⟩
    replace tn := xv4.thS tn
    replace qn := xv4.sqT qn
    replace an := xv4.thAllS an
    replace tod := xv4.thS tod
    replace tv2 := xv4.thS tv2
    replace tp3 := xv4.thS tp3
    replace tv4 := tv4.imp (fs_mono xv4)
    have EE6 := EE5.trans (xv4.epn EE5.pen)
    clear xv4 EE5
    refine ⟨.ref t, rfl, .int (o : Int), rfl, _, 1, rfl, rfl, _, rfl, _, _, tn, EE6.tb, fun v5 Y7 xv5 tv5 => ?_⟩
    replace tn := xv5.thS tn
    replace qn := xv5.sqT qn
    replace an := xv5.thAllS an
    replace tod := xv5.thS tod
    replace tv2 := xv5.thS tv2
    replace tp3 := xv5.thS tp3
    replace tv4 := xv5.thS tv4
    replace tv5 := tv5.imp (fs_mono xv5)
    have EE7 := EE6.trans (xv5.epn EE6.pen)
    clear xv5 EE6
    rw [hu2] at tv5
    refine ⟨_, _, _, tv4, tv5, by simp only [iD, List.length_append, List.length_take, List.length_drop, List.length_map, List.length_cons, List.length_nil]; omega, EE7.tb, fun v6 Y8 xv6 tv6 => ?_⟩
    replace tn := xv6.thS tn
    replace qn := xv6.sqT qn
    replace an := xv6.thAllS an
    replace tod := xv6.thS tod
    replace tv2 := xv6.thS tv2
    replace tp3 := xv6.thS tp3
    replace tv4 := xv6.thS tv4
    replace tv5 := xv6.thS tv5
    replace tv6 := tv6.imp (fs_mono xv6)
    have EE8 := EE7.trans (xv6.epn EE7.pen)
    clear xv6 EE7
    refine ⟨.ref t, rfl, 1, rfl, _, rfl, _, _, tn, EE8.tb, fun v7 Y9 xv7 tv7 => ?_⟩
    replace tn := xv7.thS tn
    replace qn := xv7.sqT qn
    replace an := xv7.thAllS an
    replace tod := xv7.thS tod
    replace tv2 := xv7.thS tv2
    replace tp3 := xv7.thS tp3
    replace tv4 := xv7.thS tv4
    replace tv5 := xv7.thS tv5
    replace tv6 := xv7.thS tv6
    replace tv7 := tv7.imp (fs_mono xv7)
    have EE9 := EE8.trans (xv7.epn EE8.pen)
    clear xv7 EE8
    rw [hu3] at tv7
    refine ⟨.ref t, rfl, .ref t, rfl, t, _, rfl, .inr qn, (by show 1 ≤ sizeLine; decide), fun p8 np8 => ?_⟩
    have xp8 := Ext.new (o := .tup [.int (((ns.map V.int).length : Nat) : Int)]) EE9.tb np8
    have zp8 : H p8 = none := EE9.free np8
    have tp8 : ThF K (upd Y9 p8 (.tup [.int (((ns.map V.int).length : Nat) : Int)])) (FS (fun _ => True) H (upd Y9 p8 (.tup [.int (((ns.map V.int).length : Nat) : Int)]))) (.ref p8) (.tuple [.int (((ns.map V.int).length : Nat) : Int)]) := th_newS EE9.tb np8 (.cons (.int (((ns.map V.int).length : Nat) : Int)) .nil)
    replace tn := xp8.thS tn
    replace qn := xp8.sqT qn
    replace an := xp8.thAllS an
    replace tod := xp8.thS tod
    replace tv2 := xp8.thS tv2
    replace tp3 := xp8.thS tp3
    replace tv4 := xp8.thS tv4
    replace tv5 := xp8.thS tv5
    replace tv6 := xp8.thS tv6
    replace tv7 := xp8.thS tv7
    have EE10 := EE9.trans (xp8.epn EE9.pen)
    clear xp8 np8 EE9
    generalize upd Y9 p8 (.tup [.int (((ns.map V.int).length : Nat) : Int)]) = Y10 at EE10 tn qn an tod tv2 tp3 tv4 tv5 tv6 tv7 tp8 ⊢
    refine ⟨_, _, _, tn, tp8, by simp only [iD, List.length_append, List.length_take, List.length_drop, List.length_map, List.length_cons, List.length_nil]; omega, EE10.tb, fun v9 Y11 xv9 tv9 => ?_⟩
    replace tn := xv9.thS tn
    replace qn := xv9.sqT qn
    replace an := xv9.thAllS an
    replace tod := xv9.thS tod
    replace tv2 := xv9.thS tv2
    replace tp3 := xv9.thS tp3
    replace tv4 := xv9.thS tv4
    replace tv5 := xv9.thS tv5
    replace tv6 := xv9.thS tv6
    replace tv7 := xv9.thS tv7
    replace tp8 := xv9.thS tp8
    replace tv9 := tv9.imp (fs_mono xv9)
    have EE11 := EE10.trans (xv9.epn EE10.pen)
    clear xv9 EE10
    refine ⟨.ref t, rfl, t, (ns.map V.int), rfl, .inr qn, fun p10 np10 => ?_⟩
    have xp10 := Ext.new (o := .lst (ns.map V.int)) EE11.tb np10
    have zp10 : H p10 = none := EE11.free np10
    have tp10 : ThF K (upd Y11 p10 (.lst (ns.map V.int))) (FS (fun _ => True) H (upd Y11 p10 (.lst (ns.map V.int)))) (.ref p10) (.list (iD ns)) := th_newLS EE11.tb np10 zp10 trivial an
    replace tn := xp10.thS tn
    replace qn := xp10.sqT qn
    replace an := xp10.thAllS an
    replace tod := xp10.thS tod
    replace tv2 := xp10.thS tv2
    replace tp3 := xp10.thS tp3
    replace tv4 := xp10.thS tv4
    replace tv5 := xp10.thS tv5
    replace tv6 := xp10.thS tv6
    replace tv7 := xp10.thS tv7
    replace tp8 := xp10.thS tp8
    replace tv9 := xp10.thS tv9
    have EE12 := EE11.trans (xp10.epn EE11.pen)
    clear xp10 np10 EE11
    generalize upd Y11 p10 (.lst (ns.map V.int)) = Y12 at EE12 tn qn an tod tv2 tp3 tv4 tv5 tv6 tv7 tp8 tv9 tp10 ⊢
    refine ⟨.ref t, rfl, .ref t, rfl, _, rfl, _, _, tn, EE12.tb, fun v11 Y13 xv11 tv11 => ?_⟩
    replace tn := xv11.thS tn
    replace qn := xv11.sqT qn
    replace an := xv11.thAllS an
    replace tod := xv11.thS tod
    replace tv2 := xv11.thS tv2
    replace tp3 := xv11.thS tp3
    replace tv4 := xv11.thS tv4
    replace tv5 := xv11.thS tv5
    replace tv6 := xv11.thS tv6
    replace tv7 := xv11.thS tv7
    replace tp8 := xv11.thS tp8
    replace tv9 := xv11.thS tv9
    replace tp10 := xv11.thS tp10
    replace tv11 := tv11.imp (fs_mono xv11)
    have EE13 := EE12.trans (xv11.epn EE12.pen)
    clear xv11 EE12
    rw [hu4] at tv11
    refine ⟨_, _, _, tn, tv11, by simp only [iD, List.length_append, List.length_take, List.length_drop, List.length_map, List.length_cons, List.length_nil]; omega, EE13.tb, fun v12 Y14 xv12 tv12 => ?_⟩
    replace tn := xv12.thS tn
    replace qn := xv12.sqT qn
    replace an := xv12.thAllS an
    replace tod := xv12.thS tod
    replace tv2 := xv12.thS tv2
    replace tp3 := xv12.thS tp3
    replace tv4 := xv12.thS tv4
    replace tv5 := xv12.thS tv5
    replace tv6 := xv12.thS tv6
    replace tv7 := xv12.thS tv7
    replace tp8 := xv12.thS tp8
    replace tv9 := xv12.thS tv9
    replace tp10 := xv12.thS tp10
    replace tv11 := xv12.thS tv11
    replace tv12 := tv12.imp (fs_mono xv12)
    have EE14 := EE13.trans (xv12.epn EE13.pen)
    clear xv12 EE13
    have hv : ThAllF K Y14 (FS (fun _ => True) H Y14) [v6, v7, v9, .ref p10, v12, .non] [.tuple (((iD u1) ++ [od]) ++ (iD u2)), .tuple (iD u3), .tuple ((iD ns) ++ [.int (((ns.map V.int).length : Nat) : Int)]), .list (iD ns), .tuple ((iD ns) ++ (iD u4)), .none] := (.cons tv6 (.cons tv7 (.cons tv9 (.cons tp10 (.cons tv12 (.cons .non .nil))))))
    clear tv2 tp3 tv4 tv5 tv6 tv7 tp8 tv9 tp10 tv11 tv12
    refine ⟨(by show 6 ≤ sizeLine; decide), fun l1 nl1 => ?_⟩
    have xl1 := Ext.new (o := .lst [v6, v7, v9, .ref p10, v12, .non]) EE14.tb nl1
    have zl1 : H l1 = none := EE14.free nl1
    have hl : (upd Y14 l1 (.lst [v6, v7, v9, .ref p10, v12, .non])) l1 = some (.lst [v6, v7, v9, .ref p10, v12, .non]) := upd_same
    replace tn := xl1.thS tn
    replace qn := xl1.sqT qn
    replace an := xl1.thAllS an
    replace tod := xl1.thS tod
    replace hv := xl1.thAllS hv
    have EE15 := EE14.trans (xl1.epn EE14.pen)
    clear xl1 nl1 EE14
    generalize upd Y14 l1 (.lst [v6, v7, v9, .ref p10, v12, .non]) = Y15 at EE15 tn qn an tod hv hl ⊢
    show R [some (.ref a), some (.ref t), some (.int (wy : Int)), some (.int (o : Int)), some ov, some (.ref l1)] Y15
    rw [hR]
    clear hR
    refine ⟨.ref l1, rfl, fun p13 np13 => ?_⟩
    have xp13 := Ext.new (o := .dK []) EE15.tb np13
    have zp13 : H p13 = none := EE15.free np13
    have tp13 : ThF K (upd Y15 p13 (.dK [])) (FS (fun _ => True) H (upd Y15 p13 (.dK []))) (.ref p13) (.dict []) := th_newDS zp13 trivial
    replace tn := xp13.thS tn
    replace qn := xp13.sqT qn
    replace an := xp13.thAllS an
    replace tod := xp13.thS tod
    replace hv := xp13.thAllS hv
    replace hl := xp13.lst hl
    have EE16 := EE15.trans (xp13.epn EE15.pen)
    clear xp13 np13 EE15
    generalize upd Y15 p13 (.dK []) = Y16 at EE16 tn qn an tod hv hl tp13 ⊢
    refine ⟨.ref t, rfl, .int (o : Int), rfl, o, rfl, _, _, tn, EE16.tb, fun v14 Y17 xv14 tv14 => ?_⟩
    replace tn := xv14.thS tn
    replace qn := xv14.sqT qn
    replace an := xv14.thAllS an
    replace tod := xv14.thS tod
    replace hv := xv14.thAllS hv
    replace hl := xv14.lst hl
    replace tp13 := xv14.thS tp13
    replace tv14 := tv14.imp (fs_mono xv14)
    have EE17 := EE16.trans (xv14.epn EE16.pen)
    clear xv14 EE16
    rw [hu1] at tv14
    refine ⟨ov, rfl, (by show 1 ≤ sizeLine; decide), fun p15 np15 => ?_⟩
    have xp15 := Ext.new (o := .tup [ov]) EE17.tb np15
    have zp15 : H p15 = none := EE17.free np15
    have tp15 : ThF K (upd Y17 p15 (.tup [ov])) (FS (fun _ => True) H (upd Y17 p15 (.tup [ov]))) (.ref p15) (.tuple [od]) := th_newS EE17.tb np15 (.cons tod .nil)
    replace tn := xp15.thS tn
    replace qn := xp15.sqT qn
    replace an := xp15.thAllS an
    replace tod := xp15.thS tod
    replace hv := xp15.thAllS hv
    replace hl := xp15.lst hl
    replace tp13 := xp15.thS tp13
    replace tv14 := xp15.thS tv14
    have EE18 := EE17.trans (xp15.epn EE17.pen)
    clear xp15 np15 EE17
    generalize upd Y17 p15 (.tup [ov]) = Y18 at EE18 tn qn an tod hv hl tp13 tv14 tp15 ⊢
    refine ⟨_, _, _, tv14, tp15, by simp only [iD, List.length_append, List.length_take, List.length_drop, List.length_map, List.length_cons, List.length_nil]; omega, EE18.tb, fun v16 Y19 xv16 tv16 => ?_⟩
    replace tn := xv16.thS tn
    replace qn := xv16.sqT qn
    replace an := xv16.thAllS an
    replace tod := xv16.thS tod
    replace hv := xv16.thAllS hv
    replace hl := xv16.lst hl
    replace tp13 := xv16.thS tp13
    replace tv14 := xv16.thS tv14
    replace tp15 := xv16.thS tp15
    replace tv16 := tv16.imp (fs_mono xv16)
    have EE19 := EE18.trans (xv16.epn EE18.pen)
    clear xv16 EE18
    refine ⟨.ref t, rfl, .int (o : Int), rfl, _, 1, rfl, rfl, _, rfl, _, _, tn, EE19.tb, fun v17 Y20 xv17 tv17 => ?_⟩
    replace tn := xv17.thS tn
    replace qn := xv17.sqT qn
    replace an := xv17.thAllS an
    replace tod := xv17.thS tod
    replace hv := xv17.thAllS hv
    replace hl := xv17.lst hl
    replace tp13 := xv17.thS tp13
    replace tv14 := xv17.thS tv14
    replace tp15 := xv17.thS tp15
    replace tv16 := xv17.thS tv16
    replace tv17 := tv17.imp (fs_mono xv17)
    have EE20 := EE19.trans (xv17.epn EE19.pen)
    clear xv17 EE19
    rw [hu2] at tv17
    refine ⟨_, _, _, tv16, tv17, by simp only [iD, List.length_append, List.length_take, List.length_drop, List.length_map, List.length_cons, List.length_nil]; omega, EE20.tb, fun v18 Y21 xv18 tv18 => ?_⟩
    replace tn := xv18.thS tn
    replace qn := xv18.sqT qn
    replace an := xv18.thAllS an
    replace tod := xv18.thS tod
    replace hv := xv18.thAllS hv
    replace hl := xv18.lst hl
    replace tp13 := xv18.thS tp13
    replace tv14 := xv18.thS tv14
    replace tp15 := xv18.thS tp15
    replace tv16 := xv18.thS tv16
    replace tv17 := xv18.thS tv17
    replace tv18 := tv18.imp (fs_mono xv18)
    have EE21 := EE20.trans (xv18.epn EE20.pen)
    clear xv18 EE20
    refine ⟨.ref t, rfl, (by show 1 ≤ sizeLine; decide), fun p19 np19 => ?_⟩
    have xp19 := Ext.new (o := .tup [.ref t]) EE21.tb np19
    have zp19 : H p19 = none := EE21.free np19
    have tp19 : ThF K (upd Y21 p19 (.tup [.ref t])) (FS (fun _ => True) H (upd Y21 p19 (.tup [.ref t]))) (.ref p19) (.tuple [.tuple (iD ns)]) := th_newS EE21.tb np19 (.cons tn .nil)
    replace tn := xp19.thS tn
    replace qn := xp19.sqT qn
    replace an := xp19.thAllS an
    replace tod := xp19.thS tod
    replace hv := xp19.thAllS hv
    replace hl := xp19.lst hl
    replace tp13 := xp19.thS tp13
    replace tv14 := xp19.thS tv14
    replace tp15 := xp19.thS tp15
    replace tv16 := xp19.thS tv16
    replace tv17 := xp19.thS tv17
    replace tv18 := xp19.thS tv18
    have EE22 := EE21.trans (xp19.epn EE21.pen)
    clear xp19 np19 EE21
    generalize upd Y21 p19 (.tup [.ref t]) = Y22 at EE22 tn qn an tod hv hl tp13 tv14 tp15 tv16 tv17 tv18 tp19 ⊢
    refine ⟨.ref t, rfl, (by show 1 ≤ sizeLine; decide), fun p20 np20 => ?_⟩
    have xp20 := Ext.new (o := .lst [.ref t]) EE22.tb np20
    have zp20 : H p20 = none := EE22.free np20
    have tp20 : ThF K (upd Y22 p20 (.lst [.ref t])) (FS (fun _ => True) H (upd Y22 p20 (.lst [.ref t]))) (.ref p20) (.list [.tuple (iD ns)]) := th_newLS EE22.tb np20 zp20 trivial (.cons tn .nil)
    replace tn := xp20.thS tn
    replace qn := xp20.sqT qn
    replace an := xp20.thAllS an
    replace tod := xp20.thS tod
    replace hv := xp20.thAllS hv
    replace hl := xp20.lst hl
    replace tp13 := xp20.thS tp13
    replace tv14 := xp20.thS tv14
    replace tp15 := xp20.thS tp15
    replace tv16 := xp20.thS tv16
    replace tv17 := xp20.thS tv17
    replace tv18 := xp20.thS tv18
    replace tp19 := xp20.thS tp19
    have EE23 := EE22.trans (xp20.epn EE22.pen)
    clear xp20 np20 EE22
    generalize upd Y22 p20 (.lst [.ref t]) = Y23 at EE23 tn qn an tod hv hl tp13 tv14 tp15 tv16 tv17 tv18 tp19 tp20 ⊢
    have hw : ThAllF K Y23 (FS (fun _ => True) H Y23) [.int 0, .ref p13, .str "0 1", v18, .ref p19, .ref p20] [.int 0, .dict [], .str "0 1", .tuple (((iD u1) ++ [od]) ++ (iD u2)), .tuple [.tuple (iD ns)], .list [.tuple (iD ns)]] := (.cons (.int 0) (.cons tp13 (.cons (.str "0 1") (.cons tv18 (.cons tp19 (.cons tp20 .nil))))))
    clear tp13 tv14 tp15 tv16 tv17 tv18 tp19 tp20
    refine ⟨(by show 6 ≤ sizeLine; decide), fun p21 np21 => ?_⟩
    have xp21 := Ext.new (o := .lst [.int 0, .ref p13, .str "0 1", v18, .ref p19, .ref p20]) EE23.tb np21
    have zp21 : H p21 = none := EE23.free np21
    have hm : (upd Y23 p21 (.lst [.int 0, .ref p13, .str "0 1", v18, .ref p19, .ref p20])) p21 = some (.lst [.int 0, .ref p13, .str "0 1", v18, .ref p19, .ref p20]) := upd_same
    replace tn := xp21.thS tn
    replace qn := xp21.sqT qn
    replace an := xp21.thAllS an
    replace tod := xp21.thS tod
    replace hv := xp21.thAllS hv
    replace hl := xp21.lst hl
    replace hw := xp21.thAllS hw
    have EE24 := EE23.trans (xp21.epn EE23.pen)
    clear xp21 np21 EE23
    generalize upd Y23 p21 (.lst [.int 0, .ref p13, .str "0 1", v18, .ref p19, .ref p20]) = Y24 at EE24 tn qn an tod hv hl hw hm ⊢
    replace hv := thAll_app hv hw
    clear hw
    refine ⟨l1, p21, _, _, rfl, rfl, hl, hm, Nat.le_of_lt (small1000 (by show 6 + 6 ≤ 1000; decide)), fun l2 nl2 => ?_⟩
    have xl2 := Ext.new (o := .lst ([v6, v7, v9, .ref p10, v12, .non] ++ [.int 0, .ref p13, .str "0 1", v18, .ref p19, .ref p20])) EE24.tb nl2
    have zl2 : H l2 = none := EE24.free nl2
    have hl2 : (upd Y24 l2 (.lst ([v6, v7, v9, .ref p10, v12, .non] ++ [.int 0, .ref p13, .str "0 1", v18, .ref p19, .ref p20]))) l2 = some (.lst [v6, v7, v9, .ref p10, v12, .non, .int 0, .ref p13, .str "0 1", v18, .ref p19, .ref p20]) := upd_same
    replace tn := xl2.thS tn
    replace qn := xl2.sqT qn
    replace an := xl2.thAllS an
    replace tod := xl2.thS tod
    replace hv := xl2.thAllS hv
    have EE25 := EE24.trans (xl2.epn EE24.pen)
    clear xl2 nl2 EE24
    generalize upd Y24 l2 (.lst ([v6, v7, v9, .ref p10, v12, .non] ++ [.int 0, .ref p13, .str "0 1", v18, .ref p19, .ref p20])) = Y25 at EE25 tn qn an tod hv hl2 ⊢
    have hl := hl2
    clear hl2
    replace hv : ThAllF K Y25 (FS (fun _ => True) H Y25) [v6, v7, v9, .ref p10, v12, .non, .int 0, .ref p13, .str "0 1", v18, .ref p19, .ref p20] [.tuple (((iD u1) ++ [od]) ++ (iD u2)), .tuple (iD u3), .tuple ((iD ns) ++ [.int (((ns.map V.int).length : Nat) : Int)]), .list (iD ns), .tuple ((iD ns) ++ (iD u4)), .none, .int 0, .dict [], .str "0 1", .tuple (((iD u1) ++ [od]) ++ (iD u2)), .tuple [.tuple (iD ns)], .list [.tuple (iD ns)]] := hv
    have hi : wy < 12 := by omega
    have hiv : wy < ([v6, v7, v9, .ref p10, v12, .non, .int 0, .ref p13, .str "0 1", v18, .ref p19, .ref p20] : List V).length := hi
    obtain ⟨d, hd, hT⟩ := thAll_get hv (List.getElem?_eq_getElem hiv)
    have b1 := badRs_ok (u1 := u1) (u2 := u2) (u3 := u3) (u4 := u4) (od := od) n40 hnb hodb s1 s2 s3 s4 (by omega) (by omega) d (List.mem_of_getElem? hd)
    have b2 := badRs_sh (u1 := u1) (u2 := u2) (u3 := u3) (u4 := u4) (od := od) n40 hnb hodb s1 s2 s3 s4 (by omega) (by omega) d (List.mem_of_getElem? hd)
    exact ⟨.int (wy : Int), rfl, l2, _, (wy : Int), _, rfl, rfl, .inl (.inl hl), atI_nat (List.getElem?_eq_getElem hiv), q _ d _ EE25 (hT.imp fun b hb => hb.1) b1 b2⟩
theorem ok_noRow {fD cD : Addr} {fdD : FuncData} (D : Def K mg "_law_no_row" sNoRow ["_law_pen_here", "_law_row"] f fd c) (DD : Def K mg "_law_draw" sDraw ["_law_pen_here", "_law_many"] fD fdD cD) (GD : FnOk P w K mg base CX0 k fD fdD ["_law_pen_here", "_law_many"] spDraw) (mL : mg "list" = none) (ml : mg "len" = none) :
    FnOk P w K mg base CX0 (k + 1) f fd ["_law_pen_here", "_law_row"] (spNoRow K Ps) := (ok_noRow4 (Ps := Ps) D DD GD mL ml).imp fun vs H Q E h => by
  obtain ⟨a, t, ns, e, hP, hN, n1, n40, hnb, ht, q⟩ := h
  exact ⟨a, t, ns, e, hP, hN, n1, n40, hnb, ht, fun v d H' e' h' g _ => q v d H' e' h' g⟩
end
end Lf

set_option maxHeartbeats 4000000
namespace Lf
open PySem PySem.Spec PyProof.Rows L2 GxR GxA SrT
/-- each of the pool is no lot, and no row -/
def badLs (m : Nat) (ns : List Int) : List PyData := [.none, .str "0", .int 7, .dict [], .list (iD ns), .tuple ((iD ns) ++ [.int (m : Int)]), .tuple ([.int (-1)] ++ (iD ns)), .tuple (([.int ((m : Int) - 1)] ++ (iD ns)) ++ [.int ((m : Int) - 1)]), .tuple [.bool true], .tuple ((iD ns) ++ [.none])]
theorem not_int {m : Nat} {ds : List PyData} {d : PyData} (hd : d ∈ ds) (h : intIn d 0 ((m : Int) - 1) = false) : belowD (.tuple ds) m = false := by
  show ds.all _ = false
  rw [List.all_eq_false]
  exact ⟨d, hd, by rw [h]; simp⟩
theorem bad_below {d : PyData} {m : Nat} (h : belowD d m = false) : risD d m = false ∧ ¬ RowD d m := by
  refine ⟨by unfold risD; rw [h]; rfl, ?_⟩
  rintro ⟨ns, rfl, hp⟩
  rw [below_tD (row_bel hp)] at h
  cases h
theorem badLs_ok {m : Nat} {ns : List Int} (hm : 1 ≤ m) (hl : ns.length ≤ 100) : ∀ d ∈ badLs m ns, wide d = true ∧ risD d m = false ∧ ¬ RowD d m := by
  have wi : ∀ d ∈ iD ns, wide d = true := fun d hd => by
    obtain ⟨i, _, rfl⟩ := List.mem_map.mp hd
    rfl
  have li : (iD ns).length = ns.length := List.length_map _
  intro d hd
  unfold badLs at hd
  simp only [List.mem_cons, List.not_mem_nil, or_false] at hd
  rcases hd with rfl | rfl | rfl | rfl | rfl | rfl | rfl | rfl | rfl | rfl
  · exact ⟨rfl, bad_below rfl⟩
  · exact ⟨rfl, bad_below rfl⟩
  · exact ⟨rfl, bad_below rfl⟩
  · exact ⟨rfl, bad_below rfl⟩
  · exact ⟨wide_l (by omega) wi, bad_below rfl⟩
  · refine ⟨wide_t (by rw [List.length_append, li]; show ns.length + 1 ≤ 1000; omega) fun d hd => ?_, bad_below (not_int (d := .int (m : Int)) (by simp) ?_)⟩
    · rcases List.mem_append.mp hd with hd | hd
      · exact wi d hd
      · rw [List.mem_singleton.mp hd]
        rfl
    · show (decide ((0 : Int) ≤ m) && decide ((m : Int) ≤ m - 1)) = false
      rw [decide_eq_false (show ¬ (m : Int) ≤ m - 1 by omega), Bool.and_false]
  · refine ⟨wide_t (by rw [List.length_append, li]; show 1 + ns.length ≤ 1000; omega) fun d hd => ?_, bad_below (not_int (d := .int (-1)) (by simp) rfl)⟩
    rcases List.mem_append.mp hd with hd | hd
    · rw [List.mem_singleton.mp hd]
      rfl
    · exact wi d hd
  · refine ⟨wide_t (by rw [List.length_append, List.length_append, li]; show 1 + ns.length + 1 ≤ 1000; omega) fun d hd => ?_, ?_, ?_⟩
    · rcases List.mem_append.mp hd with hd | hd
      · rcases List.mem_append.mp hd with hd | hd
        · rw [List.mem_singleton.mp hd]
          rfl
        · exact wi d hd
      · rw [List.mem_singleton.mp hd]
        rfl
    · cases e : risD (.tuple ([.int ((m : Int) - 1)] ++ iD ns ++ [.int ((m : Int) - 1)])) m with
      | false => rfl
      | true =>
        obtain ⟨us, e1, _, e2⟩ := risD_iff.mp e
        have e3 : ((m : Int) - 1) :: ns ++ [(m : Int) - 1] = us := tD_inj (by rw [← e1]; show _ = PyData.tuple _; simp [tD, iD])
        rw [← e3, List.pairwise_append] at e2
        have := e2.2.2 ((m : Int) - 1) (by simp) ((m : Int) - 1) (by simp)
        omega
    · rintro ⟨us, e1, hp⟩
      have e3 : ((m : Int) - 1) :: ns ++ [(m : Int) - 1] = us := tD_inj (by rw [← e1]; show _ = PyData.tuple _; simp [tD, iD])
      have nd := hp.nodup_iff.mpr (nd_rng m)
      rw [← e3] at nd
      simp at nd
  · exact ⟨rfl, bad_below rfl⟩
  · refine ⟨wide_t (by rw [List.length_append, li]; show ns.length + 1 ≤ 1000; omega) fun d hd => ?_, bad_below (not_int (d := .none) (by simp) rfl)⟩
    rcases List.mem_append.mp hd with hd | hd
    · exact wi d hd
    · rw [List.mem_singleton.mp hd]
      rfl
section
variable {P : Program} {w : World} {K : PySem.W.Frag} {mg : Str → Option Value} {base : Heap} {Ps : Tbs} {H H' H0 : Hp} {k : Nat} {f c : Addr} {fd : FuncData}
def spNoLot (K : PySem.W.Frag) (Ps : Tbs) : Sp := fun vs H Q _ => ∃ (a : Addr) (x y : V) (n kk : Int) (fss : List (List Int)) (ns : List Int), vs = [.ref a, x, y] ∧ Pen H a ∧ Stk K H x n kk fss ∧ StkOk n kk fss ∧ TupI K H y ns ∧ ns.length ≤ 100 ∧ Tb Ps H ∧ ∀ v d H', Epn Ps a H H' → ThF K H' (fun b => H b = none) v d → wide d = true → risD d fss.length = false → ¬ RowD d fss.length → Q v H'
end
end Lf

set_option maxHeartbeats 1000000
/-! t[::-1], t a tuple -/
namespace RvT
open PySem PySem.Spec PyProof.Rows L2 PySem.SeqAt
theorem adj_back (n : Nat) : Builtin.Slice.sliceAdjust none none (-1) (n : Int) = ((n : Int) - 1, -1) := by
  unfold Builtin.Slice.sliceAdjust
  simp
theorem places_back (n : Nat) : Builtin.Slice.slicePlaces ((n : Int) - 1) (-1) (-1) = n := by
  unfold Builtin.Slice.slicePlaces
  rw [if_neg (by decide)]
  by_cases h : (n : Int) - 1 > -1
  · rw [if_pos h, show (-(-1 : Int)) = 1 by decide, Int.ediv_one]
    omega
  · rw [if_neg h]
    omega
theorem pick_back (xs : Array Value) : ((List.range xs.size).filterMap fun (k : Nat) => xs[(((xs.size : Int) - 1) + (k : Int) * (-1)).toNat]?).toArray = xs.toList.reverse.toArray := by
  have e : ((List.range xs.size).filterMap fun (k : Nat) => xs[(((xs.size : Int) - 1) + (k : Int) * (-1)).toNat]?) = ((List.range xs.size).map fun k => xs.size - 1 - k).filterMap (xs[·]?) := by
    rw [List.filterMap_map]
    have key : ∀ l : List Nat, (∀ k ∈ l, k < xs.size) → (l.filterMap fun (k : Nat) => xs[(((xs.size : Int) - 1) + (k : Int) * (-1)).toNat]?) = l.filterMap ((fun x => xs[x]?) ∘ fun k => xs.size - 1 - k) := by
      intro l
      induction l with
      | nil => intro _; rfl
      | cons k l ih =>
        intro h
        have hk := h k List.mem_cons_self
        have e2 : (((xs.size : Int) - 1) + (k : Int) * (-1)).toNat = xs.size - 1 - k := by omega
        rw [List.filterMap_cons, List.filterMap_cons, ih fun j hj => h j (List.mem_cons_of_mem _ hj), e2]
        rfl
    exact key _ fun k hk => List.mem_range.mp hk
  rw [e, PySem.W.krv_range, List.filterMap_reverse, PySem.W.krv_all]
section
variable {prog : Program} {w : World} {A : Around} {E : Value → Shared → Prop} {s : Shared}
theorem applied_back {sl : Addr} {u : Tok} {n : Nat} {Q : Int × Int × Nat → Shared → Prop} (hs : s.heap.IsSliceOf sl .none .none (.int (-1) u)) (h : Q ((n : Int) - 1, -1, n) s) :
    wpAny (model prog w) A (Builtin.Slice.sliceApplied (.ref sl) (pure (n : Int))) Q E s := by
  obtain ⟨os, hos, hcs, hds⟩ := id hs
  unfold Builtin.Slice.sliceApplied Builtin.Slice.sliceFields
  refine wpAny_bind (wpAny_bind (wpAny_field hos hds (x := Value.none) rfl (wpAny_bind (wpAny_field hos hds (x := Value.none) rfl (wpAny_bind (wpAny_field hos hds (x := Value.int (-1) u) rfl (wpAny_pure ?_)))))))
  refine wpAny_bind (HT.slicePart_ (.int (-1) u) ?_)
  show wpAny _ _ (if ((-1 : Int) == 0) = true then _ else _) _ _ s
  rw [if_neg (by decide)]
  refine wpAny_bind (HT.slicePart_ .none (wpAny_bind (HT.slicePart_ .none (wpAny_bind (wpAny_pure ?_)))))
  show wpAny _ _ (match Builtin.Slice.sliceAdjust none none (-1) (n : Int) with | (lo, hi) => pure (lo, (-1 : Int), Builtin.Slice.slicePlaces lo hi (-1))) _ _ s
  rw [adj_back n]
  show wpAny _ _ (pure ((n : Int) - 1, (-1 : Int), Builtin.Slice.slicePlaces ((n : Int) - 1) (-1) (-1))) _ _ s
  rw [places_back]
  exact wpAny_pure h
theorem getItem_back {t sl : Addr} {items : Array Value} {u : Tok} {Q : Value → Shared → Prop} (ht : IsTup s.heap t items) (hs : s.heap.IsSliceOf sl .none .none (.int (-1) u))
    (h : Q (.ref s.heap.objs.size) { s with heap := s.heap.push { cls := .type "tuple", data := .seq items.toList.reverse.toArray } }) (hsz : items.size ≤ sizeLine) : wpAny (model prog w) A (getItem (.ref t) (.ref sl)) Q E s := by
  have hok : sizeOk (.seq items.toList.reverse.toArray) := by
    show items.toList.reverse.toArray.size ≤ sizeLine
    rw [List.size_toArray, List.length_reverse, Array.length_toList]
    exact hsz
  obtain ⟨os, hos, hcs, hds⟩ := id hs
  have hTs : s.TypeIs (.ref sl) "slice" := ⟨os, hos, hcs⟩
  unfold getItem
  try (with_reducible apply wpAny_holding)
  try (refine wpAny_bind (wpAny_pure ?_))
  refine wpAny_bind (wpAny_sequenceKey ht.typeIs (by decide) (wpAny_bind (wpAny_callSpecial?_slot (name := Str.ofString "__getitem__") ht.typeIs PyProof.Rows.slot_tuple_getitem (wpAny_call_entry PyProof.Rows.slot_tuple_getitem ht.typeIs entry_tuple_getitem ?_ (args_tuple_getitem _ _)))))
  show wpAny _ _ (Builtin.Tuple.tupleItemsOf (.ref t) >>= _) _ _ s
  refine wpAny_bind (tupleItemsOf_ ht (wpAny_bind (wpAny_typeOf hTs ?_)))
  rw [if_pos (by decide)]
  refine wpAny_bind (applied_back hs ?_)
  have no : ¬ ((((items.size : Int) - 1 == 0) && ((-1 : Int) == 1) && (items.size == items.size)) = true) := by
    simp
  show wpAny _ _ (if (((items.size : Int) - 1 == 0) && ((-1 : Int) == 1) && (items.size == items.size)) = true then _ else _) _ _ s
  rw [if_neg no, pick_back]
  exact wpAny_bind (m := Builtin.Tuple.tupleExact _) (wpAny_newObj_type (wpAny_pure ⟨Value.ref _, rfl, wpAny_pure h⟩) hok)
end
def tRevT (K : PySem.W.Frag) (te : TE) : TE := fun σ H Q => te σ H fun x H1 => ∃ a xs, x = .ref a ∧ SqT K H1 a xs ∧ ∀ p, H1 p = none → Q (.ref p) (upd H1 p (.tup xs.reverse))
theorem pe_revT {X : Cx} {e : Expr} {te : TE} {k : Nat} {p1 p2 p3 pos : Pos} (he : PE X e te) : PE X (.Subscript e (.Slice none none (some (.UnaryOp .USub (.Constant (.int 1) k p1) p2)) p3) pos) (tRevT X.K te) := by
  refine ⟨fun pins s σ H Q I h => ?_⟩
  refine Subscript_ (thn (he.run pins s σ H _ I h) fun v s1 hh => ?_)
  obtain ⟨x, H1, I1, r1, a, xs, rfl, hx, q⟩ := hh
  cases r1
  have hst : PO X (some (.UnaryOp .USub (.Constant (.int 1) k p1) p2)) (tPart (tUn (rU fun i => .int (-i)) (tC (.int 1)))) := po_some (pe_un un_neg pe_int)
  refine wpAny_Slice (thn (po_none.run pins s1 σ H1 (fun o Y => o = none ∧ Y = H1) I1 ⟨rfl, rfl⟩) fun vl s2 g2 => thn (po_none.run pins s2 σ H1 (fun o Y => o = none ∧ Y = H1) (by obtain ⟨_, _, J, _, _, rfl⟩ := g2; exact J) ⟨rfl, rfl⟩) fun vu s3 g3 => ?_)
  obtain ⟨_, _, I2, pl, rfl, rfl⟩ := g2
  obtain ⟨_, _, I3, pu, rfl, rfl⟩ := g3
  refine thn (hst.run pins s3 σ _ (fun o Y => o = some (-1) ∧ Y = _) I3 ⟨1, rfl, -1, rfl, rfl, rfl⟩) fun vs s4 g4 => ?_
  obtain ⟨_, Y, I4, ps, rfl, rfl⟩ := g4
  cases pl
  cases pu
  cases ps with
  | int i u =>
  have I5 : Inv X pins σ _ { s4 with heap := s4.heap.push { cls := .type "slice", data := .fields #[Value.none, Value.none, Value.int (-1) u] } } := I4.kept (t' := s4.toks) fun b ob q => Heap.get?_push_of_some _ q
  obtain ⟨its, r, ht, hz⟩ := I5.tuple hx
  have hlen := r.length
  show wpAny (model X.prog X.w) X.A (subscriptTail e (.Slice none none (some (.UnaryOp .USub (.Constant (.int 1) k p1) p2)) p3) (.ref a) (.ref s4.heap.objs.size)) (EP X pins σ Q) X.xe _
  refine tail_any (ops := [.ref a, .ref s4.heap.objs.size]) ht.typeIs PyProof.Rows.slot_tuple_getitem.lookup ?_ (by with_unfolding_all rfl)
  refine getItem_back ht (Heap.IsSliceOf.new _ .none .none (.int (-1) u)) ?_ (by rw [List.size_toArray]; omega)
  refine ⟨.ref _, _, I5.laid (t' := s4.toks) (o := .tup xs.reverse) (fun b ob q => Heap.get?_push_of_some _ q) (Nat.le_refl _) ?_, rfl, q _ (I5.hok.fresh (Nat.le_refl _))⟩
  exact ⟨by rw [List.length_reverse]; exact hz, its.reverse, r.reverse, IsTup.new _ _⟩
end RvT

set_option maxHeartbeats 8000000
namespace Lf
open PySem PySem.Spec PyProof.Rows L2 GxR GxA SrT
def bentDs (ns us : List Int) (j : Nat) (od : PyData) : List PyData := [.tuple (iD us), .tuple (iD us), .tuple ((((iD ns).take j) ++ [od]) ++ ((iD ns).drop (j + 1))), .tuple ((iD ns).drop 1), .tuple ((iD ns) ++ [.int ((ns.map V.int).length : Int)]), .tuple (((iD ns).take j) ++ ((iD ns).drop (j + 1))), .list (iD ns), .tuple (((iD ns).drop j) ++ ((iD ns).take j)), .tuple (iD ns.reverse), .tuple ((iD ns) ++ ((iD ns).take 1)), .none, .dict []]
theorem bentDs_ok {ns us : List Int} {j : Nat} {od : PyData} (hl : ns.length ≤ 100) (hu : us.length ≤ 100) (ho : wide od = true) : ∀ d ∈ bentDs ns us j od, wide d = true := by
  have wi : ∀ (ns : List Int) (d : PyData), d ∈ iD ns → wide d = true := fun ns d hd => by
    obtain ⟨i, _, rfl⟩ := List.mem_map.mp hd
    rfl
  have tk : ∀ (ns : List Int) (m : Nat) (d : PyData), d ∈ (iD ns).take m → wide d = true := fun ns m d hd => wi ns d (List.mem_of_mem_take hd)
  have dr : ∀ (ns : List Int) (m : Nat) (d : PyData), d ∈ (iD ns).drop m → wide d = true := fun ns m d hd => wi ns d (List.mem_of_mem_drop hd)
  have ap : ∀ (xs ys : List PyData), (∀ d ∈ xs, wide d = true) → (∀ d ∈ ys, wide d = true) → ∀ d ∈ xs ++ ys, wide d = true := fun xs ys h1 h2 d hd => (List.mem_append.mp hd).elim (h1 d) (h2 d)
  have sg : ∀ e : PyData, wide e = true → ∀ d ∈ [e], wide d = true := fun e h d hd => by rw [List.mem_singleton.mp hd]; exact h
  intro d hd
  unfold bentDs at hd
  simp only [List.mem_cons, List.not_mem_nil, or_false] at hd
  rcases hd with rfl | rfl | rfl | rfl | rfl | rfl | rfl | rfl | rfl | rfl | rfl | rfl
  · exact wide_tD (by omega)
  · exact wide_tD (by omega)
  · exact wide_t (by simp only [iD, List.length_append, List.length_take, List.length_drop, List.length_map, List.length_cons, List.length_nil]; omega) (ap _ _ (ap _ _ (tk ns j) (sg _ ho)) (dr ns (j + 1)))
  · exact wide_t (by simp only [iD, List.length_drop, List.length_map]; omega) (dr ns 1)
  · exact wide_t (by simp only [iD, List.length_append, List.length_map, List.length_cons, List.length_nil]; omega) (ap _ _ (wi ns) (sg _ rfl))
  · exact wide_t (by simp only [iD, List.length_append, List.length_take, List.length_drop, List.length_map]; omega) (ap _ _ (tk ns j) (dr ns (j + 1)))
  · exact wide_l (by simp only [iD, List.length_map]; omega) (wi ns)
  · exact wide_t (by simp only [iD, List.length_append, List.length_take, List.length_drop, List.length_map]; omega) (ap _ _ (dr ns j) (tk ns j))
  · exact wide_tD (by rw [List.length_reverse]; omega)
  · exact wide_t (by simp only [iD, List.length_append, List.length_take, List.length_map]; omega) (ap _ _ (wi ns) (tk ns 1))
  · rfl
  · rfl
theorem ixN_nat {n j : Nat} (h : j < n) : ixN n (j : Int) = some j := by
  unfold ixN
  rw [if_pos (by omega), if_pos (by omega)]
  simp
theorem set_ints {ns : List Int} {i : Nat} {x : Int} : (ns.map V.int).set i (.int x) = (ns.set i x).map V.int := List.map_set.symm
theorem bentDs_rp {ns us : List Int} {j : Nat} {od : PyData} (hl : ns.length ≤ 100) (hu : us.length ≤ 100) (hb : ∀ i ∈ ns, i.natAbs < 1000) (hub : ∀ i ∈ us, i.natAbs < 1000) (ho : El od ∧ od.hasDict = false) : ∀ d ∈ bentDs ns us j od, RpOk d := by
  have wi := el0_ints hb
  have tk : ∀ (m : Nat) (d : PyData), d ∈ (iD ns).take m → El d ∧ d.hasDict = false := fun m d hd => wi d (List.mem_of_mem_take hd)
  have dr : ∀ (m : Nat) (d : PyData), d ∈ (iD ns).drop m → El d ∧ d.hasDict = false := fun m d hd => wi d (List.mem_of_mem_drop hd)
  have ap : ∀ (xs ys : List PyData), (∀ d ∈ xs, El d ∧ d.hasDict = false) → (∀ d ∈ ys, El d ∧ d.hasDict = false) → ∀ d ∈ xs ++ ys, El d ∧ d.hasDict = false := fun xs ys h1 h2 d hd => (List.mem_append.mp hd).elim (h1 d) (h2 d)
  have sg : ∀ e : PyData, (El e ∧ e.hasDict = false) → ∀ d ∈ [e], El d ∧ d.hasDict = false := fun e h d hd => by rw [List.mem_singleton.mp hd]; exact h
  intro d hd
  unfold bentDs at hd
  simp only [List.mem_cons, List.not_mem_nil, or_false] at hd
  rcases hd with rfl | rfl | rfl | rfl | rfl | rfl | rfl | rfl | rfl | rfl | rfl | rfl
  · exact rp_t0 (el0_ints hub) (by rw [List.length_map]; omega)
  · exact rp_t0 (el0_ints hub) (by rw [List.length_map]; omega)
  · exact rp_t0 (ap _ _ (ap _ _ (tk j) (sg _ ho)) (dr (j + 1))) (by simp only [iD, List.length_append, List.length_take, List.length_drop, List.length_map, List.length_cons, List.length_nil]; omega)
  · exact rp_t0 (dr 1) (by simp only [iD, List.length_drop, List.length_map]; omega)
  · exact rp_t0 (ap _ _ wi (sg _ ⟨el_int (by rw [List.length_map]; omega), rfl⟩)) (by simp only [iD, List.length_append, List.length_map, List.length_cons, List.length_nil]; omega)
  · exact rp_t0 (ap _ _ (tk j) (dr (j + 1))) (by simp only [iD, List.length_append, List.length_take, List.length_drop, List.length_map]; omega)
  · exact rp_l0 wi (by simp only [iD, List.length_map]; omega)
  · exact rp_t0 (ap _ _ (dr j) (tk j)) (by simp only [iD, List.length_append, List.length_take, List.length_drop, List.length_map]; omega)
  · exact rp_t0 (el0_ints fun i hi => hb i (List.mem_reverse.mp hi)) (by rw [List.length_map, List.length_reverse]; omega)
  · exact rp_t0 (ap _ _ wi (tk 1)) (by simp only [iD, List.length_append, List.length_take, List.length_map]; omega)
  · exact rp_none
  · exact rp_dict
section
variable {P : Program} {w : World} {K : PySem.W.Frag} {mg : Str → Option Value} {base : Heap} {Ps : Tbs} {H H' H0 : Hp} {k : Nat} {f c : Addr} {fd : FuncData}
def spBent (K : PySem.W.Frag) (Ps : Tbs) : Sp := fun vs H Q _ => ∃ (a : Addr) (y : V) (ns : List Int), vs = [.ref a, y] ∧ Pen H a ∧ TupI K H y ns ∧ 1 ≤ ns.length ∧ ns.length ≤ 100 ∧ Tb Ps H ∧ ∀ v d H', Epn Ps a H H' → ThF K H' (fun b => H b = none) v d → wide d = true → ((∀ i ∈ ns, i.natAbs < 1000) → RpOk d) → Q v H'
end
end Lf

set_option maxHeartbeats 8000000
namespace Lf
open PySem PySem.Spec PyProof.Rows L2 GxR GxA SrT
theorem map_eraseI : ∀ (l : List Int) (o : Nat), (l.map V.int).eraseIdx o = (l.eraseIdx o).map V.int
  | [], _ => rfl
  | _ :: _, 0 => rfl
  | x :: l, o + 1 => by
    show V.int x :: (l.map V.int).eraseIdx o = V.int x :: (l.eraseIdx o).map V.int
    rw [map_eraseI l o]
theorem cutD_last (ds : List PyData) : cutD ds (some (-1)) none = ds.drop (ds.length - 1) := by
  unfold cutD
  have e : HT.sIx ds.length 0 (some (-1)) = ds.length - 1 := by
    show (if (-1 : Int) < 0 then ((-1 : Int) + (ds.length : Int)).toNat else min (-1 : Int).toNat ds.length) = _
    rw [if_pos (by decide)]
    omega
  rw [e, HT.sIx_none, List.take_of_length_le]
  rw [List.length_drop]
  omega
theorem cutD_init (ds : List PyData) : cutD ds none (some (-1)) = ds.take (ds.length - 1) := by
  unfold cutD
  have e : HT.sIx ds.length ds.length (some (-1)) = ds.length - 1 := by
    show (if (-1 : Int) < 0 then ((-1 : Int) + (ds.length : Int)).toNat else min (-1 : Int).toNat ds.length) = _
    rw [if_pos (by decide)]
    omega
  rw [e, HT.sIx_none, List.drop_zero, Nat.sub_zero]
theorem cutD_tail (ds : List PyData) : cutD ds (some 1) none = ds.drop 1 := by
  unfold cutD
  have e : HT.sIx ds.length 0 (some 1) = min 1 ds.length := HT.sIx_nat ds.length 0 1
  rw [e, HT.sIx_none, List.take_of_length_le (by rw [List.length_drop]; omega)]
  by_cases h : 1 ≤ ds.length
  · rw [Nat.min_eq_left h]
  · rw [Nat.min_eq_right (by omega), List.drop_length, List.drop_of_length_le (by omega)]
theorem rowD_len {ds : List PyData} {n : Nat} (h : ds.length ≠ n) : ¬ RowD (.tuple ds) n := by
  rintro ⟨ms, e, p⟩
  injection e with e
  apply h
  rw [e, ← len_perm_rng p]
  exact List.length_map ..
theorem row_elem {ds : List PyData} {n : Nat} {e : PyData} (he : e ∈ ds) (h : intIn e 0 (n - 1) = false) : ¬ RowD (.tuple ds) n := by
  rintro ⟨ms, e2, p⟩
  injection e2 with e2
  rw [e2] at he
  obtain ⟨i, hi, rfl⟩ := List.mem_map.mp he
  have hm := p.mem_iff.mp hi
  unfold rng at hm
  obtain ⟨j, hj, rfl⟩ := List.mem_map.mp hm
  have hj' := List.mem_range.mp hj
  have z : (decide (0 ≤ (j : Int)) && decide ((j : Int) ≤ (n : Int) - 1)) = false := h
  rw [decide_eq_true (show 0 ≤ (j : Int) by omega), decide_eq_true (show (j : Int) ≤ (n : Int) - 1 by omega)] at z
  cases z
theorem twice_bad {ns : List Int} {n : Nat} (hp : ns.Perm (rng n)) (h : 1 < n) : ¬ RowD (.tuple (cutD (iD ns) (some (-1)) none ++ cutD (iD ns) (some 1) none)) n := by
  rintro ⟨ms, e, p⟩
  injection e with e
  rw [cutD_last, cutD_tail] at e
  have hl := len_perm_rng hp
  have il : (iD ns).length = n := by
    rw [← hl]
    exact List.length_map ..
  rw [il] at e
  have nd : ms.Nodup := p.nodup_iff.mpr (nd_rng n)
  have ndD : (iD ms).Nodup := List.pairwise_map.mpr (List.Pairwise.imp (fun {a b} h z => h (by injection z)) nd)
  have e' : (iD ns).drop (n - 1) ++ (iD ns).drop 1 = iD ms := e
  rw [← e'] at ndD
  have hlt : n - 1 < (iD ns).length := by omega
  have m1 : (iD ns)[n - 1] ∈ (iD ns).drop (n - 1) := by
    rw [List.drop_eq_getElem_cons hlt]
    exact List.mem_cons_self
  have m2 : (iD ns)[n - 1] ∈ (iD ns).drop 1 := by
    have : (iD ns)[n - 1] = ((iD ns).drop 1)[n - 2]'(by rw [List.length_drop]; omega) := by
      rw [List.getElem_drop]
      congr 1
      omega
    rw [this]
    exact List.getElem_mem _
  exact (List.nodup_append.mp ndD).2.2 _ m1 _ m2 rfl
theorem oddMs_in {n : Nat} {ns : List Int} (hl : (ns.map V.int).length = n) (h : n ≤ 8) : ∀ d ∈ ([.int (((ns.map V.int).length : Nat) : Int), .int (-1), .none, .bool true, .str "0", .tuple [.int 0], .int (10 ^ (30 : Int).toNat)] : List PyData), intIn d 0 (n - 1) = false := by
  intro d hd
  have ii : ∀ i : Int, (i < 0 ∨ (n : Int) - 1 < i) → intIn (.int i) 0 (n - 1) = false := fun i h => by
    show (decide (0 ≤ i) && decide (i ≤ (n : Int) - 1)) = false
    rcases h with h | h
    · rw [decide_eq_false (show ¬ 0 ≤ i by omega)]
      rfl
    · rw [decide_eq_false (show ¬ i ≤ (n : Int) - 1 by omega), Bool.and_false]
  have big : (1000 : Int) < 10 ^ (30 : Int).toNat := by decide
  simp only [List.mem_cons, List.not_mem_nil, or_false] at hd
  rcases hd with rfl | rfl | rfl | rfl | rfl | rfl | rfl
  · exact ii _ (.inr (by omega))
  · exact ii _ (.inl (by omega))
  · rfl
  · rfl
  · rfl
  · rfl
  · exact ii _ (.inr (Int.lt_of_le_of_lt (show (n : Int) - 1 ≤ 1000 by omega) big))
def badMs (ns u1 u2 u3 u4 : List Int) (od dtw : PyData) : List PyData := [.tuple (((iD u1) ++ [od]) ++ (iD u2)), .tuple (iD u3), .tuple ((iD ns) ++ [.int (((ns.map V.int).length : Nat) : Int)]), .list (iD ns), .tuple ((iD ns) ++ (iD u4)), .none, .int 0, .dict [], .str "01", dtw, .tuple [.tuple (iD ns)], .list [.tuple (iD ns)]]
theorem badMs_ok {n : Nat} {ns u1 u2 u3 u4 : List Int} {od dtw : PyData} (hp : ns.Perm (rng n)) (n1 : 1 ≤ n) (ho : intIn od 0 (n - 1) = false) (h3 : u3.length = n - 1) (h4 : u4.length = 1) (ht : ¬ RowD dtw n) : ∀ d ∈ badMs ns u1 u2 u3 u4 od dtw, ¬ RowD d n := by
  have hl := len_perm_rng hp
  have il : ∀ l : List Int, (iD l).length = l.length := fun l => List.length_map ..
  have nt : ∀ {d : PyData}, (∀ ms, d ≠ tD ms) → ¬ RowD d n := fun h => by
    rintro ⟨ms, e, _⟩
    exact h ms e
  intro d hd
  unfold badMs at hd
  simp only [List.mem_cons, List.not_mem_nil, or_false] at hd
  rcases hd with rfl | rfl | rfl | rfl | rfl | rfl | rfl | rfl | rfl | rfl | rfl | rfl
  · exact row_elem (List.mem_append_left _ (List.mem_append_right _ (List.mem_singleton.mpr rfl))) ho
  · exact rowD_len (by rw [il]; omega)
  · exact rowD_len (by rw [List.length_append, il]; simp; omega)
  · exact nt fun ms z => by cases z
  · exact rowD_len (by rw [List.length_append, il, il]; omega)
  · exact nt fun ms z => by cases z
  · exact nt fun ms z => by cases z
  · exact nt fun ms z => by cases z
  · exact nt fun ms z => by cases z
  · exact ht
  · exact row_elem (List.mem_singleton.mpr rfl) rfl
  · exact nt fun ms z => by cases z
section
variable {P : Program} {w : World} {K : PySem.W.Frag} {mg : Str → Option Value} {base : Heap} {Ps : Tbs} {H H' H0 : Hp} {k : Nat} {f c : Addr} {fd : FuncData}
def spNames (K : PySem.W.Frag) (Ps : Tbs) : Sp := fun vs H Q _ => ∃ (a : Addr) (n : Nat), vs = [.ref a, .int n] ∧ Pen H a ∧ 1 ≤ n ∧ n ≤ 8 ∧ Tb Ps H ∧ ∀ (t : Addr) (ns : List Int) (H' : Hp), Epn Ps a H H' → SqT K H' t (ns.map V.int) → FzT H' t → H t = none → ns.Perm (rng n) → Q (.ref t) H'
def spNoNames (K : PySem.W.Frag) (Ps : Tbs) : Sp := fun vs H Q _ => ∃ (a t : Addr) (ns : List Int) (n : Nat), vs = [.ref a, .ref t] ∧ Pen H a ∧ SqT K H t (ns.map V.int) ∧ ns.Perm (rng n) ∧ 1 ≤ n ∧ n ≤ 8 ∧ Tb Ps H ∧ ∀ v d H', Epn Ps a H H' → ThF K H' (fun b => H b = none) v d → ¬ RowD d n → Q v H'
end
end Lf

set_option maxHeartbeats 4000000
namespace Lf
open PySem PySem.Spec PyProof.Rows L2 GxR GxA SrT RvT
abbrev sBentN : Stmt := topS 65
theorem scBentN : FnScope ["_law_pen_here", "_law_row", "_law_way", "_law_at", "_law_to", "_law_found", "_law_left", "_law_number"] ["_law_pen_here", "_law_row"] (defScope sBentN) := ⟨rfl, rfl, rfl, by decide +kernel, rfl, by decide +kernel, by decide +kernel⟩
section
variable {P : Program} {w : World} {K : PySem.W.Frag} {mg : Str → Option Value} {base : Heap} {Ps : Tbs} {H H' H0 : Hp} {k : Nat} {f c : Addr} {fd : FuncData}
def spBentN (K : PySem.W.Frag) (Ps : Tbs) : Sp := fun vs H Q _ => ∃ (a t : Addr) (ns : List Int), vs = [.ref a, .ref t] ∧ Pen H a ∧ SqT K H t (ns.map V.int) ∧ 1 ≤ ns.length ∧ ns.length ≤ 70 ∧ Tb Ps H ∧ ∀ v ms H', Epn Ps a H H' → TupI K H' v ms → ms.length = ns.length → (∀ i ∈ ms, i ∈ ns) → Q v H'
theorem ok_bentN {fD cD : Addr} {fdD : FuncData} (D : Def K mg "_law_bent_row" sBentN ["_law_pen_here", "_law_row"] f fd c) (DD : Def K mg "_law_draw" sDraw ["_law_pen_here", "_law_many"] fD fdD cD) (GD : FnOk P w K mg base CX0 k fD fdD ["_law_pen_here", "_law_many"] spDraw) (mL : mg "list" = none) (ml : mg "len" = none) (mt : mg "tuple" = none) :
    FnOk P w K mg base CX0 (k + 1) f fd ["_law_pen_here", "_law_row"] (spBentN K Ps) := by
  refine D.ok (k := k) scBentN (fun vs H Q E h => ?_) (fun A outer s H vs Q E hr h => ?_)
  · obtain ⟨a, t, ns, rfl, _⟩ := h
    rfl
  · obtain ⟨a, t, ns, rfl, hP, hN, n1, n70, ht, q⟩ := h
    refine ⟨_, (pss_cons (ps_par3 (i := 2) (j := 3) (l := 4) (by rfl) scBentN.nd rfl rfl rfl (by decide) (by decide) (by decide) rfl rfl rfl (pa_cons (pcl DD GD hr (pa_cons (pv 0) (pa_cons pe_int pa_nil))) (pa_cons (pcl DD GD hr (pa_cons (pv 0) (pa_cons (pe_callB (call_lenS (K := K) rfl) (by rfl) ml PySem.boot_len (pa_cons (pv 1) pa_nil)) pa_nil))) (pa_cons (pcl DD GD hr (pa_cons (pv 0) (pa_cons (pe_callB (call_lenS (K := K) rfl) (by rfl) ml PySem.boot_len (pa_cons (pv 1) pa_nil)) pa_nil))) pa_nil))) (by rfl)) (pss_cons (ps_set (i := 5) scBentN.nd rfl (.inl rfl) (pe_callTy call_list_of (by rfl) mL (by decide +kernel) (pa_cons (pv 1) pa_nil))) (pss_cons (ps_asg (pe_tup (pa_cons (pe_ix ix_list (pv 5) (pv 4) (fun _ _ => rfl)) (pa_cons (pe_ix ix_list (pv 5) (pv 3) (fun _ _ => rfl)) pa_nil))) (pg_tup (by rfl) (pgs_cons (pg_sub (pv 5) (pv 3) set_list) (pgs_cons (pg_sub (pv 5) (pv 4) set_list) pgs_nil)))) (pss_cons (ps_set (i := 6) scBentN.nd rfl (.inr rfl) (pe_callTy call_list_of (by rfl) mL (by decide +kernel) (pa_cons (pv 1) pa_nil))) (pss_cons (ps_if (pt_cmpR op_eq (pv 2) pe_int (nomark _)) (pss_one (ps_ret (pe_revT (pv 1)))) pss_nil) (pss_cons (ps_if (pt_cmpR op_lt (pv 2) pe_int (nomark _)) (pss_one (ps_ret (pe_callTy call_tuple_of (by rfl) mt (by decide +kernel) (pa_cons (pv 5) pa_nil)))) pss_nil) (pss_one (ps_ret (pe_callTy call_tuple_of (by rfl) mt (by decide +kernel) (pa_cons (pe_lc (own := [("_law_number", 7)]) (g := gName 7) (by rfl) scBentN.nd (pi_tup (pv 1)) (blkOk_by (N := ["_law_pen_here", "_law_row", "_law_way", "_law_at", "_law_to", "_law_found", "_law_left", "_law_number"]) (sc := defScope sBentN) (by decide +kernel)) (fun _ _ _ _ _ => pg_name (i := 7) scBentN.nd rfl (Or.inl rfl)) (fun _ _ _ _ _ => pts_nil) (fun _ _ _ _ _ => (show PE _ _ (tBM K "list" rPopAt _ _) from pe_bm PySem.F.plainAttrs_list PySem.F.slot_list_pop PySem.F.type_list_pop mt_popAt (pv 6) (pa_cons (pcl DD GD hr (pa_cons (pv 0) (pa_cons (pe_callB (call_lenS (K := K) rfl) (by rfl) ml PySem.boot_len (pa_cons (pv 6) pa_nil)) pa_nil))) pa_nil)))) pa_nil)))))))))), ?_⟩
    have ln : (ns.map V.int).length = ns.length := List.length_map ..
    refine tseq_intro fun R hR => ?_
    refine ⟨.ref a, rfl, a, 4, rfl, hP, by decide, by decide, fun x1 f1 wy0 w0 w1 => ?_⟩
    have e1 : Epn Ps a H (upd H a (.lst [.int x1, .int f1])) := Epn.draw ht hP
    generalize upd H a (.lst [.int x1, .int f1]) = H1 at *
    refine ⟨.ref a, rfl, .ref t, rfl, t, _, rfl, .inr (e1.sqT hN), a, _, rfl, e1.pen, by omega, by omega, fun x2 f2 j0 j00 j1 => ?_⟩
    have e2 : Epn Ps a H (upd H1 a (.lst [.int x2, .int f2])) := e1.trans (Epn.draw e1.tb e1.pen)
    generalize upd H1 a (.lst [.int x2, .int f2]) = H2 at *
    refine ⟨.ref a, rfl, .ref t, rfl, t, _, rfl, .inr (e2.sqT hN), a, _, rfl, e2.pen, by omega, by omega, fun x3 f3 o0 o00 o1 => ?_⟩
    have e3 : Epn Ps a H (upd H2 a (.lst [.int x3, .int f3])) := e2.trans (Epn.draw e2.tb e2.pen)
    generalize upd H2 a (.lst [.int x3, .int f3]) = H3 at *
    refine ⟨.int wy0, .int j0, .int o0, rfl, ?_⟩
    obtain ⟨wy, rfl⟩ := Int.eq_ofNat_of_zero_le w0
    obtain ⟨j, rfl⟩ := Int.eq_ofNat_of_zero_le j00
    obtain ⟨to, rfl⟩ := Int.eq_ofNat_of_zero_le o00
    show R [some (.ref a), some (.ref t), some (.int (wy : Int)), some (.int (j : Int)), some (.int (to : Int)), none, none, none] H3
    rw [hR]
    clear hR
    have hj : j < ns.length := by omega
    have hto : to < ns.length := by omega
    have qrow := e3.sqT hN
    -- changed
    refine tseq_intro fun R hR => ?_
    refine ⟨.ref t, rfl, t, _, rfl, .inr qrow, fun ch nch => ?_⟩
    have xch := Ext.new (o := .lst (ns.map V.int)) e3.tb nch
    have zch : H ch = none := e3.free nch
    have hch : (upd H3 ch (.lst (ns.map V.int))) ch = some (.lst (ns.map V.int)) := upd_same
    replace qrow := xch.sqT qrow
    have F1 := e3.trans (xch.epn e3.pen)
    generalize upd H3 ch (.lst (ns.map V.int)) = G1 at *
    show R [some (.ref a), some (.ref t), some (.int (wy : Int)), some (.int (j : Int)), some (.int (to : Int)), some (.ref ch), none, none] G1
    rw [hR]
    clear hR
    refine tseq_intro fun R hR => ?_
    refine ⟨.ref ch, rfl, .int (to : Int), rfl, ch, _, (to : Int), .int (L2.cellOf ns to), rfl, rfl, .inl (.inl hch), atI_cell hto, .ref ch, rfl, .int (j : Int), rfl, ch, _, (j : Int), .int (L2.cellOf ns j), rfl, rfl, .inl (.inl hch), atI_cell hj, (by show 2 ≤ sizeLine; decide), fun tp ntp => ?_⟩
    have xtp := Ext.new (o := .tup [.int (L2.cellOf ns to), .int (L2.cellOf ns j)]) F1.tb ntp
    have htp : SqT K (upd G1 tp (.tup [.int (L2.cellOf ns to), .int (L2.cellOf ns j)])) tp [.int (L2.cellOf ns to), .int (L2.cellOf ns j)] := .inl (.inl upd_same)
    replace hch := xtp.lst hch
    replace qrow := xtp.sqT qrow
    have F2 := F1.trans (xtp.epn F1.pen)
    generalize upd G1 tp (.tup [.int (L2.cellOf ns to), .int (L2.cellOf ns j)]) = G2 at *
    refine ⟨tp, _, rfl, htp, rfl, _, _, rfl, .ref ch, rfl, .int (j : Int), rfl, ch, _, (j : Int), j, rfl, rfl, hch, ixN_nat (by rw [ln]; exact hj), ?_⟩
    rw [set_ints]
    have F3 : Epn Ps a H (upd G2 ch (.lst ((ns.set j (L2.cellOf ns to)).map V.int))) := F2.write zch hch (fun q z => by cases z)
    replace qrow : SqT K (upd G2 ch (.lst ((ns.set j (L2.cellOf ns to)).map V.int))) _ _ := sqT_put hch qrow
    have hch3 : (upd G2 ch (.lst ((ns.set j (L2.cellOf ns to)).map V.int))) ch = some (.lst ((ns.set j (L2.cellOf ns to)).map V.int)) := upd_same
    generalize upd G2 ch (.lst ((ns.set j (L2.cellOf ns to)).map V.int)) = G3 at *
    refine ⟨_, _, rfl, .ref ch, rfl, .int (to : Int), rfl, ch, _, (to : Int), to, rfl, rfl, hch3, ixN_nat (by rw [List.length_map, List.length_set]; exact hto), rfl, ?_⟩
    rw [set_ints]
    have F4 : Epn Ps a H (upd G3 ch (.lst (((ns.set j (L2.cellOf ns to)).set to (L2.cellOf ns j)).map V.int))) := F3.write zch hch3 (fun q z => by cases z)
    replace qrow : SqT K (upd G3 ch (.lst (((ns.set j (L2.cellOf ns to)).set to (L2.cellOf ns j)).map V.int))) _ _ := sqT_put hch3 qrow
    have hch4 : (upd G3 ch (.lst (((ns.set j (L2.cellOf ns to)).set to (L2.cellOf ns j)).map V.int))) ch = some (.lst (((ns.set j (L2.cellOf ns to)).set to (L2.cellOf ns j)).map V.int)) := upd_same
    generalize upd G3 ch (.lst (((ns.set j (L2.cellOf ns to)).set to (L2.cellOf ns j)).map V.int)) = G4 at *
    obtain ⟨us, hus⟩ : ∃ us, us = (ns.set j (L2.cellOf ns to)).set to (L2.cellOf ns j) := ⟨_, rfl⟩
    rw [← hus] at hch4
    have cell_in : ∀ i, i < ns.length → L2.cellOf ns i ∈ ns := fun i hi => by
      have e := atI_cell (ns := ns) hi
      obtain ⟨y, hy⟩ : ∃ y, ns[i]? = some y := ⟨_, List.getElem?_eq_getElem hi⟩
      have e2 := atI_nat (xs := ns.map V.int) (j := i) (v := .int y) (by rw [List.getElem?_map, hy]; rfl)
      rw [e2] at e
      injection e with e
      injection e with e
      rw [← e]
      exact List.mem_of_getElem? hy
    have ul : us.length = ns.length := by rw [hus, List.length_set, List.length_set]
    have uin : ∀ i ∈ us, i ∈ ns := fun i hi => by
      rw [hus] at hi
      rcases List.mem_or_eq_of_mem_set hi with hi | rfl
      · rcases List.mem_or_eq_of_mem_set hi with hi | rfl
        · exact hi
        · exact cell_in to hto
      · exact cell_in j hj
    show R [some (.ref a), some (.ref t), some (.int (wy : Int)), some (.int (j : Int)), some (.int (to : Int)), some (.ref ch), none, none] G4
    rw [hR]
    clear hR
    -- left
    refine tseq_intro fun R hR => ?_
    refine ⟨.ref t, rfl, t, _, rfl, .inr qrow, fun L nL => ?_⟩
    have xL := Ext.new (o := .lst (ns.map V.int)) F4.tb nL
    have zL : H L = none := F4.free nL
    have hL : (upd G4 L (.lst (ns.map V.int))) L = some (.lst (ns.map V.int)) := upd_same
    replace qrow := xL.sqT qrow
    replace hch4 := xL.lst hch4
    have F5 := F4.trans (xL.epn F4.pen)
    generalize upd G4 L (.lst (ns.map V.int)) = G5 at *
    show R [some (.ref a), some (.ref t), some (.int (wy : Int)), some (.int (j : Int)), some (.int (to : Int)), some (.ref ch), some (.ref L), none] G5
    rw [hR]
    clear hR
    by_cases w0' : wy = 0
    · subst w0'
      refine ⟨.int (0 : Nat), rfl, rfl, true, by simp, iteT ⟨.ref t, rfl, t, _, rfl, qrow, fun p np => ?_⟩⟩
      exact q _ ns.reverse _ (F5.trans ((Ext.new F5.tb np).epn F5.pen)) ⟨p, rfl, .inl (.inl (by rw [List.map_reverse]; exact upd_same))⟩ (List.length_reverse ..) (fun i hi => List.mem_reverse.mp hi)
    refine ⟨.int wy, rfl, rfl, false, ?_, iteF ?_⟩
    · congr 1
      exact decide_eq_false fun z => w0' (by injection z with z; omega)
    by_cases w3 : wy < 3
    · refine ⟨.int wy, rfl, wy, 3, rfl, rfl, true, ?_, iteT ⟨.ref ch, rfl, ch, _, rfl, .inl ⟨.inl (.inl hch4), fun p np => ?_⟩⟩⟩
      · exact congrArg V.bl (decide_eq_true (show (wy : Int) < 3 by omega))
      exact q _ us _ (F5.trans ((Ext.new F5.tb np).epn F5.pen)) ⟨p, rfl, .inl (.inl upd_same)⟩ ul uin
    refine ⟨.int wy, rfl, wy, 3, rfl, rfl, false, ?_, iteF ?_⟩
    · exact congrArg V.bl (decide_eq_false (show ¬ (wy : Int) < 3 by omega))
    refine ⟨.ref t, rfl, t, rfl, ⟨_, qrow⟩, fun D0 hD => ?_⟩
    have nLa : L ≠ a := by
      obtain ⟨u, v, e⟩ := hP
      exact (ne_of_none e zL).symm
    have nDa : D0 ≠ a := by
      obtain ⟨u, v, e⟩ := F5.pen
      exact (ne_of_none e hD).symm
    have nDL : L ≠ D0 := ne_of_none hL hD
    have hD' := F5.free hD
    refine lc_tup (K := K) (a := t) (xs := ns.map V.int) (fun i H3 => SqT K H3 t (ns.map V.int) ∧ Epn Ps a H H3 ∧ ∃ ls ds : List Int, H3 L = some (.lst (ls.map V.int)) ∧ H3 D0 = some (.lst (ds.map V.int)) ∧ (ds ++ ls).Perm ns ∧ ds.length = i) ?_ (fun i H3 _ p => p.1) (fun i u H3 hu p => ?_) (fun H3 p => ?_)
    · have x3 := Ext.new (o := .lst []) F5.tb hD
      exact ⟨x3.sqT qrow, F5.trans (x3.epn F5.pen), ns, [], x3.lst hL, upd_same, List.Perm.refl _, rfl⟩
    · obtain ⟨hq, E3, ls3, ds3, hL3, hD3, hperm, hdl⟩ := p
      have hi : i < ns.length := by
        have := (List.getElem?_eq_some_iff.mp hu).1
        omega
      have hll := hperm.length_eq
      rw [List.length_append] at hll
      have hlm : (ls3.map V.int).length = ls3.length := List.length_map ..
      refine ⟨rfl, yes_ (iteT ⟨.ref L, rfl, .inl ⟨rfl, _, .inl (.inl hL3)⟩, .ref a, rfl, .ref L, rfl, L, _, rfl, .inl (.inl (.inl hL3)), a, _, rfl, E3.pen, by omega, by omega, fun u2 f2 r2 r20 r21 => ?_⟩)⟩
      have e4 : Epn Ps a H3 (upd H3 a (.lst [.int u2, .int f2])) := Epn.draw E3.tb E3.pen
      have E4 := E3.trans e4
      have hL4 := e4.lst nLa hL3
      have hD4 := e4.lst nDa hD3
      have hq4 := e4.sqT hq
      generalize upd H3 a (.lst [.int u2, .int f2]) = H4 at *
      obtain ⟨o, rfl⟩ := Int.eq_ofNat_of_zero_le r20
      have ho : o < ls3.length := by omega
      obtain ⟨y, hy⟩ : ∃ y, ls3[o]? = some y := ⟨_, List.getElem?_eq_getElem ho⟩
      refine ⟨L, ls3.map V.int, (o : Int), o, .int y, rfl, rfl, hL4, by omega, by omega, seqIx (by omega), by rw [List.getElem?_map, hy]; rfl, ds3.map V.int, ?_, by rw [List.length_map]; exact Nat.lt_of_le_of_lt (show ds3.length ≤ 256 by omega) (small1000 (by decide)), ?_⟩
      · rw [upd_ne (Ne.symm nDL)]
        exact hD4
      have em : (ls3.map V.int).eraseIdx o = (ls3.eraseIdx o).map V.int := map_eraseI ls3 o
      rw [em]
      have E5 := E4.write (o' := .lst ((ls3.eraseIdx o).map V.int)) zL hL4 (fun q z => by cases z)
      have hq5 : SqT K (upd H4 L (.lst ((ls3.eraseIdx o).map V.int))) t (ns.map V.int) := sqT_put hL4 hq4
      have hL5 : upd H4 L (.lst ((ls3.eraseIdx o).map V.int)) L = some (.lst ((ls3.eraseIdx o).map V.int)) := upd_same
      have hD5 : upd H4 L (.lst ((ls3.eraseIdx o).map V.int)) D0 = some (.lst (ds3.map V.int)) := by
        rw [upd_ne (Ne.symm nDL)]
        exact hD4
      generalize upd H4 L (.lst ((ls3.eraseIdx o).map V.int)) = H5 at *
      refine ⟨sqT_put hD5 hq5, E5.write hD' hD5 (fun q z => by cases z), ls3.eraseIdx o, ds3 ++ [y], ?_, by rw [upd_same, List.map_append]; rfl, ?_, by rw [List.length_append]; simp; omega⟩
      · rw [upd_ne nDL]
        exact hL5
      · rw [List.append_assoc]
        exact (List.Perm.append_left ds3 (perm_erase hy)).trans hperm
    · obtain ⟨hq, E3, ls3, ds3, hL3, hD3, hperm, hdl⟩ := p
      refine ⟨D0, _, rfl, .inl ⟨.inl (.inl hD3), fun tf ntf => ?_⟩⟩
      exact q _ ds3 _ (E3.trans ((Ext.new E3.tb ntf).epn E3.pen)) ⟨tf, rfl, .inl (.inl upd_same)⟩ (by omega) (fun i hi => hperm.mem_iff.mp (List.mem_append_left _ hi))
end
end Lf

set_option maxHeartbeats 4000000
namespace Lf
open PySem PySem.Spec PyProof.Rows L2 GxR GxA SrT
def restF (fc : List Int) (p : Int) : List Int := fc.filter fun z => !decide (z = p)
def restsB (fc : List Int) (p : Int) (os : List (List Int)) : Bool := !(os.filter fun o => decide ((comL (restF fc p) o).length = (restF fc p).length)).isEmpty
def takesB (fss : List (List Int)) (p : Int) : Bool := !(fss.filter fun g => decide (p ∈ g)).isEmpty && (!(lackL fss p).isEmpty && decide (((fss.filter fun g => decide (p ∈ g)).filter fun g => restsB g p (lackL fss p)).length = (fss.filter fun g => decide (p ∈ g)).length))
section
variable {P : Program} {w : World} {K : PySem.W.Frag} {mg : Str → Option Value} {base : Heap} {Ps : Tbs} {H H' H0 : Hp} {k : Nat} {f c : Addr} {fd : FuncData}
/-! ### _law_rests -/
def spRests (K : PySem.W.Frag) (Ps : Tbs) : Sp := fun vs H Q _ => ∃ (x : V) (fc : List Int) (p : Int) (l : Addr) (xs : List V) (os : List (List Int)), vs = [x, .int p, .ref l] ∧ TupI K H x fc ∧ SqL K H l xs ∧ Paired (TupI K H) xs os ∧ fc.length ≤ 8 ∧ os.length ≤ 70 ∧ Tb Ps H ∧ ∀ H', Ext Ps H H' → Q (.bl (restsB fc p os)) H'
/-! ### _law_takes -/
def spTakes (K : PySem.W.Frag) (Ps : Tbs) : Sp := fun vs H Q _ => ∃ (x : V) (n kk p : Int) (fss : List (List Int)), vs = [x, .int p] ∧ Stk K H x n kk fss ∧ StkOk n kk fss ∧ Tb Ps H ∧ ∀ H', Ext Ps H H' → Q (.bl (takesB fss p)) H'
end
end Lf

set_option maxHeartbeats 4000000
namespace Lf
open PySem PySem.Spec PyProof.Rows L2 GxR GxA SrT
abbrev sKindOf : Stmt := topS 50
theorem scKindOf : FnScope ["_law_e", "_law_marks", "_law_words"] ["_law_e"] (defScope sKindOf) := ⟨rfl, rfl, rfl, by decide +kernel, rfl, by decide +kernel, by decide +kernel⟩
section
variable {K : PySem.W.Frag} {mg : Str → Option Value} {C : Nat → Addr} {CL : Addr}
/-- what the kinds are told to be -/
def spKindOf (Ps : Tbs) (a : Addr) (i : Nat) : Sp := fun vs H Q _ => vs = [.ref a] ∧ Tb Ps H ∧ ∀ H', Ext Ps H H' → Q (.str (wordOf i)) H'
theorem pe_kindOf {X : Cx} {Ps : Tbs} {f c a D : Addr} {fd : FuncData} {i k : Nat} {oe : Obj} {e : Expr} {t : TA} {p pos : Pos} (DK : Def X.K X.mg "_law_kind_of" sKindOf ["_law_e"] f fd c) (G : Kinds X.mg C) (Z : Kind X.K C CL i D) (hz : Zc (.ref D) none oe) (hf : ∃ vs, oe.data = .fields vs) (hp : (a, oe) ∈ X.pn)
    (hr : L2H.RoomH (k + 1) X.A) (ha : PA X [e] t) (mi : X.mg "isinstance" = none) (mv : X.mg "ValueError" = none) (hg : Gl X "_law_kind_of" := by rfl) (he : starEach [e] X.env = (false, eval e X.env) :: starEach [] X.env := by rfl) (hpl : (backTo pos (starEach [] X.env)).any (·.1) = false := by rfl) :
    PE X (.Call (.Name "_law_kind_of" p) [e] [] pos) (tCall (spKindOf Ps a i) [] E0 t) := by
  refine pe_hot (N := ["_law_e", "_law_marks", "_law_words"]) DK scKindOf hp hr ha (fun vs H Q E h => by rw [h.1]; rfl) (fun s H vs Q hr h => ?_) hg (by decide) he hpl
  obtain ⟨rfl, ht, q⟩ := h
  have hu : (X.A.deeper (envOfC "_law_kind_of" (defScope sKindOf) s.heap.objs.size f (.ref c))).units + 65 < cLine := by
    have := hr.un
    omega
  refine ⟨_, (pss_cons (ps_set (i := 1) scKindOf.nd rfl (.inl rfl) (pe_lst (pa_cons (pe_callB (call_isP Z.exc hz hf (.head _)) (by rfl) mi (by decide +kernel) (pa_cons (pv 0) (pa_cons (pe_glob (v := .ref (C 0)) (by rfl) G.n0 rfl) pa_nil))) (pa_cons (pe_callB (call_isP Z.exc hz hf (.head _)) (by rfl) mi (by decide +kernel) (pa_cons (pv 0) (pa_cons (pe_glob (v := .ref (C 1)) (by rfl) G.n1 rfl) pa_nil))) (pa_cons (pe_callB (call_isP Z.exc hz hf (.head _)) (by rfl) mi (by decide +kernel) (pa_cons (pv 0) (pa_cons (pe_glob (v := .ref (C 2)) (by rfl) G.n2 rfl) pa_nil))) (pa_cons (pe_callB (call_isP Z.exc hz hf (.head _)) (by rfl) mi (by decide +kernel) (pa_cons (pv 0) (pa_cons (pe_glob (v := .ref (C 3)) (by rfl) G.n3 rfl) pa_nil))) pa_nil)))))) (pss_cons (ps_set (i := 1) scKindOf.nd rfl (.inl rfl) (pe_op op_cat (pv 1) (pe_lst (pa_cons (pe_callB (call_isP Z.exc hz hf (.head _)) (by rfl) mi (by decide +kernel) (pa_cons (pv 0) (pa_cons (pe_glob (v := .ref (C 4)) (by rfl) G.n4 rfl) pa_nil))) (pa_cons (pe_callB (call_isP Z.exc hz hf (.head _)) (by rfl) mi (by decide +kernel) (pa_cons (pv 0) (pa_cons (pe_glob (v := .ref (C 5)) (by rfl) G.n5 rfl) pa_nil))) (pa_cons (pe_callB (call_isP Z.exc hz hf (.head _)) (by rfl) mi (by decide +kernel) (pa_cons (pv 0) (pa_cons (pe_glob (v := .ref (C 6)) (by rfl) G.n6 rfl) pa_nil))) (pa_cons (pe_callB (call_isP Z.exc hz hf (.head _)) (by rfl) mi (by decide +kernel) (pa_cons (pv 0) (pa_cons (pe_glob (v := .ref (C 7)) (by rfl) G.n7 rfl) pa_nil))) pa_nil))))))) (pss_cons (ps_set (i := 1) scKindOf.nd rfl (.inl rfl) (pe_op op_cat (pv 1) (pe_lst (pa_cons (pe_callB (call_isP Z.exc hz hf (.head _)) (by rfl) mi (by decide +kernel) (pa_cons (pv 0) (pa_cons (pe_glob (v := .ref (C 8)) (by rfl) G.n8 rfl) pa_nil))) (pa_cons (pe_callB (call_isP Z.exc hz hf (.head _)) (by rfl) mi (by decide +kernel) (pa_cons (pv 0) (pa_cons (pe_glob (v := .ref (C 9)) (by rfl) G.n9 rfl) pa_nil))) (pa_cons (pe_callB (call_isP Z.exc hz hf (.head _)) (by rfl) mi (by decide +kernel) (pa_cons (pv 0) (pa_cons (pe_glob (v := .ref (C 10)) (by rfl) G.n10 rfl) pa_nil))) (pa_cons (pe_callB (call_isP Z.exc hz hf (.head _)) (by rfl) mi (by decide +kernel) (pa_cons (pv 0) (pa_cons (pe_glob (v := .ref (C 11)) (by rfl) G.n11 rfl) pa_nil))) pa_nil))))))) (pss_cons (ps_expr (pe_bm PySem.F.plainAttrs_list PySem.F.slot_list_append PySem.F.type_list_append mt_append (pv 1) (pa_cons (pe_callB (call_isP Z.exc hz hf (.head _)) (by rfl) mi (by decide +kernel) (pa_cons (pv 0) (pa_cons (pe_glob (v := .ref (C 12)) (by rfl) G.n12 rfl) pa_nil))) pa_nil))) (pss_cons (ps_if (PW.pt (pw_or (pt_not (pt_val (pe_callB (call_isP Z.exc hz hf (.head _)) (by rfl) mi (by decide +kernel) (pa_cons (pv 0) (pa_cons (pe_bltn (v := .ty "ValueError") (by rfl) mv (by decide +kernel) rfl) pa_nil))))) (pw_or1 (pt_cmpR op_ne (pe_bm PySem.F.plainAttrs_list PySem.F.slot_list_count PySem.F.type_list_count (mt_countD hu) (pv 1) (pa_cons pe_bl pa_nil)) pe_int (nomark _))))) (pss_one (ps_ret pe_str)) pss_nil) (pss_cons (ps_if (pt_val (pe_ix ix_list (pv 1) pe_int (fun _ _ => rfl))) (pss_one ps_never) pss_nil) (pss_cons (ps_set (i := 2) scKindOf.nd rfl (.inl rfl) (pe_lst (pa_cons pe_str (pa_cons pe_str (pa_cons pe_str (pa_cons pe_str (pa_cons pe_str (pa_cons pe_str (pa_cons pe_str (pa_cons pe_str (pa_cons pe_str (pa_cons pe_str (pa_cons pe_str (pa_cons pe_str pa_nil)))))))))))))) (pss_one (ps_ret (pe_ix ix_list (pv 2) (pe_bm PySem.F.plainAttrs_list PySem.F.slot_list_index PySem.F.type_list_index (mt_indexD hu) (pv 1) (pa_cons pe_bl pa_nil)) (fun _ _ => rfl))))))))))), ?_⟩
  have c4 : (4 : Nat) ≤ sizeLine := by decide
  refine ⟨.ref a, rfl, _, _, _, rfl, fun _ r => r, Z.kit 0 (by decide), ⟨.ref a, rfl, _, _, _, rfl, fun _ r => r, Z.kit 1 (by decide), ⟨.ref a, rfl, _, _, _, rfl, fun _ r => r, Z.kit 2 (by decide), ⟨.ref a, rfl, _, _, _, rfl, fun _ r => r, Z.kit 3 (by decide), ⟨c4, fun l1 n1 => ?_⟩⟩⟩⟩⟩
  have e1 : Ext Ps H (upd H l1 (.lst [.bl (decide (0 = i)), .bl (decide (1 = i)), .bl (decide (2 = i)), .bl (decide (3 = i))])) := Ext.new ht n1
  have h1 : (upd H l1 (.lst [.bl (decide (0 = i)), .bl (decide (1 = i)), .bl (decide (2 = i)), .bl (decide (3 = i))])) l1 = some (.lst [.bl (decide (0 = i)), .bl (decide (1 = i)), .bl (decide (2 = i)), .bl (decide (3 = i))]) := upd_same
  generalize upd H l1 (.lst [.bl (decide (0 = i)), .bl (decide (1 = i)), .bl (decide (2 = i)), .bl (decide (3 = i))]) = H1 at *
  refine ⟨.ref l1, rfl, ⟨.ref a, rfl, _, _, _, rfl, fun _ r => r, Z.kit 4 (by decide), ⟨.ref a, rfl, _, _, _, rfl, fun _ r => r, Z.kit 5 (by decide), ⟨.ref a, rfl, _, _, _, rfl, fun _ r => r, Z.kit 6 (by decide), ⟨.ref a, rfl, _, _, _, rfl, fun _ r => r, Z.kit 7 (by decide), ⟨c4, fun p2 np2 => ?_⟩⟩⟩⟩⟩⟩
  have f2 := Ext.new (o := .lst [.bl (decide (4 = i)), .bl (decide (5 = i)), .bl (decide (6 = i)), .bl (decide (7 = i))]) e1.tb np2
  refine ⟨l1, p2, _, _, rfl, rfl, f2.lst h1, upd_same, Nat.le_of_lt (small1000 (by show 4 + 4 ≤ 1000; decide)), fun l2 n2 => ?_⟩
  have e2 : Ext Ps H (upd (upd H1 p2 (.lst [.bl (decide (4 = i)), .bl (decide (5 = i)), .bl (decide (6 = i)), .bl (decide (7 = i))])) l2 (.lst ([.bl (decide (0 = i)), .bl (decide (1 = i)), .bl (decide (2 = i)), .bl (decide (3 = i))] ++ [.bl (decide (4 = i)), .bl (decide (5 = i)), .bl (decide (6 = i)), .bl (decide (7 = i))]))) := (e1.trans f2).trans (Ext.new f2.tb n2)
  have h2 : (upd (upd H1 p2 (.lst [.bl (decide (4 = i)), .bl (decide (5 = i)), .bl (decide (6 = i)), .bl (decide (7 = i))])) l2 (.lst ([.bl (decide (0 = i)), .bl (decide (1 = i)), .bl (decide (2 = i)), .bl (decide (3 = i))] ++ [.bl (decide (4 = i)), .bl (decide (5 = i)), .bl (decide (6 = i)), .bl (decide (7 = i))]))) l2 = some (.lst [.bl (decide (0 = i)), .bl (decide (1 = i)), .bl (decide (2 = i)), .bl (decide (3 = i)), .bl (decide (4 = i)), .bl (decide (5 = i)), .bl (decide (6 = i)), .bl (decide (7 = i))]) := upd_same
  have m2 : H l2 = none := (e1.trans f2).free n2
  generalize upd (upd H1 p2 (.lst [.bl (decide (4 = i)), .bl (decide (5 = i)), .bl (decide (6 = i)), .bl (decide (7 = i))])) l2 (.lst ([.bl (decide (0 = i)), .bl (decide (1 = i)), .bl (decide (2 = i)), .bl (decide (3 = i))] ++ [.bl (decide (4 = i)), .bl (decide (5 = i)), .bl (decide (6 = i)), .bl (decide (7 = i))])) = H2 at *
  refine ⟨.ref l2, rfl, ⟨.ref a, rfl, _, _, _, rfl, fun _ r => r, Z.kit 8 (by decide), ⟨.ref a, rfl, _, _, _, rfl, fun _ r => r, Z.kit 9 (by decide), ⟨.ref a, rfl, _, _, _, rfl, fun _ r => r, Z.kit 10 (by decide), ⟨.ref a, rfl, _, _, _, rfl, fun _ r => r, Z.kit 11 (by decide), ⟨c4, fun p3 np3 => ?_⟩⟩⟩⟩⟩⟩
  have f3 := Ext.new (o := .lst [.bl (decide (8 = i)), .bl (decide (9 = i)), .bl (decide (10 = i)), .bl (decide (11 = i))]) e2.tb np3
  refine ⟨l2, p3, _, _, rfl, rfl, f3.lst h2, upd_same, Nat.le_of_lt (small1000 (by show 8 + 4 ≤ 1000; decide)), fun l3 n3 => ?_⟩
  have e3 : Ext Ps H (upd (upd H2 p3 (.lst [.bl (decide (8 = i)), .bl (decide (9 = i)), .bl (decide (10 = i)), .bl (decide (11 = i))])) l3 (.lst ([.bl (decide (0 = i)), .bl (decide (1 = i)), .bl (decide (2 = i)), .bl (decide (3 = i)), .bl (decide (4 = i)), .bl (decide (5 = i)), .bl (decide (6 = i)), .bl (decide (7 = i))] ++ [.bl (decide (8 = i)), .bl (decide (9 = i)), .bl (decide (10 = i)), .bl (decide (11 = i))]))) := (e2.trans f3).trans (Ext.new f3.tb n3)
  have h3 : (upd (upd H2 p3 (.lst [.bl (decide (8 = i)), .bl (decide (9 = i)), .bl (decide (10 = i)), .bl (decide (11 = i))])) l3 (.lst ([.bl (decide (0 = i)), .bl (decide (1 = i)), .bl (decide (2 = i)), .bl (decide (3 = i)), .bl (decide (4 = i)), .bl (decide (5 = i)), .bl (decide (6 = i)), .bl (decide (7 = i))] ++ [.bl (decide (8 = i)), .bl (decide (9 = i)), .bl (decide (10 = i)), .bl (decide (11 = i))]))) l3 = some (.lst [.bl (decide (0 = i)), .bl (decide (1 = i)), .bl (decide (2 = i)), .bl (decide (3 = i)), .bl (decide (4 = i)), .bl (decide (5 = i)), .bl (decide (6 = i)), .bl (decide (7 = i)), .bl (decide (8 = i)), .bl (decide (9 = i)), .bl (decide (10 = i)), .bl (decide (11 = i))]) := upd_same
  have m3 : H l3 = none := (e2.trans f3).free n3
  generalize upd (upd H2 p3 (.lst [.bl (decide (8 = i)), .bl (decide (9 = i)), .bl (decide (10 = i)), .bl (decide (11 = i))])) l3 (.lst ([.bl (decide (0 = i)), .bl (decide (1 = i)), .bl (decide (2 = i)), .bl (decide (3 = i)), .bl (decide (4 = i)), .bl (decide (5 = i)), .bl (decide (6 = i)), .bl (decide (7 = i))] ++ [.bl (decide (8 = i)), .bl (decide (9 = i)), .bl (decide (10 = i)), .bl (decide (11 = i))])) = H3 at *
  refine ⟨.ref l3, rfl, .inl ⟨rfl, _, .inl (.inl h3)⟩, ⟨.ref a, rfl, _, _, _, rfl, fun _ r => r, Z.kit 12 (by decide), ⟨l3, _, _, rfl, rfl, h3, small1000 (by show 12 ≤ 1000; decide), ?_⟩⟩⟩
  have e5 : Ext Ps H (upd H3 l3 (.lst ([.bl (decide (0 = i)), .bl (decide (1 = i)), .bl (decide (2 = i)), .bl (decide (3 = i)), .bl (decide (4 = i)), .bl (decide (5 = i)), .bl (decide (6 = i)), .bl (decide (7 = i)), .bl (decide (8 = i)), .bl (decide (9 = i)), .bl (decide (10 = i)), .bl (decide (11 = i))] ++ [.bl (decide (12 = i))]))) := e3.write m3 h3 (fun q z => by cases z)
  have h5 : (upd H3 l3 (.lst ([.bl (decide (0 = i)), .bl (decide (1 = i)), .bl (decide (2 = i)), .bl (decide (3 = i)), .bl (decide (4 = i)), .bl (decide (5 = i)), .bl (decide (6 = i)), .bl (decide (7 = i)), .bl (decide (8 = i)), .bl (decide (9 = i)), .bl (decide (10 = i)), .bl (decide (11 = i))] ++ [.bl (decide (12 = i))]))) l3 = some (.lst ((boolsAt i).map V.bl)) := upd_same
  generalize upd H3 l3 (.lst ([.bl (decide (0 = i)), .bl (decide (1 = i)), .bl (decide (2 = i)), .bl (decide (3 = i)), .bl (decide (4 = i)), .bl (decide (5 = i)), .bl (decide (6 = i)), .bl (decide (7 = i)), .bl (decide (8 = i)), .bl (decide (9 = i)), .bl (decide (10 = i)), .bl (decide (11 = i))] ++ [.bl (decide (12 = i))])) = H5 at *
  -- one of them
  have hD : Dp X.K H5 (.ref l3) (.list ((boolsAt i).map PyData.bool)) := .lst (.inl (.inl h5)) (bools_dp _)
  obtain ⟨p1, p2, p3⟩ := bools_plain (boolsAt i)
  refine ⟨.ref a, rfl, _, _, true, rfl, fun u r => r, Z.ve, true, rfl, iteF ?_⟩
  refine ⟨.ref l3, rfl, .inl ⟨rfl, _, .inl (.inl h5)⟩, l3, .bl true, .bool true, _, rfl, rfl, hD, .bl true, p1, by simp [PyData.plain], by simp [PyData.depth], rfl, false, ?_, iteF ?_⟩
  · rw [bools_count i Z.lt]
    simp
  refine ⟨.ref l3, rfl, l3, _, 12, .bl (decide (12 = i)), rfl, rfl, .inl (.inl h5), atI_nat (j := 12) (by unfold boolsAt; rw [List.getElem?_map, List.getElem?_map]; rfl), false, ?_, iteF ?_⟩
  · have := Z.lt
    rw [decide_eq_false (show ¬ 12 = i by omega)]
  -- the word
  refine ⟨Nat.le_of_lt (small1000 (by show 12 ≤ 1000; decide)), fun w3 nw3 => ⟨.ref w3, rfl, ?_⟩⟩
  have e58 := Ext.new (o := .lst [.str "stack", .str "number", .str "part", .str "lot", .str "row", .str "order", .str "names", .str "rim", .str "taking", .str "text", .str "line", .str "deed"]) e5.tb nw3
  have sh : SeqAt.shaped (.list ((boolsAt i).map PyData.bool)) = true := by
    unfold SeqAt.shaped
    rw [PyData.canLay0, p2, PyData.depth, p3]
    rfl
  refine ⟨.ref l3, rfl, .inl ⟨rfl, _, .inl (.inl (e58.lst h5))⟩, l3, .bl true, .bool true, _, i, .bool (decide (i = i)), rfl, rfl, e58.dp hD, .bl true, sh, rfl, bools_at (by have := Z.lt; omega), by simp [PyData.eqv], fun m z' hm hz => ?_, ?_⟩
  · rw [bools_at (by have := Z.lt; omega)] at hz
    cases hz
    rw [decide_eq_false (by omega)]
    exact eqv_bools.2
  refine ⟨w3, _, (i : Int), .str (wordOf i), rfl, rfl, .inl (.inl upd_same), ?_, q _ (e5.trans e58)⟩
  refine atI_nat ?_
  have z : ∀ i : Nat, i < 12 → ((words.map V.str)[i]? = some (V.str (wordOf i))) := fun i hi => by
    rw [List.getElem?_map]
    unfold wordOf
    rw [List.getD_eq_getElem?_getD, List.getElem?_eq_getElem (show i < words.length from hi)]
    rfl
  exact z i Z.lt
end
end Lf

set_option maxHeartbeats 4000000
namespace Lf
open PySem PySem.Spec PyProof.Rows L2 GxR GxA SrT
section
variable {P : Program} {w : World} {K : PySem.W.Frag} {mg : Str → Option Value} {base : Heap} {Ps : Tbs} {H H' H0 : Hp} {k : Nat} {f c : Addr} {fd : FuncData}
def spNoNum2 (K : PySem.W.Frag) (Ps : Tbs) : Sp := fun vs H Q _ => ∃ (a : Addr) (lo hi : Int), vs = [.ref a, .int lo, .int hi] ∧ Pen H a ∧ 0 ≤ lo ∧ lo ≤ hi ∧ hi ≤ 1000 ∧ Tb Ps H ∧ ∀ v d H', Epn Ps a H H' → ThF K H' (fun b => H b = none) v d → intIn d lo hi = false → Q v H'
end
end Lf

set_option maxHeartbeats 4000000
namespace Lf
open PySem PySem.Spec PyProof.Rows L2 GxR GxA SrT
/-! ### the two looks are one -/
theorem len_filter_all {α : Type} (p : α → Bool) : ∀ l : List α, decide ((l.filter p).length = l.length) = l.all p
  | [] => rfl
  | x :: l => by
    have ih := len_filter_all p l
    have hle : (l.filter p).length ≤ l.length := List.length_filter_le _ _
    rw [List.filter_cons, List.all_cons]
    cases hx : p x with
    | true =>
      rw [if_pos rfl, List.length_cons, List.length_cons, Bool.true_and, ← ih]
      congr 1
      exact propext ⟨fun h => by omega, fun h => by omega⟩
    | false =>
      rw [if_neg (by decide), List.length_cons, Bool.false_and]
      exact decide_eq_false (by omega)
theorem restF_less (fc : List Int) (p : Int) : restF fc p = lessL fc [p] := by
  unfold restF lessL
  congr 1
  funext z
  simp
theorem rests_eq (fc : List Int) (p : Int) (os : List (List Int)) : restsB fc p os = inSome (lessL fc [p]) os := by
  unfold restsB inSome
  rw [restF_less]
  have e : (fun o : List Int => decide ((comL (lessL fc [p]) o).length = (lessL fc [p]).length)) = fun o => hasAll o (lessL fc [p]) := by
    funext o
    exact len_filter_all (fun q => decide (q ∈ o)) _
  rw [e]
  generalize (fun o => hasAll o (lessL fc [p])) = P
  induction os with
  | nil => rfl
  | cons o os ih =>
    rw [List.filter_cons, List.any_cons, ← ih]
    cases P o <;> simp
theorem takes_eq (fss : List (List Int)) (p : Int) : takesB fss p = comesB fss p := by
  unfold takesB comesB arF
  rw [len_filter_all, List.all_map]
  have e : (fun g => restsB g p (lackL fss p)) = (fun g => inSome g (lackL fss p)) ∘ fun g => lessL g [p] := by
    funext g
    exact rests_eq g p _
  rw [e]
  generalize (fss.filter fun g => decide (p ∈ g)) = hs
  cases hs with
  | nil => rfl
  | cons g gs =>
    cases hk : lackL fss p with
    | nil => simp [inSome]
    | cons o os => simp
/-! ### a stack can be shown -/
theorem el_tD {f : List Int} (h4 : f.length ≤ 4) (h : ∀ i ∈ f, i.natAbs < 1000000) : PyData.showable (tD f) = true ∧ PyData.leavesShort 13 (tD f) = true ∧ PyData.weight (tD f) ≤ 300 ∧ PyData.hasDict (tD f) = false := by
  have z := el_ints h
  refine ⟨showAll z, leafAll z, ?_, noDict_ints f⟩
  have w := wtAll z
  have hl : (iD f).length = f.length := List.length_map ..
  show PyData.weightAll (iD f) ≤ 300
  omega
theorem rp_stk {n k : Int} {fss : List (List Int)} (S : StkOk n k fss) : RpOk (stkD n k fss) := by
  have n1 := S.n1
  have n8 := S.n8
  have k0 := S.k0
  have k4 := S.k4
  have hf : ∀ f ∈ fss, PyData.showable (tD f) = true ∧ PyData.leavesShort 13 (tD f) = true ∧ PyData.weight (tD f) ≤ 300 ∧ PyData.hasDict (tD f) = false := fun f hf => el_tD (S.len4 f hf) fun i hi => by
    have := S.bel f hf i hi
    omega
  have l70 := S.l70
  have hA : PyData.showableAll (fss.map tD) = true ∧ PyData.leavesShortAll 13 (fss.map tD) = true ∧ PyData.weightAll (fss.map tD) ≤ 301 * fss.length ∧ PyData.hasDictAll (fss.map tD) = false := by
    clear l70
    clear S
    induction fss with
    | nil => exact ⟨rfl, rfl, by simp [PyData.weightAll], rfl⟩
    | cons f fss ih =>
      obtain ⟨a1, a2, a3, a4⟩ := hf f List.mem_cons_self
      obtain ⟨b1, b2, b3, b4⟩ := ih fun g hg => hf g (List.mem_cons_of_mem _ hg)
      rw [List.map_cons, PyData.showableAll, PyData.leavesShortAll, PyData.weightAll, PyData.hasDictAll, a1, a2, a4, b1, b2, b4, List.length_cons]
      exact ⟨rfl, rfl, by omega, rfl⟩
  obtain ⟨b1, b2, b3, b4⟩ := hA
  have en := el_int (i := n) (by omega)
  have ek := el_int (i := k) (by omega)
  refine ⟨(fun i z => by cases z), (fun x z => by cases z), ?_, PyData.shown_fits (B := 13) (by decide) (by decide) (d := stkD n k fss) ?_ ?_, ?_, fun z => ?_⟩
  · show (PyData.showable (.int n) && (PyData.showable (.int k) && (PyData.showableAll (fss.map tD) && true))) = true
    rw [en.sh, ek.sh, b1]
    rfl
  · show (PyData.leavesShort 13 (.int n) && (PyData.leavesShort 13 (.int k) && (PyData.leavesShortAll 13 (fss.map tD) && true))) = true
    rw [en.lv, ek.lv, b2]
    rfl
  · have e : (2 : Nat) ^ 20 = 1048576 := by decide
    have w1 := en.wt
    have w2 := ek.wt
    unfold stkD
    simp only [PyData.weight, PyData.weightAll] at *
    omega
  · have := S.data.2.2
    omega
  · have z' : (PyData.hasDict (.int n) || (PyData.hasDict (.int k) || (PyData.hasDictAll (fss.map tD) || false))) = true := z
    rw [b4] at z'
    cases z'
theorem StkOk.last {n k : Int} {fss : List (List Int)} (S : StkOk n k fss) : StkOk n k (fss.drop (fss.length - 1)) := by
  have l1 := S.l1
  have l70 := S.l70
  have hm : ∀ f ∈ fss.drop (fss.length - 1), f ∈ fss := fun f hf => List.mem_of_mem_drop hf
  exact ⟨S.n1, S.n8, S.k0, S.kn, S.k4, by rw [List.length_drop]; omega, by rw [List.length_drop]; omega, fun f hf => S.len f (hm f hf), fun f hf => S.ris f (hm f hf), fun f hf => S.bel f (hm f hf), S.srt.sublist (List.drop_sublist _ _)⟩
/-! ### _law_came -/
abbrev sCame70 : Stmt := topS 66
theorem scCame70 : FnScope ["_law_one", "_law_other", "_law_order", "_law_another"] ["_law_one", "_law_other", "_law_order"] (defScope sCame70) := ⟨rfl, rfl, rfl, by decide +kernel, rfl, by decide +kernel, by decide +kernel⟩
section
variable {P : Program} {w : World} {K : PySem.W.Frag} {mg : Str → Option Value} {base : Heap} {Ps : Tbs} {H H' H0 : Hp} {k : Nat} {f c : Addr} {fd : FuncData}
variable {C : Nat → Addr} {CY CS CN : Addr}
/-- what a refusal comes to -/
def KE (K : PySem.W.Frag) (C : Nat → Addr) (CY : Addr) (Ps : Tbs) (Q : VK) : XK := fun cls dx H => dx = none ∧ ∃ i D, cls = .ref D ∧ Kind K C CY i D ∧ Tb Ps H ∧ ∀ H2, Ext Ps H H2 → Q (.str (wordOf i)) H2
theorem KE.at_ {Q : VK} {i : Nat} {D : Addr} (Z : Kind K C CY i D) (ht : Tb Ps H) (h : ∀ H2, Ext Ps H H2 → Q (.str (wordOf i)) H2) : KE K C CY Ps Q (.ref D) none H := ⟨rfl, i, D, rfl, Z, ht, h⟩
def spMayTake2 (K : PySem.W.Frag) (Ps : Tbs) (CS CN : Addr) : Sp := fun vs H Q E => spMayTake K Ps vs H Q E ∨ spMayTakeX K Ps CS CN vs H Q E
def spTakable2 (K : PySem.W.Frag) (Ps : Tbs) (CS : Addr) : Sp := fun vs H Q E => spTakable K Ps vs H Q E ∨ spTakableX K Ps CS vs H Q E
def Came70 (K : PySem.W.Frag) (Ps : Tbs) (CS CN : Addr) (wy : Int) (x y : V) (H : Hp) (Q : VK) (E : XK) : Prop := (wy = 0 → spMayTake2 K Ps CS CN [x, y] H Q E) ∧ (wy ≠ 0 → spTakable2 K Ps CS [x] H Q E)
def spCame70 (K : PySem.W.Frag) (Ps : Tbs) (C : Nat → Addr) (CY CS CN : Addr) : Sp := fun vs H Q _ => ∃ (wy : Int) (x y : V), vs = [.int wy, x, y] ∧ Came70 K Ps CS CN wy x y H Q (KE K C CY Ps Q)
end
end Lf

set_option maxHeartbeats 4000000
namespace Lf
open PySem PySem.Spec PyProof.Rows L2 GxR GxA SrT
/-! ### repr of things with lists and dicts -/
section
variable {X : Cx} {H : Hp} {pins : List (Addr × Obj)} {σ : L2.St} {s : Shared} {F : Addr → Prop}
mutual
theorem ThF.reads2 (I : L2.Inv X pins σ H s) (hm : ∀ a, F a → sysModules ≠ a) : ∀ (d : PyData) (v : V) (u : Value), ThF X.K H F v d → RelV v u → ∃ as, Reads s.heap u d as ∧ sysModules ∉ as
  | .none, _, _, h, r => by
    cases h
    cases r
    exact ⟨_, Reads.none, fun z => nomatch z⟩
  | .bool b, _, _, h, r => by
    cases h
    cases r
    exact ⟨_, Reads.bool b, fun z => nomatch z⟩
  | .int i, _, _, h, r => by
    cases h
    obtain ⟨t, rfl⟩ := r
    exact ⟨_, Reads.int i t, fun z => nomatch z⟩
  | .str x, _, _, h, r => by
    cases h
    obtain ⟨t, rfl⟩ := r
    exact ⟨_, Reads.str x t, fun z => nomatch z⟩
  | .list ds, _, _, h, r => by
    cases h with
    | lst hf hs ha =>
      cases r
      obtain ⟨its, rv, ⟨o, n, ho, hc, _, hd⟩, _⟩ := I.list hs
      obtain ⟨as, hr, hn⟩ := ThAllF.reads2 I hm ds _ its ha rv
      exact ⟨_, Reads.list ho hc hd hr, fun z => (List.mem_cons.mp z).elim (hm _ hf) hn⟩
  | .tuple ds, _, _, h, r => by
    cases h with
    | tup hs ha =>
      cases r
      obtain ⟨its, rv, ⟨o, ho, hc, n, hd⟩, _⟩ := I.tuple hs
      obtain ⟨as, hr, hn⟩ := ThAllF.reads2 I hm ds _ its ha rv
      exact ⟨_, Reads.tuple ho hc hd hr, hn⟩
  | .dict kvs, v, u, h, r => by
    obtain ⟨as, h1, h2⟩ := ThF.reads I (.dict kvs) v u h r
    exact ⟨as, h1, h2 rfl⟩
theorem ThAllF.reads2 (I : L2.Inv X pins σ H s) (hm : ∀ a, F a → sysModules ≠ a) : ∀ (ds : List PyData) (vs : List V) (us : List Value), ThAllF X.K H F vs ds → Vals vs us → ∃ as, ReadsAll s.heap us ds as ∧ sysModules ∉ as
  | [], _, _, h, r => by
    cases h
    cases r
    exact ⟨_, .nil, fun z => nomatch z⟩
  | d :: ds, _, _, h, r => by
    cases h with
    | cons h1 h2 =>
      cases r with
      | cons r1 r2 =>
        obtain ⟨as, a1, a2⟩ := ThF.reads2 I hm d _ _ h1 r1
        obtain ⟨bs, b1, b2⟩ := ThAllF.reads2 I hm ds _ _ h2 r2
        exact ⟨_, .cons a1 b1, fun m => (List.mem_append.mp m).elim a2 b2⟩
end
end
/-- that it can be shown: how great, how deep -/
structure Shw (W D : Nat) (d : PyData) : Prop where
  sh : d.showable = true
  lv : d.leavesShort 40 = true
  wt : d.weight ≤ W
  dp : d.depth ≤ D
structure ShwA (W D : Nat) (ds : List PyData) : Prop where
  sh : PyData.showableAll ds = true
  lv : PyData.leavesShortAll 40 ds = true
  wt : PyData.weightAll ds ≤ W
  dp : PyData.depthAll ds ≤ D
theorem ShwA.nil {W D : Nat} : ShwA W D [] := ⟨rfl, rfl, Nat.zero_le _, Nat.zero_le _⟩
theorem ShwA.cons {W1 W2 W D : Nat} {d : PyData} {ds : List PyData} (h1 : Shw W1 D d) (h2 : ShwA W2 D ds) (hw : W1 + 1 + W2 ≤ W) : ShwA W D (d :: ds) := by
  have a := h1.wt
  have b := h2.wt
  have p := h1.dp
  have q := h2.dp
  refine ⟨by rw [PyData.showableAll, h1.sh, h2.sh]; rfl, by rw [PyData.leavesShortAll, h1.lv, h2.lv]; rfl, ?_, ?_⟩
  · rw [PyData.weightAll]
    omega
  · simp only [PyData.depthAll]
    omega
theorem ShwA.list {W D : Nat} {ds : List PyData} (h : ShwA W D ds) : Shw W (D + 1) (.list ds) := ⟨h.sh, h.lv, h.wt, by have := h.dp; simp only [PyData.depth]; omega⟩
theorem ShwA.tuple {W D : Nat} {ds : List PyData} (h : ShwA W D ds) : Shw W (D + 1) (.tuple ds) := ⟨h.sh, h.lv, h.wt, by have := h.dp; simp only [PyData.depth]; omega⟩
theorem Shw.mono {W D W' D' : Nat} {d : PyData} (h : Shw W D d) (hw : W ≤ W') (hd : D ≤ D') : Shw W' D' d := ⟨h.sh, h.lv, Nat.le_trans h.wt hw, Nat.le_trans h.dp hd⟩
theorem shwA_of {W D : Nat} {ds : List PyData} (h : ∀ e ∈ ds, Shw W D e) : ShwA ((W + 1) * ds.length) D ds := by
  induction ds with
  | nil => exact .nil
  | cons e ds ih =>
    refine .cons (h e List.mem_cons_self) (ih fun x hx => h x (List.mem_cons_of_mem _ hx)) ?_
    rw [List.length_cons, Nat.mul_succ]
    omega
theorem shw_int {i : Int} (h : i.natAbs < 1000000) : Shw 60 2 (.int i) := ⟨(el_int h).sh, short_int h, (el_int h).wt, (el_int h).dp⟩
theorem shw_tD {ns : List Int} (h : ∀ i ∈ ns, i.natAbs < 1000000) : Shw (61 * ns.length) 3 (tD ns) := by
  have z := (shwA_of (ds := iD ns) (W := 60) (D := 2) fun e he => by
    obtain ⟨i, hi, rfl⟩ := List.mem_map.mp he
    exact shw_int (h i hi)).tuple
  rw [show (iD ns).length = ns.length from List.length_map ..] at z
  exact z
theorem shw_stk {n k : Int} {fss : List (List Int)} (S : StkOk n k fss) : Shw (246 * fss.length + 200) 5 (stkD n k fss) := by
  have n1 := S.n1
  have n8 := S.n8
  have k0 := S.k0
  have k4 := S.k4
  have hf : ∀ e ∈ fss.map tD, Shw 244 3 e := fun e he => by
    obtain ⟨f, hf, rfl⟩ := List.mem_map.mp he
    have l4 := S.len4 f hf
    exact (shw_tD fun i hi => by have := S.bel f hf i hi; omega).mono (by omega) (Nat.le_refl _)
  have z := (shwA_of hf).tuple
  rw [List.length_map] at z
  exact (ShwA.cons ((shw_int (i := n) (by omega)).mono (W' := 60) (D' := 4) (by decide) (by decide)) (ShwA.cons ((shw_int (i := k) (by omega)).mono (W' := 60) (D' := 4) (by decide) (by decide)) (ShwA.cons (W2 := 0) z .nil (Nat.le_refl _)) (Nat.le_refl _)) (by omega)).tuple
/-- what repr wants -/
structure Rp2 (d : PyData) : Prop where
  sh : d.showable = true
  sz : d.shown.length ≤ sizeLine
  dp : d.depth + 1 ≤ 60
theorem Shw.rp2 {W D : Nat} {d : PyData} (h : Shw W D d) (hw : W ≤ 350000) (hd : D ≤ 50) : Rp2 d := ⟨h.sh, fits40 h.lv (Nat.le_trans h.wt hw), by have := h.dp; omega⟩
def rRepr2 (K : PySem.W.Frag) : List V → Hp → VK → Prop := fun vs H Q => ∃ (F : Addr → Prop) (l : Addr) (xs : List V) (ds : List PyData), vs = [.ref l] ∧ sysModules ≠ l ∧ SqL K H l xs ∧ ThAllF K H F xs ds ∧ (PyData.hasDictAll ds = true → noLists ds = true ∨ ∀ a, F a → sysModules ≠ a) ∧ Rp2 (.list ds) ∧ Q (.str (PyData.list ds).shown) H
/-- of a list of anything -/
theorem cr_repr2 {X : Cx} (gd : X.A.guards = some []) (hu : X.A.units + 64 < cLine) : CallR X (.builtin "repr") (rRepr2 X.K) := fun pins s σ H vs us Q I r h => by
  obtain ⟨F, l, xs, ds, rfl, hl, hs, ha, hmix, ok, q⟩ := h
  have hdp := ok.dp
  cases r with
  | cons r1 r2 =>
    cases r2
    cases r1
    obtain ⟨its, rv, ⟨o, n, ho, hc, _, hd⟩, _⟩ := I.list hs
    obtain ⟨as, hr, hn⟩ : ∃ as, ReadsAll s.heap its ds as ∧ (PyData.hasDictAll ds = true → sysModules ∉ as) := by
      obtain ⟨as, a1, a2⟩ := ThAllF.reads I ds _ its ha rv
      by_cases hm : ∀ a, F a → sysModules ≠ a
      · obtain ⟨bs, b1, b2⟩ := ThAllF.reads2 I hm ds _ its ha rv
        exact ⟨bs, b1, fun _ => b2⟩
      · exact ⟨as, a1, fun z => a2 ((hmix z).resolve_right hm)⟩
    exact repr_of_reads' (Reads.list ho hc hd hr) ok.sh (fun z m => (List.mem_cons.mp m).elim hl (hn z)) gd (by omega) (fun _ _ e => e) (fun h' u tk hk => ⟨.str _, H, I.kept hk, ⟨_, rfl⟩, q⟩) ok.sz
/-- a list just laid, elsewhere than the modules -/
def tLstN (t : TA) : TE := fun σ H Q => t σ H fun xs H1 => xs.length ≤ sizeLine ∧ ∀ p, H1 p = none → sysModules ≠ p → Q (.ref p) (upd H1 p (.lst xs))
theorem pe_lstN {X : Cx} {es : List Expr} {t : TA} {pos : Pos} (h : PA X es t) : PE X (.List es pos) (tLstN t) :=
  ⟨fun pins s σ H Q I hq => wpAny_List_spliced (thn (h.run pos pins s σ H _ I hq) fun us s1 ⟨xs, H1, I1, r, z, q⟩ => ⟨by rw [← r.length]; exact z, .ref s1.heap.objs.size, upd H1 s1.heap.objs.size (.lst xs),
    I1.laid (t' := s1.toks) (fun b u e => Heap.get?_push_of_some _ e) (Nat.le_refl _) ⟨z, us, 0, r, Heap.get?_push_size _ rfl⟩, rfl, q _ (I1.hok.fresh (Nat.le_refl _)) (Nat.ne_of_lt I1.big)⟩)⟩
end Lf

set_option maxHeartbeats 4000000
namespace Lf
open PySem PySem.Spec PyProof.Rows L2 GxR GxA SrT
/-! ### the class TooGreat, its own __init__ -/
def clsBody : Stmt → List Stmt
  | .ClassDef _ _ _ b _ _ _ _ _ _ _ => b
  | _ => []
abbrev sIni : Stmt := (clsBody (topS 14)).getD 0 (.Pass ⟨0, 0, 0, 0⟩)
abbrev nIni : List Str := ["self", "many", "most", "__class__"]
theorem scIni : NdefX.NScope nIni ["self", "many", "most"] ["__class__"] (defScope sIni) := NdefX.nscope_by (by decide +kernel)
abbrev iniF (cI cc : Addr) : NdefX.NF := ⟨"__init__", "TooGreat.__init__", defArgs sIni, defBody sIni, defScope sIni, [("__class__", cc)], cI⟩
/-- what the written part says of the class -/
structure IniC (P : Program) (K : PySem.W.Frag) (mg : Str → Option Value) (C fI cI cc : Addr) (fd : FuncData) : Prop where
  oex : OexC K C
  cd : ∃ cd, PySem.W.clsIn K C = some cd ∧ PySem.W.alongIn K "__init__" ((cd.mro.dropWhile (· != .ref C)).drop 1) = some (some (.builtin "ValueError.__init__"))
  lk : ∃ oc od osl kV doc pm an ct, fd = PySem.W.fnX "__init__" "TooGreat.__init__" (defArgs sIni) (defBody sIni) (defScope sIni) [("__class__", cc)] .none kV doc pm an (.ref cI) ct ∧ K.lookup fI = some ⟨oc, od, .func fd, osl⟩
  code : PySem.W.codeIn K (.ref cI) "TooGreat.__init__" = true
  file : ∃ ccl cdd vs ccs fl tf, K.lookup cI = some ⟨ccl, cdd, .fields vs, ccs⟩ ∧ vs[2]? = some (.str fl tf) ∧ ((P.main.file : Str) == fl) = true
  cell : ∃ cl cld csl, K.lookup cc = some ⟨cl, cld, .cell (some (.ref C)), csl⟩
  sub : PySem.W.mroIn K C (.ref C) = some true
  subB : PySem.W.subIn K (.ref C) (.type "ValueError") = some true
  opq : PySem.W.nsIn K PySem.cStatics "thirdparty.any" = some none
  sup : mg "super" = none
  top : (P.main.scope.names.lookup ("super" : Str)).isSome = false
  no1 : PySem.W.findIn K (.ref C) "many" = some none
  no2 : PySem.W.findIn K (.ref C) "most" = some none
theorem str_len : ∀ i : Nat, i ≤ 100 → (toString ((i : Nat) : Int) : Str).length ≤ 5 := by decide +kernel
section
variable {P : Program} {w : World} {K : PySem.W.Frag} {mg : Str → Option Value} {base : Heap} {Ps : Tbs} {H H' H0 : Hp} {k : Nat} {f c : Addr} {fd : FuncData}
def spIni (C : Addr) : Sp := fun vs H Q _ => ∃ (a : Addr) (m M : Nat), vs = [.ref a, .int m, .int M] ∧ m ≤ 100 ∧ M ≤ 100 ∧ H a = some (exo a C none) ∧
  ∀ dx, H dx = none → dx ≠ a → Q .non (upd (upd (upd H dx (exd dx [("many", .int m)])) a (exo a C (some dx))) dx (exd dx [("most", .int M), ("many", .int m)]))
/-- super().__init__(text), in the body of that __init__ -/
theorem run_super {X : Cx} {C fI cI cc a so : Addr} {pins : List (Addr × Obj)} {σ : L2.St} {s : Shared} {es : List Expr} {e : Expr} {ta : TA} {pos : Pos} {pl : Sem Bool} {Q : Value → Shared → Prop} {oC : IniC X.prog X.K X.mg C fI cI cc fd} (I : Inv X pins σ H s) (ea : H a = some (exo a C none))
    (hso : s.heap.get? so = some (PySem.W.ks_superObj C a C)) (ha : PA X (e :: es) ta) (hq : ta σ H fun vs H1 => vs.length ≤ 1000 ∧ H1 = H) (fin : ∀ s' ps, Inv X ps σ H s' → Q .none s')
    (he : starEach (e :: es) X.env = (false, eval e X.env) :: starEach es X.env) (hpl : (backTo pos (starEach es X.env)).any (·.1) = false) :
    wpAny (model X.prog X.w) X.A (getMethod (.ref so) "__init__" pl) (fun fx s2 => wpAny (model X.prog X.w) X.A (callWith pos fx.1 fx.2 (backTo pos (starEach (e :: es) X.env)) []) Q X.xe s2) X.xe s := by
  obtain ⟨cd, hcd, hal⟩ := oC.cd
  obtain ⟨t1, hoe⟩ := exo_at I.hok ea
  have IA : PySem.W.InstAt s.heap a _ C none := ⟨hoe, rfl, rfl, trivial⟩
  obtain ⟨hp, g, d, t, os⟩ := s
  have hm : PySem.W.Looks (model X.prog X.w) hp (mroOf (.ref C)) cd.mro := (PySem.W.looks_clsIn I.kIn hcd).andThen .now
  refine PySem.W.kxs_getMethod PySem.W.kxs_ValueError hso (PySem.W.looks_opaque I.kIn oC.opq) hm rfl I.kIn hal (IA.type.andThen (PySem.W.looks_subIn I.kIn oC.subB)) (PySem.W.ks_ne I.kIn IA hcd) (by decide) ?_
  have up : ∀ b o, hp.get? b = some o → (hp.push (PySem.W.kxs_mw "ValueError.__init__" a)).get? b = some o := fun b o z => Heap.get?_push_of_some _ z
  have J := ClX.pin_new (t' := t + 1) I up (Nat.le_refl _) (Heap.get?_push_at rfl rfl) (fun v z => by cases z)
  rw [he]
  refine PySem.W.kxs_callWith (i := "ValueError.__init__") (x := a) (by show (false || (backTo pos (starEach es X.env)).any (·.1)) = false; rw [hpl]; rfl) (PySem.Calls.evalArgs_plain ?_)
  have hr := ha.run pos _ _ σ H _ J hq
  rw [he] at hr
  refine thn hr fun us s1 hv => ?_
  obtain ⟨vs, H1, I1, r1, hl, rfl⟩ := hv
  have hu := (I1.pin (hp.objs.size, PySem.W.kxs_mw "ValueError.__init__" a) (List.mem_append_right _ List.mem_cons_self)).1
  refine ⟨hu, ?_⟩
  obtain ⟨nm, q, N, bs, bm, sn, sub, ab, col, dd, k0, k1, k2, k3, k5, hC, hbm⟩ := oC.oex.cls
  obtain ⟨t2, hoe2⟩ := exo_at I1.hok ea
  obtain ⟨h1, g1, d1, tk1, os1⟩ := s1
  have KC := I1.kIn _ _ hC
  have FB := F.excBase_ValueError
  have ul : us.length ≤ sizeLine := by
    have z : sizeLine = 16777216 := sizeLine_eq
    have := Paired.length r1
    omega
  refine wpAny_call (codeAny_of_tree (show wpAny _ X.A.in1 (callAny (.ref hp.objs.size) ⟨us, []⟩) _ _ _ from ?_))
  rw [callAny]
  refine wpAny_bind (wpAny_load hu (PySem.W.KFB.if_so (show (Value.type "method-wrapper" == Value.type "method" || Value.type "method-wrapper" == Value.type "builtin_function_or_method" || Value.type "method-wrapper" == Value.type "method-wrapper") = true by decide) (wpAny_bind (PySem.W.check_bound_init FB.toExcCallFacts KC hoe2 rfl (wpAny_bind (wpAny_pure (wpAny_pure ⟨plainId_quiet FB.init.plain _, codeAny_builtin FB.initEntry ?_⟩)))))))
  refine PySem.W.exc_init_tree (cls := .ref C) (t0 := t2) (dv := none) (c2 := .none) (c3 := .none) (b4 := .bool false) hoe2 ul fun h2 k e2 _ => ?_
  have J2 := I1.write (t' := tk1) (x := a) (e := a) (o := exo a C none) (by rw [ea]; exact True.intro) (.inl rfl) k ⟨_, e2⟩ (exo_ok e2)
  have eu : upd H1 a (exo a C none) = H1 := by
    funext b
    by_cases hb : b = a
    · rw [hb, upd_same, ea]
    · rw [upd_ne hb]
  rw [eu] at J2
  exact fin _ _ J2
abbrev iniX (P : Program) (w : World) (K : PySem.W.Frag) (mg : Str → Option Value) (base : Heap) (fI cI cc : Addr) (A : Around) (outer : List Env) (s : Shared) (H : Hp) (E : XK) : Cx := NdefX.ncx CX0 P w K mg base nIni (iniF cI cc) fI A outer s H E
theorem ok_ini {C fI cI cc : Addr} (oC : IniC P K mg C fI cI cc fd) : FnOk P w K mg base CX0 1 fI fd ["self", "many", "most"] (spIni C) := by
  refine ⟨fun vs H Q E h => ?_, fun A outer s H args us vs Q E hr e0 hb r hsp => ?_⟩
  · obtain ⟨a, m, M, rfl, _⟩ := h
    rfl
  obtain ⟨a, m, M, rfl, hm, hM, ea, q⟩ := hsp
  obtain ⟨hp, g, d, t, os⟩ := s
  obtain ⟨oc, od, osl, kV, doc, pm, an, ct, rfl, lk⟩ := id oC.lk
  have KB := e0.mod.kin
  have KX : K.In hp := KB.keeps fun b o e => (e0.bs b o e).1
  have lim : hp.NoLimit := e0.mod.nolimit.keeps fun b o e => (e0.bs b o e).1
  obtain ⟨cl0, cld, csl, hcell⟩ := oC.cell
  have lc : ∀ {y : Str} {c : Addr}, ([("__class__", cc)] : List (Str × Addr)).lookup y = some c → y = "__class__" ∧ c = cc := fun {y c} e => by
    rw [List.lookup_cons] at e
    split at e
    · rename_i h
      exact ⟨eq_of_beq h, (Option.some.inj e).symm⟩
    · cases e
  have C1 : NdefX.CellsAt [("__class__", cc)] ["__class__"] [none] hp H := by
    refine ⟨rfl, fun y c e => ?_, fun x y c e1 e2 => (lc e1).1.trans (lc e2).1.symm, fun i y e => ?_⟩
    · obtain ⟨rfl, rfl⟩ := lc e
      exact ⟨(e0.bs _ _ (KB _ _ hcell)).2, _, _, KX _ _ hcell, rfl⟩
    · match i, e with
      | 0, e =>
        cases e
        exact ⟨cc, rfl, fun v z => by cases z⟩
      | i + 1, e => simp at e
  obtain ⟨tm, tM, rfl⟩ : ∃ tm tM, us = [.ref a, .int m tm, .int M tM] := by
    cases r with
    | cons r1 r =>
      cases r with
      | cons r2 r =>
        cases r with
        | cons r3 r =>
          cases r
          obtain ⟨t2, rfl⟩ := r2
          obtain ⟨t3, rfl⟩ := r3
          cases r1
          exact ⟨t2, t3, rfl⟩
  have S := scIni
  refine PySem.ks_codeAny_call_defAt hr.depth (KX _ _ lk) rfl lim (PySem.W.codeRec_of KX oC.code) rfl hb S.nocell (fun y hy => S.par y.1 (List.of_mem_zip (show (y.1, y.2) ∈ _ from hy)).1) (fun h1 hns kp => ?_) S.co S.gen S.kind
  have I0 : Inv (NdefX.ncx CX0 P w K mg base nIni (iniF cI cc) fI A outer ⟨hp, g, d, t, os⟩ H E) [] (NdefX.startF nIni [.ref a, .int m, .int M] [none]) H ⟨h1, g, d, t + 3, os⟩ := NdefX.inv_startN S hr.hd e0 rfl r C1 hns kp
  show PySem.wpAt (model P w) (iniX P w K mg base fI cI cc A outer ⟨hp, g, d, t, os⟩ H E).A (.func (defBody sIni) (iniX P w K mg base fI cI cc A outer ⟨hp, g, d, t, os⟩ H E).env) (execs (defBody sIni) (iniX P w K mg base fI cI cc A outer ⟨hp, g, d, t, os⟩ H E).env) _ (iniX P w K mg base fI cI cc A outer ⟨hp, g, d, t, os⟩ H E).xe _
  obtain ⟨ccl, cdd, cvs, ccs, fl, tf, hcode, hvs, hfl⟩ := oC.file
  obtain ⟨mb, hb1, hb2⟩ := I0.mod.blt
  have hboot : bootBuiltins "super" = some (.type "super") := by decide +kernel
  obtain ⟨nm, qq, N, bs, bm, sn, sub, ab, col, dd, k0, k1, k2, k3, k5, hC, hbm⟩ := oC.oex.cls
  obtain ⟨t1, hoe⟩ := exo_at I0.hok ea
  have K1 := I0.kIn
  refine PySem.ks_wpAt_execs_cons (PySem.ks_wpAt_Expr_any (PySem.ks_wpAt_MethodCall (PySem.ks_wpAt_super_base (f := fI) (cc := cI) rfl rfl (by decide) rfl (K1 _ _ lk) rfl rfl rfl (K1 _ _ hcode) rfl hvs hfl oC.top
    (PySem.W.ks_loadName_global rfl rfl (PySem.Calls.loadGlobal_builtin (I0.mod.glob.keeps I0.bk) oC.sup (hb1.keeps I0.bk) ((hb2 "super" (by decide)).trans hboot) ⟨rfl, wpAny_loadName_free rfl rfl rfl ⟨_, K1 _ _ hcell, rfl⟩ (wpAny_loadName_local rfl rfl hns rfl (PySem.ks_wpAny_isType_cls (K1 _ _ hC) rfl ⟨rfl, PySem.ks_wpAny_call_super (K1 _ _ hC) rfl hoe rfl (fun c z => by cases z) (PySem.W.looks_mroIn K1 oC.sub) fun h2 e2 k2 => ?_⟩))⟩)))))
  refine run_super (oC := oC) (I0.kept k2) ea e2 (pa_cons (pe_joined (.cons (pe_fmt (pv 1)) (.cons pe_str (.cons (pe_fmt (pv 2)) (.cons pe_str .nil))))) pa_nil) ?_ (fun s' ps J => ?_) rfl rfl
  · have lm := str_len m hm
    have lM := str_len M hM
    have sl : sizeLine = 16777216 := sizeLine_eq
    have k1 : (", where at most " : Str).length ≤ 20 := by decide +kernel
    have k2 : (" may be" : Str).length ≤ 20 := by decide +kernel
    have lg : ∀ j : Nat, j ≤ 100 → ((j : Nat) : Int).natAbs.log2 < 1920 := fun j hj => Nat.lt_of_le_of_lt (Nat.log2_le_self _) (by omega)
    refine ⟨.int m, rfl, .inr ⟨m, rfl, lg m hm, _, rfl, ?_, _, rfl, ?_, .int M, rfl, .inr ⟨M, rfl, lg M hM, _, rfl, ?_, _, rfl, ?_, (by decide : 1 ≤ 1000), rfl⟩⟩⟩ <;> simp only [Str.length_append] <;> first | omega | (have e0 : Str.empty.length = 0 := rfl; omega)
  · refine wpAt_of_wpAny (thn ((pss_cons (ps_ost (pv 0) (pv 1)) (pss_one (ps_ost (pv 0) (pv 2)))).run ps s' _ H { nx := fun _ H' => Q .non H', rt := Q } J ?_) fun fl s2 hs => ?_)
    · refine ⟨.int m, rfl, .ref a, rfl, a, C, rfl, oC.oex, oC.no1, .inl ⟨ea, fun dx ndx nea => ?_⟩⟩
      exact ⟨.int M, rfl, .ref a, rfl, a, C, rfl, oC.oex, oC.no2, .inr ⟨dx, [("many", .int m)], upd_same, by rw [upd_ne nea, upd_same], (by decide : 1 ≤ 900), q dx ndx nea⟩⟩
    · have fin : ∀ {σ' : L2.St} {H' : Hp} {v : V} {u : Value}, Inv (iniX P w K mg base fI cI cc A outer ⟨hp, g, d, t, os⟩ H E) ps σ' H' s2 → L2.RelV v u → Q v H' → CE outer P w H ⟨hp, g, d, t, os⟩ Q u s2 :=
        fun {σ' H' v u} I2 rv q2 => ⟨v, H', I2.os, I2.bare, I2.base, I2.hok, rv, q2⟩
      match fl, hs with
      | .ret u, ⟨v, σ', H', I2, r2, q2⟩ => exact fin I2 r2 q2
      | .next, ⟨σ', H', I2, q2⟩ => exact fin (v := V.non) (u := Value.none) I2 rfl q2
      | .brk, ⟨_, _, _, q2⟩ => exact q2.elim
      | .cont, ⟨_, _, _, q2⟩ => exact q2.elim
end
end Lf

set_option maxHeartbeats 8000000
namespace Lf
open PySem PySem.Spec PyProof.Rows L2 GxR GxA SrT
abbrev sAtMost : Stmt := topS 17
theorem scAtMost : FnScope ["many", "most"] ["many", "most"] (defScope sAtMost) := ⟨rfl, rfl, rfl, by decide +kernel, rfl, by decide +kernel, by decide +kernel⟩
/-! ### the great one, caught -/
/-- the class at D is TooGreat -/
structure KindG (K : PySem.W.Frag) (C : Nat → Addr) (CL D : Addr) : Prop where
  exc : ExcC K D
  kit : ∀ j, j < 13 → PySem.W.kitOne K (.ref D) (.ref (C j)) = some (decide (j = 12))
  ve : PySem.W.kitOne K (.ref D) (.type "ValueError") = some true
  lay : PySem.W.exmOne K (.ref D) (.ref CL) = some true
  cl : (PySem.W.clsIn K D).isSome = true
  no1 : PySem.W.findIn K (.ref D) "many" = some none
  no2 : PySem.W.findIn K (.ref D) "most" = some none
theorem KindG.xf {K : PySem.W.Frag} {C : Nat → Addr} {CL D : Addr} (Z : KindG K C CL D) : XfC K D := ⟨Z.exc.hg, Z.exc.hk, Z.exc.hs, Z.exc.hd⟩
def rIsG (K : PySem.W.Frag) (D a dd : Addr) : List V → Hp → VK → Prop := fun xs H Q => ∃ (c : V) (cv : Value) (b : Bool), xs = [.ref a, c] ∧ (∀ u, RelV c u → u = cv) ∧ PySem.W.kitOne K (.ref D) cv = some b ∧ (∃ fs, H dd = some (.xd fs)) ∧ Q (.bl b) H
theorem call_isG {X : Cx} {a D dd : Addr} {oe : Obj} (C : ExcC X.K D) (hcl : (PySem.W.clsIn X.K D).isSome = true) (hz : Zc (.ref D) (some dd) oe) (hf : ∃ vs, oe.data = .fields vs) (hp : (a, oe) ∈ X.pn) : CallR X (.builtin "isinstance") (rIsG X.K D a dd) := fun pins s σ H xs us Q I r h => by
  obtain ⟨c, cv, b, rfl, hcv, e, ⟨fs, hdd⟩, q⟩ := h
  obtain ⟨u1, u2, rfl, r1, r2⟩ := vals2 r
  cases r1
  obtain rfl := hcv _ r2
  have hget := (I.pin (a, oe) (List.mem_append_left _ hp)).1
  obtain ⟨vs, hv⟩ := hf
  have hx : ObjOk X.prog X.w H s.heap dd (.xd fs) := I.hok dd _ hdd
  obtain ⟨mA, hns, _⟩ := hx
  obtain ⟨od, ho, _⟩ := lookIn_ns hns
  have J : PySem.W.InstAt s.heap a oe D (some od) := ⟨hget, hz.1, by unfold PySem.W.notCls; rw [hv] <;> rfl, by rw [hz.2]; exact ho⟩
  exact PySem.W.kia_one (PySem.W.kitx_exc hcl C.hg C.hk C.hs C.ha C.hn C.ht C.hm) I.kIn J e (fun z => nomatch z) fun tk => ⟨.bl b, H, I.kept (t' := tk) fun _ _ z => z, rfl, q⟩
/-- e.f, e the great one -/
def tXg (a dd : Addr) (n : Str) (te : TE) : TE := fun σ H Q => te σ H fun x H1 => x = .ref a ∧ ∃ (fs : List (Str × V)) (v : V), H1 dd = some (.xd fs) ∧ fs.lookup n = some v ∧ Q v H1
theorem pe_xfP {X : Cx} {a C dd : Addr} {oe : Obj} {e : Expr} {te : TE} {pos : Pos} {n : Str} (T : XfC X.K C) (hno : PySem.W.findIn X.K (.ref C) n = some none) (hz : Zc (.ref C) (some dd) oe) (hf : ∃ vs, oe.data = .fields vs) (hp : (a, oe) ∈ X.pn) (he : PE X e te)
    (hb : attributeBase e n X.env (eval e X.env) = eval e X.env := by rfl) : PE X (.Attribute e n pos) (tXg a dd n te) :=
  ⟨fun pins s σ H Q I h => attr_of hb (thn (he.run pins s σ H _ I h) fun u s1 hh => by
    obtain ⟨x, H1, I1, rx, rfl, fs, v, ea, l, q⟩ := hh
    obtain rfl : u = Value.ref a := rx
    have hget := (I1.pin (a, oe) (List.mem_append_left _ hp)).1
    obtain ⟨vs, hd⟩ := hf
    have hx : ObjOk X.prog X.w H1 s1.heap dd (.xd fs) := I1.hok dd _ ea
    obtain ⟨mA, hns, hr⟩ := hx
    obtain ⟨od, ho, hl⟩ := lookIn_ns hns
    obtain ⟨u, hu, ru⟩ := RelO.some_of (v := v) (o := mA n) (by rw [← l]; exact hr n)
    have J : PySem.W.InstAt s1.heap a oe C (some od) := ⟨hget, hz.1, by unfold PySem.W.notCls; rw [hd] <;> rfl, by rw [hz.2]; exact ho⟩
    exact HandSPX.exc_get I1.kIn J T.ga T.gg T.exC (PySem.W.findObj_own T.hdC hno rfl (by rw [hl, hu])) (handed_of ru) ⟨v, H1, I1.tok _, ru, q⟩)⟩
section
variable {K : PySem.W.Frag} {mg : Str → Option Value} {C : Nat → Addr} {CL : Addr}
def grF (m M : Nat) : List (Str × V) := [("most", .int M), ("many", .int m)]
/-- what the great one is told to be -/
def spKindG (Ps : Tbs) (a dd : Addr) (m M : Nat) : Sp := fun vs H Q _ => vs = [.ref a] ∧ H dd = some (.xd (grF m M)) ∧ Tb Ps H ∧ ∀ (l : Addr) (H' : Hp), Ext Ps H H' → H l = none → H' l = some (.lst [.str "great", .int m, .int M]) → Q (.ref l) H'
theorem pe_kindG {X : Cx} {Ps : Tbs} {f c a D dd : Addr} {fd : FuncData} {m M k : Nat} {oe : Obj} {e : Expr} {t : TA} {p pos : Pos} (DK : Def X.K X.mg "_law_kind_of" sKindOf ["_law_e"] f fd c) (G : Kinds X.mg C) (Z : KindG X.K C CL D) (hz : Zc (.ref D) (some dd) oe) (hf : ∃ vs, oe.data = .fields vs) (hp : (a, oe) ∈ X.pn)
    (hr : L2H.RoomH (k + 1) X.A) (ha : PA X [e] t) (mi : X.mg "isinstance" = none) (mv : X.mg "ValueError" = none) (hg : Gl X "_law_kind_of" := by rfl) (he : starEach [e] X.env = (false, eval e X.env) :: starEach [] X.env := by rfl) (hpl : (backTo pos (starEach [] X.env)).any (·.1) = false := by rfl) :
    PE X (.Call (.Name "_law_kind_of" p) [e] [] pos) (tCall (spKindG Ps a dd m M) [] E0 t) := by
  refine pe_hot (N := ["_law_e", "_law_marks", "_law_words"]) DK scKindOf hp hr ha (fun vs H Q E h => by rw [h.1]; rfl) (fun s H vs Q hr h => ?_) hg (by decide) he hpl
  obtain ⟨rfl, HD, ht, q⟩ := h
  have hu : (X.A.deeper (envOfC "_law_kind_of" (defScope sKindOf) s.heap.objs.size f (.ref c))).units + 65 < cLine := by
    have := hr.un
    omega
  refine ⟨_, (pss_cons (ps_set (i := 1) scKindOf.nd rfl (.inl rfl) (pe_lst (pa_cons (pe_callB (call_isG Z.exc Z.cl hz hf (.head _)) (by rfl) mi (by decide +kernel) (pa_cons (pv 0) (pa_cons (pe_glob (v := .ref (C 0)) (by rfl) G.n0 rfl) pa_nil))) (pa_cons (pe_callB (call_isG Z.exc Z.cl hz hf (.head _)) (by rfl) mi (by decide +kernel) (pa_cons (pv 0) (pa_cons (pe_glob (v := .ref (C 1)) (by rfl) G.n1 rfl) pa_nil))) (pa_cons (pe_callB (call_isG Z.exc Z.cl hz hf (.head _)) (by rfl) mi (by decide +kernel) (pa_cons (pv 0) (pa_cons (pe_glob (v := .ref (C 2)) (by rfl) G.n2 rfl) pa_nil))) (pa_cons (pe_callB (call_isG Z.exc Z.cl hz hf (.head _)) (by rfl) mi (by decide +kernel) (pa_cons (pv 0) (pa_cons (pe_glob (v := .ref (C 3)) (by rfl) G.n3 rfl) pa_nil))) pa_nil)))))) (pss_cons (ps_set (i := 1) scKindOf.nd rfl (.inl rfl) (pe_op op_cat (pv 1) (pe_lst (pa_cons (pe_callB (call_isG Z.exc Z.cl hz hf (.head _)) (by rfl) mi (by decide +kernel) (pa_cons (pv 0) (pa_cons (pe_glob (v := .ref (C 4)) (by rfl) G.n4 rfl) pa_nil))) (pa_cons (pe_callB (call_isG Z.exc Z.cl hz hf (.head _)) (by rfl) mi (by decide +kernel) (pa_cons (pv 0) (pa_cons (pe_glob (v := .ref (C 5)) (by rfl) G.n5 rfl) pa_nil))) (pa_cons (pe_callB (call_isG Z.exc Z.cl hz hf (.head _)) (by rfl) mi (by decide +kernel) (pa_cons (pv 0) (pa_cons (pe_glob (v := .ref (C 6)) (by rfl) G.n6 rfl) pa_nil))) (pa_cons (pe_callB (call_isG Z.exc Z.cl hz hf (.head _)) (by rfl) mi (by decide +kernel) (pa_cons (pv 0) (pa_cons (pe_glob (v := .ref (C 7)) (by rfl) G.n7 rfl) pa_nil))) pa_nil))))))) (pss_cons (ps_set (i := 1) scKindOf.nd rfl (.inl rfl) (pe_op op_cat (pv 1) (pe_lst (pa_cons (pe_callB (call_isG Z.exc Z.cl hz hf (.head _)) (by rfl) mi (by decide +kernel) (pa_cons (pv 0) (pa_cons (pe_glob (v := .ref (C 8)) (by rfl) G.n8 rfl) pa_nil))) (pa_cons (pe_callB (call_isG Z.exc Z.cl hz hf (.head _)) (by rfl) mi (by decide +kernel) (pa_cons (pv 0) (pa_cons (pe_glob (v := .ref (C 9)) (by rfl) G.n9 rfl) pa_nil))) (pa_cons (pe_callB (call_isG Z.exc Z.cl hz hf (.head _)) (by rfl) mi (by decide +kernel) (pa_cons (pv 0) (pa_cons (pe_glob (v := .ref (C 10)) (by rfl) G.n10 rfl) pa_nil))) (pa_cons (pe_callB (call_isG Z.exc Z.cl hz hf (.head _)) (by rfl) mi (by decide +kernel) (pa_cons (pv 0) (pa_cons (pe_glob (v := .ref (C 11)) (by rfl) G.n11 rfl) pa_nil))) pa_nil))))))) (pss_cons (ps_expr (pe_bm PySem.F.plainAttrs_list PySem.F.slot_list_append PySem.F.type_list_append mt_append (pv 1) (pa_cons (pe_callB (call_isG Z.exc Z.cl hz hf (.head _)) (by rfl) mi (by decide +kernel) (pa_cons (pv 0) (pa_cons (pe_glob (v := .ref (C 12)) (by rfl) G.n12 rfl) pa_nil))) pa_nil))) (pss_cons (ps_if (PW.pt (pw_or (pt_not (pt_val (pe_callB (call_isG Z.exc Z.cl hz hf (.head _)) (by rfl) mi (by decide +kernel) (pa_cons (pv 0) (pa_cons (pe_bltn (v := .ty "ValueError") (by rfl) mv (by decide +kernel) rfl) pa_nil))))) (pw_or1 (pt_cmpR op_ne (pe_bm PySem.F.plainAttrs_list PySem.F.slot_list_count PySem.F.type_list_count (mt_countD hu) (pv 1) (pa_cons pe_bl pa_nil)) pe_int (nomark _))))) (pss_one (ps_ret pe_str)) pss_nil) (pss_cons (ps_if (pt_val (pe_ix ix_list (pv 1) pe_int (fun _ _ => rfl))) (pss_one (ps_ret (pe_lst (pa_cons pe_str (pa_cons (pe_xfP Z.xf Z.no1 hz hf (.head _) (pv 0)) (pa_cons (pe_xfP Z.xf Z.no2 hz hf (.head _) (pv 0)) pa_nil)))))) pss_nil) (pss_cons ps_never (pss_one ps_never)))))))), ?_⟩
  have c4 : (4 : Nat) ≤ sizeLine := by decide
  refine ⟨.ref a, rfl, _, _, _, rfl, fun _ r => r, Z.kit 0 (by decide), ⟨_, HD⟩, ⟨.ref a, rfl, _, _, _, rfl, fun _ r => r, Z.kit 1 (by decide), ⟨_, HD⟩, ⟨.ref a, rfl, _, _, _, rfl, fun _ r => r, Z.kit 2 (by decide), ⟨_, HD⟩, ⟨.ref a, rfl, _, _, _, rfl, fun _ r => r, Z.kit 3 (by decide), ⟨_, HD⟩, ⟨c4, fun l1 n1 => ?_⟩⟩⟩⟩⟩
  have e1 := Ext.new (o := .lst [.bl (decide (0 = 12)), .bl (decide (1 = 12)), .bl (decide (2 = 12)), .bl (decide (3 = 12))]) ht n1
  have h1 : (upd H l1 (.lst [.bl (decide (0 = 12)), .bl (decide (1 = 12)), .bl (decide (2 = 12)), .bl (decide (3 = 12))])) l1 = some (.lst [.bl (decide (0 = 12)), .bl (decide (1 = 12)), .bl (decide (2 = 12)), .bl (decide (3 = 12))]) := upd_same
  replace HD := e1.old _ _ HD (fun q z => by cases z)
  generalize upd H l1 (.lst [.bl (decide (0 = 12)), .bl (decide (1 = 12)), .bl (decide (2 = 12)), .bl (decide (3 = 12))]) = H1 at *
  refine ⟨.ref l1, rfl, ⟨.ref a, rfl, _, _, _, rfl, fun _ r => r, Z.kit 4 (by decide), ⟨_, HD⟩, ⟨.ref a, rfl, _, _, _, rfl, fun _ r => r, Z.kit 5 (by decide), ⟨_, HD⟩, ⟨.ref a, rfl, _, _, _, rfl, fun _ r => r, Z.kit 6 (by decide), ⟨_, HD⟩, ⟨.ref a, rfl, _, _, _, rfl, fun _ r => r, Z.kit 7 (by decide), ⟨_, HD⟩, ⟨c4, fun p2 np2 => ?_⟩⟩⟩⟩⟩⟩
  have f2 := Ext.new (o := .lst [.bl (decide (4 = 12)), .bl (decide (5 = 12)), .bl (decide (6 = 12)), .bl (decide (7 = 12))]) e1.tb np2
  refine ⟨l1, p2, _, _, rfl, rfl, f2.lst h1, upd_same, Nat.le_of_lt (small1000 (by show 4 + 4 ≤ 1000; decide)), fun l2 n2 => ?_⟩
  have f3 := f2.trans (Ext.new (o := .lst ([.bl (decide (0 = 12)), .bl (decide (1 = 12)), .bl (decide (2 = 12)), .bl (decide (3 = 12))] ++ [.bl (decide (4 = 12)), .bl (decide (5 = 12)), .bl (decide (6 = 12)), .bl (decide (7 = 12))])) f2.tb n2)
  have e2 := e1.trans f3
  have h2 : (upd (upd H1 p2 (.lst [.bl (decide (4 = 12)), .bl (decide (5 = 12)), .bl (decide (6 = 12)), .bl (decide (7 = 12))])) l2 (.lst ([.bl (decide (0 = 12)), .bl (decide (1 = 12)), .bl (decide (2 = 12)), .bl (decide (3 = 12))] ++ [.bl (decide (4 = 12)), .bl (decide (5 = 12)), .bl (decide (6 = 12)), .bl (decide (7 = 12))]))) l2 = some (.lst [.bl (decide (0 = 12)), .bl (decide (1 = 12)), .bl (decide (2 = 12)), .bl (decide (3 = 12)), .bl (decide (4 = 12)), .bl (decide (5 = 12)), .bl (decide (6 = 12)), .bl (decide (7 = 12))]) := upd_same
  have m2 : H l2 = none := (e1.trans f2).free n2
  replace HD := f3.old _ _ HD (fun q z => by cases z)
  generalize upd (upd H1 p2 (.lst [.bl (decide (4 = 12)), .bl (decide (5 = 12)), .bl (decide (6 = 12)), .bl (decide (7 = 12))])) l2 (.lst ([.bl (decide (0 = 12)), .bl (decide (1 = 12)), .bl (decide (2 = 12)), .bl (decide (3 = 12))] ++ [.bl (decide (4 = 12)), .bl (decide (5 = 12)), .bl (decide (6 = 12)), .bl (decide (7 = 12))])) = H2 at *
  refine ⟨.ref l2, rfl, ⟨.ref a, rfl, _, _, _, rfl, fun _ r => r, Z.kit 8 (by decide), ⟨_, HD⟩, ⟨.ref a, rfl, _, _, _, rfl, fun _ r => r, Z.kit 9 (by decide), ⟨_, HD⟩, ⟨.ref a, rfl, _, _, _, rfl, fun _ r => r, Z.kit 10 (by decide), ⟨_, HD⟩, ⟨.ref a, rfl, _, _, _, rfl, fun _ r => r, Z.kit 11 (by decide), ⟨_, HD⟩, ⟨c4, fun p3 np3 => ?_⟩⟩⟩⟩⟩⟩
  have g2 := Ext.new (o := .lst [.bl (decide (8 = 12)), .bl (decide (9 = 12)), .bl (decide (10 = 12)), .bl (decide (11 = 12))]) e2.tb np3
  refine ⟨l2, p3, _, _, rfl, rfl, g2.lst h2, upd_same, Nat.le_of_lt (small1000 (by show 8 + 4 ≤ 1000; decide)), fun l3 n3 => ?_⟩
  have g3 := g2.trans (Ext.new (o := .lst ([.bl (decide (0 = 12)), .bl (decide (1 = 12)), .bl (decide (2 = 12)), .bl (decide (3 = 12)), .bl (decide (4 = 12)), .bl (decide (5 = 12)), .bl (decide (6 = 12)), .bl (decide (7 = 12))] ++ [.bl (decide (8 = 12)), .bl (decide (9 = 12)), .bl (decide (10 = 12)), .bl (decide (11 = 12))])) g2.tb n3)
  have e3 := e2.trans g3
  have h3 : (upd (upd H2 p3 (.lst [.bl (decide (8 = 12)), .bl (decide (9 = 12)), .bl (decide (10 = 12)), .bl (decide (11 = 12))])) l3 (.lst ([.bl (decide (0 = 12)), .bl (decide (1 = 12)), .bl (decide (2 = 12)), .bl (decide (3 = 12)), .bl (decide (4 = 12)), .bl (decide (5 = 12)), .bl (decide (6 = 12)), .bl (decide (7 = 12))] ++ [.bl (decide (8 = 12)), .bl (decide (9 = 12)), .bl (decide (10 = 12)), .bl (decide (11 = 12))]))) l3 = some (.lst [.bl (decide (0 = 12)), .bl (decide (1 = 12)), .bl (decide (2 = 12)), .bl (decide (3 = 12)), .bl (decide (4 = 12)), .bl (decide (5 = 12)), .bl (decide (6 = 12)), .bl (decide (7 = 12)), .bl (decide (8 = 12)), .bl (decide (9 = 12)), .bl (decide (10 = 12)), .bl (decide (11 = 12))]) := upd_same
  have m3 : H l3 = none := (e2.trans g2).free n3
  replace HD := g3.old _ _ HD (fun q z => by cases z)
  generalize upd (upd H2 p3 (.lst [.bl (decide (8 = 12)), .bl (decide (9 = 12)), .bl (decide (10 = 12)), .bl (decide (11 = 12))])) l3 (.lst ([.bl (decide (0 = 12)), .bl (decide (1 = 12)), .bl (decide (2 = 12)), .bl (decide (3 = 12)), .bl (decide (4 = 12)), .bl (decide (5 = 12)), .bl (decide (6 = 12)), .bl (decide (7 = 12))] ++ [.bl (decide (8 = 12)), .bl (decide (9 = 12)), .bl (decide (10 = 12)), .bl (decide (11 = 12))])) = H3 at *
  refine ⟨.ref l3, rfl, .inl ⟨rfl, _, .inl (.inl h3)⟩, ⟨.ref a, rfl, _, _, _, rfl, fun _ r => r, Z.kit 12 (by decide), ⟨_, HD⟩, ⟨l3, _, _, rfl, rfl, h3, small1000 (by show 12 ≤ 1000; decide), ?_⟩⟩⟩
  have e5 := e3.write (o' := .lst ([.bl (decide (0 = 12)), .bl (decide (1 = 12)), .bl (decide (2 = 12)), .bl (decide (3 = 12)), .bl (decide (4 = 12)), .bl (decide (5 = 12)), .bl (decide (6 = 12)), .bl (decide (7 = 12)), .bl (decide (8 = 12)), .bl (decide (9 = 12)), .bl (decide (10 = 12)), .bl (decide (11 = 12))] ++ [.bl (decide (12 = 12))])) m3 h3 (fun q z => by cases z)
  have h5 : (upd H3 l3 (.lst ([.bl (decide (0 = 12)), .bl (decide (1 = 12)), .bl (decide (2 = 12)), .bl (decide (3 = 12)), .bl (decide (4 = 12)), .bl (decide (5 = 12)), .bl (decide (6 = 12)), .bl (decide (7 = 12)), .bl (decide (8 = 12)), .bl (decide (9 = 12)), .bl (decide (10 = 12)), .bl (decide (11 = 12))] ++ [.bl (decide (12 = 12))]))) l3 = some (.lst ((boolsAt 12).map V.bl)) := upd_same
  have ne3 : l3 ≠ dd := fun z => by
    rw [z, HD] at h3
    cases h3
  replace HD : (upd H3 l3 (.lst ([.bl (decide (0 = 12)), .bl (decide (1 = 12)), .bl (decide (2 = 12)), .bl (decide (3 = 12)), .bl (decide (4 = 12)), .bl (decide (5 = 12)), .bl (decide (6 = 12)), .bl (decide (7 = 12)), .bl (decide (8 = 12)), .bl (decide (9 = 12)), .bl (decide (10 = 12)), .bl (decide (11 = 12))] ++ [.bl (decide (12 = 12))]))) dd = some (.xd (grF m M)) := by
    rw [upd_ne (Ne.symm ne3)]
    exact HD
  generalize upd H3 l3 (.lst ([.bl (decide (0 = 12)), .bl (decide (1 = 12)), .bl (decide (2 = 12)), .bl (decide (3 = 12)), .bl (decide (4 = 12)), .bl (decide (5 = 12)), .bl (decide (6 = 12)), .bl (decide (7 = 12)), .bl (decide (8 = 12)), .bl (decide (9 = 12)), .bl (decide (10 = 12)), .bl (decide (11 = 12))] ++ [.bl (decide (12 = 12))])) = H5 at *
  have hD : Dp X.K H5 (.ref l3) (.list ((boolsAt 12).map PyData.bool)) := .lst (.inl (.inl h5)) (bools_dp _)
  obtain ⟨p1, p2, p3⟩ := bools_plain (boolsAt 12)
  have cnt : ((boolsAt 12).map PyData.bool).countP (fun z => PyData.eqv z (.bool true)) = 1 := by
    have e : ∀ b : Bool, PyData.eqv (.bool b) (.bool true) = b := fun b => by cases b <;> simp [PyData.eqv]
    have e2 : ((fun z => PyData.eqv z (.bool true)) ∘ PyData.bool) = id := by
      funext b
      exact e b
    rw [List.countP_map, e2]
    decide +kernel
  refine ⟨.ref a, rfl, _, _, true, rfl, fun u r => r, Z.ve, ⟨_, HD⟩, true, rfl, iteF ?_⟩
  refine ⟨.ref l3, rfl, .inl ⟨rfl, _, .inl (.inl h5)⟩, l3, .bl true, .bool true, _, rfl, rfl, hD, .bl true, p1, by simp [PyData.plain], by simp [PyData.depth], rfl, false, ?_, iteF ?_⟩
  · rw [cnt]
    simp
  refine ⟨.ref l3, rfl, l3, _, 12, .bl true, rfl, rfl, .inl (.inl h5), atI_nat (j := 12) rfl, true, rfl, iteT ?_⟩
  refine ⟨.ref a, rfl, rfl, grF m M, .int m, HD, rfl, .ref a, rfl, rfl, grF m M, .int M, HD, rfl, (by show 3 ≤ sizeLine; decide), fun l nl => ?_⟩
  exact q l _ (e5.trans (Ext.new e5.tb nl)) (e5.free nl) upd_same
/-! ### what a refusal comes to, the great one among them -/
def KE2 (K : PySem.W.Frag) (C : Nat → Addr) (CY : Addr) (Ps : Tbs) (Q : VK) : XK := fun cls dx H => KE K C CY Ps Q cls dx H ∨ ∃ (D dd : Addr) (m M : Nat), cls = .ref D ∧ dx = some dd ∧ KindG K C CY D ∧ H dd = some (.xd (grF m M)) ∧ Tb Ps H ∧ ∀ (l : Addr) (H2 : Hp), Ext Ps H H2 → H l = none → H2 l = some (.lst [.str "great", .int m, .int M]) → Q (.ref l) H2
end
/-! ### need_at_most -/
section
variable {P : Program} {w : World} {K : PySem.W.Frag} {mg : Str → Option Value} {base : Heap} {Ps : Tbs} {H H' H0 : Hp} {k : Nat} {f c : Addr} {fd : FuncData}
/-- the great one is refused with -/
def TooG (Ps : Tbs) (CG : Addr) (m M : Nat) (H : Hp) (E : XK) : Prop := ∀ (d : Addr) (H' : Hp), Ext Ps H H' → H d = none → H' d = some (.xd (grF m M)) → E (.ref CG) (some d) H'
def spAtMost (Ps : Tbs) (CG : Addr) : Sp := fun vs H Q E => ∃ (m M : Nat), vs = [.int m, .int M] ∧ m ≤ 100 ∧ M ≤ 100 ∧ Tb Ps H ∧ (m ≤ M → Q .non H) ∧ (M < m → TooG Ps CG m M H E)
theorem ok_atMost {C fI cI cc : Addr} {fdI : FuncData} (D : Def K mg "need_at_most" sAtMost ["many", "most"] f fd c) (oC : IniC P K mg C fI cI cc fdI) (iC : PySem.W.findIn K (.ref C) "__init__" = some (some (.ref fI))) (tI : PySem.W.typeIn K (.ref fI) = some (.type "function")) (bI : Binds K fdI ["self", "many", "most"] []) (gC : mg "TooGreat" = some (.ref C)) :
    FnOk P w K mg base (L2.CX P w) (2 + 1) f fd ["many", "most"] (spAtMost Ps C) := by
  refine D.okX (k := 2) scAtMost (fun vs H Q E h => ?_) (fun A outer s H vs Q E hr tk h => ?_)
  · obtain ⟨m, M, rfl, _⟩ := h
    rfl
  · obtain ⟨m, M, rfl, hm, hM, ht, q1, q2⟩ := h
    refine ⟨_, pss_one (ps_if (pt_cmpR op_gt (pv 0) (pv 1) (nomark _)) (pss_one (ps_raise rfl tk (pmk_oex (CX := CX0) (dvs := []) oC.oex iC tI (ok_ini (w := w) (base := base) oC) hr bI .nil pass0 (by rfl) gC (pa_cons (pv 0) (pa_cons (pv 1) pa_nil))))) pss_nil), ?_⟩
    refine ⟨.int m, rfl, .int M, rfl, m, M, rfl, rfl, decide ((m : Int) > (M : Int)), rfl, ite2 (fun hc => ?_) (fun hc => ?_)⟩
    · have hlt : M < m := by
        have := of_decide_eq_true hc
        omega
      refine ⟨.int m, rfl, .int M, rfl, (by show 2 ≤ 1000; decide), fun a na => ⟨a, m, M, rfl, hm, hM, upd_same, fun dx ndx nea => ⟨rfl, dx, grF m M, ?_, upd_same, ?_, ?_⟩⟩⟩
      · rw [upd_ne (Ne.symm nea), upd_same]
      · rw [upd_ne nea] at ndx
        exact ndx
      · rw [upd_ne nea] at ndx
        have e : upd (del (upd (upd (upd (upd H a (exo a C none)) dx (exd dx [("many", V.int m)])) a (exo a C (some dx))) dx (exd dx [("most", V.int M), ("many", V.int m)])) a) dx (.xd (grF m M)) = upd H dx (.xd (grF m M)) := by
          funext b
          by_cases h1 : b = dx
          · rw [h1, upd_same, upd_same]
          · rw [upd_ne h1, upd_ne h1]
            by_cases h2 : b = a
            · rw [h2, del_same, na]
            · rw [del_ne h2, upd_ne h1, upd_ne h2, upd_ne h1, upd_ne h2]
        rw [e]
        exact q2 hlt dx _ (Ext.new ht ndx) ndx upd_same
    · refine q1 ?_
      have : ¬ ((m : Int) > (M : Int)) := fun z => hc (decide_eq_true z)
      omega
end
end Lf

set_option maxHeartbeats 2000000
namespace Lf
open PySem PySem.Spec PyProof.Rows L2 GxR GxA SrT
abbrev sWhole : Stmt := topS 48
abbrev sIsRowL : Stmt := topS 61
theorem scWhole : FnScope ["_law_thing"] ["_law_thing"] (defScope sWhole) := ⟨rfl, rfl, rfl, by decide +kernel, rfl, by decide +kernel, by decide +kernel⟩
theorem scIsRowL : FnScope ["_law_stack", "_law_thing", "_law_number"] ["_law_stack", "_law_thing"] (defScope sIsRowL) := ⟨rfl, rfl, rfl, by decide +kernel, rfl, by decide +kernel, by decide +kernel⟩
def isIntD : PyData → Bool
  | .int _ => true
  | _ => false
theorem ints_of_all : ∀ {ds : List PyData}, ds.all isIntD = true → ∃ ns : List Int, ds = iD ns
  | [], _ => ⟨[], rfl⟩
  | d :: ds, h => by
    rw [List.all_cons, Bool.and_eq_true] at h
    obtain ⟨ns, e⟩ := ints_of_all h.2
    cases d with
    | int i => exact ⟨i :: ns, by rw [e]; rfl⟩
    | _ => cases h.1
section
variable {P : Program} {w : World} {K : PySem.W.Frag} {mg : Str → Option Value} {base : Heap} {Ps : Tbs} {H H' H0 : Hp} {k : Nat} {f c : Addr} {fd : FuncData}
/-! ### _law_whole -/
def spWhole (K : PySem.W.Frag) : Sp := fun vs H Q _ => ∃ (x : V) (d : PyData), vs = [x] ∧ Th K H x d ∧ Q (.bl (isIntD d)) H
theorem ok_whole (D : Def K mg "_law_whole" sWhole ["_law_thing"] f fd c) (mi : mg "isinstance" = none) (mn : mg "int" = none) (mb : mg "bool" = none) : FnOk P w K mg base CX0 (k + 1) f fd ["_law_thing"] (spWhole K) := by
  refine D.ok scWhole (fun vs H Q E h => ?_) (fun A outer s H vs Q E hr h => ?_)
  · obtain ⟨x, d, rfl, _⟩ := h
    rfl
  · obtain ⟨x, d, rfl, hx, q⟩ := h
    refine ⟨_, pss_one (ps_ret (pe_and (pe_callB call_isi (by rfl) mi (by decide +kernel) (pa_cons (pv 0) (pa_cons (pe_bltn (v := .ty "int") (by rfl) mn (by decide +kernel) rfl) pa_nil)))
      (pe_one (pe_not (pe_callB call_isi (by rfl) mi (by decide +kernel) (pa_cons (pv 0) (pa_cons (pe_bltn (v := .ty "bool") (by rfl) mb (by decide +kernel) rfl) pa_nil))))))), ?_⟩
    have ty := th_ty hx
    cases d with
    | int i =>
      refine ⟨x, rfl, x, .ty "int", .type "int", .type "int", true, rfl, .ty _, ty, kit_ty (by decide +kernel), true, rfl, iteT ?_⟩
      exact ⟨x, rfl, x, .ty "bool", .type "int", .type "bool", false, rfl, .ty _, ty, kit_ty (by decide +kernel), false, rfl, q⟩
    | bool b =>
      refine ⟨x, rfl, x, .ty "int", .type "bool", .type "int", true, rfl, .ty _, ty, kit_ty (by decide +kernel), true, rfl, iteT ?_⟩
      exact ⟨x, rfl, x, .ty "bool", .type "bool", .type "bool", true, rfl, .ty _, ty, kit_ty (by decide +kernel), true, rfl, q⟩
    | none => exact ⟨x, rfl, x, .ty "int", .type "NoneType", .type "int", false, rfl, .ty _, ty, kit_ty (by decide +kernel), false, rfl, iteF q⟩
    | str z => exact ⟨x, rfl, x, .ty "int", .type "str", .type "int", false, rfl, .ty _, ty, kit_ty (by decide +kernel), false, rfl, iteF q⟩
    | list ds => exact ⟨x, rfl, x, .ty "int", .type "list", .type "int", false, rfl, .ty _, ty, kit_ty (by decide +kernel), false, rfl, iteF q⟩
    | tuple ds => exact ⟨x, rfl, x, .ty "int", .type "tuple", .type "int", false, rfl, .ty _, ty, kit_ty (by decide +kernel), false, rfl, iteF q⟩
    | dict kv => exact ⟨x, rfl, x, .ty "int", .type "dict", .type "int", false, rfl, .ty _, ty, kit_ty (by decide +kernel), false, rfl, iteF q⟩
/-! ### _law_is_row -/
theorem ok_isRowL {fW cW : Addr} {fdW : FuncData} (D : Def K mg "_law_is_row" sIsRowL ["_law_stack", "_law_thing"] f fd c) (DW : Def K mg "_law_whole" sWhole ["_law_thing"] fW fdW cW) (GW : FnOk P w K mg base CX0 k fW fdW ["_law_thing"] (spWhole K))
    (mi : mg "isinstance" = none) (mt : mg "tuple" = none) (ma : mg "all" = none) (ml : mg "len" = none) (ms : mg "sorted" = none) (mL : mg "list" = none) (mr : mg "range" = none) : FnOk P w K mg base CX0 (k + 1) f fd ["_law_stack", "_law_thing"] (spIsRowX K Ps) := by
  refine D.ok (k := k) scIsRowL (fun vs H Q E h => ?_) (fun A outer s H vs Q E hr h => ?_)
  · obtain ⟨x, y, n, kk, fss, d, rfl, _⟩ := h
    rfl
  · obtain ⟨x, y, n, kk, fss, d, rfl, h0, q⟩ := h
    obtain ⟨a, fa, xs, rfl, h1, h2, h3⟩ := id h0.stk
    have hlen := Paired.length h3
    have l70 := h0.ok.l70
    refine ⟨_, pss_cons (ps_if (PW.pt (pw_or (pt_not (pt_val (pe_callB call_isi (by rfl) mi (by decide +kernel) (pa_cons (pv 1) (pa_cons (pe_bltn (v := .ty "tuple") (by rfl) mt (by decide +kernel) rfl) pa_nil)))))
        (pw_or1 (pt_not (pt_val (pe_callB (cr_all rfl) (by rfl) ma (by decide +kernel) (pa_cons (pe_lc (own := [("_law_number", 2)]) (g := gName 2) (by rfl) scIsRowL.nd (pi_tup (pv 1)) (blkOk_by (N := ["_law_stack", "_law_thing", "_law_number"]) (sc := defScope sIsRowL) (by decide +kernel))
          (fun _ _ _ _ _ => pg_name (i := 2) scIsRowL.nd rfl (Or.inl rfl)) (fun _ _ _ _ _ => pts_nil) (fun _ _ _ _ _ => pcl DW GW hr (pa_cons (pv 2) pa_nil))) pa_nil))))))) (pss_one (ps_ret pe_bl)) pss_nil)
      (pss_one (ps_ret (pe_cmpR (op_eqD hr.units) (pe_callB cr_sortTI (by rfl) ms (by decide +kernel) (pa_cons (pv 1) pa_nil)) (pe_listRg (by rfl) (by rfl) mL (prg_1 (by rfl) mr (pe_callB (call_lenS (K := K) rfl) (by rfl) ml PySem.boot_len (pa_cons (pe_ix ix_tup (pv 0) pe_int (fun _ _ => rfl)) pa_nil)))) (nomark _)))), ?_⟩
    obtain ⟨t, ty, hk⟩ := tup_kit h0.th
    refine ⟨y, rfl, y, .ty "tuple", .type t, .type "tuple", isTup d, rfl, .ty _, ty, kit_ty hk, isTup d, rfl, ?_⟩
    have no : ¬ RowD d fss.length → Q (.bl false) H := fun hn => q false _ ⟨fun z => (nomatch z), fun z => absurd z hn⟩ (Ext.refl h0.tb)
    cases d with
    | tuple ds =>
      have hw := wide_tup h0.wd
      cases hth : h0.th with
      | @tup b ys _ hB ha =>
      have hyl := thAll_len ha
      refine iteF ?_
      refine ⟨.ref b, rfl, b, rfl, ⟨_, hB⟩, fun D0 hD => lc_tup (K := K) (a := b) (xs := ys) (fun i H3 => CP Ps FBl H D0 ((ds.take i).map isIntD) i H3) (CP.start h0.tb hD) (fun i H3 _ p => p.ext.sqT hB) (fun i x H3 hx p => ?_) (fun H3 p => ?_)⟩
      · have hi : i < ys.length := (List.getElem?_eq_some_iff.mp hx).1
        obtain ⟨d', hd, hx'⟩ := thAll_get ha hx
        refine ⟨rfl, yes_ (iteT ?_)⟩
        refine ⟨x, rfl, x, d', rfl, p.ext.th hx', ?_⟩
        have r := CP.put (stbB (K := K)) hD (by have := hw.1; omega) p (show FBl H3 (.bl (isIntD d')) (isIntD d') from rfl)
        rw [List.take_add_one, hd, List.map_append]
        exact r
      · obtain ⟨zs, g1, g2, g3⟩ := p.at_
        rw [paired_bls g2, hyl, List.take_length] at g1
        refine ⟨D0, _, rfl, .inl (.inl g1), ?_⟩
        have e1 := p.ext
        have eall : ((ds.map isIntD).all id) = ds.all isIntD := by rw [List.all_map]; rfl
        rw [eall]
        refine ⟨_, rfl, ?_⟩
        cases hall : ds.all isIntD with
        | false =>
          refine iteT (q false _ ⟨fun z => (nomatch z), ?_⟩ e1)
          rintro ⟨ns, e, _⟩
          injection e with e
          rw [e] at hall
          have : (iD ns).all isIntD = true := by
            rw [List.all_eq_true]
            intro d hd
            obtain ⟨i, _, rfl⟩ := List.mem_map.mp hd
            rfl
          rw [this] at hall
          cases hall
        | true =>
          obtain ⟨ns, rfl⟩ := ints_of_all hall
          obtain ⟨t2, et, hT⟩ := th_tupI (ns := ns) h0.th
          cases et
          refine iteF ⟨.ref b, rfl, b, ns, rfl, e1.sqT hT, fun us p pm sr np => ?_⟩
          have e2 := Ext.new (o := .lst (us.map V.int)) e1.tb np
          have x2 := e1.trans e2
          refine ⟨.ref a, rfl, a, _, 2, .ref fa, rfl, rfl, x2.sqT h1, at2, fa, xs, rfl, .inr (x2.sqT h2), (xs.length : Int), rfl, RgOk.of_le (by omega) (by omega) (by omega) (by omega), fun l nl => ?_⟩
          have hlenI : (xs.length : Int) = (fss.length : Int) := by omega
          rw [hlenI, rng_V]
          have e3 := Ext.new (o := .lst ((rng fss.length).map V.int)) e2.tb nl
          refine ⟨.list (iD us), .list (iD (rng fss.length)), .lst (.inl (.inl (e3.lst upd_same))) (dp_ints us), .lst (.inl (.inl upd_same)) (dp_ints _), shp_list us, shp_list _, ?_⟩
          refine q _ _ ?_ (e1.trans (e2.trans e3))
          rw [PyData.eqv, eqv_ints, decide_eq_true_eq]
          constructor
          · intro e
            exact ⟨ns, rfl, by rw [← e]; exact pm.symm⟩
          · rintro ⟨ms', em, hm⟩
            rw [← tD_inj em] at hm
            exact le_perm_eq (pm.trans hm) sr (rng_le _)
    | none => exact iteT (no fun ⟨_, e, _⟩ => by cases e)
    | bool b => exact iteT (no fun ⟨_, e, _⟩ => by cases e)
    | int i => exact iteT (no fun ⟨_, e, _⟩ => by cases e)
    | str z => exact iteT (no fun ⟨_, e, _⟩ => by cases e)
    | list ds => exact iteT (no fun ⟨_, e, _⟩ => by cases e)
    | dict kvs => exact iteT (no fun ⟨_, e, _⟩ => by cases e)
end
end Lf

set_option maxHeartbeats 2000000
namespace Lf
open PySem PySem.Spec PyProof.Rows L2 GxR GxA SrT
theorem facesAt_take (fss : List (List Int)) (ns : List Int) (i : Nat) : facesAt fss (ns.take i) = (facesAt fss ns).take i := by
  unfold facesAt
  rw [List.map_take]
theorem cut_intsT {ns : List Int} {i : Nat} (h : i ≤ ns.length) : cutV (ns.map V.int) none (some (i : Int)) = (ns.take i).map V.int := by
  rw [cut_take (by rw [List.length_map]; exact h), List.map_take]
section
variable {P : Program} {w : World} {K : PySem.W.Frag} {mg : Str → Option Value} {base : Heap} {Ps : Tbs} {H H' H0 : Hp} {k : Nat} {f c : Addr} {fd : FuncData}
/-! ### _law_at of a tuple -/
def spAtT (K : PySem.W.Frag) (Ps : Tbs) : Sp := fun vs H Q _ => ∃ (x y : V) (n k : Int) (fss : List (List Int)) (ns : List Int), vs = [x, y] ∧ Stk K H x n k fss ∧ TupI K H y ns ∧ (∀ i ∈ ns, 0 ≤ i ∧ i < (fss.length : Int)) ∧ ns.length ≤ 100 ∧ Tb Ps H ∧
  ∀ l ys H', Ext Ps H H' → H l = none → H' l = some (.lst ys) → Paired (TupI K H') ys (facesAt fss ns) → Q (.ref l) H'
/-! ### _law_wrong -/
/-! ### _law_is_order -/
def spIsOrderE (K : PySem.W.Frag) (Ps : Tbs) : Sp := fun vs H Q _ => ∃ (x y : V) (n kk : Int) (fss : List (List Int)) (d : PyData), vs = [x, y] ∧ AskX K Ps H x y n kk fss d ∧ ∀ b H', (b = true ↔ OrdD d fss) → Ext Ps H H' → Q (.bl b) H'
end
end Lf

namespace Lf
open PySem PySem.Spec PyProof.Rows L2 GxR GxA SrT EnT
theorem for_enT {K : PySem.W.Frag} {a : Addr} {xs : List V} {g : TG} {tb : TS} {D : Ends} {σ : L2.St} {H : Hp} (Pv : Nat → L2.St → Hp → Prop) (h0 : Pv 0 σ H) (hl : ∀ i σ H, Pv i σ H → SqT K H a xs)
    (hs : ∀ i x σ H T, xs[i]? = some x → Pv i σ H → H T = none → g (.ref T) σ (upd H T (.tup [.int (i : Nat), x])) fun σ2 H2 => tb { D with nx := Pv (i + 1), ct := Pv (i + 1), bk := D.nx } σ2 H2) (hd : ∀ σ H, Pv xs.length σ H → D.nx σ H) :
    ∃ W : Nat → Nat → L2.St → Hp → Prop, (∃ m, W 0 m σ H) ∧ ∀ i m σ H, W i m σ H →
      ((ItT K a).stop i H ∧ D.nx σ H) ∨ ((ItT K a).go i H ∧ ∃ N : L2.St → Hp → Prop, (∀ σ' H', N σ' H' → ∃ m', m' < m ∧ W (i + 1) m' σ' H') ∧ ∀ x H', (ItT K a).yld i H x H' → g x σ H' fun σ2 H2 => tb { D with nx := N, ct := N, bk := D.nx } σ2 H2) := by
  refine ⟨fun i m σ H => m = xs.length - i ∧ i ≤ xs.length ∧ Pv i σ H, ⟨xs.length, by simp, Nat.zero_le _, h0⟩, ?_⟩
  rintro i m σ H ⟨rfl, hi, p⟩
  have q := hl i σ H p
  by_cases hlt : i < xs.length
  · refine .inr ⟨⟨xs, xs[i], q, List.getElem?_eq_getElem hlt⟩, Pv (i + 1), fun σ' H' p' => ⟨xs.length - (i + 1), by omega, rfl, hlt, p'⟩, fun x H' y => ?_⟩
    obtain ⟨T, z, rfl, hT, rfl, hz⟩ := y
    exact hs i z σ H T (hz xs q) p hT
  · have e : i = xs.length := by omega
    subst e
    exact .inl ⟨⟨xs, q, rfl⟩, hd σ H p⟩
end Lf

set_option maxHeartbeats 4000000
namespace Lf
open PySem PySem.Spec PyProof.Rows L2 GxR GxA SrT EnT
/-! ### the two ways of a face that may be laid -/
theorem mayB_iff {laid : List (List Int)} {fc : List Int} : mayB laid fc = true ↔ ∀ o ∈ laid, ∃ one ∈ laid, ((comL fc one).length : Int) = (fc.length : Int) - 1 ∧ ∀ p ∈ comL fc o, p ∈ one := by
  unfold mayB
  rw [List.all_eq_true]
  constructor
  · intro h o ho
    have z := h o ho
    have e : ((besideL laid fc).filter fun one => decide ((comL (comL fc o) one).length = (comL fc o).length)) ≠ [] := by
      intro e
      rw [e] at z
      cases z
    obtain ⟨one, hone⟩ := List.exists_mem_of_ne_nil _ e
    obtain ⟨h1, h2⟩ := List.mem_filter.mp hone
    obtain ⟨h3, h4⟩ := List.mem_filter.mp h1
    refine ⟨one, h3, of_decide_eq_true h4, ?_⟩
    have e2 : decide ((comL (comL fc o) one).length = (comL fc o).length) = (comL fc o).all fun q => decide (q ∈ one) := len_filter_all _ _
    rw [e2] at h2
    exact fun p hp => of_decide_eq_true (List.all_eq_true.mp h2 p hp)
  · intro h o ho
    obtain ⟨one, h1, h2, h3⟩ := h o ho
    have hm : one ∈ (besideL laid fc).filter fun one => decide ((comL (comL fc o) one).length = (comL fc o).length) := by
      refine List.mem_filter.mpr ⟨List.mem_filter.mpr ⟨h1, decide_eq_true h2⟩, ?_⟩
      have e2 : decide ((comL (comL fc o) one).length = (comL fc o).length) = (comL fc o).all fun q => decide (q ∈ one) := len_filter_all _ _
      rw [e2]
      exact List.all_eq_true.mpr fun p hp => decide_eq_true (h3 p hp)
    cases e : ((besideL laid fc).filter fun one => decide ((comL (comL fc o) one).length = (comL fc o).length)) with
    | nil =>
      rw [e] at hm
      cases hm
    | cons x l => rfl
theorem mayB_eq {kk : Int} {laid : List (List Int)} {fc : List Int} (fl : (fc.length : Int) = kk) (fs : fc.Pairwise (· < ·)) : mayB laid fc = mayL kk laid fc := by
  have nf : fc.Nodup := fs.imp (fun {a b} h => by omega)
  rw [Bool.eq_iff_iff, mayB_iff]
  unfold mayL
  rw [Bool.and_eq_true, List.all_eq_true, Bool.not_eq_true', decide_eq_false_iff_not]
  constructor
  · intro h
    refine ⟨fun own ho => ?_, fun hin => ?_⟩
    · obtain ⟨o, ho1, rfl⟩ := List.mem_map.mp ho
      obtain ⟨one, h1, h2, h3⟩ := h o ho1
      refine List.any_eq_true.mpr ⟨comL fc one, List.mem_filter.mpr ⟨List.mem_map.mpr ⟨one, h1, rfl⟩, decide_eq_true (by omega)⟩, hasAll_all.mpr fun p hp => ?_⟩
      exact List.mem_filter.mpr ⟨(List.mem_filter.mp hp).1, decide_eq_true (h3 p hp)⟩
    · obtain ⟨one, h1, h2, h3⟩ := h fc hin
      have e : comL fc one = fc := by
        unfold comL
        exact List.filter_eq_self.mpr fun p hp => decide_eq_true (h3 p (List.mem_filter.mpr ⟨hp, decide_eq_true hp⟩))
      rw [e] at h2
      omega
  · rintro ⟨h, hin⟩ o ho
    obtain ⟨c, hc, hh⟩ := List.any_eq_true.mp (h (comL fc o) (List.mem_map.mpr ⟨o, ho, rfl⟩))
    obtain ⟨hc1, hc2⟩ := List.mem_filter.mp hc
    obtain ⟨one, h1, rfl⟩ := List.mem_map.mp hc1
    have := of_decide_eq_true hc2
    exact ⟨one, h1, by omega, fun p hp => of_decide_eq_true (List.mem_filter.mp (hasAll_all.mp hh p hp)).2⟩
abbrev sWrongN : Stmt := topS 62
abbrev sIsOrderN : Stmt := topS 63
theorem scWrongN : FnScope ["_law_stack", "_law_row", "_law_laid_here", "_law_place", "_law_number"] ["_law_stack", "_law_row"] (defScope sWrongN) := ⟨rfl, rfl, rfl, by decide +kernel, rfl, by decide +kernel, by decide +kernel⟩
theorem scIsOrderN : FnScope ["_law_stack", "_law_thing"] ["_law_stack", "_law_thing"] (defScope sIsOrderN) := ⟨rfl, rfl, rfl, by decide +kernel, rfl, by decide +kernel, by decide +kernel⟩
section
variable {P : Program} {w : World} {K : PySem.W.Frag} {mg : Str → Option Value} {base : Heap} {Ps : Tbs} {H H' H0 : Hp} {k : Nat} {f c : Addr} {fd : FuncData}
theorem ok_wrongN {fM cM : Addr} {fdM : FuncData} (D : Def K mg "_law_wrong_at" sWrongN ["_law_stack", "_law_row"] f fd c) (DM : Def K mg "_law_may" sMayN ["_law_laid_here", "_law_face"] fM fdM cM) (GM : FnOk P w K mg base CX0 k fM fdM ["_law_laid_here", "_law_face"] (spMayB K Ps)) (me : mg "enumerate" = none) : FnOk P w K mg base CX0 (k + 1) f fd ["_law_stack", "_law_row"] (spWrong K Ps) := by
  refine D.ok (k := k) scWrongN (fun vs H Q E h => ?_) (fun A outer s H vs Q E hr h => ?_)
  · obtain ⟨x, y, n, kk, fss, ns, rfl, _⟩ := h
    rfl
  · obtain ⟨x, y, n, kk, fss, ns, rfl, h0, q⟩ := h
    obtain ⟨a, fa, xs, rfl, h1, h2, h3⟩ := id h0.stk
    obtain ⟨b, rfl, hB⟩ := id h0.row
    have f4 := facesAt_4 h0.ok h0.bel
    have l100 := h0.len
    have ln : (ns.map V.int).length = ns.length := List.length_map _
    refine ⟨_, (pss_cons (ps_set (i := 2) scWrongN.nd rfl (.inl rfl) (pe_lst pa_nil)) (pss_cons (ps_for PassesOwn.never rfl (pi_enumT (by rfl) me (pa_cons (pv 1) pa_nil)) (pg_tup rfl (pgs_cons (pg_name (i := 3) scWrongN.nd rfl (.inl rfl)) (pgs_cons (pg_name (i := 4) scWrongN.nd rfl (.inl rfl)) pgs_nil))) (pss_cons (ps_if (pt_not (pt_val (pcl DM GM hr (pa_cons (pv 2) (pa_cons (pe_ix (show IxR _ (rIxT K) from ix_tup) (pe_ix (show IxR _ (rIxT K) from ix_tup) (pv 0) pe_int (fun _ _ => rfl)) (pv 4) (fun _ _ => rfl)) pa_nil))))) (pss_one (ps_ret (pv 3))) pss_nil) (pss_one (ps_expr (pe_bm PySem.F.plainAttrs_list PySem.F.slot_list_append PySem.F.type_list_append mt_append (pv 2) (pa_cons (pe_ix (show IxR _ (rIxT K) from ix_tup) (pe_ix (show IxR _ (rIxT K) from ix_tup) (pv 0) pe_int (fun _ _ => rfl)) (pv 4) (fun _ _ => rfl)) pa_nil)))))) (pss_one (ps_ret pe_non)))), ?_⟩
    refine tseq_intro fun R hR => ?_
    refine ⟨Nat.zero_le _, fun L nL => ?_⟩
    have e1 := Ext.new (o := .lst []) h0.tb nL
    have hL : upd H L (.lst []) L = some (.lst []) := upd_same
    generalize upd H L (.lst []) = H1 at *
    show R [some (.ref a), some (.ref b), some (.ref L), none, none] H1
    rw [hR]
    clear hR
    refine ⟨.ref b, rfl, b, _, rfl, e1.sqT hB, for_enT (K := K) (a := b) (xs := ns.map V.int) (fun i σ H3 => Ext Ps H H3 ∧ (∃ ls, H3 L = some (.lst ls) ∧ Paired (TupI K H3) ls ((facesAt fss ns).take i)) ∧ wrongAt [] (facesAt fss ns) 0 = wrongAt ((facesAt fss ns).take i) ((facesAt fss ns).drop i) i ∧ ∃ y3 y4 : Option V, σ = [some (.ref a), some (.ref b), some (.ref L), y3, y4]) ⟨e1, ⟨[], hL, .nil⟩, rfl, none, none, rfl⟩ (fun i σ H3 p => p.1.sqT hB) (fun i z σ H3 T hz p hT => ?_) (fun σ H3 p => ?_)⟩
    · obtain ⟨e3, ⟨ls, hls, hlp⟩, hw, y3, y4, rfl⟩ := p
      obtain ⟨r, hr0, rfl⟩ := map_int hz
      have hi' : i < ns.length := (List.getElem?_eq_some_iff.mp hr0).1
      have eT := Ext.new (o := .tup [.int (i : Nat), .int r]) e3.tb hT
      have hTT : SqT K (upd H3 T (.tup [.int (i : Nat), .int r])) T [.int (i : Nat), .int r] := .inl (.inl upd_same)
      have hls4 := eT.lst hls
      have hlp4 := eT.tups hlp
      have e4 := e3.trans eT
      generalize upd H3 T (.tup [.int (i : Nat), .int r]) = H4 at *
      refine ⟨T, _, rfl, hTT, rfl, _, _, rfl, _, _, rfl, rfl, ?_⟩
      obtain ⟨r0, r1⟩ := h0.bel r (List.mem_of_getElem? hr0)
      have hlt : r.toNat < fss.length := by omega
      obtain ⟨z, hzx, hI⟩ := paired_get' h3 (List.getElem?_eq_getElem hlt)
      have hfc : (facesAt fss ns)[i]? = some fss[r.toNat] := by
        unfold facesAt
        rw [List.getElem?_map, hr0]
        show some (fss.getD r.toNat []) = _
        rw [List.getD_eq_getElem?_getD, List.getElem?_eq_getElem hlt]
        rfl
      have hfm : fss[r.toNat] ∈ fss := List.getElem_mem hlt
      have hf4 := h0.ok.len4 _ hfm
      have hin : ∀ g ∈ (facesAt fss ns).take i, g ∈ fss := fun g hg => f4 g (List.mem_of_mem_take hg)
      have hm : mayB ((facesAt fss ns).take i) fss[r.toNat] = liesOn ((facesAt fss ns).take i) fss[r.toNat] := (mayB_eq (h0.ok.len _ hfm) (h0.ok.ris _ hfm)).trans (may_lies (fun g hg => h0.ok.len g (hin g hg)) (fun g hg => h0.ok.ris g (hin g hg)) (h0.ok.len _ hfm) (h0.ok.ris _ hfm))
      refine tseq_intro fun R hR => ?_
      refine ⟨.ref L, rfl, .ref a, rfl, a, _, 2, .ref fa, rfl, rfl, e4.sqT h1, at2, .int r, rfl, fa, xs, r, z, rfl, rfl, e4.sqT h2, atI_int r0 hzx, L, ls, z, (facesAt fss ns).take i, fss[r.toNat], rfl, .inl (.inl hls4), hlp4, e4.tupI hI, by rw [List.length_take]; omega, by omega, e4.tb, fun H5 e5 => ⟨_, rfl, ?_⟩⟩
      rw [hm]
      rw [wrong_step hfc] at hw
      have x5 := e4.trans e5
      cases hB2 : liesOn ((facesAt fss ns).take i) fss[r.toNat] with
      | false =>
        rw [hB2, if_neg (by simp)] at hw
        have z := q _ x5
        rw [hw] at z
        exact iteT ⟨.int (i : Nat), rfl, z⟩
      | true =>
        rw [hB2, if_pos rfl] at hw
        refine iteF ?_
        show R [some (.ref a), some (.ref b), some (.ref L), some (.int (i : Nat)), some (.int r)] H5
        rw [hR]
        clear hR
        have hls5 := e5.lst hls4
        have lsl := Paired.length hlp
        rw [List.length_take] at lsl
        refine ⟨.ref L, rfl, .inl ⟨rfl, _, .inl (.inl hls5)⟩, .ref a, rfl, a, _, 2, .ref fa, rfl, rfl, x5.sqT h1, at2, .int r, rfl, fa, xs, r, z, rfl, rfl, x5.sqT h2, atI_int r0 hzx, L, ls, z, rfl, rfl, hls5, small1000 (by omega), ?_⟩
        refine ⟨x5.write nL hls5 (fun q z => by cases z), ⟨_, upd_same, ?_⟩, hw, _, _, rfl⟩
        rw [List.take_add_one, hfc]
        exact tups_put hls5 (paired_app (e5.tups hlp4) (.cons (x5.tupI hI) .nil))
    · obtain ⟨e3, _, hw, y3, y4, rfl⟩ := p
      have el : (ns.map V.int).length = (facesAt fss ns).length := by rw [facesAt_len, ln]
      rw [el, List.drop_length] at hw
      have z := q _ e3
      rw [hw] at z
      exact z
theorem ok_isOrderN {fR cR fW cW : Addr} {fdR fdW : FuncData} (D : Def K mg "_law_is_order" sIsOrderN ["_law_stack", "_law_thing"] f fd c) (DR : Def K mg "_law_is_row" sIsRowL ["_law_stack", "_law_thing"] fR fdR cR) (GR : FnOk P w K mg base CX0 k fR fdR ["_law_stack", "_law_thing"] (spIsRowX K Ps))
    (DW : Def K mg "_law_wrong_at" sWrongN ["_law_stack", "_law_row"] fW fdW cW) (GW : FnOk P w K mg base CX0 k fW fdW ["_law_stack", "_law_row"] (spWrong K Ps)) : FnOk P w K mg base CX0 (k + 1) f fd ["_law_stack", "_law_thing"] (spIsOrderE K Ps) := by
  refine D.ok (k := k) scIsOrderN (fun vs H Q E h => ?_) (fun A outer s H vs Q E hr h => ?_)
  · obtain ⟨x, y, n, kk, fss, d, rfl, _⟩ := h
    rfl
  · obtain ⟨x, y, n, kk, fss, d, rfl, h0, q⟩ := h
    refine ⟨_, pss_one (ps_ret (pe_and (pcl DR GR hr (pa_cons (pv 0) (pa_cons (pv 1) pa_nil))) (pe_one (pe_cmpR op_isN (pcl DW GW hr (pa_cons (pv 0) (pa_cons (pv 1) pa_nil))) pe_non (nomark _))))), ?_⟩
    refine ⟨x, rfl, y, rfl, x, y, n, kk, fss, d, rfl, h0, fun b H2 hb e2 => ⟨b, rfl, ?_⟩⟩
    cases b with
    | false => exact iteF (q false _ ⟨fun z => (nomatch z), fun z => absurd (hb.mpr z.row) (by simp)⟩ e2)
    | true =>
      obtain ⟨ns, rfl, hp⟩ := hb.mp rfl
      refine iteT ⟨x, rfl, y, rfl, x, y, n, kk, fss, ns, rfl, (h0.ext e2).row hp, fun H3 e3 => ⟨rfl, ?_⟩⟩
      refine q _ _ ?_ (e2.trans e3)
      cases hw : wrongAt [] (facesAt fss ns) 0 with
      | none => exact ⟨fun _ => ⟨ns, rfl, hp, hw⟩, fun _ => decide_eq_true rfl⟩
      | some p => exact ⟨fun z => absurd (of_decide_eq_true z) (by intro q; cases q), fun ⟨ms, em, z⟩ => by
          rw [← tD_inj em] at z
          exact absurd (z.2.symm.trans hw) (by simp)⟩
end
end Lf

set_option maxHeartbeats 4000000
namespace Lf
open PySem PySem.Spec PyProof.Rows L2 GxR GxA SrT EnT
abbrev sNeedTwo : Stmt := topS 42
abbrev sNeedRoom : Stmt := topS 41
abbrev sJOrd : Stmt := topS 43
abbrev sDue82 : Stmt := topS 68
abbrev sCame82 : Stmt := topS 66
theorem scNeedTwo : FnScope ["one", "other"] ["one", "other"] (defScope sNeedTwo) := ⟨rfl, rfl, rfl, by decide +kernel, rfl, by decide +kernel, by decide +kernel⟩
theorem scNeedRoom : FnScope ["n", "k"] ["n", "k"] (defScope sNeedRoom) := ⟨rfl, rfl, rfl, by decide +kernel, rfl, by decide +kernel, by decide +kernel⟩
theorem scJOrd : FnScope ["one", "other", "order", "another", "many", "number", "more"] ["one", "other", "order", "another"] (defScope sJOrd) := ⟨rfl, rfl, rfl, by decide +kernel, rfl, by decide +kernel, by decide +kernel⟩
theorem scDue82 : FnScope ["_law_one", "_law_other", "_law_order", "_law_another", "_law_found", "_law_first", "_law_second"] ["_law_one", "_law_other", "_law_order", "_law_another"] (defScope sDue82) := ⟨rfl, rfl, rfl, by decide +kernel, rfl, by decide +kernel, by decide +kernel⟩
theorem scCame82 : FnScope ["_law_one", "_law_other", "_law_order", "_law_another", "_law_e"] ["_law_one", "_law_other", "_law_order", "_law_another"] (defScope sCame82) := ⟨rfl, rfl, rfl, by decide +kernel, rfl, by decide +kernel, by decide +kernel⟩
/-- a comprehension of two for, the first over a tuple -/
theorem lc2_tup {K : PySem.W.Frag} {a : Addr} {xs : List V} {g g1 : TG} {tt tt1 : TT} {wi1 : TI} {te : TE} {vs vs1 : List Nat} {σ : L2.St} {H1 : Hp} {D : Addr} {Qd : Hp → Prop} (Pv : Nat → Hp → Prop) (h0 : Pv 0 (upd H1 D (.lst []))) (hl : ∀ i H, i ≤ xs.length → Pv i H → SqT K H a xs)
    (hs : ∀ i x H, xs[i]? = some x → Pv i H → g x (wipe σ vs) H fun σ2 H2 => wipe σ2 vs = wipe σ vs ∧ tt σ2 H2 fun b H3 => if b = true then wi1 σ2 H3 fun J1 H4 => In2 J1 g1 tt1 te vs1 D σ2 H4 (Pv (i + 1)) else Pv (i + 1) H3) (hd : ∀ H, Pv xs.length H → Qd H) :
    ∃ W : Nat → Nat → Hp → Prop, (∃ m, W 0 m (upd H1 D (.lst []))) ∧ ∀ i m H, W i m H → ((Itt K a).stop i H ∧ Qd H) ∨ ((Itt K a).go i H ∧ ∃ N : Hp → Prop, (∀ H', N H' → ∃ m', m' < m ∧ W (i + 1) m' H') ∧
      ∀ x H', (Itt K a).yld i H x H' → g x (wipe σ vs) H' fun σ2 H2 => wipe σ2 vs = wipe σ vs ∧ tt σ2 H2 fun b H3 => if b = true then wi1 σ2 H3 fun J1 H4 => In2 J1 g1 tt1 te vs1 D σ2 H4 N else N H3) := by
  refine ⟨fun u v HH => v = xs.length - u ∧ u ≤ xs.length ∧ Pv u HH, ⟨xs.length, (by omega), (Nat.zero_le _), h0⟩, ?_⟩
  rintro u v HH ⟨rfl, hu, pu⟩
  have qu := hl u HH hu pu
  by_cases lt : u < xs.length
  · refine Or.inr ⟨⟨xs, xs[u], qu, (by simp [lt])⟩, Pv (u + 1), fun H9 p9 => ⟨xs.length - (u + 1), (by omega), rfl, lt, p9⟩, fun x H9 y9 => ?_⟩
    obtain ⟨e9, z9⟩ := y9
    subst e9
    exact hs u x _ (z9 xs qu) pu
  · obtain rfl : u = xs.length := by omega
    exact Or.inl ⟨⟨xs, qu, Nat.le_refl _⟩, hd HH pu⟩
/-! ### the order of the joined one -/
def jordL (ns1 ns2 : List Int) : List Int := ns1.flatMap fun a => ns2.map fun b => a * (ns2.length : Int) + b
theorem jord_take {ns1 ns2 : List Int} {i : Nat} {a : Int} (h : ns1[i]? = some a) : jordL (ns1.take (i + 1)) ns2 = jordL (ns1.take i) ns2 ++ ns2.map fun b => a * (ns2.length : Int) + b := by
  unfold jordL
  rw [List.take_add_one, h, List.flatMap_append]
  simp
theorem jord_len (ns1 ns2 : List Int) : (jordL ns1 ns2).length = ns1.length * ns2.length := by
  unfold jordL
  induction ns1 with
  | nil => simp
  | cons a ns1 ih => rw [List.flatMap_cons, List.length_append, ih, List.length_map, List.length_cons, Nat.succ_mul]; omega
theorem map_take {ns : List Int} {f : Int → Int} {j : Nat} {b : Int} (h : ns[j]? = some b) : (ns.take (j + 1)).map f = (ns.take j).map f ++ [f b] := by
  rw [List.take_add_one, h]
  simp
section
variable {P : Program} {w : World} {K : PySem.W.Frag} {mg : Str → Option Value} {base : Heap} {Ps : Tbs} {H H' H0 : Hp} {k : Nat} {f c : Addr} {fd : FuncData}
variable {C : Nat → Addr} {CY CS CO CG : Addr}
theorem BadS.ext {x : V} {E : XK} (h : BadS K Ps CS x H E) (e : Ext Ps H H') : BadS K Ps CS x H' E := by
  obtain ⟨d, h1, h2, h3, h4, h5⟩ := h
  exact ⟨d, e.th h1, h2, h3, e.tb, fun H2 e2 => h5 H2 (e.trans e2)⟩
theorem TooG.ext {m M : Nat} {E : XK} (h : TooG Ps CG m M H E) (e : Ext Ps H H') : TooG Ps CG m M H' E := fun d H2 e2 n h2 => h d H2 (e.trans e2) (e.free n) h2
def spNeedTwo (K : PySem.W.Frag) (Ps : Tbs) (CS : Addr) : Sp := fun vs H Q E => ∃ (x y : V), vs = [x, y] ∧ (BadS K Ps CS x H E ∨ ∃ (n kk : Int) (fss : List (List Int)), Stk K H x n kk fss ∧ StkOk n kk fss ∧ Tb Ps H ∧ (BadS K Ps CS y H E ∨ ∃ (n2 k2 : Int) (fs2 : List (List Int)), Stk K H y n2 k2 fs2 ∧ StkOk n2 k2 fs2 ∧ ∀ H', Ext Ps H H' → Q .non H'))
theorem ok_needTwo {fS cS : Addr} {fdS : FuncData} (D : Def K mg "need_two" sNeedTwo ["one", "other"] f fd c) (DS : Def K mg "need_stack" sNeedStack ["stack"] fS fdS cS) (GS : FnOk P w K mg base (L2.CX P w) (k) fS fdS ["stack"] (spNeedStack2 K Ps CS)) : FnOk P w K mg base (L2.CX P w) (k + 1) f fd ["one", "other"] (spNeedTwo K Ps CS) := by
  refine D.okX (k := k) scNeedTwo (fun vs H Q E h => ?_) (fun A outer s H vs Q E hr tk h => ?_)
  · obtain ⟨x, y, rfl, _⟩ := h
    rfl
  · obtain ⟨x, y, rfl, h⟩ := h
    refine ⟨_, (pss_cons (ps_expr (pclX DS GS hr tk (pa_cons (pv 0) pa_nil))) (pss_one (ps_expr (pclX DS GS hr tk (pa_cons (pv 1) pa_nil))))), ?_⟩
    rcases h with ⟨d, h1, h2, h3, h4, h5⟩ | ⟨n, kk, fss, hS, S, ht, h⟩
    · exact ⟨x, rfl, .inr ⟨x, d, rfl, h1, h2, h3, h4, h5⟩⟩
    refine ⟨x, rfl, .inl ⟨x, n, kk, fss, rfl, hS, S, ht, fun H1 e1 => ?_⟩⟩
    rcases h with h | ⟨n2, k2, fs2, hS2, S2, q⟩
    · obtain ⟨d, h1, h2, h3, h4, h5⟩ := h.ext e1
      exact ⟨y, rfl, .inr ⟨y, d, rfl, h1, h2, h3, h4, h5⟩⟩
    · exact ⟨y, rfl, .inl ⟨y, n2, k2, fs2, rfl, e1.stk hS2, S2, e1.tb, fun H2 e2 => q H2 (e1.trans e2)⟩⟩
def spNeedRoom (Ps : Tbs) (CG : Addr) : Sp := fun vs H Q E => ∃ (n kk : Nat), vs = [.int n, .int kk] ∧ n ≤ 100 ∧ kk ≤ 100 ∧ Tb Ps H ∧ (8 < n → TooG Ps CG n 8 H E) ∧ (n ≤ 8 → 4 < kk → TooG Ps CG kk 4 H E) ∧ (n ≤ 8 → kk ≤ 4 → Q .non H)
theorem ok_needRoom {fM cM : Addr} {fdM : FuncData} {t8 t4 : Tok} (D : Def K mg "need_room" sNeedRoom ["n", "k"] f fd c) (DM : Def K mg "need_at_most" sAtMost ["many", "most"] fM fdM cM) (GM : FnOk P w K mg base (L2.CX P w) (k) fM fdM ["many", "most"] (spAtMost Ps CG)) (m8 : mg "MOST_POINTS" = some (.int 8 t8)) (m4 : mg "MOST_IN_FACE" = some (.int 4 t4)) : FnOk P w K mg base (L2.CX P w) (k + 1) f fd ["n", "k"] (spNeedRoom Ps CG) := by
  refine D.okX (k := k) scNeedRoom (fun vs H Q E h => ?_) (fun A outer s H vs Q E hr tk h => ?_)
  · obtain ⟨n, kk, rfl, _⟩ := h
    rfl
  · obtain ⟨n, kk, rfl, hn, hk, ht, q1, q2, q3⟩ := h
    refine ⟨_, (pss_cons (ps_expr (pclX DM GM hr tk (pa_cons (pv 0) (pa_cons (pe_glob rfl m8 (v := .int 8) ⟨_, rfl⟩) pa_nil)))) (pss_one (ps_expr (pclX DM GM hr tk (pa_cons (pv 1) (pa_cons (pe_glob rfl m4 (v := .int 4) ⟨_, rfl⟩) pa_nil)))))), ?_⟩
    refine ⟨.int n, rfl, n, 8, rfl, hn, by decide, ht, fun h8 => ?_, q1⟩
    exact ⟨.int kk, rfl, kk, 4, rfl, hk, by decide, ht, fun h4 => q3 h8 h4, q2 h8⟩
/-- both are such -/
structure Both (K : PySem.W.Frag) (Ps : Tbs) (H : Hp) (x1 x2 y1 y2 : V) (n1 k1 n2 k2 : Int) (fs1 fs2 : List (List Int)) (d1 d2 : PyData) : Prop where
  one : AskX K Ps H x1 y1 n1 k1 fs1 d1
  two : AskX K Ps H x2 y2 n2 k2 fs2 d2
  l1 : fs1.length ≤ 30
  l2 : fs2.length ≤ 30
theorem Both.ext {x1 x2 y1 y2 : V} {n1 k1 n2 k2 : Int} {fs1 fs2 : List (List Int)} {d1 d2 : PyData} (h : Both K Ps H x1 x2 y1 y2 n1 k1 n2 k2 fs1 fs2 d1 d2) (e : Ext Ps H H') : Both K Ps H' x1 x2 y1 y2 n1 k1 n2 k2 fs1 fs2 d1 d2 := ⟨h.one.ext e, h.two.ext e, h.l1, h.l2⟩
def spJOrd (K : PySem.W.Frag) (Ps : Tbs) (CS CO CG : Addr) : Sp := fun vs H Q E => ∃ (x1 x2 y1 y2 : V), vs = [x1, x2, y1, y2] ∧ (BadS K Ps CS x1 H E ∨ (∃ (n kk : Int) (fss : List (List Int)), Stk K H x1 n kk fss ∧ StkOk n kk fss ∧ Tb Ps H ∧ BadS K Ps CS x2 H E) ∨
  ∃ (n1 k1 n2 k2 : Int) (fs1 fs2 : List (List Int)) (d1 d2 : PyData), Both K Ps H x1 x2 y1 y2 n1 k1 n2 k2 fs1 fs2 d1 d2 ∧ (¬ (OrdD d1 fs1 ∧ OrdD d2 fs2) → ∀ H', Ext Ps H H' → E (.ref CO) none H') ∧
    ∀ ns1 ns2, d1 = tD ns1 → isOrd fs1 ns1 → d2 = tD ns2 → isOrd fs2 ns2 → (8 < n1 + n2 → TooG Ps CG (n1 + n2).toNat 8 H E) ∧ (n1 + n2 ≤ 8 → 4 < k1 + k2 → TooG Ps CG (k1 + k2).toNat 4 H E) ∧ (n1 + n2 ≤ 8 → k1 + k2 ≤ 4 → ∀ v H', Ext Ps H H' → TupI K H' v (jordL ns1 ns2) → Q v H'))
theorem ok_jOrd {fT cT fO cO fR cR : Addr} {fdT fdO fdR : FuncData} (D : Def K mg "joined_order" sJOrd ["one", "other", "order", "another"] f fd c) (DT : Def K mg "need_two" sNeedTwo ["one", "other"] fT fdT cT) (GT : FnOk P w K mg base (L2.CX P w) (k) fT fdT ["one", "other"] (spNeedTwo K Ps CS)) (DO : Def K mg "need_order" sNeedOrder ["stack", "order"] fO fdO cO) (GO : FnOk P w K mg base (L2.CX P w) (k) fO fdO ["stack", "order"] (spNeedOrderX K Ps CO)) (DR : Def K mg "need_room" sNeedRoom ["n", "k"] fR fdR cR) (GR : FnOk P w K mg base (L2.CX P w) (k) fR fdR ["n", "k"] (spNeedRoom Ps CG)) (ml : mg "len" = none) (mt : mg "tuple" = none) :
    FnOk P w K mg base (L2.CX P w) (k + 1) f fd ["one", "other", "order", "another"] (spJOrd K Ps CS CO CG) := by
  refine D.okX (k := k) scJOrd (fun vs H Q E h => ?_) (fun A outer s H vs Q E hr tk h => ?_)
  · obtain ⟨x1, x2, y1, y2, rfl, _⟩ := h
    rfl
  · obtain ⟨x1, x2, y1, y2, rfl, h⟩ := h
    refine ⟨_, (pss_cons (ps_expr (pclX DT GT hr tk (pa_cons (pv 0) (pa_cons (pv 1) pa_nil)))) (pss_cons (ps_expr (pclX DO GO hr tk (pa_cons (pv 0) (pa_cons (pv 2) pa_nil)))) (pss_cons (ps_expr (pclX DO GO hr tk (pa_cons (pv 1) (pa_cons (pv 3) pa_nil)))) (pss_cons (ps_expr (pclX DR GR hr tk (pa_cons (pe_op op_add (pe_ix (show IxR _ (rIxT K) from ix_tup) (pv 0) pe_int (fun _ _ => rfl)) (pe_ix (show IxR _ (rIxT K) from ix_tup) (pv 1) pe_int (fun _ _ => rfl))) (pa_cons (pe_op op_add (pe_ix (show IxR _ (rIxT K) from ix_tup) (pv 0) pe_int (fun _ _ => rfl)) (pe_ix (show IxR _ (rIxT K) from ix_tup) (pv 1) pe_int (fun _ _ => rfl))) pa_nil)))) (pss_cons (ps_set (i := 4) scJOrd.nd rfl (.inr rfl) (pe_callB (call_lenS (K := K) rfl) (by rfl) ml PySem.boot_len (pa_cons (pv 3) pa_nil))) (pss_one (ps_ret (pe_callTy call_tuple_of (by rfl) mt (by decide +kernel) (pa_cons (pe_lc2 (own := [("number", 5), ("more", 6)]) (vs1 := [6]) (g := gName 5) (g1 := gName 6) (by rfl) scJOrd.nd (pi_tup (pv 2)) (blkOk_by (N := ["one", "other", "order", "another", "many", "number", "more"]) (sc := defScope sJOrd) (by decide +kernel)) (by decide) (fun _ _ _ _ _ => pg_name (i := 5) scJOrd.nd rfl (Or.inl rfl)) (fun _ _ _ _ _ => pts_nil) (fun _ _ _ _ _ => (show PI _ _ _ (iTup K _) from pi_tup (pv 3))) (fun _ _ _ _ _ => pg_name (i := 6) scJOrd.nd rfl (Or.inl rfl)) (fun _ _ _ _ _ => pts_nil) (fun _ _ _ _ _ => (pe_op op_add (pe_op op_mul (pv 5) (pv 4)) (pv 6)))) pa_nil))))))))), ?_⟩
    refine tseq_intro fun R hR => ?_
    rcases h with h | ⟨n, kk, fss, hS, S, ht, h⟩ | ⟨n1, k1, n2, k2, fs1, fs2, d1, d2, B, hno, hyes⟩
    · exact ⟨x1, rfl, x2, rfl, x1, x2, rfl, .inl h⟩
    · exact ⟨x1, rfl, x2, rfl, x1, x2, rfl, .inr ⟨n, kk, fss, hS, S, ht, .inl h⟩⟩
    refine ⟨x1, rfl, x2, rfl, x1, x2, rfl, .inr ⟨n1, k1, fs1, B.one.stk, B.one.ok, B.one.tb, .inr ⟨n2, k2, fs2, B.two.stk, B.two.ok, fun H1 e1 => ?_⟩⟩⟩
    show R [some x1, some x2, some y1, some y2, none, none, none] H1
    rw [hR]
    clear hR
    have B1 := B.ext e1
    refine tseq_intro fun R hR => ?_
    refine ⟨x1, rfl, y1, rfl, x1, y1, n1, k1, fs1, d1, rfl, B1.one, fun H2 e2 => ⟨fun o1 => ?_, fun o1 => hno (fun z => o1 z.1) _ (e1.trans e2)⟩⟩
    show R [some x1, some x2, some y1, some y2, none, none, none] H2
    rw [hR]
    clear hR
    have B2 := B1.ext e2
    refine tseq_intro fun R hR => ?_
    refine ⟨x2, rfl, y2, rfl, x2, y2, n2, k2, fs2, d2, rfl, B2.two, fun H3 e3 => ⟨fun o2 => ?_, fun o2 => hno (fun z => o2 z.2) _ (e1.trans (e2.trans e3))⟩⟩
    show R [some x1, some x2, some y1, some y2, none, none, none] H3
    rw [hR]
    clear hR
    have B3 := B2.ext e3
    have E3 := e1.trans (e2.trans e3)
    clear B1 B2
    obtain ⟨ns1, rfl, ho1⟩ := o1
    obtain ⟨ns2, rfl, ho2⟩ := o2
    obtain ⟨q1, q2, q3⟩ := hyes ns1 ns2 rfl ho1 rfl ho2
    have a1 := B.one.ok.n1
    have a2 := B.one.ok.n8
    have a3 := B.two.ok.n1
    have a4 := B.two.ok.n8
    have b1 := B.one.ok.k0
    have b2 := B.one.ok.k4
    have b3 := B.two.ok.k0
    have b4 := B.two.ok.k4
    have en : ((n1 + n2).toNat : Int) = n1 + n2 := Int.toNat_of_nonneg (by omega)
    have ek : ((k1 + k2).toNat : Int) = k1 + k2 := Int.toNat_of_nonneg (by omega)
    obtain ⟨s1, fa1, xs1, rfl, g1, _, _⟩ := id B3.one.stk
    obtain ⟨s2, fa2, xs2, rfl, g2, _, _⟩ := id B3.two.stk
    refine tseq_intro fun R hR => ?_
    refine ⟨.ref s1, rfl, s1, _, 0, .int n1, rfl, rfl, g1, atI_nat (j := 0) rfl, .ref s2, rfl, s2, _, 0, .int n2, rfl, rfl, g2, atI_nat (j := 0) rfl, n1, n2, rfl, rfl, .ref s1, rfl, s1, _, 1, .int k1, rfl, rfl, g1, atI_nat (j := 1) rfl, .ref s2, rfl, s2, _, 1, .int k2, rfl, rfl, g2, atI_nat (j := 1) rfl, k1, k2, rfl, rfl, ?_⟩
    refine ⟨(n1 + n2).toNat, (k1 + k2).toNat, by rw [en, ek]; rfl, by omega, by omega, B3.one.tb, fun h8 => (q1 (by omega)).ext E3, fun h8 h4 => (q2 (by omega) (by omega)).ext E3, fun h8 h4 => ?_⟩
    have q := q3 (by omega) (by omega)
    show R [some (.ref s1), some (.ref s2), some y1, some y2, none, none, none] H3
    rw [hR]
    clear hR
    obtain ⟨t1, rfl, hT1⟩ := th_tupI B3.one.th
    obtain ⟨t2, rfl, hT2⟩ := th_tupI B3.two.th
    have hl1 : ns1.length ≤ 30 := by rw [row_len ho1.1]; exact B.l1
    have hl2 : ns2.length ≤ 30 := by rw [row_len ho2.1]; exact B.l2
    have ml2 : (ns2.map V.int).length = ns2.length := List.length_map ..
    have ml1 : (ns1.map V.int).length = ns1.length := List.length_map ..
    refine tseq_intro fun R hR => ?_
    refine ⟨.ref t2, rfl, t2, _, rfl, .inr hT2, ?_⟩
    rw [ml2]
    show R [some (.ref s1), some (.ref s2), some (.ref t1), some (.ref t2), some (.int (ns2.length : Nat)), none, none] H3
    rw [hR]
    clear hR
    refine ⟨.ref t1, rfl, t1, rfl, ⟨_, hT1⟩, fun D0 hD => lc2_tup (K := K) (a := t1) (xs := ns1.map V.int) (fun i HX => CP Ps FI H3 D0 (jordL (ns1.take i) ns2) (30 * i) HX) (by rw [List.take_zero]; exact CP.start B3.one.tb hD) (fun i HX _ p => p.ext.sqT hT1) (fun i x HX hx p => ?_) (fun HX p => ?_)⟩
    · obtain ⟨a, ha, rfl⟩ := map_int hx
      have hi : i < ns1.length := (List.getElem?_eq_some_iff.mp ha).1
      have ab := row_bel ho1.1 a (List.mem_of_getElem? ha)
      have la := B.l1
      refine ⟨rfl, yes_ (iteT ⟨.ref t2, rfl, t2, rfl, ⟨_, p.ext.sqT hT2⟩, in2_tup (K := K) (t := t2) (ys := ns2.map V.int) (fun j HY => CP Ps FI H3 D0 (jordL (ns1.take i) ns2 ++ (ns2.take j).map fun b => a * (ns2.length : Int) + b) (30 * i + j) HY) (by rw [List.take_zero, List.map_nil, List.append_nil]; exact p) (fun j HY _ p => p.ext.sqT hT2) (fun j y HY hy p => ?_) (fun HY p => ?_)⟩)⟩
      · obtain ⟨b, hb, rfl⟩ := map_int hy
        have hj : j < ns2.length := (List.getElem?_eq_some_iff.mp hb).1
        refine ⟨rfl, yes_ (iteT ⟨.int a, rfl, .int (ns2.length : Nat), rfl, a, _, rfl, rfl, .inl ⟨by omega, by omega⟩, .int b, rfl, _, _, rfl, rfl, ?_⟩)⟩
        have r := CP.put (stbI (K := K)) hD (by omega) p (show FI HY (.int (a * (ns2.length : Int) + b)) (a * (ns2.length : Int) + b) from rfl)
        rw [map_take hb, ← List.append_assoc]
        exact r
      · rw [jord_take ha]
        have r := p
        rw [ml2, List.take_length] at r
        exact r.mono (by omega)
    · obtain ⟨ys, z1, z2, z3⟩ := p.at_
      rw [ml1, List.take_length] at z2
      rw [paired_ints z2] at z1
      refine ⟨D0, _, rfl, .inl ⟨.inl (.inl z1), fun tp ntp => ?_⟩⟩
      exact q _ _ (E3.trans (p.ext.trans (Ext.new p.ext.tb ntp))) ⟨tp, rfl, .inl (.inl upd_same)⟩
/-! ### the law's own -/
/-- what is due -/
def Ans82 (K : PySem.W.Frag) (H : Hp) (n1 k1 n2 k2 : Int) (fs1 fs2 : List (List Int)) (d1 d2 : PyData) (v : V) : Prop := (¬ (OrdD d1 fs1 ∧ OrdD d2 fs2) ∧ v = .str "order") ∨ ∃ ns1 ns2, d1 = tD ns1 ∧ isOrd fs1 ns1 ∧ d2 = tD ns2 ∧ isOrd fs2 ns2 ∧
  ((8 < n1 + n2 ∧ ∃ l, v = .ref l ∧ H l = some (.lst [.str "great", .int (n1 + n2), .int 8])) ∨ (n1 + n2 ≤ 8 ∧ 4 < k1 + k2 ∧ ∃ l, v = .ref l ∧ H l = some (.lst [.str "great", .int (k1 + k2), .int 4])) ∨ (n1 + n2 ≤ 8 ∧ k1 + k2 ≤ 4 ∧ TupI K H v (jordL ns1 ns2)))
theorem Ans82.ext {n1 k1 n2 k2 : Int} {fs1 fs2 : List (List Int)} {d1 d2 : PyData} {v : V} (h : Ans82 K H n1 k1 n2 k2 fs1 fs2 d1 d2 v) (e : Ext Ps H H') : Ans82 K H' n1 k1 n2 k2 fs1 fs2 d1 d2 v := by
  rcases h with h | ⟨ns1, ns2, h1, h2, h3, h4, h⟩
  · exact .inl h
  · refine .inr ⟨ns1, ns2, h1, h2, h3, h4, ?_⟩
    rcases h with ⟨a, l, b, c⟩ | ⟨a, b, l, c, d⟩ | ⟨a, b, c⟩
    · exact .inl ⟨a, l, b, e.lst c⟩
    · exact .inr (.inl ⟨a, b, l, c, e.lst d⟩)
    · exact .inr (.inr ⟨a, b, e.tupI c⟩)
def spDue82 (K : PySem.W.Frag) (Ps : Tbs) : Sp := fun vs H Q _ => ∃ (x1 x2 y1 y2 : V) (n1 k1 n2 k2 : Int) (fs1 fs2 : List (List Int)) (d1 d2 : PyData), vs = [x1, x2, y1, y2] ∧ Both K Ps H x1 x2 y1 y2 n1 k1 n2 k2 fs1 fs2 d1 d2 ∧ ∀ v H', Ext Ps H H' → Ans82 K H' n1 k1 n2 k2 fs1 fs2 d1 d2 v → Q v H'
theorem ok_due82 {fI cI : Addr} {fdI : FuncData} (D : Def K mg "_law_due" sDue82 ["_law_one", "_law_other", "_law_order", "_law_another"] f fd c) (DI : Def K mg "_law_is_order" sIsOrderN ["_law_stack", "_law_thing"] fI fdI cI) (GI : FnOk P w K mg base CX0 (k) fI fdI ["_law_stack", "_law_thing"] (spIsOrderE K Ps)) (ml : mg "len" = none) (mt : mg "tuple" = none) : FnOk P w K mg base CX0 (k + 1) f fd ["_law_one", "_law_other", "_law_order", "_law_another"] (spDue82 K Ps) := by
  refine D.ok (k := k) scDue82 (fun vs H Q E h => ?_) (fun A outer s H vs Q E hr h => ?_)
  · obtain ⟨x1, x2, y1, y2, n1, k1, n2, k2, fs1, fs2, d1, d2, rfl, _⟩ := h
    rfl
  · obtain ⟨x1, x2, y1, y2, n1, k1, n2, k2, fs1, fs2, d1, d2, rfl, B, q⟩ := h
    refine ⟨_, (pss_cons (ps_if (PW.pt (pw_or (pt_not (pt_val (pcl DI GI hr (pa_cons (pv 0) (pa_cons (pv 2) pa_nil))))) (pw_or1 (pt_not (pt_val (pcl DI GI hr (pa_cons (pv 1) (pa_cons (pv 3) pa_nil)))))))) (pss_one (ps_ret pe_str)) pss_nil) (pss_cons (ps_if (pt_cmpR op_gt (pe_op op_add (pe_ix (show IxR _ (rIxT K) from ix_tup) (pv 0) pe_int (fun _ _ => rfl)) (pe_ix (show IxR _ (rIxT K) from ix_tup) (pv 1) pe_int (fun _ _ => rfl))) pe_int (nomark _)) (pss_one (ps_ret (pe_lst (pa_cons pe_str (pa_cons (pe_op op_add (pe_ix (show IxR _ (rIxT K) from ix_tup) (pv 0) pe_int (fun _ _ => rfl)) (pe_ix (show IxR _ (rIxT K) from ix_tup) (pv 1) pe_int (fun _ _ => rfl))) (pa_cons pe_int pa_nil)))))) pss_nil) (pss_cons (ps_if (pt_cmpR op_gt (pe_op op_add (pe_ix (show IxR _ (rIxT K) from ix_tup) (pv 0) pe_int (fun _ _ => rfl)) (pe_ix (show IxR _ (rIxT K) from ix_tup) (pv 1) pe_int (fun _ _ => rfl))) pe_int (nomark _)) (pss_one (ps_ret (pe_lst (pa_cons pe_str (pa_cons (pe_op op_add (pe_ix (show IxR _ (rIxT K) from ix_tup) (pv 0) pe_int (fun _ _ => rfl)) (pe_ix (show IxR _ (rIxT K) from ix_tup) (pv 1) pe_int (fun _ _ => rfl))) (pa_cons pe_int pa_nil)))))) pss_nil) (pss_cons (ps_set (i := 4) scDue82.nd rfl (.inl rfl) (pe_lst pa_nil)) (pss_cons (ps_for PassesOwn.never rfl (pi_tup (pv 2)) (pg_name (i := 5) scDue82.nd rfl (.inr rfl)) (pss_one (ps_set (i := 4) scDue82.nd rfl (.inl rfl) (pe_op op_cat (pv 4) (pe_lc (own := [("_law_second", 6)]) (g := gName 6) (by rfl) scDue82.nd (pi_tup (pv 3)) (blkOk_by (N := ["_law_one", "_law_other", "_law_order", "_law_another", "_law_found", "_law_first", "_law_second"]) (sc := defScope sDue82) (by decide +kernel)) (fun _ _ _ _ _ => pg_name (i := 6) scDue82.nd rfl (Or.inl rfl)) (fun _ _ _ _ _ => pts_nil) (fun _ _ _ _ _ => (pe_op op_add (pe_op op_mul (pe_callB (call_lenS (K := K) rfl) (by rfl) ml PySem.boot_len (pa_cons (pe_ix (show IxR _ (rIxT K) from ix_tup) (pv 1) pe_int (fun _ _ => rfl)) pa_nil)) (pv 5)) (pv 6)))))))) (pss_one (ps_ret (pe_callTy call_tuple_of (by rfl) mt (by decide +kernel) (pa_cons (pv 4) pa_nil))))))))), ?_⟩
    have three : (3 : Nat) ≤ sizeLine := by decide
    have no : ∀ HX, ¬ (OrdD d1 fs1 ∧ OrdD d2 fs2) → Ext Ps H HX → Q (.str "order") HX := fun HX h e => q _ HX e (.inl ⟨h, rfl⟩)
    refine tseq_intro fun R hR => ?_
    refine ⟨x1, rfl, y1, rfl, x1, y1, n1, k1, fs1, d1, rfl, B.one, fun o1 H1 hb1 e1 => ⟨o1, rfl, ?_⟩⟩
    cases o1 with
    | false => exact iteT (iteT (no _ (fun z => absurd (hb1.mpr z.1) (by simp)) e1))
    | true =>
    have B1 := B.ext e1
    refine iteF ⟨x2, rfl, y2, rfl, x2, y2, n2, k2, fs2, d2, rfl, B1.two, fun o2 H2 hb2 e2 => ⟨o2, rfl, ?_⟩⟩
    have E2 := e1.trans e2
    cases o2 with
    | false => exact iteT (no _ (fun z => absurd (hb2.mpr z.2) (by simp)) E2)
    | true =>
    refine iteF ?_
    obtain ⟨ns1, rfl, ho1⟩ := hb1.mp rfl
    obtain ⟨ns2, rfl, ho2⟩ := hb2.mp rfl
    have B2 := B1.ext e2
    obtain ⟨s1, fa1, xs1, rfl, g1, _, _⟩ := id B2.one.stk
    obtain ⟨s2, fa2, xs2, rfl, g2, g2f, g2p⟩ := id B2.two.stk
    obtain ⟨t1, rfl, hT1⟩ := th_tupI B2.one.th
    obtain ⟨t2, rfl, hT2⟩ := th_tupI B2.two.th
    have hx2 := Paired.length g2p
    have hl1 : ns1.length ≤ 30 := by rw [row_len ho1.1]; exact B.l1
    have hl2 : ns2.length ≤ 30 := by rw [row_len ho2.1]; exact B.l2
    have hm2 : ns2.length = fs2.length := row_len ho2.1
    have ml2 : (ns2.map V.int).length = ns2.length := List.length_map ..
    have ml1 : (ns1.map V.int).length = ns1.length := List.length_map ..
    have yes : ∀ {v HX}, Ext Ps H HX → ((8 < n1 + n2 ∧ ∃ l, v = .ref l ∧ HX l = some (.lst [.str "great", .int (n1 + n2), .int 8])) ∨ (n1 + n2 ≤ 8 ∧ 4 < k1 + k2 ∧ ∃ l, v = .ref l ∧ HX l = some (.lst [.str "great", .int (k1 + k2), .int 4])) ∨ (n1 + n2 ≤ 8 ∧ k1 + k2 ≤ 4 ∧ TupI K HX v (jordL ns1 ns2))) → Q v HX := fun e h => q _ _ e (.inr ⟨ns1, ns2, rfl, ho1, rfl, ho2, h⟩)
    show R [some (.ref s1), some (.ref s2), some (.ref t1), some (.ref t2), none, none, none] H2
    rw [hR]
    clear hR
    refine tseq_intro fun R hR => ?_
    refine ⟨.ref s1, rfl, s1, _, 0, .int n1, rfl, rfl, g1, atI_nat (j := 0) rfl, .ref s2, rfl, s2, _, 0, .int n2, rfl, rfl, g2, atI_nat (j := 0) rfl, n1, n2, rfl, rfl, n1 + n2, 8, rfl, rfl, decide (n1 + n2 > 8), rfl, ite2 (fun hc => ?_) (fun hc => ?_)⟩
    · refine ⟨.ref s1, rfl, s1, _, 0, .int n1, rfl, rfl, g1, atI_nat (j := 0) rfl, .ref s2, rfl, s2, _, 0, .int n2, rfl, rfl, g2, atI_nat (j := 0) rfl, n1, n2, rfl, rfl, three, fun l nl => ?_⟩
      exact yes (E2.trans (Ext.new E2.tb nl)) (.inl ⟨of_decide_eq_true hc, l, rfl, upd_same⟩)
    have h8 : n1 + n2 ≤ 8 := by
      by_cases z : n1 + n2 > 8
      · exact absurd (decide_eq_true z) hc
      · omega
    show R [some (.ref s1), some (.ref s2), some (.ref t1), some (.ref t2), none, none, none] H2
    rw [hR]
    clear hR
    refine tseq_intro fun R hR => ?_
    refine ⟨.ref s1, rfl, s1, _, 1, .int k1, rfl, rfl, g1, atI_nat (j := 1) rfl, .ref s2, rfl, s2, _, 1, .int k2, rfl, rfl, g2, atI_nat (j := 1) rfl, k1, k2, rfl, rfl, k1 + k2, 4, rfl, rfl, decide (k1 + k2 > 4), rfl, ite2 (fun hc4 => ?_) (fun hc4 => ?_)⟩
    · refine ⟨.ref s1, rfl, s1, _, 1, .int k1, rfl, rfl, g1, atI_nat (j := 1) rfl, .ref s2, rfl, s2, _, 1, .int k2, rfl, rfl, g2, atI_nat (j := 1) rfl, k1, k2, rfl, rfl, three, fun l nl => ?_⟩
      exact yes (E2.trans (Ext.new E2.tb nl)) (.inr (.inl ⟨h8, of_decide_eq_true hc4, l, rfl, upd_same⟩))
    have h4 : k1 + k2 ≤ 4 := by
      by_cases z : k1 + k2 > 4
      · exact absurd (decide_eq_true z) hc4
      · omega
    show R [some (.ref s1), some (.ref s2), some (.ref t1), some (.ref t2), none, none, none] H2
    rw [hR]
    clear hR
    refine tseq_intro fun R hR => ?_
    refine ⟨Nat.zero_le _, fun F0 nF0 => ?_⟩
    have e3 := Ext.new (o := .lst []) e2.tb nF0
    have hF0 : upd H2 F0 (.lst []) F0 = some (.lst []) := upd_same
    generalize upd H2 F0 (.lst []) = H3 at *
    show R [some (.ref s1), some (.ref s2), some (.ref t1), some (.ref t2), some (.ref F0), none, none] H3
    rw [hR]
    clear hR
    refine tseq_intro fun R hR => ?_
    have hT13 := e3.sqT hT1
    refine ⟨.ref t1, rfl, t1, rfl, ⟨_, hT13⟩, for_tup (K := K) (a := t1) (xs := ns1.map V.int) (fun i σ HX => Ext Ps H3 HX ∧ ∃ (F : Addr) (y5 : Option V), σ = [some (.ref s1), some (.ref s2), some (.ref t1), some (.ref t2), some (.ref F), y5, none] ∧ HX F = some (.lst ((jordL (ns1.take i) ns2).map V.int))) ⟨Ext.refl e3.tb, F0, none, rfl, hF0⟩ (fun i σ HX _ p => p.1.sqT hT13) (fun i x σ HX hx p => ?_) (fun σ HX p => ?_)⟩
    · obtain ⟨eX, F, y5, rfl, hF⟩ := p
      obtain ⟨a, ha, rfl⟩ := map_int hx
      have hi : i < ns1.length := (List.getElem?_eq_some_iff.mp ha).1
      have ab := row_bel ho1.1 a (List.mem_of_getElem? ha)
      have EX := e3.trans eX
      have hT2X := EX.sqT hT2
      refine ⟨.ref F, rfl, .ref t2, rfl, t2, rfl, ⟨_, hT2X⟩, fun D0 hD => lc_tup (K := K) (a := t2) (xs := ns2.map V.int) (fun j HY => CP Ps FI HX D0 ((ns2.take j).map fun b => a * (ns2.length : Int) + b) j HY) (CP.start eX.tb hD) (fun j HY _ p => p.ext.sqT hT2X) (fun j y HY hy p => ?_) (fun HY p => ?_)⟩
      · obtain ⟨b, hb, rfl⟩ := map_int hy
        have hj : j < ns2.length := (List.getElem?_eq_some_iff.mp hb).1
        have EY := EX.trans p.ext
        refine ⟨rfl, yes_ (iteT ⟨.ref s2, rfl, s2, _, 2, .ref fa2, rfl, rfl, EY.sqT g2, at2, fa2, xs2, rfl, .inr (EY.sqT g2f), .int a, rfl, (xs2.length : Int), a, rfl, rfl, .inl ⟨by omega, by omega⟩, .int b, rfl, _, _, rfl, rfl, ?_⟩)⟩
        have ec : (xs2.length : Int) * a + b = a * (ns2.length : Int) + b := by
          rw [hx2, hm2, Int.mul_comm]
        have r := CP.put (stbI (K := K)) hD (by omega) p (show FI HY (.int ((xs2.length : Int) * a + b)) (a * (ns2.length : Int) + b) from congrArg V.int ec)
        rw [map_take hb]
        exact r
      · obtain ⟨ys, z1, z2, z3⟩ := p.at_
        rw [ml2, List.take_length] at z2
        rw [paired_ints z2] at z1
        have jl := jord_len (ns1.take i) ns2
        have jm : (ns1.take i).length * ns2.length ≤ 30 * 30 := Nat.mul_le_mul (by rw [List.length_take]; omega) hl2
        refine ⟨F, D0, _, _, rfl, rfl, p.ext.lst hF, z1, Nat.le_of_lt (small1000 (by rw [List.length_map, List.length_map, List.length_map]; omega)), fun F2 nF2 => ?_⟩
        have e9 := Ext.new (o := .lst ((jordL (ns1.take i) ns2).map V.int ++ (ns2.map fun b => a * (ns2.length : Int) + b).map V.int)) p.ext.tb nF2
        refine ⟨eX.trans (p.ext.trans e9), F2, _, rfl, ?_⟩
        rw [upd_same, jord_take ha, List.map_append]
    · obtain ⟨eX, F, y5, rfl, hF⟩ := p
      show R [some (.ref s1), some (.ref s2), some (.ref t1), some (.ref t2), some (.ref F), y5, none] HX
      rw [hR]
      rw [ml1, List.take_length] at hF
      refine ⟨.ref F, rfl, F, _, rfl, .inl ⟨.inl (.inl hF), fun tp ntp => ?_⟩⟩
      exact yes (E2.trans (e3.trans (eX.trans (Ext.new eX.tb ntp)))) (.inr (.inr ⟨h8, h4, tp, rfl, .inl (.inl upd_same)⟩))
def spCame82 (K : PySem.W.Frag) (Ps : Tbs) (C : Nat → Addr) (CY CS CO CG : Addr) : Sp := fun vs H Q _ => ∃ (x1 x2 y1 y2 : V), vs = [x1, x2, y1, y2] ∧ spJOrd K Ps CS CO CG [x1, x2, y1, y2] H Q (KE2 K C CY Ps Q)
theorem ok_came82 {fO cO : Addr} {fdO : FuncData} {fJ cJ : Addr} {fdJ : FuncData} (D : Def K mg "_law_came" sCame82 ["_law_one", "_law_other", "_law_order", "_law_another"] f fd c) (DJ : Def K mg "joined_order" sJOrd ["one", "other", "order", "another"] fJ fdJ cJ) (GJ : FnOk P w K mg base (L2.CX P w) (k) fJ fdJ ["one", "other", "order", "another"] (spJOrd K Ps CS CO CG)) (DO : Def K mg "_law_kind_of" sKindOf ["_law_e"] fO fdO cO) (G : Kinds mg C) (gL : mg "LayError" = some (.ref CY)) (mi : mg "isinstance" = none) (mv : mg "ValueError" = none) :
    FnOk P w K mg base CX0 (k + 1 + 1) f fd ["_law_one", "_law_other", "_law_order", "_law_another"] (spCame82 K Ps C CY CS CO CG) := by
  refine D.ok (k := k + 1) scCame82 (fun vs H Q E h => ?_) (fun A outer s H vs Q E hr h => ?_)
  · obtain ⟨x1, x2, y1, y2, rfl, _⟩ := h
    rfl
  · obtain ⟨x1, x2, y1, y2, rfl, h⟩ := h
    have hrk := hr.mono (show k ≤ k + 1 by omega)
    refine ⟨_, pss_one (ps_try_as (X := (cxOf CX0 P w K mg base ["_law_one", "_law_other", "_law_order", "_law_another", "_law_e"] "_law_came" (defScope sCame82) f (.ref c) A outer s H E).nox) (c := .ref CY) (i := 4)
      (tb := fun W D σ H => ∃ Ech : XK, (∀ cls d σ' H', Ech cls d H' → W cls d σ' H') ∧ σ = [some x1, some x2, some y1, some y2, none] ∧ spJOrd K Ps CS CO CG [x1, x2, y1, y2] H D.rt Ech)
      (ts := fun a cls dx D σ H => (∃ i D0, cls = .ref D0 ∧ dx = none ∧ Kind K C CY i D0 ∧ (σ.length = 5 → σ[4]? = some (some (.ref a))) ∧ Tb Ps H ∧ ∀ H', Ext Ps H H' → D.rt (.str (wordOf i)) H') ∨ ∃ D0 dd m M, cls = .ref D0 ∧ dx = some dd ∧ KindG K C CY D0 ∧ (σ.length = 5 → σ[4]? = some (some (.ref a))) ∧ H dd = some (.xd (grF m M)) ∧ Tb Ps H ∧ ∀ (l : Addr) (H' : Hp), Ext Ps H H' → H l = none → H' l = some (.lst [.str "great", .int m, .int M]) → D.rt (.ref l) H')
      (Wout := fun _ _ _ _ => False) rfl rfl scCame82.nd rfl rfl ⟨rfl, by decide, .inl gL⟩ LamX.takes0 (fun W pn xe tk _ => ?_) (fun a oe cls dx pn hz hf => ?_)), ?_⟩
    · refine ⟨fun pins s' σ H' D I h' => ?_⟩
      obtain ⟨Ech, hW, rfl, h0⟩ := h'
      have tk' : Takes ((cxOf CX0 P w K mg base ["_law_one", "_law_other", "_law_order", "_law_another", "_law_e"] "_law_came" (defScope sCame82) f (.ref c) A outer s H E).nox.tr pn xe) fun cls d _ H => Ech cls d H := tk.imp fun cls d σ H h => hW cls d σ H h
      refine (pss_one (ps_ret (pclX DJ GJ hrk tk' (pa_cons (pv 0) (pa_cons (pv 1) (pa_cons (pv 2) (pa_cons (pv 3) pa_nil))))))).run pins s' _ H' D I ?_
      exact ⟨x1, rfl, x2, rfl, y1, rfl, y2, rfl, h0⟩
    · refine ⟨fun pins s' σ H' D I h' => ?_⟩
      have hr2 : L2H.RoomH (k + 1) ((A.deeper (envOfC "_law_came" (defScope sCame82) s.heap.objs.size f (.ref c))).mark (some (.ref a))) := ⟨hr.dp, hr.un⟩
      rcases h' with ⟨i, D0, rfl, rfl, Z, hσ, ht, hq⟩ | ⟨D0, dd, m, M, rfl, rfl, Z, hσ, hdd, ht, hq⟩
      · exact (pss_one (ps_ret (pe_kindOf (X := ((cxOf CX0 P w K mg base ["_law_one", "_law_other", "_law_order", "_law_another", "_law_e"] "_law_came" (defScope sCame82) f (.ref c) A outer s H E).nox).suite a ((a, oe) :: pn)) (Ps := Ps) DO G Z hz hf (.head _) hr2 (pa_cons (pv 4) pa_nil) mi mv))).run pins s' σ H' D I ⟨.ref a, hσ I.len, rfl, ht, hq⟩
      · exact (pss_one (ps_ret (pe_kindG (X := ((cxOf CX0 P w K mg base ["_law_one", "_law_other", "_law_order", "_law_another", "_law_e"] "_law_came" (defScope sCame82) f (.ref c) A outer s H E).nox).suite a ((a, oe) :: pn)) (Ps := Ps) (m := m) (M := M) DO G Z hz hf (.head _) hr2 (pa_cons (pv 4) pa_nil) mi mv))).run pins s' σ H' D I ⟨.ref a, hσ I.len, rfl, hdd, ht, hq⟩
    · refine ⟨KE2 K C CY Ps Q, fun cls dx σ' H' hh => ?_, rfl, h⟩
      rcases hh with ⟨rfl, i, D0, rfl, Z, ht, hq⟩ | ⟨D0, dd, m, M, rfl, rfl, Z, hdd, ht, hq⟩
      · refine ⟨true, Z.lay, fun _ a na => .inl ⟨i, D0, rfl, rfl, Z, fun hl => ?_, ht, hq⟩, fun z => nomatch z⟩
        rw [List.length_set] at hl
        rw [List.getElem?_set_self (by omega)]
      · refine ⟨true, Z.lay, fun _ a na => .inr ⟨D0, dd, m, M, rfl, rfl, Z, fun hl => ?_, hdd, ht, hq⟩, fun z => nomatch z⟩
        rw [List.length_set] at hl
        rw [List.getElem?_set_self (by omega)]
end
end Lf

set_option maxHeartbeats 4000000
namespace Lf
open PySem PySem.Spec PyProof.Rows L2 GxR GxA SrT
abbrev sSmall : Stmt := topS 67
theorem scSmall : FnScope ["_law_pen_here", "_law_n", "_law_k", "_law_faces", "_law_stack", "_law_face"] ["_law_pen_here"] (defScope sSmall) := ⟨rfl, rfl, rfl, by decide +kernel, rfl, by decide +kernel, by decide +kernel⟩
section
variable {P : Program} {w : World} {K : PySem.W.Frag} {mg : Str → Option Value} {base : Heap} {Ps : Tbs} {H H' H0 : Hp} {k : Nat} {f c : Addr} {fd : FuncData}
def spSmall (K : PySem.W.Frag) (Ps : Tbs) : Sp := fun vs H Q _ => ∃ (a : Addr), vs = [.ref a] ∧ Pen H a ∧ Tb Ps H ∧ ∀ (t : Addr) (v w : V) (n kk : Int) (fss : List (List Int)) (ns : List Int) (H' : Hp), Epn Ps a H H' → SqT K H' t [v, w] → Stk K H' v n kk fss → StkOk n kk fss → fss.length ≤ 6 → TupI K H' w ns → ns.Perm (rng fss.length) → Q (.ref t) H'
theorem ok_small {fD cD fG cG fM cM : Addr} {fdD fdG fdM : FuncData} (D : Def K mg "_law_small" sSmall ["_law_pen_here"] f fd c) (DD : Def K mg "_law_draw" sDraw ["_law_pen_here", "_law_many"] fD fdD cD) (GD : FnOk P w K mg base CX0 (k) fD fdD ["_law_pen_here", "_law_many"] spDraw) (DG : Def K mg "_law_grown" sGrown ["_law_pen_here", "_law_n", "_law_k", "_law_most"] fG fdG cG) (GG : FnOk P w K mg base CX0 (k) fG fdG ["_law_pen_here", "_law_n", "_law_k", "_law_most"] (spGrown K Ps)) (DM : Def K mg "_law_made" sMade ["_law_n", "_law_k", "_law_faces"] fM fdM cM) (GM : FnOk P w K mg base CX0 (k) fM fdM ["_law_n", "_law_k", "_law_faces"] (spMadeF K Ps)) (mm : mg "min" = none) (mt : mg "tuple" = none) : FnOk P w K mg base CX0 (k + 1) f fd ["_law_pen_here"] (spSmall K Ps) := by
  refine D.ok (k := k) scSmall (fun vs H Q E h => ?_) (fun A outer s H vs Q E hr h => ?_)
  · obtain ⟨a, rfl, _⟩ := h
    rfl
  · obtain ⟨a, rfl, hP, ht, q⟩ := h
    have rm : (A.deeper (envOfC "_law_small" (defScope sSmall) s.heap.objs.size f (.ref c))).units + 65 < cLine := by
      have := hr.un
      omega
    refine ⟨_, (pss_cons (ps_set (i := 1) scSmall.nd rfl (.inl rfl) (pe_op op_add pe_int (pcl DD GD hr (pa_cons (pv 0) (pa_cons pe_int pa_nil))))) (pss_cons (ps_set (i := 2) scSmall.nd rfl (.inl rfl) (pcl DD GD hr (pa_cons (pv 0) (pa_cons (pe_op op_add (pe_callB (call_min2 rfl) (by rfl) mm (by decide +kernel) (pa_cons (pv 1) (pa_cons pe_int pa_nil))) pe_int) pa_nil)))) (pss_cons (ps_set (i := 3) scSmall.nd rfl (.inl rfl) (pcl DG GG hr (pa_cons (pv 0) (pa_cons (pv 1) (pa_cons (pv 2) (pa_cons pe_int pa_nil)))))) (pss_cons (ps_set (i := 4) scSmall.nd rfl (.inr rfl) (pcl DM GM hr (pa_cons (pv 1) (pa_cons (pv 2) (pa_cons (pv 3) pa_nil))))) (pss_one (ps_ret (pe_tup (pa_cons (pv 4) (pa_cons (pe_callTy call_tuple_of (by rfl) mt (by decide +kernel) (pa_cons (pe_lc (own := [("_law_face", 5)]) (g := gName 5) (by rfl) scSmall.nd (pi_list (pv 3)) (blkOk_by (N := ["_law_pen_here", "_law_n", "_law_k", "_law_faces", "_law_stack", "_law_face"]) (sc := defScope sSmall) (by decide +kernel)) (fun _ _ _ _ _ => pg_name (i := 5) scSmall.nd rfl (Or.inl rfl)) (fun _ _ _ _ _ => pts_nil) (fun _ _ _ _ _ => (show PE _ _ (tBMT (rTix K) _ _) from pe_bmT PySem.F.slot_tuple_index PySem.F.type_tuple_index (show MtR _ _ (rTix K) from mt_tix rm) (pe_ix (show IxR _ (rIxT K) from ix_tup) (pv 4) pe_int (fun _ _ => rfl)) (pa_cons (pv 5) pa_nil)))) pa_nil)) pa_nil))))))))), ?_⟩
    have two : (2 : Nat) ≤ sizeLine := by decide
    refine tseq_intro fun R hR => ?_
    refine ⟨.ref a, rfl, a, 4, rfl, hP, by decide, by decide, fun u1 f1 r1 p1 p2 => ?_⟩
    have P1 : Epn Ps a H (upd H a (.lst [.int u1, .int f1])) := Epn.draw ht hP
    generalize upd H a (.lst [.int u1, .int f1]) = H1 at *
    obtain ⟨m1, rfl⟩ := Int.eq_ofNat_of_zero_le p1
    refine ⟨1, (m1 : Int), rfl, rfl, ?_⟩
    have en : (1 : Int) + (m1 : Nat) = ((1 + m1 : Nat) : Int) := by omega
    show R [some (.ref a), some (.int (1 + (m1 : Nat))), none, none, none, none] H1
    rw [hR, en]
    clear hR
    have n1 : 1 ≤ 1 + m1 := by omega
    have n4 : 1 + m1 ≤ 4 := by omega
    generalize 1 + m1 = n at *
    clear p1 p2 en
    refine tseq_intro fun R hR => ?_
    refine ⟨.ref a, rfl, .int n, rfl, _, _, rfl, _, 1, rfl, rfl, a, _, rfl, P1.pen, ?_, ?_, fun u2 f2 r2 p1 p2 => ?_⟩
    · split <;> omega
    · split <;> omega
    have P2 := P1.trans (Epn.draw (x := u2) (f := f2) P1.tb P1.pen)
    generalize upd H1 a (.lst [.int u2, .int f2]) = H2 at *
    obtain ⟨kk, rfl⟩ := Int.eq_ofNat_of_zero_le p1
    have hkn : kk ≤ n := by
      split at p2 <;> omega
    have hk4 : kk ≤ 4 := by omega
    show R [some (.ref a), some (.int n), some (.int kk), none, none, none] H2
    rw [hR]
    clear hR p1 p2
    refine tseq_intro fun R hR => ?_
    refine ⟨.ref a, rfl, .int n, rfl, .int kk, rfl, a, n, kk, 6, rfl, P2.pen, by omega, hkn, hk4, by decide, by decide, P2.tb, fun l ys df H3 e3 nl hl hp nd hin l1 lm _ => ?_⟩
    show R [some (.ref a), some (.int n), some (.int kk), some (.ref l), none, none] H3
    rw [hR]
    clear hR
    have P3 := P2.trans e3
    refine tseq_intro fun R hR => ?_
    refine ⟨.int n, rfl, .int kk, rfl, .ref l, rfl, n, kk, l, ys, df, rfl, .inl (.inl hl), hp, P3.tb, fun ts tf zs H4 e4 ht4 hf4 hz4 hp4 => ?_⟩
    show R [some (.ref a), some (.int n), some (.int kk), some (.ref l), some (.ref ts), none] H4
    rw [hR]
    clear hR
    have S := (FacesB.every nd hin).stk n1 (by omega) hkn hk4 l1 (by omega)
    have hl4 := e4.lst hl
    have hpl := e4.tups hp
    have lyl := Paired.length hp
    refine ⟨.ref ts, rfl, .ref l, rfl, l, rfl, ⟨_, .inl (.inl hl4)⟩, fun D0 hD => lc_list (K := K) (a := l) (xs := ys) (fun i H5 => CP Ps FI H4 D0 ((df.take i).map fun g => ((sortL df).idxOf g : Int)) i H5) (CP.start e4.tb hD) (fun i H5 _ p => p.ext.sqL (.inl (.inl hl4))) (fun i u H5 hu p5 => ?_) (fun H5 p5 => ?_)⟩
    · obtain ⟨g, hg, hI⟩ := paired_get hpl hu
      have hi : i < ys.length := (List.getElem?_eq_some_iff.mp hu).1
      obtain ⟨j1, j2⟩ := idxG_get ((sortL_perm df).mem_iff.mpr (List.mem_of_getElem? hg))
      refine ⟨rfl, yes_ (iteT ⟨.ref ts, rfl, ts, _, 2, .ref tf, rfl, rfl, p5.ext.sqT ht4, at2, ⟨tf, rfl, p5.ext.fzT hz4⟩, u, rfl, tf, u, zs, sortL df, g, (sortL df).idxOf g, rfl, rfl, p5.ext.sqT hf4, p5.ext.tups hp4, p5.ext.tupI hI, j1, j2, ?_⟩)⟩
      have r := CP.put (stbI (K := K)) hD (by omega) p5 (show FI H5 (.int (((sortL df).idxOf g : Nat) : Int)) (((sortL df).idxOf g : Nat) : Int) from rfl)
      rw [List.take_add_one, hg, List.map_append]
      exact r
    · rw [lyl, List.take_length] at p5
      obtain ⟨ws, g1, g2, g3⟩ := p5.at_
      rw [paired_ints g2] at g1
      refine ⟨D0, _, rfl, .inl ⟨.inl (.inl g1), fun tg ntg => ⟨two, fun tt ntt => ?_⟩⟩⟩
      have e6 := Ext.new (o := .tup ((df.map fun g => ((sortL df).idxOf g : Int)).map V.int)) p5.ext.tb ntg
      have e7 := Ext.new (o := .tup [.ref ts, .ref tg]) e6.tb ntt
      have E7 := p5.ext.trans (e6.trans e7)
      exact q tt (.ref ts) (.ref tg) n kk (sortL df) _ _ (P3.trans ((e4.trans E7).epn P3.pen)) (.inl (.inl upd_same)) ⟨ts, tf, zs, rfl, E7.sqT ht4, E7.sqT hf4, E7.tups hp4⟩ S (by rw [(sortL_perm _).length_eq]; exact lm) ⟨tg, rfl, e7.sqT (.inl (.inl upd_same))⟩ (idx_perm nd)
end
end Lf

set_option maxHeartbeats 1000000
/-! defs whose promise holds where nothing is being shown (repr) -/
namespace Lf
open PySem PySem.Spec PyProof.Rows L2 GxR GxA SrT
/-- as FnOk, where no repr runs around -/
structure FnG (P : Program) (w : World) (K : PySem.W.Frag) (mg : Str → Option Value) (base : Heap) (CX : CXT) (k : Nat) (f : Addr) (fd : FuncData) (ps : List Str) (sp : Sp) : Prop where
  len : ∀ vs H Q E, sp vs H Q E → vs.length = ps.length
  run : ∀ (A : Around) (outer : List Env) (s : Shared) (H : Hp) (args : Args) (us : List Value) (vs : List V) (Q : VK) (E : XK), A.guards = some [] → Room k A → Env0 P w K mg base A outer s H → BindsTo s fd args (ps.zip us) → Vals vs us → sp vs H Q E →
    codeAny (model P w) A (.call (.ref f) args) (CR CX outer P w H s Q E) s
section
variable {P : Program} {w : World} {K : PySem.W.Frag} {mg : Str → Option Value} {base : Heap} {f c : Addr} {fd : FuncData} {ps N : List Str} {k j : Nat} {sp : Sp}
theorem FnG.mono {CX : CXT} (F : FnG P w K mg base CX j f fd ps sp) (h : j ≤ k) : FnG P w K mg base CX k f fd ps sp := ⟨F.len, fun A outer s H args us vs Q E hg hr => F.run A outer s H args us vs Q E hg (hr.mono h)⟩
theorem Def.okG {x : Str} {st : Stmt} (D : Def K mg x st ps f fd c) (S : FnScope N ps (defScope st)) (len : ∀ vs H Q E, sp vs H Q E → vs.length = ps.length)
    (hbody : ∀ (A : Around) (outer : List Env) (s : Shared) (H : Hp) (vs : List V) (Q : VK) (E : XK), A.guards = some [] → Room k (A.deeper (envOfC x (defScope st) s.heap.objs.size f (.ref c))) → sp vs H Q E →
      ∃ t, PSs (cxOf CX0 P w K mg base N x (defScope st) f (.ref c) A outer s H E).nox (defBody st) t ∧ t { nx := fun _ H' => Q .non H', rt := Q } (start N vs) H) : FnG P w K mg base CX0 (k + 1) f fd ps sp := by
  obtain ⟨oc, od, kV, doc, pm, an, ct, osl, rfl, lk, hcd⟩ := D.F.ex
  refine ⟨len, fun A outer s H args us vs Q E hg hr e0 hb r hsp => ?_⟩
  refine LamX.run_ofS lk hcd S hr e0 hb r (len _ _ _ _ hsp) fun hr' => ?_
  obtain ⟨t, h, q⟩ := hbody A outer s H vs Q E hg hr' hsp
  exact ⟨t, h.nox, q⟩
end
/-- a call of such a def -/
theorem pclG {X : Cx} {x : Str} {st : Stmt} {ps : List Str} {f c : Addr} {fd : FuncData} {k : Nat} {sp : Sp} {e : Expr} {es : List Expr} {t : TA} {p pos : Pos} (D : Def X.K X.mg x st ps f fd c) (G : FnG X.prog X.w X.K X.mg X.base CX0 k f fd ps sp) (gd : X.A.guards = some []) (hr : Room k X.A) (ha : PA X (e :: es) t)
    (hg : Gl X x := by rfl) (hdb : (x == ("__debug__" : Str)) = false := by decide) (he : starEach (e :: es) X.env = (false, eval e X.env) :: starEach es X.env := by rfl) (hpl : (backTo pos (starEach es X.env)).any (·.1) = false := by rfl) :
    PE X (.Call (.Name x p) (e :: es) [] pos) (tCall sp [] E0 t) := by
  refine ⟨fun pins s0 σ H0 Q I0 h => ?_⟩
  refine wpAny_Call_Name_kw (ld_glob I0 hg D.g ?_ hdb)
  refine PySem.W.callWith_K (h₀ := X.base) I0.ok.mod.kin D.F.kp (thn (ha.run pos pins s0 σ H0 _ I0 h) fun us s hh => ?_) he hpl
  obtain ⟨vs, H, I, rv, q⟩ := hh
  rw [List.append_nil] at q
  have bd := D.b s us I.kIn (by rw [List.append_nil, ← rv.length]; exact G.len _ _ _ _ q)
  rw [List.append_nil] at bd
  refine ⟨I.kIn, wpAny_call (codeAny_mono (G.run X.A X.stack s H ⟨us, []⟩ us vs Q E0 gd hr I.env0 bd rv q) fun r s2 hq => ?_)⟩
  match r, hq with
  | .ok (.ret u), hq => exact I.after hq
  | .error e2, hq => exact False.elim hq
/-! ### the end, for such a law -/
section
variable {K : PySem.W.Frag} {ts : List Addr} {a : Addr} {oa : Obj} {xs : List V}
/-- the abstract heap at the law's call: the tables, and the script where it isn't written -/
def H0of (K : PySem.W.Frag) (ts : List Addr) (a : Addr) (oa : Obj) (xs : List V) : Hp := fun b => if b ∈ ts then some (.tbl #[]) else if b = a ∧ K.lookup a = none then some (.frz oa (.lst xs)) else none
theorem h0_tab {b : Addr} (h : b ∈ ts) : H0of K ts a oa xs b = some (.tbl #[]) := if_pos h
theorem h0_scr (h : a ∉ ts) (hk : K.lookup a = none) : H0of K ts a oa xs a = some (.frz oa (.lst xs)) := (if_neg h).trans (if_pos ⟨rfl, hk⟩)
theorem h0_some {b : Addr} {u : HO} (h : H0of K ts a oa xs b = some u) : (b ∈ ts ∧ u = .tbl #[]) ∨ (b ∉ ts ∧ b = a ∧ K.lookup a = none ∧ u = .frz oa (.lst xs)) := by
  unfold H0of at h
  split at h
  · rename_i hb
    exact .inl ⟨hb, (Option.some.inj h).symm⟩
  · rename_i hb
    split at h
    · rename_i hc
      exact .inr ⟨hb, hc.1, hc.2, (Option.some.inj h).symm⟩
    · cases h
theorem h0_none {b : Addr} (h1 : b ∉ ts) (h2 : b = a → K.lookup a ≠ none) : H0of K ts a oa xs b = none := (if_neg h1).trans (if_neg fun z => h2 z.1 z.2)
end
theorem law_callG {P : Program} {w : World} {K : PySem.W.Frag} {mg mb : Str → Option Value} {CX : CXT} {k : Nat} {fa a : Addr} {cs : List (Addr × Addr)} {fd : FuncData} {x : Str} {sp : Sp} {s : Shared} {vs : List Value} {ns : List Int}
    (KX : K.In s.heap) (hns : s.heap.Ns mainGlobals mg) (hb : s.heap.Ns builtinsNs mb) (hbb : ∀ y : Str, y ≠ "__name__" → mb y = bootBuiltins y) (hlim : s.heap.NoLimit) (hg : s.gens = #[]) (hT : ∀ p ∈ cs, s.heap.get? p.2 = some { cls := .none, data := .fields #[] }) (nT : ∀ p ∈ cs, K.lookup p.2 = none) (C : ∀ p ∈ cs, PySem.W.CodeHd s.heap p.1 p.2)
    (hbm : ∃ (bm : Addr) (ob : Obj), mg "__builtins__" = some (.ref bm) ∧ bm ≠ builtinsNs ∧ s.heap.get? bm = some ob ∧ ob.cls = .type "module" ∧ ob.dict = some builtinsNs ∧ ob.data = .plain) (ha : s.heap.get? a = some { cls := .type "list", data := .seq vs.toArray }) (hi : IntsAre vs ns) (hl : ns.length ≤ sizeLine) (hr : Room k callerA)
    (F : ∀ base : Heap, K.In base → base.Ns mainGlobals mg → (∀ p ∈ cs, LamX.TabB base mg p.1 p.2) → FnG P w K mg base CX k fa fd [x] sp) (hbind : ∀ (t : Shared) (u : Value), BindsTo t fd ⟨[u], []⟩ [(x, u)])
    (hsp : ∀ H : Hp, (∀ p ∈ cs, H p.2 = some (.tbl #[])) → SqL K H a (ns.map V.int) → sp [.ref a] H (fun v _ => v = .bl true) fun _ _ _ => False) (hCX : ∀ H e s', CX [] H s (fun _ _ _ => False) e s' → False) :
    codeAny (model P w) callerA (.call (.ref fa) ⟨[.ref a], []⟩) (fun r s' => r = .ok (.ret (.bool true)) ∧ OldK s.heap s'.heap ∧ s'.os = s.os ∧ AllBare s'.gens) s := by
  have rv := vals_ints hi
  have lv := hi.length
  have inT : ∀ {b : Addr}, b ∈ cs.map (·.2) → ∃ p ∈ cs, p.2 = b := fun h => List.mem_map.mp h
  have tabO : ∀ {b : Addr}, b ∈ cs.map (·.2) → s.heap.get? b = some { cls := .none, data := .fields #[] } := fun h => by
    obtain ⟨p, hp, rfl⟩ := inT h
    exact hT p hp
  have aT : a ∉ cs.map (·.2) := fun h => by
    have z := ha.symm.trans (tabO h)
    cases Option.some.inj z
  let H := H0of K (cs.map (·.2)) a { cls := .type "list", data := .seq vs.toArray } (ns.map V.int)
  have hH : ∀ p ∈ cs, H p.2 = some (.tbl #[]) := fun p hp => h0_tab (List.mem_map.mpr ⟨p, hp, rfl⟩)
  have hS : SqL K H a (ns.map V.int) := by
    cases hk : K.lookup a with
    | none => exact .inl (.inr ⟨_, h0_scr aT hk⟩)
    | some o =>
      have z := KX a o hk
      rw [ha] at z
      cases z
      exact .inr ⟨_, vs.toArray, _, hk, rfl, rfl, rfl, by rw [List.size_toArray, lv]; exact hl, by simpa using rv⟩
  have hok : HOk P w H s.heap := fun b u z => by
    rcases h0_some z with ⟨h1, rfl⟩ | ⟨_, rfl, _, rfl⟩
    · exact tabO h1
    · exact ⟨ha, by rw [List.length_map]; exact hl, vs, _, rv, ha⟩
  -- what is not tracked stays in the base
  have keep : ∀ {b : Addr} {o : Obj}, s.heap.get? b = some o → (∀ v n, o.data ≠ .seq v n) → o.data ≠ .fields #[] → (hidT s.heap H).get? b = some o := fun {b o} e h1 h2 => hidT_get e (h0_none (fun z => by
      have y := e.symm.trans (tabO z)
      cases Option.some.inj y
      exact h2 rfl) fun z _ => by
      rw [z] at e
      have y := e.symm.trans ha
      cases Option.some.inj y
      exact h1 _ _ rfl)
  have kinB : K.In (hidT s.heap H) := fun b o e => hidT_get (KX b o e) (h0_none (fun z => by
      obtain ⟨p, hp, rfl⟩ := inT z
      rw [nT p hp] at e
      cases e) fun z y => by
      rw [z, y] at e
      cases e)
  have nsB : ∀ {b : Addr} {m : Str → Option Value}, s.heap.Ns b m → (hidT s.heap H).Ns b m := fun h => by
    obtain ⟨o, es, ep, e, d, r⟩ := h
    exact ⟨o, es, ep, keep e (fun v n z => by rw [d] at z; cases z) (fun z => by rw [d] at z; cases z), d, r⟩
  have mod : L2.Mod K mg (hidT s.heap H) := ⟨kinB, nsB hns, ⟨mb, nsB hb, hbb⟩, by
    obtain ⟨mc, g1, g2⟩ := hlim
    exact ⟨mc, nsB g1, g2⟩⟩
  have notG : ∀ {o : Obj} {b : Addr}, s.heap.get? b = some o → (∀ es n, o.data ≠ .dict es n) → b ≠ mainGlobals := fun {o b} e h z => by
    obtain ⟨o', es, ep, e', d, _⟩ := hns
    rw [z, e'] at e
    cases e
    exact h _ _ d
  have tabB : ∀ p ∈ cs, LamX.TabB (hidT s.heap H) mg p.1 p.2 := fun p hp => by
    refine ⟨?_, ?_, fun z => notG (hT p hp) (fun es n y => by cases y) z.symm⟩
    · obtain ⟨o, us, q1, q2, q3, q4, q5, q6, q7, e1, t1, t2, t3, t4⟩ := C p hp
      refine ⟨o, us, q1, q2, q3, q4, q5, q6, q7, keep e1 (fun v n z => by rw [t2] at z; cases z) (fun z => ?_), t1, t2, t3, t4⟩
      rw [t2] at z
      cases z
      simp at t3
    · obtain ⟨bm, ob, b1, b2, b3, b4, b5, b6⟩ := hbm
      refine ⟨bm, ob, b1, b2, notG b3 (fun es n y => by rw [b6] at y; cases y), fun z => ?_, keep b3 (fun v n z => by rw [b6] at z; cases z) (fun z => by rw [b6] at z; cases z), b4, b5, b6⟩
      rw [z, hT p hp] at b3
      cases b3
      cases b6
  have env0 : Env0 P w K mg (hidT s.heap H) callerA [] s H := ⟨rfl, mod, fun b o e => of_hidT e, Nat.le_of_eq (hidT_size _ _), trivial, fun b h => (nomatch h), hok, .of_eq hg⟩
  refine codeAny_mono ((F _ kinB (nsB hns) tabB).run callerA [] s H ⟨[.ref a], []⟩ [.ref a] [.ref a] _ _ rfl hr env0 (hbind s (.ref a)) (.cons rfl .nil) (hsp H hH hS)) fun r s' h => ?_
  match r, h with
  | .error e, h => exact (hCX H e s' h).elim
  | .ok (.ret u), ⟨v, H', os, bare, un, hok', r', (q : v = .bl true)⟩ =>
    subst q
    cases r'
    have old : ∀ b o, b ∉ cs.map (·.2) → s.heap.get? b = some o → s'.heap.get? b = some o := fun b o nb e => by
      cases z : H b with
      | none => exact un.keep b o e z (fun y => nomatch y) (by simp)
      | some t =>
        rcases h0_some z with ⟨h1, _⟩ | ⟨_, rfl, _, rfl⟩
        · exact absurd h1 nb
        · have z2 := un.frzs _ _ _ z
          have y1 := (hok _ _ z).1
          have y2 := (hok' _ _ z2).1
          rw [e] at y1
          cases y1
          exact y2
    have grown : ∀ p ∈ cs, ∃ more : Array Value, s'.heap.get? p.2 = some { cls := .none, data := .fields more } := fun p hp => by
      obtain ⟨more, z⟩ := un.tbls p.2 #[] (hH p hp)
      exact ⟨_, hok' p.2 _ z⟩
    refine ⟨rfl, ⟨fun b o e => ?_, fun b o e => ?_⟩, os, bare⟩
    · by_cases hbT : b ∈ cs.map (·.2)
      · obtain ⟨p, hp, rfl⟩ := inT hbT
        obtain ⟨more, hm⟩ := grown p hp
        rw [hT p hp] at e
        cases e
        exact .inr (.inl ⟨((C p hp).tab (hT p hp)).isCodeTable, rfl, #[], more, rfl, by rw [Array.empty_append]; exact hm⟩)
      · exact .inl (old b o hbT e)
    · by_cases hbT : b ∈ cs.map (·.2)
      · obtain ⟨p, hp, rfl⟩ := inT hbT
        obtain ⟨more, hm⟩ := grown p hp
        exact ⟨_, hm⟩
      · exact ⟨o, old b o hbT e⟩
end Lf

namespace Lf
/-! ### told numbers: the mathematics -/
/-- how many ways to pick so few of so many, as it is reckoned -/
def pk (m : Int) : Nat → Int
  | 0 => 1
  | i + 1 => pk m i * (m - (i : Nat)) / ((i : Nat) + 1)
def sgn (a m : Int) : Int := if m % 2 = 1 then -a else a
/-- what is told, of the counts -/
def toldAt (k : Nat) (c : List Int) (i : Nat) (n : Nat) : List Int := (List.range n).map fun j => sgn (c.getD j 0 * pk ((k : Int) - j) (k - i)) ((i : Int) - j)
def toldL (k : Nat) (c : List Int) (n : Nat) : List Int := (List.range n).map fun i => (toldAt k c i (i + 1)).sum
/-- the counts of what is told -/
def cntAt (k : Nat) (r : List Int) (j : Nat) (n : Nat) : List Int := (List.range n).map fun i => r.getD i 0 * pk ((k : Int) - i) (j - i)
def cntL (k : Nat) (r : List Int) (n : Nat) : List Int := (List.range n).map fun j => (cntAt k r j (j + 1)).sum
/-- by 1 less x, the next count put to -/
def lessX (r : List Int) : List Int := List.zipWith (fun a b => a - b) (r ++ [0]) ([0] ++ r)
def moreX (r : List Int) : List Int := List.zipWith (fun a b => a + b) (r ++ [0]) ([0] ++ r)
def ltold (c : List Int) : Nat → List Int
  | 0 => []
  | m + 1 => (lessX (ltold c m)).set m ((lessX (ltold c m)).getD m 0 + c.getD m 0)
def moreN (r : List Int) : Nat → List Int
  | 0 => r
  | i + 1 => moreX (moreN r i)
def putOn (t : List Int) (p : Nat) (s : List Int) : Nat → List Int
  | 0 => t
  | i + 1 => (putOn t p s i).set (p + i) ((putOn t p s i).getD (p + i) 0 + s.getD i 0)
def powers (r : List Int) : Nat → List Int
  | 0 => List.replicate r.length 0
  | p + 1 => putOn (powers r p) p (moreN [r.getD p 0] (r.length - 1 - p)) (moreN [r.getD p 0] (r.length - 1 - p)).length
theorem pk_le : ∀ m : Nat, m ≤ 4 → ∀ f : Nat, f ≤ 4 → 0 ≤ pk m f ∧ pk m f ≤ 6 := by decide
theorem lessX_len (r : List Int) : (lessX r).length = r.length + 1 := by
  unfold lessX
  simp
theorem moreX_len (r : List Int) : (moreX r).length = r.length + 1 := by
  unfold moreX
  simp
theorem ltold_len (c : List Int) : ∀ m, (ltold c m).length = m
  | 0 => rfl
  | m + 1 => by rw [ltold, List.length_set, lessX_len, ltold_len c m]
theorem moreN_len (r : List Int) : ∀ m, (moreN r m).length = r.length + m
  | 0 => rfl
  | m + 1 => by rw [moreN, moreX_len, moreN_len r m]; omega
theorem putOn_len (t : List Int) (p : Nat) (s : List Int) : ∀ i, (putOn t p s i).length = t.length
  | 0 => rfl
  | i + 1 => by rw [putOn, List.length_set, putOn_len t p s i]
theorem powers_len (r : List Int) : ∀ p, (powers r p).length = r.length
  | 0 => by rw [powers, List.length_replicate]
  | p + 1 => by rw [powers, putOn_len, powers_len r p]
theorem pk00 : pk 0 0 = 1 := by decide
theorem len_cases {c : List Int} {k : Nat} (h : c.length = k + 1) (hk : k ≤ 4) : (∃ a, c = [a]) ∨ (∃ a b, c = [a, b]) ∨ (∃ a b d, c = [a, b, d]) ∨ (∃ a b d e, c = [a, b, d, e]) ∨ ∃ a b d e g, c = [a, b, d, e, g] := by
  match c, h with
  | [a], _ => exact .inl ⟨a, rfl⟩
  | [a, b], _ => exact .inr (.inl ⟨a, b, rfl⟩)
  | [a, b, d], _ => exact .inr (.inr (.inl ⟨a, b, d, rfl⟩))
  | [a, b, d, e], _ => exact .inr (.inr (.inr (.inl ⟨a, b, d, e, rfl⟩)))
  | [a, b, d, e, g], _ => exact .inr (.inr (.inr (.inr ⟨a, b, d, e, g, rfl⟩)))
  | a :: b :: d :: e :: g :: x :: t, h => simp at h; omega
theorem told0 (a : Int) : toldL 0 [a] 1 = [a] := by simp [toldL, toldAt, sgn, pk, List.range_succ]
theorem told1 (a b : Int) : toldL 1 [a, b] 2 = [a, b - a] := by
  simp [toldL, toldAt, sgn, pk, List.range_succ]
  omega
theorem told2 (a b d : Int) : toldL 2 [a, b, d] 3 = [a, b - 2 * a, d - b + a] := by
  simp [toldL, toldAt, sgn, pk, List.range_succ]
  omega
theorem told3 (a b d e : Int) : toldL 3 [a, b, d, e] 4 = [a, b - 3 * a, d - 2 * b + 3 * a, e - d + b - a] := by
  simp [toldL, toldAt, sgn, pk, List.range_succ]
  omega
theorem told4 (a b d e g : Int) : toldL 4 [a, b, d, e, g] 5 = [a, b - 4 * a, d - 3 * b + 6 * a, e - 2 * d + 3 * b - 4 * a, g - e + d - b + a] := by
  simp [toldL, toldAt, sgn, pk, List.range_succ]
  omega
theorem cnt0 (a : Int) : cntL 0 [a] 1 = [a] := by simp [cntL, cntAt, pk, List.range_succ]
theorem cnt1 (a b : Int) : cntL 1 [a, b] 2 = [a, a + b] := by simp [cntL, cntAt, pk, List.range_succ]
theorem cnt2 (a b d : Int) : cntL 2 [a, b, d] 3 = [a, 2 * a + b, a + b + d] := by
  simp [cntL, cntAt, pk, List.range_succ]
  omega
theorem cnt3 (a b d e : Int) : cntL 3 [a, b, d, e] 4 = [a, 3 * a + b, 3 * a + 2 * b + d, a + b + d + e] := by
  simp [cntL, cntAt, pk, List.range_succ]
  omega
theorem cnt4 (a b d e g : Int) : cntL 4 [a, b, d, e, g] 5 = [a, 4 * a + b, 6 * a + 3 * b + d, 4 * a + 3 * b + 2 * d + e, a + b + d + e + g] := by
  simp [cntL, cntAt, pk, List.range_succ]
  omega
/-- of what is told the counts come -/
theorem cnt_told {c : List Int} {k : Nat} (h : c.length = k + 1) (hk : k ≤ 4) : cntL k (toldL k c (k + 1)) (k + 1) = c := by
  rcases len_cases h hk with ⟨a, rfl⟩ | ⟨a, b, rfl⟩ | ⟨a, b, d, rfl⟩ | ⟨a, b, d, e, rfl⟩ | ⟨a, b, d, e, g, rfl⟩ <;> (simp at h; subst h)
  · rw [told0, cnt0]
  · rw [told1, cnt1]
    simp only [List.cons.injEq, and_true, true_and]
    omega
  · rw [told2, cnt2]
    simp only [List.cons.injEq, and_true, true_and]
    omega
  · rw [told3, cnt3]
    simp only [List.cons.injEq, and_true, true_and]
    omega
  · rw [told4, cnt4]
    simp only [List.cons.injEq, and_true, true_and]
    omega
/-- the law's way is the program's -/
theorem ltold_eq {c : List Int} {k : Nat} (h : c.length = k + 1) (hk : k ≤ 4) : ltold c (k + 1) = toldL k c (k + 1) := by
  rcases len_cases h hk with ⟨a, rfl⟩ | ⟨a, b, rfl⟩ | ⟨a, b, d, rfl⟩ | ⟨a, b, d, e, rfl⟩ | ⟨a, b, d, e, g, rfl⟩ <;> (simp at h; subst h)
  · rw [told0]
    simp [ltold, lessX]
  · rw [told1]
    simp [ltold, lessX]
    try omega
  · rw [told2]
    simp [ltold, lessX]
    omega
  · rw [told3]
    simp [ltold, lessX]
    omega
  · rw [told4]
    simp [ltold, lessX]
    omega
theorem powers_eq {r : List Int} {k : Nat} (h : r.length = k + 1) (hk : k ≤ 4) : powers r (k + 1) = cntL k r (k + 1) := by
  rcases len_cases h hk with ⟨a, rfl⟩ | ⟨a, b, rfl⟩ | ⟨a, b, d, rfl⟩ | ⟨a, b, d, e, rfl⟩ | ⟨a, b, d, e, g, rfl⟩ <;> (simp at h; subst h)
  · rw [cnt0]
    simp [powers, putOn, moreN, moreX]
  · rw [cnt1]
    simp [powers, putOn, moreN, moreX]
  · rw [cnt2]
    simp [powers, putOn, moreN, moreX]
    omega
  · rw [cnt3]
    simp [powers, putOn, moreN, moreX]
    omega
  · rw [cnt4]
    simp [powers, putOn, moreN, moreX]
    omega
theorem toldL_len (k : Nat) (c : List Int) (n : Nat) : (toldL k c n).length = n := by simp [toldL]
theorem cntL_len (k : Nat) (c : List Int) (n : Nat) : (cntL k c n).length = n := by simp [cntL]
/-- what is told of few is not far from nought -/
theorem told_few {c : List Int} {k : Nat} (h : c.length = k + 1) (hk : k ≤ 4) (hc : ∀ x ∈ c, 0 ≤ x ∧ x ≤ 1000) : ∀ x ∈ toldL k c (k + 1), -1000000 ≤ x ∧ x ≤ 1000000 := by
  rcases len_cases h hk with ⟨a, rfl⟩ | ⟨a, b, rfl⟩ | ⟨a, b, d, rfl⟩ | ⟨a, b, d, e, rfl⟩ | ⟨a, b, d, e, g, rfl⟩ <;> (simp at h; subst h) <;> simp only [List.mem_cons, List.not_mem_nil, or_false, forall_eq_or_imp, forall_eq] at hc
  · rw [told0]
    simp only [List.mem_cons, List.not_mem_nil, or_false, forall_eq_or_imp, forall_eq]
    omega
  · rw [told1]
    simp only [List.mem_cons, List.not_mem_nil, or_false, forall_eq_or_imp, forall_eq]
    omega
  · rw [told2]
    simp only [List.mem_cons, List.not_mem_nil, or_false, forall_eq_or_imp, forall_eq]
    omega
  · rw [told3]
    simp only [List.mem_cons, List.not_mem_nil, or_false, forall_eq_or_imp, forall_eq]
    omega
  · rw [told4]
    simp only [List.mem_cons, List.not_mem_nil, or_false, forall_eq_or_imp, forall_eq]
    omega
end Lf

set_option maxHeartbeats 2000000
namespace Lf
open PySem PySem.Spec PyProof.Rows L2 GxR GxA SrT EnT
abbrev nTold : List Str := ["stack", "k", "found", "i", "j"]
abbrev nCountsFrom : List Str := ["row", "k", "j", "i"]
abbrev toldC : Scope := { kind := .function, names := [(".0", .local), ("i", .cell), ("sum", .globalImplicit), ("range", .globalImplicit), ("found", .cell), ("k", .cell)], isGenerator := false, isCoroutine := false }
section
variable {P : Program} {w : World} {K : PySem.W.Frag} {mg : Str → Option Value} {base : Heap} {Ps : Tbs} {H H' H0 : Hp} {k : Nat} {f c : Addr} {fd : FuncData}
/-! ### picks, signed -/
def spPicks : Sp := fun vs H Q _ => ∃ m e : Int, vs = [.int m, .int e] ∧ 0 ≤ m ∧ m ≤ 4 ∧ 0 ≤ e ∧ e ≤ 4 ∧ Q (.int (pk m e.toNat)) H
def spSigned : Sp := fun vs H Q _ => ∃ a m : Int, vs = [.int a, .int m] ∧ Q (.int (sgn a m)) H
/-! ### told -/
theorem countsN_len (n kk : Nat) (fss : List (List Int)) : (countsN n kk fss).length = kk + 1 := by simp [countsN]
theorem toldAt_succ (k : Nat) (c : List Int) (i n : Nat) : toldAt k c i (n + 1) = toldAt k c i n ++ [sgn (c.getD n 0 * pk ((k : Int) - n) (k - i)) ((i : Int) - n)] := by
  unfold toldAt
  rw [List.range_succ, List.map_append]
  rfl
theorem toldL_succ (k : Nat) (c : List Int) (n : Nat) : toldL k c (n + 1) = toldL k c n ++ [(toldAt k c n (n + 1)).sum] := by
  unfold toldL
  rw [List.range_succ, List.map_append]
  rfl
theorem cntAt_succ (k : Nat) (c : List Int) (i n : Nat) : cntAt k c i (n + 1) = cntAt k c i n ++ [c.getD n 0 * pk ((k : Int) - n) (i - n)] := by
  unfold cntAt
  rw [List.range_succ, List.map_append]
  rfl
theorem cntL_succ (k : Nat) (c : List Int) (n : Nat) : cntL k c (n + 1) = cntL k c n ++ [(cntAt k c n (n + 1)).sum] := by
  unfold cntL
  rw [List.range_succ, List.map_append]
  rfl
theorem pk_small {a b : Int} (h1 : 0 ≤ a) (h2 : a ≤ 4) (h3 : 0 ≤ b) (h4 : b ≤ 4) : -(2 ^ 64) < pk a b.toNat ∧ pk a b.toNat < 2 ^ 64 := by
  have z := pk_le a.toNat (by omega) b.toNat (by omega)
  rw [show ((a.toNat : Nat) : Int) = a from by omega] at z
  omega
def toldS (n kk : Int) (fss : List (List Int)) : List Int := toldL kk.toNat (countsN n.toNat kk.toNat fss) (kk.toNat + 1)
def spTold (K : PySem.W.Frag) (Ps : Tbs) : Sp := fun vs H Q _ => ∃ (x : V) (n kk : Int) (fss : List (List Int)), vs = [x] ∧ Stk K H x n kk fss ∧ StkOk n kk fss ∧ fss.length ≤ 60 ∧ Tb Ps H ∧
  ∀ v H', Ext Ps H H' → TupI K H' v (toldS n kk fss) → Q v H'
end
end Lf

set_option maxHeartbeats 2000000
namespace Lf
open PySem PySem.Spec PyProof.Rows L2 GxR GxA SrT EnT
abbrev cntC : Scope := { kind := .function, names := [(".0", .local), ("j", .cell), ("sum", .globalImplicit), ("range", .globalImplicit), ("k", .cell), ("row", .cell)], isGenerator := false, isCoroutine := false }
section
variable {P : Program} {w : World} {K : PySem.W.Frag} {mg : Str → Option Value} {base : Heap} {Ps : Tbs} {H H' H0 : Hp} {k : Nat} {f c : Addr} {fd : FuncData}
/-- a row of numbers that may be told -/
structure RowOk (ns : List Int) : Prop where
  l1 : 1 ≤ ns.length
  l5 : ns.length ≤ 5
  bd : ∀ x ∈ ns, -1000000 ≤ x ∧ x ≤ 1000000
def spIsTold (K : PySem.W.Frag) (Ps : Tbs) : Sp := fun vs H Q _ => ∃ (x : V) (ns : List Int), vs = [x] ∧ TupI K H x ns ∧ RowOk ns ∧ Tb Ps H ∧ ∀ H', Ext Ps H H' → Q (.bl true) H'
def spCountsFrom (K : PySem.W.Frag) (Ps : Tbs) : Sp := fun vs H Q _ => ∃ (x : V) (ns : List Int), vs = [x] ∧ TupI K H x ns ∧ RowOk ns ∧ Tb Ps H ∧ ∀ v H', Ext Ps H H' → TupI K H' v (cntL (ns.length - 1) ns ns.length) → Q v H'
end
end Lf

set_option maxHeartbeats 2000000
namespace Lf
open PySem PySem.Spec PyProof.Rows L2 GxR GxA SrT EnT RZ
abbrev nLTold : List Str := ["_law_stack_here", "_law_row", "_law_many", "_law_one", "_law_other"]
theorem zipW_take {g : Int → Int → Int} {us vs : List Int} {i : Nat} {a b : Int} (h1 : us[i]? = some a) (h2 : vs[i]? = some b) : (List.zipWith g us vs).take (i + 1) = (List.zipWith g us vs).take i ++ [g a b] := by
  rw [List.take_add_one, List.getElem?_zipWith, h1, h2]
  rfl
theorem getD_map {ns : List Int} {i : Nat} (h : i < ns.length) : (ns.map V.int)[i]? = some (.int (ns.getD i 0)) := by
  rw [List.getElem?_map, List.getD_eq_getElem?_getD, List.getElem?_eq_getElem h]
  rfl
theorem ixN_at {m j : Nat} (h : j < m) : ixN m (j : Int) = some j := by
  unfold ixN
  have h1 : ¬ ((j : Int) < 0) := by omega
  have h2 : ((j : Int).toNat) < m := by omega
  simp [h1, h2]
  try omega
theorem rep0 : ∀ m : Nat, (List.replicate m [V.int 0]).flatten = (List.replicate m (0 : Int)).map V.int
  | 0 => rfl
  | m + 1 => by
    rw [List.replicate_succ, List.replicate_succ, List.flatten_cons, rep0 m]
    rfl
section
variable {P : Program} {w : World} {K : PySem.W.Frag} {mg : Str → Option Value} {base : Heap} {Ps : Tbs} {H H' H0 : Hp} {k : Nat} {f c : Addr} {fd : FuncData}
def spLTold (K : PySem.W.Frag) (Ps : Tbs) : Sp := fun vs H Q _ => ∃ (x : V) (n kk : Int) (fss : List (List Int)), vs = [x] ∧ Stk K H x n kk fss ∧ StkOk n kk fss ∧ Tb Ps H ∧
  ∀ v H', Ext Ps H H' → TupI K H' v (ltold (countsN n.toNat kk.toNat fss) (kk.toNat + 1)) → Q v H'
end
end Lf

set_option maxHeartbeats 1000000
/-! for x, y in zip(l, t), l a list, t a tuple. -/
namespace ZnT
open PySem PySem.Spec PyProof.Rows L2
/-- the list at a and the tuple at b: the items in new pairs -/
def ItN (K : PySem.W.Frag) (a b : Addr) : It :=
  ⟨fun i H => ∃ (xs ys : List V) (x y : V), SqL K H a xs ∧ SqT K H b ys ∧ xs[i]? = some x ∧ ys[i]? = some y,
    fun i H v H' => ∃ T x y, v = .ref T ∧ H T = none ∧ H' = upd H T (.tup [x, y]) ∧ (∀ xs, SqL K H a xs → xs[i]? = some x) ∧ ∀ ys, SqT K H b ys → ys[i]? = some y,
    fun i H => ∃ xs ys : List V, SqL K H a xs ∧ SqT K H b ys ∧ i = xs.length ∧ i = ys.length⟩
/-- where the five lie -/
structure Apart (a b z TI TO i1 i2 : Addr) : Prop where
  sep : ZipSep2 z TI TO i1 i2 [i1, a] [i2, b]
  ai : a ≠ i1
  bi : b ≠ i2
theorem turn_zn {P : Program} {w : World} {K : PySem.W.Frag} {elts : List Expr} {kk : Nat} {tpos : Pos} {a b z TI TO i1 i2 : Addr} (D : Apart a b z TI TO i1 i2) :
    Turn P w K (.Tuple elts kk tpos) (ItN K a b) [z, TI, TO, i1, i2] z (fun i h => IsZip h z TI TO .none ∧ IsTupOf2 h TI (.ref i1) (.ref i2) ∧ (∃ x y, IsTupOf2 h TO x y) ∧ h.IsListIter i1 a i ∧ h.IsTupleIter i2 b i) where
  mem := by simp
  obj := fun i h st c hc => by
    obtain ⟨hz, hTI, ⟨x, y, hTO⟩, ⟨o1, e1, _, d1⟩, ⟨o2, e2, _, d2⟩⟩ := st
    have e' : c = z ∨ c = TI ∨ c = TO ∨ c = i1 ∨ c = i2 := by simpa using hc
    rcases e' with rfl | rfl | rfl | rfl | rfl
    · exact ⟨_, hz, fun v q => nomatch q⟩
    · exact ⟨_, hTI, fun v q => nomatch q⟩
    · exact ⟨_, hTO, fun v q => nomatch q⟩
    · exact ⟨o1, e1, fun v q => by rw [d1] at q; cases q⟩
    · exact ⟨o2, e2, fun v q => by rw [d2] at q; cases q⟩
  keep := fun i h h' st k => by
    obtain ⟨hz, hTI, ⟨x, y, hTO⟩, h1, h2⟩ := st
    exact ⟨k z (by simp) _ hz, k TI (by simp) _ hTI, ⟨x, y, k TO (by simp) _ hTO⟩, h1.at fun o q => k i1 (by simp) o q, h2.at fun o q => k i2 (by simp) o q⟩
  item := by
    intro X hP hw hK hc i pins s σ H E I hf st hg
    subst hP hw hK
    obtain ⟨hz, hTI, ⟨x0, y0, hTO⟩, h1, h2⟩ := st
    obtain ⟨xs, ys, x, y, qx, qy, hx, hy⟩ := hg
    obtain ⟨its, rv, p1, _⟩ := I.list qx
    obtain ⟨its2, rv2, p2, _⟩ := I.tuple qy
    obtain ⟨u, hu, ru⟩ := rv.get hx
    obtain ⟨u2, hu2, ru2⟩ := rv2.get hy
    have D1 := Draws.list (prog := X.prog) (w := X.w) (A := X.A.in1) (I.ok.hd hc) i1 a D.ai its.toArray
    have D2 := Draws.tuple (prog := X.prog) (w := X.w) (A := X.A.in1) (I.ok.hd hc) i2 b D.bi its2.toArray
    have lt1 : i < its.toArray.size := by simpa using (List.getElem?_eq_some_iff.mp hu).1
    have lt2 : i < its2.toArray.size := by simpa using (List.getElem?_eq_some_iff.mp hu2).1
    have zl : z < s.heap.objs.size := Heap.lt_size hz
    refine wpAny_pyNext_zipD2_item D.sep D1 D2 hz hTI hTO ⟨h1, p1.isList⟩ ⟨h2, p2⟩ lt1 lt2 fun v1 v2 h' tk q1 q2 z' TO' s1 s2 hT hsz hk => ?_
    have e1 : v1 = u := by
      have k1 : its.toArray[i]? = some v1 := q1
      have k2 : its.toArray[i]? = some u := by simpa using hu
      rw [k1] at k2
      exact Option.some.inj k2
    have e2 : v2 = u2 := by
      have k1 : its2.toArray[i]? = some v2 := q2
      have k2 : its2.toArray[i]? = some u2 := by simpa using hu2
      rw [k1] at k2
      exact Option.some.inj k2
    subst e1 e2
    refine ⟨_, rfl, wpAny_letOwnedTupleGo_zip (s := { s with heap := h', toks := tk }) z' fun h'' z'' sb => ?_⟩
    have hT2 : h''.get? s.heap.objs.size = some { cls := .type "tuple", data := .seq #[v1, v2] } := (sb.2 _ (Nat.ne_of_gt zl)).trans hT
    have new : ObjOk X.prog X.w (upd H s.heap.objs.size (.tup [x, y])) h'' s.heap.objs.size (.tup [x, y]) := ⟨by show 2 ≤ sizeLine; decide, [v1, v2], .cons ru (.cons ru2 .nil), ⟨_, hT2, rfl, _, rfl⟩⟩
    have I1 : Inv X pins σ (upd H s.heap.objs.size (.tup [x, y])) { s with heap := h'', toks := tk } :=
      I.turnedNew (t' := tk) (ch := [z, TI, TO, i1, i2]) (fun c o hb q => (sb.2 c (fun q' => hb (by simp [q']))).trans (hk c o (fun q' => hb (by simp [q'])) (fun q' => hb (by simp [q'])) (fun q' => hb (by simp [q'])) (fun q' => hb (by simp [q'])) q)) hf (Nat.le_refl _) new
    refine ⟨.ref s.heap.objs.size, _, I1, rfl, ⟨_, x, y, rfl, I.hok.fresh (Nat.le_refl _), rfl, fun l hl => by rw [I.list_inj hl qx]; exact hx, fun l hl => by rw [I.tuple_inj hl qy]; exact hy⟩, ⟨z'', ?_, ⟨v1, v2, ?_⟩, ?_, ?_⟩, fun c hcm => ?_⟩
    · exact (sb.2 _ D.sep.TIz).trans (hk _ _ D.sep.TIz D.sep.TITO D.sep.TIi1 D.sep.TIi2 hTI)
    · exact (sb.2 _ D.sep.TOz).trans TO'
    · exact s1.1.at fun o q => (sb.2 _ (Ne.symm D.sep.zi1)).trans q
    · exact s2.1.at fun o q => (sb.2 _ (Ne.symm D.sep.zi2)).trans q
    · have hlt : c < s.heap.objs.size := by
        have e' : c = z ∨ c = TI ∨ c = TO ∨ c = i1 ∨ c = i2 := by simpa using hcm
        rcases e' with rfl | rfl | rfl | rfl | rfl
        · exact zl
        · exact Heap.lt_size hTI
        · exact Heap.lt_size hTO
        · obtain ⟨_, g, _⟩ := h1
          exact Heap.lt_size g
        · obtain ⟨_, g, _⟩ := h2
          exact Heap.lt_size g
      rw [upd_ne (Nat.ne_of_lt hlt)]
      exact (hf c hcm).1
  done := by
    intro X hP hw hK hc i pins s σ H E I hf st hg
    subst hP hw hK
    obtain ⟨hz, hTI, ⟨x0, y0, hTO⟩, h1, h2⟩ := st
    obtain ⟨xs, ys, qx, qy, n1, n2⟩ := hg
    obtain ⟨its, rv, p1, _⟩ := I.list qx
    obtain ⟨its2, rv2, p2, _⟩ := I.tuple qy
    have l1 := rv.length
    have l2 := rv2.length
    have D1 := Draws.list (prog := X.prog) (w := X.w) (A := X.A.in1) (I.ok.hd hc) i1 a D.ai its.toArray
    have D2 := Draws.tuple (prog := X.prog) (w := X.w) (A := X.A.in1) (I.ok.hd hc) i2 b D.bi its2.toArray
    exact wpAny_pyNext_zipD2_end D.sep D1 D2 hz hTI hTO ⟨h1, p1.isList⟩ ⟨h2, p2⟩ (by rw [List.size_toArray]; omega) (by rw [List.size_toArray]; omega) (.inl (by rw [List.size_toArray]; omega)) fun h' tk hk => ⟨rfl, I.turnedL (t' := tk) (ch := [z, TI, TO, i1, i2]) (fun c o hb q =>
      hk c o (fun q' => hb (by simp [q'])) (fun q' => hb (by simp [q'])) (fun q' => hb (by simp [q'])) (fun q' => hb (by simp [q'])) q) hf⟩
  self := fun A i s Q E st h => wpAny_pyIter_zip st.1 h
def iZn (K : PySem.W.Frag) (ta : TA) : TI := fun σ H R => ta σ H fun vs H1 => ∃ a b xs ys, vs = [.ref a, .ref b] ∧ SqL K H1 a xs ∧ SqT K H1 b ys ∧ R (ItN K a b) H1
theorem pi_zn {X : Cx} {e e2 : Expr} {ta : TA} {p pos tpos : Pos} {elts : List Expr} {kk : Nat} (hg : Gl X "zip") (hm : X.mg "zip" = none) (ha : PA X [e, e2] ta)
    (hs : starEach [e, e2] X.env = (false, eval e X.env) :: starEach [e2] X.env := by rfl) (hpl : (backTo pos (starEach [e2] X.env)).any (·.1) = false := by rfl) : PI X (.Tuple elts kk tpos) (.Call (.Name "zip" p) [e, e2] [] pos) (iZn X.K ta) := by
  refine ⟨fun pins s σ H R I h => ?_⟩
  refine Call_ (ld_blt I hg hm PyProof.Rows.boot_zip (PyProof.Rows.callWith_type1 (thn (ha.run pos pins s σ H _ I h) fun us s1 ⟨vs, H1, I1, r1, q1⟩ => ?_) hs hpl))
  obtain ⟨a, b, xs, ys, rfl, qx, qy, q⟩ := q1
  obtain ⟨v1, v2, rfl, r1, r2⟩ := vals2 r1
  cases r1
  cases r2
  obtain ⟨its, rv, p1, _⟩ := I1.list qx
  obtain ⟨its2, rv2, p2, _⟩ := I1.tuple qy
  have la : a < s1.heap.objs.size := p1.lt
  have lb : b < s1.heap.objs.size := by
    obtain ⟨o, ho, _⟩ := id p2
    exact Heap.lt_size ho
  refine zip_begins2 (begins_list a its.toArray) (begins_tuple b its2.toArray) p1.isList p2 fun h' hz hTI hTO h1 h2 hsz hk => wpAny_pyIter_zip hz ?_
  have I2 : Inv X pins σ H1 { s1 with heap := h' } := I1.kept (t' := s1.toks) hk
  have sep := zip_sep2 (N := s1.heap.objs.size) (fp1 := [a]) (fp2 := [b]) (fun c hc => by rw [List.mem_singleton.mp hc]; exact la) (fun c hc => by rw [List.mem_singleton.mp hc]; exact lb)
  refine ⟨s1.heap.objs.size + 4, [s1.heap.objs.size + 4, s1.heap.objs.size + 2, s1.heap.objs.size + 3, s1.heap.objs.size, s1.heap.objs.size + 1], _, _, H1, rfl, I2, turn_zn ⟨sep, Nat.ne_of_lt la, Nat.ne_of_lt (Nat.lt_succ_of_lt lb)⟩, ⟨hz, hTI, ⟨_, _, hTO⟩, ⟨_, h1, rfl, rfl⟩, ⟨_, h2, rfl, rfl⟩⟩, fun c hcm => ?_, q⟩
  have hle : s1.heap.objs.size ≤ c := by
    have e' : c = s1.heap.objs.size + 4 ∨ c = s1.heap.objs.size + 2 ∨ c = s1.heap.objs.size + 3 ∨ c = s1.heap.objs.size ∨ c = s1.heap.objs.size + 1 := by simpa using hcm
    rcases e' with e' | e' | e' | e' | e' <;> (rw [e']; first | exact Nat.le_refl _ | exact Nat.le_add_right _ _)
  exact I1.fpOk hle (I1.hok.fresh hle)
end ZnT

set_option maxHeartbeats 2000000
namespace Lf
open PySem PySem.Spec PyProof.Rows L2 GxR GxA SrT EnT RZ
/-- [.. for x, y in zip(a list, a tuple)] -/
theorem lc_zn {K : PySem.W.Frag} {a b : Addr} {xs ys : List V} {g : TG} {tt : TT} {te : TE} {vs : List Nat} {σ : L2.St} {H1 : Hp} {D : Addr} {Qd : Hp → Prop} (hl : xs.length = ys.length) (Pv : Nat → Hp → Prop) (h0 : Pv 0 (upd H1 D (.lst []))) (hq : ∀ i H, Pv i H → SqL K H a xs ∧ SqT K H b ys)
    (hs : ∀ i x y H T, xs[i]? = some x → ys[i]? = some y → Pv i H → H T = none → g (.ref T) (wipe σ vs) (upd H T (.tup [x, y])) fun σ2 H2 => wipe σ2 vs = wipe σ vs ∧ tt σ2 H2 fun b H3 =>
      if b = true then te σ2 H3 fun y H4 => ∃ acc, H4 D = some (.lst acc) ∧ acc.length < sizeLine ∧ Pv (i + 1) (upd H4 D (.lst (acc ++ [y]))) else Pv (i + 1) H3) (hd : ∀ H, Pv xs.length H → Qd H) :
    ∃ W : Nat → Nat → Hp → Prop, (∃ m, W 0 m (upd H1 D (.lst []))) ∧ ∀ i m H, W i m H →
      ((ZnT.ItN K a b).stop i H ∧ Qd H) ∨ ((ZnT.ItN K a b).go i H ∧ ∃ Nx : Hp → Prop, (∀ H', Nx H' → ∃ m', m' < m ∧ W (i + 1) m' H') ∧ ∀ x H', (ZnT.ItN K a b).yld i H x H' → g x (wipe σ vs) H' fun σ2 H2 => wipe σ2 vs = wipe σ vs ∧ tt σ2 H2 fun b H3 =>
        if b = true then te σ2 H3 fun y H4 => ∃ acc, H4 D = some (.lst acc) ∧ acc.length < sizeLine ∧ Nx (upd H4 D (.lst (acc ++ [y]))) else Nx H3) := by
  refine ⟨fun i m H => m = xs.length - i ∧ i ≤ xs.length ∧ Pv i H, ⟨xs.length, by simp, Nat.zero_le _, h0⟩, ?_⟩
  rintro i m H ⟨rfl, hi, p⟩
  obtain ⟨q1, q2⟩ := hq i H p
  by_cases hlt : i < xs.length
  · have hlt2 : i < ys.length := by omega
    refine .inr ⟨⟨xs, ys, xs[i], ys[i], q1, q2, List.getElem?_eq_getElem hlt, List.getElem?_eq_getElem hlt2⟩, Pv (i + 1), fun H' p' => ⟨xs.length - (i + 1), by omega, rfl, hlt, p'⟩, fun x H' y => ?_⟩
    obtain ⟨T, z, u, rfl, hT, rfl, hz, hu⟩ := y
    exact hs i z u H T (hz xs q1) (hu ys q2) p hT
  · have e : i = xs.length := by omega
    subst e
    exact .inl ⟨⟨xs, ys, q1, q2, rfl, hl⟩, hd H p⟩
theorem countsN_few {n kk : Int} {fss : List (List Int)} (S : StkOk n kk fss) (h : fss.length ≤ 60) : ∀ x ∈ countsN n.toNat kk.toNat fss, 0 ≤ x ∧ x ≤ 1000 := by
  intro x hx
  unfold countsN at hx
  obtain ⟨m, hm, rfl⟩ := List.mem_map.mp hx
  have hm' := List.mem_range.mp hm
  have hk0 := S.k0
  have hk4 := S.k4
  have hn8 := S.n8
  have z := partsN_few (m := m) S.faces (by omega) (by omega) (by omega) h
  omega
section
variable {P : Program} {w : World} {K : PySem.W.Frag} {mg : Str → Option Value} {base : Heap} {Ps : Tbs} {H H' H0 : Hp} {k : Nat} {f c : Addr} {fd : FuncData}
theorem dp_tI {x : V} {ns : List Int} (h : TupI K H x ns) : Dp K H x (tD ns) := by
  obtain ⟨t, rfl, hT⟩ := h
  exact .tup hT (dp_ints ns)
theorem tD_ok {ns : List Int} (h : ns.length ≤ 1000) : (tD ns).canLay0 = true ∧ wide (tD ns) = true ∧ (tD ns).depth ≤ 3 := by
  refine ⟨by simp [tD, PyData.canLay0, lay_ints], ?_, ?_⟩
  · show wide (.tuple (iD ns)) = true
    rw [wide, wide_ints, Bool.and_true]
    refine decide_eq_true ?_
    rw [List.length_map]
    exact h
  · have z := dep_ints ns
    simp only [tD, PyData.depth]
    omega
/-- two tuples of the same numbers: the same data -/
theorem same_d {x y : V} {ns ms : List Int} (hx : TupI K H x ns) (hy : TupI K H y ms) (e : ns = ms) (hl : ns.length ≤ 1000) : ∃ d, Dp K H x d ∧ Dp K H y d ∧ d.canLay0 = true ∧ wide d = true ∧ d.depth ≤ 4 := by
  subst e
  exact ⟨tD ns, dp_tI hx, dp_tI hy, (tD_ok hl).1, (tD_ok hl).2.1, Nat.le_trans (tD_ok hl).2.2 (by decide)⟩
end
end Lf

set_option maxHeartbeats 8000000
namespace Lf
open PySem PySem.Spec PyProof.Rows L2 GxR GxA SrT
abbrev sLaw : Stmt := topS 69
abbrev nLaw : List Str := ["_law_script", "_law_cell_here", "_law_pen_here", "_law_one", "_law_order", "_law_other", "_law_another", "_law_rows", "_law_first", "_law_second", "_law_kept", "_law_due_here", "_law_turn", "_law_bad", "_law_some", "_law_a", "_law_b"]
theorem scLaw : FnScope nLaw ["_law_script"] (defScope sLaw) := ⟨rfl, rfl, rfl, by decide +kernel, rfl, by decide +kernel, by decide +kernel⟩
theorem KE.at2 {K : PySem.W.Frag} {C : Nat → Addr} {CY D : Addr} {Ps : Tbs} {H : Hp} {Q : VK} {i : Nat} {wd : Str} (Z : Kind K C CY i D) (hw : wordOf i = wd) (ht : Tb Ps H) (h : ∀ H2, Ext Ps H H2 → Q (.str wd) H2) : KE K C CY Ps Q (.ref D) none H := ⟨rfl, i, D, rfl, Z, ht, by rw [hw]; exact h⟩
theorem noList_ints : ∀ ns : List Int, noLists (iD ns) = true
  | [] => rfl
  | i :: ns => by
    show (noList (.int i) && noLists (iD ns)) = true
    rw [noList_ints ns]
    rfl
/-- no list, no dict -/
def Pl (d : PyData) : Prop := d.hasDict = false ∧ noList d = true
def Mx (d : PyData) : Prop := d.hasDict = true → noList d = true
theorem pl_tD (ns : List Int) : Pl (tD ns) := ⟨noDict_ints ns, noList_ints ns⟩
theorem pl_stk (n k : Int) (fss : List (List Int)) : Pl (stkD n k fss) := by
  have z : PyData.hasDictAll (fss.map tD) = false ∧ noLists (fss.map tD) = true := by
    induction fss with
    | nil => exact ⟨rfl, rfl⟩
    | cons f fss ih =>
      obtain ⟨a, b⟩ := pl_tD f
      rw [List.map_cons]
      exact ⟨by rw [PyData.hasDictAll, a, ih.1]; rfl, by rw [noLists, b, ih.2]; rfl⟩
  constructor
  · show (PyData.hasDict (.int n) || (PyData.hasDict (.int k) || (PyData.hasDictAll (fss.map tD) || false))) = false
    rw [z.1]
    rfl
  · show (noList (.int n) && (noList (.int k) && (noLists (fss.map tD) && true))) = true
    rw [z.2]
    rfl
/-- one thing of a row -/
structure Tg (W : Nat) (d : PyData) : Prop where
  wd : wide d = true
  sh : Shw W 7 d
  mx : Mx d
theorem tg_tD {ns : List Int} (hl : ns.length ≤ 30) (h : ∀ i ∈ ns, i.natAbs < 1000000) : Tg 3000 (tD ns) := ⟨wide_tD (by omega), (shw_tD h).mono (by omega) (by decide), fun _ => (pl_tD ns).2⟩
theorem tg_no {d : PyData} (g : Good d) (s : Sh4 d) : Tg 310000 d := ⟨g.1, ⟨s.1, s.2.1, s.2.2.1, Nat.le_trans s.2.2.2 (by decide)⟩, g.2.mix⟩
/-- both are fit to be shown together -/
structure Fit2 (dx dy : PyData) : Prop where
  wx : wide dx = true
  wy : wide dy = true
  sh : ∃ W1 W2, Shw W1 7 dx ∧ Shw W2 7 dy ∧ W1 + W2 ≤ 314000
  mx : (Pl dx ∧ Mx dy) ∨ (Mx dx ∧ Pl dy)
theorem fit_l {ns : List Int} {d : PyData} {W : Nat} (hl : ns.length ≤ 30) (h : ∀ i ∈ ns, i.natAbs < 1000000) (t : Tg W d) (hw : W ≤ 311000) : Fit2 (tD ns) d := ⟨(tg_tD hl h).wd, t.wd, ⟨_, _, (tg_tD hl h).sh, t.sh, by omega⟩, .inl ⟨pl_tD ns, t.mx⟩⟩
theorem fit_r {ns : List Int} {d : PyData} {W : Nat} (hl : ns.length ≤ 30) (h : ∀ i ∈ ns, i.natAbs < 1000000) (t : Tg W d) (hw : W ≤ 311000) : Fit2 d (tD ns) := ⟨t.wd, (tg_tD hl h).wd, ⟨_, _, t.sh, (tg_tD hl h).sh, by omega⟩, .inr ⟨t.mx, pl_tD ns⟩⟩
theorem Fit2.four {n1 k1 n2 k2 : Int} {fs1 fs2 : List (List Int)} {dx dy : PyData} (f : Fit2 dx dy) (S1 : StkOk n1 k1 fs1) (S2 : StkOk n2 k2 fs2) (l1 : fs1.length ≤ 30) (l2 : fs2.length ≤ 30) : Rp2 (.list [stkD n1 k1 fs1, stkD n2 k2 fs2, dx, dy]) ∧ (PyData.hasDictAll [stkD n1 k1 fs1, stkD n2 k2 fs2, dx, dy] = true → noLists [stkD n1 k1 fs1, stkD n2 k2 fs2, dx, dy] = true) := by
  obtain ⟨W1, W2, h1, h2, hw⟩ := f.sh
  have s1 := (shw_stk S1).mono (W' := 8000) (D' := 7) (by omega) (by decide)
  have s2 := (shw_stk S2).mono (W' := 8000) (D' := 7) (by omega) (by decide)
  have z : ShwA 331000 7 [stkD n1 k1 fs1, stkD n2 k2 fs2, dx, dy] := .cons s1 (.cons s2 (.cons h1 (.cons (W2 := 0) h2 .nil (Nat.le_refl _)) (Nat.le_refl _)) (Nat.le_refl _)) (by omega)
  refine ⟨z.list.rp2 (by decide) (by decide), fun hd => ?_⟩
  obtain ⟨a1, a2⟩ := pl_stk n1 k1 fs1
  obtain ⟨b1, b2⟩ := pl_stk n2 k2 fs2
  have e : (dx.hasDict || dy.hasDict) = true := by
    have e0 : (PyData.hasDict (stkD n1 k1 fs1) || (PyData.hasDict (stkD n2 k2 fs2) || (dx.hasDict || (dy.hasDict || false)))) = true := hd
    rw [a1, b1] at e0
    simpa using e0
  show (noList (stkD n1 k1 fs1) && (noList (stkD n2 k2 fs2) && (noList dx && (noList dy && true)))) = true
  rw [a2, b2]
  rcases f.mx with ⟨⟨p1, p2⟩, m⟩ | ⟨m, ⟨p1, p2⟩⟩
  · rw [p1, Bool.false_or] at e
    rw [p2, m e]
    rfl
  · rw [p1, Bool.or_false] at e
    rw [p2, m e]
    rfl
theorem tail_tg {ns : List Int} {e : PyData} (hl : ns.length ≤ 30) (h : ∀ i ∈ ns, i.natAbs < 1000000) (we : wide e = true) (se : Shw 100 3 e) (me : e.hasDict = false ∨ noList e = true) : Tg 3000 (.tuple (cutD (iD ns) (some 1) none ++ [e])) := by
  have il : (iD ns).length = ns.length := List.length_map ..
  have hs : ∀ d ∈ cutD (iD ns) (some 1) none ++ [e], Shw 98 3 d ∨ d = e := fun d hd => by
    rcases List.mem_append.mp hd with hd | hd
    · rw [cutD_tail] at hd
      obtain ⟨i, hi, rfl⟩ := List.mem_map.mp (List.mem_of_mem_drop hd)
      exact .inl ((shw_int (h i hi)).mono (by decide) (by decide))
    · exact .inr (List.mem_singleton.mp hd)
  have sa : ShwA (61 * 30 + 101) 3 (cutD (iD ns) (some 1) none ++ [e]) := by
    rw [cutD_tail, iD, ← List.map_drop]
    have hb : ∀ i ∈ ns.drop 1, i.natAbs < 1000000 := fun i hi => h i (List.mem_of_mem_drop hi)
    have hl2 : (ns.drop 1).length ≤ 30 := by rw [List.length_drop]; omega
    generalize ns.drop 1 = ms at *
    have : ∀ (ms : List Int) (m : Nat), (∀ i ∈ ms, i.natAbs < 1000000) → ms.length ≤ m → ShwA (61 * m + 101) 3 (ms.map PyData.int ++ [e]) := by
      intro ms
      induction ms with
      | nil => intro m _ _; exact .cons se (W2 := 0) .nil (by omega)
      | cons i ms ih =>
        intro m hb hm
        rw [List.length_cons] at hm
        have z := ih (m - 1) (fun j hj => hb j (List.mem_cons_of_mem _ hj)) (by omega)
        exact .cons ((shw_int (hb i List.mem_cons_self)).mono (W' := 60) (D' := 3) (by decide) (by decide)) z (by omega)
    exact this ms 30 hb hl2
  have wd : wide (.tuple (cutD (iD ns) (some 1) none ++ [e])) = true := wide_t (by rw [cutD_tail, List.length_append, List.length_drop, il]; show ns.length - 1 + 1 ≤ 1000; omega) fun d hd => by
    rcases List.mem_append.mp hd with hd | hd
    · rw [cutD_tail] at hd
      obtain ⟨i, hi, rfl⟩ := List.mem_map.mp (List.mem_of_mem_drop hd)
      rfl
    · rw [List.mem_singleton.mp hd]
      exact we
  refine ⟨wd, sa.tuple.mono (by decide) (by decide), fun hd => ?_⟩
  show noLists (cutD (iD ns) (some 1) none ++ [e]) = true
  have hd' : PyData.hasDictAll (cutD (iD ns) (some 1) none ++ [e]) = true := hd
  rw [cutD_tail, iD, ← List.map_drop] at hd' ⊢
  have key : ∀ ms : List Int, PyData.hasDictAll (ms.map PyData.int ++ [e]) = e.hasDict ∧ noLists (ms.map PyData.int ++ [e]) = noList e := by
    intro ms
    induction ms with
    | nil => exact ⟨by show (e.hasDict || false) = e.hasDict; simp, by show (noList e && true) = noList e; simp⟩
    | cons i ms ih => exact ⟨by show (PyData.hasDict (.int i) || PyData.hasDictAll (ms.map PyData.int ++ [e])) = e.hasDict; rw [ih.1]; rfl, by show (noList (.int i) && noLists (ms.map PyData.int ++ [e])) = noList e; rw [ih.2]; rfl⟩
  rw [(key _).1] at hd'
  rw [(key _).2]
  exact me.resolve_left (by rw [hd']; simp)
section
variable {P : Program} {w : World} {K : PySem.W.Frag} {mg : Str → Option Value} {base : Heap} {Ps : Tbs} {H H' H0 : Hp} {k : Nat} {f c : Addr} {fd : FuncData}
variable {C : Nat → Addr} {CY CS CO CG : Addr}
theorem came82_all {Q : VK} {x1 x2 y1 y2 : V} {n1 k1 n2 k2 : Int} {fs1 fs2 : List (List Int)} {d1 d2 : PyData} (KO : Kind K C CY 5 CO) (KG : KindG K C CY CG) (B : Both K Ps H x1 x2 y1 y2 n1 k1 n2 k2 fs1 fs2 d1 d2)
    (fin : ∀ v HY, Ext Ps H HY → Ans82 K HY n1 k1 n2 k2 fs1 fs2 d1 d2 v → Q v HY) : spJOrd K Ps CS CO CG [x1, x2, y1, y2] H Q (KE2 K C CY Ps Q) := by
  have a1 := B.one.ok.n1
  have a3 := B.two.ok.n1
  have b1 := B.one.ok.k0
  have b3 := B.two.ok.k0
  refine ⟨x1, x2, y1, y2, rfl, .inr (.inr ⟨n1, k1, n2, k2, fs1, fs2, d1, d2, B, fun hno H1 e1 => .inl (KE.at2 (wd := "order") KO rfl e1.tb fun H3 e3 => fin _ _ (e1.trans e3) (.inl ⟨hno, rfl⟩)), fun ns1 ns2 h1 h2 h3 h4 => ⟨fun h8 d H1 e1 nd hd => ?_, fun h8 h4' d H1 e1 nd hd => ?_, fun h8 h4' v H1 e1 hv => fin v H1 e1 (.inr ⟨ns1, ns2, h1, h2, h3, h4, .inr (.inr ⟨h8, h4', hv⟩)⟩)⟩⟩)⟩
  · refine .inr ⟨CG, d, _, 8, rfl, rfl, KG, hd, e1.tb, fun l H2 e2 nl hl => fin _ _ (e1.trans e2) (.inr ⟨ns1, ns2, h1, h2, h3, h4, .inl ⟨h8, l, rfl, ?_⟩⟩)⟩
    rw [Int.toNat_of_nonneg (by omega)] at hl
    exact hl
  · refine .inr ⟨CG, d, _, 4, rfl, rfl, KG, hd, e1.tb, fun l H2 e2 nl hl => fin _ _ (e1.trans e2) (.inr ⟨ns1, ns2, h1, h2, h3, h4, .inr (.inl ⟨h8, h4', l, rfl, ?_⟩)⟩)⟩
    rw [Int.toNat_of_nonneg (by omega)] at hl
    exact hl
theorem Ans82.same {n1 k1 n2 k2 : Int} {fs1 fs2 : List (List Int)} {d1 d2 : PyData} {v v' : V} (l1 : fs1.length ≤ 30) (l2 : fs2.length ≤ 30) (h : Ans82 K H n1 k1 n2 k2 fs1 fs2 d1 d2 v) (h' : Ans82 K H n1 k1 n2 k2 fs1 fs2 d1 d2 v') : ∃ dd, Dp K H v dd ∧ Dp K H v' dd ∧ dd.canLay0 = true ∧ wide dd = true ∧ dd.depth ≤ 4 := by
  have three : ∀ {l l' : Addr} {i j : Int}, H l = some (.lst [.str "great", .int i, .int j]) → H l' = some (.lst [.str "great", .int i, .int j]) → ∃ dd, Dp K H (.ref l) dd ∧ Dp K H (.ref l') dd ∧ dd.canLay0 = true ∧ wide dd = true ∧ dd.depth ≤ 4 := fun {l l' i j} a b => ⟨.list [.str "great", .int i, .int j], .lst (.inl (.inl a)) (.cons (.str _) (.cons (.int _) (.cons (.int _) .nil))), .lst (.inl (.inl b)) (.cons (.str _) (.cons (.int _) (.cons (.int _) .nil))), by simp only [PyData.canLay0, PyData.canLayAll0, Bool.and_true]; decide +kernel, wide_l (show 3 ≤ 1000 by decide) (fun d hd => by
    simp only [List.mem_cons, List.not_mem_nil, or_false] at hd
    rcases hd with rfl | rfl | rfl
    · decide +kernel
    · rfl
    · rfl), by simp [PyData.depth, PyData.depthAll]⟩
  rcases h with ⟨a1, rfl⟩ | ⟨ns1, ns2, rfl, o1, rfl, o2, h⟩
  · rcases h' with ⟨_, rfl⟩ | ⟨ms1, ms2, e1, p1, e2, p2, _⟩
    · exact ⟨_, .str _, .str _, by decide +kernel, by decide +kernel, by simp [PyData.depth]⟩
    · exact absurd ⟨⟨ms1, e1, p1⟩, ⟨ms2, e2, p2⟩⟩ a1
  · rcases h' with ⟨a1, rfl⟩ | ⟨ms1, ms2, e1, p1, e2, p2, h'⟩
    · exact absurd ⟨⟨ns1, rfl, o1⟩, ⟨ns2, rfl, o2⟩⟩ a1
    rw [← tD_inj e1, ← tD_inj e2] at h'
    rcases h with ⟨a, l, rfl, b⟩ | ⟨a, b, l, rfl, c⟩ | ⟨a, b, c⟩ <;> rcases h' with ⟨a', l', rfl, b'⟩ | ⟨a', b', l', rfl, c'⟩ | ⟨a', b', c'⟩ <;> first
      | (exfalso; omega)
      | exact three b b'
      | exact three c c'
      | (have hj : (jordL ns1 ns2).length ≤ 1000 := by
          rw [jord_len]
          have h1 : ns1.length ≤ 30 := by rw [row_len o1.1]; exact l1
          have h2 : ns2.length ≤ 30 := by rw [row_len o2.1]; exact l2
          have := Nat.mul_le_mul h1 h2
          omega
         exact same_d c c' rfl hj)
theorem ok_law {fC cC fP cP fS cS fL cL fB cB fR cR fU cU fM cM fC2 cC2 fN cN : Addr} {fdC fdP fdS fdL fdB fdR fdU fdM fdC2 fdN : FuncData} (D : Def K mg "law" sLaw ["_law_script"] f fd c) (DC : Def K mg "_law_cell" sCell ["_law_script", "_law_k"] fC fdC cC) (GC : FnOk P w K mg base CX0 k fC fdC ["_law_script", "_law_k"] (spCell K)) (DP : Def K mg "_law_pen" sPen ["_law_cell_here"] fP fdP cP) (GP : FnOk P w K mg base CX0 k fP fdP ["_law_cell_here"] (spPen Ps)) (DS : Def K mg "_law_small" sSmall ["_law_pen_here"] fS fdS cS) (GS : FnOk P w K mg base CX0 k fS fdS ["_law_pen_here"] (spSmall K Ps)) (DL : Def K mg "_law_laid" sLaidN ["_law_pen_here", "_law_most"] fL fdL cL) (GL : FnOk P w K mg base CX0 k fL fdL ["_law_pen_here", "_law_most"] (spLaidN K Ps)) (DB : Def K mg "_law_bent_row" sBentN ["_law_pen_here", "_law_row"] fB fdB cB) (GB : FnOk P w K mg base CX0 k fB fdB ["_law_pen_here", "_law_row"] (spBentN K Ps)) (DR : Def K mg "_law_no_row" sNoRow ["_law_pen_here", "_law_row"] fR fdR cR) (GR : FnOk P w K mg base CX0 k fR fdR ["_law_pen_here", "_law_row"] (spNoRow4 K Ps)) (DU : Def K mg "_law_due" sDue82 ["_law_one", "_law_other", "_law_order", "_law_another"] fU fdU cU) (GU : FnOk P w K mg base CX0 k fU fdU ["_law_one", "_law_other", "_law_order", "_law_another"] (spDue82 K Ps)) (DM : Def K mg "_law_same" sSame2 ["_law_found", "_law_due_here"] fM fdM cM) (GM : FnOk P w K mg base CX0 k fM fdM ["_law_found", "_law_due_here"] (spSame K Ps 5)) (DC2 : Def K mg "_law_came" sCame82 ["_law_one", "_law_other", "_law_order", "_law_another"] fC2 fdC2 cC2) (GC2 : FnOk P w K mg base CX0 k fC2 fdC2 ["_law_one", "_law_other", "_law_order", "_law_another"] (spCame82 K Ps C CY CS CO CG)) (DN : Def K mg "_law_no_stack" sNoStackN ["_law_pen_here", "_law_stack"] fN fdN cN) (GN : FnOk P w K mg base CX0 k fN fdN ["_law_pen_here", "_law_stack"] (spNoStackN K Ps)) (KS : Kind K C CY 0 CS) (KO : Kind K C CY 5 CO) (KG : KindG K C CY CG) (mr : mg "range" = none) (mp : mg "repr" = none) : FnG P w K mg base CX0 (k + 1) f fd ["_law_script"] (spLaw K Ps) := by
  refine D.okG (k := k) scLaw (fun vs H Q E h => ?_) (fun A outer s H vs Q E gd hr h => ?_)
  · obtain ⟨a, ns, rfl, _⟩ := h
    rfl
  · obtain ⟨a, ns0, rfl, hA, hl, ht, q⟩ := h
    refine ⟨_, (pss_cons (ps_for PassesOwn.never rfl (pi_list (pe_op op_cat (pe_lst (pa_cons (pcl DC GC hr (pa_cons (pv 0) (pa_cons pe_int pa_nil))) pa_nil)) (pe_slice sl_list (pv 0) (po_some pe_int) (po_some pe_int)))) (pg_name (i := 1) scLaw.nd rfl (.inl rfl)) (pss_cons (ps_set (i := 2) scLaw.nd rfl (.inl rfl) (pcl DP GP hr (pa_cons (pv 1) pa_nil))) (pss_cons (ps_asg (pcl DS GS hr (pa_cons (pv 2) pa_nil)) (pg_tup rfl (pgs_cons (pg_name (i := 3) scLaw.nd rfl (Or.inl rfl)) (pgs_cons (pg_name (i := 4) scLaw.nd rfl (Or.inl rfl)) pgs_nil)))) (pss_one (ps_for PassesOwn.never rfl (pi_list (pe_lst (pa_cons (pcl DS GS hr (pa_cons (pv 2) pa_nil)) (pa_cons (pcl DL GL hr (pa_cons (pv 2) (pa_cons pe_int pa_nil))) (pa_cons (pe_tup (pa_cons (pv 3) (pa_cons (pv 4) pa_nil))) pa_nil))))) (pg_tup rfl (pgs_cons (pg_name (i := 5) scLaw.nd rfl (Or.inl rfl)) (pgs_cons (pg_name (i := 6) scLaw.nd rfl (Or.inl rfl)) pgs_nil))) (pss_cons (ps_set (i := 7) scLaw.nd rfl (.inl rfl) (pe_lst (pa_cons (pe_tup (pa_cons (pv 4) (pa_cons (pv 6) pa_nil))) (pa_cons (pe_tup (pa_cons (pcl DB GB hr (pa_cons (pv 2) (pa_cons (pv 4) pa_nil))) (pa_cons (pv 6) pa_nil))) (pa_cons (pe_tup (pa_cons (pv 4) (pa_cons (pcl DB GB hr (pa_cons (pv 2) (pa_cons (pv 6) pa_nil))) pa_nil))) pa_nil))))) (pss_cons (ps_set (i := 7) scLaw.nd rfl (.inl rfl) (pe_op op_cat (pv 7) (pe_lst (pa_cons (pe_tup (pa_cons (pcl DR GR hr (pa_cons (pv 2) (pa_cons (pv 4) pa_nil))) (pa_cons (pv 6) pa_nil))) (pa_cons (pe_tup (pa_cons (pv 4) (pa_cons (pcl DR GR hr (pa_cons (pv 2) (pa_cons (pv 6) pa_nil))) pa_nil))) pa_nil))))) (pss_cons (ps_set (i := 7) scLaw.nd rfl (.inl rfl) (pe_op op_cat (pv 7) (pe_lst (pa_cons (pe_tup (pa_cons (pe_op (show OpR _ _ (rCatTh K Ps) from op_catTh) (pe_slice (show SlR _ (rSlTh K Ps) from sl_Th) (pv 4) (po_some pe_int) po_none) (pe_tup (pa_cons (pe_lst (pa_cons pe_int pa_nil)) pa_nil))) (pa_cons (pv 6) pa_nil))) (pa_cons (pe_tup (pa_cons (pv 4) (pa_cons (pe_op (show OpR _ _ (rCatTh K Ps) from op_catTh) (pe_slice (show SlR _ (rSlTh K Ps) from sl_Th) (pv 6) (po_some pe_int) po_none) (pe_tup (pa_cons pe_dnewK pa_nil))) pa_nil))) pa_nil))))) (pss_cons (ps_for PassesOwn.never rfl (pi_list (pv 7)) (pg_tup rfl (pgs_cons (pg_name (i := 8) scLaw.nd rfl (Or.inl rfl)) (pgs_cons (pg_name (i := 9) scLaw.nd rfl (Or.inl rfl)) pgs_nil))) (pss_cons (ps_set (i := 10) scLaw.nd rfl (.inl rfl) (pe_callB (cr_repr2 gd hr.units) (by rfl) mp (by decide +kernel) (pa_cons (pe_lstN (pa_cons (pv 3) (pa_cons (pv 5) (pa_cons (pv 8) (pa_cons (pv 9) pa_nil))))) pa_nil))) (pss_cons (ps_set (i := 11) scLaw.nd rfl (.inl rfl) (pcl DU GU hr (pa_cons (pv 3) (pa_cons (pv 5) (pa_cons (pv 8) (pa_cons (pv 9) pa_nil)))))) (pss_cons (ps_for PassesOwn.never rfl (pi_range1 (by rfl) mr (pa_cons pe_int pa_nil)) (pg_name (i := 12) scLaw.nd rfl (.inl rfl)) (pss_one (ps_if (pt_not (pt_val (pcl DM GM hr (pa_cons (pcl DC2 GC2 hr (pa_cons (pv 3) (pa_cons (pv 5) (pa_cons (pv 8) (pa_cons (pv 9) pa_nil))))) (pa_cons (pv 11) pa_nil))))) (pss_one (ps_ret pe_bl)) pss_nil))) (pss_one (ps_if (pt_cmpR op_ne (pe_callB (cr_repr2 gd hr.units) (by rfl) mp (by decide +kernel) (pa_cons (pe_lstN (pa_cons (pv 3) (pa_cons (pv 5) (pa_cons (pv 8) (pa_cons (pv 9) pa_nil))))) pa_nil)) (pv 10) (nomark _)) (pss_one (ps_ret pe_bl)) pss_nil)))))) (pss_cons (ps_set (i := 13) scLaw.nd rfl (.inl rfl) (pcl DN GN hr (pa_cons (pv 2) (pa_cons (pv 5) pa_nil)))) (pss_cons (ps_set (i := 14) scLaw.nd rfl (.inl rfl) (pe_lst (pa_cons (pe_tup (pa_cons (pv 13) (pa_cons (pv 5) (pa_cons (pv 6) (pa_cons (pv 6) pa_nil))))) (pa_cons (pe_tup (pa_cons (pv 5) (pa_cons (pv 13) (pa_cons (pv 6) (pa_cons (pv 6) pa_nil))))) (pa_cons (pe_tup (pa_cons (pv 13) (pa_cons (pv 13) (pa_cons pe_non (pa_cons pe_non pa_nil))))) pa_nil))))) (pss_cons (ps_expr (pe_bm PySem.F.plainAttrs_list PySem.F.slot_list_append PySem.F.type_list_append mt_append (pv 14) (pa_cons (pe_tup (pa_cons (pv 5) (pa_cons (pv 13) (pa_cons pe_non (pa_cons (pv 6) pa_nil))))) pa_nil))) (pss_one (ps_if (pt_cmpR (show OpR _ _ (rNeD K) from op_neD hr.units) (pe_lc (own := [("_law_a", 15), ("_law_b", 16), ("_law_first", 8), ("_law_second", 9)]) (g := (gTup K 4 (gCons (gName 15) (gCons (gName 16) (gCons (gName 8) (gCons (gName 9) gNil)))))) (by rfl) scLaw.nd (pi_list (pv 14)) (blkOk_by (N := nLaw) (sc := defScope sLaw) (by decide +kernel)) (fun _ _ _ _ _ => pg_tup rfl (pgs_cons (pg_name (i := 15) scLaw.nd rfl (Or.inl rfl)) (pgs_cons (pg_name (i := 16) scLaw.nd rfl (Or.inl rfl)) (pgs_cons (pg_name (i := 8) scLaw.nd rfl (Or.inl rfl)) (pgs_cons (pg_name (i := 9) scLaw.nd rfl (Or.inl rfl)) pgs_nil))))) (fun _ _ _ _ _ => pts_nil) (fun _ _ _ _ _ => (pcl DC2 GC2 hr (pa_cons (pv 15) (pa_cons (pv 16) (pa_cons (pv 8) (pa_cons (pv 9) pa_nil))))))) (pe_op op_rep (pe_lst (pa_cons pe_str pa_nil)) pe_int) (nomark _)) (pss_one (ps_ret pe_bl)) pss_nil)))))))))))))) (pss_one (ps_ret pe_bl))), ?_⟩
    have two : (2 : Nat) ≤ sizeLine := by decide
    have three : (3 : Nat) ≤ sizeLine := by decide
    have four : (4 : Nat) ≤ sizeLine := by decide
    have one : (1 : Nat) ≤ sizeLine := by decide
    refine ⟨.ref a, rfl, a, ns0, rfl, hA, fun z => ⟨one, fun l1 hl1 => ?_⟩⟩
    have x1 : Ext Ps H (upd H l1 (.lst [.int z])) := Ext.new ht hl1
    refine ⟨.ref a, rfl, 1, rfl, 5, rfl, a, _, rfl, x1.sqL hA, fun l2 hl2 => ?_⟩
    obtain ⟨cs, hcs, ecs⟩ := cut_ints ns0 (some 1) (some 5)
    have hcl := hcs.length_le
    have e2 := Ext.new (o := .lst (cutV (ns0.map V.int) (some 1) (some 5))) x1.tb hl2
    have x2 := x1.trans e2
    refine ⟨l1, l2, _, _, rfl, rfl, e2.lst upd_same, upd_same, ?_, fun l3 hl3 => ?_⟩
    · rw [ecs, List.length_map]
      exact Nat.le_of_lt (small1000 (by show 1 + cs.length ≤ 1000; omega))
    rw [ecs]
    have eL : [V.int z] ++ cs.map V.int = (z :: cs).map V.int := rfl
    rw [eL]
    have x3 := x2.trans (Ext.new (o := .lst ((z :: cs).map V.int)) x2.tb hl3)
    rw [ecs] at x3
    refine ⟨l3, rfl, ⟨_, .inl (.inl upd_same)⟩, ?_⟩
    have hL3 : (upd (upd (upd H l1 (.lst [.int z])) l2 (.lst (cs.map V.int))) l3 (.lst ((z :: cs).map V.int))) l3 = some (.lst ((z :: cs).map V.int)) := upd_same
    generalize upd (upd (upd H l1 (.lst [.int z])) l2 (.lst (cs.map V.int))) l3 (.lst ((z :: cs).map V.int)) = HL at *
    refine for_list (K := K) (a := l3) (xs := (z :: cs).map V.int) (fun i σ H3 => Ext Ps HL H3 ∧ ∃ y1 y2 y3 y4 y5 y6 y7 y8 y9 y10 y11 y12 y13 y14 y15 y16 : Option V, σ = [some (.ref a), y1, y2, y3, y4, y5, y6, y7, y8, y9, y10, y11, y12, y13, y14, y15, y16]) ⟨Ext.refl x3.tb, none, none, none, none, none, none, none, none, none, none, none, none, none, none, none, none, rfl⟩ (fun i σ H3 _ p => p.1.sqL (.inl (.inl hL3))) (fun i x σ H3 hx p => ?_) (fun σ H3 p => q _)
    obtain ⟨e3, y1, y2, y3, y4, y5, y6, y7, y8, y9, y10, y11, y12, y13, y14, y15, y16, rfl⟩ := p
    obtain ⟨cell, _, rfl⟩ := map_int hx
    refine tseq_intro fun R hR => ?_
    refine ⟨.int cell, rfl, cell, rfl, e3.tb, fun pa H4 e4 npa hpa => ?_⟩
    show R [some (.ref a), some (.int cell), some (.ref pa), y3, y4, y5, y6, y7, y8, y9, y10, y11, y12, y13, y14, y15, y16] H4
    rw [hR]
    clear hR
    have hn3 : HL pa = none := e3.free npa
    have npn : ∀ {HX : Hp}, Pen HX pa → ∀ b, HX b = none → b ≠ pa := fun {HX} hp b hb z => by
      obtain ⟨u, v, e⟩ := hp
      rw [z, e] at hb
      cases hb
    refine tseq_intro fun R hR => ?_
    refine ⟨.ref pa, rfl, pa, rfl, hpa, e4.tb, fun t1 xv ov n1 k1 fs1 ns1 H5 P5 hT1 hS1 S1 l1 hO1 hp1 => ?_⟩
    obtain ⟨o1, rfl, hO1'⟩ := id hO1
    refine ⟨t1, _, rfl, hT1, rfl, _, _, rfl, _, _, rfl, rfl, ?_⟩
    show R [some (.ref a), some (.int cell), some (.ref pa), some xv, some (.ref o1), y5, y6, y7, y8, y9, y10, y11, y12, y13, y14, y15, y16] H5
    rw [hR]
    clear hR
    -- the pairs
    refine ⟨.ref pa, rfl, pa, rfl, P5.pen, P5.tb, fun t2 x2 w2 n2 k2 fs2 ns2 H6 P6 hT2 hS2 S2 l2 hO2 hp2 => ?_⟩
    refine ⟨.ref pa, rfl, pa, 8, rfl, P6.pen, by decide, by decide, P6.tb, fun t3 x3 w3 n3 k3 fs3 ns3 H7 P7 hT3 hS3 S3 l3 hO3 hp3 => ?_⟩
    refine ⟨xv, rfl, .ref o1, rfl, two, fun t4 nt4 => ⟨three, fun M nM => ?_⟩⟩
    have x8 := Ext.new (o := .tup [xv, .ref o1]) P7.tb nt4
    have ht4 : upd H7 t4 (.tup [xv, .ref o1]) t4 = some (.tup [xv, .ref o1]) := upd_same
    have Q8 := x8.epn P7.pen
    generalize upd H7 t4 (.tup [xv, .ref o1]) = H8 at *
    have nMp : M ≠ pa := npn Q8.pen M nM
    have x9 := Ext.new (o := .lst [.ref t2, .ref t3, .ref t4]) x8.tb nM
    have hM : upd H8 M (.lst [.ref t2, .ref t3, .ref t4]) M = some (.lst [.ref t2, .ref t3, .ref t4]) := upd_same
    have Q9 := x9.epn Q8.pen
    generalize upd H8 M (.lst [.ref t2, .ref t3, .ref t4]) = H9 at *
    have F59 := P6.trans (P7.trans (Q8.trans Q9))
    have F69 := P7.trans (Q8.trans Q9)
    have F79 := Q8.trans Q9
    have hS1' := F59.stk hS1
    have hO19 := F59.sqT hO1'
    have bnd : ∀ {ns : List Int} {fs : List (List Int)}, ns.Perm (rng fs.length) → fs.length ≤ 70 → ∀ i ∈ ns, i.natAbs < 1000000 := fun hp hl i hi => by
      have := row_bel hp i hi
      omega
    have hnl1 : ns1.length = fs1.length := row_len hp1
    have hb1 := bnd hp1 (by omega)
    have s11 := S1.l1
    have hall : ∀ (i : Nat) (u : V), ([.ref t2, .ref t3, .ref t4] : List V)[i]? = some u → ∃ (t : Addr) (x2 : V) (o2 : Addr) (n2 k2 : Int) (fs2 : List (List Int)) (ns2 : List Int), u = .ref t ∧ SqT K H9 t [x2, .ref o2] ∧ Stk K H9 x2 n2 k2 fs2 ∧ StkOk n2 k2 fs2 ∧ fs2.length ≤ 8 ∧ SqT K H9 o2 (ns2.map V.int) ∧ ns2.Perm (rng fs2.length) := fun i u hu => by
      match i, hu with
      | 0, hu =>
        cases hu
        obtain ⟨o2, rfl, hO2'⟩ := hO2
        exact ⟨t2, x2, o2, n2, k2, fs2, ns2, rfl, F69.sqT hT2, F69.stk hS2, S2, by omega, F69.sqT hO2', hp2⟩
      | 1, hu =>
        cases hu
        obtain ⟨o3, rfl, hO3'⟩ := hO3
        exact ⟨t3, x3, o3, n3, k3, fs3, ns3, rfl, F79.sqT hT3, F79.stk hS3, S3, l3, F79.sqT hO3', hp3⟩
      | 2, hu =>
        cases hu
        exact ⟨t4, xv, o1, n1, k1, fs1, ns1, rfl, Q9.sqT (.inl (.inl ht4)), hS1', S1, by omega, hO19, hp1⟩
      | i + 3, hu => simp at hu
    clear hT2 hS2 S2 l2 hO2 hp2 hT3 hS3 S3 l3 hO3 hp3 ht4
    clear F69 F79 x8 x9 nM nt4
    have P9 := P5.trans F59
    refine ⟨M, rfl, ⟨_, .inl (.inl hM)⟩, for_list (K := K) (a := M) (xs := [.ref t2, .ref t3, .ref t4]) (fun j σ HG => Epn Ps pa H9 HG ∧ ∃ y5 y6 y7 y8 y9 y10 y11 y12 y13 y14 y15 y16 : Option V, σ = [some (.ref a), some (.int cell), some (.ref pa), some xv, some (.ref o1), y5, y6, y7, y8, y9, y10, y11, y12, y13, y14, y15, y16]) ⟨Epn.refl P9.tb P9.pen, _, _, _, _, _, _, _, _, _, _, _, _, rfl⟩ (fun j σ HG _ p => .inl (.inl (p.1.lst nMp hM))) (fun j u σ HG hu p => ?_) (fun σ HG p => ?_)⟩
    · obtain ⟨QG, y5, y6, y7, y8, y9, y10, y11, y12, y13, y14, y15, y16, rfl⟩ := p
      clear n2 k2 fs2 ns2
      obtain ⟨t, x2, o2, n2, k2, fs2, ns2, rfl, hT, hS2, S2, l2, hO2, hp2⟩ := hall j u hu
      refine ⟨t, _, rfl, QG.sqT hT, rfl, _, _, rfl, _, _, rfl, rfl, ?_⟩
      have hnl2 : ns2.length = fs2.length := row_len hp2
      have hb2 := bnd hp2 (by omega)
      have s21 := S2.l1
      have i1 : (iD ns1).length = ns1.length := List.length_map ..
      have i2 : (iD ns2).length = ns2.length := List.length_map ..
      have hA0 := QG.sqT hO19
      have hB0 := QG.sqT hO2
      -- three rows
      refine tseq_intro fun R hR => ?_
      refine ⟨.ref o1, rfl, .ref o2, rfl, two, fun w1 nw1 => ?_⟩
      have xq1 := Ext.new (o := .tup [.ref o1, .ref o2]) QG.tb nw1
      have hw1 : upd HG w1 (.tup [.ref o1, .ref o2]) w1 = some (.tup [.ref o1, .ref o2]) := upd_same
      have q1 := xq1.epn QG.pen
      generalize upd HG w1 (.tup [.ref o1, .ref o2]) = G1 at *
      refine ⟨.ref pa, rfl, .ref o1, rfl, pa, o1, ns1, rfl, q1.pen, q1.sqT hA0, by omega, by omega, q1.tb, fun b1 m1 G2 e_2 hbt1 lm1 im1 => ?_⟩
      have q2 := e_2
      refine ⟨.ref o2, rfl, two, fun w2 nw2 => ?_⟩
      have xq3 := Ext.new (o := .tup [b1, .ref o2]) q2.tb nw2
      have hw2 : upd G2 w2 (.tup [b1, .ref o2]) w2 = some (.tup [b1, .ref o2]) := upd_same
      have q3 := xq3.epn q2.pen
      generalize upd G2 w2 (.tup [b1, .ref o2]) = G3 at *
      refine ⟨.ref o1, rfl, .ref pa, rfl, .ref o2, rfl, pa, o2, ns2, rfl, q3.pen, (q1.trans (q2.trans q3)).sqT hB0, by omega, by omega, q3.tb, fun b2 m2 G4 e_4 hbt2 lm2 im2 => ?_⟩
      have q4 := e_4
      refine ⟨two, fun w3 nw3 => ?_⟩
      have xq5 := Ext.new (o := .tup [.ref o1, b2]) q4.tb nw3
      have hw3 : upd G4 w3 (.tup [.ref o1, b2]) w3 = some (.tup [.ref o1, b2]) := upd_same
      have q5 := xq5.epn q4.pen
      generalize upd G4 w3 (.tup [.ref o1, b2]) = G5 at *
      refine ⟨three, fun L1 nL1 => ?_⟩
      have xq6 := Ext.new (o := .lst [.ref w1, .ref w2, .ref w3]) q5.tb nL1
      have hL1 : upd G5 L1 (.lst [.ref w1, .ref w2, .ref w3]) L1 = some (.lst [.ref w1, .ref w2, .ref w3]) := upd_same
      have q6 := xq6.epn q5.pen
      generalize upd G5 L1 (.lst [.ref w1, .ref w2, .ref w3]) = G6 at *
      show R [some (.ref a), some (.int cell), some (.ref pa), some xv, some (.ref o1), some x2, some (.ref o2), some (.ref L1), y8, y9, y10, y11, y12, y13, y14, y15, y16] G6
      rw [hR]
      clear hR
      -- no rows
      refine tseq_intro fun R hR => ?_
      refine ⟨.ref L1, rfl, .ref pa, rfl, .ref o1, rfl, pa, o1, ns1, rfl, q6.pen, (q1.trans (q2.trans (q3.trans (q4.trans (q5.trans q6))))).sqT hA0, by omega, by omega, hb1, q6.tb, fun v4 d4 G7 e_7 ht4 gd4 sh4 => ?_⟩
      replace ht4 : ThF K G7 (fun b => b ≠ pa) v4 d4 := ht4.imp fun b hb => npn q6.pen b hb
      have q7 := e_7
      refine ⟨.ref o2, rfl, two, fun w4 nw4 => ?_⟩
      have xq8 := Ext.new (o := .tup [v4, .ref o2]) q7.tb nw4
      have hw4 : upd G7 w4 (.tup [v4, .ref o2]) w4 = some (.tup [v4, .ref o2]) := upd_same
      have q8 := xq8.epn q7.pen
      generalize upd G7 w4 (.tup [v4, .ref o2]) = G8 at *
      refine ⟨.ref o1, rfl, .ref pa, rfl, .ref o2, rfl, pa, o2, ns2, rfl, q8.pen, (q1.trans (q2.trans (q3.trans (q4.trans (q5.trans (q6.trans (q7.trans q8))))))).sqT hB0, by omega, by omega, hb2, q8.tb, fun v5 d5 G9 e_9 ht5 gd5 sh5 => ?_⟩
      replace ht5 : ThF K G9 (fun b => b ≠ pa) v5 d5 := ht5.imp fun b hb => npn q8.pen b hb
      have q9 := e_9
      refine ⟨two, fun w5 nw5 => ?_⟩
      have xq10 := Ext.new (o := .tup [.ref o1, v5]) q9.tb nw5
      have hw5 : upd G9 w5 (.tup [.ref o1, v5]) w5 = some (.tup [.ref o1, v5]) := upd_same
      have q10 := xq10.epn q9.pen
      generalize upd G9 w5 (.tup [.ref o1, v5]) = G10 at *
      refine ⟨two, fun L2 nL2 => ?_⟩
      have nL1p : L1 ≠ pa := npn q5.pen L1 nL1
      have xq11 := Ext.new (o := .lst [.ref w4, .ref w5]) q10.tb nL2
      have hL2 : upd G10 L2 (.lst [.ref w4, .ref w5]) L2 = some (.lst [.ref w4, .ref w5]) := upd_same
      have q11 := xq11.epn q10.pen
      generalize upd G10 L2 (.lst [.ref w4, .ref w5]) = G11 at *
      refine ⟨L1, L2, _, _, rfl, rfl, (q7.trans (q8.trans (q9.trans (q10.trans q11)))).lst nL1p hL1, hL2, Nat.le_of_lt (small1000 (by show 5 ≤ 1000; decide)), fun L3 nL3 => ?_⟩
      have nL3p : L3 ≠ pa := npn q11.pen L3 nL3
      have xq12 := Ext.new (o := .lst ([.ref w1, .ref w2, .ref w3] ++ [.ref w4, .ref w5])) q11.tb nL3
      have hL3 : upd G11 L3 (.lst ([.ref w1, .ref w2, .ref w3] ++ [.ref w4, .ref w5])) L3 = some (.lst [.ref w1, .ref w2, .ref w3, .ref w4, .ref w5]) := upd_same
      have q12 := xq12.epn q11.pen
      generalize upd G11 L3 (.lst ([.ref w1, .ref w2, .ref w3] ++ [.ref w4, .ref w5])) = G12 at *
      show R [some (.ref a), some (.int cell), some (.ref pa), some xv, some (.ref o1), some x2, some (.ref o2), some (.ref L3), y8, y9, y10, y11, y12, y13, y14, y15, y16] G12
      rw [hR]
      clear hR
      -- two more
      refine tseq_intro fun R hR => ?_
      have tA : ThF K G12 (fun b => b ≠ pa) (.ref o1) (.tuple (iD ns1)) := th_tup ⟨o1, rfl, (q1.trans (q2.trans (q3.trans (q4.trans (q5.trans (q6.trans (q7.trans (q8.trans (q9.trans (q10.trans (q11.trans q12))))))))))).sqT hA0⟩
      refine ⟨.ref L3, rfl, .ref o1, rfl, 1, rfl, _, _, tA, q12.tb, fun r1 G13 e_13 tr1 => ?_⟩
      have q13 := e_13.epn q12.pen
      refine ⟨(by decide : 1 ≤ sizeLine), fun c1 nc1 => ?_⟩
      have nc1p : c1 ≠ pa := npn q13.pen c1 nc1
      have xq14 := Ext.new (o := .lst [.int 0]) q13.tb nc1
      have hc1 : upd G13 c1 (.lst [.int 0]) c1 = some (.lst [.int 0]) := upd_same
      have q14 := xq14.epn q13.pen
      generalize upd G13 c1 (.lst [.int 0]) = G14 at *
      have tc1 : ThF K G14 (fun b => b ≠ pa) (.ref c1) (.list [.int 0]) := .lst nc1p (.inl (.inl hc1)) (.cons (.int 0) .nil)
      refine ⟨(by decide : 1 ≤ sizeLine), fun c2 nc2 => ?_⟩
      have xq15 := Ext.new (o := .tup [.ref c1]) q14.tb nc2
      have hc2 : upd G14 c2 (.tup [.ref c1]) c2 = some (.tup [.ref c1]) := upd_same
      have q15 := xq15.epn q14.pen
      generalize upd G14 c2 (.tup [.ref c1]) = G15 at *
      have tc2 : ThF K G15 (fun b => b ≠ pa) (.ref c2) (.tuple [.list [.int 0]]) := .tup (.inl (.inl hc2)) (.cons (q15.th (fun b hb => hb) tc1) .nil)
      refine ⟨_, _, _, (q14.trans q15).th (fun b hb => hb) tr1, tc2, ?_, q15.tb, fun f1 G16 e_16 tf1 => ?_⟩
      · rw [cutD_tail, List.length_drop, i1]
        simp
        omega
      have q16 := e_16.epn q15.pen
      refine ⟨.ref o2, rfl, two, fun w6 nw6 => ?_⟩
      have xq17 := Ext.new (o := .tup [f1, .ref o2]) q16.tb nw6
      have hw6 : upd G16 w6 (.tup [f1, .ref o2]) w6 = some (.tup [f1, .ref o2]) := upd_same
      have q17 := xq17.epn q16.pen
      generalize upd G16 w6 (.tup [f1, .ref o2]) = G17 at *
      have tB : ThF K G17 (fun b => b ≠ pa) (.ref o2) (.tuple (iD ns2)) := th_tup ⟨o2, rfl, (q1.trans (q2.trans (q3.trans (q4.trans (q5.trans (q6.trans (q7.trans (q8.trans (q9.trans (q10.trans (q11.trans (q12.trans (q13.trans (q14.trans (q15.trans (q16.trans q17)))))))))))))))).sqT hB0⟩
      refine ⟨.ref o1, rfl, .ref o2, rfl, 1, rfl, _, _, tB, q17.tb, fun r2 G18 e_18 tr2 => ?_⟩
      have q18 := e_18.epn q17.pen
      refine fun c3 nc3 => ?_
      have nc3p : c3 ≠ pa := npn q18.pen c3 nc3
      have xq19 := Ext.new (o := .dK []) q18.tb nc3
      have hc3 : upd G18 c3 (.dK []) c3 = some (.dK []) := upd_same
      have q19 := xq19.epn q18.pen
      generalize upd G18 c3 (.dK []) = G19 at *
      have tc3 : ThF K G19 (fun b => b ≠ pa) (.ref c3) (.dict []) := .dic nc3p hc3
      refine ⟨(by decide : 1 ≤ sizeLine), fun c4 nc4 => ?_⟩
      have xq20 := Ext.new (o := .tup [.ref c3]) q19.tb nc4
      have hc4 : upd G19 c4 (.tup [.ref c3]) c4 = some (.tup [.ref c3]) := upd_same
      have q20 := xq20.epn q19.pen
      generalize upd G19 c4 (.tup [.ref c3]) = G20 at *
      have tc4 : ThF K G20 (fun b => b ≠ pa) (.ref c4) (.tuple [.dict []]) := .tup (.inl (.inl hc4)) (.cons (q20.th (fun b hb => hb) tc3) .nil)
      refine ⟨_, _, _, (q19.trans q20).th (fun b hb => hb) tr2, tc4, ?_, q20.tb, fun f2 G21 e_21 tf2 => ?_⟩
      · rw [cutD_tail, List.length_drop, i2]
        simp
        omega
      have q21 := e_21.epn q20.pen
      refine ⟨two, fun w7 nw7 => ?_⟩
      have xq22 := Ext.new (o := .tup [.ref o1, f2]) q21.tb nw7
      have hw7 : upd G21 w7 (.tup [.ref o1, f2]) w7 = some (.tup [.ref o1, f2]) := upd_same
      have q22 := xq22.epn q21.pen
      generalize upd G21 w7 (.tup [.ref o1, f2]) = G22 at *
      refine ⟨two, fun L4 nL4 => ?_⟩
      have xq23 := Ext.new (o := .lst [.ref w6, .ref w7]) q22.tb nL4
      have hL4 : upd G22 L4 (.lst [.ref w6, .ref w7]) L4 = some (.lst [.ref w6, .ref w7]) := upd_same
      have q23 := xq23.epn q22.pen
      generalize upd G22 L4 (.lst [.ref w6, .ref w7]) = G23 at *
      refine ⟨L3, L4, _, _, rfl, rfl, (q13.trans (q14.trans (q15.trans (q16.trans (q17.trans (q18.trans (q19.trans (q20.trans (q21.trans (q22.trans q23)))))))))).lst nL3p hL3, hL4, Nat.le_of_lt (small1000 (by show 7 ≤ 1000; decide)), fun L5 nL5 => ?_⟩
      have nL5p : L5 ≠ pa := npn q23.pen L5 nL5
      have xq24 := Ext.new (o := .lst ([.ref w1, .ref w2, .ref w3, .ref w4, .ref w5] ++ [.ref w6, .ref w7])) q23.tb nL5
      have hL5 : upd G23 L5 (.lst ([.ref w1, .ref w2, .ref w3, .ref w4, .ref w5] ++ [.ref w6, .ref w7])) L5 = some (.lst [.ref w1, .ref w2, .ref w3, .ref w4, .ref w5, .ref w6, .ref w7]) := upd_same
      have q24 := xq24.epn q23.pen
      generalize upd G23 L5 (.lst ([.ref w1, .ref w2, .ref w3, .ref w4, .ref w5] ++ [.ref w6, .ref w7])) = G24 at *
      show R [some (.ref a), some (.int cell), some (.ref pa), some xv, some (.ref o1), some x2, some (.ref o2), some (.ref L5), y8, y9, y10, y11, y12, y13, y14, y15, y16] G24
      rw [hR]
      clear hR
      have Q24 := (q1.trans (q2.trans (q3.trans (q4.trans (q5.trans (q6.trans (q7.trans (q8.trans (q9.trans (q10.trans (q11.trans (q12.trans (q13.trans (q14.trans (q15.trans (q16.trans (q17.trans (q18.trans (q19.trans (q20.trans (q21.trans (q22.trans (q23.trans q24)))))))))))))))))))))))
      have hAE := Q24.sqT hA0
      have hBE := Q24.sqT hB0
      have tgA : ThF K G24 (fun b => b ≠ pa) (.ref o1) (tD ns1) := th_tup ⟨o1, rfl, hAE⟩
      have tgB : ThF K G24 (fun b => b ≠ pa) (.ref o2) (tD ns2) := th_tup ⟨o2, rfl, hBE⟩
      have tgb1 : ThF K G24 (fun b => b ≠ pa) b1 (tD m1) := th_tup ((q3.trans (q4.trans (q5.trans (q6.trans (q7.trans (q8.trans (q9.trans (q10.trans (q11.trans (q12.trans (q13.trans (q14.trans (q15.trans (q16.trans (q17.trans (q18.trans (q19.trans (q20.trans (q21.trans (q22.trans (q23.trans q24))))))))))))))))))))).tupI hbt1)
      have tgb2 : ThF K G24 (fun b => b ≠ pa) b2 (tD m2) := th_tup ((q5.trans (q6.trans (q7.trans (q8.trans (q9.trans (q10.trans (q11.trans (q12.trans (q13.trans (q14.trans (q15.trans (q16.trans (q17.trans (q18.trans (q19.trans (q20.trans (q21.trans (q22.trans (q23.trans q24))))))))))))))))))).tupI hbt2)
      have hrows : ∀ (i : Nat) (u : V), ([.ref w1, .ref w2, .ref w3, .ref w4, .ref w5, .ref w6, .ref w7] : List V)[i]? = some u → ∃ (p : Addr) (x y : V) (dx dy : PyData), u = .ref p ∧ SqT K G24 p [x, y] ∧ ThF K G24 (fun b => b ≠ pa) x dx ∧ ThF K G24 (fun b => b ≠ pa) y dy ∧ Fit2 dx dy := fun i u hu => by
        have l1' : ns1.length ≤ 30 := by omega
        have l2' : ns2.length ≤ 30 := by omega
        match i, hu with
        | 0, hu => cases hu; exact ⟨w1, _, _, _, _, rfl, (q2.trans (q3.trans (q4.trans (q5.trans (q6.trans (q7.trans (q8.trans (q9.trans (q10.trans (q11.trans (q12.trans (q13.trans (q14.trans (q15.trans (q16.trans (q17.trans (q18.trans (q19.trans (q20.trans (q21.trans (q22.trans (q23.trans q24)))))))))))))))))))))).sqT (.inl (.inl hw1)), tgA, tgB, fit_l l1' hb1 (tg_tD l2' hb2) (by decide)⟩
        | 1, hu => cases hu; exact ⟨w2, _, _, _, _, rfl, (q4.trans (q5.trans (q6.trans (q7.trans (q8.trans (q9.trans (q10.trans (q11.trans (q12.trans (q13.trans (q14.trans (q15.trans (q16.trans (q17.trans (q18.trans (q19.trans (q20.trans (q21.trans (q22.trans (q23.trans q24)))))))))))))))))))).sqT (.inl (.inl hw2)), tgb1, tgB, fit_r l2' hb2 (tg_tD (by omega) fun i hi => hb1 i (im1 i hi)) (by decide)⟩
        | 2, hu => cases hu; exact ⟨w3, _, _, _, _, rfl, (q6.trans (q7.trans (q8.trans (q9.trans (q10.trans (q11.trans (q12.trans (q13.trans (q14.trans (q15.trans (q16.trans (q17.trans (q18.trans (q19.trans (q20.trans (q21.trans (q22.trans (q23.trans q24)))))))))))))))))).sqT (.inl (.inl hw3)), tgA, tgb2, fit_l l1' hb1 (tg_tD (by omega) fun i hi => hb2 i (im2 i hi)) (by decide)⟩
        | 3, hu => cases hu; exact ⟨w4, _, _, _, _, rfl, (q9.trans (q10.trans (q11.trans (q12.trans (q13.trans (q14.trans (q15.trans (q16.trans (q17.trans (q18.trans (q19.trans (q20.trans (q21.trans (q22.trans (q23.trans q24))))))))))))))).sqT (.inl (.inl hw4)), (q8.trans (q9.trans (q10.trans (q11.trans (q12.trans (q13.trans (q14.trans (q15.trans (q16.trans (q17.trans (q18.trans (q19.trans (q20.trans (q21.trans (q22.trans (q23.trans q24)))))))))))))))).th (fun b hb => hb) ht4, tgB, fit_r l2' hb2 (tg_no gd4 sh4) (by decide)⟩
        | 4, hu => cases hu; exact ⟨w5, _, _, _, _, rfl, (q11.trans (q12.trans (q13.trans (q14.trans (q15.trans (q16.trans (q17.trans (q18.trans (q19.trans (q20.trans (q21.trans (q22.trans (q23.trans q24))))))))))))).sqT (.inl (.inl hw5)), tgA, (q10.trans (q11.trans (q12.trans (q13.trans (q14.trans (q15.trans (q16.trans (q17.trans (q18.trans (q19.trans (q20.trans (q21.trans (q22.trans (q23.trans q24)))))))))))))).th (fun b hb => hb) ht5, fit_l l1' hb1 (tg_no gd5 sh5) (by decide)⟩
        | 5, hu => cases hu; exact ⟨w6, _, _, _, _, rfl, (q18.trans (q19.trans (q20.trans (q21.trans (q22.trans (q23.trans q24)))))).sqT (.inl (.inl hw6)), (q17.trans (q18.trans (q19.trans (q20.trans (q21.trans (q22.trans (q23.trans q24))))))).th (fun b hb => hb) tf1, tgB, fit_r l2' hb2 (tail_tg l1' hb1 (by decide +kernel) ⟨by decide +kernel, by decide +kernel, by decide +kernel, by decide +kernel⟩ (.inl rfl)) (by decide)⟩
        | 6, hu => cases hu; exact ⟨w7, _, _, _, _, rfl, (q23.trans q24).sqT (.inl (.inl hw7)), tgA, (q22.trans (q23.trans q24)).th (fun b hb => hb) tf2, fit_l l1' hb1 (tail_tg l2' hb2 (by decide +kernel) ⟨by decide +kernel, by decide +kernel, by decide +kernel, by decide +kernel⟩ (.inr rfl)) (by decide)⟩
        | i + 7, hu => simp at hu
      have PE_ := QG.trans Q24
      have hSA := PE_.stk hS1'
      have hSB := PE_.stk hS2
      clear ht4 ht5 tf1 tf2 tc1 tc2 tc3 tc4 tr1 tr2 tA tB tgb1 tgb2
      clear q1 q2 q3 q4 q5 q6 q7 q8 q9 q10 q11 q12 q13 q14 q15 q16 q17 q18 q19 q20 q21 q22 q23 q24
      -- each row
      refine tseq_intro fun R hR => ?_
      refine ⟨.ref L5, rfl, L5, rfl, ⟨_, .inl (.inl hL5)⟩, for_list (K := K) (a := L5) (xs := [.ref w1, .ref w2, .ref w3, .ref w4, .ref w5, .ref w6, .ref w7]) (fun j σ HJ => Ext Ps G24 HJ ∧ ∃ y8 y9 y10 y11 y12 y13 y14 y15 y16 : Option V, σ = [some (.ref a), some (.int cell), some (.ref pa), some xv, some (.ref o1), some x2, some (.ref o2), some (.ref L5), y8, y9, y10, y11, y12, y13, y14, y15, y16]) ⟨Ext.refl PE_.tb, _, _, _, _, _, _, _, _, _, rfl⟩ (fun j σ HJ _ p => p.1.sqL (.inl (.inl hL5))) (fun j u σ HJ hu p => ?_) (fun σ HJ p => ?_)⟩
      · obtain ⟨eJ, y8, y9, y10, y11, y12, y13, y14, y15, y16, rfl⟩ := p
        obtain ⟨p, x, y, dx, dy, rfl, hpT, hx0, hy0, ft⟩ := hrows j u hu
        refine ⟨p, _, rfl, eJ.sqT hpT, rfl, _, _, rfl, _, _, rfl, rfl, ?_⟩
        have hx := eJ.th hx0
        have hy := eJ.th hy0
        have hSAJ := eJ.stk hSA
        have hSBJ := eJ.stk hSB
        obtain ⟨rp_, mx_⟩ := ft.four S1 S2 (by omega) (by omega)
        refine tseq_intro fun R hR => ?_
        refine ⟨xv, rfl, x2, rfl, x, rfl, y, rfl, four, fun K1 nK1 sK1 => ?_⟩
        have eK := Ext.new (o := .lst [xv, x2, x, y]) eJ.tb nK1
        refine ⟨_, K1, _, _, rfl, sK1, .inl (.inl upd_same), .cons (th_stk (eK.stk hSAJ)) (.cons (th_stk (eK.stk hSBJ)) (.cons (eK.th hx) (.cons (eK.th hy) .nil))), fun z => .inl (mx_ z), rp_, ?_⟩
        generalize upd HJ K1 (.lst [xv, x2, x, y]) = HK at *
        show R [some (.ref a), some (.int cell), some (.ref pa), some xv, some (.ref o1), some x2, some (.ref o2), some (.ref L5), some x, some y, some (.str (PyData.list [stkD n1 k1 fs1, stkD n2 k2 fs2, dx, dy]).shown), y11, y12, y13, y14, y15, y16] HK
        rw [hR]
        clear hR
        have B : Both K Ps HK xv x2 x y n1 k1 n2 k2 fs1 fs2 dx dy := ⟨⟨eK.stk hSAJ, S1, (eK.th hx).th, ft.wx, eK.tb⟩, ⟨eK.stk hSBJ, S2, (eK.th hy).th, ft.wy, eK.tb⟩, by omega, by omega⟩
        refine tseq_intro fun R hR => ?_
        refine ⟨xv, rfl, x2, rfl, x, rfl, y, rfl, xv, x2, x, y, n1, k1, n2, k2, fs1, fs2, dx, dy, rfl, B, fun dv HD eD hdue => ?_⟩
        show R [some (.ref a), some (.int cell), some (.ref pa), some xv, some (.ref o1), some x2, some (.ref o2), some (.ref L5), some x, some y, some (.str (PyData.list [stkD n1 k1 fs1, stkD n2 k2 fs2, dx, dy]).shown), some dv, y12, y13, y14, y15, y16] HD
        rw [hR]
        clear hR
        refine tseq_intro fun R hR => ?_
        refine ⟨2, rfl, by decide, by decide, for_range (lo := 0) (n := (2 : Int).toNat) (fun i σ HI => Ext Ps HD HI ∧ ∃ y12 : Option V, σ = [some (.ref a), some (.int cell), some (.ref pa), some xv, some (.ref o1), some x2, some (.ref o2), some (.ref L5), some x, some y, some (.str (PyData.list [stkD n1 k1 fs1, stkD n2 k2 fs2, dx, dy]).shown), some dv, y12, y13, y14, y15, y16]) ⟨Ext.refl eD.tb, _, rfl⟩ (fun w σ HI hw p => ?_) (fun σ HI p => ?_)⟩
        · obtain ⟨eI, y12, rfl⟩ := p
          refine ⟨xv, rfl, x2, rfl, x, rfl, y, rfl, xv, x2, x, y, rfl, came82_all KO KG (B.ext (eD.trans eI)) fun v HY eY hv => ?_⟩
          obtain ⟨dd, g1, g2, g3, g4, g5⟩ := hv.same (by omega) (by omega) (hdue.ext (eI.trans eY))
          refine ⟨dv, rfl, v, dv, dd, rfl, g1, g2, g3, g4, g5, by decide, eY.tb, fun HZ eZ => ⟨true, rfl, iteF ?_⟩⟩
          exact ⟨eI.trans (eY.trans eZ), _, rfl⟩
        obtain ⟨eI, y12, rfl⟩ := p
        show R [some (.ref a), some (.int cell), some (.ref pa), some xv, some (.ref o1), some x2, some (.ref o2), some (.ref L5), some x, some y, some (.str (PyData.list [stkD n1 k1 fs1, stkD n2 k2 fs2, dx, dy]).shown), some dv, y12, y13, y14, y15, y16] HI
        rw [hR]
        clear hR
        have eKI := eK.trans (eD.trans eI)
        refine ⟨xv, rfl, x2, rfl, x, rfl, y, rfl, four, fun K2 nK2 sK2 => ?_⟩
        have eL := Ext.new (o := .lst [xv, x2, x, y]) eI.tb nK2
        have eKL := eKI.trans eL
        refine ⟨_, K2, _, _, rfl, sK2, .inl (.inl upd_same), .cons (th_stk (eKL.stk hSAJ)) (.cons (th_stk (eKL.stk hSBJ)) (.cons (eKL.th hx) (.cons (eKL.th hy) .nil))), fun z => .inl (mx_ z), rp_, ?_⟩
        refine ⟨.str (PyData.list [stkD n1 k1 fs1, stkD n2 k2 fs2, dx, dy]).shown, rfl, rfl, false, by simp, iteF ?_⟩
        exact ⟨eJ.trans eKL, _, _, _, _, _, _, _, _, _, rfl⟩
      obtain ⟨eJ, y8, y9, y10, y11, y12, y13, y14, y15, y16, rfl⟩ := p
      show R [some (.ref a), some (.int cell), some (.ref pa), some xv, some (.ref o1), some x2, some (.ref o2), some (.ref L5), y8, y9, y10, y11, y12, y13, y14, y15, y16] HJ
      rw [hR]
      clear hR
      have PJ_ := PE_.trans (eJ.epn PE_.pen)
      -- no stack
      refine tseq_intro fun R hR => ?_
      refine ⟨.ref pa, rfl, x2, rfl, pa, x2, n2, k2, fs2, rfl, PJ_.pen, eJ.stk hSB, S2, PJ_.tb, fun bv bd HA eA hbv wbd hbd => ?_⟩
      have PA_ := PJ_.trans eA
      replace hbv : ThF K HA (fun b => b ≠ pa) bv bd := hbv.imp fun b hb => npn PJ_.pen b hb
      have hbv' := hbv.th
      have hSBA := eA.stk (eJ.stk hSB)
      show R [some (.ref a), some (.int cell), some (.ref pa), some xv, some (.ref o1), some x2, some (.ref o2), some (.ref L5), y8, y9, y10, y11, y12, some bv, y14, y15, y16] HA
      rw [hR]
      clear hR
      have bad : ∀ {HX : Hp} {Q' : VK}, Ext Ps HA HX → (∀ HY, Ext Ps HA HY → Q' (.str "stack") HY) → BadS K Ps CS bv HX (KE2 K C CY Ps Q') := fun {HX Q'} eX hq => ⟨bd, eX.th hbv', wbd, hbd, eX.tb, fun H2' e2' => .inl (KE.at2 (wd := "stack") KS rfl e2'.tb fun H3' e3' => hq _ (eX.trans (e2'.trans e3')))⟩
      refine tseq_intro fun R hR => ?_
      refine ⟨bv, rfl, x2, rfl, .ref o2, rfl, .ref o2, rfl, four, fun u1 nu1 => ?_⟩
      have w1 := Ext.new (o := .tup [bv, x2, .ref o2, .ref o2]) PA_.tb nu1
      have hu1 : upd HA u1 (.tup [bv, x2, .ref o2, .ref o2]) u1 = some (.tup [bv, x2, .ref o2, .ref o2]) := upd_same
      generalize upd HA u1 (.tup [bv, x2, .ref o2, .ref o2]) = Z1 at *
      refine ⟨x2, rfl, bv, rfl, .ref o2, rfl, .ref o2, rfl, four, fun u2 nu2 => ?_⟩
      have w2 := Ext.new (o := .tup [x2, bv, .ref o2, .ref o2]) w1.tb nu2
      have hu2 : upd Z1 u2 (.tup [x2, bv, .ref o2, .ref o2]) u2 = some (.tup [x2, bv, .ref o2, .ref o2]) := upd_same
      generalize upd Z1 u2 (.tup [x2, bv, .ref o2, .ref o2]) = Z2 at *
      refine ⟨bv, rfl, bv, rfl, four, fun u3 nu3 => ?_⟩
      have w3 := Ext.new (o := .tup [bv, bv, .non, .non]) w2.tb nu3
      have hu3 : upd Z2 u3 (.tup [bv, bv, .non, .non]) u3 = some (.tup [bv, bv, .non, .non]) := upd_same
      generalize upd Z2 u3 (.tup [bv, bv, .non, .non]) = Z3 at *
      refine ⟨three, fun SL nSL => ?_⟩
      have w4 := Ext.new (o := .lst [.ref u1, .ref u2, .ref u3]) w3.tb nSL
      have hSL : upd Z3 SL (.lst [.ref u1, .ref u2, .ref u3]) SL = some (.lst [.ref u1, .ref u2, .ref u3]) := upd_same
      have W14 := w1.trans (w2.trans (w3.trans w4))
      have nSLA : HA SL = none := w1.free (w2.free (w3.free nSL))
      generalize upd Z3 SL (.lst [.ref u1, .ref u2, .ref u3]) = Z4 at *
      show R [some (.ref a), some (.int cell), some (.ref pa), some xv, some (.ref o1), some x2, some (.ref o2), some (.ref L5), y8, y9, y10, y11, y12, some bv, some (.ref SL), y15, y16] Z4
      rw [hR]
      clear hR
      refine tseq_intro fun R hR => ?_
      refine ⟨.ref SL, rfl, .inl ⟨rfl, _, .inl (.inl hSL)⟩, x2, rfl, bv, rfl, .ref o2, rfl, four, fun u4 nu4 => ?_⟩
      have w5 := Ext.new (o := .tup [x2, bv, .non, .ref o2]) w4.tb nu4
      have hu4 : upd Z4 u4 (.tup [x2, bv, .non, .ref o2]) u4 = some (.tup [x2, bv, .non, .ref o2]) := upd_same
      have hSL5 := w5.lst hSL
      generalize upd Z4 u4 (.tup [x2, bv, .non, .ref o2]) = Z5 at *
      refine ⟨SL, _, .ref u4, rfl, rfl, hSL5, small1000 (by show 3 ≤ 1000; decide), ?_⟩
      have w6 := (W14.trans w5).write (o' := .lst ([.ref u1, .ref u2, .ref u3] ++ [.ref u4])) nSLA hSL5 (fun q z => by cases z)
      have hSL6 : upd Z5 SL (.lst ([.ref u1, .ref u2, .ref u3] ++ [.ref u4])) SL = some (.lst [.ref u1, .ref u2, .ref u3, .ref u4]) := upd_same
      have tq : ∀ {HX : Hp} {t : Addr} {zs : List V}, HX t = some (.tup zs) → Ext Ps HX Z5 → SqT K (upd Z5 SL (.lst ([.ref u1, .ref u2, .ref u3] ++ [.ref u4]))) t zs := fun h e => sqT_put hSL5 (e.sqT (.inl (.inl h)))
      have hu1' := tq hu1 (w2.trans (w3.trans (w4.trans w5)))
      have hu2' := tq hu2 (w3.trans (w4.trans w5))
      have hu3' := tq hu3 (w4.trans w5)
      have hu4' := tq hu4 (Ext.refl w5.tb)
      show R [some (.ref a), some (.int cell), some (.ref pa), some xv, some (.ref o1), some x2, some (.ref o2), some (.ref L5), y8, y9, y10, y11, y12, some bv, some (.ref SL), y15, y16] (upd Z5 SL (.lst ([.ref u1, .ref u2, .ref u3] ++ [.ref u4])))
      generalize upd Z5 SL (.lst ([.ref u1, .ref u2, .ref u3] ++ [.ref u4])) = Z6 at *
      rw [hR]
      clear hR tq
      have hSB6 := w6.stk hSBA
      refine ⟨.ref SL, rfl, SL, rfl, ⟨_, .inl (.inl hSL6)⟩, fun D0 hD => lc_list (K := K) (a := SL) (xs := [.ref u1, .ref u2, .ref u3, .ref u4]) (fun i HB => Ext Ps Z6 HB ∧ HB D0 = some (.lst (List.replicate i (.str "stack")))) ⟨Ext.new w6.tb hD, upd_same⟩ (fun i HB _ p => p.1.sqL (.inl (.inl hSL6))) (fun i u HB hu p => ?_) (fun HB p => ?_)⟩
      · obtain ⟨eB, hB⟩ := p
        have hi4 : i < 4 := (List.getElem?_eq_some_iff.mp hu).1
        have EB := w6.trans eB
        have fin : ∀ HY, Ext Ps HA HY → Ext Ps HB HY → ∃ acc, HY D0 = some (.lst acc) ∧ acc.length < sizeLine ∧ Ext Ps Z6 (upd HY D0 (.lst (acc ++ [.str "stack"]))) ∧ upd HY D0 (.lst (acc ++ [.str "stack"])) D0 = some (.lst (List.replicate (i + 1) (.str "stack"))) := fun HY _ eY => by
          have hY := eY.lst hB
          refine ⟨_, hY, small1000 (by rw [List.length_replicate]; omega), (eB.trans eY).write hD hY (fun q z => by cases z), ?_⟩
          rw [upd_same, List.replicate_succ']
        have bad2 : ∀ {Q' : VK}, (∀ HY, Ext Ps HA HY → Ext Ps HB HY → Q' (.str "stack") HY) → BadS K Ps CS bv HB (KE2 K C CY Ps Q') := fun {Q'} hq => ⟨bd, EB.th hbv', wbd, hbd, eB.tb, fun H2' e2' => .inl (KE.at2 (wd := "stack") KS rfl e2'.tb fun H3' e3' => hq _ (EB.trans (e2'.trans e3')) (e2'.trans e3'))⟩
        have hc4 : i = 0 ∨ i = 1 ∨ i = 2 ∨ i = 3 := by omega
        rcases hc4 with rfl | rfl | rfl | rfl
        · cases hu
          exact ⟨u1, _, rfl, eB.sqT hu1', rfl, _, _, rfl, _, _, rfl, _, _, rfl, _, _, rfl, rfl, rfl, yes_ (iteT ⟨bv, rfl, x2, rfl, .ref o2, rfl, .ref o2, rfl, bv, x2, .ref o2, .ref o2, rfl, bv, x2, .ref o2, .ref o2, rfl, .inl (bad2 fin)⟩)⟩
        · cases hu
          exact ⟨u2, _, rfl, eB.sqT hu2', rfl, _, _, rfl, _, _, rfl, _, _, rfl, _, _, rfl, rfl, rfl, yes_ (iteT ⟨x2, rfl, bv, rfl, .ref o2, rfl, .ref o2, rfl, x2, bv, .ref o2, .ref o2, rfl, x2, bv, .ref o2, .ref o2, rfl, .inr (.inl ⟨n2, k2, fs2, eB.stk hSB6, S2, eB.tb, bad2 fin⟩)⟩)⟩
        · cases hu
          exact ⟨u3, _, rfl, eB.sqT hu3', rfl, _, _, rfl, _, _, rfl, _, _, rfl, _, _, rfl, rfl, rfl, yes_ (iteT ⟨bv, rfl, bv, rfl, .non, rfl, .non, rfl, bv, bv, .non, .non, rfl, bv, bv, .non, .non, rfl, .inl (bad2 fin)⟩)⟩
        · cases hu
          exact ⟨u4, _, rfl, eB.sqT hu4', rfl, _, _, rfl, _, _, rfl, _, _, rfl, _, _, rfl, rfl, rfl, yes_ (iteT ⟨x2, rfl, bv, rfl, .non, rfl, .ref o2, rfl, x2, bv, .non, .ref o2, rfl, x2, bv, .non, .ref o2, rfl, .inr (.inl ⟨n2, k2, fs2, eB.stk hSB6, S2, eB.tb, bad2 fin⟩)⟩)⟩
      · obtain ⟨eB, hB⟩ := p
        have shN : SeqAt.shaped (.list [.str "stack", .str "stack", .str "stack", .str "stack"]) = true := by decide +kernel
        have eqN : PyData.eqv (.list [.str "stack", .str "stack", .str "stack", .str "stack"]) (.list [.str "stack", .str "stack", .str "stack", .str "stack"]) = true := by simp [PyData.eqv, PyData.eqvAll]
        refine ⟨one, fun lb nlb => ?_⟩
        have vB := Ext.new (o := .lst [.str "stack"]) eB.tb nlb
        have hlb : upd HB lb (.lst [.str "stack"]) lb = some (.lst [.str "stack"]) := upd_same
        refine ⟨lb, 4, [.str "stack"], rfl, rfl, hlb, by decide, by decide, (by show 1 * 4 ≤ sizeLine; decide), fun lc_ nlc => ?_⟩
        have vC := Ext.new (o := .lst (List.replicate (4 : Int).toNat [V.str "stack"]).flatten) vB.tb nlc
        have hlc : upd (upd HB lb (.lst [.str "stack"])) lc_ (.lst (List.replicate (4 : Int).toNat [V.str "stack"]).flatten) lc_ = some (.lst [.str "stack", .str "stack", .str "stack", .str "stack"]) := upd_same
        have hB' : upd (upd HB lb (.lst [.str "stack"])) lc_ (.lst (List.replicate (4 : Int).toNat [V.str "stack"]).flatten) D0 = some (.lst [.str "stack", .str "stack", .str "stack", .str "stack"]) := (vB.trans vC).lst hB
        have V9 := w6.trans (eB.trans (vB.trans vC))
        refine ⟨_, _, .lst (.inl (.inl hB')) (.cons (.str _) (.cons (.str _) (.cons (.str _) (.cons (.str _) .nil)))), .lst (.inl (.inl hlc)) (.cons (.str _) (.cons (.str _) (.cons (.str _) (.cons (.str _) .nil)))), shN, shN, ?_⟩
        rw [eqN]
        refine ⟨false, rfl, iteF ?_⟩
        exact ⟨PA_.trans (V9.epn PA_.pen), _, _, _, _, _, _, _, _, _, _, _, _, rfl⟩
    obtain ⟨QG, y5, y6, y7, y8, y9, y10, y11, y12, y13, y14, y15, y16, rfl⟩ := p
    exact ⟨Epn.ext (e3.trans e4) hn3 (P9.trans QG), _, _, _, _, _, _, _, _, _, _, _, _, _, _, _, _, rfl⟩
end
end Lf

set_option maxHeartbeats 4000000
namespace Lf
open PySem PySem.Spec PyProof.Rows L2 GxR GxA SrT
/-- a def of the top, by what the written part says of it -/
theorem def_mk {K : PySem.W.Frag} {h : Heap} {mg : Str → Option Value} {x : Str} {st : Stmt} {ps : List Str} {f c : Addr} {oc : Value} {od an : Option Addr} {osl : Array (Option Value)} {kV doc pm ct : Value} (X : K.In h) (G : h.Ns mainGlobals mg) (a : PySem.W.nsIn K mainGlobals x = some (some (.ref f)))
    (l : K.lookup f = some ⟨oc, od, .func (PySem.W.fnOf x x (defArgs st) (defBody st) (defScope st) .none kV doc pm an (.ref c) ct), osl⟩) (cI : PySem.W.codeIn K (.ref c) x = true) (kI : PySem.W.keepIn K (.ref f) = true)
    (hb : ∀ (kV doc pm : Value) (an : Option Addr) (cdv ct : Value) (us : List Value), us.length = ps.length → bindArgs (PySem.W.fnOf x x (defArgs st) (defBody st) (defScope st) .none kV doc pm an cdv ct) ⟨us, []⟩ = pure (ps.zip us)) :
    Def K mg x st ps f (PySem.W.fnOf x x (defArgs st) (defBody st) (defScope st) .none kV doc pm an (.ref c) ct) c :=
  ⟨⟨⟨oc, od, kV, doc, pm, an, ct, osl, rfl, l, cI⟩, kI⟩, .all (hb kV doc pm an (.ref c) ct), PySem.W.mg_of X G a⟩
/-- the table of a def's code object is empty at the law's call -/
theorem tab_at {K : PySem.W.Frag} {h : Heap} {mg mb : Str → Option Value} {q : Program} {loose : List Str} {mean : ExcName → Option Value} {x : Str} {f c Pt : Addr} {oc e : Value} {od dd : Option Addr} {osl sl : Array (Option Value)} {fd : FuncData} {vs : Array Value} (T : PyProof.Rows.Top q loose mean mg mb h) (X : K.In h)
    (hr : ((PyProof.Rows.recsOf q).any fun e => e.name == x) = true) (hm : mg x = some (.ref f)) (l : K.lookup f = some ⟨oc, od, .func fd, osl⟩) (hc : fd.code = .ref c) (lc : K.lookup c = some ⟨e, dd, .fields vs, sl⟩) (hv : vs[11]? = some (.ref Pt)) :
    PySem.W.CodeHd h c Pt ∧ h.get? Pt = some { cls := .none, data := .fields #[] } := by
  obtain ⟨dL, hmem, hn1⟩ := List.any_eq_true.mp hr
  have hn2 : dL.name = x := beq_iff_eq.mp hn1
  obtain ⟨a', o', fd', c', P', h1, h2, h3, h4, h5, h6⟩ := T.tab dL hmem
  rw [hn2, hm] at h1
  cases h1
  have g1 := X _ _ l
  rw [g1] at h2
  cases h2
  cases h3
  rw [hc] at h4
  cases h4
  have hd := PySem.W.CodeHd.of h5 h6
  obtain ⟨⟨ob, vc, e1, _, e3, e4⟩, hP⟩ := h6
  have g2 := X _ _ lc
  rw [g2] at e1
  cases e1
  cases e3
  rw [hv] at e4
  cases e4
  exact ⟨hd, hP⟩
theorem tabB_of {base : Heap} {mg : Str → Option Value} {c Pt : Addr} (t : LamX.TabB base mg c Pt) : GxR.TabB base mg c Pt := ⟨t.code, t.bm, t.gP⟩
theorem tabG_nil {H : Hp} {Pt : Addr} (h : H Pt = some (.tbl #[])) : TabG H Pt := ⟨#[], h, trivial⟩

theorem walk_tabs {l : PySem.W.OpenLaw} {n k : Nat} {q : Program} {loose : List Str} {XP : (Str → Option Value) → Heap → Prop} {YP : World → Heap → Prop} {d : DefRec} {K : Params → PySem.W.Frag} {CX : World → CXT} {x : Str}
    (hn : l.most = some n) (hn2 : n ≤ sizeLine) (hdf : d.params.defaults = []) (hr : Room k callerA) (hY : ∀ (w : World) (h : Heap), YP w h → (K w.params).In h)
    (F : ∀ (w : World) (mg mb : Str → Option Value) (mean : ExcName → Option Value) (fa : Addr) (h : Heap), PyProof.Rows.Top q (PySem.W.looseW q loose) mean mg mb h → (K w.params).In h → mg d.name = some (.ref fa) → LamX.LawAtS l w (K w.params) (CX w) k n x mg fa h)
    (hCX : ∀ (w : World) (H : Hp) (s : Shared) (e : Value) (s' : Shared), CX w [] H s (fun _ _ _ => False) e s' → False) :
    PySem.W.WalkO q loose XP YP l.row.toRowW d [] (fun f vs => PySem.call f vs) := by
  refine Att.attach_callB hn hdf fun w s₀ s₁ mg mb fa o pm cd doc a vs ns G Y ho hd hcd hmg hobj hints hlen hbits hg => ?_
  have KX := hY w _ Y
  obtain ⟨fd, cs, sp, hT, nT, C, hb, hsp, hF⟩ := F w mg mb _ fa _ G.T KX hmg
  exact LamX.law_callTs KX G.T.g G.T.b G.T.builtins G.T.nolimit hg hT nT C G.T.bmain hobj hints (Nat.le_trans hlen hn2) hr hF hb (fun H hH hS => hsp H a ns hlen hbits hH hS) fun H e s' => hCX w H s₁ e s'
theorem tbs_apart {g : List Addr} {l : List (Addr × Str)} (h : (l.map (·.1) ++ g).Nodup) : ∀ p ∈ l, p.1 ∉ g := fun p hp hg =>
  (List.nodup_append.mp h).2.2 p.1 (List.mem_map.mpr ⟨p, hp, rfl⟩) p.1 hg rfl
theorem tbs_one : ∀ {l : List (Addr × Str)}, (l.map (·.1)).Nodup → ∀ p ∈ l, ∀ q ∈ l, p.1 = q.1 → p.2 = q.2
  | [], _, p, hp, _, _, _ => nomatch hp
  | a :: l, h, p, hp, q, hq, e => by
    rw [List.map_cons, List.nodup_cons] at h
    rcases List.mem_cons.mp hp with e1 | h1
    · rcases List.mem_cons.mp hq with e2 | h2
      · rw [e1, e2]
      · have z : a.1 ∈ l.map (·.1) := List.mem_map.mpr ⟨q, h2, by rw [← e, e1]⟩
        exact absurd z h.1
    · rcases List.mem_cons.mp hq with e2 | h2
      · have z : a.1 ∈ l.map (·.1) := List.mem_map.mpr ⟨p, h1, by rw [e, e2]⟩
        exact absurd z h.1
      · exact tbs_one h.2 p h1 q h2 e
/-- the tables, by their addresses -/
def mkTbs (g : List Addr) (l : List (Addr × Str)) (h : (l.map (·.1) ++ g).Nodup) : Tbs := ⟨g, l, tbs_apart h, tbs_one (List.nodup_append.mp h).1⟩
theorem mkTbs_tb {g : List Addr} {l : List (Addr × Str)} {h : (l.map (·.1) ++ g).Nodup} {H : Hp} (hg : ∀ P ∈ g, H P = some (.tbl #[])) (hl : ∀ p ∈ l, H p.1 = some (.tbl #[])) : Tb (mkTbs g l h) H :=
  ⟨fun P hP => tabG_nil (hg P hP), fun p hp => LamX.TabS.nil (hl p hp)⟩
end Lf

namespace Lf
open PySem PySem.Spec PyProof.Rows L2
/-- a law in which things may be shown (repr): as it stands at its call -/
def LawAtG (l : PySem.W.OpenLaw) (w : World) (K : PySem.W.Frag) (CX : CXT) (k n : Nat) (x : Str) (mg : Str → Option Value) (fa : Addr) (h : Heap) : Prop := ∃ (fd : FuncData) (cs : List (Addr × Addr)) (sp : Sp),
  (∀ p ∈ cs, h.get? p.2 = some { cls := .none, data := .fields #[] }) ∧ (∀ p ∈ cs, K.lookup p.2 = none) ∧ (∀ p ∈ cs, PySem.W.CodeHd h p.1 p.2) ∧ (∀ (t : Shared) (u : Value), BindsTo t fd ⟨[u], []⟩ [(x, u)]) ∧
  (∀ (H : Hp) (b : Addr) (ms : List Int), ms.length ≤ n → (∀ z ∈ ms, Builtin.Int.intBits z ≤ 1048576) → (∀ p ∈ cs, H p.2 = some (.tbl #[])) → SqL K H b (ms.map V.int) → sp [.ref b] H (fun v _ => v = .bl true) fun _ _ _ => False) ∧
  ∀ base : Heap, K.In base → base.Ns mainGlobals mg → (∀ p ∈ cs, LamX.TabB base mg p.1 p.2) → FnG l.prog w K mg base CX k fa fd [x] sp
theorem walk_tabsG {l : PySem.W.OpenLaw} {n k : Nat} {q : Program} {loose : List Str} {XP : (Str → Option Value) → Heap → Prop} {YP : World → Heap → Prop} {d : DefRec} {K : Params → PySem.W.Frag} {CX : World → CXT} {x : Str}
    (hn : l.most = some n) (hn2 : n ≤ sizeLine) (hdf : d.params.defaults = []) (hr : Room k callerA) (hY : ∀ (w : World) (h : Heap), YP w h → (K w.params).In h)
    (F : ∀ (w : World) (mg mb : Str → Option Value) (mean : ExcName → Option Value) (fa : Addr) (h : Heap), PyProof.Rows.Top q (PySem.W.looseW q loose) mean mg mb h → (K w.params).In h → mg d.name = some (.ref fa) → LawAtG l w (K w.params) (CX w) k n x mg fa h)
    (hCX : ∀ (w : World) (H : Hp) (s : Shared) (e : Value) (s' : Shared), CX w [] H s (fun _ _ _ => False) e s' → False) :
    PySem.W.WalkO q loose XP YP l.row.toRowW d [] (fun f vs => PySem.call f vs) := by
  refine Att.attach_callB hn hdf fun w s₀ s₁ mg mb fa o pm cd doc a vs ns G Y ho hd hcd hmg hobj hints hlen hbits hg => ?_
  have KX := hY w _ Y
  obtain ⟨fd, cs, sp, hT, nT, C, hb, hsp, hF⟩ := F w mg mb _ fa _ G.T KX hmg
  exact law_callG KX G.T.g G.T.b G.T.builtins G.T.nolimit hg hT nT C G.T.bmain hobj hints (Nat.le_trans hlen hn2) hr hF hb (fun H hH hS => hsp H a ns hlen hbits hH hS) fun H e s' => hCX w H s₁ e s'
end Lf

set_option maxHeartbeats 4000000
namespace Lf
open PySem PySem.Spec PyProof.Rows L2 GxR GxA SrT

theorem all_ok {P : Program} {w : World} {K : PySem.W.Frag} {mg : Str → Option Value} {base : Heap} {Ps : Tbs} {f1 c1 f2 c2 f3 c3 f4 c4 f5 c5 f6 c6 f7 c7 f8 c8 f9 c9 f10 c10 f11 c11 f12 c12 f13 c13 f14 c14 f15 c15 f16 c16 f17 c17 f18 c18 f19 c19 f20 c20 f21 c21 f22 c22 f23 c23 f24 c24 f25 c25 f26 c26 f27 c27 f28 c28 f29 c29 f30 c30 f31 c31 f32 c32 f33 c33 f34 c34 f35 c35 f36 c36 f37 c37 f38 c38 f39 c39 f40 c40 f41 c41 f42 c42 f43 c43 f44 c44 f45 c45 f46 c46 f47 c47 : Addr} {d1 d2 d3 d4 d5 d6 d7 d8 d9 d10 d11 d12 d13 d14 d15 d16 d17 d18 d19 d20 d21 d22 d23 d24 d25 d26 d27 d28 d29 d30 d31 d32 d33 d34 d35 d36 d37 d38 d39 d40 d41 d42 d43 d44 d45 d46 d47 : FuncData} {P3 P4 P7 P8 P11 : Addr} {t_MOST_POINTS t_MOST_IN_FACE t_MOST_FACES : Tok} {k_NoStack k_NoNumber k_NoPart k_NoLot k_NoRow k_NoOrder k_NoNames k_NoRim k_NoTaking k_NoText k_NoLine k_NoDeed k_TooGreat k_Lay : Addr} {fI_ cI_ cc_ : Addr} {dI_ : FuncData}
    (D1 : Def K mg "is_within" sWithin ["thing", "least", "most"] f1 d1 c1)
    (D2 : Def K mg "need_at_most" sAtMost ["many", "most"] f2 d2 c2)
    (D3 : Def K mg "all_below" sBelow ["thing", "many"] f3 d3 c3)
    (D4 : Def K mg "rises" sRises ["things"] f4 d4 c4)
    (D5 : Def K mg "is_rising" sRising ["thing", "many"] f5 d5 c5)
    (D6 : Def K mg "is_each_once" sEach ["thing", "many"] f6 d6 c6)
    (D7 : Def K mg "has_all" sHasAll ["face", "points"] f7 d7 c7)
    (D8 : Def K mg "in_some" sInSome ["points", "faces"] f8 d8 c8)
    (D9 : Def K mg "less" sLess ["face", "points"] f9 d9 c9)
    (D10 : Def K mg "is_stack" sIsStack ["thing"] f10 d10 c10)
    (D11 : Def K mg "are_faces" sAreFaces ["n", "k", "thing"] f11 d11 c11)
    (D12 : Def K mg "need_stack" sNeedStack ["stack"] f12 d12 c12)
    (D13 : Def K mg "faces_at" sFacesAt ["stack", "lot"] f13 d13 c13)
    (D14 : Def K mg "brought_on" sBrOn ["laid", "face"] f14 d14 c14)
    (D15 : Def K mg "lies_on" sLies ["laid", "face"] f15 d15 c15)
    (D16 : Def K mg "is_row" sIsRow ["stack", "thing"] f16 d16 c16)
    (D17 : Def K mg "wrong_place" sWrong ["stack", "row"] f17 d17 c17)
    (D18 : Def K mg "is_order" sIsOrder ["stack", "thing"] f18 d18 c18)
    (D19 : Def K mg "need_order" sNeedOrder ["stack", "order"] f19 d19 c19)
    (D20 : Def K mg "need_room" sNeedRoom ["n", "k"] f20 d20 c20)
    (D21 : Def K mg "need_two" sNeedTwo ["one", "other"] f21 d21 c21)
    (D22 : Def K mg "joined_order" sJOrd ["one", "other", "order", "another"] f22 d22 c22)
    (D23 : Def K mg "_law_cell" sCell ["_law_script", "_law_k"] f23 d23 c23)
    (D24 : Def K mg "_law_pen" sPen ["_law_cell_here"] f24 d24 c24)
    (D25 : Def K mg "_law_draw" sDraw ["_law_pen_here", "_law_many"] f25 d25 c25)
    (D26 : Def K mg "_law_whole" sWhole ["_law_thing"] f26 d26 c26)
    (D27 : Def K mg "_law_same" sSame2 ["_law_found", "_law_due_here"] f27 d27 c27)
    (D28 : Def K mg "_law_kind_of" sKindOf ["_law_e"] f28 d28 c28)
    (D29 : Def K mg "_law_every" sEveryL ["_law_n", "_law_k"] f29 d29 c29)
    (D30 : Def K mg "_law_size" sSize ["_law_pen_here"] f30 d30 c30)
    (D31 : Def K mg "_law_made" sMade ["_law_n", "_law_k", "_law_faces"] f31 d31 c31)
    (D32 : Def K mg "_law_common" sCommon ["_law_one", "_law_other"] f32 d32 c32)
    (D33 : Def K mg "_law_may" sMayN ["_law_laid_here", "_law_face"] f33 d33 c33)
    (D34 : Def K mg "_law_grown" sGrown ["_law_pen_here", "_law_n", "_law_k", "_law_most"] f34 d34 c34)
    (D35 : Def K mg "_law_pairs" sPairsL ["_law_d"] f35 d35 c35)
    (D36 : Def K mg "_law_kindly" sKindly ["_law_pen_here", "_law_most"] f36 d36 c36)
    (D37 : Def K mg "_law_laid" sLaidN ["_law_pen_here", "_law_most"] f37 d37 c37)
    (D38 : Def K mg "_law_no_stack" sNoStackN ["_law_pen_here", "_law_stack"] f38 d38 c38)
    (D39 : Def K mg "_law_is_row" sIsRowL ["_law_stack", "_law_thing"] f39 d39 c39)
    (D40 : Def K mg "_law_wrong_at" sWrongN ["_law_stack", "_law_row"] f40 d40 c40)
    (D41 : Def K mg "_law_is_order" sIsOrderN ["_law_stack", "_law_thing"] f41 d41 c41)
    (D42 : Def K mg "_law_no_row" sNoRow ["_law_pen_here", "_law_row"] f42 d42 c42)
    (D43 : Def K mg "_law_bent_row" sBentN ["_law_pen_here", "_law_row"] f43 d43 c43)
    (D44 : Def K mg "_law_came" sCame82 ["_law_one", "_law_other", "_law_order", "_law_another"] f44 d44 c44)
    (D45 : Def K mg "_law_small" sSmall ["_law_pen_here"] f45 d45 c45)
    (D46 : Def K mg "_law_due" sDue82 ["_law_one", "_law_other", "_law_order", "_law_another"] f46 d46 c46)
    (D47 : Def K mg "law" sLaw ["_law_script"] f47 d47 c47)
    (B3 : TabB base mg c3 P3) (M3 : P3 ∈ Ps)
    (B4 : TabB base mg c4 P4) (M4 : P4 ∈ Ps)
    (B7 : TabB base mg c7 P7) (M7 : P7 ∈ Ps)
    (B8 : TabB base mg c8 P8) (M8 : P8 ∈ Ps)
    (B11 : TabB base mg c11 P11) (M11 : P11 ∈ Ps)
    (m_isinstance : mg "isinstance" = none)
    (m_int : mg "int" = none)
    (m_bool : mg "bool" = none)
    (m_tuple : mg "tuple" = none)
    (m_all : mg "all" = none)
    (m_any : mg "any" = none)
    (m_range : mg "range" = none)
    (m_len : mg "len" = none)
    (m_sorted : mg "sorted" = none)
    (m_min : mg "min" = none)
    (m_max : mg "max" = none)
    (m_list : mg "list" = none)
    (m_str : mg "str" = none)
    (m_zip : mg "zip" = none)
    (m_enumerate : mg "enumerate" = none)
    (m_repr : mg "repr" = none)
    (m_ValueError : mg "ValueError" = none)
    (n_MOST_POINTS : mg "MOST_POINTS" = some (.int 8 t_MOST_POINTS))
    (n_MOST_IN_FACE : mg "MOST_IN_FACE" = some (.int 4 t_MOST_IN_FACE))
    (n_MOST_FACES : mg "MOST_FACES" = some (.int 70 t_MOST_FACES))
    (G : Kinds mg (fun j => ([k_NoStack, k_NoNumber, k_NoPart, k_NoLot, k_NoRow, k_NoOrder, k_NoNames, k_NoRim, k_NoTaking, k_NoText, k_NoLine, k_NoDeed, k_TooGreat] : List Addr).getD j 0))
    (gL : mg "LayError" = some (.ref k_Lay))
    (R_NoStack : Ref K mg "NoStack" k_NoStack)
    (K_NoStack : Kind K (fun j => ([k_NoStack, k_NoNumber, k_NoPart, k_NoLot, k_NoRow, k_NoOrder, k_NoNames, k_NoRim, k_NoTaking, k_NoText, k_NoLine, k_NoDeed, k_TooGreat] : List Addr).getD j 0) k_Lay 0 k_NoStack)
    (R_NoOrder : Ref K mg "NoOrder" k_NoOrder)
    (K_NoOrder : Kind K (fun j => ([k_NoStack, k_NoNumber, k_NoPart, k_NoLot, k_NoRow, k_NoOrder, k_NoNames, k_NoRim, k_NoTaking, k_NoText, k_NoLine, k_NoDeed, k_TooGreat] : List Addr).getD j 0) k_Lay 5 k_NoOrder)
    (oG : IniC P K mg k_TooGreat fI_ cI_ cc_ dI_)
    (iG : PySem.W.findIn K (.ref k_TooGreat) "__init__" = some (some (.ref fI_)))
    (tG : PySem.W.typeIn K (.ref fI_) = some (.type "function"))
    (bG : Binds K dI_ ["self", "many", "most"] [])
    (gG : mg "TooGreat" = some (.ref k_TooGreat))
    (KG : KindG K (fun j => ([k_NoStack, k_NoNumber, k_NoPart, k_NoLot, k_NoRow, k_NoOrder, k_NoNames, k_NoRim, k_NoTaking, k_NoText, k_NoLine, k_NoDeed, k_TooGreat] : List Addr).getD j 0) k_Lay k_TooGreat) :
    FnG P w K mg base CX0 14 f47 d47 ["_law_script"] (spLaw K Ps) := by
  have within : FnOk P w K mg base CX0 1 f1 d1 ["thing", "least", "most"] spWithin := ok_within (k := 0) D1 m_isinstance m_int m_bool
  have below : FnOk P w K mg base CX0 3 f3 d3 ["thing", "many"] (spBelow K Ps) := ok_below (k := 0) D3 D1 B3 M3 m_isinstance m_int m_bool m_tuple m_all
  have rises : FnOk P w K mg base CX0 2 f4 d4 ["things"] (spRises K Ps) := ok_rises (k := 0) D4 B4 M4 m_all m_range m_len
  have rising : FnOk P w K mg base CX0 4 f5 d5 ["thing", "many"] (spRising K Ps) := ok_rising (k := 0) D5 D3 D4 below (rises.mono (by decide))
  have areFaces : FnOk P w K mg base CX0 6 f11 d11 ["n", "k", "thing"] (spAreFaces K Ps) := ok_areFaces (k := 4) D11 D5 rising D4 (rises.mono (by decide)) B11 M11 m_isinstance m_tuple m_len m_all n_MOST_FACES
  have isStack : FnOk P w K mg base CX0 7 f10 d10 ["thing"] (spIsStack K Ps) := ok_isStack D10 D1 (within.mono (by decide)) D11 areFaces m_isinstance m_tuple m_len m_min n_MOST_POINTS n_MOST_IN_FACE
  have needStack : FnOk P w K mg base CX0 8 f12 d12 ["stack"] (spNeedStack K Ps) := ok_needStack D12 D10 isStack
  have hasAll : FnOk P w K mg base CX0 2 f7 d7 ["face", "points"] (spHasAll K Ps) := ok_hasAll (k := 0) D7 B7 M7 m_all
  have inSome : FnOk P w K mg base CX0 4 f8 d8 ["points", "faces"] (spInSome K Ps) := ok_inSome (k := 0) D8 D7 hasAll B8 M8 m_any
  have less : FnOk P w K mg base CX0 1 f9 d9 ["face", "points"] (spLess K Ps) := ok_less (k := 0) D9 m_tuple
  have facesAtF : FnOk P w K mg base CX0 1 f13 d13 ["stack", "lot"] (spFacesAtF K Ps) := ok_facesAtF (k := 0) D13
  have facesAt : FnOk P w K mg base CX0 1 f13 d13 ["stack", "lot"] (spFacesAt K Ps) := ok_facesAt (k := 0) D13
  have brOn : FnOk P w K mg base CX0 5 f14 d14 ["laid", "face"] (spBrOn K Ps) := ok_brOn D14 D8 inSome D9 (less.mono (by decide)) m_tuple
  have lies : FnOk P w K mg base CX0 6 f15 d15 ["laid", "face"] (spLies K Ps) := ok_lies D15 D8 (inSome.mono (by decide)) D14 brOn
  have inSomeT : FnOk P w K mg base CX0 4 f8 d8 ["points", "faces"] (spInSomeT K Ps) := ok_inSomeT (k := 0) D8 D7 hasAll B8 M8 m_any
  have wrong : FnOk P w K mg base CX0 7 f17 d17 ["stack", "row"] (spWrong K Ps) := ok_wrong D17 D13 (facesAtF.mono (by decide)) D15 lies m_enumerate
  have cell : FnOk P w K mg base CX0 1 f23 d23 ["_law_script", "_law_k"] (spCell K) := ok_cell (k := 0) D23 m_len
  have pen : FnOk P w K mg base CX0 1 f24 d24 ["_law_cell_here"] (spPen Ps) := ok_pen (k := 0) D24 m_int
  have draw : FnOk P w K mg base CX0 1 f25 d25 ["_law_pen_here", "_law_many"] spDraw := ok_draw (k := 0) D25
  have withinX : FnOk P w K mg base CX0 1 f1 d1 ["thing", "least", "most"] (spWithinX K) := ok_withinX (k := 0) D1 m_isinstance m_int m_bool
  have belowX : FnOk P w K mg base CX0 3 f3 d3 ["thing", "many"] (spBelowX K Ps) := ok_belowX (k := 0) D3 D1 B3 M3 m_isinstance m_int m_bool m_tuple m_all
  have risesX : FnOk P w K mg base CX0 2 f4 d4 ["things"] (spRisesX K Ps) := ok_risesX (k := 0) D4 B4 M4 m_all m_range m_len
  have risingX : FnOk P w K mg base CX0 4 f5 d5 ["thing", "many"] (spRisingX K Ps) := ok_risingX (k := 0) D5 D3 D4 belowX (risesX.mono (by decide))
  have areFacesX : FnOk P w K mg base CX0 6 f11 d11 ["n", "k", "thing"] (spAreFacesX K Ps) := ok_areFacesX (k := 4) D11 D5 risingX D4 (risesX.mono (by decide)) B11 M11 m_isinstance m_tuple m_len m_all n_MOST_FACES
  have isStackX : FnOk P w K mg base CX0 7 f10 d10 ["thing"] (spIsStackX K Ps) := ok_isStackX D10 D1 (withinX.mono (by decide)) D11 areFacesX m_isinstance m_tuple m_len m_min n_MOST_POINTS n_MOST_IN_FACE
  have needStackX : FnOk P w K mg base (L2.CX P w) 8 f12 d12 ["stack"] (spNeedStackX K Ps k_NoStack) := ok_needStackX D12 D10 isStackX R_NoStack
  have needStack2 : FnOk P w K mg base (L2.CX P w) 8 f12 d12 ["stack"] (spNeedStack2 K Ps k_NoStack) := fn_or (fn_lift needStack) needStackX
  have eachX : FnOk P w K mg base CX0 4 f6 d6 ["thing", "many"] (spEachX K Ps) := ok_eachX D6 D3 belowX m_sorted m_list m_range
  have isRowX : FnOk P w K mg base CX0 5 f16 d16 ["stack", "thing"] (spIsRowX K Ps) := ok_isRowX D16 D6 eachX m_len
  have isOrderX : FnOk P w K mg base (L2.CX P w) 9 f18 d18 ["stack", "thing"] (spIsOrderX K Ps k_NoStack) := ok_isOrderX D18 D12 needStack2 D16 (isRowX.mono (by decide)) D17 (wrong.mono (by decide))
  have needOrderX : FnOk P w K mg base (L2.CX P w) 10 f19 d19 ["stack", "order"] (spNeedOrderX K Ps k_NoOrder) := ok_needOrderX D19 D18 isOrderX R_NoOrder
  have every_ : FnOk P w K mg base CX0 1 f29 d29 ["_law_n", "_law_k"] (spEveryK K Ps) := ok_everyL (k := 0) D29 m_range m_len m_sorted
  have made_ : FnOk P w K mg base CX0 1 f31 d31 ["_law_n", "_law_k", "_law_faces"] (spMade K Ps) := ok_made (k := 0) D31 m_tuple m_sorted
  have pairsL_ : FnOk P w K mg base CX0 1 f35 d35 ["_law_d"] (spPairsL K Ps) := ok_pairsL (k := 0) D35 m_range m_sorted
  have commonE : FnOk P w K mg base CX0 1 f32 d32 ["_law_one", "_law_other"] (spCommonE K Ps) := ok_commonE (k := 0) D32
  have commonLE : FnOk P w K mg base CX0 1 f32 d32 ["_law_one", "_law_other"] (spCommonLE K Ps) := ok_commonLE (k := 0) D32
  have common2 : FnOk P w K mg base CX0 1 f32 d32 ["_law_one", "_law_other"] (spCommon2 K Ps) := fn_or commonE commonLE
  have mayN : FnOk P w K mg base CX0 2 f33 d33 ["_law_laid_here", "_law_face"] (spMayB K Ps) := ok_mayN D33 D32 common2 m_len
  have size_ : FnOk P w K mg base CX0 2 f30 d30 ["_law_pen_here"] (spSize K Ps) := ok_size D30 D25 draw m_max
  have grown_ : FnOk P w K mg base CX0 3 f34 d34 ["_law_pen_here", "_law_n", "_law_k", "_law_most"] (spGrown K Ps) := ok_grown D34 D25 (draw.mono (by decide)) D29 (every_.mono (by decide)) D33 mayN m_range m_len
  have kindly_ : FnOk P w K mg base CX0 2 f36 d36 ["_law_pen_here", "_law_most"] (spStackN K Ps) := ok_kindly D36 D25 draw D29 every_ D35 pairsL_ D31 made_ m_range m_sorted
  have noStackN : FnOk P w K mg base CX0 2 f38 d38 ["_law_pen_here", "_law_stack"] (spNoStackN K Ps) := ok_noStackN D38 D25 draw m_list m_len m_max
  have same2 : FnOk P w K mg base CX0 5 f27 d27 ["_law_found", "_law_due_here"] (spSame K Ps 5) := ok_same2 D27 m_isinstance m_list m_tuple m_str m_bool m_int m_len m_zip 5
  have atMost : FnOk P w K mg base (L2.CX P w) 3 f2 d2 ["many", "most"] (spAtMost Ps k_TooGreat) := ok_atMost D2 oG iG tG bG gG
  have needRoom : FnOk P w K mg base (L2.CX P w) 4 f20 d20 ["n", "k"] (spNeedRoom Ps k_TooGreat) := ok_needRoom D20 D2 atMost n_MOST_POINTS n_MOST_IN_FACE
  have needTwo : FnOk P w K mg base (L2.CX P w) 9 f21 d21 ["one", "other"] (spNeedTwo K Ps k_NoStack) := ok_needTwo D21 D12 needStack2
  have jOrd : FnOk P w K mg base (L2.CX P w) 11 f22 d22 ["one", "other", "order", "another"] (spJOrd K Ps k_NoStack k_NoOrder k_TooGreat) := ok_jOrd D22 D21 (needTwo.mono (by decide)) D19 needOrderX D20 (needRoom.mono (by decide)) m_len m_tuple
  have whole : FnOk P w K mg base CX0 1 f26 d26 ["_law_thing"] (spWhole K) := ok_whole (k := 0) D26 m_isinstance m_int m_bool
  have isRowL : FnOk P w K mg base CX0 2 f39 d39 ["_law_stack", "_law_thing"] (spIsRowX K Ps) := ok_isRowL D39 D26 whole m_isinstance m_tuple m_all m_len m_sorted m_list m_range
  have wrongN : FnOk P w K mg base CX0 3 f40 d40 ["_law_stack", "_law_row"] (spWrong K Ps) := ok_wrongN D40 D33 mayN m_enumerate
  have isOrderN : FnOk P w K mg base CX0 4 f41 d41 ["_law_stack", "_law_thing"] (spIsOrderE K Ps) := ok_isOrderN D41 D39 (isRowL.mono (by decide)) D40 wrongN
  have madeF_ : FnOk P w K mg base CX0 1 f31 d31 ["_law_n", "_law_k", "_law_faces"] (spMadeF K Ps) := ok_madeF (k := 0) D31 m_tuple m_sorted
  have laidN : FnOk P w K mg base CX0 4 f37 d37 ["_law_pen_here", "_law_most"] (spLaidN K Ps) := ok_laidN D37 D25 (draw.mono (by decide)) D30 (size_.mono (by decide)) D36 (kindly_.mono (by decide)) D34 grown_ D31 (madeF_.mono (by decide)) m_tuple m_range m_len
  have bentN : FnOk P w K mg base CX0 2 f43 d43 ["_law_pen_here", "_law_row"] (spBentN K Ps) := ok_bentN D43 D25 draw m_list m_len m_tuple
  have small_ : FnOk P w K mg base CX0 4 f45 d45 ["_law_pen_here"] (spSmall K Ps) := ok_small D45 D25 (draw.mono (by decide)) D34 grown_ D31 (madeF_.mono (by decide)) m_min m_tuple
  have noRow4 : FnOk P w K mg base CX0 2 f42 d42 ["_law_pen_here", "_law_row"] (spNoRow4 K Ps) := ok_noRow4 D42 D25 draw m_list m_len
  have due_ : FnOk P w K mg base CX0 5 f46 d46 ["_law_one", "_law_other", "_law_order", "_law_another"] (spDue82 K Ps) := ok_due82 D46 D41 isOrderN m_len m_tuple
  have came_ : FnOk P w K mg base CX0 13 f44 d44 ["_law_one", "_law_other", "_law_order", "_law_another"] (spCame82 K Ps (fun j => ([k_NoStack, k_NoNumber, k_NoPart, k_NoLot, k_NoRow, k_NoOrder, k_NoNames, k_NoRim, k_NoTaking, k_NoText, k_NoLine, k_NoDeed, k_TooGreat] : List Addr).getD j 0) k_Lay k_NoStack k_NoOrder k_TooGreat) := ok_came82 (k := 11) D44 D22 jOrd D28 G gL m_isinstance m_ValueError
  have lawG : FnG P w K mg base CX0 14 f47 d47 ["_law_script"] (spLaw K Ps) := ok_law D47 D23 (cell.mono (by decide)) D24 (pen.mono (by decide)) D45 (small_.mono (by decide)) D37 (laidN.mono (by decide)) D43 (bentN.mono (by decide)) D42 (noRow4.mono (by decide)) D46 (due_.mono (by decide)) D27 (same2.mono (by decide)) D44 came_ D38 (noStackN.mono (by decide)) K_NoStack K_NoOrder KG m_range m_repr
  exact lawG

theorem all_mk {l : PySem.W.OpenLaw} {w : World} {K : PySem.W.Frag} {h : Heap} {mg mb : Str → Option Value} {q : Program} {loose : List Str} {mean : ExcName → Option Value} {fa : Addr} (T : PyProof.Rows.Top q loose mean mg mb h) (X : K.In h) (hfa : mg "law" = some (.ref fa))
    {f1 c1 f2 c2 f3 c3 f4 c4 f5 c5 f6 c6 f7 c7 f8 c8 f9 c9 f10 c10 f11 c11 f12 c12 f13 c13 f14 c14 f15 c15 f16 c16 f17 c17 f18 c18 f19 c19 f20 c20 f21 c21 f22 c22 f23 c23 f24 c24 f25 c25 f26 c26 f27 c27 f28 c28 f29 c29 f30 c30 f31 c31 f32 c32 f33 c33 f34 c34 f35 c35 f36 c36 f37 c37 f38 c38 f39 c39 f40 c40 f41 c41 f42 c42 f43 c43 f44 c44 f45 c45 f46 c46 f47 c47 : Addr} {oc1 kV1 dc1 pm1 ct1 oc2 kV2 dc2 pm2 ct2 oc3 kV3 dc3 pm3 ct3 oc4 kV4 dc4 pm4 ct4 oc5 kV5 dc5 pm5 ct5 oc6 kV6 dc6 pm6 ct6 oc7 kV7 dc7 pm7 ct7 oc8 kV8 dc8 pm8 ct8 oc9 kV9 dc9 pm9 ct9 oc10 kV10 dc10 pm10 ct10 oc11 kV11 dc11 pm11 ct11 oc12 kV12 dc12 pm12 ct12 oc13 kV13 dc13 pm13 ct13 oc14 kV14 dc14 pm14 ct14 oc15 kV15 dc15 pm15 ct15 oc16 kV16 dc16 pm16 ct16 oc17 kV17 dc17 pm17 ct17 oc18 kV18 dc18 pm18 ct18 oc19 kV19 dc19 pm19 ct19 oc20 kV20 dc20 pm20 ct20 oc21 kV21 dc21 pm21 ct21 oc22 kV22 dc22 pm22 ct22 oc23 kV23 dc23 pm23 ct23 oc24 kV24 dc24 pm24 ct24 oc25 kV25 dc25 pm25 ct25 oc26 kV26 dc26 pm26 ct26 oc27 kV27 dc27 pm27 ct27 oc28 kV28 dc28 pm28 ct28 oc29 kV29 dc29 pm29 ct29 oc30 kV30 dc30 pm30 ct30 oc31 kV31 dc31 pm31 ct31 oc32 kV32 dc32 pm32 ct32 oc33 kV33 dc33 pm33 ct33 oc34 kV34 dc34 pm34 ct34 oc35 kV35 dc35 pm35 ct35 oc36 kV36 dc36 pm36 ct36 oc37 kV37 dc37 pm37 ct37 oc38 kV38 dc38 pm38 ct38 oc39 kV39 dc39 pm39 ct39 oc40 kV40 dc40 pm40 ct40 oc41 kV41 dc41 pm41 ct41 oc42 kV42 dc42 pm42 ct42 oc43 kV43 dc43 pm43 ct43 oc44 kV44 dc44 pm44 ct44 oc45 kV45 dc45 pm45 ct45 oc46 kV46 dc46 pm46 ct46 oc47 kV47 dc47 pm47 ct47 : Value} {od1 an1 od2 an2 od3 an3 od4 an4 od5 an5 od6 an6 od7 an7 od8 an8 od9 an9 od10 an10 od11 an11 od12 an12 od13 an13 od14 an14 od15 an15 od16 an16 od17 an17 od18 an18 od19 an19 od20 an20 od21 an21 od22 an22 od23 an23 od24 an24 od25 an25 od26 an26 od27 an27 od28 an28 od29 an29 od30 an30 od31 an31 od32 an32 od33 an33 od34 an34 od35 an35 od36 an36 od37 an37 od38 an38 od39 an39 od40 an40 od41 an41 od42 an42 od43 an43 od44 an44 od45 an45 od46 an46 od47 an47 : Option Addr} {sl1 sl2 sl3 sl4 sl5 sl6 sl7 sl8 sl9 sl10 sl11 sl12 sl13 sl14 sl15 sl16 sl17 sl18 sl19 sl20 sl21 sl22 sl23 sl24 sl25 sl26 sl27 sl28 sl29 sl30 sl31 sl32 sl33 sl34 sl35 sl36 sl37 sl38 sl39 sl40 sl41 sl42 sl43 sl44 sl45 sl46 sl47 : Array (Option Value)}
    {P3 P4 P7 P8 P11 : Addr} {te3 te4 te7 te8 te11 : Value} {td3 td4 td7 td8 td11 : Option Addr} {tv3 tv4 tv7 tv8 tv11 : Array Value} {ts3 ts4 ts7 ts8 ts11 : Array (Option Value)} {t_MOST_POINTS t_MOST_IN_FACE t_MOST_FACES : Tok} {k_NoStack k_NoNumber k_NoPart k_NoLot k_NoRow k_NoOrder k_NoNames k_NoRim k_NoTaking k_NoText k_NoLine k_NoDeed k_TooGreat k_Lay : Addr} {fI_ cI_ cc_ : Addr} {gnm gq gfl : Str} {gN : Addr} {gbs gbm gsub : List Value} {gsn : List Str} {gab : Bool} {gcol : Option Bool} {gdd god gcdd gcld gan : Option Addr} {gk0 gk1 gk2 gk3 gk5 : Option Value} {goc gkV gdoc gpm gct gccl gcl : Value} {gosl gccs gcsl : Array (Option Value)} {gvs : Array Value} {gtf : Tok}
    (a1 : PySem.W.nsIn K mainGlobals "is_within" = some (some (.ref f1))) (l1 : K.lookup f1 = some ⟨oc1, od1, .func (PySem.W.fnOf "is_within" "is_within" (defArgs sWithin) (defBody sWithin) (defScope sWithin) .none kV1 dc1 pm1 an1 (.ref c1) ct1), sl1⟩) (i1 : PySem.W.codeIn K (.ref c1) "is_within" = true) (k1 : PySem.W.keepIn K (.ref f1) = true)
    (a2 : PySem.W.nsIn K mainGlobals "need_at_most" = some (some (.ref f2))) (l2 : K.lookup f2 = some ⟨oc2, od2, .func (PySem.W.fnOf "need_at_most" "need_at_most" (defArgs sAtMost) (defBody sAtMost) (defScope sAtMost) .none kV2 dc2 pm2 an2 (.ref c2) ct2), sl2⟩) (i2 : PySem.W.codeIn K (.ref c2) "need_at_most" = true) (k2 : PySem.W.keepIn K (.ref f2) = true)
    (a3 : PySem.W.nsIn K mainGlobals "all_below" = some (some (.ref f3))) (l3 : K.lookup f3 = some ⟨oc3, od3, .func (PySem.W.fnOf "all_below" "all_below" (defArgs sBelow) (defBody sBelow) (defScope sBelow) .none kV3 dc3 pm3 an3 (.ref c3) ct3), sl3⟩) (i3 : PySem.W.codeIn K (.ref c3) "all_below" = true) (k3 : PySem.W.keepIn K (.ref f3) = true)
    (a4 : PySem.W.nsIn K mainGlobals "rises" = some (some (.ref f4))) (l4 : K.lookup f4 = some ⟨oc4, od4, .func (PySem.W.fnOf "rises" "rises" (defArgs sRises) (defBody sRises) (defScope sRises) .none kV4 dc4 pm4 an4 (.ref c4) ct4), sl4⟩) (i4 : PySem.W.codeIn K (.ref c4) "rises" = true) (k4 : PySem.W.keepIn K (.ref f4) = true)
    (a5 : PySem.W.nsIn K mainGlobals "is_rising" = some (some (.ref f5))) (l5 : K.lookup f5 = some ⟨oc5, od5, .func (PySem.W.fnOf "is_rising" "is_rising" (defArgs sRising) (defBody sRising) (defScope sRising) .none kV5 dc5 pm5 an5 (.ref c5) ct5), sl5⟩) (i5 : PySem.W.codeIn K (.ref c5) "is_rising" = true) (k5 : PySem.W.keepIn K (.ref f5) = true)
    (a6 : PySem.W.nsIn K mainGlobals "is_each_once" = some (some (.ref f6))) (l6 : K.lookup f6 = some ⟨oc6, od6, .func (PySem.W.fnOf "is_each_once" "is_each_once" (defArgs sEach) (defBody sEach) (defScope sEach) .none kV6 dc6 pm6 an6 (.ref c6) ct6), sl6⟩) (i6 : PySem.W.codeIn K (.ref c6) "is_each_once" = true) (k6 : PySem.W.keepIn K (.ref f6) = true)
    (a7 : PySem.W.nsIn K mainGlobals "has_all" = some (some (.ref f7))) (l7 : K.lookup f7 = some ⟨oc7, od7, .func (PySem.W.fnOf "has_all" "has_all" (defArgs sHasAll) (defBody sHasAll) (defScope sHasAll) .none kV7 dc7 pm7 an7 (.ref c7) ct7), sl7⟩) (i7 : PySem.W.codeIn K (.ref c7) "has_all" = true) (k7 : PySem.W.keepIn K (.ref f7) = true)
    (a8 : PySem.W.nsIn K mainGlobals "in_some" = some (some (.ref f8))) (l8 : K.lookup f8 = some ⟨oc8, od8, .func (PySem.W.fnOf "in_some" "in_some" (defArgs sInSome) (defBody sInSome) (defScope sInSome) .none kV8 dc8 pm8 an8 (.ref c8) ct8), sl8⟩) (i8 : PySem.W.codeIn K (.ref c8) "in_some" = true) (k8 : PySem.W.keepIn K (.ref f8) = true)
    (a9 : PySem.W.nsIn K mainGlobals "less" = some (some (.ref f9))) (l9 : K.lookup f9 = some ⟨oc9, od9, .func (PySem.W.fnOf "less" "less" (defArgs sLess) (defBody sLess) (defScope sLess) .none kV9 dc9 pm9 an9 (.ref c9) ct9), sl9⟩) (i9 : PySem.W.codeIn K (.ref c9) "less" = true) (k9 : PySem.W.keepIn K (.ref f9) = true)
    (a10 : PySem.W.nsIn K mainGlobals "is_stack" = some (some (.ref f10))) (l10 : K.lookup f10 = some ⟨oc10, od10, .func (PySem.W.fnOf "is_stack" "is_stack" (defArgs sIsStack) (defBody sIsStack) (defScope sIsStack) .none kV10 dc10 pm10 an10 (.ref c10) ct10), sl10⟩) (i10 : PySem.W.codeIn K (.ref c10) "is_stack" = true) (k10 : PySem.W.keepIn K (.ref f10) = true)
    (a11 : PySem.W.nsIn K mainGlobals "are_faces" = some (some (.ref f11))) (l11 : K.lookup f11 = some ⟨oc11, od11, .func (PySem.W.fnOf "are_faces" "are_faces" (defArgs sAreFaces) (defBody sAreFaces) (defScope sAreFaces) .none kV11 dc11 pm11 an11 (.ref c11) ct11), sl11⟩) (i11 : PySem.W.codeIn K (.ref c11) "are_faces" = true) (k11 : PySem.W.keepIn K (.ref f11) = true)
    (a12 : PySem.W.nsIn K mainGlobals "need_stack" = some (some (.ref f12))) (l12 : K.lookup f12 = some ⟨oc12, od12, .func (PySem.W.fnOf "need_stack" "need_stack" (defArgs sNeedStack) (defBody sNeedStack) (defScope sNeedStack) .none kV12 dc12 pm12 an12 (.ref c12) ct12), sl12⟩) (i12 : PySem.W.codeIn K (.ref c12) "need_stack" = true) (k12 : PySem.W.keepIn K (.ref f12) = true)
    (a13 : PySem.W.nsIn K mainGlobals "faces_at" = some (some (.ref f13))) (l13 : K.lookup f13 = some ⟨oc13, od13, .func (PySem.W.fnOf "faces_at" "faces_at" (defArgs sFacesAt) (defBody sFacesAt) (defScope sFacesAt) .none kV13 dc13 pm13 an13 (.ref c13) ct13), sl13⟩) (i13 : PySem.W.codeIn K (.ref c13) "faces_at" = true) (k13 : PySem.W.keepIn K (.ref f13) = true)
    (a14 : PySem.W.nsIn K mainGlobals "brought_on" = some (some (.ref f14))) (l14 : K.lookup f14 = some ⟨oc14, od14, .func (PySem.W.fnOf "brought_on" "brought_on" (defArgs sBrOn) (defBody sBrOn) (defScope sBrOn) .none kV14 dc14 pm14 an14 (.ref c14) ct14), sl14⟩) (i14 : PySem.W.codeIn K (.ref c14) "brought_on" = true) (k14 : PySem.W.keepIn K (.ref f14) = true)
    (a15 : PySem.W.nsIn K mainGlobals "lies_on" = some (some (.ref f15))) (l15 : K.lookup f15 = some ⟨oc15, od15, .func (PySem.W.fnOf "lies_on" "lies_on" (defArgs sLies) (defBody sLies) (defScope sLies) .none kV15 dc15 pm15 an15 (.ref c15) ct15), sl15⟩) (i15 : PySem.W.codeIn K (.ref c15) "lies_on" = true) (k15 : PySem.W.keepIn K (.ref f15) = true)
    (a16 : PySem.W.nsIn K mainGlobals "is_row" = some (some (.ref f16))) (l16 : K.lookup f16 = some ⟨oc16, od16, .func (PySem.W.fnOf "is_row" "is_row" (defArgs sIsRow) (defBody sIsRow) (defScope sIsRow) .none kV16 dc16 pm16 an16 (.ref c16) ct16), sl16⟩) (i16 : PySem.W.codeIn K (.ref c16) "is_row" = true) (k16 : PySem.W.keepIn K (.ref f16) = true)
    (a17 : PySem.W.nsIn K mainGlobals "wrong_place" = some (some (.ref f17))) (l17 : K.lookup f17 = some ⟨oc17, od17, .func (PySem.W.fnOf "wrong_place" "wrong_place" (defArgs sWrong) (defBody sWrong) (defScope sWrong) .none kV17 dc17 pm17 an17 (.ref c17) ct17), sl17⟩) (i17 : PySem.W.codeIn K (.ref c17) "wrong_place" = true) (k17 : PySem.W.keepIn K (.ref f17) = true)
    (a18 : PySem.W.nsIn K mainGlobals "is_order" = some (some (.ref f18))) (l18 : K.lookup f18 = some ⟨oc18, od18, .func (PySem.W.fnOf "is_order" "is_order" (defArgs sIsOrder) (defBody sIsOrder) (defScope sIsOrder) .none kV18 dc18 pm18 an18 (.ref c18) ct18), sl18⟩) (i18 : PySem.W.codeIn K (.ref c18) "is_order" = true) (k18 : PySem.W.keepIn K (.ref f18) = true)
    (a19 : PySem.W.nsIn K mainGlobals "need_order" = some (some (.ref f19))) (l19 : K.lookup f19 = some ⟨oc19, od19, .func (PySem.W.fnOf "need_order" "need_order" (defArgs sNeedOrder) (defBody sNeedOrder) (defScope sNeedOrder) .none kV19 dc19 pm19 an19 (.ref c19) ct19), sl19⟩) (i19 : PySem.W.codeIn K (.ref c19) "need_order" = true) (k19 : PySem.W.keepIn K (.ref f19) = true)
    (a20 : PySem.W.nsIn K mainGlobals "need_room" = some (some (.ref f20))) (l20 : K.lookup f20 = some ⟨oc20, od20, .func (PySem.W.fnOf "need_room" "need_room" (defArgs sNeedRoom) (defBody sNeedRoom) (defScope sNeedRoom) .none kV20 dc20 pm20 an20 (.ref c20) ct20), sl20⟩) (i20 : PySem.W.codeIn K (.ref c20) "need_room" = true) (k20 : PySem.W.keepIn K (.ref f20) = true)
    (a21 : PySem.W.nsIn K mainGlobals "need_two" = some (some (.ref f21))) (l21 : K.lookup f21 = some ⟨oc21, od21, .func (PySem.W.fnOf "need_two" "need_two" (defArgs sNeedTwo) (defBody sNeedTwo) (defScope sNeedTwo) .none kV21 dc21 pm21 an21 (.ref c21) ct21), sl21⟩) (i21 : PySem.W.codeIn K (.ref c21) "need_two" = true) (k21 : PySem.W.keepIn K (.ref f21) = true)
    (a22 : PySem.W.nsIn K mainGlobals "joined_order" = some (some (.ref f22))) (l22 : K.lookup f22 = some ⟨oc22, od22, .func (PySem.W.fnOf "joined_order" "joined_order" (defArgs sJOrd) (defBody sJOrd) (defScope sJOrd) .none kV22 dc22 pm22 an22 (.ref c22) ct22), sl22⟩) (i22 : PySem.W.codeIn K (.ref c22) "joined_order" = true) (k22 : PySem.W.keepIn K (.ref f22) = true)
    (a23 : PySem.W.nsIn K mainGlobals "_law_cell" = some (some (.ref f23))) (l23 : K.lookup f23 = some ⟨oc23, od23, .func (PySem.W.fnOf "_law_cell" "_law_cell" (defArgs sCell) (defBody sCell) (defScope sCell) .none kV23 dc23 pm23 an23 (.ref c23) ct23), sl23⟩) (i23 : PySem.W.codeIn K (.ref c23) "_law_cell" = true) (k23 : PySem.W.keepIn K (.ref f23) = true)
    (a24 : PySem.W.nsIn K mainGlobals "_law_pen" = some (some (.ref f24))) (l24 : K.lookup f24 = some ⟨oc24, od24, .func (PySem.W.fnOf "_law_pen" "_law_pen" (defArgs sPen) (defBody sPen) (defScope sPen) .none kV24 dc24 pm24 an24 (.ref c24) ct24), sl24⟩) (i24 : PySem.W.codeIn K (.ref c24) "_law_pen" = true) (k24 : PySem.W.keepIn K (.ref f24) = true)
    (a25 : PySem.W.nsIn K mainGlobals "_law_draw" = some (some (.ref f25))) (l25 : K.lookup f25 = some ⟨oc25, od25, .func (PySem.W.fnOf "_law_draw" "_law_draw" (defArgs sDraw) (defBody sDraw) (defScope sDraw) .none kV25 dc25 pm25 an25 (.ref c25) ct25), sl25⟩) (i25 : PySem.W.codeIn K (.ref c25) "_law_draw" = true) (k25 : PySem.W.keepIn K (.ref f25) = true)
    (a26 : PySem.W.nsIn K mainGlobals "_law_whole" = some (some (.ref f26))) (l26 : K.lookup f26 = some ⟨oc26, od26, .func (PySem.W.fnOf "_law_whole" "_law_whole" (defArgs sWhole) (defBody sWhole) (defScope sWhole) .none kV26 dc26 pm26 an26 (.ref c26) ct26), sl26⟩) (i26 : PySem.W.codeIn K (.ref c26) "_law_whole" = true) (k26 : PySem.W.keepIn K (.ref f26) = true)
    (a27 : PySem.W.nsIn K mainGlobals "_law_same" = some (some (.ref f27))) (l27 : K.lookup f27 = some ⟨oc27, od27, .func (PySem.W.fnOf "_law_same" "_law_same" (defArgs sSame2) (defBody sSame2) (defScope sSame2) .none kV27 dc27 pm27 an27 (.ref c27) ct27), sl27⟩) (i27 : PySem.W.codeIn K (.ref c27) "_law_same" = true) (k27 : PySem.W.keepIn K (.ref f27) = true)
    (a28 : PySem.W.nsIn K mainGlobals "_law_kind_of" = some (some (.ref f28))) (l28 : K.lookup f28 = some ⟨oc28, od28, .func (PySem.W.fnOf "_law_kind_of" "_law_kind_of" (defArgs sKindOf) (defBody sKindOf) (defScope sKindOf) .none kV28 dc28 pm28 an28 (.ref c28) ct28), sl28⟩) (i28 : PySem.W.codeIn K (.ref c28) "_law_kind_of" = true) (k28 : PySem.W.keepIn K (.ref f28) = true)
    (a29 : PySem.W.nsIn K mainGlobals "_law_every" = some (some (.ref f29))) (l29 : K.lookup f29 = some ⟨oc29, od29, .func (PySem.W.fnOf "_law_every" "_law_every" (defArgs sEveryL) (defBody sEveryL) (defScope sEveryL) .none kV29 dc29 pm29 an29 (.ref c29) ct29), sl29⟩) (i29 : PySem.W.codeIn K (.ref c29) "_law_every" = true) (k29 : PySem.W.keepIn K (.ref f29) = true)
    (a30 : PySem.W.nsIn K mainGlobals "_law_size" = some (some (.ref f30))) (l30 : K.lookup f30 = some ⟨oc30, od30, .func (PySem.W.fnOf "_law_size" "_law_size" (defArgs sSize) (defBody sSize) (defScope sSize) .none kV30 dc30 pm30 an30 (.ref c30) ct30), sl30⟩) (i30 : PySem.W.codeIn K (.ref c30) "_law_size" = true) (k30 : PySem.W.keepIn K (.ref f30) = true)
    (a31 : PySem.W.nsIn K mainGlobals "_law_made" = some (some (.ref f31))) (l31 : K.lookup f31 = some ⟨oc31, od31, .func (PySem.W.fnOf "_law_made" "_law_made" (defArgs sMade) (defBody sMade) (defScope sMade) .none kV31 dc31 pm31 an31 (.ref c31) ct31), sl31⟩) (i31 : PySem.W.codeIn K (.ref c31) "_law_made" = true) (k31 : PySem.W.keepIn K (.ref f31) = true)
    (a32 : PySem.W.nsIn K mainGlobals "_law_common" = some (some (.ref f32))) (l32 : K.lookup f32 = some ⟨oc32, od32, .func (PySem.W.fnOf "_law_common" "_law_common" (defArgs sCommon) (defBody sCommon) (defScope sCommon) .none kV32 dc32 pm32 an32 (.ref c32) ct32), sl32⟩) (i32 : PySem.W.codeIn K (.ref c32) "_law_common" = true) (k32 : PySem.W.keepIn K (.ref f32) = true)
    (a33 : PySem.W.nsIn K mainGlobals "_law_may" = some (some (.ref f33))) (l33 : K.lookup f33 = some ⟨oc33, od33, .func (PySem.W.fnOf "_law_may" "_law_may" (defArgs sMayN) (defBody sMayN) (defScope sMayN) .none kV33 dc33 pm33 an33 (.ref c33) ct33), sl33⟩) (i33 : PySem.W.codeIn K (.ref c33) "_law_may" = true) (k33 : PySem.W.keepIn K (.ref f33) = true)
    (a34 : PySem.W.nsIn K mainGlobals "_law_grown" = some (some (.ref f34))) (l34 : K.lookup f34 = some ⟨oc34, od34, .func (PySem.W.fnOf "_law_grown" "_law_grown" (defArgs sGrown) (defBody sGrown) (defScope sGrown) .none kV34 dc34 pm34 an34 (.ref c34) ct34), sl34⟩) (i34 : PySem.W.codeIn K (.ref c34) "_law_grown" = true) (k34 : PySem.W.keepIn K (.ref f34) = true)
    (a35 : PySem.W.nsIn K mainGlobals "_law_pairs" = some (some (.ref f35))) (l35 : K.lookup f35 = some ⟨oc35, od35, .func (PySem.W.fnOf "_law_pairs" "_law_pairs" (defArgs sPairsL) (defBody sPairsL) (defScope sPairsL) .none kV35 dc35 pm35 an35 (.ref c35) ct35), sl35⟩) (i35 : PySem.W.codeIn K (.ref c35) "_law_pairs" = true) (k35 : PySem.W.keepIn K (.ref f35) = true)
    (a36 : PySem.W.nsIn K mainGlobals "_law_kindly" = some (some (.ref f36))) (l36 : K.lookup f36 = some ⟨oc36, od36, .func (PySem.W.fnOf "_law_kindly" "_law_kindly" (defArgs sKindly) (defBody sKindly) (defScope sKindly) .none kV36 dc36 pm36 an36 (.ref c36) ct36), sl36⟩) (i36 : PySem.W.codeIn K (.ref c36) "_law_kindly" = true) (k36 : PySem.W.keepIn K (.ref f36) = true)
    (a37 : PySem.W.nsIn K mainGlobals "_law_laid" = some (some (.ref f37))) (l37 : K.lookup f37 = some ⟨oc37, od37, .func (PySem.W.fnOf "_law_laid" "_law_laid" (defArgs sLaidN) (defBody sLaidN) (defScope sLaidN) .none kV37 dc37 pm37 an37 (.ref c37) ct37), sl37⟩) (i37 : PySem.W.codeIn K (.ref c37) "_law_laid" = true) (k37 : PySem.W.keepIn K (.ref f37) = true)
    (a38 : PySem.W.nsIn K mainGlobals "_law_no_stack" = some (some (.ref f38))) (l38 : K.lookup f38 = some ⟨oc38, od38, .func (PySem.W.fnOf "_law_no_stack" "_law_no_stack" (defArgs sNoStackN) (defBody sNoStackN) (defScope sNoStackN) .none kV38 dc38 pm38 an38 (.ref c38) ct38), sl38⟩) (i38 : PySem.W.codeIn K (.ref c38) "_law_no_stack" = true) (k38 : PySem.W.keepIn K (.ref f38) = true)
    (a39 : PySem.W.nsIn K mainGlobals "_law_is_row" = some (some (.ref f39))) (l39 : K.lookup f39 = some ⟨oc39, od39, .func (PySem.W.fnOf "_law_is_row" "_law_is_row" (defArgs sIsRowL) (defBody sIsRowL) (defScope sIsRowL) .none kV39 dc39 pm39 an39 (.ref c39) ct39), sl39⟩) (i39 : PySem.W.codeIn K (.ref c39) "_law_is_row" = true) (k39 : PySem.W.keepIn K (.ref f39) = true)
    (a40 : PySem.W.nsIn K mainGlobals "_law_wrong_at" = some (some (.ref f40))) (l40 : K.lookup f40 = some ⟨oc40, od40, .func (PySem.W.fnOf "_law_wrong_at" "_law_wrong_at" (defArgs sWrongN) (defBody sWrongN) (defScope sWrongN) .none kV40 dc40 pm40 an40 (.ref c40) ct40), sl40⟩) (i40 : PySem.W.codeIn K (.ref c40) "_law_wrong_at" = true) (k40 : PySem.W.keepIn K (.ref f40) = true)
    (a41 : PySem.W.nsIn K mainGlobals "_law_is_order" = some (some (.ref f41))) (l41 : K.lookup f41 = some ⟨oc41, od41, .func (PySem.W.fnOf "_law_is_order" "_law_is_order" (defArgs sIsOrderN) (defBody sIsOrderN) (defScope sIsOrderN) .none kV41 dc41 pm41 an41 (.ref c41) ct41), sl41⟩) (i41 : PySem.W.codeIn K (.ref c41) "_law_is_order" = true) (k41 : PySem.W.keepIn K (.ref f41) = true)
    (a42 : PySem.W.nsIn K mainGlobals "_law_no_row" = some (some (.ref f42))) (l42 : K.lookup f42 = some ⟨oc42, od42, .func (PySem.W.fnOf "_law_no_row" "_law_no_row" (defArgs sNoRow) (defBody sNoRow) (defScope sNoRow) .none kV42 dc42 pm42 an42 (.ref c42) ct42), sl42⟩) (i42 : PySem.W.codeIn K (.ref c42) "_law_no_row" = true) (k42 : PySem.W.keepIn K (.ref f42) = true)
    (a43 : PySem.W.nsIn K mainGlobals "_law_bent_row" = some (some (.ref f43))) (l43 : K.lookup f43 = some ⟨oc43, od43, .func (PySem.W.fnOf "_law_bent_row" "_law_bent_row" (defArgs sBentN) (defBody sBentN) (defScope sBentN) .none kV43 dc43 pm43 an43 (.ref c43) ct43), sl43⟩) (i43 : PySem.W.codeIn K (.ref c43) "_law_bent_row" = true) (k43 : PySem.W.keepIn K (.ref f43) = true)
    (a44 : PySem.W.nsIn K mainGlobals "_law_came" = some (some (.ref f44))) (l44 : K.lookup f44 = some ⟨oc44, od44, .func (PySem.W.fnOf "_law_came" "_law_came" (defArgs sCame82) (defBody sCame82) (defScope sCame82) .none kV44 dc44 pm44 an44 (.ref c44) ct44), sl44⟩) (i44 : PySem.W.codeIn K (.ref c44) "_law_came" = true) (k44 : PySem.W.keepIn K (.ref f44) = true)
    (a45 : PySem.W.nsIn K mainGlobals "_law_small" = some (some (.ref f45))) (l45 : K.lookup f45 = some ⟨oc45, od45, .func (PySem.W.fnOf "_law_small" "_law_small" (defArgs sSmall) (defBody sSmall) (defScope sSmall) .none kV45 dc45 pm45 an45 (.ref c45) ct45), sl45⟩) (i45 : PySem.W.codeIn K (.ref c45) "_law_small" = true) (k45 : PySem.W.keepIn K (.ref f45) = true)
    (a46 : PySem.W.nsIn K mainGlobals "_law_due" = some (some (.ref f46))) (l46 : K.lookup f46 = some ⟨oc46, od46, .func (PySem.W.fnOf "_law_due" "_law_due" (defArgs sDue82) (defBody sDue82) (defScope sDue82) .none kV46 dc46 pm46 an46 (.ref c46) ct46), sl46⟩) (i46 : PySem.W.codeIn K (.ref c46) "_law_due" = true) (k46 : PySem.W.keepIn K (.ref f46) = true)
    (a47 : PySem.W.nsIn K mainGlobals "law" = some (some (.ref f47))) (l47 : K.lookup f47 = some ⟨oc47, od47, .func (PySem.W.fnOf "law" "law" (defArgs sLaw) (defBody sLaw) (defScope sLaw) .none kV47 dc47 pm47 an47 (.ref c47) ct47), sl47⟩) (i47 : PySem.W.codeIn K (.ref c47) "law" = true) (k47 : PySem.W.keepIn K (.ref f47) = true)
    (u3 : K.lookup c3 = some ⟨te3, td3, .fields tv3, ts3⟩) (v3 : tv3[11]? = some (.ref P3)) (w3 : K.lookup P3 = none) (r3 : ((PyProof.Rows.recsOf q).any fun e => e.name == ("all_below" : Str)) = true)
    (u4 : K.lookup c4 = some ⟨te4, td4, .fields tv4, ts4⟩) (v4 : tv4[11]? = some (.ref P4)) (w4 : K.lookup P4 = none) (r4 : ((PyProof.Rows.recsOf q).any fun e => e.name == ("rises" : Str)) = true)
    (u7 : K.lookup c7 = some ⟨te7, td7, .fields tv7, ts7⟩) (v7 : tv7[11]? = some (.ref P7)) (w7 : K.lookup P7 = none) (r7 : ((PyProof.Rows.recsOf q).any fun e => e.name == ("has_all" : Str)) = true)
    (u8 : K.lookup c8 = some ⟨te8, td8, .fields tv8, ts8⟩) (v8 : tv8[11]? = some (.ref P8)) (w8 : K.lookup P8 = none) (r8 : ((PyProof.Rows.recsOf q).any fun e => e.name == ("in_some" : Str)) = true)
    (u11 : K.lookup c11 = some ⟨te11, td11, .fields tv11, ts11⟩) (v11 : tv11[11]? = some (.ref P11)) (w11 : K.lookup P11 = none) (r11 : ((PyProof.Rows.recsOf q).any fun e => e.name == ("are_faces" : Str)) = true)
    (z_isinstance : PySem.W.nsIn K mainGlobals "isinstance" = some none)
    (z_int : PySem.W.nsIn K mainGlobals "int" = some none)
    (z_bool : PySem.W.nsIn K mainGlobals "bool" = some none)
    (z_tuple : PySem.W.nsIn K mainGlobals "tuple" = some none)
    (z_all : PySem.W.nsIn K mainGlobals "all" = some none)
    (z_any : PySem.W.nsIn K mainGlobals "any" = some none)
    (z_range : PySem.W.nsIn K mainGlobals "range" = some none)
    (z_len : PySem.W.nsIn K mainGlobals "len" = some none)
    (z_sorted : PySem.W.nsIn K mainGlobals "sorted" = some none)
    (z_min : PySem.W.nsIn K mainGlobals "min" = some none)
    (z_max : PySem.W.nsIn K mainGlobals "max" = some none)
    (z_list : PySem.W.nsIn K mainGlobals "list" = some none)
    (z_str : PySem.W.nsIn K mainGlobals "str" = some none)
    (z_zip : PySem.W.nsIn K mainGlobals "zip" = some none)
    (z_enumerate : PySem.W.nsIn K mainGlobals "enumerate" = some none)
    (z_repr : PySem.W.nsIn K mainGlobals "repr" = some none)
    (z_ValueError : PySem.W.nsIn K mainGlobals "ValueError" = some none)
    (y_MOST_POINTS : PySem.W.nsIn K mainGlobals "MOST_POINTS" = some (some (.int 8 t_MOST_POINTS)))
    (y_MOST_IN_FACE : PySem.W.nsIn K mainGlobals "MOST_IN_FACE" = some (some (.int 4 t_MOST_IN_FACE)))
    (y_MOST_FACES : PySem.W.nsIn K mainGlobals "MOST_FACES" = some (some (.int 70 t_MOST_FACES)))
    (b_NoStack : PySem.W.nsIn K mainGlobals "NoStack" = some (some (.ref k_NoStack)))
    (b_NoNumber : PySem.W.nsIn K mainGlobals "NoNumber" = some (some (.ref k_NoNumber)))
    (b_NoPart : PySem.W.nsIn K mainGlobals "NoPart" = some (some (.ref k_NoPart)))
    (b_NoLot : PySem.W.nsIn K mainGlobals "NoLot" = some (some (.ref k_NoLot)))
    (b_NoRow : PySem.W.nsIn K mainGlobals "NoRow" = some (some (.ref k_NoRow)))
    (b_NoOrder : PySem.W.nsIn K mainGlobals "NoOrder" = some (some (.ref k_NoOrder)))
    (b_NoNames : PySem.W.nsIn K mainGlobals "NoNames" = some (some (.ref k_NoNames)))
    (b_NoRim : PySem.W.nsIn K mainGlobals "NoRim" = some (some (.ref k_NoRim)))
    (b_NoTaking : PySem.W.nsIn K mainGlobals "NoTaking" = some (some (.ref k_NoTaking)))
    (b_NoText : PySem.W.nsIn K mainGlobals "NoText" = some (some (.ref k_NoText)))
    (b_NoLine : PySem.W.nsIn K mainGlobals "NoLine" = some (some (.ref k_NoLine)))
    (b_NoDeed : PySem.W.nsIn K mainGlobals "NoDeed" = some (some (.ref k_NoDeed)))
    (b_TooGreat : PySem.W.nsIn K mainGlobals "TooGreat" = some (some (.ref k_TooGreat)))
    (b_Lay : PySem.W.nsIn K mainGlobals "LayError" = some (some (.ref k_Lay)))
    (x_NoStack_ex : PySem.W.excIn K k_NoStack [.type "ValueError", .type "Exception", .type "BaseException", .type "object"] "ValueError.__new__" = true)
    (x_NoStack_kp : PySem.W.keepIn K (.ref k_NoStack) = true)
    (x_NoStack_sb : PySem.W.subIn K (.ref k_NoStack) (.type "BaseException") = some true)
    (x_NoStack_ty : PySem.W.typeIn K (.ref k_NoStack) = some (.type "type"))
    (x_NoStack_hg : PySem.W.findIn K (.ref k_NoStack) "__getattribute__" = some (some (.builtin "BaseException.__getattribute__")))
    (x_NoStack_hk : PySem.W.findIn K (.ref k_NoStack) "__getattr__" = some none)
    (x_NoStack_hd : PySem.W.hasDictIn K k_NoStack = true)
    (x_NoStack_ha : PySem.W.findIn K (.ref k_NoStack) "__class__" = some (some (.builtin "object.__class__")))
    (x_NoStack_hn : PySem.W.specialIn K (.builtin "object.__class__") "__get__" = some (some (.builtin "getset_descriptor.__get__")))
    (x_NoStack_ht : PySem.W.takesIn K (.builtin "object.__class__") = some true)
    (x_NoStack_hm : PySem.W.mroIn K k_NoStack (.type "object") = some true)
    (x_NoStack_ve : PySem.W.kitOne K (.ref k_NoStack) (.type "ValueError") = some true)
    (x_NoStack_lay : PySem.W.exmOne K (.ref k_NoStack) (.ref k_Lay) = some true)
    (x_NoStack_q0 : PySem.W.kitOne K (.ref k_NoStack) (.ref k_NoStack) = some true)
    (x_NoStack_q1 : PySem.W.kitOne K (.ref k_NoStack) (.ref k_NoNumber) = some false)
    (x_NoStack_q2 : PySem.W.kitOne K (.ref k_NoStack) (.ref k_NoPart) = some false)
    (x_NoStack_q3 : PySem.W.kitOne K (.ref k_NoStack) (.ref k_NoLot) = some false)
    (x_NoStack_q4 : PySem.W.kitOne K (.ref k_NoStack) (.ref k_NoRow) = some false)
    (x_NoStack_q5 : PySem.W.kitOne K (.ref k_NoStack) (.ref k_NoOrder) = some false)
    (x_NoStack_q6 : PySem.W.kitOne K (.ref k_NoStack) (.ref k_NoNames) = some false)
    (x_NoStack_q7 : PySem.W.kitOne K (.ref k_NoStack) (.ref k_NoRim) = some false)
    (x_NoStack_q8 : PySem.W.kitOne K (.ref k_NoStack) (.ref k_NoTaking) = some false)
    (x_NoStack_q9 : PySem.W.kitOne K (.ref k_NoStack) (.ref k_NoText) = some false)
    (x_NoStack_q10 : PySem.W.kitOne K (.ref k_NoStack) (.ref k_NoLine) = some false)
    (x_NoStack_q11 : PySem.W.kitOne K (.ref k_NoStack) (.ref k_NoDeed) = some false)
    (x_NoStack_q12 : PySem.W.kitOne K (.ref k_NoStack) (.ref k_TooGreat) = some false)
    (x_NoOrder_ex : PySem.W.excIn K k_NoOrder [.type "ValueError", .type "Exception", .type "BaseException", .type "object"] "ValueError.__new__" = true)
    (x_NoOrder_kp : PySem.W.keepIn K (.ref k_NoOrder) = true)
    (x_NoOrder_sb : PySem.W.subIn K (.ref k_NoOrder) (.type "BaseException") = some true)
    (x_NoOrder_ty : PySem.W.typeIn K (.ref k_NoOrder) = some (.type "type"))
    (x_NoOrder_hg : PySem.W.findIn K (.ref k_NoOrder) "__getattribute__" = some (some (.builtin "BaseException.__getattribute__")))
    (x_NoOrder_hk : PySem.W.findIn K (.ref k_NoOrder) "__getattr__" = some none)
    (x_NoOrder_hd : PySem.W.hasDictIn K k_NoOrder = true)
    (x_NoOrder_ha : PySem.W.findIn K (.ref k_NoOrder) "__class__" = some (some (.builtin "object.__class__")))
    (x_NoOrder_hn : PySem.W.specialIn K (.builtin "object.__class__") "__get__" = some (some (.builtin "getset_descriptor.__get__")))
    (x_NoOrder_ht : PySem.W.takesIn K (.builtin "object.__class__") = some true)
    (x_NoOrder_hm : PySem.W.mroIn K k_NoOrder (.type "object") = some true)
    (x_NoOrder_ve : PySem.W.kitOne K (.ref k_NoOrder) (.type "ValueError") = some true)
    (x_NoOrder_lay : PySem.W.exmOne K (.ref k_NoOrder) (.ref k_Lay) = some true)
    (x_NoOrder_q0 : PySem.W.kitOne K (.ref k_NoOrder) (.ref k_NoStack) = some false)
    (x_NoOrder_q1 : PySem.W.kitOne K (.ref k_NoOrder) (.ref k_NoNumber) = some false)
    (x_NoOrder_q2 : PySem.W.kitOne K (.ref k_NoOrder) (.ref k_NoPart) = some false)
    (x_NoOrder_q3 : PySem.W.kitOne K (.ref k_NoOrder) (.ref k_NoLot) = some false)
    (x_NoOrder_q4 : PySem.W.kitOne K (.ref k_NoOrder) (.ref k_NoRow) = some false)
    (x_NoOrder_q5 : PySem.W.kitOne K (.ref k_NoOrder) (.ref k_NoOrder) = some true)
    (x_NoOrder_q6 : PySem.W.kitOne K (.ref k_NoOrder) (.ref k_NoNames) = some false)
    (x_NoOrder_q7 : PySem.W.kitOne K (.ref k_NoOrder) (.ref k_NoRim) = some false)
    (x_NoOrder_q8 : PySem.W.kitOne K (.ref k_NoOrder) (.ref k_NoTaking) = some false)
    (x_NoOrder_q9 : PySem.W.kitOne K (.ref k_NoOrder) (.ref k_NoText) = some false)
    (x_NoOrder_q10 : PySem.W.kitOne K (.ref k_NoOrder) (.ref k_NoLine) = some false)
    (x_NoOrder_q11 : PySem.W.kitOne K (.ref k_NoOrder) (.ref k_NoDeed) = some false)
    (x_NoOrder_q12 : PySem.W.kitOne K (.ref k_NoOrder) (.ref k_TooGreat) = some false)
    (xg_lk : K.lookup k_TooGreat = some (excClassObj gnm gq k_TooGreat gN gbs gbm true gsn gsub gab gcol gdd gk0 gk1 gk2 gk3 gk5 "ValueError.__new__"))
    (xg_rv : PySem.HandSPX.refsVE gbm = true)
    (xg_sa : PySem.W.findIn K (.ref k_TooGreat) "__setattr__" = some (some (.builtin "object.__setattr__")))
    (xg_in : PySem.W.findIn K (.ref k_TooGreat) "__init__" = some (some (.ref fI_)))
    (xg_ti : PySem.W.typeIn K (.ref fI_) = some (.type "function"))
    (xg_fn : K.lookup fI_ = some ⟨goc, god, .func (PySem.W.fnX "__init__" "TooGreat.__init__" (defArgs sIni) (defBody sIni) (defScope sIni) [("__class__", cc_)] .none gkV gdoc gpm gan (.ref cI_) gct), gosl⟩)
    (xg_cd : PySem.W.codeIn K (.ref cI_) "TooGreat.__init__" = true)
    (xg_fl : K.lookup cI_ = some ⟨gccl, gcdd, .fields gvs, gccs⟩)
    (xg_vs : gvs[2]? = some (.str gfl gtf))
    (xg_mf : ((l.prog.main.file : Str) == gfl) = true)
    (xg_ce : K.lookup cc_ = some ⟨gcl, gcld, .cell (some (.ref k_TooGreat)), gcsl⟩)
    (xg_mr : PySem.W.mroIn K k_TooGreat (.ref k_TooGreat) = some true)
    (xg_sv : PySem.W.subIn K (.ref k_TooGreat) (.type "ValueError") = some true)
    (xg_op : PySem.W.nsIn K cStatics "thirdparty.any" = some none)
    (xg_su : PySem.W.nsIn K mainGlobals "super" = some none)
    (xg_tp : (l.prog.main.scope.names.lookup ("super" : Str)).isSome = false)
    (xg_n1 : PySem.W.findIn K (.ref k_TooGreat) "many" = some none)
    (xg_n2 : PySem.W.findIn K (.ref k_TooGreat) "most" = some none)
    (xg_al : PySem.W.ks_superIn K k_TooGreat k_TooGreat "__init__" = some (some (.builtin "ValueError.__init__")))
    (xg_kp : PySem.W.keepIn K (.ref k_TooGreat) = true)
    (xg_sb : PySem.W.subIn K (.ref k_TooGreat) (.type "BaseException") = some true)
    (xg_ty : PySem.W.typeIn K (.ref k_TooGreat) = some (.type "type"))
    (xg_hg : PySem.W.findIn K (.ref k_TooGreat) "__getattribute__" = some (some (.builtin "BaseException.__getattribute__")))
    (xg_hk : PySem.W.findIn K (.ref k_TooGreat) "__getattr__" = some none)
    (xg_hd : PySem.W.hasDictIn K k_TooGreat = true)
    (xg_ha : PySem.W.findIn K (.ref k_TooGreat) "__class__" = some (some (.builtin "object.__class__")))
    (xg_hn : PySem.W.specialIn K (.builtin "object.__class__") "__get__" = some (some (.builtin "getset_descriptor.__get__")))
    (xg_ht : PySem.W.takesIn K (.builtin "object.__class__") = some true)
    (xg_hm : PySem.W.mroIn K k_TooGreat (.type "object") = some true)
    (xg_ve : PySem.W.kitOne K (.ref k_TooGreat) (.type "ValueError") = some true)
    (xg_ly : PySem.W.exmOne K (.ref k_TooGreat) (.ref k_Lay) = some true)
    (xg_q0 : PySem.W.kitOne K (.ref k_TooGreat) (.ref k_NoStack) = some false)
    (xg_q1 : PySem.W.kitOne K (.ref k_TooGreat) (.ref k_NoNumber) = some false)
    (xg_q2 : PySem.W.kitOne K (.ref k_TooGreat) (.ref k_NoPart) = some false)
    (xg_q3 : PySem.W.kitOne K (.ref k_TooGreat) (.ref k_NoLot) = some false)
    (xg_q4 : PySem.W.kitOne K (.ref k_TooGreat) (.ref k_NoRow) = some false)
    (xg_q5 : PySem.W.kitOne K (.ref k_TooGreat) (.ref k_NoOrder) = some false)
    (xg_q6 : PySem.W.kitOne K (.ref k_TooGreat) (.ref k_NoNames) = some false)
    (xg_q7 : PySem.W.kitOne K (.ref k_TooGreat) (.ref k_NoRim) = some false)
    (xg_q8 : PySem.W.kitOne K (.ref k_TooGreat) (.ref k_NoTaking) = some false)
    (xg_q9 : PySem.W.kitOne K (.ref k_TooGreat) (.ref k_NoText) = some false)
    (xg_q10 : PySem.W.kitOne K (.ref k_TooGreat) (.ref k_NoLine) = some false)
    (xg_q11 : PySem.W.kitOne K (.ref k_TooGreat) (.ref k_NoDeed) = some false)
    (xg_q12 : PySem.W.kitOne K (.ref k_TooGreat) (.ref k_TooGreat) = some true)
    (dst : (([] : List (Addr × Str)).map (fun p : Addr × Str => p.1) ++ ([P3, P4, P7, P8, P11] : List Addr)).Nodup) :
    LawAtG l w K CX0 14 63 "_law_script" mg fa h := by
  have e := hfa.symm.trans (PySem.W.mg_of X T.g a47)
  cases e
  have D1 := def_mk (ps := ["thing", "least", "most"]) X T.g a1 l1 i1 k1 fun _ _ _ _ _ _ us hl => match us, hl with | [_, _, _], _ => rfl
  have D2 := def_mk (ps := ["many", "most"]) X T.g a2 l2 i2 k2 fun _ _ _ _ _ _ us hl => match us, hl with | [_, _], _ => rfl
  have D3 := def_mk (ps := ["thing", "many"]) X T.g a3 l3 i3 k3 fun _ _ _ _ _ _ us hl => match us, hl with | [_, _], _ => rfl
  have D4 := def_mk (ps := ["things"]) X T.g a4 l4 i4 k4 fun _ _ _ _ _ _ us hl => match us, hl with | [_], _ => rfl
  have D5 := def_mk (ps := ["thing", "many"]) X T.g a5 l5 i5 k5 fun _ _ _ _ _ _ us hl => match us, hl with | [_, _], _ => rfl
  have D6 := def_mk (ps := ["thing", "many"]) X T.g a6 l6 i6 k6 fun _ _ _ _ _ _ us hl => match us, hl with | [_, _], _ => rfl
  have D7 := def_mk (ps := ["face", "points"]) X T.g a7 l7 i7 k7 fun _ _ _ _ _ _ us hl => match us, hl with | [_, _], _ => rfl
  have D8 := def_mk (ps := ["points", "faces"]) X T.g a8 l8 i8 k8 fun _ _ _ _ _ _ us hl => match us, hl with | [_, _], _ => rfl
  have D9 := def_mk (ps := ["face", "points"]) X T.g a9 l9 i9 k9 fun _ _ _ _ _ _ us hl => match us, hl with | [_, _], _ => rfl
  have D10 := def_mk (ps := ["thing"]) X T.g a10 l10 i10 k10 fun _ _ _ _ _ _ us hl => match us, hl with | [_], _ => rfl
  have D11 := def_mk (ps := ["n", "k", "thing"]) X T.g a11 l11 i11 k11 fun _ _ _ _ _ _ us hl => match us, hl with | [_, _, _], _ => rfl
  have D12 := def_mk (ps := ["stack"]) X T.g a12 l12 i12 k12 fun _ _ _ _ _ _ us hl => match us, hl with | [_], _ => rfl
  have D13 := def_mk (ps := ["stack", "lot"]) X T.g a13 l13 i13 k13 fun _ _ _ _ _ _ us hl => match us, hl with | [_, _], _ => rfl
  have D14 := def_mk (ps := ["laid", "face"]) X T.g a14 l14 i14 k14 fun _ _ _ _ _ _ us hl => match us, hl with | [_, _], _ => rfl
  have D15 := def_mk (ps := ["laid", "face"]) X T.g a15 l15 i15 k15 fun _ _ _ _ _ _ us hl => match us, hl with | [_, _], _ => rfl
  have D16 := def_mk (ps := ["stack", "thing"]) X T.g a16 l16 i16 k16 fun _ _ _ _ _ _ us hl => match us, hl with | [_, _], _ => rfl
  have D17 := def_mk (ps := ["stack", "row"]) X T.g a17 l17 i17 k17 fun _ _ _ _ _ _ us hl => match us, hl with | [_, _], _ => rfl
  have D18 := def_mk (ps := ["stack", "thing"]) X T.g a18 l18 i18 k18 fun _ _ _ _ _ _ us hl => match us, hl with | [_, _], _ => rfl
  have D19 := def_mk (ps := ["stack", "order"]) X T.g a19 l19 i19 k19 fun _ _ _ _ _ _ us hl => match us, hl with | [_, _], _ => rfl
  have D20 := def_mk (ps := ["n", "k"]) X T.g a20 l20 i20 k20 fun _ _ _ _ _ _ us hl => match us, hl with | [_, _], _ => rfl
  have D21 := def_mk (ps := ["one", "other"]) X T.g a21 l21 i21 k21 fun _ _ _ _ _ _ us hl => match us, hl with | [_, _], _ => rfl
  have D22 := def_mk (ps := ["one", "other", "order", "another"]) X T.g a22 l22 i22 k22 fun _ _ _ _ _ _ us hl => match us, hl with | [_, _, _, _], _ => rfl
  have D23 := def_mk (ps := ["_law_script", "_law_k"]) X T.g a23 l23 i23 k23 fun _ _ _ _ _ _ us hl => match us, hl with | [_, _], _ => rfl
  have D24 := def_mk (ps := ["_law_cell_here"]) X T.g a24 l24 i24 k24 fun _ _ _ _ _ _ us hl => match us, hl with | [_], _ => rfl
  have D25 := def_mk (ps := ["_law_pen_here", "_law_many"]) X T.g a25 l25 i25 k25 fun _ _ _ _ _ _ us hl => match us, hl with | [_, _], _ => rfl
  have D26 := def_mk (ps := ["_law_thing"]) X T.g a26 l26 i26 k26 fun _ _ _ _ _ _ us hl => match us, hl with | [_], _ => rfl
  have D27 := def_mk (ps := ["_law_found", "_law_due_here"]) X T.g a27 l27 i27 k27 fun _ _ _ _ _ _ us hl => match us, hl with | [_, _], _ => rfl
  have D28 := def_mk (ps := ["_law_e"]) X T.g a28 l28 i28 k28 fun _ _ _ _ _ _ us hl => match us, hl with | [_], _ => rfl
  have D29 := def_mk (ps := ["_law_n", "_law_k"]) X T.g a29 l29 i29 k29 fun _ _ _ _ _ _ us hl => match us, hl with | [_, _], _ => rfl
  have D30 := def_mk (ps := ["_law_pen_here"]) X T.g a30 l30 i30 k30 fun _ _ _ _ _ _ us hl => match us, hl with | [_], _ => rfl
  have D31 := def_mk (ps := ["_law_n", "_law_k", "_law_faces"]) X T.g a31 l31 i31 k31 fun _ _ _ _ _ _ us hl => match us, hl with | [_, _, _], _ => rfl
  have D32 := def_mk (ps := ["_law_one", "_law_other"]) X T.g a32 l32 i32 k32 fun _ _ _ _ _ _ us hl => match us, hl with | [_, _], _ => rfl
  have D33 := def_mk (ps := ["_law_laid_here", "_law_face"]) X T.g a33 l33 i33 k33 fun _ _ _ _ _ _ us hl => match us, hl with | [_, _], _ => rfl
  have D34 := def_mk (ps := ["_law_pen_here", "_law_n", "_law_k", "_law_most"]) X T.g a34 l34 i34 k34 fun _ _ _ _ _ _ us hl => match us, hl with | [_, _, _, _], _ => rfl
  have D35 := def_mk (ps := ["_law_d"]) X T.g a35 l35 i35 k35 fun _ _ _ _ _ _ us hl => match us, hl with | [_], _ => rfl
  have D36 := def_mk (ps := ["_law_pen_here", "_law_most"]) X T.g a36 l36 i36 k36 fun _ _ _ _ _ _ us hl => match us, hl with | [_, _], _ => rfl
  have D37 := def_mk (ps := ["_law_pen_here", "_law_most"]) X T.g a37 l37 i37 k37 fun _ _ _ _ _ _ us hl => match us, hl with | [_, _], _ => rfl
  have D38 := def_mk (ps := ["_law_pen_here", "_law_stack"]) X T.g a38 l38 i38 k38 fun _ _ _ _ _ _ us hl => match us, hl with | [_, _], _ => rfl
  have D39 := def_mk (ps := ["_law_stack", "_law_thing"]) X T.g a39 l39 i39 k39 fun _ _ _ _ _ _ us hl => match us, hl with | [_, _], _ => rfl
  have D40 := def_mk (ps := ["_law_stack", "_law_row"]) X T.g a40 l40 i40 k40 fun _ _ _ _ _ _ us hl => match us, hl with | [_, _], _ => rfl
  have D41 := def_mk (ps := ["_law_stack", "_law_thing"]) X T.g a41 l41 i41 k41 fun _ _ _ _ _ _ us hl => match us, hl with | [_, _], _ => rfl
  have D42 := def_mk (ps := ["_law_pen_here", "_law_row"]) X T.g a42 l42 i42 k42 fun _ _ _ _ _ _ us hl => match us, hl with | [_, _], _ => rfl
  have D43 := def_mk (ps := ["_law_pen_here", "_law_row"]) X T.g a43 l43 i43 k43 fun _ _ _ _ _ _ us hl => match us, hl with | [_, _], _ => rfl
  have D44 := def_mk (ps := ["_law_one", "_law_other", "_law_order", "_law_another"]) X T.g a44 l44 i44 k44 fun _ _ _ _ _ _ us hl => match us, hl with | [_, _, _, _], _ => rfl
  have D45 := def_mk (ps := ["_law_pen_here"]) X T.g a45 l45 i45 k45 fun _ _ _ _ _ _ us hl => match us, hl with | [_], _ => rfl
  have D46 := def_mk (ps := ["_law_one", "_law_other", "_law_order", "_law_another"]) X T.g a46 l46 i46 k46 fun _ _ _ _ _ _ us hl => match us, hl with | [_, _, _, _], _ => rfl
  have D47 := def_mk (ps := ["_law_script"]) X T.g a47 l47 i47 k47 fun _ _ _ _ _ _ us hl => match us, hl with | [_], _ => rfl
  have A3 := tab_at T X r3 D3.g l3 rfl u3 v3
  have A4 := tab_at T X r4 D4.g l4 rfl u4 v4
  have A7 := tab_at T X r7 D7.g l7 rfl u7 v7
  have A8 := tab_at T X r8 D8.g l8 rfl u8 v8
  have A11 := tab_at T X r11 D11.g l11 rfl u11 v11
  have G : Kinds mg (fun j => ([k_NoStack, k_NoNumber, k_NoPart, k_NoLot, k_NoRow, k_NoOrder, k_NoNames, k_NoRim, k_NoTaking, k_NoText, k_NoLine, k_NoDeed, k_TooGreat] : List Addr).getD j 0) := ⟨PySem.W.mg_of X T.g b_NoStack, PySem.W.mg_of X T.g b_NoNumber, PySem.W.mg_of X T.g b_NoPart, PySem.W.mg_of X T.g b_NoLot, PySem.W.mg_of X T.g b_NoRow, PySem.W.mg_of X T.g b_NoOrder, PySem.W.mg_of X T.g b_NoNames, PySem.W.mg_of X T.g b_NoRim, PySem.W.mg_of X T.g b_NoTaking, PySem.W.mg_of X T.g b_NoText, PySem.W.mg_of X T.g b_NoLine, PySem.W.mg_of X T.g b_NoDeed, PySem.W.mg_of X T.g b_TooGreat⟩
  have gL := PySem.W.mg_of X T.g b_Lay
  have R_NoStack : Ref K mg "NoStack" k_NoStack := ⟨⟨_, _, _, _, PySem.F.excBase_ValueError, x_NoStack_ex⟩, PySem.W.mg_of X T.g b_NoStack, x_NoStack_kp, x_NoStack_sb, x_NoStack_ty⟩
  have K_NoStack : Kind K (fun j => ([k_NoStack, k_NoNumber, k_NoPart, k_NoLot, k_NoRow, k_NoOrder, k_NoNames, k_NoRim, k_NoTaking, k_NoText, k_NoLine, k_NoDeed, k_TooGreat] : List Addr).getD j 0) k_Lay 0 k_NoStack := ⟨by decide, ⟨x_NoStack_hg, x_NoStack_hk, x_NoStack_sb, x_NoStack_hd, x_NoStack_ha, x_NoStack_hn, x_NoStack_ht, x_NoStack_hm⟩, fun j hj => match j, hj with | 0, _ => x_NoStack_q0 | 1, _ => x_NoStack_q1 | 2, _ => x_NoStack_q2 | 3, _ => x_NoStack_q3 | 4, _ => x_NoStack_q4 | 5, _ => x_NoStack_q5 | 6, _ => x_NoStack_q6 | 7, _ => x_NoStack_q7 | 8, _ => x_NoStack_q8 | 9, _ => x_NoStack_q9 | 10, _ => x_NoStack_q10 | 11, _ => x_NoStack_q11 | 12, _ => x_NoStack_q12 | j + 13, h => absurd h (by omega), x_NoStack_ve, x_NoStack_lay⟩
  have R_NoOrder : Ref K mg "NoOrder" k_NoOrder := ⟨⟨_, _, _, _, PySem.F.excBase_ValueError, x_NoOrder_ex⟩, PySem.W.mg_of X T.g b_NoOrder, x_NoOrder_kp, x_NoOrder_sb, x_NoOrder_ty⟩
  have K_NoOrder : Kind K (fun j => ([k_NoStack, k_NoNumber, k_NoPart, k_NoLot, k_NoRow, k_NoOrder, k_NoNames, k_NoRim, k_NoTaking, k_NoText, k_NoLine, k_NoDeed, k_TooGreat] : List Addr).getD j 0) k_Lay 5 k_NoOrder := ⟨by decide, ⟨x_NoOrder_hg, x_NoOrder_hk, x_NoOrder_sb, x_NoOrder_hd, x_NoOrder_ha, x_NoOrder_hn, x_NoOrder_ht, x_NoOrder_hm⟩, fun j hj => match j, hj with | 0, _ => x_NoOrder_q0 | 1, _ => x_NoOrder_q1 | 2, _ => x_NoOrder_q2 | 3, _ => x_NoOrder_q3 | 4, _ => x_NoOrder_q4 | 5, _ => x_NoOrder_q5 | 6, _ => x_NoOrder_q6 | 7, _ => x_NoOrder_q7 | 8, _ => x_NoOrder_q8 | 9, _ => x_NoOrder_q9 | 10, _ => x_NoOrder_q10 | 11, _ => x_NoOrder_q11 | 12, _ => x_NoOrder_q12 | j + 13, h => absurd h (by omega), x_NoOrder_ve, x_NoOrder_lay⟩
  have cG : ∃ cd, PySem.W.clsIn K k_TooGreat = some cd ∧ PySem.W.alongIn K "__init__" ((cd.mro.dropWhile (· != .ref k_TooGreat)).drop 1) = some (some (.builtin "ValueError.__init__")) := by
    unfold PySem.W.ks_superIn at xg_al
    cases e : PySem.W.clsIn K k_TooGreat with
    | none =>
      rw [e] at xg_al
      cases xg_al
    | some cd =>
      rw [e] at xg_al
      exact ⟨cd, rfl, xg_al⟩
  have oG : IniC l.prog K mg k_TooGreat fI_ cI_ cc_ _ := ⟨⟨⟨_, _, _, _, _, _, _, _, _, _, _, _, _, _, _, xg_lk, xg_rv⟩, xg_sa, xg_sb, xg_ty, xg_kp⟩, cG, ⟨_, _, _, _, _, _, _, _, rfl, xg_fn⟩, xg_cd, ⟨_, _, _, _, _, _, xg_fl, xg_vs, xg_mf⟩, ⟨_, _, _, xg_ce⟩, xg_mr, xg_sv, xg_op, PySem.W.mg_none_of X T.g xg_su, xg_tp, xg_n1, xg_n2⟩
  have bG : Binds K (PySem.W.fnX "__init__" "TooGreat.__init__" (defArgs sIni) (defBody sIni) (defScope sIni) [("__class__", cc_)] .none gkV gdoc gpm gan (.ref cI_) gct) ["self", "many", "most"] [] := .all fun us hl => match us, hl with | [_, _, _], _ => rfl
  have iG := xg_in
  have tG := xg_ti
  have gG := PySem.W.mg_of X T.g b_TooGreat
  have KG : KindG K (fun j => ([k_NoStack, k_NoNumber, k_NoPart, k_NoLot, k_NoRow, k_NoOrder, k_NoNames, k_NoRim, k_NoTaking, k_NoText, k_NoLine, k_NoDeed, k_TooGreat] : List Addr).getD j 0) k_Lay k_TooGreat := ⟨⟨xg_hg, xg_hk, xg_sb, xg_hd, xg_ha, xg_hn, xg_ht, xg_hm⟩, fun j hj => match j, hj with | 0, _ => xg_q0 | 1, _ => xg_q1 | 2, _ => xg_q2 | 3, _ => xg_q3 | 4, _ => xg_q4 | 5, _ => xg_q5 | 6, _ => xg_q6 | 7, _ => xg_q7 | 8, _ => xg_q8 | 9, _ => xg_q9 | 10, _ => xg_q10 | 11, _ => xg_q11 | 12, _ => xg_q12 | j + 13, h => absurd h (by omega), xg_ve, xg_ly, by obtain ⟨cd, h, _⟩ := cG; rw [h]; rfl, xg_n1, xg_n2⟩
  refine ⟨PySem.W.fnOf "law" "law" (defArgs sLaw) (defBody sLaw) (defScope sLaw) .none kV47 dc47 pm47 an47 (.ref c47) ct47, [(c3, P3), (c4, P4), (c7, P7), (c8, P8), (c11, P11)], spLaw K (mkTbs [P3, P4, P7, P8, P11] [] dst), (List.forall_mem_cons.mpr ⟨A3.2, (List.forall_mem_cons.mpr ⟨A4.2, (List.forall_mem_cons.mpr ⟨A7.2, (List.forall_mem_cons.mpr ⟨A8.2, (List.forall_mem_cons.mpr ⟨A11.2, (fun p hp => nomatch hp)⟩)⟩)⟩)⟩)⟩), (List.forall_mem_cons.mpr ⟨w3, (List.forall_mem_cons.mpr ⟨w4, (List.forall_mem_cons.mpr ⟨w7, (List.forall_mem_cons.mpr ⟨w8, (List.forall_mem_cons.mpr ⟨w11, (fun p hp => nomatch hp)⟩)⟩)⟩)⟩)⟩), (List.forall_mem_cons.mpr ⟨A3.1, (List.forall_mem_cons.mpr ⟨A4.1, (List.forall_mem_cons.mpr ⟨A7.1, (List.forall_mem_cons.mpr ⟨A8.1, (List.forall_mem_cons.mpr ⟨A11.1, (fun p hp => nomatch hp)⟩)⟩)⟩)⟩)⟩), fun s u => .of_eq rfl, fun H a ns hl _ hT hS => ⟨a, ns, rfl, hS, hl, ?_, fun _ => rfl⟩, fun base hK hN TB => ?_⟩
  · have h5 : ∀ Q ∈ [(c3, P3), (c4, P4), (c7, P7), (c8, P8), (c11, P11)].map (·.2), H Q = some (.tbl #[]) := fun Q hQ => by
      obtain ⟨p, hp, e⟩ := List.mem_map.mp hQ
      rw [← e]
      exact hT p hp
    refine mkTbs_tb (fun Q hQ => h5 Q ?_) (fun p hp => h5 p.1 ?_)
    · simp only [List.map_cons, List.map_nil, List.mem_cons, List.not_mem_nil, or_false] at hQ ⊢
      rcases hQ with z | z | z | z | z <;> simp [z]
    · simp only [List.map_cons, List.map_nil, List.mem_cons, List.not_mem_nil, or_false] at hp ⊢
  · exact all_ok D1 D2 D3 D4 D5 D6 D7 D8 D9 D10 D11 D12 D13 D14 D15 D16 D17 D18 D19 D20 D21 D22 D23 D24 D25 D26 D27 D28 D29 D30 D31 D32 D33 D34 D35 D36 D37 D38 D39 D40 D41 D42 D43 D44 D45 D46 D47 (tabB_of (TB (c3, P3) (by simp))) (show P3 ∈ [P3, P4, P7, P8, P11] by simp) (tabB_of (TB (c4, P4) (by simp))) (show P4 ∈ [P3, P4, P7, P8, P11] by simp) (tabB_of (TB (c7, P7) (by simp))) (show P7 ∈ [P3, P4, P7, P8, P11] by simp) (tabB_of (TB (c8, P8) (by simp))) (show P8 ∈ [P3, P4, P7, P8, P11] by simp) (tabB_of (TB (c11, P11) (by simp))) (show P11 ∈ [P3, P4, P7, P8, P11] by simp) (PySem.W.mg_none_of X T.g z_isinstance) (PySem.W.mg_none_of X T.g z_int) (PySem.W.mg_none_of X T.g z_bool) (PySem.W.mg_none_of X T.g z_tuple) (PySem.W.mg_none_of X T.g z_all) (PySem.W.mg_none_of X T.g z_any) (PySem.W.mg_none_of X T.g z_range) (PySem.W.mg_none_of X T.g z_len) (PySem.W.mg_none_of X T.g z_sorted) (PySem.W.mg_none_of X T.g z_min) (PySem.W.mg_none_of X T.g z_max) (PySem.W.mg_none_of X T.g z_list) (PySem.W.mg_none_of X T.g z_str) (PySem.W.mg_none_of X T.g z_zip) (PySem.W.mg_none_of X T.g z_enumerate) (PySem.W.mg_none_of X T.g z_repr) (PySem.W.mg_none_of X T.g z_ValueError) (PySem.W.mg_of X T.g y_MOST_POINTS) (PySem.W.mg_of X T.g y_MOST_IN_FACE) (PySem.W.mg_of X T.g y_MOST_FACES) G gL R_NoStack K_NoStack R_NoOrder K_NoOrder oG iG tG bG gG KG
end Lf

open PySem PySem.W PyProof.Rows
set_option maxHeartbeats 0 in
theorem PySem.Challenge.cw_layfaces_k82_orders_joined_holds : PySem.Challenge.rw_layfaces_k82_orders_joined.Holds := by
  w_on; o_law; k_head; (case hw => w_witness2)
  k_fill
  refine Lf.walk_tabsG (l := PySem.Challenge.rw_layfaces_k82_orders_joined) (n := 63) (k := 14) (x := "_law_script") (CX := fun _ => L2.CX0) rfl (by decide) rfl ⟨rfl, by decide, by decide⟩ (fun w h Y => PySem.W.kIn_of Y) ?F (fun _ _ _ _ _ h => h)
  case F =>
    intro w mg mb mean fa h T KX hmg
    refine' Lf.all_mk T KX hmg ?a1 ?l1 ?i1 ?k1 ?a2 ?l2 ?i2 ?k2 ?a3 ?l3 ?i3 ?k3 ?a4 ?l4 ?i4 ?k4 ?a5 ?l5 ?i5 ?k5 ?a6 ?l6 ?i6 ?k6 ?a7 ?l7 ?i7 ?k7 ?a8 ?l8 ?i8 ?k8 ?a9 ?l9 ?i9 ?k9 ?a10 ?l10 ?i10 ?k10 ?a11 ?l11 ?i11 ?k11 ?a12 ?l12 ?i12 ?k12 ?a13 ?l13 ?i13 ?k13 ?a14 ?l14 ?i14 ?k14 ?a15 ?l15 ?i15 ?k15 ?a16 ?l16 ?i16 ?k16 ?a17 ?l17 ?i17 ?k17 ?a18 ?l18 ?i18 ?k18 ?a19 ?l19 ?i19 ?k19 ?a20 ?l20 ?i20 ?k20 ?a21 ?l21 ?i21 ?k21 ?a22 ?l22 ?i22 ?k22 ?a23 ?l23 ?i23 ?k23 ?a24 ?l24 ?i24 ?k24 ?a25 ?l25 ?i25 ?k25 ?a26 ?l26 ?i26 ?k26 ?a27 ?l27 ?i27 ?k27 ?a28 ?l28 ?i28 ?k28 ?a29 ?l29 ?i29 ?k29 ?a30 ?l30 ?i30 ?k30 ?a31 ?l31 ?i31 ?k31 ?a32 ?l32 ?i32 ?k32 ?a33 ?l33 ?i33 ?k33 ?a34 ?l34 ?i34 ?k34 ?a35 ?l35 ?i35 ?k35 ?a36 ?l36 ?i36 ?k36 ?a37 ?l37 ?i37 ?k37 ?a38 ?l38 ?i38 ?k38 ?a39 ?l39 ?i39 ?k39 ?a40 ?l40 ?i40 ?k40 ?a41 ?l41 ?i41 ?k41 ?a42 ?l42 ?i42 ?k42 ?a43 ?l43 ?i43 ?k43 ?a44 ?l44 ?i44 ?k44 ?a45 ?l45 ?i45 ?k45 ?a46 ?l46 ?i46 ?k46 ?a47 ?l47 ?i47 ?k47 ?u3 ?v3 ?w3 ?r3 ?u4 ?v4 ?w4 ?r4 ?u7 ?v7 ?w7 ?r7 ?u8 ?v8 ?w8 ?r8 ?u11 ?v11 ?w11 ?r11 ?z_isinstance ?z_int ?z_bool ?z_tuple ?z_all ?z_any ?z_range ?z_len ?z_sorted ?z_min ?z_max ?z_list ?z_str ?z_zip ?z_enumerate ?z_repr ?z_ValueError ?y_MOST_POINTS ?y_MOST_IN_FACE ?y_MOST_FACES ?b_NoStack ?b_NoNumber ?b_NoPart ?b_NoLot ?b_NoRow ?b_NoOrder ?b_NoNames ?b_NoRim ?b_NoTaking ?b_NoText ?b_NoLine ?b_NoDeed ?b_TooGreat ?b_Lay ?x_NoStack_ex ?x_NoStack_kp ?x_NoStack_sb ?x_NoStack_ty ?x_NoStack_hg ?x_NoStack_hk ?x_NoStack_hd ?x_NoStack_ha ?x_NoStack_hn ?x_NoStack_ht ?x_NoStack_hm ?x_NoStack_ve ?x_NoStack_lay ?x_NoStack_q0 ?x_NoStack_q1 ?x_NoStack_q2 ?x_NoStack_q3 ?x_NoStack_q4 ?x_NoStack_q5 ?x_NoStack_q6 ?x_NoStack_q7 ?x_NoStack_q8 ?x_NoStack_q9 ?x_NoStack_q10 ?x_NoStack_q11 ?x_NoStack_q12 ?x_NoOrder_ex ?x_NoOrder_kp ?x_NoOrder_sb ?x_NoOrder_ty ?x_NoOrder_hg ?x_NoOrder_hk ?x_NoOrder_hd ?x_NoOrder_ha ?x_NoOrder_hn ?x_NoOrder_ht ?x_NoOrder_hm ?x_NoOrder_ve ?x_NoOrder_lay ?x_NoOrder_q0 ?x_NoOrder_q1 ?x_NoOrder_q2 ?x_NoOrder_q3 ?x_NoOrder_q4 ?x_NoOrder_q5 ?x_NoOrder_q6 ?x_NoOrder_q7 ?x_NoOrder_q8 ?x_NoOrder_q9 ?x_NoOrder_q10 ?x_NoOrder_q11 ?x_NoOrder_q12 ?xg_lk ?xg_rv ?xg_sa ?xg_in ?xg_ti ?xg_fn ?xg_cd ?xg_fl ?xg_vs ?xg_mf ?xg_ce ?xg_mr ?xg_sv ?xg_op ?xg_su ?xg_tp ?xg_n1 ?xg_n2 ?xg_al ?xg_kp ?xg_sb ?xg_ty ?xg_hg ?xg_hk ?xg_hd ?xg_ha ?xg_hn ?xg_ht ?xg_hm ?xg_ve ?xg_ly ?xg_q0 ?xg_q1 ?xg_q2 ?xg_q3 ?xg_q4 ?xg_q5 ?xg_q6 ?xg_q7 ?xg_q8 ?xg_q9 ?xg_q10 ?xg_q11 ?xg_q12 ?dst
    (case a1 => k_is)
    (case l1 => k_is)
    (case i1 => k_is)
    (case k1 => k_is)
    (case a2 => k_is)
    (case l2 => k_is)
    (case i2 => k_is)
    (case k2 => k_is)
    (case a3 => k_is)
    (case l3 => k_is)
    (case i3 => k_is)
    (case k3 => k_is)
    (case a4 => k_is)
    (case l4 => k_is)
    (case i4 => k_is)
    (case k4 => k_is)
    (case a5 => k_is)
    (case l5 => k_is)
    (case i5 => k_is)
    (case k5 => k_is)
    (case a6 => k_is)
    (case l6 => k_is)
    (case i6 => k_is)
    (case k6 => k_is)
    (case a7 => k_is)
    (case l7 => k_is)
    (case i7 => k_is)
    (case k7 => k_is)
    (case a8 => k_is)
    (case l8 => k_is)
    (case i8 => k_is)
    (case k8 => k_is)
    (case a9 => k_is)
    (case l9 => k_is)
    (case i9 => k_is)
    (case k9 => k_is)
    (case a10 => k_is)
    (case l10 => k_is)
    (case i10 => k_is)
    (case k10 => k_is)
    (case a11 => k_is)
    (case l11 => k_is)
    (case i11 => k_is)
    (case k11 => k_is)
    (case a12 => k_is)
    (case l12 => k_is)
    (case i12 => k_is)
    (case k12 => k_is)
    (case a13 => k_is)
    (case l13 => k_is)
    (case i13 => k_is)
    (case k13 => k_is)
    (case a14 => k_is)
    (case l14 => k_is)
    (case i14 => k_is)
    (case k14 => k_is)
    (case a15 => k_is)
    (case l15 => k_is)
    (case i15 => k_is)
    (case k15 => k_is)
    (case a16 => k_is)
    (case l16 => k_is)
    (case i16 => k_is)
    (case k16 => k_is)
    (case a17 => k_is)
    (case l17 => k_is)
    (case i17 => k_is)
    (case k17 => k_is)
    (case a18 => k_is)
    (case l18 => k_is)
    (case i18 => k_is)
    (case k18 => k_is)
    (case a19 => k_is)
    (case l19 => k_is)
    (case i19 => k_is)
    (case k19 => k_is)
    (case a20 => k_is)
    (case l20 => k_is)
    (case i20 => k_is)
    (case k20 => k_is)
    (case a21 => k_is)
    (case l21 => k_is)
    (case i21 => k_is)
    (case k21 => k_is)
    (case a22 => k_is)
    (case l22 => k_is)
    (case i22 => k_is)
    (case k22 => k_is)
    (case a23 => k_is)
    (case l23 => k_is)
    (case i23 => k_is)
    (case k23 => k_is)
    (case a24 => k_is)
    (case l24 => k_is)
    (case i24 => k_is)
    (case k24 => k_is)
    (case a25 => k_is)
    (case l25 => k_is)
    (case i25 => k_is)
    (case k25 => k_is)
    (case a26 => k_is)
    (case l26 => k_is)
    (case i26 => k_is)
    (case k26 => k_is)
    (case a27 => k_is)
    (case l27 => k_is)
    (case i27 => k_is)
    (case k27 => k_is)
    (case a28 => k_is)
    (case l28 => k_is)
    (case i28 => k_is)
    (case k28 => k_is)
    (case a29 => k_is)
    (case l29 => k_is)
    (case i29 => k_is)
    (case k29 => k_is)
    (case a30 => k_is)
    (case l30 => k_is)
    (case i30 => k_is)
    (case k30 => k_is)
    (case a31 => k_is)
    (case l31 => k_is)
    (case i31 => k_is)
    (case k31 => k_is)
    (case a32 => k_is)
    (case l32 => k_is)
    (case i32 => k_is)
    (case k32 => k_is)
    (case a33 => k_is)
    (case l33 => k_is)
    (case i33 => k_is)
    (case k33 => k_is)
    (case a34 => k_is)
    (case l34 => k_is)
    (case i34 => k_is)
    (case k34 => k_is)
    (case a35 => k_is)
    (case l35 => k_is)
    (case i35 => k_is)
    (case k35 => k_is)
    (case a36 => k_is)
    (case l36 => k_is)
    (case i36 => k_is)
    (case k36 => k_is)
    (case a37 => k_is)
    (case l37 => k_is)
    (case i37 => k_is)
    (case k37 => k_is)
    (case a38 => k_is)
    (case l38 => k_is)
    (case i38 => k_is)
    (case k38 => k_is)
    (case a39 => k_is)
    (case l39 => k_is)
    (case i39 => k_is)
    (case k39 => k_is)
    (case a40 => k_is)
    (case l40 => k_is)
    (case i40 => k_is)
    (case k40 => k_is)
    (case a41 => k_is)
    (case l41 => k_is)
    (case i41 => k_is)
    (case k41 => k_is)
    (case a42 => k_is)
    (case l42 => k_is)
    (case i42 => k_is)
    (case k42 => k_is)
    (case a43 => k_is)
    (case l43 => k_is)
    (case i43 => k_is)
    (case k43 => k_is)
    (case a44 => k_is)
    (case l44 => k_is)
    (case i44 => k_is)
    (case k44 => k_is)
    (case a45 => k_is)
    (case l45 => k_is)
    (case i45 => k_is)
    (case k45 => k_is)
    (case a46 => k_is)
    (case l46 => k_is)
    (case i46 => k_is)
    (case k46 => k_is)
    (case a47 => k_is)
    (case l47 => k_is)
    (case i47 => k_is)
    (case k47 => k_is)
    (case u3 => k_is)
    (case u4 => k_is)
    (case u7 => k_is)
    (case u8 => k_is)
    (case u11 => k_is)
    (case z_isinstance => k_is)
    (case z_int => k_is)
    (case z_bool => k_is)
    (case z_tuple => k_is)
    (case z_all => k_is)
    (case z_any => k_is)
    (case z_range => k_is)
    (case z_len => k_is)
    (case z_sorted => k_is)
    (case z_min => k_is)
    (case z_max => k_is)
    (case z_list => k_is)
    (case z_str => k_is)
    (case z_zip => k_is)
    (case z_enumerate => k_is)
    (case z_repr => k_is)
    (case z_ValueError => k_is)
    (case y_MOST_POINTS => k_is)
    (case y_MOST_IN_FACE => k_is)
    (case y_MOST_FACES => k_is)
    (case b_NoStack => k_is)
    (case b_NoNumber => k_is)
    (case b_NoPart => k_is)
    (case b_NoLot => k_is)
    (case b_NoRow => k_is)
    (case b_NoOrder => k_is)
    (case b_NoNames => k_is)
    (case b_NoRim => k_is)
    (case b_NoTaking => k_is)
    (case b_NoText => k_is)
    (case b_NoLine => k_is)
    (case b_NoDeed => k_is)
    (case b_TooGreat => k_is)
    (case b_Lay => k_is)
    (case v3 => rfl)
    (case w3 => kernel_rfl)
    (case r3 => kernel_rfl)
    (case v4 => rfl)
    (case w4 => kernel_rfl)
    (case r4 => kernel_rfl)
    (case v7 => rfl)
    (case w7 => kernel_rfl)
    (case r7 => kernel_rfl)
    (case v8 => rfl)
    (case w8 => kernel_rfl)
    (case r8 => kernel_rfl)
    (case v11 => rfl)
    (case w11 => kernel_rfl)
    (case r11 => kernel_rfl)
    (case x_NoStack_ex => first | k_is | kernel_rfl)
    (case x_NoStack_kp => first | k_is | kernel_rfl)
    (case x_NoStack_sb => first | k_is | kernel_rfl)
    (case x_NoStack_ty => first | k_is | kernel_rfl)
    (case x_NoStack_hg => first | k_is | kernel_rfl)
    (case x_NoStack_hk => first | k_is | kernel_rfl)
    (case x_NoStack_hd => first | k_is | kernel_rfl)
    (case x_NoStack_ha => first | k_is | kernel_rfl)
    (case x_NoStack_hn => first | k_is | kernel_rfl)
    (case x_NoStack_ht => first | k_is | kernel_rfl)
    (case x_NoStack_hm => first | k_is | kernel_rfl)
    (case x_NoStack_ve => first | k_is | kernel_rfl)
    (case x_NoStack_lay => first | k_is | kernel_rfl)
    (case x_NoStack_q0 => first | k_is | kernel_rfl)
    (case x_NoStack_q1 => first | k_is | kernel_rfl)
    (case x_NoStack_q2 => first | k_is | kernel_rfl)
    (case x_NoStack_q3 => first | k_is | kernel_rfl)
    (case x_NoStack_q4 => first | k_is | kernel_rfl)
    (case x_NoStack_q5 => first | k_is | kernel_rfl)
    (case x_NoStack_q6 => first | k_is | kernel_rfl)
    (case x_NoStack_q7 => first | k_is | kernel_rfl)
    (case x_NoStack_q8 => first | k_is | kernel_rfl)
    (case x_NoStack_q9 => first | k_is | kernel_rfl)
    (case x_NoStack_q10 => first | k_is | kernel_rfl)
    (case x_NoStack_q11 => first | k_is | kernel_rfl)
    (case x_NoStack_q12 => first | k_is | kernel_rfl)
    (case x_NoOrder_ex => first | k_is | kernel_rfl)
    (case x_NoOrder_kp => first | k_is | kernel_rfl)
    (case x_NoOrder_sb => first | k_is | kernel_rfl)
    (case x_NoOrder_ty => first | k_is | kernel_rfl)
    (case x_NoOrder_hg => first | k_is | kernel_rfl)
    (case x_NoOrder_hk => first | k_is | kernel_rfl)
    (case x_NoOrder_hd => first | k_is | kernel_rfl)
    (case x_NoOrder_ha => first | k_is | kernel_rfl)
    (case x_NoOrder_hn => first | k_is | kernel_rfl)
    (case x_NoOrder_ht => first | k_is | kernel_rfl)
    (case x_NoOrder_hm => first | k_is | kernel_rfl)
    (case x_NoOrder_ve => first | k_is | kernel_rfl)
    (case x_NoOrder_lay => first | k_is | kernel_rfl)
    (case x_NoOrder_q0 => first | k_is | kernel_rfl)
    (case x_NoOrder_q1 => first | k_is | kernel_rfl)
    (case x_NoOrder_q2 => first | k_is | kernel_rfl)
    (case x_NoOrder_q3 => first | k_is | kernel_rfl)
    (case x_NoOrder_q4 => first | k_is | kernel_rfl)
    (case x_NoOrder_q5 => first | k_is | kernel_rfl)
    (case x_NoOrder_q6 => first | k_is | kernel_rfl)
    (case x_NoOrder_q7 => first | k_is | kernel_rfl)
    (case x_NoOrder_q8 => first | k_is | kernel_rfl)
    (case x_NoOrder_q9 => first | k_is | kernel_rfl)
    (case x_NoOrder_q10 => first | k_is | kernel_rfl)
    (case x_NoOrder_q11 => first | k_is | kernel_rfl)
    (case x_NoOrder_q12 => first | k_is | kernel_rfl)
    (case xg_lk => k_is)
    (case xg_rv => first | decide +kernel | kernel_rfl)
    (case xg_sa => k_is)
    (case xg_in => k_is)
    (case xg_ti => k_is)
    (case xg_fn => k_is)
    (case xg_cd => k_is)
    (case xg_fl => k_is)
    (case xg_vs => rfl)
    (case xg_mf => first | kernel_rfl | rfl)
    (case xg_ce => k_is)
    (case xg_mr => first | k_is | kernel_rfl)
    (case xg_sv => first | k_is | kernel_rfl)
    (case xg_op => first | k_is | kernel_rfl)
    (case xg_su => k_is)
    (case xg_tp => first | kernel_rfl | rfl)
    (case xg_n1 => k_is)
    (case xg_n2 => k_is)
    (case xg_al => first | kernel_rfl | k_is | rfl)
    (case xg_kp => first | k_is | kernel_rfl)
    (case xg_sb => first | k_is | kernel_rfl)
    (case xg_ty => first | k_is | kernel_rfl)
    (case xg_hg => k_is)
    (case xg_hk => k_is)
    (case xg_hd => first | k_is | kernel_rfl)
    (case xg_ha => k_is)
    (case xg_hn => first | k_is | kernel_rfl)
    (case xg_ht => first | k_is | kernel_rfl)
    (case xg_hm => first | k_is | kernel_rfl)
    (case xg_ve => first | k_is | kernel_rfl)
    (case xg_ly => first | k_is | kernel_rfl)
    (case xg_q0 => first | k_is | kernel_rfl)
    (case xg_q1 => first | k_is | kernel_rfl)
    (case xg_q2 => first | k_is | kernel_rfl)
    (case xg_q3 => first | k_is | kernel_rfl)
    (case xg_q4 => first | k_is | kernel_rfl)
    (case xg_q5 => first | k_is | kernel_rfl)
    (case xg_q6 => first | k_is | kernel_rfl)
    (case xg_q7 => first | k_is | kernel_rfl)
    (case xg_q8 => first | k_is | kernel_rfl)
    (case xg_q9 => first | k_is | kernel_rfl)
    (case xg_q10 => first | k_is | kernel_rfl)
    (case xg_q11 => first | k_is | kernel_rfl)
    (case xg_q12 => first | k_is | kernel_rfl)
    (case dst => decide)
