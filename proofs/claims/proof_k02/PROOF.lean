import PyProof.Rows.All
import Wide.All
import OpenK.AllK
import Wide.FinOn
import HandS.ForMost
import HandS.AnyAll
import HandS.Nested
import HandS.GenList
import KE.KEqSeq
import HandS.IsInst
import HandS.Flow
import HandS.ForExc
import HandS.Lambda
import HandS.ExcIs
import KE.KDictKeyed
import KE.KDictCopyH
import KE.GoesNew
import KE.GoesMore
import KE.GoesZip
import KE.GoesEnum
import HandS.Sort
import HandS.TupSets
import HandS.Walk
import HandS.TupAny
import HandS.RaiseMore
import HandS.TupMul
import HandS.EndOwn
import HandS.EndBits
import HandS.EndTab
import PySem.Challenge.RW_restsure_k02_readings_of_gates
set_option Elab.async false
set_option linter.all false
set_option maxRecDepth 100000
/-! all(e for x in xs), any(e for x in xs): the generator expression's own frame, its element any expression that HandS has rules for (calls too). -/
namespace GX
open PySem PySem.Spec L2
open PyProof.Rows GenW GxR NdefX

/-- only the generators differ -/
def Regen (s t : Shared) : Prop := ∃ G : Array GenState, AllBare G ∧ t = { s with gens := G }

/-- the frame of a generator expression that is walked from the around A, begun at s -/
abbrev gcx (X : Cx) (A : Around) (s : Shared) (H : Hp) (cenv : Env) (fp : List Addr) (pn : List (Addr × Obj)) : Cx :=
  { X with
    A := A.deeper cenv
    s_0 := s
    H_0 := H
    env := cenv
    outer := X.stack
    stack := cenv :: X.stack
    ex := fp
    fn := fun _ => false
    pn := pn
    xe := fun _ _ => False }

theorem over_gen {A : Around} {elt : Expr} {gs : List Comprehension} {sc : Scope} {pos : Pos} {it acc : Value} {env : Env} :
    A.over (.compLoop (.GeneratorExp elt gs sc pos) 0 it acc env) [] = A.deeper env := by
  first
    | rfl
    | (cases A; simp [Around.over, Around.deeper, marksOver, frameCount, unitsOf, envsOf, guardsOf, pushEnvs, pushGuards, Code.envs, Code.env?, Code.isFrame, Code.guards, Code.isGuard, Code.weight, Code.frames, Code.isCreation, Code.isCaller, Code.cUnits])
theorem over_start {A : Around} {elt : Expr} {gs : List Comprehension} {sc : Scope} {pos : Pos} {it acc : Value} {env : Env} :
    A.over (.compStart (.GeneratorExp elt gs sc pos) 0 it acc env) [] = A.deeper env := by
  first
    | rfl
    | (cases A; simp [Around.over, Around.deeper, marksOver, frameCount, unitsOf, envsOf, guardsOf, pushEnvs, pushGuards, Code.envs, Code.env?, Code.isFrame, Code.guards, Code.isGuard, Code.weight, Code.frames, Code.isCreation, Code.isCaller, Code.cUnits])

section
variable {X : Cx} {pins : List (Addr × Obj)} {σ : L2.St} {H : Hp} {s t : Shared}
theorem Regen.inv (r : Regen s t) (I : Inv X pins σ H s) : Inv X pins σ H t := by
  obtain ⟨G, hG, rfl⟩ := r
  exact ⟨I.ok, I.os, hG, I.base, I.loc, I.cell, I.free, I.freeC, I.pin, I.hok, I.len⟩

/-- what a generator expression's own frame is like when it is woken first -/
theorem gen_start {scope : Scope} {own : List (Str × Nat)} {fp : List Addr} {A : Around} {cenv : Env} {m : Str → Option Value} {a : Addr} {go : Obj}
    (I : Inv X pins σ H s) (ok : BlkOk X.N X.env.scope scope own) (hN : X.N.Nodup)
    (hcell : ∀ y ∈ scope.names, y.2 ≠ .cell) (hA : A.handled = none) (hfr : A.frames = some X.stack)
    (hfp : ∀ b ∈ fp, FpOk X pins H b ∧ b < s.heap.objs.size)
    (e1 : cenv.scope = scope) (e2 : cenv.locals = s.heap.objs.size) (e3 : cenv.globals = mainGlobals) (e4 : cenv.builtins = builtinsNs)
    (e5 : cenv.cells = cloFrom X.env.cells scope.names []) (e6 : cenv.frame = some s.heap.objs.size)
    (os' : t.os = s.os) (hb : AllBare t.gens) (kp : ∀ b o, s.heap.get? b = some o → t.heap.get? b = some o)
    (ns : t.heap.Ns s.heap.objs.size m) (ha : t.heap.get? a = some go) (hlt : s.heap.objs.size < a) (hd : ∀ v, go.data ≠ .cell v) :
    Inv (gcx X A s H cenv fp [(a, go)]) [] (wipe σ (own.map (·.2))) H t := by
  have hfree : ∀ y ∈ scope.names, y.2 = .free → ∃ c, X.env.cells.lookup y.1 = some c := fun y hy e => by
    rcases ok.free y hy e with k | k
    · exact I.ok.has _ (.inl k)
    · exact I.ok.has _ (.inr k)
  have back : ∀ {y : Str} {c : Addr}, cenv.cells.lookup y = some c → X.env.cells.lookup y = some c := fun {y c} e => by
    rw [e5] at e
    exact clo_cm hfree e
  have old : ∀ {y : Str} {c : Addr}, cenv.cells.lookup y = some c → c < s.heap.objs.size := fun {y c} e => by
    obtain ⟨v, z⟩ := I.cell y c (back e)
    exact z.lt
  have has : ∀ {y : Str}, scope.names.lookup y = some .free → ∃ c, cenv.cells.lookup y = some c ∧ X.env.cells.lookup y = some c := fun {y} hl => by
    have hy : (y, NameKind.free) ∈ scope.names := PySem.mem_of_lookup hl
    obtain ⟨c, hc⟩ := hfree _ hy rfl
    refine ⟨c, ?_, hc⟩
    rw [e5]
    exact clo_has hfree hy hc
  have kindIs : ∀ y : Str, cenv.kindOf y = scope.names.lookup y := fun y => by
    unfold Env.kindOf
    rw [e1]
  have aNew : H a = none := I.hok.fresh (Nat.le_of_lt hlt)
  have aFs : a ∉ frs X.stack := fun hm => by
    rcases List.mem_cons.mp (I.stkSub a hm) with z | z
    · have h1 := I.lt
      rw [← z] at h1
      exact absurd (Nat.lt_trans hlt h1) (Nat.lt_irrefl _)
    · exact I.nofs (Nat.le_of_lt hlt) z
  have okZ : (gcx X A s H cenv fp [(a, go)]).Ok := by
    refine ⟨I.ok.mod, ?_, e3, e4, Nat.le_of_eq e2.symm, fun y z c q1 q2 => I.ok.inj y z c (back q1) (back q2), fun y hy => ?_, fun y c q _ => (nomatch q), fun _ => hA,
      Around.frames_deeper hfr, .inr ⟨rfl, ?_⟩, fun b hb => ⟨?_, fun y c e z => ?_⟩, I.bs, Nat.le_trans I.ok.bsz I.sz, fun b o e hb => ?_, fun b hb z => ?_, I.stack, I.stkFree⟩
    · show cenv.scope.kind = _
      rw [e1]
      exact ok.kind
    · have hy : cenv.kindOf y = some .cell ∨ cenv.kindOf y = some .free := hy
      rw [kindIs y] at hy
      rcases hy with hy | hy
      · exact absurd rfl (hcell _ (PySem.mem_of_lookup hy))
      · obtain ⟨c, q, _⟩ := has hy
        exact ⟨c, q⟩
    · show cenv.frame = some cenv.locals
      rw [e6, e2]
    · show b ≠ cenv.locals
      rw [e2]
      exact Nat.ne_of_lt (hfp b hb).2
    · exact (hfp b hb).1.2.2.2.2.1 y c (back e) z
    · rcases (hfp b hb).1.2.2.2.1 with z | z
      · exact I.ok.noex b o e z
      · exact absurd (Nat.lt_of_lt_of_le (Heap.lt_size e) (Nat.le_trans I.ok.bsz z)) (Nat.lt_irrefl _)
    · rcases List.mem_cons.mp (I.stkSub b z) with z | z
      · exact (hfp b hb).1.2.1 z
      · exact (hfp b hb).1.2.2.1 z
  refine ⟨okZ, os', hb, Un.kept kp, ⟨m, ?_, fun i y av q1 q2 q3 => ?_⟩, fun y c e => ?_, ?_, fun y c e => I.freeC y c (back e), fun p hp => ?_, I.hok.kept kp, by rw [wipe_length]; exact I.len⟩
  · show t.heap.Ns cenv.locals m
    rw [e2]
    exact ns
  · obtain ⟨q2, hne⟩ := wipe_some q2
    have q3 : Vis cenv.scope y := q3
    rw [e1] at q3
    have hfr : scope.names.lookup y = some .free := by
      rcases q3 with q3 | q3 | q3
      · rcases ok.own _ (PySem.mem_of_lookup q3) (.inl rfl) with e' | e'
        · obtain ⟨p, hp, hpy⟩ := List.mem_map.mp e'
          have e8 := ok.ix p hp
          have e9 : p.1 = y := hpy
          rw [e9] at e8
          exact absurd (List.mem_map.mpr ⟨p, hp, nodup_ix hN e8 q1⟩) hne
        · exact absurd (List.mem_of_getElem? q1) e'
      · exact absurd rfl (hcell _ (PySem.mem_of_lookup q3))
      · exact q3
    obtain ⟨m0, hn, hl⟩ := I.loc
    have hvis : Vis X.env.scope y := (ok.free _ (PySem.mem_of_lookup hfr) rfl).elim (fun k => .inr (.inl k)) (fun k => .inr (.inr k))
    obtain ⟨w, r, q⟩ := hl i y av q1 q2 hvis
    obtain ⟨c, c1, c2⟩ := has hfr
    refine ⟨w, r, .inr ⟨.inr (by show cenv.kindOf y = _; rw [kindIs y]; exact hfr), c, c1, ?_⟩⟩
    rcases q with ⟨k, _⟩ | ⟨_, c', e', z⟩
    · have k : X.env.scope.names.lookup y = some .local := k
      rcases ok.free _ (PySem.mem_of_lookup hfr) rfl with k' | k'
      · rw [show X.env.scope.names.lookup y = _ from k'] at k
        cases k
      · rw [show X.env.scope.names.lookup y = _ from k'] at k
        cases k
    · rw [c2] at e'
      cases e'
      exact z.keeps kp
  · obtain ⟨w, z⟩ := I.cell y c (back e)
    exact ⟨w, z.keeps kp⟩
  · show H cenv.locals = none
    rw [e2]
    exact I.hok.fresh (Nat.le_refl _)
  · rcases List.mem_append.mp hp with hp | hp
    · rw [List.mem_singleton.mp hp]
      refine ⟨ha, aNew, ?_, aFs, hd⟩
      show a ≠ cenv.locals
      rw [e2]
      exact Nat.ne_of_gt hlt
    · cases hp
end

/-! ### the frame's segments -/
/-- handed out: a truth value; the consumer stops at stop -/
def gYld (Z : Cx) (τ : L2.St) (stop : Bool) (Q : VK) : Protocol := fun _ _ v s kap =>
  ∃ (c : Bool) (H : Hp), v = .bool c ∧ Inv Z [] τ H s ∧ (c = stop → Q (.bl stop) H) ∧ (c ≠ stop → ∀ t, Regen s t → kap (.send .none) t)
def gFin (Z : Cx) (τ : L2.St) (stop : Bool) (Q : VK) : Nat → Shared → Shared → Prop := fun _ _ s => ∃ H, Inv Z [] τ H s ∧ Q (.bl (!stop)) H
abbrev gEnd (Z : Cx) (τ : L2.St) (stop : Bool) (Q : VK) : GenEnd := fun n s₀ r s₁ => r = .ok .next ∧ gFin Z τ stop Q n s₀ s₁

/-- the loop as it is asked of a prover -/
def TurnsOf (J : It) (g : TG) (tt : TT) (te : TE) (vs : List Nat) (τ : L2.St) (stop : Bool) (Q : VK) (W : Nat → Nat → Hp → Prop) : Prop :=
  ∀ i m H, W i m H → (J.stop i H ∧ Q (.bl (!stop)) H) ∨ (J.go i H ∧ ∃ Nx : Hp → Prop, (∀ H', Nx H' → ∃ m', m' < m ∧ W (i + 1) m' H') ∧
    ∀ x H', J.yld i H x H' → g x τ H' fun σ2 H2 => wipe σ2 vs = τ ∧ tt σ2 H2 fun b H3 =>
      if b = true then te σ2 H3 fun y H4 => ∃ c : Bool, y = .bl c ∧ (c = stop → Q (.bl stop) H4) ∧ (c ≠ stop → Nx H4) else Nx H3)

section
variable {X : Cx} {A : Around} {s₁ : Shared} {H₁ : Hp} {cenv : Env} {fp : List Addr} {pn : List (Addr × Obj)} {tg elt iter : Expr} {ifs : List Expr} {scope : Scope} {pos : Pos} {it : Addr} {tn : Nat → Heap → Prop} {J : It} {g : TG} {tt : TT} {te : TE} {vs : List Nat} {τ : L2.St} {stop : Bool} {Q : VK} {W : Nat → Nat → Hp → Prop}
theorem seg_gx (hcalm : X.calm = true) (pg : PG (gcx X A s₁ H₁ cenv fp pn) tg g) (pt : PTs (gcx X A s₁ H₁ cenv fp pn) ifs tt) (pe : PE (gcx X A s₁ H₁ cenv fp pn) elt te)
    (T : Turn X.prog X.w X.K tg J fp it tn) (hco : cenv.scope.isCoroutine = false) (turn : TurnsOf J g tt te vs τ stop Q W) (hnp : ∀ p ∈ pn, p.1 ∉ fp) :
    ∀ (m n : Nat), m < n → ∀ (i : Nat) (s₀ s : Shared) (H : Hp), W i m H → Inv (gcx X A s₁ H₁ cenv fp pn) [] τ H s → tn i s.heap → (∀ b ∈ fp, H b = none) →
      Seg (model X.prog X.w) A (gEnd (gcx X A s₁ H₁ cenv fp pn) τ stop Q) (gYld (gcx X A s₁ H₁ cenv fp pn) τ stop Q) n s₀
        (.compLoop (.GeneratorExp elt [⟨tg, iter, ifs, 0⟩] scope pos) 0 (.ref it) .none cenv)
        ((model X.prog X.w).den (.compLoop (.GeneratorExp elt [⟨tg, iter, ifs, 0⟩] scope pos) 0 (.ref it) .none cenv)) [] s := by
  have stat : ∀ {σ' : L2.St} {H' : Hp} {s' : Shared}, Inv (gcx X A s₁ H₁ cenv fp pn) [] σ' H' s' → (∀ b ∈ fp, H' b = none) → ∀ b ∈ fp, FpOk (gcx X A s₁ H₁ cenv fp pn) [] H' b :=
    fun {σ' H' s'} I' hn b hb => ⟨hn b hb, (I'.ok.exf b hb).1, I'.ok.exfs b hb, .inl hb, fun x c e => (I'.ok.exf b hb).2 x c e, fun p hp z => by
      rcases List.mem_append.mp hp with hp | hp
      · exact hnp p hp (by rw [z]; exact hb)
      · cases hp⟩
  have noE : ∀ {α : Type} {u : Sem α} {q q' : α → Shared → Prop} {E : Value → Shared → Prop} {s' : Shared}, wpAny (model X.prog X.w) (gcx X A s₁ H₁ cenv fp pn).A u q (fun _ _ => False) s' → (∀ r s6, q r s6 → q' r s6) →
      wpAny (model X.prog X.w) (A.over (.compLoop (.GeneratorExp elt [⟨tg, iter, ifs, 0⟩] scope pos) 0 (.ref it) .none cenv) []) u q' E s' := fun {α u q q' E s'} h k => by
    rw [over_gen]
    exact wpAny_mono h k fun _ _ z => False.elim z
  intro m
  induction m using Nat.strongRecOn with
  | ind m ih =>
    intro n hmn i s₀ s H w I st hn
    show Seg _ A _ _ _ s₀ _ ((compTurn (.GeneratorExp elt [⟨tg, iter, ifs, 0⟩] scope pos) 0 (.ref it) .none cenv).onRaise (leaving cenv)) [] s
    rw [compTurn_gen, Sem.onRaise_eq_wrap]
    refine seg_bind_wrap (wpAny_standAt ?_)
    rcases turn i m H w with ⟨hs, qq⟩ | ⟨hgo, Nx, hNx, step⟩
    · refine seg_bind_wrap (noE (T.done (gcx X A s₁ H₁ cenv fp pn) rfl rfl rfl hcalm i [] s _ H (fun _ _ => False) I (stat I hn) st hs) fun r s6 ⟨hr, I6⟩ => ?_)
      subst hr
      exact seg_end (.ok .next) ⟨rfl, H, I6, qq⟩
    · refine seg_bind_wrap (noE (T.item (gcx X A s₁ H₁ cenv fp pn) rfl rfl rfl hcalm i [] s _ H (fun _ _ => False) I (stat I hn) st hgo) fun r s6 ⟨u, hr, h6⟩ => ?_)
      subst hr
      refine seg_bind_wrap (noE h6 fun _ s7 ⟨x, H7, I7, r7, y7, st7, n7⟩ => ?_)
      have I7' := I7.pinned (stat I7 n7) (T.obj _ _ st7)
      refine seg_bind_wrap (noE (pg.run _ s7 _ H7 x u _ I7' r7 (step x H7 y7)) fun _ s8 ⟨σ8, H8, I8, hw8, q8⟩ => ?_)
      refine seg_bind_wrap (noE (pt.run _ s8 σ8 H8 _ I8 q8) fun b s9 ⟨H9, I9, q9⟩ => ?_)
      -- back to the loop's own words
      have tidy : ∀ {s' : Shared} {H' : Hp}, Inv (gcx X A s₁ H₁ cenv fp pn) ([] ++ pinsAt fp s7.heap) σ8 H' s' →
          Inv (gcx X A s₁ H₁ cenv fp pn) [] τ H' s' ∧ tn (i + 1) s'.heap ∧ ∀ b ∈ fp, H' b = none := fun {s' H'} I' => by
        have pin' : ∀ b ∈ fp, ∀ o, s7.heap.get? b = some o → s'.heap.get? b = some o ∧ H' b = none := fun b hb o e =>
          let z := I'.pin (b, o) (List.mem_append_right _ (List.mem_append_right _ (mem_pinsAt hb e)))
          ⟨z.1, z.2.1⟩
        have hl : τ.length = σ8.length := by rw [← hw8, wipe_length]
        refine ⟨(I'.unpinned (pins := [])).weak hl (fun j v e => ?_), T.keep _ _ _ st7 fun b hb o e => (pin' b hb o e).1, fun b hb => ?_⟩
        · rw [← hw8] at e
          exact (wipe_some e).1
        · obtain ⟨o, e, _⟩ := T.obj _ _ st7 b hb
          exact (pin' b hb o e).2
      cases b with
      | false =>
        simp only [Bool.false_eq_true, if_false] at q9 ⊢
        obtain ⟨m', hm', w'⟩ := hNx H9 q9
        obtain ⟨J1, J2, J3⟩ := tidy I9
        exact seg_again rfl (ih m' hm' n (Nat.lt_trans hm' hmn) (i + 1) s₀ s9 H9 w' J1 J2 J3)
      | true =>
        simp only [if_true] at q9 ⊢
        have hy : ∀ v, yieldOut cenv v = yieldValue v := fun v => by simp only [yieldOut, hco, Bool.false_eq_true, if_false]
        simp only [hy]
        rw [Sem.bind_eq_wrap', Sem.bind_eq_wrap', Sem.wrap_wrap, Sem.wrap_wrap]
        refine seg_wrap (noE (pe.run _ s9 σ8 H9 _ I9 q9) fun z s10 ⟨yv, H10, I10, r10, c, ec, h1, h2⟩ => ?_)
        subst ec
        have ez : z = Value.bool c := r10
        subst ez
        obtain ⟨J1, J2, J3⟩ := tidy I10
        have pos' : ∃ n', n = n' + 1 := ⟨n - 1, by omega⟩
        obtain ⟨n', rfl⟩ := pos'
        refine seg_at (seg_yield rfl rfl rfl ⟨c, H10, rfl, J1, h1, fun hc s'' hr => ?_⟩)
        obtain ⟨m', hm', w'⟩ := hNx H10 (h2 hc)
        have hh : s''.heap = s10.heap := by
          obtain ⟨G, _, rfl⟩ := hr
          rfl
        exact seg_again rfl (ih m' hm' n' (by omega) (i + 1) s'' s'' H10 w' (hr.inv J1) (by rw [hh]; exact J2) J3)
end

/-! ### who asks: all(..), any(..) -/
section
variable {Z : Cx} {τ : L2.St} {Q : VK} {A : Around} {a : Addr} {g : Nat} {go : Obj} {R : Result → Shared → Prop}
theorem all_loop (hh : A.handled = none) (hd : A.depth < recursionLimit) (hpn : (a, go) ∈ Z.pn) (hgo : ∀ h : Heap, h.get? a = some go → h.IsGen a g)
    (hend : ∀ (b : Bool) (H : Hp) (s1 s' : Shared), Inv Z [] τ H s1 → Q (.bl b) H → s'.os = s1.os → AllBare s'.gens → (∀ x o, s1.heap.get? x = some o → s'.heap.get? x = some o) → R (.ok (.ret (.bool b))) s') :
    ∀ (n : Nat) (s : Shared) (gs : GenState), s.gens[g]? = some gs →
      gs.Goes (model Z.prog Z.w) A.in1.in1 (gEnd Z τ false Q) (gYld Z τ false Q) n (.send .none) (s.setGen g .running) → s.heap.get? a = some go → s.heap.NoLimit →
      codeAny (model Z.prog Z.w) A (.builtin "all.loop" ⟨[.ref a], []⟩) R s := by
  intro n
  induction n with
  | zero =>
    intro s gs hgs hG hga hl
    refine codeAny_builtin F.entry_all_loop ?_
    rw [Around.under_plainId F.plain_all_loop _]
    show wpAny _ A.in1 (pyNext (.ref a) >>= _) _ _ s
    refine wpAny_bind (wpAny_pyNext_genexpQ (A := A.in1) (P := gFin Z τ false Q) hh hl hd (hgo _ hga) hgs hG (fun v s₁ gs' hb hv => ?_) (fun s₁ hp h' hk => ?_))
    · obtain ⟨c, H, rfl, I, h1, h2⟩ := hv
      refine wpAny_bind (wpAny_holding (wpAny_truthy_bool ?_))
      refine wpAny_bind (wpAny_letGo ?_)
      cases c with
      | false =>
        simp only [Bool.false_eq_true, if_false]
        exact wpAny_bind (wpAny_rule (wpAny_pure (hend false H s₁ _ I (h1 rfl) rfl (allBare_setGen I.bare hb) fun _ _ e => e)))
      | true => exact False.elim (h2 (by decide) s₁ ⟨s₁.gens, I.bare, rfl⟩)
    · obtain ⟨H, I, q⟩ := hp
      exact wpAny_bind (wpAny_rule (wpAny_pure (hend true H s₁ _ I q rfl (allBare_setGen I.bare rfl) hk)))
  | succ n ih =>
    intro s gs hgs hG hga hl
    have hgl : g < s.gens.size := (Array.getElem?_eq_some_iff.mp hgs).1
    refine codeAny_builtin F.entry_all_loop ?_
    rw [Around.under_plainId F.plain_all_loop _]
    show wpAny _ A.in1 (pyNext (.ref a) >>= _) _ _ s
    refine wpAny_bind (wpAny_gsz (n := g + 1) hgl (wpAny_pyNext_genexpQ (A := A.in1) (P := gFin Z τ false Q) hh hl hd (hgo _ hga) hgs hG (fun v s₁ gs' hb hv => ?_) (fun s₁ hp h' hk => ?_)))
    · intro hsz
      obtain ⟨c, H, rfl, I, h1, h2⟩ := hv
      refine wpAny_bind (wpAny_holding (wpAny_truthy_bool ?_))
      refine wpAny_bind (wpAny_letGo ?_)
      cases c with
      | false =>
        simp only [Bool.false_eq_true, if_false]
        exact wpAny_bind (wpAny_rule (wpAny_pure (hend false H s₁ _ I (h1 rfl) rfl (allBare_setGen I.bare hb) fun _ _ e => e)))
      | true =>
        simp only [if_true]
        have hsz1 : g < s₁.gens.size := by
          have q : (s₁.setGen g gs').gens.size = s₁.gens.size := setGen_size _ _ _
          have hsz' : g + 1 ≤ (s₁.setGen g gs').gens.size := hsz
          omega
        have bare2 : AllBare (s₁.setGen g gs').gens := allBare_setGen I.bare hb
        exact wpAny_pure ⟨plainId_quiet F.plain_all_loop _, ih (s₁.setGen g gs') gs' (setGen_at hsz1) (h2 (by decide) _ ⟨_, allBare_setGen (s := s₁.setGen g gs') bare2 rfl, rfl⟩) (I.pin (a, go) (List.mem_append_left _ hpn)).1 I.nolimit⟩
    · intro _
      obtain ⟨H, I, q⟩ := hp
      exact wpAny_bind (wpAny_rule (wpAny_pure (hend true H s₁ _ I q rfl (allBare_setGen I.bare rfl) hk)))
theorem any_loop (hh : A.handled = none) (hd : A.depth < recursionLimit) (hpn : (a, go) ∈ Z.pn) (hgo : ∀ h : Heap, h.get? a = some go → h.IsGen a g)
    (hend : ∀ (b : Bool) (H : Hp) (s1 s' : Shared), Inv Z [] τ H s1 → Q (.bl b) H → s'.os = s1.os → AllBare s'.gens → (∀ x o, s1.heap.get? x = some o → s'.heap.get? x = some o) → R (.ok (.ret (.bool b))) s') :
    ∀ (n : Nat) (s : Shared) (gs : GenState), s.gens[g]? = some gs →
      gs.Goes (model Z.prog Z.w) A.in1.in1 (gEnd Z τ true Q) (gYld Z τ true Q) n (.send .none) (s.setGen g .running) → s.heap.get? a = some go → s.heap.NoLimit →
      codeAny (model Z.prog Z.w) A (.builtin "any.loop" ⟨[.ref a], []⟩) R s := by
  intro n
  induction n with
  | zero =>
    intro s gs hgs hG hga hl
    refine codeAny_builtin F.entry_any_loop ?_
    rw [Around.under_plainId F.plain_any_loop _]
    show wpAny _ A.in1 (pyNext (.ref a) >>= _) _ _ s
    refine wpAny_bind (wpAny_pyNext_genexpQ (A := A.in1) (P := gFin Z τ true Q) hh hl hd (hgo _ hga) hgs hG (fun v s₁ gs' hb hv => ?_) (fun s₁ hp h' hk => ?_))
    · obtain ⟨c, H, rfl, I, h1, h2⟩ := hv
      refine wpAny_bind (wpAny_holding (wpAny_truthy_bool ?_))
      refine wpAny_bind (wpAny_letGo ?_)
      cases c with
      | true =>
        simp only [if_true]
        exact wpAny_bind (wpAny_rule (wpAny_pure (hend true H s₁ _ I (h1 rfl) rfl (allBare_setGen I.bare hb) fun _ _ e => e)))
      | false => exact False.elim (h2 (by decide) s₁ ⟨s₁.gens, I.bare, rfl⟩)
    · obtain ⟨H, I, q⟩ := hp
      exact wpAny_bind (wpAny_rule (wpAny_pure (hend false H s₁ _ I q rfl (allBare_setGen I.bare rfl) hk)))
  | succ n ih =>
    intro s gs hgs hG hga hl
    have hgl : g < s.gens.size := (Array.getElem?_eq_some_iff.mp hgs).1
    refine codeAny_builtin F.entry_any_loop ?_
    rw [Around.under_plainId F.plain_any_loop _]
    show wpAny _ A.in1 (pyNext (.ref a) >>= _) _ _ s
    refine wpAny_bind (wpAny_gsz (n := g + 1) hgl (wpAny_pyNext_genexpQ (A := A.in1) (P := gFin Z τ true Q) hh hl hd (hgo _ hga) hgs hG (fun v s₁ gs' hb hv => ?_) (fun s₁ hp h' hk => ?_)))
    · intro hsz
      obtain ⟨c, H, rfl, I, h1, h2⟩ := hv
      refine wpAny_bind (wpAny_holding (wpAny_truthy_bool ?_))
      refine wpAny_bind (wpAny_letGo ?_)
      cases c with
      | true =>
        simp only [if_true]
        exact wpAny_bind (wpAny_rule (wpAny_pure (hend true H s₁ _ I (h1 rfl) rfl (allBare_setGen I.bare hb) fun _ _ e => e)))
      | false =>
        simp only [Bool.false_eq_true, if_false]
        have hsz1 : g < s₁.gens.size := by
          have q : (s₁.setGen g gs').gens.size = s₁.gens.size := setGen_size _ _ _
          have hsz' : g + 1 ≤ (s₁.setGen g gs').gens.size := hsz
          omega
        have bare2 : AllBare (s₁.setGen g gs').gens := allBare_setGen I.bare hb
        exact wpAny_pure ⟨plainId_quiet F.plain_any_loop _, ih (s₁.setGen g gs') gs' (setGen_at hsz1) (h2 (by decide) _ ⟨_, allBare_setGen (s := s₁.setGen g gs') bare2 rfl, rfl⟩) (I.pin (a, go) (List.mem_append_left _ hpn)).1 I.nolimit⟩
    · intro _
      obtain ⟨H, I, q⟩ := hp
      exact wpAny_bind (wpAny_rule (wpAny_pure (hend false H s₁ _ I q rfl (allBare_setGen I.bare rfl) hk)))
end

/-! ### the expression -/
/-- all(elt for tg in iter if ..) (stop := false), any(..) (stop := true): P the table of the running def's code object, which may grow -/
def tAsk (stop : Bool) (P : Addr) (wi : TI) (g : TG) (tt : TT) (te : TE) (vs : List Nat) : TE := fun σ H Q => wi σ H fun J H1 => TabG H1 P ∧ ∀ H2, Tabbed P H1 H2 →
  ∃ W : Nat → Nat → Hp → Prop, (∃ m, W 0 m H2) ∧ TurnsOf J g tt te vs (wipe σ vs) stop Q W

section
variable {X : Cx} {pins : List (Addr × Obj)} {σ : L2.St} {H : Hp} {s : Shared} {tg elt iter : Expr} {ifs : List Expr} {scope : Scope} {pos : Pos} {wi : TI} {g : TG} {tt : TT} {te : TE} {own : List (Str × Nat)} {c P : Addr} {k : Nat} {stop : Bool} {Q : VK}
/-- the generator is made; it goes when it is woken -/
theorem gen_made {Q' : Value → Shared → Prop} (hr : Room (k + 1) X.A) (TB : TabB X.base X.mg c P) (hcode : X.env.code = .ref c) (hc : X.calm = true) (hN : X.N.Nodup) (hi : PI X tg iter wi) (ok : BlkOk X.N X.env.scope scope own)
    (hcell : ∀ y ∈ scope.names, y.2 ≠ .cell) (hdot : scope.names.lookup (".0" : Str) = some NameKind.local) (hco : scope.isCoroutine = false)
    (hg : ∀ (A : Around) (s : Shared) (H : Hp) (C : Addr) (code : Value) (fp : List Addr) (pn : List (Addr × Obj)), PG (gcx X A s H (genEnv scope (cloFrom X.env.cells scope.names []) C code builtinsNs X.env) fp pn) tg g)
    (ht : ∀ (A : Around) (s : Shared) (H : Hp) (C : Addr) (code : Value) (fp : List Addr) (pn : List (Addr × Obj)), Room k (A.deeper (genEnv scope (cloFrom X.env.cells scope.names []) C code builtinsNs X.env)) → PTs (gcx X A s H (genEnv scope (cloFrom X.env.cells scope.names []) C code builtinsNs X.env) fp pn) ifs tt)
    (he : ∀ (A : Around) (s : Shared) (H : Hp) (C : Addr) (code : Value) (fp : List Addr) (pn : List (Addr × Obj)), Room k (A.deeper (genEnv scope (cloFrom X.env.cells scope.names []) C code builtinsNs X.env)) → PE (gcx X A s H (genEnv scope (cloFrom X.env.cells scope.names []) C code builtinsNs X.env) fp pn) elt te)
    (hs : ∀ v, genFold iter X.env v = pure v) (I : Inv X pins σ H s) (h : tAsk stop P wi g tt te (own.map (·.2)) σ H Q)
    (hQ : ∀ (Z : Cx) (τ : L2.St) (a : Addr) (j n : Nat) (go : Obj) (gs : GenState) (s5 : Shared), Z.prog = X.prog → Z.w = X.w → (a, go) ∈ Z.pn → (∀ h : Heap, h.get? a = some go → h.IsGen a j) → s5.gens[j]? = some gs →
      gs.Goes (model X.prog X.w) X.A.in1.in1 (gEnd Z τ stop Q) (gYld Z τ stop Q) n (.send .none) (s5.setGen j .running) → s5.heap.get? a = some go → s5.heap.NoLimit →
      (∀ (b : Bool) (H' : Hp) (s1 s' : Shared), Inv Z [] τ H' s1 → Q (.bl b) H' → s'.os = s1.os → AllBare s'.gens → (∀ x o, s1.heap.get? x = some o → s'.heap.get? x = some o) → EP X pins σ Q (.bool b) s') → Q' (.ref a) s5) :
    wpAny (model X.prog X.w) X.A (eval (.GeneratorExp elt [⟨tg, iter, ifs, 0⟩] scope pos) X.env) Q' X.xe s := by
  have hfree : ∀ y ∈ scope.names, y.2 = .free → ∃ c, X.env.cells.lookup y.1 = some c := fun y hy e => by
    rcases ok.free y hy e with q | q
    · exact I.ok.has _ (.inl q)
    · exact I.ok.has _ (.inr q)
  refine wpAny_GeneratorExp_make hco (closure_ok hfree) hcell hdot ok.kind (by have := hr.dp; omega) ?_ hs
  refine thn (hi.run pins s σ H _ I h) fun xv s1 hx => thn hx fun itv s2 h2 => ?_
  obtain ⟨it, fp, tn, J, H2, rfl, I2, T, st2, f2, ⟨ps, hP, htri⟩, hW⟩ := h2
  have hPs : s2.heap.get? P = some { cls := .none, data := .fields ps } := I2.hok P _ hP
  have cd : PySem.W.CodeHd s2.heap c P := TB.code.keeps I2.bk
  have neP : ∀ b ∈ fp, b ≠ P := fun b hb z => by
    have q := (f2 b hb).1
    rw [z, hP] at q
    cases q
  refine ⟨I2.nolimit, ?_⟩
  have cont : ∀ (code : Value) (h3 : Heap) (tk : Nat) (more : Array Value), Heap.ExtBut P s2.heap h3 → s2.heap.objs.size ≤ h3.objs.size → h3.get? P = some { cls := .none, data := .fields (ps ++ more) } → TriplesOk (ps ++ more).toList →
      wpAny (model X.prog X.w) X.A (builtinsFor X.env.globals X.env.builtins) (fun bi s₄ => ∀ h', h'.Ns s₄.heap.objs.size (fun y => if y = ".0" then some (.ref it) else none) → Heap.SameBut s₄.heap.objs.size (s₄.heap.push { cls := .type "frame", data := .dict #[] }) h' →
          Q' (.ref h'.objs.size) { s₄ with
            gens := s₄.gens.push (.fresh (.compStart (.GeneratorExp elt [⟨tg, iter, ifs, 0⟩] scope pos) 0 (.ref it) .none (genEnv scope (cloFrom X.env.cells scope.names []) s₄.heap.objs.size code bi X.env))),
            toks := s₄.toks + 1 + 1 + 1,
            heap := h'.push { cls := .type "generator", data := .fields #[.int s₄.gens.size 0, .str "<genexpr>" (s₄.toks + 1), .str (X.env.qual ++ "<genexpr>") (s₄.toks + 1 + 1)] } }) X.xe { s2 with heap := h3, toks := tk } := by
    intro code h3 tk more hx hsz hP3 htri3
    have I3 : Inv X pins σ (upd H2 P (.tbl (ps ++ more))) { s2 with heap := h3, toks := tk } := inv_tab (g' := s2.gens) (d' := s2.drawn) (t' := tk) I2 hP (fun b u hb e => hx b u hb e) hP3 I2.bare
    have hT : Tabbed P H2 (upd H2 P (.tbl (ps ++ more))) := ⟨⟨ps ++ more, upd_same, htri3⟩, fun b hb => upd_ne hb⟩
    obtain ⟨W, ⟨m0, w0⟩, turn⟩ := hW _ hT
    generalize hH3 : upd H2 P (.tbl (ps ++ more)) = H3 at I3 w0
    have n3 : ∀ b ∈ fp, H3 b = none := fun b hb => by
      rw [← hH3, upd_ne (neP b hb)]
      exact (f2 b hb).1
    generalize hs3 : ({ s2 with heap := h3, toks := tk } : Shared) = s3 at I3 ⊢
    have e3 : s3.heap = h3 := by rw [← hs3]
    have f3 : ∀ b ∈ fp, FpOk X pins H3 b ∧ b < s3.heap.objs.size := fun b hb => by
      obtain ⟨o, e, _⟩ := T.obj _ _ st2 b hb
      refine ⟨⟨n3 b hb, (f2 b hb).2⟩, ?_⟩
      rw [e3]
      exact Nat.lt_of_lt_of_le (Heap.lt_size e) hsz
    have st3 : tn 0 s3.heap := T.keep _ _ _ st2 fun b hb o e => by
      rw [e3]
      exact hx b o (neP b hb) e
    obtain ⟨bm, ob, b1, b2, b3, b4, b5, b6, b7, b8⟩ := TB.bm
    refine wpAny_builtinsFor (m := X.mg) (by rw [I3.ok.glob]; exact I3.mod.glob.keeps I3.bk) b1 b2 (I3.bk _ _ b5) b6 b7 b8 ?_
    intro h' hn' hs'
    have hsz' : h'.objs.size = s3.heap.objs.size + 1 := by rw [hs'.1, Heap.size_push]
    have keep' : ∀ b o, s3.heap.get? b = some o → h'.get? b = some o := fun b o e => hs'.extBut b o (Nat.ne_of_lt (Heap.lt_size e)) (Heap.get?_push_of_some _ e)
    generalize hgo : ({ cls := .type "generator", data := .fields #[.int s3.gens.size 0, .str "<genexpr>" (s3.toks + 1), .str (X.env.qual ++ "<genexpr>") (s3.toks + 1 + 1)] } : Obj) = go
    generalize hce : genEnv scope (cloFrom X.env.cells scope.names []) s3.heap.objs.size code builtinsNs X.env = ce
    have keep5 : ∀ b o, s3.heap.get? b = some o → (h'.push go).get? b = some o := fun b o e => Heap.get?_push_of_some _ (keep' b o e)
    have hget : (h'.push go).get? h'.objs.size = some go := Heap.get?_push_size _ (by rw [← hgo]; rfl)
    have hgd : ∀ v, go.data ≠ .cell v := fun v q => by
      rw [← hgo] at q
      cases q
    have hgen : ∀ h : Heap, h.get? h'.objs.size = some go → h.IsGen h'.objs.size s3.gens.size := fun h e => ⟨go, _, _, e, by rw [← hgo], by rw [← hgo], by rw [← hgo]⟩
    have hA : X.A.in1.in1.handled = none := hr.hd
    have hfr : X.A.in1.in1.frames = some X.stack := I3.ok.frames
    have hroom : Room k (X.A.in1.in1.deeper ce) := ⟨hr.hd, by
      have := hr.dp
      show X.A.depth + 1 + 3 * k + 5 < _
      omega, by
      have := hr.un
      show X.A.units + 1 + 1 + 3 + 16 * k + 200 < _
      omega⟩
    have start : ∀ t : Shared, t.os = s3.os → AllBare t.gens → t.heap = h'.push go → Inv (gcx X X.A.in1.in1 s3 H3 ce fp [(h'.objs.size, go)]) [] (wipe σ (own.map (·.2))) H3 t := fun t q1 q2 q3 => by
      have nsF : t.heap.Ns s3.heap.objs.size (fun y => if y = ".0" then some (.ref it) else none) := by
        rw [q3]
        exact hn'.push _
      subst hce
      exact gen_start I3 ok hN hcell hA hfr f3 rfl rfl I3.ok.glob rfl rfl rfl q1 q2 (fun b o e => by rw [q3]; exact keep5 b o e) nsF (by rw [q3]; exact hget) (by rw [hsz']; exact Nat.lt_succ_self _) hgd
    have notFp : ∀ p ∈ [(h'.objs.size, go)], p.1 ∉ fp := fun p hp hm => by
      rw [List.mem_singleton.mp hp] at hm
      have z := (f3 _ hm).2
      rw [hsz'] at z
      exact absurd (Nat.lt_of_succ_lt z) (Nat.lt_irrefl _)
    refine hQ (gcx X X.A.in1.in1 s3 H3 ce fp [(h'.objs.size, go)]) (wipe σ (own.map (·.2))) h'.objs.size s3.gens.size (m0 + 1) go _ _ rfl rfl (List.mem_singleton.mpr rfl) hgen (Array.getElem?_push_size ..) ⟨rfl, ?_⟩ hget (I3.nolimit.keeps keep5) fun b H' t1 t' I' q' qo qb qk => ?_
    · have pgZ : PG (gcx X X.A.in1.in1 s3 H3 ce fp [(h'.objs.size, go)]) tg g := by
        subst hce
        exact hg _ _ _ _ _ _ _
      have ptZ : PTs (gcx X X.A.in1.in1 s3 H3 ce fp [(h'.objs.size, go)]) ifs tt := by
        subst hce
        exact ht _ _ _ _ _ _ _ hroom
      have peZ : PE (gcx X X.A.in1.in1 s3 H3 ce fp [(h'.objs.size, go)]) elt te := by
        subst hce
        exact he _ _ _ _ _ _ _ hroom
      have hco' : ce.scope.isCoroutine = false := by
        rw [← hce]
        exact hco
      have woken : ∀ t : Shared, t.os = s3.os → AllBare t.gens → t.heap = h'.push go → Seg (model X.prog X.w) X.A.in1.in1 (gEnd (gcx X X.A.in1.in1 s3 H3 ce fp [(h'.objs.size, go)]) (wipe σ (own.map (·.2))) stop Q) (gYld (gcx X X.A.in1.in1 s3 H3 ce fp [(h'.objs.size, go)]) (wipe σ (own.map (·.2))) stop Q) (m0 + 1) t
          (.compStart (.GeneratorExp elt [⟨tg, iter, ifs, 0⟩] scope pos) 0 (.ref it) .none ce) ((model X.prog X.w).den (.compStart (.GeneratorExp elt [⟨tg, iter, ifs, 0⟩] scope pos) 0 (.ref it) .none ce)) [] t := fun t q1 q2 q3 => by
        have st5 : tn 0 t.heap := T.keep _ _ _ st3 fun b _ o e => by
          rw [q3]
          exact keep5 b o e
        have loop := seg_gx (iter := iter) (scope := scope) (pos := pos) hc pgZ ptZ peZ T hco' turn notFp m0 (m0 + 1) (Nat.lt_succ_self _) 0 t t H3 w0 (start t q1 q2 q3) st5 n3
        show Seg _ X.A.in1.in1 _ _ _ t _ ((compStart (.GeneratorExp elt [⟨tg, iter, ifs, 0⟩] scope pos) 0 (.ref it) .none ce).onRaise (leaving ce)) [] t
        unfold compStart
        rw [Sem.onRaise_eq_wrap]
        show Seg _ X.A.in1.in1 _ _ _ t _ ((ask >>= _).wrap _ _ _ _) [] t
        refine seg_bind_wrap (wpAny_askSetting ?_)
        split
        · exact seg_again rfl loop
        · first
            | exact seg_bind_wrap (wpAny_rule (seg_bind_wrap (wpAny_standAt (seg_bind_wrap (T.self _ 0 t _ _ st5 (seg_again rfl loop))))))
            | (refine seg_bind_wrap (wpAny_rule ?_)
               show Seg _ X.A.in1.in1 _ _ _ t _ ((standAt iter.pos >>= _).wrap _ _ _ _) [] t
               exact seg_bind_wrap (wpAny_standAt (seg_bind_wrap (T.self _ 0 t _ _ st5 (seg_again rfl loop)))))
      exact woken _ rfl (allBare_setGen (s := { s3 with gens := s3.gens.push _, heap := h'.push go, toks := s3.toks + 1 + 1 + 1 }) (AllBare.push I3.bare rfl) rfl) rfl
    · have hfpX : ∀ b ∈ fp, (b ∈ X.ex ∨ X.s_0.heap.objs.size ≤ b) ∧ b ≠ X.env.locals ∧ (∀ x c, X.env.cells.lookup x = some c → c ≠ b) ∧ ∀ p ∈ X.pn ++ pins, p.1 ≠ b := fun b hb =>
        ⟨(f3 b hb).1.2.2.2.1, (f3 b hb).1.2.1, (f3 b hb).1.2.2.2.2.1, (f3 b hb).1.2.2.2.2.2⟩
      have un : Un (frs X.stack) fp H3 H' s3.heap t1.heap := I'.base
      have un2 : Un (frs X.stack) fp H3 H' s3.heap t'.heap := un.trans (Un.kept qk)
      exact ⟨.bl b, H', I3.call' (ch := fp) (qo.trans I'.os) un2 (I'.hok.kept qk) qb hfpX, rfl, q'⟩
  cases hf : codeAmong pos ps.toList with
  | none =>
    refine wpAny_genexprCodeX hcode (cd.code hPs htri) (cd.tab hPs) hf fun c' h3 tk hx hge hlt hco' _ htab' _ => ?_
    obtain ⟨o1, vs, f1, tf, fl, tg', inF, tx, tt', op, _, _, _, _, _, _, _, _, _, htr, _⟩ := hco'
    exact cont _ h3 tk _ hx (Nat.le_trans hge (Nat.le_of_lt hlt)) htab'.2 htr
  | some cv =>
    refine wpAny_genexprCode_hit hcode (cd.code hPs htri) hf ?_
    exact cont cv s2.heap s2.toks #[] (Heap.ExtBut.refl _ _) (Nat.le_refl _) (by simpa using hPs) (by simpa using htri)
/-- what is asked of the generator expression's own names -/
structure GenNames (scope : Scope) : Prop where
  nocell : ∀ y ∈ scope.names, y.2 ≠ .cell
  dot : scope.names.lookup (".0" : Str) = some NameKind.local
  plain : scope.isCoroutine = false
def genNamesB (scope : Scope) : Bool := (scope.names.all fun y => decide (y.2 ≠ .cell)) && decide (scope.names.lookup (".0" : Str) = some NameKind.local) && !scope.isCoroutine
theorem genNames_by (h : genNamesB scope = true) : GenNames scope := by
  unfold genNamesB at h
  simp only [Bool.and_eq_true, List.all_eq_true, decide_eq_true_eq, Bool.not_eq_true'] at h
  exact ⟨h.1.1, h.1.2, h.2⟩
theorem pe_all {p pos' : Pos} (hr : Room (k + 1) X.A) (hl : Gl X "all") (hm : X.mg "all" = none) (TB : TabB X.base X.mg c P) (hcode : X.env.code = .ref c) (hc : X.calm = true) (hN : X.N.Nodup) (hi : PI X tg iter wi) (ok : BlkOk X.N X.env.scope scope own) (gn : GenNames scope)
    (hg : ∀ (A : Around) (s : Shared) (H : Hp) (C : Addr) (code : Value) (fp : List Addr) (pn : List (Addr × Obj)), PG (gcx X A s H (genEnv scope (cloFrom X.env.cells scope.names []) C code builtinsNs X.env) fp pn) tg g)
    (ht : ∀ (A : Around) (s : Shared) (H : Hp) (C : Addr) (code : Value) (fp : List Addr) (pn : List (Addr × Obj)), Room k (A.deeper (genEnv scope (cloFrom X.env.cells scope.names []) C code builtinsNs X.env)) → PTs (gcx X A s H (genEnv scope (cloFrom X.env.cells scope.names []) C code builtinsNs X.env) fp pn) ifs tt)
    (he : ∀ (A : Around) (s : Shared) (H : Hp) (C : Addr) (code : Value) (fp : List Addr) (pn : List (Addr × Obj)), Room k (A.deeper (genEnv scope (cloFrom X.env.cells scope.names []) C code builtinsNs X.env)) → PE (gcx X A s H (genEnv scope (cloFrom X.env.cells scope.names []) C code builtinsNs X.env) fp pn) elt te)
    (hs : ∀ v, genFold iter X.env v = pure v := by intro _; rfl) (hb : bootBuiltins "all" = some (.builtin "all") := by decide +kernel)
    (hst : starEach [.GeneratorExp elt [⟨tg, iter, ifs, 0⟩] scope pos] X.env = (false, eval (.GeneratorExp elt [⟨tg, iter, ifs, 0⟩] scope pos) X.env) :: starEach [] X.env := by rfl) :
    PE X (.Call (.Name "all" p) [.GeneratorExp elt [⟨tg, iter, ifs, 0⟩] scope pos] [] pos') (tAsk false P wi g tt te (own.map (·.2))) := by
  refine ⟨fun pins s σ H Q I h => ?_⟩
  refine wpAny_Call_Name_kw (ld_blt I hl hm hb ?_)
  refine callWith_builtin1 ?_ hst (by rfl)
  rw [hst]
  show wpAny _ _ (spliced ((false, eval (.GeneratorExp elt [⟨tg, iter, ifs, 0⟩] scope pos) X.env) :: backTo pos' (starEach [] X.env))) _ _ s
  refine Calls.spliced_cons (gen_made hr TB hcode hc hN hi ok gn.nocell gn.dot gn.plain hg ht he hs I h fun Z τ a j n go gs s5 hp hw hpn hgo hgs hG hga hlim hend => ?_)
  refine Calls.spliced_nil (call_function_tree F.kind_all F.plain_all F.entry_all (F.args_all1 _) ?_)
  unfold Builtin.«all»
  refine wpAny_bind (m := oneArg "all" _) (wpAny_pure (wpAny_bind (wpAny_pyIter_gen (hgo _ hga) ?_)))
  refine wpAny_pure ⟨plainId_quiet F.plain_all_loop _, ?_⟩
  rw [← hp, ← hw] at hG ⊢
  exact all_loop (A := X.A) hr.hd hr.depth hpn hgo hend n s5 gs hgs hG hga hlim
theorem pe_any {p pos' : Pos} (hr : Room (k + 1) X.A) (hl : Gl X "any") (hm : X.mg "any" = none) (TB : TabB X.base X.mg c P) (hcode : X.env.code = .ref c) (hc : X.calm = true) (hN : X.N.Nodup) (hi : PI X tg iter wi) (ok : BlkOk X.N X.env.scope scope own) (gn : GenNames scope)
    (hg : ∀ (A : Around) (s : Shared) (H : Hp) (C : Addr) (code : Value) (fp : List Addr) (pn : List (Addr × Obj)), PG (gcx X A s H (genEnv scope (cloFrom X.env.cells scope.names []) C code builtinsNs X.env) fp pn) tg g)
    (ht : ∀ (A : Around) (s : Shared) (H : Hp) (C : Addr) (code : Value) (fp : List Addr) (pn : List (Addr × Obj)), Room k (A.deeper (genEnv scope (cloFrom X.env.cells scope.names []) C code builtinsNs X.env)) → PTs (gcx X A s H (genEnv scope (cloFrom X.env.cells scope.names []) C code builtinsNs X.env) fp pn) ifs tt)
    (he : ∀ (A : Around) (s : Shared) (H : Hp) (C : Addr) (code : Value) (fp : List Addr) (pn : List (Addr × Obj)), Room k (A.deeper (genEnv scope (cloFrom X.env.cells scope.names []) C code builtinsNs X.env)) → PE (gcx X A s H (genEnv scope (cloFrom X.env.cells scope.names []) C code builtinsNs X.env) fp pn) elt te)
    (hs : ∀ v, genFold iter X.env v = pure v := by intro _; rfl) (hb : bootBuiltins "any" = some (.builtin "any") := by decide +kernel)
    (hst : starEach [.GeneratorExp elt [⟨tg, iter, ifs, 0⟩] scope pos] X.env = (false, eval (.GeneratorExp elt [⟨tg, iter, ifs, 0⟩] scope pos) X.env) :: starEach [] X.env := by rfl) :
    PE X (.Call (.Name "any" p) [.GeneratorExp elt [⟨tg, iter, ifs, 0⟩] scope pos] [] pos') (tAsk true P wi g tt te (own.map (·.2))) := by
  refine ⟨fun pins s σ H Q I h => ?_⟩
  refine wpAny_Call_Name_kw (ld_blt I hl hm hb ?_)
  refine callWith_builtin1 ?_ hst (by rfl)
  rw [hst]
  show wpAny _ _ (spliced ((false, eval (.GeneratorExp elt [⟨tg, iter, ifs, 0⟩] scope pos) X.env) :: backTo pos' (starEach [] X.env))) _ _ s
  refine Calls.spliced_cons (gen_made hr TB hcode hc hN hi ok gn.nocell gn.dot gn.plain hg ht he hs I h fun Z τ a j n go gs s5 hp hw hpn hgo hgs hG hga hlim hend => ?_)
  refine Calls.spliced_nil (call_function_tree F.kind_any F.plain_any F.entry_any (F.args_any1 _) ?_)
  unfold Builtin.«any»
  refine wpAny_bind (m := oneArg "any" _) (wpAny_pure (wpAny_bind (wpAny_pyIter_gen (hgo _ hga) ?_)))
  refine wpAny_pure ⟨plainId_quiet F.plain_any_loop _, ?_⟩
  rw [← hp, ← hw] at hG ⊢
  exact any_loop (A := X.A) hr.hd hr.depth hpn hgo hend n s5 gs hgs hG hga hlim
end
end GX

set_option Elab.async false
set_option linter.all false
set_option maxRecDepth 100000
/-! The law's drawing: _law_begun, _law_draw, _law_pick. -/
namespace K02
open PySem PySem.Spec L2
open PyProof.Rows
def top (i : Nat) : Stmt := PySem.Challenge.pw_restsure_k02_readings_of_gates.main.body.getD i (.Pass ⟨0, 0, 0, 0⟩)
abbrev sBegun : Stmt := top 18
abbrev sDraw : Stmt := top 19
abbrev sPick : Stmt := top 20

/-! ### the state of the draws -/
abbrev kLarge : Key := Sum.inr ("large" : Str)
abbrev kCells : Key := Sum.inr ("cells" : Str)
abbrev kLeft : Key := Sum.inr ("left" : Str)
abbrev kTurn : Key := Sum.inr ("turn" : Str)
def stD (lg cl : Addr) (left turn : Int) : List (Key × V) := [(kLarge, .ref lg), (kCells, .ref cl), (kLeft, .int left), (kTurn, .int turn)]
theorem sne1 : ¬ ("large" : Str) = "cells" := by decide +kernel
theorem sne2 : ¬ ("large" : Str) = "left" := by decide +kernel
theorem sne3 : ¬ ("large" : Str) = "turn" := by decide +kernel
theorem sne4 : ¬ ("cells" : Str) = "left" := by decide +kernel
theorem sne5 : ¬ ("cells" : Str) = "turn" := by decide +kernel
theorem sne6 : ¬ ("left" : Str) = "turn" := by decide +kernel
theorem sne7 : ¬ ("turn" : Str) = "left" := by decide +kernel
theorem kne1 : ¬ kLarge = kCells := fun z => sne1 (Sum.inr.inj z)
theorem kne2 : ¬ kLarge = kLeft := fun z => sne2 (Sum.inr.inj z)
theorem kne3 : ¬ kLarge = kTurn := fun z => sne3 (Sum.inr.inj z)
theorem kne4 : ¬ kCells = kLeft := fun z => sne4 (Sum.inr.inj z)
theorem kne5 : ¬ kCells = kTurn := fun z => sne5 (Sum.inr.inj z)
theorem kne6 : ¬ kLeft = kTurn := fun z => sne6 (Sum.inr.inj z)
theorem st_large (lg cl : Addr) (a b : Int) : valV (stD lg cl a b) kLarge = some (.ref lg) := valV_pos rfl
theorem st_cells (lg cl : Addr) (a b : Int) : valV (stD lg cl a b) kCells = some (.ref cl) := by
  unfold stD
  rw [valV_neg kne1]
  exact valV_pos rfl
theorem st_left (lg cl : Addr) (a b : Int) : valV (stD lg cl a b) kLeft = some (.int a) := by
  unfold stD
  rw [valV_neg kne2, valV_neg kne4]
  exact valV_pos rfl
theorem st_turn (lg cl : Addr) (a b : Int) : valV (stD lg cl a b) kTurn = some (.int b) := by
  unfold stD
  rw [valV_neg kne3, valV_neg kne5, valV_neg kne6]
  exact valV_pos rfl
theorem put_left (lg cl : Addr) (a b c : Int) : putK (stD lg cl a b) kLeft (.int c) = stD lg cl c b := by
  unfold putK stD
  simp [sne2, sne4, sne7]
theorem put_turn (lg cl : Addr) (a b c : Int) : putK (stD lg cl a b) kTurn (.int c) = stD lg cl a c := by
  unfold putK stD
  simp [sne3, sne5, sne6]

theorem merge_st (lg cl : Addr) (a b : Int) : mergeK [] (stD lg cl a b) = stD lg cl a b := by
  unfold mergeK putK stD
  simp [sne1, sne2, sne3, sne4, sne5, sne6]
structure StAt (H : Hp) (st lg cl : Addr) (ls cs : List Int) (left turn : Int) (t : Nat) : Prop where
  d : H st = some (.dK (stD lg cl left turn))
  l : H lg = some (.lst (ls.map V.int))
  c : H cl = some (.lst (cs.map V.int))
  lp : ∀ x ∈ ls, 0 ≤ x
  l0 : 0 ≤ left
  t0 : 0 ≤ turn
  tt : turn ≤ t
  ll : ls.length ≤ 63
  cc : cs.length ≤ 63
  ne : lg ≠ cl
/-- the state of the draws stands at st, its lists at lg and cl; at most t turns are done -/
def StOk (H : Hp) (st lg cl : Addr) (t : Nat) : Prop := ∃ ls cs left turn, StAt H st lg cl ls cs left turn t
theorem StAt.ne1 {H : Hp} {st lg cl : Addr} {ls cs : List Int} {left turn : Int} {t : Nat} (S : StAt H st lg cl ls cs left turn t) : lg ≠ st := ne_of S.l S.d (by intro z; cases z)
theorem StAt.ne2 {H : Hp} {st lg cl : Addr} {ls cs : List Int} {left turn : Int} {t : Nat} (S : StAt H st lg cl ls cs left turn t) : cl ≠ st := ne_of S.c S.d (by intro z; cases z)
theorem StAt.keep {H H' : Hp} {st lg cl : Addr} {ls cs : List Int} {left turn : Int} {t : Nat} (S : StAt H st lg cl ls cs left turn t) (k : Same H H') : StAt H' st lg cl ls cs left turn t :=
  ⟨k _ _ S.d, k _ _ S.l, k _ _ S.c, S.lp, S.l0, S.t0, S.tt, S.ll, S.cc, S.ne⟩
theorem StOk.keep {H H' : Hp} {st lg cl : Addr} {t : Nat} (S : StOk H st lg cl t) (k : Same H H') : StOk H' st lg cl t := by
  obtain ⟨ls, cs, left, turn, S⟩ := S
  exact ⟨ls, cs, left, turn, S.keep k⟩
/-- all but the state of the draws is as it was -/
def But (st lg : Addr) (H H' : Hp) : Prop := ∀ b o, H b = some o → b ≠ st → b ≠ lg → H' b = some o
theorem But.refl (st lg : Addr) (H : Hp) : But st lg H H := fun _ _ h _ _ => h
theorem But.trans {st lg : Addr} {H H1 H2 : Hp} (a : But st lg H H1) (b : But st lg H1 H2) : But st lg H H2 := fun c o h n1 n2 => b c o (a c o h n1 n2) n1 n2
theorem But.of {st lg : Addr} {H H' : Hp} (k : Same H H') : But st lg H H' := fun c o h _ _ => k c o h
theorem same_new {H : Hp} {p : Addr} {o : HO} (h : H p = none) : Same H (upd H p o) := fun b x e => by
  rw [upd_ne (ne_of_none e h)]
  exact e
theorem but_st {st lg : Addr} {H : Hp} {o : HO} : But st lg H (upd H st o) := fun b x e n1 _ => by
  rw [upd_ne n1]
  exact e
theorem but_lg {st lg : Addr} {H : Hp} {o : HO} : But st lg H (upd H lg o) := fun b x e _ n2 => by
  rw [upd_ne n2]
  exact e

theorem StAt.gLarge {H : Hp} {st lg cl : Addr} {ls cs : List Int} {left turn : Int} {t : Nat} (S : StAt H st lg cl ls cs left turn t) : DGet H st (.str "large") (some (.ref lg)) := by
  rw [← st_large lg cl left turn]
  exact DGet.k (k := kLarge) S.d
theorem StAt.gCells {H : Hp} {st lg cl : Addr} {ls cs : List Int} {left turn : Int} {t : Nat} (S : StAt H st lg cl ls cs left turn t) : DGet H st (.str "cells") (some (.ref cl)) := by
  rw [← st_cells lg cl left turn]
  exact DGet.k (k := kCells) S.d
theorem StAt.gLeft {H : Hp} {st lg cl : Addr} {ls cs : List Int} {left turn : Int} {t : Nat} (S : StAt H st lg cl ls cs left turn t) : DGet H st (.str "left") (some (.int left)) := by
  rw [← st_left lg cl left turn]
  exact DGet.k (k := kLeft) S.d
theorem StAt.gTurn {H : Hp} {st lg cl : Addr} {ls cs : List Int} {left turn : Int} {t : Nat} (S : StAt H st lg cl ls cs left turn t) : DGet H st (.str "turn") (some (.int turn)) := by
  rw [← st_turn lg cl left turn]
  exact DGet.k (k := kTurn) S.d
theorem StAt.pLeft {H : Hp} {st lg cl : Addr} {ls cs : List Int} {left turn : Int} {t : Nat} (S : StAt H st lg cl ls cs left turn t) (v : Int) : DPut H st (.str "left") (.int v) (upd H st (.dK (stD lg cl v turn))) := by
  rw [← put_left lg cl left turn v]
  exact DPut.k (k := kLeft) S.d (small1000 (by show 4 ≤ 1000; decide))
theorem StAt.pTurn {H : Hp} {st lg cl : Addr} {ls cs : List Int} {left turn : Int} {t : Nat} (S : StAt H st lg cl ls cs left turn t) (v : Int) : DPut H st (.str "turn") (.int v) (upd H st (.dK (stD lg cl left v))) := by
  rw [← put_turn lg cl left turn v]
  exact DPut.k (k := kTurn) S.d (small1000 (by show 4 ≤ 1000; decide))
theorem StAt.setLeft {H : Hp} {st lg cl : Addr} {ls cs : List Int} {left turn : Int} {t : Nat} (S : StAt H st lg cl ls cs left turn t) {v : Int} (hv : 0 ≤ v) : StAt (upd H st (.dK (stD lg cl v turn))) st lg cl ls cs v turn t :=
  ⟨upd_same, by rw [upd_ne S.ne1]; exact S.l, by rw [upd_ne S.ne2]; exact S.c, S.lp, hv, S.t0, S.tt, S.ll, S.cc, S.ne⟩
theorem StAt.setTurn {H : Hp} {st lg cl : Addr} {ls cs : List Int} {left turn : Int} {t : Nat} (S : StAt H st lg cl ls cs left turn t) : StAt (upd H st (.dK (stD lg cl left (turn + 1)))) st lg cl ls cs left (turn + 1) (t + 1) :=
  ⟨upd_same, by rw [upd_ne S.ne1]; exact S.l, by rw [upd_ne S.ne2]; exact S.c, S.lp, S.l0, Int.le_add_one S.t0, by have := S.tt; omega, S.ll, S.cc, S.ne⟩
theorem StAt.pop {H : Hp} {st lg cl : Addr} {x : Int} {ls cs : List Int} {left turn : Int} {t : Nat} (S : StAt H st lg cl (x :: ls) cs left turn t) : StAt (upd H lg (.lst (ls.map V.int))) st lg cl ls cs left turn t :=
  ⟨by rw [upd_ne S.ne1.symm]; exact S.d, upd_same, by rw [upd_ne S.ne.symm]; exact S.c, fun y hy => S.lp y (List.mem_cons_of_mem _ hy), S.l0, S.t0, S.tt, Nat.le_of_succ_le S.ll, S.cc, S.ne⟩

theorem StAt.more {H : Hp} {st lg cl : Addr} {ls cs : List Int} {left turn : Int} {t : Nat} (S : StAt H st lg cl ls cs left turn t) : StAt H st lg cl ls cs left turn (t + 1) :=
  ⟨S.d, S.l, S.c, S.lp, S.l0, S.t0, by have := S.tt; omega, S.ll, S.cc, S.ne⟩
theorem StAt.lstL {K : PySem.W.Frag} {H : Hp} {st lg cl : Addr} {ls cs : List Int} {left turn : Int} {t : Nat} (S : StAt H st lg cl ls cs left turn t) : SqL K H lg (ls.map V.int) := .inl (.inl S.l)
theorem StAt.lstC {K : PySem.W.Frag} {H : Hp} {st lg cl : Addr} {ls cs : List Int} {left turn : Int} {t : Nat} (S : StAt H st lg cl ls cs left turn t) : SqL K H cl (cs.map V.int) := .inl (.inl S.c)

theorem seq0 (n : Nat) : seqIndex? 0 (n + 1) = some 0 := by
  unfold seqIndex?
  simp
theorem dp_ints {K : PySem.W.Frag} {H : Hp} : ∀ ns : List Int, DpAll K H (ns.map V.int) (ns.map PyData.int)
  | [] => .nil
  | n :: r => .cons (.int n) (dp_ints r)
theorem eqv_nil (ns : List Int) : PyData.eqv (.list (ns.map PyData.int)) (.list []) = ns.isEmpty := by
  cases ns with
  | nil => rfl
  | cons n r => rfl

def spDraw : Sp := fun vs H Q _ => ∃ (st lg cl : Addr) (t : Nat) (n : Int), vs = [.ref st, .int n] ∧ 0 < n ∧ n < 1073741824 ∧ t < 1000000000 ∧ StOk H st lg cl t ∧
  ∀ (k : Int) (H' : Hp), 0 ≤ k → k < n → StOk H' st lg cl (t + 1) → But st lg H H' → Q (.int k) H'

theorem small1 (z : Int) {turn : Int} {t : Nat} (t0 : 0 ≤ turn) (tb : turn ≤ t) (ht : t < 1000000000) : (z % 2147483563 + 40692 * (turn + 1) + 24681).natAbs < 2 ^ 64 := by
  have h1 : 0 ≤ z % 2147483563 := Int.emod_nonneg _ (by decide)
  have h2 : z % 2147483563 < 2147483563 := Int.emod_lt_of_pos _ (by decide)
  omega
theorem small2 (z : Int) {turn : Int} {t : Nat} (t0 : 0 ≤ turn) (tb : turn ≤ t) (ht : t < 1000000000) : (z % 2147483629 + 104917 * (turn + 1)).natAbs < 2 ^ 64 := by
  have h1 : 0 ≤ z % 2147483629 := Int.emod_nonneg _ (by decide)
  have h2 : z % 2147483629 < 2147483629 := Int.emod_lt_of_pos _ (by decide)
  omega

section
variable {P : Program} {w : World} {K : PySem.W.Frag} {mg : Str → Option Value} {base : Heap}
theorem scDraw : FnScope ["state", "size_here", "found", "turn", "cell", "mixed"] ["state", "size_here"] (defScope sDraw) := ⟨rfl, rfl, rfl, by decide +kernel, rfl, by decide +kernel, by decide +kernel⟩
theorem ok_draw {f : Addr} {fd : FuncData} (F : Fun K "_law_draw" "_law_draw" sDraw f fd) (mint : mg "int" = none) (mlen : mg "len" = none) : FnOk P w K mg base CX0 1 f fd ["state", "size_here"] spDraw := by
  refine F.ok scDraw (fun vs H Q E h => ?_) (fun cdv A outer s H vs Q E hr h => ?_)
  · obtain ⟨st, lg, cl, t, n, rfl, _⟩ := h
    rfl
  · obtain ⟨st, lg, cl, t, n, rfl, hn0, hn1, ht, S, q⟩ := h
    have hu := hu_of hr
    have hu64 := hr.units
    refine ⟨_, pss_cons (ps_while PassesOwn.never (pw_and (pt_cmpR op_eq (pe_dget hu (pv 0) pe_str (fun _ _ => rfl)) pe_int (nomark _)) (pw_and1 (pt_cmpR (op_neD hu64) (pe_dget hu (pv 0) pe_str (fun _ _ => rfl)) (pe_lst pa_nil) (nomark _)))).pt
        (pss_one (ps_dput hu (pv 0) pe_str (pe_bm PySem.F.plainAttrs_list PySem.F.slot_list_pop PySem.F.type_list_pop mt_popAt (pe_dget hu (pv 0) pe_str (fun _ _ => rfl)) (pa_cons pe_int pa_nil)) rfl)))
      (pss_cons (ps_if (pt_cmpR op_gt (pe_dget hu (pv 0) pe_str (fun _ _ => rfl)) pe_int (nomark _))
        (pss_cons (ps_set (i := 2) scDraw.nd rfl (Or.inl rfl) (pe_op op_mod (pe_callTy call_int1 (by rfl) mint (by decide +kernel) (pa_cons (pe_dget hu (pv 0) pe_str (fun _ _ => rfl)) pa_nil)) (pv 1)))
          (pss_cons (ps_dput hu (pv 0) pe_str (pe_op op_fdiv (pe_dget hu (pv 0) pe_str (fun _ _ => rfl)) (pv 1)) rfl)
            (pss_one (ps_ret (pv 2))))) pss_nil)
      (pss_cons (ps_set (i := 3) scDraw.nd rfl (Or.inl rfl) (pe_op op_add (pe_dget hu (pv 0) pe_str (fun _ _ => rfl)) pe_int))
      (pss_cons (ps_dput hu (pv 0) pe_str (pv 3) rfl)
      (pss_cons (ps_set (i := 4) scDraw.nd rfl (Or.inl rfl) (pe_ifExp (pt_cmpR (op_neD hu64) (pe_dget hu (pv 0) pe_str (fun _ _ => rfl)) (pe_lst pa_nil) (nomark _))
        (pe_ix ix_list (pe_dget hu (pv 0) pe_str (fun _ _ => rfl)) (pe_op op_mod (pe_callTy call_int1 (by rfl) mint (by decide +kernel) (pa_cons (pv 3) pa_nil)) (pe_callB call_len_seq (by rfl) mlen PySem.boot_len (pa_cons (pe_dget hu (pv 0) pe_str (fun _ _ => rfl)) pa_nil))) (fun _ _ => rfl)) pe_int))
      (pss_cons (ps_set (i := 5) scDraw.nd rfl (Or.inl rfl) (pe_op op_mod (pe_callTy call_int1 (by rfl) mint (by decide +kernel) (pa_cons (pe_op op_pow (pe_op op_add (pe_op op_add (pe_op op_mod (pe_callTy call_int1 (by rfl) mint (by decide +kernel) (pa_cons (pv 4) pa_nil)) pe_int) (pe_op op_mul pe_int (pv 3))) pe_int) pe_int) pa_nil)) pe_int))
      (pss_one (ps_ret (pe_op op_mod (pe_callTy call_int1 (by rfl) mint (by decide +kernel) (pa_cons (pe_op op_fdiv (pe_op op_mod (pe_callTy call_int1 (by rfl) mint (by decide +kernel) (pa_cons (pe_op op_pow (pe_op op_add (pv 5) (pe_op op_mul pe_int (pv 3))) pe_int) pa_nil)) pe_int) pe_int) pa_nil)) (pv 1))))))))), ?_⟩
    obtain ⟨ls0, cs, left0, turn, S0⟩ := S
    refine ⟨fun m σ H1 => σ = [some (.ref st), some (.int n), none, none, none, none] ∧ ∃ ls left, m = ls.length ∧ StAt H1 st lg cl ls cs left turn t ∧ But st lg H H1, ⟨_, rfl, ls0, left0, rfl, S0, But.refl _ _ _⟩, fun m σ H1 hW => ?_⟩
    obtain ⟨rfl, ls, left, rfl, S1, B1⟩ := hW
    refine ⟨_, rfl, st, _, rfl, S1.gLeft, rfl, _, rfl, ite2 (fun e => ?ga) (fun e => iteF ?gb)⟩
    case' ga =>
      refine ⟨_, rfl, st, _, rfl, S1.gLarge, Nat.zero_le _, fun p np => ⟨.list (ls.map PyData.int), .list [], .lst (S1.keep (same_new np)).lstL (dp_ints ls), .lst (.inl (.inl upd_same)) .nil, PySem.W.ke_shaped_ints ls, PySem.W.ke_shaped_ints [], _, rfl, ?_⟩⟩
      have S1 := S1.keep (same_new (o := .lst []) np)
      have B1 := B1.trans (But.of (same_new (o := .lst []) np))
      rcases ls with _ | ⟨x, r⟩
      case cons =>
        refine iteT ⟨fun σ' H' => σ' = [some (.ref st), some (.int n), none, none, none, none] ∧ ∃ left', StAt H' st lg cl r cs left' turn t ∧ But st lg H H', fun σ' H' ⟨e', left', S', B'⟩ => ⟨r.length, Nat.lt_succ_self _, e', r, left', rfl, S', B'⟩, ?_⟩
        have S3 := S1.pop
        exact ⟨_, rfl, st, _, rfl, S1.gLarge, .inl ⟨rfl, _, S1.lstL⟩, lg, _, 0, 0, .int x, rfl, rfl, S1.l, by decide, by decide, seq0 _, rfl, _, rfl, st, _, rfl, S3.pLeft x, rfl, x, S3.setLeft (S1.lp x (List.mem_cons_self ..)), B1.trans (but_lg.trans but_st)⟩
      refine iteF ?_
    all_goals
      -- if state['left'] > 0
      refine ⟨_, rfl, st, _, rfl, S1.gLeft, _, _, rfl, rfl, _, rfl, ite2 (fun e => ?_) (fun e => ?_)⟩
      · -- some are left
        refine ⟨_, rfl, st, _, rfl, S1.gLeft, .inl ⟨_, rfl, _, rfl, _, _, rfl, rfl, hn0, ?_⟩⟩
        refine ⟨_, rfl, st, _, rfl, S1.gLeft, _, rfl, _, _, rfl, rfl, ⟨hn0, hn1⟩, _, rfl, st, _, rfl, S1.pLeft _, _, rfl, ?_⟩
        exact q _ _ (Int.emod_nonneg _ (Int.ne_of_gt hn0)) (Int.emod_lt_of_pos _ hn0) ⟨_, _, _, _, (S1.setLeft (Int.ediv_nonneg S1.l0 (Int.le_of_lt hn0))).more⟩ (B1.trans but_st)
      · -- turn = state['turn'] + 1; state['turn'] = turn
        refine ⟨_, rfl, st, _, rfl, S1.gTurn, _, _, rfl, rfl, _, rfl, _, rfl, st, _, rfl, S1.pTurn _, ?_⟩
        have S2 := S1.setTurn
        have B2 := B1.trans (but_st (o := .dK (stD lg cl left (turn + 1))))
        refine ⟨_, rfl, st, _, rfl, S2.gCells, Nat.zero_le _, fun p2 np2 => ⟨.list (cs.map PyData.int), .list [], .lst (S2.keep (same_new np2)).lstC (dp_ints cs), .lst (.inl (.inl upd_same)) .nil, PySem.W.ke_shaped_ints cs, PySem.W.ke_shaped_ints [], _, rfl, ?_⟩⟩
        have S3 := S2.keep (same_new (o := .lst []) np2)
        have B3 := B2.trans (But.of (same_new (o := .lst []) np2))
        have tb := S1.tt
        have t0 := S1.t0
        rcases cs with _ | ⟨y, r⟩
        case' cons =>
          have hpos : (0 : Int) < ((y :: r).map V.int).length := by
            rw [List.length_map, List.length_cons]
            omega
          have i0 : 0 ≤ (turn + 1) % (((y :: r).map V.int).length : Int) := Int.emod_nonneg _ (Int.ne_of_gt hpos)
          have i1 : (turn + 1) % (((y :: r).map V.int).length : Int) < ((y :: r).map V.int).length := Int.emod_lt_of_pos _ hpos
          obtain ⟨j, hj⟩ : ∃ j : Nat, (turn + 1) % (((y :: r).map V.int).length : Int) = j := ⟨_, (Int.toNat_of_nonneg i0).symm⟩
          rw [hj] at i1
          have j1 : j < (y :: r).length := by
            rw [List.length_map] at i1
            omega
          have hat : atI ((y :: r).map V.int) ((turn + 1) % (((y :: r).map V.int).length : Int)) = some (.int ((y :: r)[j])) := by
            rw [hj]
            refine atI_nat ?_
            rw [List.getElem?_map, List.getElem?_eq_getElem j1]
            rfl
          refine iteT ⟨_, rfl, st, _, rfl, S3.gCells, _, rfl, .inl ⟨_, rfl, _, rfl, st, _, rfl, S3.gCells, cl, _, rfl, .inl S3.lstC, _, _, rfl, rfl, hpos, cl, _, _, _, rfl, rfl, S3.lstC, hat, ?_⟩⟩
        case' nil => refine iteF ?_
        all_goals
          -- mixed = ..
          refine ⟨_, rfl, .inl ⟨_, rfl, _, _, rfl, rfl, (by show (0 : Int) < 2147483563; decide), _, rfl, _, _, rfl, rfl, .inl ⟨by decide, by decide⟩, _, _, rfl, rfl, _, _, rfl, rfl, _, _, rfl, rfl, ⟨by decide, by decide, small1 _ t0 tb ht⟩, .inl ⟨_, rfl, _, _, rfl, rfl, (by show (0 : Int) < 2147483629; decide), ?_⟩⟩⟩
          -- return ..
          refine ⟨_, rfl, _, rfl, _, _, rfl, rfl, .inl ⟨by decide, by decide⟩, _, _, rfl, rfl, _, _, rfl, rfl, ⟨by decide, by decide, small2 _ t0 tb ht⟩, .inl ⟨_, rfl, _, _, rfl, rfl, (by show (0 : Int) < 2147483579; decide), _, _, rfl, rfl, ⟨by decide, by decide⟩, .inl ⟨_, rfl, _, rfl, _, _, rfl, rfl, hn0, ?_⟩⟩⟩
          exact q _ _ (Int.emod_nonneg _ (Int.ne_of_gt hn0)) (Int.emod_lt_of_pos _ hn0) ⟨_, _, _, _, S3⟩ B3
/-! ### _law_begun -/
def absI (z : Int) : Int := if z < 0 then -z else z
theorem absI_nonneg (z : Int) : 0 ≤ absI z := by
  unfold absI
  split <;> omega
def big (cs : List Int) : List Int := (cs.filter fun c => decide (10 ^ 18 ≤ c)).map fun c => c - 10 ^ 18
theorem big_nonneg (cs : List Int) : ∀ x ∈ big cs, 0 ≤ x := fun x hx => by
  obtain ⟨y, hy, rfl⟩ := List.mem_map.mp hx
  have h := of_decide_eq_true (List.mem_filter.mp hy).2
  omega
theorem big_len (cs : List Int) : (big cs).length ≤ cs.length := by
  unfold big
  rw [List.length_map]
  exact List.length_filter_le _ _
theorem big_snoc (cs : List Int) (c : Int) : big (cs ++ [c]) = if (10 ^ 18 ≤ c) then big cs ++ [c - 10 ^ 18] else big cs := by
  unfold big
  rw [List.filter_append, List.map_append]
  by_cases h : (10 ^ 18 : Int) ≤ c
  · rw [if_pos h, List.filter_cons_of_pos (by simpa using h)]
    rfl
  · rw [if_neg h, List.filter_cons_of_neg (by simpa using h)]
    simp
theorem take_snoc {α : Type} {xs : List α} {i : Nat} {x : α} (h : xs[i]? = some x) : xs.take (i + 1) = xs.take i ++ [x] := by
  rw [List.take_add_one, h]
  rfl
def spBegun (K : PySem.W.Frag) : Sp := fun vs H Q _ => ∃ (a : Addr) (ns : List Int), vs = [.ref a] ∧ SqL K H a (ns.map V.int) ∧ ns.length ≤ 63 ∧
  ∀ (st lg cl : Addr) (H' : Hp), StOk H' st lg cl 0 → Same H H' → H st = none → H lg = none → H cl = none → Q (.ref st) H'
theorem scBegun : FnScope ["script", "cells_here", "large", "cell"] ["script"] (defScope sBegun) := ⟨rfl, rfl, rfl, by decide +kernel, rfl, by decide +kernel, by decide +kernel⟩
theorem ok_begun {f : Addr} {fd : FuncData} (F : Fun K "_law_begun" "_law_begun" sBegun f fd) (mabs : mg "abs" = none) : FnOk P w K mg base CX0 1 f fd ["script"] (spBegun K) := by
  refine F.ok scBegun (fun vs H Q E h => ?_) (fun cdv A outer s H vs Q E hr h => ?_)
  · obtain ⟨a, ns, rfl, _⟩ := h
    rfl
  · obtain ⟨a, ns, rfl, hS, hl, q⟩ := h
    refine ⟨_, pss_cons (ps_setLc (i := 1) (own := [("cell", 3)]) (g := gName 3) (tt := tYes) rfl scBegun.nd rfl rfl (sw_true rfl rfl rfl (by decide +kernel)) (pi_list (pv 0)) (blkOk_by (N := ["script", "cells_here", "large", "cell"]) (sc := defScope sBegun) (by decide +kernel))
        (fun _ _ _ _ _ => pg_name (i := 3) scBegun.nd rfl (Or.inl rfl)) (fun _ _ _ _ _ => pts_nil) (fun _ _ _ _ _ => pe_callB call_abs (by rfl) mabs (by decide +kernel) (pa_cons (pv 3) pa_nil)))
      (pss_cons (ps_setLc (i := 2) (own := [("cell", 3)]) (g := gName 3) rfl scBegun.nd rfl rfl (sw_true rfl rfl rfl (by decide +kernel)) (pi_list (pv 1)) (blkOk_by (N := ["script", "cells_here", "large", "cell"]) (sc := defScope sBegun) (by decide +kernel))
        (fun _ _ _ _ _ => pg_name (i := 3) scBegun.nd rfl (Or.inl rfl)) (fun _ _ _ _ _ => pts_one (pt_cmpR op_ge (pv 3) (pe_op op_pow pe_int pe_int) (nomark _))) (fun _ _ _ _ _ => pe_op op_sub (pv 3) (pe_op op_pow pe_int pe_int)))
      (pss_one (ps_ret (pe_disp (pps_cons pe_str (pv 2) (pps_cons pe_str (pv 1) (pps_cons pe_str pe_int (pps_cons pe_str pe_int pps_nil)))) (by rfl) (by rfl) (fun z => by cases z) (by decide))))), ?_⟩
    refine ⟨_, rfl, a, rfl, ⟨_, hS⟩, fun D nD => lc_list (K := K) (a := a) (xs := ns.map V.int) (fun i H1 => Same H H1 ∧ H1 D = some (.lst (((ns.take i).map absI).map V.int))) ⟨same_new nD, upd_same⟩ (fun i H1 _ h1 => h1.1.seq hS) (fun i x H1 hi ⟨s1, e1⟩ => ?_) (fun H1 ⟨s1, e1⟩ => ?_)⟩
    · rw [List.getElem?_map] at hi
      obtain ⟨z, hz, rfl⟩ := Option.map_eq_some_iff.mp hi
      have hlt : i < ns.length := (List.getElem?_eq_some_iff.mp hz).1
      refine ⟨rfl, _, rfl, z, rfl, _, e1, ?_, fun b o e => ?_, ?_⟩
      · rw [List.length_map, List.length_map, List.length_take]
        exact small1000 (by omega)
      · rw [upd_ne (ne_of_none e nD)]
        exact s1 b o e
      · rw [upd_same, take_snoc hz, List.map_append, List.map_append]
        rfl
    · have e1' : H1 D = some (.lst ((ns.map absI).map V.int)) := by
        rw [List.length_map, List.take_length] at e1
        exact e1
      clear e1
      have hS1 : SqL K H1 D ((ns.map absI).map V.int) := .inl (.inl e1')
      refine ⟨_, rfl, D, rfl, ⟨_, hS1⟩, fun D2 nD2 => lc_list (K := K) (a := D) (xs := (ns.map absI).map V.int) (fun i H2 => Same H1 H2 ∧ H2 D2 = some (.lst ((big ((ns.map absI).take i)).map V.int))) ⟨same_new nD2, upd_same⟩ (fun i H2 _ h2 => h2.1.seq hS1) (fun i x H2 hi ⟨s2, e2⟩ => ?_) (fun H2 ⟨s2, e2⟩ => ?_)⟩
      · rw [List.getElem?_map] at hi
        obtain ⟨z, hz, rfl⟩ := Option.map_eq_some_iff.mp hi
        have hlen : ((big ((ns.map absI).take i)).map V.int).length < sizeLine := by
          have h1 := big_len ((ns.map absI).take i)
          rw [List.length_take, List.length_map] at h1
          rw [List.length_map]
          exact small1000 (by omega)
        refine ⟨rfl, _, rfl, _, _, rfl, rfl, ⟨by decide, by decide, by decide⟩, _, _, rfl, rfl, _, rfl, ite2 (fun hc => ?_) (fun hc => ?_)⟩
        · have hc : (10 ^ 18 : Int) ≤ z := of_decide_eq_true hc
          refine ⟨_, rfl, _, _, rfl, rfl, ⟨by decide, by decide, by decide⟩, _, _, rfl, rfl, _, e2, hlen, fun b o e => ?_, ?_⟩
          · rw [upd_ne (ne_of_none e nD2)]
            exact s2 b o e
          · rw [upd_same, take_snoc hz, big_snoc, if_pos hc, List.map_append]
            rfl
        · have hc : ¬ (10 ^ 18 : Int) ≤ z := fun z' => hc (decide_eq_true z')
          refine ⟨s2, ?_⟩
          rw [take_snoc hz, big_snoc, if_neg hc]
          exact e2
      · have e2' : H2 D2 = some (.lst ((big (ns.map absI)).map V.int)) := by
          rw [List.length_map, List.take_length] at e2
          exact e2
        have e1'' : H2 D = some (.lst ((ns.map absI).map V.int)) := s2 _ _ e1'
        intro p np
        refine ⟨_, rfl, _, rfl, upd_same, stD D2 D 0 0, rfl, (by show 4 ≤ 15; decide), ?_⟩
        rw [merge_st]
        have n1 : D ≠ D2 := fun z => by
          rw [z, nD2] at e1'
          cases e1'
        have up : upd (upd H2 p (HO.dK [])) p (.dK (stD D2 D 0 0)) = upd H2 p (.dK (stD D2 D 0 0)) := by
          funext b
          by_cases hb : b = p
          · rw [hb, upd_same, upd_same]
          · rw [upd_ne hb, upd_ne hb, upd_ne hb]
        rw [up]
        refine q p D2 D _ ⟨big (ns.map absI), ns.map absI, 0, 0, upd_same, ?_, ?_, big_nonneg _, Int.le_refl _, Int.le_refl _, Int.le_refl _, ?_, ?_, n1.symm⟩ (fun b o e => same_new np _ _ (s2 _ _ (s1 _ _ e))) (s1.free (s2.free np)) (s1.free nD2) nD
        · rw [upd_ne (ne_of_none e2' np)]
          exact e2'
        · rw [upd_ne (ne_of_none e1'' np)]
          exact e1''
        · have h1 := big_len (ns.map absI)
          rw [List.length_map] at h1
          omega
        · rw [List.length_map]
          exact hl

/-! ### _law_pick -/
def spPick (K : PySem.W.Frag) : Sp := fun vs H Q _ => ∃ (st lg cl a : Addr) (t : Nat) (xs : List V), vs = [.ref st, .ref a] ∧ 0 < xs.length ∧ xs.length ≤ 1000 ∧ a ≠ st ∧ a ≠ lg ∧ SqL K H a xs ∧ t < 1000000000 ∧ StOk H st lg cl t ∧
  ∀ (x : V) (H' : Hp), x ∈ xs → StOk H' st lg cl (t + 1) → But st lg H H' → Q x H'
theorem But.seq {st lg a : Addr} {H H' : Hp} {xs : List V} (k : But st lg H H') (n1 : a ≠ st) (n2 : a ≠ lg) (h : SqL K H a xs) : SqL K H' a xs := by
  rcases h with (h | ⟨o, h⟩) | h
  · exact .inl (.inl (k _ _ h n1 n2))
  · exact .inl (.inr ⟨o, k _ _ h n1 n2⟩)
  · exact .inr h
theorem scPick : FnScope ["state", "several"] ["state", "several"] (defScope sPick) := ⟨rfl, rfl, rfl, by decide +kernel, rfl, by decide +kernel, by decide +kernel⟩
theorem ok_pick {f fD : Addr} {fd fdD : FuncData} (F : Fun K "_law_pick" "_law_pick" sPick f fd) (mlen : mg "len" = none) (GD : FnOk P w K mg base CX0 1 fD fdD ["state", "size_here"] spDraw) (kD : PySem.W.keepIn K (.ref fD) = true) (bD : Binds K fdD ["state", "size_here"] []) (mD : mg "_law_draw" = some (.ref fD)) :
    FnOk P w K mg base CX0 2 f fd ["state", "several"] (spPick K) := by
  refine F.ok scPick (fun vs H Q E h => ?_) (fun cdv A outer s H vs Q E hr h => ?_)
  · obtain ⟨st, lg, cl, a, t, xs, rfl, _⟩ := h
    rfl
  · obtain ⟨st, lg, cl, a, t, xs, rfl, h0, h1, n1, n2, hS, ht, S, q⟩ := h
    refine ⟨_, pss_one (ps_ret (pe_ix ix_list (pv 1) (pe_call GD hr (by rfl) mD kD bD .nil pass0 (pa_cons (pv 0) (pa_cons (pe_callB call_len_seq (by rfl) mlen PySem.boot_len (pa_cons (pv 1) pa_nil)) pa_nil))) (fun _ _ => rfl))), ?_⟩
    refine ⟨_, rfl, _, rfl, _, rfl, a, xs, rfl, .inl hS, st, lg, cl, t, _, rfl, by omega, by omega, ht, S, fun k H' k0 k1 S' B' => ?_⟩
    obtain ⟨j, rfl⟩ : ∃ j : Nat, k = j := ⟨k.toNat, (Int.toNat_of_nonneg k0).symm⟩
    have j1 : j < xs.length := by omega
    exact ⟨a, xs, _, xs[j], rfl, rfl, B'.seq n1 n2 hS, atI_nat (List.getElem?_eq_getElem j1), q _ _ (List.getElem_mem j1) S' B'⟩
end
end K02

set_option Elab.async false
set_option linter.all false
set_option maxRecDepth 100000
/-! What counts as a number, a bit, a reading, a tuple of bits. -/
namespace K02
open PySem PySem.Spec L2
open PyProof.Rows GenW GxR
open LamX (ExtN)
abbrev sIsNumber : Stmt := top 5
abbrev sIsBelow : Stmt := top 6
abbrev sIsBit : Stmt := top 7
abbrev sIsReading : Stmt := top 8
abbrev sIsRow : Stmt := top 9
abbrev sIsTupleOf : Stmt := top 10
abbrev sIsBits : Stmt := top 11

/-! ### kinds of values -/
def kindsL : List String := ["NoneType", "bool", "int", "str", "list", "tuple", "dict"]
def kitR (t u : String) : Bool := decide (t = u) || (decide (t = "bool") && decide (u = "int"))
theorem kit_all : (kindsL.all fun t => ["int", "bool", "list", "tuple"].all fun u => decide (kitB t u = some (kitR t u))) = true := by decide +kernel
theorem kit_of1 {K : PySem.W.Frag} {t u : String} (ht : t ∈ kindsL) (hu : u ∈ ["int", "bool", "list", "tuple"]) : PySem.W.kitOne K (.type t) (.type u) = some (kitR t u) := by
  have h1 := List.all_eq_true.mp kit_all t ht
  exact kit_ty (of_decide_eq_true (List.all_eq_true.mp h1 u hu))
/-- x is of the kind t -/
structure Ty1 (K : PySem.W.Frag) (H : Hp) (x : V) (t : String) : Prop where
  ty : TyX K H x (.type t)
  mem : t ∈ kindsL
def bel (x : V) (l : Int) : Bool := match x with
  | .int i => decide (0 ≤ i) && decide (i < l)
  | _ => false
theorem tyInt {K : PySem.W.Frag} {H : Hp} {x : V} {tv : Value} (h : TyX K H x tv) (e : tv = .type "int") : ∃ i, x = .int i := by
  cases h with
  | base b =>
    cases b <;> first
      | exact ⟨_, rfl⟩
      | exact absurd (Value.type.inj e) (by decide)
      | cases e
  | byt => exact absurd (Value.type.inj e) (by decide)
  | set => exact absurd (Value.type.inj e) (by decide)
  | kList => exact absurd (Value.type.inj e) (by decide)
  | kTuple => exact absurd (Value.type.inj e) (by decide)
  | kDict => exact absurd (Value.type.inj e) (by decide)
  | fTuple => exact absurd (Value.type.inj e) (by decide)
  | fDict => exact absurd (Value.type.inj e) (by decide)
theorem Ty1.int {K : PySem.W.Frag} {H : Hp} {x : V} (h : Ty1 K H x "int") : ∃ i, x = .int i := tyInt h.ty rfl
theorem Ty1.notInt {K : PySem.W.Frag} {H : Hp} {x : V} {t : String} (h : Ty1 K H x t) (n : t ≠ "int") (l : Int) : bel x l = false := by
  obtain ⟨h, _⟩ := h
  cases x with
  | int i =>
    cases h with
    | base b =>
      cases b
      exact absurd rfl n
  | _ => rfl
theorem Ty1.ext {K : PySem.W.Frag} {H H' : Hp} {x : V} {t : String} (h : Ty1 K H x t) (e : ExtN H H') : Ty1 K H' x t := by
  obtain ⟨h, m⟩ := h
  refine ⟨?_, m⟩
  cases h with
  | base b =>
    refine .base ?_
    cases b with
    | non => exact .non
    | bl b => exact .bl b
    | int i => exact .int i
    | str z => exact .str z
    | flt z => exact .flt z
    | lst q => exact .lst (e _ _ q fun ps z => by cases z)
    | frz q => exact .frz (e _ _ q fun ps z => by cases z)
    | tup q => exact .tup (e _ _ q fun ps z => by cases z)
    | dK q => exact .dK (e _ _ q fun ps z => by cases z)
    | dT q => exact .dT (e _ _ q fun ps z => by cases z)
  | byt b => exact .byt b
  | set q => exact .set (e _ _ q fun ps z => by cases z)
  | kList q c => exact .kList q c
  | kTuple q c => exact .kTuple q c
  | kDict q c => exact .kDict q c
  | fTuple q => exact .fTuple (e _ _ q fun ps z => by cases z)
  | fDict q => exact .fDict (e _ _ q fun ps z => by cases z)
theorem extN_seqT {K : PySem.W.Frag} {H H' : Hp} {a : Addr} {xs : List V} (e : ExtN H H') (h : SqT K H a xs) : SqT K H' a xs := by
  rcases h with (h | ⟨o, h⟩) | h
  · exact .inl (.inl (e _ _ h fun ps z => by cases z))
  · exact .inl (.inr ⟨o, e _ _ h fun ps z => by cases z⟩)
  · exact .inr h
theorem extN_seqL {K : PySem.W.Frag} {H H' : Hp} {a : Addr} {xs : List V} (e : ExtN H H') (h : SqL K H a xs) : SqL K H' a xs := by
  rcases h with (h | ⟨o, h⟩) | h
  · exact .inl (.inl (e _ _ h fun ps z => by cases z))
  · exact .inl (.inr ⟨o, e _ _ h fun ps z => by cases z⟩)
  · exact .inr h
theorem extN_same {H H' : Hp} (k : Same H H') : ExtN H H' := fun b o e _ => k b o e
theorem extN_tabbed {H H' : Hp} {P : Addr} (k : Tabbed P H H') (t : TabG H P) : ExtN H H' := fun b o e n => by
  by_cases hb : b = P
  · obtain ⟨ps, q, _⟩ := t
    rw [hb, q] at e
    exact absurd (Option.some.inj e).symm (n ps)
  · rw [k.2 b hb]
    exact e

/-! ### what stands but the tables of code objects, which may grow -/
def TabsG (TT : List Addr) (H : Hp) : Prop := ∀ P ∈ TT, TabG H P
structure Ex (TT : List Addr) (H H' : Hp) : Prop where
  keep : ∀ b o, b ∉ TT → H b = some o → H' b = some o
  tabs : TabsG TT H → TabsG TT H'
theorem Ex.refl (TT : List Addr) (H : Hp) : Ex TT H H := ⟨fun _ _ _ e => e, fun t => t⟩
theorem Ex.trans {TT : List Addr} {H H1 H2 : Hp} (a : Ex TT H H1) (b : Ex TT H1 H2) : Ex TT H H2 := ⟨fun c o n e => b.keep c o n (a.keep c o n e), fun t => b.tabs (a.tabs t)⟩
theorem Ex.same {TT : List Addr} {H H' : Hp} (k : Same H H') : Ex TT H H' := ⟨fun b o _ e => k b o e, fun t P hP => by
  obtain ⟨ps, q, r⟩ := t P hP
  exact ⟨ps, k _ _ q, r⟩⟩
theorem Ex.extN {TT : List Addr} {H H' : Hp} (x : Ex TT H H') (t : TabsG TT H) : ExtN H H' := fun b o e n => by
  by_cases hb : b ∈ TT
  · obtain ⟨ps, q, _⟩ := t b hb
    rw [q] at e
    exact absurd (Option.some.inj e).symm (n ps)
  · exact x.keep b o hb e
theorem Ex.tabbed {TT : List Addr} {H H' : Hp} {P : Addr} (hP : P ∈ TT) (k : Tabbed P H H') : Ex TT H H' := ⟨fun b o n e => by
  rw [k.2 b fun z => n (by rw [z]; exact hP)]
  exact e, fun t Q hQ => by
  by_cases hb : Q = P
  · rw [hb]
    exact k.1
  · obtain ⟨ps, q, r⟩ := t Q hQ
    exact ⟨ps, by rw [k.2 Q hb]; exact q, r⟩⟩

section
variable {P : Program} {w : World} {K : PySem.W.Frag} {mg : Str → Option Value} {base : Heap}
/-- a def that makes generator expressions: its code object stands at c -/
theorem okC {x qual : Str} {st : Stmt} {f c : Addr} {fd : FuncData} {N ps : List Str} {k : Nat} {sp : Sp} (F : Fun K x qual st f fd) (hc : fd.code = .ref c) (S : FnScope N ps (defScope st)) (len : ∀ vs H Q E, sp vs H Q E → vs.length = ps.length)
    (hbody : ∀ (A : Around) (outer : List Env) (s : Shared) (H : Hp) (vs : List V) (Q : VK) (E : XK), Room k (A.deeper (envOfC qual (defScope st) s.heap.objs.size f (.ref c))) → sp vs H Q E →
      ∃ t, PSs (cxOf CX0 P w K mg base N qual (defScope st) f (.ref c) A outer s H E).nox (defBody st) t ∧ t { nx := fun _ H' => Q .non H', rt := Q } (start N vs) H) : FnOk P w K mg base CX0 (k + 1) f fd ps sp := by
  obtain ⟨oc, od, kV, doc, pm, an, cdv, ct, osl, rfl, lk, hcd⟩ := F.ex
  have e : cdv = .ref c := hc
  subst e
  refine fn_of lk hcd S len fun A outer s H vs Q E hr hsp => ?_
  obtain ⟨t, h, q⟩ := hbody A outer s H vs Q E hr hsp
  exact ⟨t, h.nox, q⟩

def spNumber (K : PySem.W.Frag) : Sp := fun vs H Q _ => ∃ (x : V) (t : String), vs = [x] ∧ Ty1 K H x t ∧ Q (.bl (decide (t = "int"))) H
theorem scNumber : FnScope ["thing"] ["thing"] (defScope sIsNumber) := ⟨rfl, rfl, rfl, by decide +kernel, rfl, by decide +kernel, by decide +kernel⟩
theorem ok_number {f : Addr} {fd : FuncData} (F : Fun K "is_number" "is_number" sIsNumber f fd) (mi : mg "isinstance" = none) (mint : mg "int" = none) (mbool : mg "bool" = none) : FnOk P w K mg base CX0 1 f fd ["thing"] (spNumber K) := by
  refine F.ok scNumber (fun vs H Q E h => ?_) (fun cdv A outer s H vs Q E hr h => ?_)
  · obtain ⟨x, t, rfl, _⟩ := h
    rfl
  · obtain ⟨x, t, rfl, ht, q⟩ := h
    refine ⟨_, pss_one (ps_ret (pe_and (pe_callB call_isi (by rfl) mi (by decide +kernel) (pa_cons (pv 0) (pa_cons (pe_bltn (v := .ty "int") (u := .type "int") (by rfl) mint (by decide +kernel) rfl) pa_nil)))
      (pe_one (pe_not (pe_callB call_isi (by rfl) mi (by decide +kernel) (pa_cons (pv 0) (pa_cons (pe_bltn (v := .ty "bool") (u := .type "bool") (by rfl) mbool (by decide +kernel) rfl) pa_nil))))))), ?_⟩
    refine ⟨_, rfl, x, .ty "int", _, _, _, rfl, .ty "int", ht.ty, kit_of1 ht.mem (by decide), _, rfl, ?_⟩
    by_cases h1 : t = "int"
    · subst h1
      exact ⟨_, rfl, x, .ty "bool", _, _, _, rfl, .ty "bool", ht.ty, kit_of1 ht.mem (by decide), _, rfl, q⟩
    · by_cases h2 : t = "bool"
      · subst h2
        exact ⟨_, rfl, x, .ty "bool", _, _, _, rfl, .ty "bool", ht.ty, kit_of1 ht.mem (by decide), _, rfl, q⟩
      · have e : kitR t "int" = false := by
          unfold kitR
          rw [decide_eq_false h1, decide_eq_false h2]
          rfl
        rw [e]
        rw [decide_eq_false h1] at q
        exact iteF q

def spBelow (K : PySem.W.Frag) : Sp := fun vs H Q _ => ∃ (x : V) (t : String) (l : Int), vs = [x, .int l] ∧ Ty1 K H x t ∧ Q (.bl (bel x l)) H
theorem scBelow : FnScope ["thing", "limit"] ["thing", "limit"] (defScope sIsBelow) := ⟨rfl, rfl, rfl, by decide +kernel, rfl, by decide +kernel, by decide +kernel⟩
theorem ok_below {f fN : Addr} {fd fdN : FuncData} (F : Fun K "is_below" "is_below" sIsBelow f fd) (GN : FnOk P w K mg base CX0 1 fN fdN ["thing"] (spNumber K)) (kN : PySem.W.keepIn K (.ref fN) = true) (bN : Binds K fdN ["thing"] []) (mN : mg "is_number" = some (.ref fN)) :
    FnOk P w K mg base CX0 2 f fd ["thing", "limit"] (spBelow K) := by
  refine F.ok scBelow (fun vs H Q E h => ?_) (fun cdv A outer s H vs Q E hr h => ?_)
  · obtain ⟨x, t, l, rfl, _⟩ := h
    rfl
  · obtain ⟨x, t, l, rfl, ht, q⟩ := h
    refine ⟨_, pss_one (ps_ret (pe_and (pe_call GN hr (by rfl) mN kN bN .nil pass0 (pa_cons (pv 0) pa_nil)) (pe_one (pe_chain op_le op_lt pe_int (pv 0) (pv 1))))), ?_⟩
    refine ⟨_, rfl, x, t, rfl, ht, _, rfl, ?_⟩
    by_cases h1 : t = "int"
    · subst h1
      obtain ⟨i, rfl⟩ := ht.int
      refine ⟨_, rfl, _, _, rfl, rfl, _, rfl, ite2 (fun hc => ?_) (fun hc => ?_)⟩
      · refine ⟨_, rfl, _, _, rfl, rfl, ?_⟩
        have e : bel (.int i) l = decide (i < l) := by
          show (decide (0 ≤ i) && decide (i < l)) = _
          rw [hc]
          rfl
        rw [e] at q
        exact q
      · have e : bel (.int i) l = false := by
          show (decide (0 ≤ i) && decide (i < l)) = _
          rw [Bool.not_eq_true] at hc
          rw [hc]
          rfl
        rw [e] at q
        exact q
    · rw [ht.notInt h1] at q
      rw [decide_eq_false h1]
      exact iteF q

def spBit (K : PySem.W.Frag) : Sp := fun vs H Q _ => ∃ (x : V) (t : String), vs = [x] ∧ Ty1 K H x t ∧ Q (.bl (bel x 2)) H
theorem scBit : FnScope ["thing"] ["thing"] (defScope sIsBit) := ⟨rfl, rfl, rfl, by decide +kernel, rfl, by decide +kernel, by decide +kernel⟩
theorem ok_bit {f fB : Addr} {fd fdB : FuncData} (F : Fun K "is_bit" "is_bit" sIsBit f fd) (GB : FnOk P w K mg base CX0 2 fB fdB ["thing", "limit"] (spBelow K)) (kB : PySem.W.keepIn K (.ref fB) = true) (bB : Binds K fdB ["thing", "limit"] []) (mB : mg "is_below" = some (.ref fB)) :
    FnOk P w K mg base CX0 3 f fd ["thing"] (spBit K) := by
  refine F.ok scBit (fun vs H Q E h => ?_) (fun cdv A outer s H vs Q E hr h => ?_)
  · obtain ⟨x, t, rfl, _⟩ := h
    rfl
  · obtain ⟨x, t, rfl, ht, q⟩ := h
    refine ⟨_, pss_one (ps_ret (pe_call GB hr (by rfl) mB kB bB .nil pass0 (pa_cons (pv 0) (pa_cons pe_int pa_nil)))), ?_⟩
    exact ⟨_, rfl, x, t, 2, rfl, ht, q⟩

def rdB (x : V) : Bool := decide (x = .non) || bel x 2
def spReading (K : PySem.W.Frag) : Sp := fun vs H Q _ => ∃ (x : V) (t : String), vs = [x] ∧ Ty1 K H x t ∧ Q (.bl (rdB x)) H
theorem scReading : FnScope ["thing"] ["thing"] (defScope sIsReading) := ⟨rfl, rfl, rfl, by decide +kernel, rfl, by decide +kernel, by decide +kernel⟩
theorem ok_reading {f fB : Addr} {fd fdB : FuncData} (F : Fun K "is_reading" "is_reading" sIsReading f fd) (GB : FnOk P w K mg base CX0 3 fB fdB ["thing"] (spBit K)) (kB : PySem.W.keepIn K (.ref fB) = true) (bB : Binds K fdB ["thing"] []) (mB : mg "is_bit" = some (.ref fB)) :
    FnOk P w K mg base CX0 4 f fd ["thing"] (spReading K) := by
  refine F.ok scReading (fun vs H Q E h => ?_) (fun cdv A outer s H vs Q E hr h => ?_)
  · obtain ⟨x, t, rfl, _⟩ := h
    rfl
  · obtain ⟨x, t, rfl, ht, q⟩ := h
    refine ⟨_, pss_one (ps_ret (pe_or (pe_cmpR op_isN (pv 0) pe_non (nomark _)) (pe_one (pe_call GB hr (by rfl) mB kB bB .nil pass0 (pa_cons (pv 0) pa_nil))))), ?_⟩
    refine ⟨_, rfl, rfl, _, rfl, ite2 (fun hc => ?_) (fun hc => ?_)⟩
    · have e : rdB x = true := by
        unfold rdB
        rw [hc]
        rfl
      rw [e] at q
      exact q
    · refine ⟨_, rfl, x, t, rfl, ht, ?_⟩
      have e : rdB x = bel x 2 := by
        unfold rdB
        rw [Bool.not_eq_true] at hc
        rw [hc]
        rfl
      rw [e] at q
      exact q

def spRow (K : PySem.W.Frag) : Sp := fun vs H Q _ => ∃ (x : V) (t : String), vs = [x] ∧ Ty1 K H x t ∧ ∀ H', Same H H' → Q (.bl (decide (t = "list" ∨ t = "tuple"))) H'
theorem scRow : FnScope ["thing"] ["thing"] (defScope sIsRow) := ⟨rfl, rfl, rfl, by decide +kernel, rfl, by decide +kernel, by decide +kernel⟩
theorem ok_row {f : Addr} {fd : FuncData} (F : Fun K "is_row" "is_row" sIsRow f fd) (mi : mg "isinstance" = none) (mlist : mg "list" = none) (mtuple : mg "tuple" = none) : FnOk P w K mg base CX0 1 f fd ["thing"] (spRow K) := by
  refine F.ok scRow (fun vs H Q E h => ?_) (fun cdv A outer s H vs Q E hr h => ?_)
  · obtain ⟨x, t, rfl, _⟩ := h
    rfl
  · obtain ⟨x, t, rfl, ht, q⟩ := h
    refine ⟨_, pss_one (ps_ret (pe_callB call_isiT (by rfl) mi (by decide +kernel) (pa_cons (pv 0) (pa_cons (pe_tup (pa_cons (pe_bltn (v := .ty "list") (u := .type "list") (by rfl) mlist (by decide +kernel) rfl) (pa_cons (pe_bltn (v := .ty "tuple") (u := .type "tuple") (by rfl) mtuple (by decide +kernel) rfl) pa_nil))) pa_nil)))), ?_⟩
    refine ⟨_, rfl, (by show 2 ≤ sizeLine; decide), fun p np => ?_⟩
    have ht' := ht.ext (extN_same (same_new (o := .tup [.ty "list", .ty "tuple"]) np))
    refine ⟨x, p, _, .type t, [.type "list", .type "tuple"], decide (t = "list" ∨ t = "tuple"), rfl, upd_same, .cons (.ty _) (.cons (.ty _) .nil), ht'.ty, ?_, q _ (same_new np)⟩
    refine kitAny_cons (kit_of1 ht.mem (by decide)) (fun hb => ?_) fun hb => ?_
    · refine kitAny_cons (kit_of1 ht.mem (by decide)) (fun hb2 => ?_) fun hb2 => ?_
      · have e1 : decide (t = "list") = false := by simpa [kitR] using hb
        have e2 : decide (t = "tuple") = false := by simpa [kitR] using hb2
        have e3 : decide (t = "list" ∨ t = "tuple") = false := by
          rw [Bool.decide_or, e1, e2]
          rfl
        rw [e3]
        rfl
      · have e2 : decide (t = "tuple") = true := by simpa [kitR] using hb2
        rw [Bool.decide_or, e2, Bool.or_true]
    · have e2 : decide (t = "list") = true := by simpa [kitR] using hb
      rw [Bool.decide_or, e2, Bool.true_or]

/-- where x is a tuple, xs are its items -/
def TupV (K : PySem.W.Frag) (H : Hp) (x : V) (t : String) (xs : List V) : Prop := t = "tuple" → ∃ a, x = .ref a ∧ SqT K H a xs
theorem TupV.ext {H H' : Hp} {x : V} {t : String} {xs : List V} (h : TupV K H x t xs) (e : ExtN H H') : TupV K H' x t xs := fun ht => by
  obtain ⟨a, q, s⟩ := h ht
  exact ⟨a, q, extN_seqT e s⟩
def spTupleOf (K : PySem.W.Frag) : Sp := fun vs H Q _ => ∃ (x : V) (t : String) (xs : List V) (n : Int), vs = [x, .int n] ∧ Ty1 K H x t ∧ TupV K H x t xs ∧ Q (.bl (decide (t = "tuple") && decide ((xs.length : Int) = n))) H
theorem scTupleOf : FnScope ["thing", "many"] ["thing", "many"] (defScope sIsTupleOf) := ⟨rfl, rfl, rfl, by decide +kernel, rfl, by decide +kernel, by decide +kernel⟩
theorem ok_tupleOf {f : Addr} {fd : FuncData} (F : Fun K "is_tuple_of" "is_tuple_of" sIsTupleOf f fd) (mi : mg "isinstance" = none) (mtuple : mg "tuple" = none) (mlen : mg "len" = none) : FnOk P w K mg base CX0 1 f fd ["thing", "many"] (spTupleOf K) := by
  refine F.ok scTupleOf (fun vs H Q E h => ?_) (fun cdv A outer s H vs Q E hr h => ?_)
  · obtain ⟨x, t, xs, n, rfl, _⟩ := h
    rfl
  · obtain ⟨x, t, xs, n, rfl, ht, hx, q⟩ := h
    refine ⟨_, pss_one (ps_ret (pe_and (pe_callB call_isi (by rfl) mi (by decide +kernel) (pa_cons (pv 0) (pa_cons (pe_bltn (v := .ty "tuple") (u := .type "tuple") (by rfl) mtuple (by decide +kernel) rfl) pa_nil)))
      (pe_one (pe_cmpR op_eq (pe_callB call_len_seq (by rfl) mlen PySem.boot_len (pa_cons (pv 0) pa_nil)) (pv 1) (nomark _))))), ?_⟩
    refine ⟨_, rfl, x, .ty "tuple", _, _, _, rfl, .ty "tuple", ht.ty, kit_of1 ht.mem (by decide), _, rfl, ?_⟩
    by_cases h1 : t = "tuple"
    · obtain ⟨a, rfl, hS⟩ := hx h1
      subst h1
      refine ⟨_, rfl, a, xs, rfl, .inr hS, _, rfl, rfl, ?_⟩
      have e : decide (V.int (xs.length : Int) = V.int n) = decide ((xs.length : Int) = n) := by
        by_cases h2 : (xs.length : Int) = n
        · rw [h2, decide_eq_true rfl, decide_eq_true rfl]
        · rw [decide_eq_false h2, decide_eq_false fun z => h2 (V.int.inj z)]
      rw [e]
      exact q
    · have e : kitR t "tuple" = false := by
        unfold kitR
        rw [decide_eq_false h1]
        simp
      rw [e]
      rw [decide_eq_false h1] at q
      exact iteF q

def spBits (K : PySem.W.Frag) (TT : List Addr) : Sp := fun vs H Q _ => ∃ (x : V) (t : String) (xs : List V) (n : Int), vs = [x, .int n] ∧ Ty1 K H x t ∧ TupV K H x t xs ∧ (t = "tuple" → ∀ y ∈ xs, ∃ ty, Ty1 K H y ty) ∧ TabsG TT H ∧
  ∀ H', Ex TT H H' → Q (.bl (decide (t = "tuple") && decide ((xs.length : Int) = n) && xs.all fun y => bel y 2)) H'
theorem scBits : FnScope ["thing", "many", "item"] ["thing", "many"] (defScope sIsBits) := ⟨rfl, rfl, rfl, by decide +kernel, rfl, by decide +kernel, by decide +kernel⟩
theorem ok_bits {TT : List Addr} {f fT fB c T : Addr} {fd fdT fdB : FuncData} (F : Fun K "is_bits" "is_bits" sIsBits f fd) (hc : fd.code = .ref c) (TB : TabB base mg c T) (hTT : T ∈ TT) (mall : mg "all" = none)
    (GT : FnOk P w K mg base CX0 1 fT fdT ["thing", "many"] (spTupleOf K)) (kT : PySem.W.keepIn K (.ref fT) = true) (bT : Binds K fdT ["thing", "many"] []) (mT : mg "is_tuple_of" = some (.ref fT))
    (GB : FnOk P w K mg base CX0 3 fB fdB ["thing"] (spBit K)) (kB : PySem.W.keepIn K (.ref fB) = true) (bB : Binds K fdB ["thing"] []) (mB : mg "is_bit" = some (.ref fB)) :
    FnOk P w K mg base CX0 5 f fd ["thing", "many"] (spBits K TT) := by
  refine okC F hc scBits (fun vs H Q E h => ?_) (fun A outer s H vs Q E hr h => ?_)
  · obtain ⟨x, t, xs, n, rfl, _⟩ := h
    rfl
  · obtain ⟨x, t, xs, n, rfl, ht, hx, hys, hT, q⟩ := h
    refine ⟨_, pss_one (ps_ret (pe_and (pe_call GT (hr.mono (by decide)) (by rfl) mT kT bT .nil pass0 (pa_cons (pv 0) (pa_cons (pv 1) pa_nil)))
      (pe_one (GX.pe_all (own := [("item", 2)]) (k := 3) hr (by rfl) mall TB rfl rfl scBits.nd (pi_tup (pv 0)) (blkOk_by (N := ["thing", "many", "item"]) (sc := defScope sIsBits) (by decide +kernel)) (GX.genNames_by (by decide +kernel))
        (fun _ _ _ _ _ _ _ => pg_name (i := 2) scBits.nd rfl (Or.inl rfl)) (fun _ _ _ _ _ _ _ _ => pts_nil) (fun _ _ _ _ _ _ _ hr2 => pe_call GB hr2 (by rfl) mB kB bB .nil pass0 (pa_cons (pv 2) pa_nil)))))), ?_⟩
    refine ⟨_, rfl, _, rfl, x, t, xs, n, rfl, ht, hx, _, rfl, ite2 (fun hb => ?_) (fun hb => ?_)⟩
    · obtain ⟨h1, h2⟩ := (Bool.and_eq_true _ _).mp hb
      have h1 := of_decide_eq_true h1
      obtain ⟨a, rfl, hS⟩ := hx h1
      subst h1
      have q2 : ∀ H', Ex TT H H' → Q (.bl (xs.all fun y => bel y 2)) H' := fun H' e1 => by
        have z := q H' e1
        rw [h2] at z
        exact z
      have hys := hys rfl
      refine ⟨_, rfl, a, rfl, ⟨_, hS⟩, hT T hTT, fun H2 hT2 => ⟨fun i m H3 => m + i = xs.length ∧ Ex TT H H3 ∧ ((xs.take i).all fun y => bel y 2) = true, ⟨xs.length, rfl, Ex.tabbed hTT hT2, rfl⟩, fun i m H3 hW => ?_⟩⟩
      obtain ⟨em, x3, ha⟩ := hW
      have e3 := x3.extN hT
      by_cases hi : i < xs.length
      · refine .inr ⟨⟨xs, xs[i], extN_seqT e3 hS, List.getElem?_eq_getElem hi⟩, fun H4 => Ex TT H H4 ∧ ((xs.take (i + 1)).all fun y => bel y 2) = true, fun H4 ⟨x4, a4⟩ => ⟨m - 1, by omega, by omega, x4, a4⟩, fun y H4 hy => ?_⟩
        obtain ⟨rfl, hy⟩ := hy
        have ey := hy _ (extN_seqT e3 hS)
        obtain ⟨ty, hty⟩ := hys y (List.mem_of_getElem? ey)
        refine ⟨rfl, _, rfl, y, ty, rfl, hty.ext e3, _, rfl, fun hc => ?_, fun hc => ⟨x3, ?_⟩⟩
        · have z := q2 H4 x3
          have e : (xs.all fun y => bel y 2) = false := by
            rw [Bool.eq_false_iff]
            intro z
            have z2 := List.all_eq_true.mp z y (List.mem_of_getElem? ey)
            rw [z2] at hc
            cases hc
          rw [e] at z
          exact z
        · rw [take_snoc ey, List.all_append, ha]
          simpa using hc
      · refine .inl ⟨⟨xs, extN_seqT e3 hS, by omega⟩, ?_⟩
        have z := q2 H3 x3
        rw [List.take_of_length_le (by omega)] at ha
        rw [ha] at z
        exact z
    · rw [Bool.not_eq_true] at hb
      have z := q H (Ex.refl TT H)
      rw [hb] at z
      exact z
end
end K02

set_option Elab.async false
set_option linter.all false
set_option maxRecDepth 100000
/-! The reading of a gate by the program's own sums of places. -/
namespace K02
open PySem PySem.Spec L2
open PyProof.Rows GenW GxR
open LamX (ExtN)
abbrev sTable : Stmt := top 13

/-! ### a list or a tuple is walked -/
def SeqJ (K : PySem.W.Frag) (H : Hp) (a : Addr) (xs : List V) (J : It) : Prop := (J = Itl K a ∧ SqL K H a xs) ∨ (J = Itt K a ∧ SqT K H a xs)
def iSeq (K : PySem.W.Frag) (tl : TE) : TI := fun σ H R => tl σ H fun x H1 => ∃ (a : Addr) (xs : List V) (J : It), x = .ref a ∧ SeqJ K H1 a xs J ∧ R J H1
theorem pi_seq {X : Cx} {tg l : Expr} {tl : TE} (hl : PE X l tl) : PI X tg l (iSeq X.K tl) := by
  refine ⟨fun pins s σ H R I h => thn (hl.run pins s σ H _ I h) fun v s1 ⟨x, H1, I1, r1, a, xs, J, ex, hJ, q⟩ => ?_⟩
  subst ex
  cases r1
  have fp : ∀ b ∈ [s1.heap.objs.size], FpOk X pins H1 b := fun b hb => by
    rw [List.mem_singleton.mp hb]
    exact I1.fpOk (Nat.le_refl _) (I1.hok.fresh (Nat.le_refl _))
  rcases hJ with ⟨rfl, hq⟩ | ⟨rfl, hq⟩
  · obtain ⟨its, rv, p, hz⟩ := I1.list hq
    exact wpAny_pyIter_list p.isList ⟨_, [s1.heap.objs.size], _, _, H1, rfl, I1.kept (t' := s1.toks) (fun b o e => Heap.get?_push_of_some _ e), turn_list a _, ⟨_, Heap.get?_push_size _ rfl, rfl, rfl⟩, fp, q⟩
  · obtain ⟨its, rv, p, hz⟩ := I1.tuple hq
    exact wpAny_pyIter_tuple (show s1.heap.IsTuple a its.toArray from p) ⟨_, [s1.heap.objs.size], _, _, H1, rfl, I1.kept (t' := s1.toks) (fun b o e => Heap.get?_push_of_some _ e), turn_tuple a _, ⟨_, Heap.get?_push_size _ rfl, rfl, rfl⟩, fp, q⟩
theorem SeqJ.ext {K : PySem.W.Frag} {H H' : Hp} {a : Addr} {xs : List V} {J : It} (h : SeqJ K H a xs J) (e : ExtN H H') : SeqJ K H' a xs J := by
  rcases h with ⟨e1, h⟩ | ⟨e1, h⟩
  · exact .inl ⟨e1, extN_seqL e h⟩
  · exact .inr ⟨e1, extN_seqT e h⟩
theorem for_seq {K : PySem.W.Frag} {a : Addr} {xs : List V} {J : It} {g : TG} {tb : TS} {D : Ends} {σ : L2.St} {H : Hp} (Pv : Nat → L2.St → Hp → Prop) (hJ : SeqJ K H a xs J) (h0 : Pv 0 σ H)
    (hl : ∀ i σ' H', i ≤ xs.length → Pv i σ' H' → SeqJ K H' a xs J)
    (hs : ∀ i x σ H, xs[i]? = some x → Pv i σ H → g x σ H fun σ2 H2 => tb { D with nx := Pv (i + 1), ct := Pv (i + 1), bk := D.nx } σ2 H2) (hd : ∀ σ H, Pv xs.length σ H → D.nx σ H) :
    ∃ W : Nat → Nat → L2.St → Hp → Prop, (∃ m, W 0 m σ H) ∧ ∀ i m σ H, W i m σ H →
      (J.stop i H ∧ D.nx σ H) ∨ (J.go i H ∧ ∃ N : L2.St → Hp → Prop, (∀ σ' H', N σ' H' → ∃ m', m' < m ∧ W (i + 1) m' σ' H') ∧ ∀ x H', J.yld i H x H' → g x σ H' fun σ2 H2 => tb { D with nx := N, ct := N, bk := D.nx } σ2 H2) := by
  refine ⟨fun i m σ H => m + i = xs.length ∧ Pv i σ H, ⟨xs.length, rfl, h0⟩, ?_⟩
  rintro i m σ1 H1 ⟨em, p⟩
  have hJ1 := hl i σ1 H1 (by omega) p
  by_cases hi : i < xs.length
  · have step : ∀ x, xs[i]? = some x → g x σ1 H1 fun σ2 H2 => tb { D with nx := Pv (i + 1), ct := Pv (i + 1), bk := D.nx } σ2 H2 := fun x hx => hs i x σ1 H1 hx p
    have nxt : ∀ σ' H', Pv (i + 1) σ' H' → ∃ m', m' < m ∧ m' + (i + 1) = xs.length ∧ Pv (i + 1) σ' H' := fun σ' H' p' => ⟨m - 1, by omega, by omega, p'⟩
    rcases hJ1 with ⟨rfl, hq⟩ | ⟨rfl, hq⟩
    · exact .inr ⟨⟨xs, xs[i], hq, List.getElem?_eq_getElem hi⟩, Pv (i + 1), nxt, fun x H' ⟨e, y⟩ => by subst e; exact step x (y xs hq)⟩
    · exact .inr ⟨⟨xs, xs[i], hq, List.getElem?_eq_getElem hi⟩, Pv (i + 1), nxt, fun x H' ⟨e, y⟩ => by subst e; exact step x (y xs hq)⟩
  · have ei : i = xs.length := by omega
    subst ei
    rcases hJ1 with ⟨rfl, hq⟩ | ⟨rfl, hq⟩
    · exact .inl ⟨⟨xs, hq, Nat.le_refl _⟩, hd σ1 H1 p⟩
    · exact .inl ⟨⟨xs, hq, Nat.le_refl _⟩, hd σ1 H1 p⟩

/-! ### the mathematics -/
def bitZ (b : Bool) : Int := if b then 1 else 0
def bitV (b : Bool) : V := .int (bitZ b)
def rdV : Option Bool → V
  | none => .non
  | some b => bitV b
theorem bitZ_inj {a b : Bool} (h : bitZ a = bitZ b) : a = b := by
  cases a <;> cases b <;> first | rfl | (exact absurd h (by decide))
/-- bits in the place of all None -/
inductive Comp : List (Option Bool) → List Bool → Prop
  | nil : Comp [] []
  | free {r : List (Option Bool)} {bs : List Bool} (b : Bool) : Comp r bs → Comp (none :: r) (b :: bs)
  | told {r : List (Option Bool)} {bs : List Bool} (b : Bool) : Comp r bs → Comp (some b :: r) (b :: bs)
def idx : List Bool → Nat
  | [] => 0
  | b :: r => (if b then 1 else 0) + 2 * idx r
theorem Comp.length {rs : List (Option Bool)} {bs : List Bool} (h : Comp rs bs) : bs.length = rs.length := by
  induction h with
  | nil => rfl
  | free b _ ih => simp [ih]
  | told b _ ih => simp [ih]
theorem idx_lt (bs : List Bool) : idx bs < 2 ^ bs.length := by
  induction bs with
  | nil => decide
  | cons b r ih =>
    have : 2 ^ (b :: r).length = 2 * 2 ^ r.length := by rw [List.length_cons, Nat.pow_succ, Nat.mul_comm]
    unfold idx
    split <;> omega
/-- what one source does to the places -/
def stp (x : Nat × List Nat) (r : Option Bool) : Nat × List Nat := (2 * x.1, match r with
  | none => x.2 ++ x.2.map (· + x.1)
  | some true => x.2.map (· + x.1)
  | some false => x.2)
def plc (rs : List (Option Bool)) : Nat × List Nat := rs.foldl stp (1, [0])
theorem plc_gen (rs : List (Option Bool)) : ∀ (w : Nat) (ps : List Nat), (rs.foldl stp (w, ps)).1 = w * 2 ^ rs.length ∧ ∀ p, p ∈ (rs.foldl stp (w, ps)).2 ↔ ∃ q ∈ ps, ∃ bs, Comp rs bs ∧ p = q + w * idx bs := by
  induction rs with
  | nil =>
    intro w ps
    refine ⟨by simp, fun p => ⟨fun h => ⟨p, h, [], .nil, by simp [idx]⟩, fun ⟨q, hq, bs, hc, e⟩ => ?_⟩⟩
    cases hc
    simp [idx] at e
    rw [e]
    exact hq
  | cons r rs ih =>
    intro w ps
    obtain ⟨h1, h2⟩ := ih (2 * w) (stp (w, ps) r).2
    have e0 : (r :: rs).foldl stp (w, ps) = rs.foldl stp (2 * w, (stp (w, ps) r).2) := rfl
    rw [e0]
    refine ⟨by rw [h1, List.length_cons, Nat.pow_succ, Nat.mul_comm 2 w, Nat.mul_assoc, Nat.mul_comm 2], fun p => ?_⟩
    rw [h2 p]
    have a0 : ∀ k : Nat, w * (0 + 2 * k) = 2 * w * k := fun k => by
      rw [Nat.zero_add, ← Nat.mul_assoc, Nat.mul_comm w 2]
    have a1 : ∀ k : Nat, w * (1 + 2 * k) = w + 2 * w * k := fun k => by
      rw [Nat.mul_add, ← Nat.mul_assoc, Nat.mul_comm w 2, Nat.mul_one]
    have i0 : ∀ bs : List Bool, w * idx (false :: bs) = 2 * w * idx bs := fun bs => a0 _
    have i1 : ∀ bs : List Bool, w * idx (true :: bs) = w + 2 * w * idx bs := fun bs => a1 _
    constructor
    · rintro ⟨q, hq, bs, hc, e⟩
      rcases r with _ | _ | _
      · rcases List.mem_append.mp hq with hq | hq
        · exact ⟨q, hq, false :: bs, .free _ hc, by rw [i0, e]⟩
        · obtain ⟨q', hq', rfl⟩ := List.mem_map.mp hq
          exact ⟨q', hq', true :: bs, .free _ hc, by rw [i1, e]; exact Nat.add_assoc ..⟩
      · exact ⟨q, hq, false :: bs, .told _ hc, by rw [i0, e]⟩
      · obtain ⟨q', hq', rfl⟩ := List.mem_map.mp hq
        exact ⟨q', hq', true :: bs, .told _ hc, by rw [i1, e]; exact Nat.add_assoc ..⟩
    · rintro ⟨q, hq, bs, hc, e⟩
      cases hc with
      | @free _ bs b hc =>
        cases b with
        | false => exact ⟨q, List.mem_append_left _ hq, bs, hc, by rw [i0] at e; exact e⟩
        | true => exact ⟨q + w, List.mem_append_right _ (List.mem_map.mpr ⟨q, hq, rfl⟩), bs, hc, by rw [i1] at e; rw [e]; exact (Nat.add_assoc ..).symm⟩
      | @told _ bs b hc =>
        cases b with
        | false => exact ⟨q, hq, bs, hc, by rw [i0] at e; exact e⟩
        | true => exact ⟨q + w, List.mem_map.mpr ⟨q, hq, rfl⟩, bs, hc, by rw [i1] at e; rw [e]; exact (Nat.add_assoc ..).symm⟩
theorem plc_fst (rs : List (Option Bool)) : (plc rs).1 = 2 ^ rs.length := by
  have h := (plc_gen rs 1 [0]).1
  rw [Nat.one_mul] at h
  exact h
theorem plc_mem (rs : List (Option Bool)) (p : Nat) : p ∈ (plc rs).2 ↔ ∃ bs, Comp rs bs ∧ idx bs = p := by
  have h := (plc_gen rs 1 [0]).2 p
  unfold plc
  rw [h]
  constructor
  · rintro ⟨q, hq, bs, hc, e⟩
    rw [List.mem_singleton.mp hq] at e
    exact ⟨bs, hc, by omega⟩
  · rintro ⟨bs, hc, e⟩
    exact ⟨0, List.mem_singleton.mpr rfl, bs, hc, by omega⟩
theorem plc_lt {rs : List (Option Bool)} {p : Nat} (h : p ∈ (plc rs).2) : p < 2 ^ rs.length := by
  obtain ⟨bs, hc, rfl⟩ := (plc_mem rs p).mp h
  rw [← hc.length]
  exact idx_lt bs
theorem plc_len (rs : List (Option Bool)) : (plc rs).2.length ≤ 2 ^ rs.length ∧ 0 < (plc rs).2.length := by
  have gen : ∀ (l : List (Option Bool)) (x : Nat × List Nat), (l.foldl stp x).2.length ≤ x.2.length * 2 ^ l.length ∧ (0 < x.2.length → 0 < (l.foldl stp x).2.length) := by
    intro l
    induction l with
    | nil => intro x; simp
    | cons r l ih =>
      intro x
      have h := ih (stp x r)
      have e : (stp x r).2.length ≤ 2 * x.2.length ∧ (0 < x.2.length → 0 < (stp x r).2.length) := by
        rcases r with _ | _ | _
        · simp only [stp, List.length_append, List.length_map]
          omega
        · simp only [stp]
          omega
        · simp only [stp, List.length_map]
          omega
      refine ⟨?_, fun h0 => h.2 (e.2 h0)⟩
      show (l.foldl stp (stp x r)).2.length ≤ _
      rw [List.length_cons, Nat.pow_succ, Nat.mul_comm (2 ^ l.length) 2, ← Nat.mul_assoc, Nat.mul_comm x.2.length 2]
      exact Nat.le_trans h.1 (Nat.mul_le_mul_right _ e.1)
  have h := gen rs (1, [0])
  refine ⟨by simpa [plc] using h.1, h.2 (by decide)⟩
theorem plc_snoc (rs : List (Option Bool)) (r : Option Bool) : plc (rs ++ [r]) = stp (plc rs) r := by
  unfold plc
  rw [List.foldl_append]
  rfl
/-- the one bit that all have -/
def one (l : List Bool) : Option Bool := match l with
  | [] => none
  | b :: r => if r.all (fun x => x == b) then some b else none
theorem one_some {l : List Bool} {b : Bool} : one l = some b ↔ l ≠ [] ∧ ∀ x ∈ l, x = b := by
  cases l with
  | nil => simp [one]
  | cons a r =>
    have e : one (a :: r) = if (r.all fun x => x == a) = true then some a else none := rfl
    rw [e]
    by_cases hall : (r.all fun x => x == a) = true
    · rw [if_pos hall]
      have h2 : ∀ x ∈ r, x = a := fun x hx => by simpa using List.all_eq_true.mp hall x hx
      constructor
      · intro h
        have h : a = b := Option.some.inj h
        subst h
        refine ⟨by simp, fun x hx => ?_⟩
        rcases List.mem_cons.mp hx with hx | hx
        · exact hx
        · exact h2 x hx
      · rintro ⟨_, h⟩
        rw [h a (List.mem_cons_self ..)]
    · rw [if_neg hall]
      constructor
      · intro h
        cases h
      · rintro ⟨_, h⟩
        refine absurd (List.all_eq_true.mpr fun x hx => ?_) hall
        rw [h a (List.mem_cons_self ..), h x (List.mem_cons_of_mem _ hx)]
        simp
theorem one_congr {l m : List Bool} (h : ∀ b, b ∈ l ↔ b ∈ m) : one l = one m := by
  have ne : l ≠ [] ↔ m ≠ [] := by
    constructor
    · intro hl hm
      obtain ⟨x, r, rfl⟩ := List.exists_cons_of_ne_nil hl
      have z := (h x).mp (List.mem_cons_self ..)
      rw [hm] at z
      cases z
    · intro hm hl
      obtain ⟨x, r, rfl⟩ := List.exists_cons_of_ne_nil hm
      have z := (h x).mpr (List.mem_cons_self ..)
      rw [hl] at z
      cases z
  have key : ∀ b, one l = some b ↔ one m = some b := fun b => by
    rw [one_some, one_some, ne]
    exact and_congr_right fun _ => ⟨fun q x hx => q x ((h x).mpr hx), fun q x hx => q x ((h x).mp hx)⟩
  cases e : one l with
  | some b => rw [(key b).mp e]
  | none =>
    cases e2 : one m with
    | none => rfl
    | some b =>
      rw [(key b).mpr e2] at e
      cases e
/-- what a gate with this table reads -/
def gateR (tb : List Bool) (rs : List (Option Bool)) : Option Bool := one ((plc rs).2.map fun p => tb.getD p false)
theorem minmax_one {l : List Bool} {lo hi : Int} (h1 : lo ∈ l.map bitZ) (h2 : ∀ y, y ∈ l.map bitZ → lo ≤ y) (h3 : hi ∈ l.map bitZ) (h4 : ∀ y, y ∈ l.map bitZ → y ≤ hi) :
    (lo = hi → ∃ b r, l = b :: r ∧ one l = some b) ∧ (lo ≠ hi → one l = none) := by
  constructor
  · intro e
    obtain ⟨b, hb, eb⟩ := List.mem_map.mp h1
    have all : ∀ x ∈ l, bitZ x = lo := fun x hx => by
      have q1 := h2 _ (List.mem_map.mpr ⟨x, hx, rfl⟩)
      have q2 := h4 _ (List.mem_map.mpr ⟨x, hx, rfl⟩)
      omega
    cases l with
    | nil => cases hb
    | cons a r =>
      refine ⟨a, r, rfl, one_some.mpr ⟨by simp, fun x hx => bitZ_inj ((all x hx).trans (all a (List.mem_cons_self ..)).symm)⟩⟩
  · intro e
    cases q : one l with
    | none => rfl
    | some b =>
      obtain ⟨_, hall⟩ := one_some.mp q
      obtain ⟨x, hx, ex⟩ := List.mem_map.mp h1
      obtain ⟨y, hy, ey⟩ := List.mem_map.mp h3
      rw [hall x hx] at ex
      rw [hall y hy] at ey
      exact absurd (ex.symm.trans ey) e
def natV (ps : List Nat) : List V := ps.map fun p : Nat => V.int (Int.ofNat p)
theorem natV_len (ps : List Nat) : (natV ps).length = ps.length := List.length_map ..
theorem natV_get {ps : List Nat} {i : Nat} {x : V} (h : (natV ps)[i]? = some x) : ∃ p : Nat, ps[i]? = some p ∧ x = .int (p : Int) := by
  unfold natV at h
  rw [List.getElem?_map] at h
  obtain ⟨p, hp, e⟩ := Option.map_eq_some_iff.mp h
  exact ⟨p, hp, e.symm⟩
theorem pw2 (i : Nat) : ((2 ^ i : Nat) : Int) * 2 = ((2 ^ (i + 1) : Nat) : Int) := by
  rw [Nat.pow_succ, Int.natCast_mul]
  rfl
theorem pow16 {n : Nat} (h : n ≤ 4) : 2 ^ n ≤ 16 := Nat.pow_le_pow_right (by decide) h
theorem natV_app (a b : List Nat) : natV (a ++ b) = natV a ++ natV b := List.map_append ..
theorem get_snoc {α : Type} {xs : List α} {i : Nat} {x : α} (h : xs[i]? = some x) : xs.take (i + 1) = xs.take i ++ [x] := take_snoc h

section
variable {P : Program} {w : World} {K : PySem.W.Frag} {mg : Str → Option Value} {base : Heap}
/-- the answer, as a value -/
def spTable (K : PySem.W.Frag) : Sp := fun vs H Q _ => ∃ (a b : Addr) (tb : List Bool) (rs : List (Option Bool)) (J : It), vs = [.ref a, .ref b] ∧ SqT K H a (tb.map bitV) ∧ SeqJ K H b (rs.map rdV) J ∧ rs.length ≤ 4 ∧ tb.length = 2 ^ rs.length ∧
  ∀ H', Same H H' → Q (rdV (gateR tb rs)) H'
theorem scTable : FnScope ["table", "readings", "places", "worth", "reading", "bits", "place"] ["table", "readings"] (defScope sTable) := ⟨rfl, rfl, rfl, by decide +kernel, rfl, by decide +kernel, by decide +kernel⟩
theorem ok_table {f : Addr} {fd : FuncData} (F : Fun K "table_reading" "table_reading" sTable f fd) (mmin : mg "min" = none) (mmax : mg "max" = none) : FnOk P w K mg base CX0 1 f fd ["table", "readings"] (spTable K) := by
  refine F.ok scTable (fun vs H Q E h => ?_) (fun cdv A outer s H vs Q E hr h => ?_)
  · obtain ⟨a, b, tb, rs, J, rfl, _⟩ := h
    rfl
  · obtain ⟨a, b, tb, rs, J, rfl, hT, hR, hl4, hlt, q⟩ := h
    refine ⟨_, pss_cons (ps_set (i := 2) scTable.nd rfl (Or.inl rfl) (pe_lst (pa_cons pe_int pa_nil)))
      (pss_cons (ps_set (i := 3) scTable.nd rfl (Or.inr rfl) pe_int)
      (pss_cons (ps_for PassesOwn.never rfl (pi_seq (pv 1)) (pg_name (i := 4) scTable.nd rfl (Or.inl rfl))
        (pss_cons (ps_if (pt_cmpR op_isN (pv 4) pe_non (nomark _))
            (pss_one (ps_set (i := 2) scTable.nd rfl (Or.inl rfl) (pe_op op_cat (pv 2) (pe_lc (own := [("place", 6)]) (g := gName 6) (tt := tYes) rfl scTable.nd (pi_list (pv 2)) (blkOk_by (N := ["table", "readings", "places", "worth", "reading", "bits", "place"]) (sc := defScope sTable) (by decide +kernel))
              (fun _ _ _ _ _ => pg_name (i := 6) scTable.nd rfl (Or.inl rfl)) (fun _ _ _ _ _ => pts_nil) (fun _ _ _ _ _ => pe_op op_add (pv 6) (pv 3))))))
            (pss_one (ps_if (pt_cmpR op_eq (pv 4) pe_int (nomark _))
              (pss_one (ps_setLc (i := 2) (own := [("place", 6)]) (g := gName 6) (tt := tYes) rfl scTable.nd rfl rfl (sw_true rfl rfl rfl (by decide +kernel)) (pi_list (pv 2)) (blkOk_by (N := ["table", "readings", "places", "worth", "reading", "bits", "place"]) (sc := defScope sTable) (by decide +kernel))
                (fun _ _ _ _ _ => pg_name (i := 6) scTable.nd rfl (Or.inl rfl)) (fun _ _ _ _ _ => pts_nil) (fun _ _ _ _ _ => pe_op op_add (pv 6) (pv 3)))) pss_nil)))
          (pss_one (ps_set (i := 3) scTable.nd rfl (Or.inr rfl) (pe_op op_mul (pv 3) pe_int)))))
      (pss_cons (ps_setLc (i := 5) (own := [("place", 6)]) (g := gName 6) (tt := tYes) rfl scTable.nd rfl rfl (sw_true rfl rfl rfl (by decide +kernel)) (pi_list (pv 2)) (blkOk_by (N := ["table", "readings", "places", "worth", "reading", "bits", "place"]) (sc := defScope sTable) (by decide +kernel))
        (fun _ _ _ _ _ => pg_name (i := 6) scTable.nd rfl (Or.inl rfl)) (fun _ _ _ _ _ => pts_nil) (fun _ _ _ _ _ => pe_ix (r := rIxT K) ix_tup (pv 0) (pv 6) (fun _ _ => rfl)))
      (pss_cons (ps_if (pt_cmpR op_eq (pe_callB (cr_min rfl) (by rfl) mmin (by decide +kernel) (pa_cons (pv 5) pa_nil)) (pe_callB (cr_max rfl) (by rfl) mmax (by decide +kernel) (pa_cons (pv 5) pa_nil)) (nomark _)) (pss_one (ps_ret (pe_ix ix_list (pv 5) pe_int (fun _ _ => rfl)))) pss_nil)
      (pss_one (ps_ret pe_non)))))), ?_⟩
    refine ⟨by show 1 ≤ sizeLine; decide, fun p0 np0 => ?_⟩
    have s0 := same_new (o := .lst [.int 0]) np0
    refine ⟨_, rfl, b, rs.map rdV, J, rfl, hR.ext (extN_same s0), for_seq (fun i σ H1 => ∃ (pl : Addr) (y4 : Option V), σ = [some (.ref a), some (.ref b), some (.ref pl), some (.int (2 ^ i : Nat)), y4, none, none] ∧ Same H H1 ∧ H1 pl = some (.lst (natV (plc (rs.take i)).2))) (hR.ext (extN_same s0)) ⟨p0, none, rfl, s0, upd_same⟩
      (fun i σ' H' _ ⟨pl, y4, _, s1, _⟩ => hR.ext (extN_same s1)) (fun i x σ H1 hx ⟨pl, y4, e, s1, e1⟩ => ?_) (fun σ H1 ⟨pl, y4, e, s1, e1⟩ => ?_)⟩
    · subst e
      rw [List.getElem?_map] at hx
      obtain ⟨r, hr1, rfl⟩ := Option.map_eq_some_iff.mp hx
      have hi : i < rs.length := (List.getElem?_eq_some_iff.mp hr1).1
      have hlen : (rs.take i).length = i := by
        rw [List.length_take]
        omega
      have hfst : (plc (rs.take i)).1 = 2 ^ i := by rw [plc_fst, hlen]
      have hsz : (plc (rs.take i)).2.length ≤ 16 := by
        have h1 := (plc_len (rs.take i)).1
        rw [hlen] at h1
        exact Nat.le_trans h1 (pow16 (by omega))
      have hsnoc : plc (rs.take (i + 1)) = stp (plc (rs.take i)) r := by rw [take_snoc hr1, plc_snoc]
      have hPl : SqL K H1 pl (natV (plc (rs.take i)).2) := .inl (.inl e1)
      -- [place + worth for place in places]
      have turn : ∀ (D : Addr), H1 D = none → ∀ (j : Nat) (x : V) (H2 : Hp), (natV (plc (rs.take i)).2)[j]? = some x → (Same H1 H2 ∧ H2 D = some (.lst (natV (((plc (rs.take i)).2.take j).map (· + 2 ^ i))))) →
          ∃ p : Nat, x = .int p ∧ (natV (((plc (rs.take i)).2.take j).map (· + 2 ^ i))).length < sizeLine ∧ Same H1 (upd H2 D (.lst (natV (((plc (rs.take i)).2.take j).map (· + 2 ^ i)) ++ [.int ((p : Int) + (2 ^ i : Nat))]))) ∧
            (upd H2 D (.lst (natV (((plc (rs.take i)).2.take j).map (· + 2 ^ i)) ++ [.int ((p : Int) + (2 ^ i : Nat))]))) D = some (.lst (natV (((plc (rs.take i)).2.take (j + 1)).map (· + 2 ^ i)))) := fun D nD j x H2 hj ⟨s2, e2⟩ => by
        obtain ⟨p, hp, rfl⟩ := natV_get hj
        refine ⟨p, rfl, ?_, fun b' o e => ?_, ?_⟩
        · rw [natV_len, List.length_map, List.length_take]
          exact small1000 (by omega)
        · rw [upd_ne (ne_of_none e nD)]
          exact s2 b' o e
        · rw [upd_same, take_snoc hp, List.map_append, natV_app]
          rfl
      have full : ∀ (D : Addr) (H2 : Hp), H2 D = some (.lst (natV (((plc (rs.take i)).2.take (natV (plc (rs.take i)).2).length).map (· + 2 ^ i)))) → H2 D = some (.lst (natV ((plc (rs.take i)).2.map (· + 2 ^ i)))) := fun D H2 e => by
        rw [natV_len, List.take_length] at e
        exact e
      cases r with
      | none =>
        refine ⟨_, rfl, rfl, _, rfl, ite2 (fun _ => ?_) (fun z => absurd (decide_eq_true rfl) z)⟩
        refine ⟨_, rfl, _, rfl, pl, rfl, ⟨_, hPl⟩, fun D nD => lc_list (K := K) (a := pl) (xs := natV (plc (rs.take i)).2) (fun j H2 => Same H1 H2 ∧ H2 D = some (.lst (natV (((plc (rs.take i)).2.take j).map (· + 2 ^ i))))) ⟨same_new nD, upd_same⟩ (fun j H2 _ h2 => h2.1.seq hPl) (fun j x H2 hj h2 => ?_) (fun H2 ⟨s2, e2⟩ => ?_)⟩
        · obtain ⟨p, rfl, z1, z2, z3⟩ := turn D nD j x H2 hj h2
          exact ⟨rfl, _, rfl, _, rfl, _, _, rfl, rfl, _, h2.2, z1, z2, z3⟩
        · have e2 := full D H2 e2
          refine ⟨pl, D, _, _, rfl, rfl, s2 _ _ e1, e2, ?_, fun p np => ⟨_, rfl, _, _, rfl, rfl, .inr ⟨by decide, by decide⟩, p, _, by rw [← pw2 i]; rfl, ?_, ?_⟩⟩
          · rw [natV_len, natV_len, List.length_map]
            exact Nat.le_of_lt (small1000 (by omega))
          · exact (s1.trans s2).trans (same_new np)
          · rw [upd_same, hsnoc, ← natV_app]
            show some (HO.lst (natV ((plc (rs.take i)).2 ++ (plc (rs.take i)).2.map (· + 2 ^ i)))) = some (HO.lst (natV ((plc (rs.take i)).2 ++ (plc (rs.take i)).2.map (· + (plc (rs.take i)).1))))
            rw [hfst]
      | some c =>
        refine ⟨_, rfl, rfl, _, rfl, ite2 (fun z => absurd (of_decide_eq_true z) (by intro z; cases z)) (fun _ => ?_)⟩
        cases c with
        | true =>
          refine ⟨_, rfl, rfl, _, rfl, ite2 (fun _ => ?_) (fun z => absurd (decide_eq_true rfl) z)⟩
          refine ⟨_, rfl, pl, rfl, ⟨_, hPl⟩, fun D nD => lc_list (K := K) (a := pl) (xs := natV (plc (rs.take i)).2) (fun j H2 => Same H1 H2 ∧ H2 D = some (.lst (natV (((plc (rs.take i)).2.take j).map (· + 2 ^ i))))) ⟨same_new nD, upd_same⟩ (fun j H2 _ h2 => h2.1.seq hPl) (fun j x H2 hj h2 => ?_) (fun H2 ⟨s2, e2⟩ => ?_)⟩
          · obtain ⟨p, rfl, z1, z2, z3⟩ := turn D nD j x H2 hj h2
            exact ⟨rfl, _, rfl, _, rfl, _, _, rfl, rfl, _, h2.2, z1, z2, z3⟩
          · have e2 := full D H2 e2
            refine ⟨_, rfl, _, _, rfl, rfl, .inr ⟨by decide, by decide⟩, D, _, by rw [← pw2 i]; rfl, s1.trans s2, ?_⟩
            rw [e2, hsnoc]
            show some (HO.lst (natV ((plc (rs.take i)).2.map (· + 2 ^ i)))) = some (HO.lst (natV ((plc (rs.take i)).2.map (· + (plc (rs.take i)).1))))
            rw [hfst]
        | false =>
          refine ⟨_, rfl, rfl, _, rfl, ite2 (fun z => absurd (V.int.inj (of_decide_eq_true z)) (by decide)) (fun _ => ?_)⟩
          refine ⟨_, rfl, _, _, rfl, rfl, .inr ⟨by decide, by decide⟩, pl, _, by rw [← pw2 i]; rfl, s1, ?_⟩
          rw [e1, hsnoc]
          rfl
    · subst e
      have e1' : H1 pl = some (.lst (natV (plc rs).2)) := by
        rw [List.length_map, List.take_length] at e1
        exact e1
      have hPl : SqL K H1 pl (natV (plc rs).2) := .inl (.inl e1')
      have hsz : (plc rs).2.length ≤ 16 := Nat.le_trans (plc_len rs).1 (pow16 hl4)
      have hT1 : SqT K H1 a (tb.map bitV) := extN_seqT (extN_same s1) hT
      generalize hL : ((plc rs).2.map fun p => tb.getD p false) = L
      have hgl : gateR tb rs = one L := by rw [← hL]; rfl
      refine ⟨_, rfl, pl, rfl, ⟨_, hPl⟩, fun D nD => lc_list (K := K) (a := pl) (xs := natV (plc rs).2) (fun j H2 => Same H1 H2 ∧ H2 D = some (.lst ((L.take j).map bitV))) ⟨same_new nD, upd_same⟩ (fun j H2 _ h2 => h2.1.seq hPl) (fun j x H2 hj ⟨s2, e2⟩ => ?_) (fun H2 ⟨s2, e2⟩ => ?_)⟩
      · obtain ⟨p, hp, rfl⟩ := natV_get hj
        have hlt2 : p < tb.length := by
          rw [hlt]
          exact plc_lt (List.mem_of_getElem? hp)
        have hL1 : L[j]? = some tb[p] := by
          rw [← hL, List.getElem?_map, hp]
          simp [List.getD_eq_getElem?_getD, List.getElem?_eq_getElem hlt2]
        refine ⟨rfl, _, rfl, _, rfl, a, _, _, bitV tb[p], rfl, rfl, extN_seqT (extN_same s2) hT1, atI_nat ?_, _, e2, ?_, fun b' o e => ?_, ?_⟩
        · rw [List.getElem?_map, List.getElem?_eq_getElem hlt2]
          rfl
        · rw [List.length_map, List.length_take, ← hL, List.length_map]
          exact small1000 (by omega)
        · rw [upd_ne (ne_of_none e nD)]
          exact s2 b' o e
        · rw [upd_same, take_snoc hL1, List.map_append]
          rfl
      · have hLlen : L.length = (plc rs).2.length := by rw [← hL, List.length_map]
        have e2' : H2 D = some (.lst (L.map bitV)) := by
          rw [natV_len, ← hLlen, List.take_length] at e2
          exact e2
        have hD : SqL K H2 D ((L.map bitZ).map V.int) := by
          refine .inl (.inl ?_)
          rw [e2', List.map_map]
          rfl
        have hpos : 0 < (L.map bitZ).length := by
          rw [List.length_map, hLlen]
          exact (plc_len rs).2
        refine ⟨_, rfl, D, _, rfl, hD, hpos, fun lo l1 l2 => ⟨_, rfl, D, _, rfl, hD, hpos, fun hi h1 h2 => ⟨rfl, _, rfl, ite2 (fun hc => ?_) (fun hc => ?_)⟩⟩⟩
        · obtain ⟨b', r, el, eo⟩ := (minmax_one l1 l2 h1 h2).1 (V.int.inj (of_decide_eq_true hc))
          have z := q H2 (s1.trans s2)
          rw [hgl, eo] at z
          refine ⟨_, rfl, D, _, 0, bitV b', rfl, rfl, hD, ?_, z⟩
          rw [el]
          exact atI_nat (j := 0) rfl
        · have eo := (minmax_one l1 l2 h1 h2).2 fun z => hc (decide_eq_true (congrArg V.int z))
          have z := q H2 (s1.trans s2)
          rw [hgl, eo] at z
          exact z
end
end K02

set_option Elab.async false
set_option linter.all false
set_option maxRecDepth 100000
/-! gate_reading: what it refuses, and in which order. -/
namespace K02
open PySem PySem.Spec L2
open PyProof.Rows GenW GxR
open LamX (ExtN)
abbrev sGate : Stmt := top 16

/-! ### a dict of the module with numbers as keys -/
structure IDict (K : PySem.W.Frag) (d : Addr) (es : Array DictEntry) (n : Nat) : Prop where
  at_ : K.lookup d = some ⟨.type "dict", none, .dict es n, #[]⟩
  lit : ∀ e ∈ es.toList, ∃ (i : Int) (t : Tok), e.key = .int i t ∧ e.hash = hashInt i
  low : (d == sysModules) = false
def iGet (es : Array DictEntry) (i : Int) : Option Value := findBy Value.isInt es i
section
variable {X : Cx} {d : Addr} {es : Array DictEntry} {n : Nat}
theorem IDict.map {h : Heap} (D : IDict X.K d es n) (k : X.K.In h) : h.MapOf (intKind X.prog X.w) d (iGet es) :=
  ⟨_, es, n, k _ _ D.at_, ⟨rfl, rfl, rfl⟩, rfl, fun e he => by
    obtain ⟨i, t, e1, e2⟩ := D.lit e (Array.mem_toList_iff.mpr he)
    exact ⟨i, by rw [e1]; exact intKind_is X.prog X.w i t, e2⟩, fun _ => rfl⟩
theorem op_notIn_id (D : IDict X.K d es n) : OpR X (compareOp .NotIn) (fun x y H Q => ∃ i : Int, x = .int i ∧ y = .ref d ∧ Q (.bl (!(iGet es i).isSome)) H) := by
  intro pins s σ H x y v u Q I rx ry h
  obtain ⟨i, rfl, rfl, q⟩ := h
  obtain ⟨t, rfl⟩ := rx
  cases ry
  exact wpAny_notIn_of (intKind_is X.prog X.w i t) D.low (D.map I.kIn) ⟨.bl _, H, I.tok _, rfl, q⟩
theorem ix_id (D : IDict X.K d es n) : IxR X (fun x y H Q => ∃ (i : Int) (u0 : Value) (v0 : V), x = .ref d ∧ y = .int i ∧ iGet es i = some u0 ∧ RelV v0 u0 ∧ Q v0 H) := by
  intro value slice pins s σ H x y v u Q I rx ry h hs
  obtain ⟨i, u0, v0, rfl, rfl, e, r, q⟩ := h
  obtain rfl : v = Value.ref d := rx
  obtain ⟨t, rfl⟩ := ry
  have hm := D.map (X := X) I.kIn
  exact tail_any hm.typeIs slot_dict_getitem.lookup (wpAny_getItem_of (intKind_is X.prog X.w i t) hm e ⟨v0, H, I.tok _, r, q⟩) hs
end

/-! ### what it judges -/
def sz (n : Int) : Option Int := if n = 1 then some 0 else if n = 2 then some 1 else if n = 4 then some 2 else if n = 8 then some 3 else if n = 16 then some 4 else none
/-- the dict of the sizes -/
def Sizes (es : Array DictEntry) : Prop := ∀ n : Int, match sz n with
  | some k => ∃ t, iGet es n = some (.int k t)
  | none => iGet es n = none
theorem Sizes.isSome {es : Array DictEntry} (h : Sizes es) (n : Int) : (iGet es n).isSome = (sz n).isSome := by
  have z := h n
  split at z
  · rename_i k e
    obtain ⟨t, z⟩ := z
    rw [z, e]
    rfl
  · rename_i e
    rw [z, e]
    rfl
def okT (t : String) (xs : List V) : Bool := decide (t = "tuple") && (sz xs.length).isSome && xs.all fun y => bel y 2
def okR (t : String) (xs : List V) (n : Nat) : Bool := decide (t = "list" ∨ t = "tuple") && decide (some (xs.length : Int) = sz n) && xs.all rdB
/-- where x is a list or a tuple, xs are its items -/
def RowV (K : PySem.W.Frag) (H : Hp) (x : V) (t : String) (xs : List V) : Prop := (t = "list" ∨ t = "tuple") → ∃ a J, x = .ref a ∧ SeqJ K H a xs J ∧ ∀ y ∈ xs, ∃ ty, Ty1 K H y ty
theorem RowV.ext {K : PySem.W.Frag} {H H' : Hp} {x : V} {t : String} {xs : List V} (h : RowV K H x t xs) (e : ExtN H H') : RowV K H' x t xs := fun ht => by
  obtain ⟨a, J, q, s, m⟩ := h ht
  exact ⟨a, J, q, s.ext e, fun y hy => by
    obtain ⟨ty, z⟩ := m y hy
    exact ⟨ty, z.ext e⟩⟩
theorem SeqJ.len {X : Cx} {pins : List (Addr × Obj)} {σ : L2.St} {H : Hp} {a : Addr} {xs : List V} {J : It} (h : SeqJ X.K H a xs J) : SqL X.K H a xs ∨ SqT X.K H a xs := by
  rcases h with ⟨_, h⟩ | ⟨_, h⟩
  · exact .inl h
  · exact .inr h

theorem bel_bit {y : V} (h : bel y 2 = true) : ∃ b, y = bitV b := by
  cases y with
  | int i =>
    have h : (decide (0 ≤ i) && decide (i < 2)) = true := h
    simp only [Bool.and_eq_true, decide_eq_true_eq] at h
    by_cases h1 : i = 1
    · exact ⟨true, by rw [h1]; rfl⟩
    · exact ⟨false, by rw [show i = 0 by omega]; rfl⟩
  | _ => cases h
theorem rdB_rd {y : V} (h : rdB y = true) : ∃ r, y = rdV r := by
  unfold rdB at h
  rcases (Bool.or_eq_true _ _).mp h with h | h
  · exact ⟨none, of_decide_eq_true h⟩
  · obtain ⟨b, e⟩ := bel_bit h
    exact ⟨some b, e⟩
theorem all_bits {xs : List V} (h : (xs.all fun y => bel y 2) = true) : ∃ tb : List Bool, xs = tb.map bitV := by
  induction xs with
  | nil => exact ⟨[], rfl⟩
  | cons x r ih =>
    rw [List.all_cons, Bool.and_eq_true] at h
    obtain ⟨b, e⟩ := bel_bit h.1
    obtain ⟨tb, e2⟩ := ih h.2
    exact ⟨b :: tb, by rw [e, e2]; rfl⟩
theorem all_rds {xs : List V} (h : xs.all rdB = true) : ∃ rs : List (Option Bool), xs = rs.map rdV := by
  induction xs with
  | nil => exact ⟨[], rfl⟩
  | cons x r ih =>
    rw [List.all_cons, Bool.and_eq_true] at h
    obtain ⟨b, e⟩ := rdB_rd h.1
    obtain ⟨tb, e2⟩ := ih h.2
    exact ⟨b :: tb, by rw [e, e2]; rfl⟩
theorem sz_cases {n : Nat} (h : (sz n).isSome = true) : n = 1 ∨ n = 2 ∨ n = 4 ∨ n = 8 ∨ n = 16 := by
  unfold sz at h
  by_cases h1 : (n : Int) = 1
  · omega
  by_cases h2 : (n : Int) = 2
  · omega
  by_cases h3 : (n : Int) = 4
  · omega
  by_cases h4 : (n : Int) = 8
  · omega
  by_cases h5 : (n : Int) = 16
  · omega
  rw [if_neg h1, if_neg h2, if_neg h3, if_neg h4, if_neg h5] at h
  cases h
theorem sz_some {n k : Nat} (h : some (k : Int) = sz n) : k ≤ 4 ∧ n = 2 ^ k := by
  have hs : (sz n).isSome = true := by
    rw [← h]
    rfl
  have key : ∀ (m j : Nat), n = m → sz m = some (j : Int) → j ≤ 4 → m = 2 ^ j → k ≤ 4 ∧ n = 2 ^ k := fun m j e1 e2 e3 e4 => by
    rw [e1, e2] at h
    have e5 : (k : Int) = j := Option.some.inj h
    have e6 : k = j := by omega
    rw [e6, e1]
    exact ⟨e3, e4⟩
  rcases sz_cases hs with e | e | e | e | e
  · exact key 1 0 e (by decide) (by decide) (by decide)
  · exact key 2 1 e (by decide) (by decide) (by decide)
  · exact key 4 2 e (by decide) (by decide) (by decide)
  · exact key 8 3 e (by decide) (by decide) (by decide)
  · exact key 16 4 e (by decide) (by decide) (by decide)

section
variable {P : Program} {w : World} {K : PySem.W.Frag} {mg : Str → Option Value} {base : Heap}
/-- as okC, for a def that may raise -/
theorem okCX {x qual : Str} {st : Stmt} {f c : Addr} {fd : FuncData} {N ps : List Str} {k : Nat} {sp : Sp} (F : Fun K x qual st f fd) (hc : fd.code = .ref c) (S : FnScope N ps (defScope st)) (len : ∀ vs H Q E, sp vs H Q E → vs.length = ps.length)
    (hbody : ∀ (A : Around) (outer : List Env) (s : Shared) (H : Hp) (vs : List V) (Q : VK) (E : XK), Room k (A.deeper (envOfC qual (defScope st) s.heap.objs.size f (.ref c))) → sp vs H Q E →
      ∃ t, PSs (cxOf (L2.CX P w) P w K mg base N qual (defScope st) f (.ref c) A outer s H E) (defBody st) t ∧ t { nx := fun _ H' => Q .non H', rt := Q } (start N vs) H) : FnOk P w K mg base (L2.CX P w) (k + 1) f fd ps sp := by
  obtain ⟨oc, od, kV, doc, pm, an, cdv, ct, osl, rfl, lk, hcd⟩ := F.ex
  have e : cdv = .ref c := hc
  subst e
  exact fn_of lk hcd S len fun A outer s H vs Q E hr hsp => hbody A outer s H vs Q E hr hsp

def spGate (K : PySem.W.Frag) (TT : List Addr) (CT CR : Addr) : Sp := fun vs H Q E => ∃ (x1 x2 : V) (t1 t2 : String) (xs1 xs2 : List V), vs = [x1, x2] ∧ Ty1 K H x1 t1 ∧ TupV K H x1 t1 xs1 ∧ (t1 = "tuple" → ∀ y ∈ xs1, ∃ ty, Ty1 K H y ty) ∧
  Ty1 K H x2 t2 ∧ RowV K H x2 t2 xs2 ∧ TabsG TT H ∧
  (okT t1 xs1 = false → ∀ H', Ex TT H H' → E (.ref CT) none H') ∧
  (okT t1 xs1 = true → okR t2 xs2 xs1.length = false → ∀ H', Ex TT H H' → E (.ref CR) none H') ∧
  (okT t1 xs1 = true → okR t2 xs2 xs1.length = true → ∀ (tb : List Bool) (rs : List (Option Bool)) (H' : Hp), xs1 = tb.map bitV → xs2 = rs.map rdV → Ex TT H H' → Q (rdV (gateR tb rs)) H')
theorem scGate : FnScope ["table", "readings", "item"] ["table", "readings"] (defScope sGate) := ⟨rfl, rfl, rfl, by decide +kernel, rfl, by decide +kernel, by decide +kernel⟩
theorem ok_gate {TT : List Addr} {f fB fW fR fT c T d CT CR : Addr} {fd fdB fdW fdR fdT : FuncData} {es : Array DictEntry} {n : Nat} (F : Fun K "gate_reading" "gate_reading" sGate f fd) (hc : fd.code = .ref c) (TB : TabB base mg c T) (hTT : T ∈ TT)
    (mi : mg "isinstance" = none) (mtuple : mg "tuple" = none) (mlen : mg "len" = none) (mall : mg "all" = none)
    (D : IDict K d es n) (hes : Sizes es) (mD : mg "TABLE_SIZES" = some (.ref d))
    (xT : PySem.W.excIn K CT [.type "ValueError", .type "Exception", .type "BaseException", .type "object"] "ValueError.__new__" = true) (gT : mg "BadTable" = some (.ref CT)) (kCT : PySem.W.keepIn K (.ref CT) = true) (bCT : PySem.W.subIn K (.ref CT) (.type "BaseException") = some true) (tCT : PySem.W.typeIn K (.ref CT) = some (.type "type"))
    (xR : PySem.W.excIn K CR [.type "ValueError", .type "Exception", .type "BaseException", .type "object"] "ValueError.__new__" = true) (gR : mg "BadReadings" = some (.ref CR)) (kCR : PySem.W.keepIn K (.ref CR) = true) (bCR : PySem.W.subIn K (.ref CR) (.type "BaseException") = some true) (tCR : PySem.W.typeIn K (.ref CR) = some (.type "type"))
    (GB : FnOk P w K mg base CX0 5 fB fdB ["thing", "many"] (spBits K TT)) (kB : PySem.W.keepIn K (.ref fB) = true) (bB : Binds K fdB ["thing", "many"] []) (mB : mg "is_bits" = some (.ref fB))
    (GW : FnOk P w K mg base CX0 1 fW fdW ["thing"] (spRow K)) (kW : PySem.W.keepIn K (.ref fW) = true) (bW : Binds K fdW ["thing"] []) (mW : mg "is_row" = some (.ref fW))
    (GR : FnOk P w K mg base CX0 4 fR fdR ["thing"] (spReading K)) (kR : PySem.W.keepIn K (.ref fR) = true) (bR : Binds K fdR ["thing"] []) (mR : mg "is_reading" = some (.ref fR))
    (GT : FnOk P w K mg base CX0 1 fT fdT ["table", "readings"] (spTable K)) (kT : PySem.W.keepIn K (.ref fT) = true) (bT : Binds K fdT ["table", "readings"] []) (mT : mg "table_reading" = some (.ref fT)) :
    FnOk P w K mg base (L2.CX P w) 6 f fd ["table", "readings"] (spGate K TT CT CR) := by
  refine okCX F hc scGate (fun vs H Q E h => ?_) (fun A outer s H vs Q E hr h => ?_)
  · obtain ⟨x1, x2, t1, t2, xs1, xs2, rfl, _⟩ := h
    rfl
  · obtain ⟨x1, x2, t1, t2, xs1, xs2, rfl, ht1, hx1, hy1, ht2, hx2, hT, qT, qR, q⟩ := h
    have hu := hu_of hr
    refine ⟨_, pss_cons (ps_if (pw_or (pt_not (pt_val (pe_callB call_isi (by rfl) mi (by decide +kernel) (pa_cons (pv 0) (pa_cons (pe_bltn (v := .ty "tuple") (u := .type "tuple") (by rfl) mtuple (by decide +kernel) rfl) pa_nil)))))
        (pw_or1 (pt_cmpR (op_notIn_id D) (pe_callB call_len_seq (by rfl) mlen PySem.boot_len (pa_cons (pv 0) pa_nil)) (pe_glob (v := .ref d) (by rfl) mD rfl) (by rfl)))).pt
        (pss_one (ps_raise rfl (takes_of rfl rfl rfl rfl) (pmk_own PySem.F.excBase_ValueError xT gT kCT (raises_own bCT tCT) (by rfl)))) pss_nil)
      (pss_cons (ps_if (pt_not (pt_val (pe_call GB (hr.mono (by decide)) (by rfl) mB kB bB .nil pass0 (pa_cons (pv 0) (pa_cons (pe_callB call_len_seq (by rfl) mlen PySem.boot_len (pa_cons (pv 0) pa_nil)) pa_nil)))))
        (pss_one (ps_raise rfl (takes_of rfl rfl rfl rfl) (pmk_own PySem.F.excBase_ValueError xT gT kCT (raises_own bCT tCT) (by rfl)))) pss_nil)
      (pss_cons (ps_if (pw_or (pt_not (pt_val (pe_call GW (hr.mono (by decide)) (by rfl) mW kW bW .nil pass0 (pa_cons (pv 1) pa_nil))))
        (pw_or1 (pt_cmpR op_ne (pe_callB call_len_seq (by rfl) mlen PySem.boot_len (pa_cons (pv 1) pa_nil)) (pe_ix (ix_id D) (pe_glob (v := .ref d) (by rfl) mD rfl) (pe_callB call_len_seq (by rfl) mlen PySem.boot_len (pa_cons (pv 0) pa_nil)) (fun _ _ => rfl)) (nomark _)))).pt
        (pss_one (ps_raise rfl (takes_of rfl rfl rfl rfl) (pmk_own PySem.F.excBase_ValueError xR gR kCR (raises_own bCR tCR) (by rfl)))) pss_nil)
      (pss_cons (ps_if (pt_not (pt_val (GX.pe_all (own := [("item", 2)]) (k := 4) hr (by rfl) mall TB rfl rfl scGate.nd (pi_seq (pv 1)) (blkOk_by (N := ["table", "readings", "item"]) (sc := defScope sGate) (by decide +kernel)) (GX.genNames_by (by decide +kernel))
        (fun _ _ _ _ _ _ _ => pg_name (i := 2) scGate.nd rfl (Or.inl rfl)) (fun _ _ _ _ _ _ _ _ => pts_nil) (fun _ _ _ _ _ _ _ hr2 => pe_call GR hr2 (by rfl) mR kR bR .nil pass0 (pa_cons (pv 2) pa_nil)))))
        (pss_one (ps_raise rfl (takes_of rfl rfl rfl rfl) (pmk_own PySem.F.excBase_ValueError xR gR kCR (raises_own bCR tCR) (by rfl)))) pss_nil)
      (pss_one (ps_ret (pe_call GT (hr.mono (by decide)) (by rfl) mT kT bT .nil pass0 (pa_cons (pv 0) (pa_cons (pv 1) pa_nil)))))))), ?_⟩
    refine ⟨_, rfl, x1, .ty "tuple", _, _, _, rfl, .ty "tuple", ht1.ty, kit_of1 ht1.mem (by decide), _, rfl, ?_⟩
    by_cases h1 : t1 = "tuple"
    · subst h1
      obtain ⟨a1, rfl, hS1⟩ := hx1 rfl
      have hy1 := hy1 rfl
      have ek : kitR "tuple" "tuple" = true := by decide
      rw [ek]
      refine iteF ⟨_, rfl, a1, xs1, rfl, .inr hS1, _, rfl, rfl, _, rfl, ?_⟩
      rw [hes.isSome]
      cases hz : sz xs1.length with
      | none =>
        refine iteT (qT ?_ H (Ex.refl _ _))
        unfold okT
        rw [hz]
        simp
      | some kk =>
        -- is_bits(table, len(table))
        refine iteF ⟨_, rfl, _, rfl, a1, xs1, rfl, .inr hS1, _, "tuple", xs1, _, rfl, ht1, fun _ => ⟨a1, rfl, hS1⟩, fun _ => hy1, hT, fun H1 e1 => ⟨_, rfl, ?_⟩⟩
        have hT1 := e1.tabs hT
        have n1 := e1.extN hT
        rw [decide_eq_true (rfl : ("tuple" : String) = "tuple"), decide_eq_true (rfl : (xs1.length : Int) = xs1.length), Bool.true_and, Bool.true_and]
        have eT : okT "tuple" xs1 = xs1.all fun y => bel y 2 := by
          unfold okT
          rw [hz]
          simp
        cases hall : (xs1.all fun y => bel y 2) with
        | false =>
          rw [hall] at eT
          exact iteT (qT eT H1 e1)
        | true =>
          rw [hall] at eT
          refine iteF ⟨_, rfl, x2, t2, rfl, ht2.ext n1, fun H2 s2 => ⟨_, rfl, ?_⟩⟩
          have e2 : Ex TT H H2 := e1.trans (Ex.same s2)
          have hT2 := e2.tabs hT
          have n2 := e2.extN hT
          by_cases hrow : t2 = "list" ∨ t2 = "tuple"
          · rw [decide_eq_true hrow]
            obtain ⟨a2, J, rfl, hJ, hy2⟩ := hx2.ext n2 hrow
            obtain ⟨tk, hg⟩ : ∃ tk, iGet es xs1.length = some (.int kk tk) := by
              have z := hes xs1.length
              rw [hz] at z
              exact z
            refine iteF ⟨_, rfl, a2, xs2, rfl, (by rcases hJ with ⟨_, z⟩ | ⟨_, z⟩; exact .inl z; exact .inr z), _, rfl, a1, xs1, rfl, .inr (extN_seqT n2 hS1), _, _, .int kk, rfl, rfl, hg, ⟨tk, rfl⟩, rfl, _, rfl, ?_⟩
            by_cases hl : (xs2.length : Int) = kk
            · rw [decide_eq_true (congrArg V.int hl)]
              refine iteF ⟨_, rfl, a2, xs2, J, rfl, hJ, hT2 T hTT, fun H3 hT3 => ⟨fun i m H4 => m + i = xs2.length ∧ Ex TT H2 H4 ∧ ((xs2.take i).all rdB) = true, ⟨xs2.length, rfl, Ex.tabbed hTT hT3, rfl⟩, fun i m H4 hW => ?_⟩⟩
              obtain ⟨em, x4, ha⟩ := hW
              have n4 := x4.extN hT2
              have e4 : Ex TT H H4 := e2.trans x4
              have eR : okR t2 xs2 xs1.length = xs2.all rdB := by
                unfold okR
                rw [decide_eq_true hrow, hz, hl]
                simp
              have hJ4 := hJ.ext n4
              by_cases hi : i < xs2.length
              · have go : J.go i H4 ∧ ∀ y H', J.yld i H4 y H' → H' = H4 ∧ xs2[i]? = some y := by
                  rcases hJ4 with ⟨rfl, z⟩ | ⟨rfl, z⟩
                  · exact ⟨⟨xs2, xs2[i], z, List.getElem?_eq_getElem hi⟩, fun y H' ⟨e, hy⟩ => ⟨e, hy _ z⟩⟩
                  · exact ⟨⟨xs2, xs2[i], z, List.getElem?_eq_getElem hi⟩, fun y H' ⟨e, hy⟩ => ⟨e, hy _ z⟩⟩
                refine .inr ⟨go.1, fun H5 => Ex TT H2 H5 ∧ ((xs2.take (i + 1)).all rdB) = true, fun H5 ⟨x5, a5⟩ => ⟨m - 1, by omega, by omega, x5, a5⟩, fun y H5 hy => ?_⟩
                obtain ⟨rfl, ey⟩ := go.2 y H5 hy
                obtain ⟨ty, hty⟩ := hy2 y (List.mem_of_getElem? ey)
                refine ⟨rfl, _, rfl, y, ty, rfl, hty.ext n4, _, rfl, fun hc => ⟨_, rfl, iteT (qR eT ?_ H5 e4)⟩, fun hc => ⟨x4, ?_⟩⟩
                · rw [eR, Bool.eq_false_iff]
                  intro z
                  have z2 := List.all_eq_true.mp z y (List.mem_of_getElem? ey)
                  rw [z2] at hc
                  cases hc
                · rw [take_snoc ey, List.all_append, ha]
                  simpa using hc
              · rw [List.take_of_length_le (by omega)] at ha
                rw [ha] at eR
                have stop : J.stop i H4 := by
                  rcases hJ4 with ⟨rfl, z⟩ | ⟨rfl, z⟩
                  · exact ⟨xs2, z, by omega⟩
                  · exact ⟨xs2, z, by omega⟩
                obtain ⟨tb, etb⟩ := all_bits hall
                obtain ⟨rs, ers⟩ := all_rds ha
                refine .inl ⟨stop, _, rfl, iteF ⟨_, rfl, _, rfl, a1, a2, tb, rs, J, rfl, by rw [← etb]; exact extN_seqT n4 (extN_seqT n2 hS1), by rw [← ers]; exact hJ4, ?_, ?_, fun H5 s5 => q eT eR tb rs H5 etb ers (e4.trans (Ex.same s5))⟩⟩
                · have z := (sz_some (n := xs1.length) (k := xs2.length) (by rw [hz, hl])).1
                  rw [ers, List.length_map] at z
                  exact z
                · have z := (sz_some (n := xs1.length) (k := xs2.length) (by rw [hz, hl])).2
                  rw [ers, etb, List.length_map, List.length_map] at z
                  exact z
            · have hne : decide (V.int (xs2.length : Int) = V.int kk) = false := decide_eq_false fun z => hl (V.int.inj z)
              rw [hne]
              refine iteT (qR eT ?_ H2 e2)
              unfold okR
              rw [hz, decide_eq_false fun z => hl (Option.some.inj z)]
              simp
          · rw [decide_eq_false hrow]
            refine iteT (qR eT ?_ H2 e2)
            unfold okR
            rw [decide_eq_false hrow]
            rfl
    · have ek : kitR t1 "tuple" = false := by
        unfold kitR
        rw [decide_eq_false h1]
        simp
      rw [ek]
      refine iteT (qT ?_ H (Ex.refl _ _))
      unfold okT
      rw [decide_eq_false h1]
      rfl
end
end K02

set_option Elab.async false
set_option linter.all false
set_option maxRecDepth 100000
set_option maxHeartbeats 2000000
/-! A caught exception that is still known behind its try; a lambda handed to a def, with the other tables kept. -/
namespace CE
open PySem PySem.Spec L2
open PyProof.Rows

/-- an exception of the class cls stands at a -/
def CauO (cls : Value) (d : Option Addr) (a : Addr) : HO := .ext fun h => ∃ (oe : Obj) (vs : Array Value), h.get? a = some oe ∧ Zc cls d oe ∧ oe.data = .fields vs

section
variable {X : Cx} {pins : List (Addr × Obj)} {σ : L2.St} {H : Hp} {s : Shared}
theorem told {a : Addr} {oe : Obj} {cls : Value} {d : Option Addr} {vs : Array Value} (I : Inv X pins σ H s) (e : s.heap.get? a = some oe) (z : Zc cls d oe) (hd : oe.data = .fields vs) (na : H a = none)
    (n0 : X.s_0.heap.get? a = none) (nl : a ≠ X.env.locals) (np : ∀ p ∈ X.pn ++ pins, p.1 ≠ a) : Inv X pins σ (upd H a (CauO cls d a)) s where
  ok := I.ok
  os := I.os
  bare := I.bare
  base := by
    have U := I.base
    refine ⟨U.keep, U.slot, fun b o q n x => ?_, U.there, fun b xs q => ?_, fun b o u q => ?_, fun b ps q => ?_⟩
    · have hb : b ≠ a := fun w => by
        rw [w, n0] at q
        cases q
      rw [upd_ne hb]
      exact U.free b o q n x
    · have q' := U.tups b xs q
      rw [upd_ne (ne_of_none q' na)]
      exact q'
    · have q' := U.frzs b o u q
      rw [upd_ne (ne_of_none q' na)]
      exact q'
    · obtain ⟨m, q'⟩ := U.tbls b ps q
      refine ⟨m, ?_⟩
      rw [upd_ne (ne_of_none q' na)]
      exact q'
  loc := I.loc
  cell := I.cell
  free := by
    rw [upd_ne (Ne.symm nl)]
    exact I.free
  freeC := fun x c hc => by
    have n : c ≠ a := fun w => by
      obtain ⟨v, o', e1, e2⟩ := I.cell x c hc
      rw [w, e] at e1
      cases e1
      rw [hd] at e2
      cases e2
    rw [upd_ne n]
    exact I.freeC x c hc
  pin := fun p hp => by
    obtain ⟨p1, p2, p3⟩ := I.pin p hp
    refine ⟨p1, ?_, p3⟩
    rw [upd_ne (np p hp)]
    exact p2
  hok := fun b u q => by
    by_cases hb : b = a
    · rw [hb, upd_same] at q
      cases q
      rw [hb]
      exact ⟨⟨oe, vs, e, z, hd⟩, ⟨oe, e⟩, fun _ _ ⟨o, v, g, r⟩ k => ⟨o, v, k o g, r⟩⟩
    · rw [upd_ne hb] at q
      exact (I.hok b u q).stay (fun _ _ _ g => g) (fun c g => by rw [upd_ne (ne_of_none g na)]; exact g) fun c xs g => by rw [upd_ne (ne_of_none g na)]; exact g
  len := I.len
end
/-- what a try with one clause `except c as n` asks; behind its suite the caught error is known -/
def wKept (K : PySem.W.Frag) (c : Value) (i : Nat) (ts : Addr → Value → Option Addr → TS) (Wout : WX) (D : Ends) : WX := fun cls d σ H => ∃ b, PySem.W.exmOne K cls c = some b ∧
  (b = true → ∀ a, H a = none → ts a cls d { nx := fun σ' H' => D.nx (σ'.set i none) (upd H' a (CauO cls d a)), rt := fun _ _ => False, bk := fun _ _ => False, ct := fun _ _ => False } (σ.set i (some (.ref a))) H) ∧ (b = false → Wout cls d σ H)

section
variable {X : Cx} {body : List Stmt} {x n : Str} {c : Value} {i : Nat} {b₀ : Stmt} {suite : List Stmt} {Wout : WX} {tb : WX → TS} {ts : Addr → Value → Option Addr → TS} {np pos pos' : Pos}
theorem ps_try_kept (hs : X.stack = X.env :: X.outer) (hf : X.env.frame = some X.env.locals) (hex : X.ex = []) (hN : X.N.Nodup) (hi : X.N[i]? = some n) (hln : X.env.kindOf n = some .local) (hc : Names X x c) (tk : Takes X Wout)
    (hb : ∀ (W : WX) (pn : List (Addr × Obj)) (xe : Value → Shared → Prop), Takes (X.tr pn xe) W → PassesOwn (model X.prog X.w) X.A X.env xe → PSs (X.tr pn xe) body (tb W))
    (hsu : ∀ (a : Addr) (oe : Obj) (cls : Value) (d : Option Addr) (pn : List (Addr × Obj)), PSs (X.suite a ((a, oe) :: pn)) (b₀ :: suite) (ts a cls d)) :
    PS X (.Try body [.ExceptHandler (some (.Name x np)) (some n) (b₀ :: suite) pos'] [] [] pos) (fun D σ H => tb (wKept X.K c i ts Wout D) D σ H) := by
  constructor
  intro pins s σ H D I h
  have ok := I.ok
  have fr : X.A.frames = some (X.env :: X.outer) := ok.frames.trans (by rw [hs])
  have lc : Loc X.env.scope n := .inl hln
  apply wpAny_Try_except
  have hb' := hb (wKept X.K c i ts Wout D) (X.pn ++ pins) (fun e s₁ => wpAny (model X.prog X.w) X.A (noteFrame e X.env) (fun _ s₂ => wpAny (model X.prog X.w) X.A (setFlight e none) (fun _ s₃ =>
    wpAny (model X.prog X.w) X.A (handleBy e X.env [.ExceptHandler (some (.Name x np)) (some n) (b₀ :: suite) pos']) (SP X pins D) X.xe s₃) X.xe s₂) X.xe s₁)
  refine wpAny_mono ((hb' ?caught PassesOwn.looking).run [] s σ H D (I.toTry _) h) ?through fun e s1 he => he
  case through =>
    intro f s1 sp
    cases f with
    | next => exact sp.elim fun σ1 z => z.elim fun H1 z => wpAny_execs_nil ⟨σ1, H1, z.1.ofTry ok, z.2⟩
    | brk => exact sp.elim fun σ1 z => z.elim fun H1 z => ⟨σ1, H1, z.1.ofTry ok, z.2⟩
    | cont => exact sp.elim fun σ1 z => z.elim fun H1 z => ⟨σ1, H1, z.1.ofTry ok, z.2⟩
    | ret u => exact sp.elim fun v z => z.elim fun σ1 z => z.elim fun H1 z => ⟨v, σ1, H1, z.1.ofTry ok, z.2.1, z.2.2⟩
  case caught =>
    rintro u s' ⟨a, B, sI, pins', σ1, H1, cls, d, rfl, J', nb, up, sky, na, os, ag, b, hb1, yes, no⟩
    have J : Inv X pins σ1 H1 sI := J'.ofTry ok
    have sky1 : Sky B (X.env :: X.outer) a (Zc cls d) X.env.locals s'.heap := hs ▸ sky
    show wpAny (model X.prog X.w) X.A (noteFrame (.ref a) X.env) _ _ _
    refine Sky.land Zc.steady fr hf sky1 fun h3 fl up3 => ?_
    obtain ⟨o3, v3, g3, z3, d3⟩ := fl.there
    have J3 : Inv X pins σ1 H1 { s' with heap := h3 } := J.landed nb fl.1 (up.trans up3) os ag
    have out : a ∉ frs (X.env :: X.outer) := fun hm => by
      obtain ⟨_, o', e', nf⟩ := fl.2.2.1.mem hm
      rw [g3] at e'
      cases e'
      exact nf _ d3
    have nl : a ≠ X.env.locals := fun w => out (List.mem_filterMap.mpr ⟨X.env, List.mem_cons_self, by rw [hf, w]⟩)
    have nfs : a ∉ X.fs := fun hm => by
      obtain ⟨e, m, q⟩ := List.mem_filterMap.mp hm
      exact out (List.mem_filterMap.mpr ⟨e, List.mem_cons_of_mem _ m, q⟩)
    have none_ : sI.heap.get? a = none := by
      cases q : sI.heap.get? a with
      | none => rfl
      | some o =>
        have z := nb a o q (by rw [hs]; exact out)
        rw [fl.2.1] at z
        cases z
    have none0 : X.s_0.heap.get? a = none := by
      cases q : X.s_0.heap.get? a with
      | none => rfl
      | some o =>
        obtain ⟨o', z⟩ := J.base.there a o q (by rw [hex]; exact List.not_mem_nil)
        rw [none_] at z
        cases z
    have pn_ : ∀ p ∈ X.pn ++ pins, p.1 ≠ a := fun p hp w => by
      have z := (J.pin p hp).1
      rw [w, none_] at z
      cases z
    have S3 := J3.suite g3 d3 na nl nfs
    have lt : PySem.W.Looks (model X.prog X.w) h3 (typeOf (.ref a)) cls := fun _ _ _ _ k q => wpAny_typeOf_ref (k _ _ g3) (z3.1 ▸ q)
    have lm := PySem.W.exm_one (M := model X.prog X.w) J3.kIn lt hb1
    have ask : ∀ {Q : Value → Shared → Prop} {E : Value → Shared → Prop}, Q c { s' with heap := h3 } → wpAny (model X.prog X.w) (X.A.mark (some (.ref a))) (eval (.Name x np) X.env) Q E { s' with heap := h3 } := by
      intro Q E q
      rcases hc with ⟨hg, hdb, hm | ⟨hm, hv, hnn⟩⟩
      · exact ld_glob (X := X.suite a _) S3 hg hm q hdb
      · exact ld_blt (X := X.suite a _) S3 hg hm hv q hnn hdb
    refine wpAny_handleBy_cons (codeAny_handlers_test (ask (lm.here ?_))) (by intro q; cases q)
    cases b with
    | true =>
      refine codeAny_handlers_suite_as (HandSPX.lands_againZ fl fun h4 fl4 up4 => ?_)
      obtain ⟨o4, v4, g4, z4, d4⟩ := fl4.there
      have J4 : Inv X pins σ1 H1 { s' with heap := h4 } := J.landed nb fl4.1 ((up.trans up3).trans up4) os ag
      have S4 := J4.suite g4 d4 na nl nfs
      refine store_ok (X := X.suite a ((a, o4) :: (X.pn ++ pins))) (v := .ref a) S4 hN hi lc rfl (fun s5 S5 => ?_) (.inr hln)
      refine wpAny_mono ((hsu a o4 cls d (X.pn ++ pins)).run [] s5 _ H1 _ S5 (yes rfl a na)) (fun f s6 sp => ?_) (fun _ _ w => w.elim)
      cases f with
      | next =>
        obtain ⟨σ6, H6, S6, q6⟩ := sp
        have p6 := S6.pin (a, o4) (List.mem_append_left _ List.mem_cons_self)
        have K6 := told (S6.unsuite ok) p6.1 z4 d4 p6.2.1 none0 nl pn_
        exact gone_ok K6 hN hi hln fun s7 J7 => ⟨_, _, J7, q6⟩
      | brk => exact sp.elim fun _ z => z.elim fun _ z => z.2.elim
      | cont => exact sp.elim fun _ z => z.elim fun _ z => z.2.elim
      | ret u => exact sp.elim fun _ z => z.elim fun _ z => z.elim fun _ z => z.2.2.elim
    | false =>
      show wpAny _ X.A (handleBy (.ref a) X.env []) _ _ _
      apply wpAny_handleBy_nil
      obtain ⟨_, _, _, oe, vs, T, oT, ts', he, _, hd, h1, _⟩ := id fl
      unfold PySem.passOn
      refine wpAny_bind (wpAny_field he hd h1 ?_)
      rw [if_neg (show ¬ ((Value.ref T == Value.none) = true) from by simp)]
      have fin : wpAny (model X.prog X.w) X.A (setFlight (.ref a) X.env.frame) (fun _ s4 => wpAny (model X.prog X.w) X.A (throw (.ref a) : Sem Flow) (SP X pins D) X.xe s4) X.xe { s' with heap := h3 } := by
        rw [hf]
        exact HandSPX.setFlight_upZ fl fun h4 hh4 up4 => wpAny_throw (tk _ _ ⟨a, B, sI, pins, σ1, H1, cls, d, rfl, J, nb, (up.trans up3).trans up4, .inr (.inr (by rw [hs]; exact hh4)), na, os, ag, no rfl⟩)
      first
        | exact wpAny_bind (wpAny_pure (wpAny_bind fin))
        | exact wpAny_bind fin
end

/-! ### isinstance of it -/
def rIsCau (K : PySem.W.Frag) (D : Addr) : List V → Hp → VK → Prop := fun xs H Q => ∃ (a : Addr) (c : V) (cv : Value) (b : Bool), xs = [.ref a, c] ∧ H a = some (CauO (.ref D) none a) ∧ (∀ u, RelV c u → u = cv) ∧ PySem.W.kitOne K (.ref D) cv = some b ∧ Q (.bl b) H
theorem call_isCau {X : Cx} {D : Addr} (C : ExcC X.K D) : CallR X (.builtin "isinstance") (rIsCau X.K D) := by
  intro pins s σ H xs us Q I r h
  obtain ⟨a, c, cv, b, rfl, hH, hcv, e, q⟩ := h
  rcases r with _ | ⟨rx, _ | ⟨rt, r0⟩⟩
  cases r0
  cases rx
  cases hcv _ rt
  obtain ⟨oe, vs, g, z, hd⟩ := (I.hok a _ hH).1
  have J : PySem.W.InstAt s.heap a oe D none := by
    rcases oe with ⟨oc, od, oda, osl⟩
    obtain ⟨h1, h2⟩ := z
    dsimp only at h1 h2 hd
    subst h1
    subst h2
    subst hd
    exact ⟨g, rfl, rfl, trivial⟩
  exact PySem.W.kia_one (PySem.W.handS_kitx_exc C.hg C.hk C.hs C.hd C.ha C.hn C.ht C.hm) I.kIn J e (fun z => nomatch z) fun tk => ⟨.bl b, H, I.kept (t' := tk) fun _ _ z => z, rfl, q⟩
end CE

set_option Elab.async false
set_option linter.all false
set_option maxRecDepth 100000
set_option maxHeartbeats 2000000
/-! _law_caught(lambda: ..). -/
namespace K02
open PySem PySem.Spec L2
open PyProof.Rows GenW GxR LamX CE
abbrev sCaught : Stmt := top 21
abbrev nCaught : List Str := ["work", "caught", "error"]
theorem scCaught : FnScope nCaught ["work"] (defScope sCaught) := ⟨rfl, rfl, rfl, by decide +kernel, rfl, by decide +kernel, by decide +kernel⟩
theorem takes_len {X : Cx} {W : WX} (t : Takes X W) : Takes X (fun cls d σ H => σ.length = X.N.length → W cls d σ H) := fun u s' ⟨a, B, sI, pins, σ, H, cls, d, e, I, nb, up, sky, na, os, ag, w⟩ =>
  t u s' ⟨a, B, sI, pins, σ, H, cls, d, e, I, nb, up, sky, na, os, ag, w I.len⟩
/-- what _law_caught makes of the lambda: the error that it raises is given back, or None -/
def TCau (K : PySem.W.Frag) (CS : Addr) : (XK → Hp → VK → Prop) → Hp → VK → Prop := fun tl H Q =>
  tl (fun cls d H' => ∃ b, PySem.W.exmOne K cls (.ref CS) = some b ∧ (b = true → ∀ a, H' a = none → Q (.ref a) (upd H' a (CauO cls d a))) ∧ (b = false → False)) H fun _ H' => Q .non H'
theorem three {σ : L2.St} (h : σ.length = 3) : ∃ a b c, σ = [a, b, c] := by
  rcases σ with _ | ⟨a, _ | ⟨b, _ | ⟨c, _ | ⟨d, r⟩⟩⟩⟩
  all_goals first
    | exact ⟨_, _, _, rfl⟩
    | exact absurd h (by simp)
theorem caught_gives {X : Cx} {g CS : Addr} {cdg : Value} {q : Str} (hm : X.mg "RestError" = some (.ref CS)) : GivesTo X nCaught "_law_caught" (defScope sCaught) g cdg (defBody sCaught) "work" q (TCau X.K CS) := by
  intro f c' s H Q tl act hc h
  refine ⟨_, pss_cons (ps_set (i := 1) scCaught.nd rfl (Or.inl rfl) pe_non)
    (pss_cons (ps_try_kept (X := (cxOf C8.CX0 X.prog X.w X.K X.mg X.base nCaught "_law_caught" (defScope sCaught) g cdg X.A X.stack s H C8.E0).nox) (c := .ref CS) (i := 2) (Wout := fun _ _ _ _ => False)
      (tb := fun W D σ H => ∃ Ech : XK, (∀ cls d σ' H', σ'.length = 3 → Ech cls d H' → W cls d σ' H') ∧ σ = [some (.ref f), some .non, Option.none] ∧ H c' = some (CodeO c' q) ∧ tl Ech H fun _ H' => D.nx σ H')
      (ts := fun a _ _ => fun D σ H => D.nx (σ.set 1 (some (.ref a))) H ∧ σ[2]? = some (some (.ref a)))
      rfl rfl rfl scCaught.nd rfl (by rfl) ⟨by rfl, by decide, .inl hm⟩ LamX.takes0 (fun W pn xe tk _ => ?body) (fun a oe cls d pn => ?suite))
    (pss_one (ps_ret (pv 1)))), ?q⟩
  case body =>
    refine ⟨fun pins s' σ H' D I h' => ?_⟩
    obtain ⟨Ech, hW, h1, h2, h3⟩ := h'
    exact (pss_one (ps_expr (act _ pn xe Ech _ _ (takes_len tk) (fun cls d σ' H' e l => hW cls d σ' H' l e)))).run pins s' σ H' D I ⟨by rw [h1]; rfl, h2, h3⟩
  case suite =>
    refine ⟨fun pins s' σ H' D I h' => ?_⟩
    exact (pss_one (ps_set (i := 1) scCaught.nd rfl (Or.inl rfl) (pv 2))).run pins s' σ H' D I ⟨_, h'.2, h'.1⟩
  case q =>
    refine ⟨fun cls d H' => ∃ b, PySem.W.exmOne X.K cls (.ref CS) = some b ∧ (b = true → ∀ a, H' a = none → Q (.ref a) (upd H' a (CauO cls d a))) ∧ (b = false → False), fun cls d σ' H' hl ⟨b, e1, e2, e3⟩ => ⟨b, e1, fun hb a na => ?_, fun hb => e3 hb⟩, rfl, hc, ?_⟩
    · obtain ⟨x, y, z, rfl⟩ := three hl
      exact ⟨⟨_, rfl, e2 hb a na⟩, rfl⟩
    · show tl _ H fun _ H' => ∃ v, ([some (V.ref f), some V.non, Option.none] : L2.St)[1]? = some (some v) ∧ Q v H'
      have e : (fun (_ : V) (H' : Hp) => ∃ v, ([some (V.ref f), some V.non, Option.none] : L2.St)[1]? = some (some v) ∧ Q v H') = fun _ H' => Q .non H' :=
        funext fun _ => funext fun H' => propext ⟨fun ⟨v, e, q⟩ => by cases e; exact q, fun q => ⟨_, rfl, q⟩⟩
      rw [e]
      exact h
end K02

set_option Elab.async false
set_option linter.all false
set_option maxRecDepth 100000
set_option maxHeartbeats 2000000
/-! A lambda handed to a def, all tables but the maker's own kept as they are. -/
namespace CE
open PySem PySem.Spec L2
open PyProof.Rows LamX
/-- all but P's table is as it was -/
def ButP (P : Addr) (H H' : Hp) : Prop := ∀ b o, b ≠ P → H b = some o → H' b = some o
def lamN (X : Cx) : Str := X.env.qual ++ "<lambda>"
section
variable {X : Cx} {pins : List (Addr × Obj)} {σ : L2.St} {H : Hp} {s : Shared}
theorem lam_mk {c P : Addr} {ps : Arguments} {body : Expr} {sc : Scope} {pos : Pos} {E Q : Value → Shared → Prop} (I : Inv X pins σ H s) (TB : TabB X.base X.mg c P) (hcode : X.env.code = .ref c) (hT : TabS H P (lamN X))
    (hdef : defaultsOf ps X.env = ([], [])) (hfree : ∀ y ∈ sc.names, y.2 = .free → ∃ c, X.env.cells.lookup y.1 = some c)
    (h : ∀ (f c' : Addr) (pm ctv : Value) (H1 : Hp) (s' : Shared), Inv X pins σ H1 s' → ButP P H H1 → TabS H1 P (lamN X) → s'.heap.get? f = some (PySem.W.kla_obj "<lambda>" (lamN X) ps body sc (cloFrom X.env.cells sc.names []) pm c' ctv) →
      H1 f = none → f ∉ frs X.stack → H1 c' = some (CodeO c' (lamN X)) → Q (.ref f) s') : wpAny (model X.prog X.w) X.A (eval (.Lambda ps body sc pos) X.env) Q E s := by
  obtain ⟨tb, tP, tt, tc⟩ := hT
  have inP : s.heap.get? P = some { cls := .none, data := .fields tb } := I.hok P _ tP
  have far : ∀ f, s.heap.objs.size ≤ f → f ∉ frs X.stack := by
    intro f hf z
    rcases List.mem_cons.mp (I.stkSub _ z) with e | e
    · have lt := I.lt
      rw [← e] at lt
      exact Nat.not_le_of_lt lt hf
    · exact I.nofs hf e
  apply PySem.W.kla_eval hdef
  rcases hc : codeAmong pos tb.toList with _ | cv
  · refine PySem.W.kla_makeFunction (mg := X.mg) (c := c) (P := P) (ps := tb) (closure_ok hfree) I.ok.glob (I.mod.glob.keeps I.bk) hcode (TB.code.keeps I.bk) inP tt hc TB.gP (TB.bm.keeps I.bk) ?_
    intro c' ctv h' tk hx hge hlt hrec htb
    obtain ⟨c2, oc, vs, t, ec, hoc, hd, hv⟩ := hrec
    cases ec
    have grow : s.heap.objs.size ≤ h'.objs.size := Nat.le_trans hge (Nat.le_of_lt hlt)
    have fresh : H c' = none := I.hok.fresh hge
    have nP : P ≠ c' := ne_of_none tP fresh
    have J := inv_table (t' := tk) (more := #[rawInt pos.line, rawInt pos.col, .ref c']) (h' := h'.push (PySem.W.kla_obj "<lambda>" (lamN X) ps body sc (cloFrom X.env.cells sc.names []) ((X.mg "__name__").getD .none) c' ctv)) I tP
      (fun b o hb e => Heap.get?_push_of_some _ (hx b o hb e)) (Heap.get?_push_of_some _ htb) hge ⟨oc, vs, t, Heap.get?_push_of_some _ hoc, hd, hv⟩
    refine h h'.objs.size c' _ ctv _ _ J (fun b o hb e => ?_) ⟨tb ++ #[rawInt pos.line, rawInt pos.col, .ref c'], ?_, ?_, fun p' cv hcv => ?_⟩ (Heap.get?_push_size _ rfl) ?_ (far _ grow) upd_same
    · rw [upd_ne (ne_of_none e fresh), upd_ne hb]
      exact e
    · rw [upd_ne nP, upd_same]
    · rw [Array.toList_append]
      exact PySem.TriplesOk_snoc _ _ _ _ tt
    · rw [Array.toList_append] at hcv
      rcases among_app _ tt hcv with z | z
      · obtain ⟨c0, e1, e2⟩ := tc p' cv z
        refine ⟨c0, e1, ?_⟩
        rw [upd_ne (ne_of_none e2 fresh), upd_ne (fun w => by rw [w, tP] at e2; exact codeO_ne _ (Option.some.inj e2).symm)]
        exact e2
      · exact ⟨c', z, upd_same⟩
    · have pLt := Heap.lt_size inP
      rw [upd_ne (Nat.ne_of_gt hlt), upd_ne (Nat.ne_of_gt (Nat.lt_of_lt_of_le pLt grow))]
      exact I.hok.fresh grow
  · obtain ⟨c', rfl, hco⟩ := tc pos cv hc
    refine PySem.W.kla_makeFunctionHit (mg := X.mg) (c := c) (P := P) (ps := tb) (closure_ok hfree) I.ok.glob (I.mod.glob.keeps I.bk) hcode (TB.code.keeps I.bk) inP tt hc (TB.bm.keeps I.bk) fun ctv h' tk hx hsz => ?_
    exact h h'.objs.size c' ((X.mg "__name__").getD .none) ctv H _ (I.kept (t' := tk) (h' := h'.push _) fun b o e => Heap.get?_push_of_some _ (hx b o e)) (fun _ _ _ e => e) ⟨tb, tP, tt, tc⟩ (Heap.get?_push_size _ rfl) (I.hok.fresh hsz) (far _ hsz) hco
end
def tLamP (P : Addr) (q : Str) (TT : (XK → Hp → VK → Prop) → Hp → VK → Prop) (t : XK → TE) : TE := fun σ H Q => TabS H P q ∧ ∀ H1, ButP P H H1 → TabS H1 P q → TT (fun E H' Q' => t E σ H' Q') H1 Q
section
variable {X : Cx}
/-- x(lambda: body), x a def of one parameter -/
theorem pe_lamP {TT : (XK → Hp → VK → Prop) → Hp → VK → Prop} {x a : Str} {g c P : Addr} {k : Nat} {pg : Arguments} {bg : List Stmt} {sg : Scope} {dV kV doc pm cdv ct oc : Value} {an od : Option Addr} {osl : Array (Option Value)} {Ng : List Str}
    {ps : Arguments} {body : Expr} {sc : Scope} {t : XK → TE} {p lpos pos : Pos} (hg : Gl X x) (hm : X.mg x = some (.ref g)) (hk : PySem.W.keepIn X.K (.ref g) = true) (lk : X.K.lookup g = some ⟨oc, od, .func (PySem.W.fnOf x x pg bg sg dV kV doc pm an cdv ct), osl⟩)
    (hcg : PySem.W.codeIn X.K cdv x = true) (hb : L2.Binds X.K (PySem.W.fnOf x x pg bg sg dV kV doc pm an cdv ct) [a] []) (Sg : FnScope Ng [a] sg) (hNg : Ng[0]? = some a) (hva : Vis sg a) (hG : GivesTo X Ng x sg g cdv bg a (lamN X) TT)
    (TB : TabB X.base X.mg c P) (hcode : X.env.code = .ref c) (hr : Room (k + 2) X.A) (L : LamS X.env.scope sc) (hdef : defaultsOf ps X.env = ([], [])) (hbind : ∀ (q : Str) (cl : List (Str × Addr)) (pm cv ctv : Value), bindArgs (PySem.W.kla_fn "<lambda>" q ps body sc cl pm cv ctv) ⟨[], []⟩ = pure [])
    (hbody : ∀ (A : Around) (outer : List Env) (s : Shared) (H : Hp) (E : XK) (f c' : Addr), Room k (A.deeper (lamEnv X sc s.heap.objs.size f c')) → PE (lamCx X A outer s H E sc f c') body (t E))
    (hdb : (x == ("__debug__" : Str)) = false := by decide) (hd : (a == ("__debug__" : Str)) = false := by decide) (hcd : (a == ("__classdict__" : Str)) = false := by decide) : PE X (.Call (.Name x p) [.Lambda ps body sc lpos] [] pos) (tLamP P (lamN X) TT t) := by
  constructor
  rintro pins s σ H Q I ⟨hT, h⟩
  refine wpAny_Call_Name_kw (ld_glob I hg hm ?_ hdb)
  refine PySem.W.callWith_K (h₀ := X.base) I.ok.mod.kin hk ?_ (by rfl) (by rfl)
  show wpAny _ _ (spliced ((false, eval (.Lambda ps body sc lpos) X.env) :: backTo pos (starEach [] X.env))) _ _ s
  apply Calls.spliced_cons
  refine lam_mk I TB hcode hT hdef (L.has I.ok) fun f c' pm' ctv H1 s' I1 eN T1 hf hfn hfr hco => Calls.spliced_nil ⟨I1.kIn, ?_⟩
  have run : codeAny (model X.prog X.w) X.A (.call (.ref g) ⟨[.ref f], []⟩) (CR C8.CX0 X.stack X.prog X.w H1 s' Q C8.E0) s' :=
    run_ofS (N := Ng) (ps := [a]) (us := [.ref f]) (vs := [.ref f]) lk hcg Sg hr I1.env0 (hb s' [.ref f] I1.kIn rfl) (.cons rfl .nil) rfl fun hr' => by
      obtain ⟨t', ht', hq'⟩ := hG f c' s' H1 Q (fun E H' Q' => t E σ H' Q') (fun W pn xe E p1 p2 tk hW => pe_act (i := 0) I1 L hf hfn hfr (hbind _ _ _ _ _) tk hW hr' (fun A outer s H hr2 => hbody A outer s H E f c' hr2) hNg hva hd hcd) hco (h H1 eN T1)
      exact ⟨t', ht'.nox, hq'⟩
  refine wpAny_call (codeAny_mono run fun r s2 hq => ?_)
  rcases r with e | fl
  · exact False.elim hq
  · cases fl with
    | ret u => exact I1.after hq
    | _ => exact False.elim hq
end
end CE

set_option Elab.async false
set_option linter.all false
set_option maxRecDepth 100000
set_option maxHeartbeats 2000000
/-! A dict whose keys are tuples of numbers, texts and None: stored into, asked, walked. -/
namespace TK
open PySem PySem.Spec L2
open PyProof.Rows
def leafV : Leaf → V
  | .none => .non
  | .num i => .int i
  | .text z => .str z
theorem leafV_inj {a b : Leaf} (h : leafV a = leafV b) : a = b := by
  cases a <;> cases b <;> first
    | rfl
    | (cases h; rfl)
    | cases h
abbrev Ent := List Leaf × Addr × V
abbrev kd (P : Program) (w : World) : HeapKind P w (List Leaf) := tupleKind (leafKind P w)
def TkO (d : Addr) (es : Array DictEntry) (ep : Nat) : HO := .ext fun h => ∃ o, h.get? d = some o ∧ o.ExactDict ∧ o.data = .dict es ep
abbrev EntR : Ent → List Leaf × Addr × Value → Prop := fun p q => p.1 = q.1 ∧ p.2.1 = q.2.1 ∧ RelV p.2.2 q.2.2
def TkD (P : Program) (w : World) (xs : List Ent) (es : Array DictEntry) : Prop := ∃ ys, es.toList = ys.map (entryOfKey (kd P w)) ∧ Paired EntR xs ys
structure TkAt (P : Program) (w : World) (H : Hp) (d : Addr) (xs : List Ent) (es : Array DictEntry) (ep : Nat) : Prop where
  at_ : H d = some (TkO d es ep)
  dat : TkD P w xs es
  keys : ∀ x ∈ xs, H x.2.1 = some (.tup (x.1.map leafV))
  nd : (xs.map (·.1)).Nodup
  low : (d == sysModules) = false
theorem TkAt.mono {P : Program} {w : World} {H H' : Hp} {d : Addr} {xs : List Ent} {es : Array DictEntry} {ep : Nat} (T : TkAt P w H d xs es ep) (k : ∀ b o, H b = some o → (∀ ps, o ≠ .tbl ps) → H' b = some o) : TkAt P w H' d xs es ep :=
  ⟨k _ _ T.at_ (fun ps z => by unfold TkO at z; cases z), T.dat, fun x hx => k _ _ (T.keys x hx) (fun ps z => by cases z), T.nd, T.low⟩

theorem leaf_is {P : Program} {w : World} {k : Leaf} {u : Value} (h : RelV (leafV k) u) : (leafKind P w).is k u = true := by
  cases k with
  | none =>
    cases h
    rfl
  | num i =>
    obtain ⟨t, rfl⟩ := h
    show decide (i = i) = true
    exact decide_eq_true rfl
  | text z =>
    obtain ⟨t, rfl⟩ := h
    show (Value.str z t).isStrOf z = true
    simp [Value.isStrOf]
theorem leaves_are {P : Program} {w : World} : ∀ {ks : List Leaf} {us : List Value}, Vals (ks.map leafV) us → ItemsAre (leafKind P w) ks us
  | [], _, r => by
    cases r
    exact .nil
  | k :: ks, _, r => by
    cases r with
    | cons h t => exact .cons (leaf_is h) (leaves_are t)
theorem is_key {P : Program} {w : World} {H : Hp} {h : Heap} {a : Addr} {ks : List Leaf} (ok : HOk P w H h) (e : H a = some (.tup (ks.map leafV))) : (kd P w).is h ks a := by
  obtain ⟨_, its, r, o, g1, g2, n, g3⟩ := (show ObjOk P w H h a (.tup (ks.map leafV)) from ok a _ e)
  refine ⟨o, its.toArray, n, g1, g2, g3, ?_⟩
  rw [List.toList_toArray]
  exact leaves_are r
theorem ents_of {xs : List Ent} {ys : List (List Leaf × Addr × Value)} (r : Paired EntR xs ys) : ys.map (·.1) = xs.map (·.1) := by
  induction r with
  | nil => rfl
  | cons h t ih => rw [List.map_cons, List.map_cons, ih, h.1]
theorem mem_of {xs : List Ent} {ys : List (List Leaf × Addr × Value)} (r : Paired EntR xs ys) : ∀ y ∈ ys, ∃ x ∈ xs, EntR x y := by
  induction r with
  | nil => intro y hy; cases hy
  | @cons p q ps qs h t ih =>
    intro y hy
    rcases List.mem_cons.mp hy with e | hy
    · exact ⟨p, List.mem_cons_self, by rw [e]; exact h⟩
    · obtain ⟨x, hx, z⟩ := ih y hy
      exact ⟨x, List.mem_cons_of_mem _ hx, z⟩
theorem get_of {xs : List Ent} {ys : List (List Leaf × Addr × Value)} (r : Paired EntR xs ys) : ∀ {i : Nat} {x : Ent}, xs[i]? = some x → ∃ y, ys[i]? = some y ∧ EntR x y := by
  induction r with
  | nil => intro i x h; simp at h
  | @cons p q ps qs h t ih =>
    intro i x hx
    cases i with
    | zero =>
      cases hx
      exact ⟨q, rfl, h⟩
    | succ i => exact ih hx
theorem snoc_of {xs : List Ent} {ys : List (List Leaf × Addr × Value)} {p : Ent} {q : List Leaf × Addr × Value} (r : Paired EntR xs ys) (h : EntR p q) : Paired EntR (xs ++ [p]) (ys ++ [q]) := by
  induction r with
  | nil => exact .cons h .nil
  | cons h' t ih => exact .cons h' ih

section
variable {X : Cx} {pins : List (Addr × Obj)} {σ : L2.St} {H : Hp} {s : Shared} {d b : Addr} {k : List Leaf} {xs : List Ent} {es : Array DictEntry} {ep : Nat}
theorem TkAt.of (I : Inv X pins σ H s) (T : TkAt X.prog X.w H d xs es ep) : ∃ ys, Paired EntR xs ys ∧ s.heap.DictOfH (kd X.prog X.w) d ys ∧ es.toList = ys.map (entryOfKey (kd X.prog X.w)) := by
  obtain ⟨o, e1, e2, e3⟩ := (I.hok d _ T.at_).1
  obtain ⟨ys, h1, h2⟩ := T.dat
  refine ⟨ys, h2, ⟨o, es, ep, e1, e2, e3, h1, fun y hy => ?_, ?_⟩, h1⟩
  · obtain ⟨x, hx, e, e', _⟩ := mem_of h2 y hy
    rw [← e, ← e']
    exact is_key I.hok (T.keys x hx)
  · rw [ents_of h2]
    exact T.nd
/-- d[k], k a key -/
def rTk (P : Program) (w : World) : R2 := fun x y H Q => ∃ (d b : Addr) (xs : List Ent) (es : Array DictEntry) (ep : Nat) (k : List Leaf) (a : Addr) (v : V), x = .ref d ∧ y = .ref b ∧ TkAt P w H d xs es ep ∧ H b = some (.tup (k.map leafV)) ∧ (k, a, v) ∈ xs ∧ Q v H
theorem ix_tk (hu : X.A.units + 1 < cLine) : IxR X (rTk X.prog X.w) := by
  intro value slice pins s σ H x y v u Q I rx ry h hs
  obtain ⟨d, b, xs, es, ep, k, a, v0, rfl, rfl, T, hb, hk, q⟩ := h
  cases rx
  cases ry
  obtain ⟨ys, rel, D, _⟩ := T.of I
  obtain ⟨i, hi⟩ := List.getElem?_of_mem hk
  obtain ⟨⟨k', a', u'⟩, hy, e1, e2, e3⟩ := get_of rel hi
  cases e1
  have hat := atKey_of_get (by rw [ents_of rel]; exact T.nd) hy
  exact tail_any D.typeIs slot_dict_getitem.lookup (wpAny_getItem_heap (tupleKind_room_in1 hu) (is_key I.hok hb) D hat ⟨v0, H, I.tok _, e3, q⟩) hs

/-- d[k] = v, k no key before -/
def sTkPut (P : Program) (w : World) (td ty tv : TE) : TS := fun D σ H => tv σ H fun v H1 => td σ H1 fun x H2 => ty σ H2 fun y H3 => ∃ (d b : Addr) (xs : List Ent) (k : List Leaf), x = .ref d ∧ y = .ref b ∧
  ((H3 d = some (.dT []) ∧ xs = []) ∨ ∃ es ep, TkAt P w H3 d xs es ep) ∧ H3 b = some (.tup (k.map leafV)) ∧ k ∉ xs.map (·.1) ∧ xs.length ≤ 1000 ∧ ∀ es ep, TkAt P w (upd H3 d (TkO d es ep)) d (xs ++ [(k, b, v)]) es ep → D.nx σ (upd H3 d (TkO d es ep))
theorem ps_tkput {o i value : Expr} {pos pos' : Pos} {td ty tv : TE} (hu : X.A.units + 1 < cLine) (ho : PE X o td) (hi : PE X i ty) (hv : PE X value tv) (hs : swapsWith value (some (.Subscript o i pos')) pos.line X.env = pure false := by rfl) :
    PS X (.Assign [.Subscript o i pos'] value pos) (sTkPut X.prog X.w td ty tv) := by
  constructor
  intro pins s σ H D I h
  refine wpAny_Assign_Subscript (thn (hv.run pins s σ H _ I h) fun r s1 ⟨v, H1, I1, rv, q1⟩ => thn (ho.run pins s1 σ H1 _ I1 q1) fun u s2 ⟨x, H2, I2, rx, q2⟩ => thn (hi.run pins s2 σ H2 _ I2 q2) fun iv s3 ⟨y, H3, I3, ry, d, b, xs, k, ex, ey, hd, hb, hk, hl, q3⟩ => ?_) hs
  subst ex
  subst ey
  cases rx
  cases ry
  have nbd : ∀ c xs', H3 c = some (.tup xs') → c ≠ d := fun c xs' e z => by
    rw [z] at e
    rcases hd with ⟨e', _⟩ | ⟨es, ep, T⟩
    · rw [e'] at e
      cases e
    · have e' := T.at_
      rw [e] at e'
      unfold TkO at e'
      cases e'
  have start : ∃ ys, Paired EntR xs ys ∧ s3.heap.DictOfH (kd X.prog X.w) d ys ∧ (d == sysModules) = false ∧ (xs.map (·.1)).Nodup ∧ (∀ x ∈ xs, H3 x.2.1 = some (.tup (x.1.map leafV))) ∧ Mut (H3 d) := by
    rcases hd with ⟨e', rfl⟩ | ⟨es, ep, T⟩
    · obtain ⟨_, hlow, ys0, r0, o, es0, ep0, g1, g2, g3, g4, g5, g6⟩ := dt_of I3.hok e'
      cases r0
      refine ⟨[], .nil, ⟨o, es0, ep0, g1, g2, g3, g4, (fun y hy => by cases hy), List.nodup_nil⟩, hlow, List.nodup_nil, (fun x hx => by cases hx), ?_⟩
      rw [e']
      trivial
    · obtain ⟨ys, r, D, _⟩ := T.of I3
      refine ⟨ys, r, D, T.low, T.nd, T.keys, ?_⟩
      rw [T.at_]
      trivial
  obtain ⟨ys, rel, DD, hlow, hnd, hks, hmut⟩ := start
  have hno : atKey ys k = none := by
    cases q : atKey ys k with
    | none => rfl
    | some p =>
      unfold atKey at q
      obtain ⟨y, hy, _⟩ := Option.map_eq_some_iff.mp q
      have e : y.1 = k := by
        have z := List.find?_some hy
        exact of_decide_eq_true z
      exact absurd (List.mem_map.mpr ⟨y, List.mem_of_find?_eq_some hy, e⟩) (by rw [ents_of rel]; exact hk)
  have hlen : ys.length ≤ sizeLine := by
    rw [← Paired.length rel]
    have : (1000 : Nat) ≤ sizeLine := by rw [sizeLine_eq]; decide
    omega
  refine wpAny_setItem_heap (tupleKind_room_in1 hu) (is_key I3.hok hb) DD (fun h' DD' sb => ?_) hlen
  rw [storedH_new hno] at DD'
  obtain ⟨o, es, ep, g1, g2, g3, g4, g5, g6⟩ := DD'
  have J := d_write (t' := s3.toks + (kd X.prog X.w).draws k) (ob := TkO d es ep) I3 hmut sb ⟨o, g1⟩ ⟨⟨o, g1, g2, g3⟩, ⟨o, g1⟩, fun h1 h2 ⟨o', f1, f2⟩ st => ⟨o', st _ f1, f2⟩⟩
  refine ⟨σ, _, J, q3 es ep ⟨upd_same, ⟨_, g4, snoc_of rel ⟨rfl, rfl, rv⟩⟩, fun x hx => ?_, ?_, hlow⟩⟩
  · have hx' : H3 x.2.1 = some (.tup (x.1.map leafV)) := by
      rcases List.mem_append.mp hx with hx | hx
      · exact hks x hx
      · rw [List.mem_singleton.mp hx]
        exact hb
    rw [upd_ne (nbd _ _ hx')]
    exact hx'
  · rw [List.map_append]
    exact List.nodup_append.mpr ⟨hnd, by simp, fun a ha b hb z => by
      have e := List.mem_singleton.mp hb
      rw [z, e] at ha
      exact hk ha⟩

/-! ### for k in d -/
def ItTk (P : Program) (w : World) (d : Addr) (xs : List Ent) (es : Array DictEntry) (ep : Nat) : It where
  go := fun i H => TkAt P w H d xs es ep ∧ i < xs.length
  yld := fun i H x H' => H' = H ∧ ∃ k b v, xs[i]? = some (k, b, v) ∧ x = .ref b ∧ H b = some (.tup (k.map leafV))
  stop := fun i H => TkAt P w H d xs es ep ∧ xs.length ≤ i
theorem turn_tk {tg : Expr} (it : Addr) : Turn X.prog X.w X.K tg (ItTk X.prog X.w d xs es ep) [it] it (fun i h => h.IsKeyIter it d i xs.length ep) where
  mem := List.mem_singleton.mpr rfl
  obj := fun i h st b hb => by
    rw [List.mem_singleton.mp hb]
    obtain ⟨oi, e, c, dd⟩ := st
    refine ⟨oi, e, fun v z => ?_⟩
    rw [dd] at z
    cases z
  keep := fun i h h' st k => st.at fun oi e => k it (List.mem_singleton.mpr rfl) oi e
  item := by
    intro Y hP hw hK hc i pins s σ H E I hf st hg
    obtain ⟨T, hi⟩ := hg
    obtain ⟨f0, f1, f2, f3, f4, f5⟩ := hf it (List.mem_singleton.mpr rfl)
    rw [← hP, ← hw] at T ⊢
    obtain ⟨ys, rel, _, hes⟩ := T.of I
    obtain ⟨o, e1, e2, e3⟩ := (I.hok d _ T.at_).1
    obtain ⟨⟨k', a', u'⟩, hy, g1, g2, g3⟩ := get_of rel (List.getElem?_eq_getElem hi)
    have hsz : es.size = xs.length := by
      rw [← Array.length_toList, hes, List.length_map, Paired.length rel]
    have hen : es[i]? = some (entryOfKey (kd Y.prog Y.w) (k', a', u')) := by
      rw [← Array.getElem?_toList, hes, List.getElem?_map, hy]
      rfl
    refine next_key_item st e1 e3 hsz hen fun h' st' sb => ?_
    have I1 : Inv Y pins σ H { s with heap := h' } := I.turned (t' := s.toks) (fun b ob hb e => (sb.2 b hb).trans e) f0 f1 f3 f4 f5
    obtain ⟨oi, e, c, dd⟩ := id st'
    refine ⟨_, rfl, go_of (s := { s with heap := h' }) e c dd (by decide) ⟨.ref a', H, I1, rfl, ⟨rfl, _, _, _, List.getElem?_eq_getElem hi, ?_, ?_⟩, st', fun b hb => (hf b hb).1⟩⟩
    · exact congrArg V.ref g2.symm
    · exact T.keys _ (List.getElem_mem hi)
  done := by
    intro Y hP hw hK hc i pins s σ H E I hf st hg
    obtain ⟨T, hi⟩ := hg
    obtain ⟨f0, f1, f2, f3, f4, f5⟩ := hf it (List.mem_singleton.mpr rfl)
    rw [← hP, ← hw] at T ⊢
    obtain ⟨ys, rel, _, hes⟩ := T.of I
    obtain ⟨o, e1, e2, e3⟩ := (I.hok d _ T.at_).1
    have hsz : es.size = xs.length := by
      rw [← Array.length_toList, hes, List.length_map, Paired.length rel]
    exact next_key_end (I.ok.hd hc) st e1 e3 hsz hi fun h' eb => ⟨rfl, I.turned (t' := s.toks) (fun b ob hb e => eb b ob hb e) f0 f1 f3 f4 f5⟩
  self := fun A i s Q E st h => by
    refine wpAny_pyIter_slot st.typeIs F.slot_dict_keyiterator_iter (wpAny_call_entry F.slot_dict_keyiterator_iter st.typeIs F.entry_dict_keyiterator_iter (show wpAny _ _ (ret (.ref it)) _ _ s from ?_) (F.args_dict_keyiterator_iter_1 _))
    exact wpAny_pure ⟨_, rfl, "dict_keyiterator", _, st.typeIs, F.slot_dict_keyiterator_next.lookup, h⟩
def iTk (P : Program) (w : World) (td : TE) : TI := fun σ H R => td σ H fun x H1 => ∃ (d : Addr) (xs : List Ent) (es : Array DictEntry) (ep : Nat), x = .ref d ∧ TkAt P w H1 d xs es ep ∧ R (ItTk P w d xs es ep) H1
theorem pi_tk {tg e : Expr} {td : TE} (he : PE X e td) : PI X tg e (iTk X.prog X.w td) := by
  constructor
  intro pins s σ H R I h
  refine thn (he.run pins s σ H _ I h) fun u s1 ⟨x, H1, I1, rx, d, xs, es, ep, ex, T, q⟩ => ?_
  subst ex
  cases rx
  obtain ⟨ys, rel, _, hes⟩ := T.of I1
  obtain ⟨o, e1, e2, e3⟩ := (I1.hok d _ T.at_).1
  have hsz : es.size = xs.length := by
    rw [← Array.length_toList, hes, List.length_map, Paired.length rel]
  refine iter_keys T.low e1 e2 e3 (pi_one (tk := s1.toks) I1 _ (turn_tk _) ⟨_, Heap.get?_push_size _ rfl, rfl, ?_⟩ q)
  rw [hsz] <;> rfl
end
end TK

set_option Elab.async false
set_option linter.all false
set_option maxRecDepth 100000
set_option maxHeartbeats 2000000
/-! enumerate of a tuple, zip of a list and a tuple, over the hand layer. -/
namespace EZ
open PySem PySem.Spec L2
open PyProof.Rows

/-! ### what hands out new pairs, by PyProof.WalksT -/
theorem turn_of {P : Program} {w : World} {K : PySem.W.Frag} {elts : List Expr} {kk : Nat} {tpos : Pos} {J : It} {it : Addr} {fp : List Addr} {tn : Nat → Heap → Prop} (mem : it ∈ fp)
    (obj : ∀ i h, tn i h → ∀ b ∈ fp, ∃ o, h.get? b = some o ∧ ∀ v : Option Value, o.data ≠ .cell v) (keep : ∀ i h h', tn i h → (∀ b ∈ fp, ∀ o, h.get? b = some o → h'.get? b = some o) → tn i h')
    (self : ∀ (A : Around) (i : Nat) (s : Shared) (Q E : Value → Shared → Prop), tn i s.heap → Q (.ref it) s → wpAny (model P w) A (pyIter (.ref it)) Q E s)
    (go : ∀ (X : Cx) (i : Nat) (pins : List (Addr × Obj)) (s : Shared) (σ : L2.St) (H : Hp), X.prog = P → X.w = w → X.K = K → X.A.handled = none → Inv X pins σ H s → tn i s.heap → J.go i H →
      ∃ (fpW wr : List Addr) (n : Nat) (Pt : Nat → Array Value → Prop) (St : Nat → Heap → Prop) (Mid : Nat → Addr → Heap → Prop), WalksT P w X.A it fpW wr n Pt St Mid ∧ i < n ∧ St i s.heap ∧ (∀ b ∈ wr, b ∈ fp) ∧ (∀ h, St (i + 1) h → tn (i + 1) h) ∧
        ∀ vals, Pt i vals → ∃ ys, Vals ys vals.toList ∧ ys.length ≤ 15 ∧ ∀ T, H T = none → J.yld i H (.ref T) (upd H T (.tup ys)))
    (stop : ∀ (X : Cx) (i : Nat) (pins : List (Addr × Obj)) (s : Shared) (σ : L2.St) (H : Hp), X.prog = P → X.w = w → X.K = K → X.A.handled = none → Inv X pins σ H s → tn i s.heap → J.stop i H →
      ∃ (fpW wr : List Addr) (n : Nat) (Pt : Nat → Array Value → Prop) (St : Nat → Heap → Prop) (Mid : Nat → Addr → Heap → Prop), WalksT P w X.A it fpW wr n Pt St Mid ∧ St n s.heap ∧ ∀ b ∈ wr, b ∈ fp) :
    Turn P w K (.Tuple elts kk tpos) J fp it tn where
  mem := mem
  obj := obj
  keep := keep
  self := self
  item := by
    intro X hP hw hK hc i pins s σ H E I hf st hg
    obtain ⟨fpW, wr, n, Pt, St, Mid, W, hi, hst, hwr, nxt, hy⟩ := go X i pins s σ H hP hw hK (I.ok.hd hc) I st hg
    refine W.item i s _ _ hi hst fun T vals h' tk hp hnew hT hm hk => ⟨_, rfl, W.go _ _ _ i T { s with heap := h', toks := tk } _ _ hm fun h2 st2 hk2 => ?_⟩
    obtain ⟨ys, rv, hl, hyl⟩ := hy vals hp
    have nT : H T = none := I.hok.fresh hnew
    have hT2 : h2.IsTuple T vals := hT.at fun o e => hk2 T o (W.apart i T h' hm) e
    have new : ObjOk X.prog X.w (upd H T (.tup ys)) h2 T (.tup ys) := by
      refine ⟨Nat.le_trans hl (by rw [sizeLine_eq]; decide), vals.toList, rv, ?_⟩
      exact hT2
    have I1 := I.turnedNew (t' := tk) (ch := fp) (fun b o hb q => hk2 b o (fun z => hb (hwr b z)) (hk b o (fun z => hb (hwr b z)) q)) hf hnew new
    refine ⟨.ref T, _, I1, rfl, hyl T nT, nxt _ st2, fun b hb => ?_⟩
    obtain ⟨ob, e, _⟩ := obj i _ st b hb
    have ne : b ≠ T := fun z => by
      have lt := Heap.lt_size e
      rw [z] at lt
      exact Nat.not_le_of_lt lt hnew
    rw [upd_ne ne]
    exact (hf b hb).1
  done := by
    intro X hP hw hK hc i pins s σ H E I hf st hg
    obtain ⟨fpW, wr, n, Pt, St, Mid, W, hst, hwr⟩ := stop X i pins s σ H hP hw hK (I.ok.hd hc) I st hg
    exact W.done s _ _ hst fun h' tk hk => ⟨rfl, I.turnedL (t' := tk) (ch := fp) (fun b o hb q => hk b o (fun z => hb (hwr b z)) q) hf⟩

/-! ### enumerate(t) -/
theorem meets_enum1 {v : Value} {o : Obj} {H : Heap → Prop} (B : Begins v o H) :
    Meets (Builtin.«enumerate.__new__» ⟨[.type "enumerate", v], []⟩) (fun _ R s => H s.heap ∧ R (.ok (.ret (.ref (s.heap.push o).objs.size))) { s with heap := (s.heap.push o).push { cls := .type "enumerate", data := .fields #[.none, .bool false, .ref s.heap.objs.size, rawInt 0, .none, .none] } }) :=
  .of_wp fun prog w A R s h => by
    obtain ⟨hp, g, d, tk, os⟩ := s
    obtain ⟨h1, h⟩ := h
    have hsub := sub_enumerate
    have q1 : ∀ {A' : Around} {E Q : Value → Shared → Prop}, Q (.ref hp.objs.size) ⟨hp.push o, g, d, tk, os⟩ → wpAny (model prog w) A' (pyIter v) Q E ⟨hp, g, d, tk, os⟩ := fun q => B.iter prog w _ _ ⟨hp, g, d, tk, os⟩ _ h1 q
    wp_walk using q1
    refine wpAny_stack_any fun st => wpAny_pure ?_
    split
    · rename_i c _ _ _ _ _
      cases (c == Value.type "enumerate") <;> (wp_walk using q1; exact ⟨_, rfl, h⟩)
    · wp_walk using q1
      exact ⟨_, rfl, h⟩
section
variable {prog : Program} {w : World} {A : Around} {E : Value → Shared → Prop} {s : Shared}
theorem call_enum1 {v : Value} {o : Obj} {H : Heap → Prop} {Q : Value → Shared → Prop} (B : Begins v o H) (h1 : H s.heap)
    (h : ∀ h', IsEnum h' (s.heap.objs.size + 1) s.heap.objs.size 0 .none → h'.get? s.heap.objs.size = some o → (∀ b o, s.heap.get? b = some o → h'.get? b = some o) → Q (.ref (s.heap.objs.size + 1)) { s with heap := h' }) :
    wpAny (model prog w) A (call (.type "enumerate") [v]) Q E s := by
  refine callType_new F.called_enumerate (by decide) (F.typeCall_enumerate_1 _) (F.newCall_enumerate_1 _) (fun obj => F.args_object_init_2 obj _) F.entry_enumerate_new (meets_enum1 B) ⟨h1, ?_⟩
  have hz : (s.heap.push o).objs.size = s.heap.objs.size + 1 := Heap.size_push ..
  have he := Heap.get?_push_size (s.heap.push o) (o := { cls := .type "enumerate", data := .fields #[.none, .bool false, .ref s.heap.objs.size, rawInt 0, .none, .none] }) rfl
  rw [hz] at he
  show _ ∧ _
  rw [hz]
  exact ⟨⟨_, he, rfl⟩, h _ he (Heap.get?_push_of_some _ (Heap.get?_push_size _ B.free)) fun b o x => Heap.get?_push_of_some _ (Heap.get?_push_of_some _ x)⟩
end
def IteT (K : PySem.W.Frag) (a : Addr) (xs : List V) : It :=
  ⟨fun i H => SqT K H a xs ∧ i < xs.length, fun i H v H' => ∃ T x, v = .ref T ∧ H T = none ∧ H' = upd H T (.tup [.int (i : Nat), x]) ∧ xs[i]? = some x, fun i H => SqT K H a xs ∧ i = xs.length⟩
theorem vals_at {xs : List V} {us : List Value} (r : Vals xs us) {i : Nat} {u : Value} (h : us[i]? = some u) : ∃ x, xs[i]? = some x ∧ RelV x u := by
  induction r generalizing i with
  | nil => simp at h
  | cons a t ih =>
    cases i with
    | zero =>
      cases h
      exact ⟨_, rfl, a⟩
    | succ i => exact ih h
theorem turn_enumT {P : Program} {w : World} {K : PySem.W.Frag} {elts : List Expr} {kk : Nat} {tpos : Pos} {a e it : Addr} {xs : List V} :
    Turn P w K (.Tuple elts kk tpos) (IteT K a xs) [e, it] e (fun i h => (∃ old, IsEnum h e it ((i : Nat) : Int) old) ∧ h.IsTupleIter it a i ∧ e ≠ it) := by
  have walk : ∀ (X : Cx) (pins : List (Addr × Obj)) (s : Shared) (σ : L2.St) (H : Hp) (i : Nat), X.prog = P → X.w = w → X.K = K → X.A.handled = none → Inv X pins σ H s → SqT K H a xs → ((∃ old, IsEnum s.heap e it ((i : Nat) : Int) old) ∧ s.heap.IsTupleIter it a i ∧ e ≠ it) →
      ∃ its : List Value, Vals xs its ∧ s.heap.IsTuple a its.toArray ∧ e ≠ a ∧ it ≠ a ∧ Draws P w X.A.in1 it [it, a] its.toArray.size (fun i v => its.toArray[i]? = some v) (fun i h => h.IsTupleIter it a i ∧ h.IsTuple a its.toArray) := by
    intro X pins s σ H i hP hw hK hh I hq st
    subst hP
    subst hw
    subst hK
    obtain ⟨⟨old, he⟩, hi, hne⟩ := st
    obtain ⟨its, rv, p, _⟩ := I.tuple hq
    have pa : s.heap.IsTuple a its.toArray := p
    obtain ⟨o1, g1, c1, _⟩ := id pa
    obtain ⟨o2, g2, c2, _⟩ := id hi
    have n1 : e ≠ a := fun z => by
      rw [z] at he
      have w := Option.some.inj (he.symm.trans g1)
      rw [← w] at c1
      have c1' : Value.type "enumerate" = Value.type "tuple" := c1
      injection c1' with c2'
      exact absurd c2' (by decide)
    have n2 : it ≠ a := fun z => by
      rw [z, g1] at g2
      cases g2
      rw [c1] at c2
      exact absurd c2 (by decide)
    have hh1 : X.A.in1.handled = none := hh
    exact ⟨its, rv, pa, n1, n2, Draws.tuple hh1 it a n2.symm _⟩
  refine turn_of (List.mem_cons_self ..) (fun i h st b hb => ?_) (fun i h h' st k => ?_) (fun A i s Q E st h => ?_) (fun X i pins s σ H hP hw hK hh I st hg => ?_) (fun X i pins s σ H hP hw hK hh I st hg => ?_)
  · obtain ⟨⟨old, he⟩, ⟨o, ho, hc, hd⟩, _⟩ := st
    rcases List.mem_cons.mp hb with z | z
    · rw [z]
      exact ⟨_, he, fun v q => nomatch q⟩
    · rw [List.mem_singleton.mp z]
      refine ⟨o, ho, fun v q => ?_⟩
      rw [hd] at q
      cases q
  · obtain ⟨⟨old, he⟩, hi, hne⟩ := st
    exact ⟨⟨old, k e (List.mem_cons_self ..) _ he⟩, hi.at fun o q => k it (List.mem_cons_of_mem _ (List.mem_cons_self ..)) o q, hne⟩
  · obtain ⟨⟨old, he⟩, _⟩ := st
    exact wpAny_pyIter_enum he h
  · obtain ⟨hq, hi⟩ := hg
    obtain ⟨its, rv, pa, n1, n2, D⟩ := walk X pins s σ H i hP hw hK hh I hq st
    have hl := rv.length
    refine ⟨_, _, _, _, _, _, WalksT.enumFrom 0 D e st.2.2 (fun z => ?_) (List.mem_cons_self ..), by simpa using by omega, ⟨by simpa using st.1, st.2.1, pa⟩, fun b hb => hb, fun h z => ⟨by simpa using z.1, z.2.1, st.2.2⟩, fun vals ⟨t, u, hu, ev⟩ => ?_⟩
    · rcases List.mem_cons.mp z with z | z
      · exact st.2.2 z
      · exact n1 (List.mem_singleton.mp z)
    · obtain ⟨x, hx, rx⟩ := vals_at rv (by simpa using hu)
      refine ⟨[.int (i : Nat), x], ?_, (by show 2 ≤ 15; decide), fun T nT => ⟨T, x, rfl, nT, rfl, hx⟩⟩
      rw [ev]
      exact .cons ⟨t, by simp⟩ (.cons rx .nil)
  · obtain ⟨hq, hi⟩ := hg
    obtain ⟨its, rv, pa, n1, n2, D⟩ := walk X pins s σ H i hP hw hK hh I hq st
    have hl := rv.length
    refine ⟨_, _, _, _, _, _, WalksT.enumFrom 0 D e st.2.2 (fun z => ?_) (List.mem_cons_self ..), ?_, fun b hb => hb⟩
    · rcases List.mem_cons.mp z with z | z
      · exact st.2.2 z
      · exact n1 (List.mem_singleton.mp z)
    · have hn : its.toArray.size = i := by
        rw [List.size_toArray, ← hl, hi]
      rw [hn]
      exact ⟨by simpa using st.1, st.2.1, pa⟩
def iEnumT (K : PySem.W.Frag) (ta : TA) : TI := fun σ H R => ta σ H fun vs H1 => ∃ a xs, vs = [.ref a] ∧ SqT K H1 a xs ∧ R (IteT K a xs) H1
theorem pi_enumT {X : Cx} {e : Expr} {ta : TA} {p pos tpos : Pos} {elts : List Expr} {kk : Nat} (hg : Gl X "enumerate") (hm : X.mg "enumerate" = none) (ha : PA X [e] ta) (hs : starEach [e] X.env = [(false, eval e X.env)] := by rfl) :
    PI X (.Tuple elts kk tpos) (.Call (.Name "enumerate" p) [e] [] pos) (iEnumT X.K ta) := by
  constructor
  intro pins s σ H R I h
  refine Call_ (ld_blt I hg hm boot_enumerate (PyProof.Rows.callWith_type1 (thn (ha.run pos pins s σ H _ I h) fun us s1 ⟨vs, H1, I1, r1, a, xs, ex, hq, q⟩ => ?_) hs rfl))
  subst ex
  rcases r1 with _ | ⟨r, r0⟩
  cases r0
  cases r
  obtain ⟨its, rv, pa, _⟩ := I1.tuple hq
  refine call_enum1 (begins_tuple a its.toArray) (show s1.heap.IsTuple a its.toArray from pa) fun h' he hit hk => wpAny_pyIter_enum he ?_
  refine ⟨s1.heap.objs.size + 1, [s1.heap.objs.size + 1, s1.heap.objs.size], _, _, H1, rfl, I1.kept (t' := s1.toks) hk, turn_enumT, ⟨⟨.none, he⟩, ⟨_, hit, rfl, rfl⟩, Nat.succ_ne_self _⟩, fun b hb => ?_, q⟩
  have hle : s1.heap.objs.size ≤ b := by
    rcases List.mem_cons.mp hb with z | z
    · rw [z]
      exact Nat.le_succ _
    · rw [List.mem_singleton.mp z]
      exact Nat.le_refl _
  exact I1.fpOk hle (I1.hok.fresh hle)

/-! ### zip(l, t) -/
def ItzLT (K : PySem.W.Frag) (a b : Addr) (xs ys : List V) : It :=
  ⟨fun i H => SqL K H a xs ∧ SqT K H b ys ∧ i < xs.length, fun i H v H' => ∃ T x y, v = .ref T ∧ H T = none ∧ H' = upd H T (.tup [x, y]) ∧ xs[i]? = some x ∧ ys[i]? = some y, fun i H => SqL K H a xs ∧ SqT K H b ys ∧ i = xs.length⟩
theorem turn_zipLT {P : Program} {w : World} {K : PySem.W.Frag} {elts : List Expr} {kk : Nat} {tpos : Pos} {a b z TI TO i1 i2 : Addr} {xs ys : List V} (hlen : xs.length = ys.length) (S : ZipSep2 z TI TO i1 i2 [i1, a] [i2, b]) (na : a ≠ i1) (nb : b ≠ i2) :
    Turn P w K (.Tuple elts kk tpos) (ItzLT K a b xs ys) [z, TI, TO, i1, i2] z (fun i h => IsZip h z TI TO .none ∧ IsTupOf2 h TI (.ref i1) (.ref i2) ∧ (∃ x y, IsTupOf2 h TO x y) ∧ h.IsListIter i1 a i ∧ h.IsTupleIter i2 b i) := by
  have lists : ∀ (X : Cx) (pins : List (Addr × Obj)) (s : Shared) (σ : L2.St) (H : Hp), X.K = K → X.prog = P → X.w = w → X.A.handled = none → Inv X pins σ H s → SqL K H a xs → SqT K H b ys →
      ∃ us vs : List Value, Vals xs us ∧ Vals ys vs ∧ s.heap.IsList a us.toArray ∧ s.heap.IsTuple b vs.toArray ∧ us.length = xs.length ∧ vs.length = xs.length ∧
        WalksT P w X.A z (z :: TI :: TO :: ([i1, a] ++ [i2, b])) [z, TO, i1, i2] (min us.toArray.size vs.toArray.size) (fun i vals => ∃ x1 x2, us.toArray[i]? = some x1 ∧ vs.toArray[i]? = some x2 ∧ vals = #[x1, x2])
          (fun i h => IsZip h z TI TO .none ∧ IsTupOf2 h TI (.ref i1) (.ref i2) ∧ (∃ a1 a2, IsTupOf2 h TO a1 a2) ∧ (h.IsListIter i1 a i ∧ h.IsList a us.toArray) ∧ h.IsTupleIter i2 b i ∧ h.IsTuple b vs.toArray)
          (fun i T h => IsZip h z TI TO (rawInt T) ∧ IsTupOf2 h TI (.ref i1) (.ref i2) ∧ (∃ a1 a2, IsTupOf2 h TO a1 a2) ∧ (h.IsListIter i1 a (i + 1) ∧ h.IsList a us.toArray) ∧ (h.IsTupleIter i2 b (i + 1) ∧ h.IsTuple b vs.toArray) ∧ T ≠ z ∧ T ≠ TO ∧ T ≠ i1 ∧ T ≠ i2) := by
    intro X pins s σ H hK hP hw hh I h1 h2
    subst hK
    subst hP
    subst hw
    obtain ⟨us, ru, pu, _⟩ := I.list h1
    obtain ⟨vs, rv, pv, _⟩ := I.tuple h2
    have hh1 : X.A.in1.handled = none := hh
    exact ⟨us, vs, ru, rv, pu.isList, pv, ru.length.symm, by rw [← rv.length, hlen], WalksT.zipD2 S (Draws.list hh1 i1 a na _) (Draws.tuple hh1 i2 b nb _)⟩
  have sub5 : ∀ c ∈ [z, TO, i1, i2], c ∈ [z, TI, TO, i1, i2] := fun c hc => by
    simp only [List.mem_cons, List.not_mem_nil, or_false] at hc ⊢
    rcases hc with e | e | e | e
    · exact .inl e
    · exact .inr (.inr (.inl e))
    · exact .inr (.inr (.inr (.inl e)))
    · exact .inr (.inr (.inr (.inr e)))
  refine turn_of (List.mem_cons_self ..) (fun i h st c hc => ?_) (fun i h h' st k => ?_) (fun A i s Q E st h => wpAny_pyIter_zip st.1 h) (fun X i pins s σ H hP hw hK hh I st hg => ?_) (fun X i pins s σ H hP hw hK hh I st hg => ?_)
  · obtain ⟨hz, hTI, ⟨x, y, hTO⟩, ⟨o1, e1, _, d1⟩, ⟨o2, e2, _, d2⟩⟩ := st
    simp only [List.mem_cons, List.not_mem_nil, or_false] at hc
    rcases hc with q | q | q | q | q
    all_goals rw [q]
    · exact ⟨_, hz, fun v q => nomatch q⟩
    · exact ⟨_, hTI, fun v q => nomatch q⟩
    · exact ⟨_, hTO, fun v q => nomatch q⟩
    · exact ⟨o1, e1, fun v q => by rw [d1] at q; cases q⟩
    · exact ⟨o2, e2, fun v q => by rw [d2] at q; cases q⟩
  · obtain ⟨hz, hTI, ⟨x, y, hTO⟩, h1, h2⟩ := st
    have m : ∀ c, c = z ∨ c = TI ∨ c = TO ∨ c = i1 ∨ c = i2 → ∀ o, h.get? c = some o → h'.get? c = some o := fun c hc => k c (by simpa using hc)
    exact ⟨m z (.inl rfl) _ hz, m TI (.inr (.inl rfl)) _ hTI, ⟨x, y, m TO (.inr (.inr (.inl rfl))) _ hTO⟩, h1.at fun o q => m i1 (.inr (.inr (.inr (.inl rfl)))) o q, h2.at fun o q => m i2 (.inr (.inr (.inr (.inr rfl)))) o q⟩
  · obtain ⟨h1, h2, hi⟩ := hg
    obtain ⟨us, vs, ru, rv, pu, pv, lu, lv, W⟩ := lists X pins s σ H hK hP hw hh I h1 h2
    refine ⟨_, _, _, _, _, _, W, ?_, ⟨st.1, st.2.1, st.2.2.1, ⟨st.2.2.2.1, pu⟩, st.2.2.2.2, pv⟩, sub5, fun h z => ⟨z.1, z.2.1, z.2.2.1, z.2.2.2.1.1, z.2.2.2.2.1⟩, fun vals ⟨u1, u2, g1, g2, ev⟩ => ?_⟩
    · rw [List.size_toArray, List.size_toArray, lu, lv, Nat.min_self]
      exact hi
    · obtain ⟨x, hx, rx⟩ := vals_at ru (by simpa using g1)
      obtain ⟨y, hy, ry⟩ := vals_at rv (by simpa using g2)
      refine ⟨[x, y], ?_, (by show 2 ≤ 15; decide), fun T nT => ⟨T, x, y, rfl, nT, rfl, hx, hy⟩⟩
      rw [ev]
      exact .cons rx (.cons ry .nil)
  · obtain ⟨h1, h2, hi⟩ := hg
    obtain ⟨us, vs, ru, rv, pu, pv, lu, lv, W⟩ := lists X pins s σ H hK hP hw hh I h1 h2
    refine ⟨_, _, _, _, _, _, W, ?_, sub5⟩
    have hn : min us.toArray.size vs.toArray.size = i := by
      rw [List.size_toArray, List.size_toArray, lu, lv, Nat.min_self, hi]
    rw [hn]
    exact ⟨st.1, st.2.1, st.2.2.1, ⟨st.2.2.2.1, pu⟩, st.2.2.2.2, pv⟩
def iZipLT (K : PySem.W.Frag) (ta : TA) : TI := fun σ H R => ta σ H fun vs H1 => ∃ a b xs ys, vs = [.ref a, .ref b] ∧ SqL K H1 a xs ∧ SqT K H1 b ys ∧ xs.length = ys.length ∧ R (ItzLT K a b xs ys) H1
theorem pi_zipLT {X : Cx} {e e2 : Expr} {ta : TA} {p pos tpos : Pos} {elts : List Expr} {kk : Nat} (hg : Gl X "zip") (hm : X.mg "zip" = none) (ha : PA X [e, e2] ta) (hs : starEach [e, e2] X.env = (false, eval e X.env) :: starEach [e2] X.env := by rfl)
    (hpl : (backTo pos (starEach [e2] X.env)).any (·.1) = false := by rfl) : PI X (.Tuple elts kk tpos) (.Call (.Name "zip" p) [e, e2] [] pos) (iZipLT X.K ta) := by
  constructor
  intro pins s σ H R I h
  refine Call_ (ld_blt I hg hm PyProof.Rows.boot_zip (PyProof.Rows.callWith_type1 (thn (ha.run pos pins s σ H _ I h) fun us s1 ⟨vs, H1, I1, r1, a, b, xs, ys, ex, h1, h2, hl, q⟩ => ?_) hs hpl))
  subst ex
  rcases r1 with _ | ⟨ra, _ | ⟨rb, r0⟩⟩
  cases r0
  cases ra
  cases rb
  obtain ⟨us, ru, pu, _⟩ := I1.list h1
  obtain ⟨vs, rv, pv, _⟩ := I1.tuple h2
  have pv' : s1.heap.IsTuple b vs.toArray := pv
  have la : a < s1.heap.objs.size := pu.isList.elim fun o z => Heap.lt_size z.1
  have lb : b < s1.heap.objs.size := pv'.elim fun o z => Heap.lt_size z.1
  refine zip_begins2 (begins_list a us.toArray) (begins_tuple b vs.toArray) pu.isList pv' fun h' hz hTI hTO e1 e2 hsz hk => wpAny_pyIter_zip hz ?_
  have S : ZipSep2 (s1.heap.objs.size + 4) (s1.heap.objs.size + 2) (s1.heap.objs.size + 3) s1.heap.objs.size (s1.heap.objs.size + 1) [s1.heap.objs.size, a] [s1.heap.objs.size + 1, b] :=
    zip_sep2 (N := s1.heap.objs.size) (fun c hc => by rw [List.mem_singleton.mp hc]; exact la) (fun c hc => by rw [List.mem_singleton.mp hc]; exact lb)
  refine ⟨s1.heap.objs.size + 4, [s1.heap.objs.size + 4, s1.heap.objs.size + 2, s1.heap.objs.size + 3, s1.heap.objs.size, s1.heap.objs.size + 1], _, _, H1, rfl, I1.kept (t' := s1.toks) hk, turn_zipLT hl S (Nat.ne_of_lt la) (Nat.ne_of_lt (Nat.lt_succ_of_lt lb)),
    ⟨hz, hTI, ⟨_, _, hTO⟩, ⟨_, e1, rfl, rfl⟩, ⟨_, e2, rfl, rfl⟩⟩, fun c hc => ?_, q⟩
  have hle : s1.heap.objs.size ≤ c := by
    simp only [List.mem_cons, List.not_mem_nil, or_false] at hc
    rcases hc with q | q | q | q | q <;> rw [q] <;> first
      | exact Nat.le_add_right _ _
      | exact Nat.le_refl _
  exact I1.fpOk hle (I1.hok.fresh hle)
end EZ

set_option Elab.async false
set_option linter.all false
set_option maxRecDepth 100000
set_option maxHeartbeats 1000000
/-! The law's own powers and bits. -/
namespace K02
open PySem PySem.Spec L2
open PyProof.Rows GenW GxR
open LamX (ExtN)
abbrev sPower : Stmt := top 22
abbrev sBitsOf : Stmt := top 23
abbrev sAllBits : Stmt := top 24
abbrev sGateBit : Stmt := top 25
def bitsOf (k n : Nat) : List Bool := (List.range n).map fun i => decide (k / 2 ^ i % 2 = 1)
theorem bitsOf_len (k n : Nat) : (bitsOf k n).length = n := by
  unfold bitsOf
  rw [List.length_map, List.length_range]
theorem bitsOf_succ (k n : Nat) : bitsOf k (n + 1) = bitsOf k n ++ [decide (k / 2 ^ n % 2 = 1)] := by
  unfold bitsOf
  rw [List.range_succ, List.map_append]
  rfl
theorem bit_at (k i : Nat) : (k : Int) / ((2 ^ i : Nat) : Int) % 2 = bitZ (decide (k / 2 ^ i % 2 = 1)) := by
  have h : (k : Int) / ((2 ^ i : Nat) : Int) % 2 = ((k / 2 ^ i % 2 : Nat) : Int) := by
    rw [Int.natCast_emod, Int.natCast_ediv]
    rfl
  rw [h]
  by_cases e : k / 2 ^ i % 2 = 1
  · rw [e, decide_eq_true rfl]
    rfl
  · rw [decide_eq_false e]
    have e0 : k / 2 ^ i % 2 = 0 := by omega
    rw [e0]
    rfl
section
variable {P : Program} {w : World} {K : PySem.W.Frag} {mg : Str → Option Value} {base : Heap}
def spPower : Sp := fun vs H Q _ => ∃ n : Nat, vs = [.int (n : Int)] ∧ n ≤ 5 ∧ Q (.int ((2 ^ n : Nat) : Int)) H
theorem scPower : FnScope ["number", "found", "lap"] ["number"] (defScope sPower) := ⟨rfl, rfl, rfl, by decide +kernel, rfl, by decide +kernel, by decide +kernel⟩
theorem ok_power {f : Addr} {fd : FuncData} (F : Fun K "_law_power" "_law_power" sPower f fd) (mr : mg "range" = none) : FnOk P w K mg base CX0 1 f fd ["number"] spPower := by
  refine F.ok scPower (fun vs H Q E h => ?_) (fun cdv A outer s H vs Q E hr h => ?_)
  · obtain ⟨n, rfl, _⟩ := h
    rfl
  · obtain ⟨n, rfl, hn, q⟩ := h
    refine ⟨_, pss_cons (ps_set (i := 1) scPower.nd rfl (Or.inl rfl) pe_int)
      (pss_cons (ps_for PassesOwn.never rfl (pi_range1 (by rfl) mr (pa_cons (pv 0) pa_nil)) (pg_name (i := 2) scPower.nd rfl (Or.inl rfl))
        (pss_one (ps_set (i := 1) scPower.nd rfl (Or.inl rfl) (pe_op op_mul pe_int (pv 1)))))
      (pss_one (ps_ret (pv 1)))), ?_⟩
    refine ⟨_, rfl, n, rfl, by omega, by omega, ?_⟩
    rw [Int.toNat_natCast]
    refine for_range (fun i σ H1 => ∃ y, σ = [some (.int (n : Int)), some (.int ((2 ^ i : Nat) : Int)), y] ∧ H1 = H) ⟨none, rfl, rfl⟩ (fun i σ H1 hi ⟨y, e, eh⟩ => ?_) (fun σ H1 ⟨y, e, eh⟩ => ?_)
    · subst e
      subst eh
      refine ⟨_, rfl, _, _, rfl, rfl, .inl ⟨by decide, by decide⟩, some (.int (0 + (i : Int))), ?_, rfl⟩
      rw [← pw2 i, Int.mul_comm]
      rfl
    · subst e
      subst eh
      exact ⟨_, rfl, q⟩

def spBitsOf : Sp := fun vs H Q _ => ∃ k n : Nat, vs = [.int (k : Int), .int (n : Int)] ∧ n ≤ 4 ∧ ∀ p H', Same H H' → H p = none → H' p = some (.tup ((bitsOf k n).map bitV)) → Q (.ref p) H'
theorem scBitsOf : FnScope ["number", "size", "spot"] ["number", "size"] (defScope sBitsOf) := ⟨rfl, rfl, rfl, by decide +kernel, rfl, by decide +kernel, by decide +kernel⟩
theorem ok_bitsOf {f fP : Addr} {fd fdP : FuncData} (F : Fun K "_law_bits_of" "_law_bits_of" sBitsOf f fd) (mr : mg "range" = none) (mt : mg "tuple" = none) (GP : FnOk P w K mg base CX0 1 fP fdP ["number"] spPower) (kP : PySem.W.keepIn K (.ref fP) = true) (bP : Binds K fdP ["number"] []) (mP : mg "_law_power" = some (.ref fP)) :
    FnOk P w K mg base CX0 2 f fd ["number", "size"] spBitsOf := by
  refine F.ok scBitsOf (fun vs H Q E h => ?_) (fun cdv A outer s H vs Q E hr h => ?_)
  · obtain ⟨k, n, rfl, _⟩ := h
    rfl
  · obtain ⟨k, n, rfl, hn, q⟩ := h
    refine ⟨_, pss_one (ps_ret (pe_callTy call_tuple_of (by rfl) mt (by decide +kernel) (pa_cons (pe_lc (own := [("spot", 2)]) (g := gName 2) (tt := tYes) rfl scBitsOf.nd (pi_range1 (by rfl) mr (pa_cons (pv 1) pa_nil)) (blkOk_by (N := ["number", "size", "spot"]) (sc := defScope sBitsOf) (by decide +kernel))
      (fun _ _ _ _ _ => pg_name (i := 2) scBitsOf.nd rfl (Or.inl rfl)) (fun _ _ _ _ _ => pts_nil) (fun _ _ _ _ _ => pe_op op_mod (pe_op op_fdiv (pv 0) (pe_call GP hr (by rfl) mP kP bP .nil pass0 (pa_cons (pv 2) pa_nil))) pe_int)) pa_nil))), ?_⟩
    refine ⟨_, rfl, n, rfl, by omega, by omega, fun D nD => ?_⟩
    rw [Int.toNat_natCast]
    refine lc_range (fun i H1 => Same H H1 ∧ H1 D = some (.lst ((bitsOf k i).map bitV))) ⟨same_new nD, upd_same⟩ (fun i H1 hi ⟨s1, e1⟩ => ?_) (fun H1 ⟨s1, e1⟩ => ?_)
    · have hp : 2 ^ i ≤ 16 := pow16 (by omega)
      have hp0 : 0 < 2 ^ i := Nat.two_pow_pos i
      refine ⟨rfl, _, rfl, _, rfl, i, by simp, by omega, _, _, rfl, rfl, ⟨by omega, by omega⟩, _, _, rfl, rfl, (by show (0 : Int) < 2; decide), _, e1, ?_, fun b o e => ?_, ?_⟩
      · rw [List.length_map, bitsOf_len]
        exact small1000 (by omega)
      · rw [upd_ne (ne_of_none e nD)]
        exact s1 b o e
      · rw [upd_same, bitsOf_succ, List.map_append]
        show some (HO.lst ((bitsOf k i).map bitV ++ [V.int ((k : Int) / ((2 ^ i : Nat) : Int) % 2)])) = _
        rw [bit_at]
        rfl
    · refine ⟨D, _, rfl, .inl ⟨.inl (.inl e1), fun p np => q p _ (s1.trans (same_new np)) (s1.free np) upd_same⟩⟩
/-! ### sorted -/
/-- sorted of a list of one -/
def rSort1 (K : PySem.W.Frag) : List V → Hp → VK → Prop := fun vs H Q => ∃ (a : Addr) (x : V), vs = [V.ref a] ∧ SqL K H a [x] ∧ ∀ p, H p = none → Q (.ref p) (upd H p (.lst [x]))
theorem cr_sort1 {X : Cx} : CallR X (.builtin "sorted") (rSort1 X.K) := by
  intro pins s σ H vs us Q I r h
  obtain ⟨a, x, rfl, hs, q⟩ := h
  obtain ⟨its, rv, hl, hz⟩ := I.list hs
  rw [Vals.ref1 r]
  have h1 : its.length = 1 := by
    rw [← rv.length]
    rfl
  refine Srt.sorted_any hl.isList (by rw [h1, sizeLine_eq]; decide) (fun z => by omega) fun out hp => ?_
  have eo : out = its := by
    obtain ⟨u, rfl⟩ := List.length_eq_one_iff.mp h1
    exact List.perm_singleton.mp hp
  rw [eo]
  obtain ⟨ep, he⟩ := PyProof.Rows.sortedAll_at s.heap its its.toArray
  exact ⟨.ref _, upd H (s.heap.objs.size + 1) (.lst [x]), I.laid (t' := s.toks) (fun _ _ => PyProof.Rows.sortedAll_old) (Nat.le_succ _) ⟨(by show 1 ≤ sizeLine; decide), its, ep, rv, he⟩, rfl, q _ (I.hok.fresh (Nat.le_succ _))⟩
end
end K02

set_option Elab.async false
set_option linter.all false
set_option maxRecDepth 100000
set_option maxHeartbeats 1000000
/-! All bits, and a gate's bit, as the law finds them. -/
namespace K02
open PySem PySem.Spec L2
open PyProof.Rows GenW GxR
open LamX (ExtN)
theorem idx_bits : ∀ bs : List Bool, bitsOf (idx bs) bs.length = bs := by
  have gen : ∀ (bs : List Bool) (i : Nat), i < bs.length → bs[i]? = some (decide (idx bs / 2 ^ i % 2 = 1)) := by
    intro bs
    induction bs with
    | nil => intro i h; simp at h
    | cons b r ih =>
      intro i h
      cases i with
      | zero =>
        cases b <;> simp [idx] <;> omega
      | succ i =>
        have h2 := ih i (by simpa using h)
        rw [List.getElem?_cons_succ, h2]
        have e : idx (b :: r) / 2 ^ (i + 1) = idx r / 2 ^ i := by
          rw [Nat.pow_succ, Nat.mul_comm, ← Nat.div_div_eq_div_mul]
          have : idx (b :: r) / 2 = idx r := by
            show ((if b then 1 else 0) + 2 * idx r) / 2 = idx r
            split <;> omega
          rw [this]
        rw [e]
  intro bs
  apply List.ext_getElem?
  intro i
  unfold bitsOf
  rw [List.getElem?_map]
  by_cases h : i < bs.length
  · rw [List.getElem?_range h, gen bs i h]
    rfl
  · rw [List.getElem?_eq_none (by simpa using h), List.getElem?_eq_none (by omega)]
    rfl
theorem low62 {m : Nat} (h : m ≤ 16) : -(2 ^ 62) ≤ (m : Int) := by omega
theorem high62 {m : Nat} (h : m ≤ 16) : (m : Int) < 2 ^ 62 := by omega
/-- y is a tuple of the bits bs -/
def IsB (H : Hp) (y : V) (bs : List Bool) : Prop := ∃ t, y = .ref t ∧ H t = some (.tup (bs.map bitV))
theorem IsB.keep {H H' : Hp} {y : V} {bs : List Bool} (h : IsB H y bs) (k : Same H H') : IsB H' y bs := by
  obtain ⟨t, e, g⟩ := h
  exact ⟨t, e, k _ _ g⟩
/-- just the bits of n places stand in ys -/
structure AllB (H : Hp) (ys : List V) (n : Nat) : Prop where
  len : ys.length = 2 ^ n
  all : ∀ y ∈ ys, ∃ bs, IsB H y bs ∧ bs.length = n
  each : ∀ bs : List Bool, bs.length = n → ∃ y ∈ ys, IsB H y bs
theorem bits_map (bs : List Bool) : bs.map bitV = (bs.map bitZ).map V.int := by
  rw [List.map_map]
  rfl
section
variable {P : Program} {w : World} {K : PySem.W.Frag} {mg : Str → Option Value} {base : Heap}
def spAllBits : Sp := fun vs H Q _ => ∃ n : Nat, vs = [.int (n : Int)] ∧ n ≤ 4 ∧ ∀ l ys H', Same H H' → H l = none → H' l = some (.lst ys) → AllB H' ys n → Q (.ref l) H'
theorem scAllBits : FnScope ["size", "number"] ["size"] (defScope sAllBits) := ⟨rfl, rfl, rfl, by decide +kernel, rfl, by decide +kernel, by decide +kernel⟩
theorem ok_allBits {f fP fB : Addr} {fd fdP fdB : FuncData} (F : Fun K "_law_all_bits" "_law_all_bits" sAllBits f fd) (mr : mg "range" = none) (ms : mg "sorted" = none)
    (GP : FnOk P w K mg base CX0 1 fP fdP ["number"] spPower) (kP : PySem.W.keepIn K (.ref fP) = true) (bP : Binds K fdP ["number"] []) (mP : mg "_law_power" = some (.ref fP))
    (GB : FnOk P w K mg base CX0 2 fB fdB ["number", "size"] spBitsOf) (kB : PySem.W.keepIn K (.ref fB) = true) (bB : Binds K fdB ["number", "size"] []) (mB : mg "_law_bits_of" = some (.ref fB)) :
    FnOk P w K mg base CX0 3 f fd ["size"] spAllBits := by
  refine F.ok scAllBits (fun vs H Q E h => ?_) (fun cdv A outer s H vs Q E hr h => ?_)
  · obtain ⟨n, rfl, _⟩ := h
    rfl
  · obtain ⟨n, rfl, hn, q⟩ := h
    have h16 := pow16 hn
    -- the list, before it is sorted
    have inv : ∀ (D : Addr), H D = none → ∀ Qd : Hp → Prop, (∀ H1 ys, Same H H1 → H1 D = some (.lst ys) → AllB H1 ys n → Qd H1) →
        ∃ Pv : Nat → Hp → Prop, Pv 0 (upd H D (.lst [])) ∧ (∀ (i : Nat) (H1 : Hp), i < 2 ^ n → Pv i H1 → Same H H1 ∧ ∃ acc, H1 D = some (.lst acc) ∧ acc.length < sizeLine ∧
          ∀ p H', Same H1 H' → H1 p = none → H' p = some (.tup ((bitsOf i n).map bitV)) → Pv (i + 1) (upd H' D (.lst (acc ++ [.ref p])))) ∧ ∀ H1, Pv (2 ^ n) H1 → Qd H1 := by
      intro D nD Qd qd
      refine ⟨fun i H1 => Same H H1 ∧ ∃ ys, H1 D = some (.lst ys) ∧ ys.length = i ∧ (∀ y ∈ ys, ∃ bs, IsB H1 y bs ∧ bs.length = n) ∧ ∀ k, k < i → ∃ y ∈ ys, IsB H1 y (bitsOf k n), ⟨same_new nD, [], upd_same, rfl, fun y hy => (nomatch hy), fun k hk => by omega⟩, fun i H1 hi ⟨s1, ys, e1, l1, a1, b1⟩ => ⟨s1, ys, e1, by rw [l1]; exact small1000 (by omega), fun p H' s2 np e2 => ?_⟩, fun H1 ⟨s1, ys, e1, l1, a1, b1⟩ => qd H1 ys s1 e1 ⟨l1, a1, fun bs hb => ?_⟩⟩
      · have off : ∀ {y bs}, IsB H1 y bs → IsB (upd H' D (.lst (ys ++ [.ref p]))) y bs := fun {y bs} ⟨t, e, g⟩ => ⟨t, e, by
          rw [upd_ne (fun z => by rw [z, e1] at g; cases g)]
          exact s2 _ _ g⟩
        have new : IsB (upd H' D (.lst (ys ++ [.ref p]))) (.ref p) (bitsOf i n) := ⟨p, rfl, by
          rw [upd_ne (fun z => by rw [z, e1] at np; cases np)]
          exact e2⟩
        refine ⟨fun b o e => ?_, _, upd_same, ?_, fun y hy => ?_, fun k hk => ?_⟩
        · rw [upd_ne (ne_of_none e nD)]
          exact s2 _ _ (s1 _ _ e)
        · rw [List.length_append, l1]
          rfl
        · rcases List.mem_append.mp hy with hy | hy
          · obtain ⟨bs, z, l⟩ := a1 y hy
            exact ⟨bs, off z, l⟩
          · rw [List.mem_singleton.mp hy]
            exact ⟨_, new, bitsOf_len _ _⟩
        · by_cases h : k < i
          · obtain ⟨y, hy, z⟩ := b1 k h
            exact ⟨y, List.mem_append_left _ hy, off z⟩
          · have e : k = i := by omega
            rw [e]
            exact ⟨_, List.mem_append_right _ (List.mem_singleton.mpr rfl), new⟩
      · have hlt := idx_lt bs
        rw [hb] at hlt
        have z := b1 _ hlt
        have e := idx_bits bs
        rw [hb] at e
        rw [e] at z
        exact z
    by_cases h0 : n = 0
    · subst h0
      refine ⟨_, pss_one (ps_ret (pe_callB cr_sort1 (by rfl) ms (by decide +kernel) (pa_cons (pe_lc (own := [("number", 1)]) (g := gName 1) (tt := tYes) rfl scAllBits.nd (pi_range1 (by rfl) mr (pa_cons (pe_call GP (hr.mono (by decide)) (by rfl) mP kP bP .nil pass0 (pa_cons (pv 0) pa_nil)) pa_nil)) (blkOk_by (N := ["size", "number"]) (sc := defScope sAllBits) (by decide +kernel))
        (fun _ _ _ _ _ => pg_name (i := 1) scAllBits.nd rfl (Or.inl rfl)) (fun _ _ _ _ _ => pts_nil) (fun _ _ _ _ _ => pe_call GB hr (by rfl) mB kB bB .nil pass0 (pa_cons (pv 1) (pa_cons (pv 0) pa_nil)))) pa_nil))), ?_⟩
      refine ⟨_, rfl, 0, rfl, by decide, _, rfl, by decide, by decide, fun D nD => ?_⟩
      have fin : ∀ H1 ys, Same H H1 → H1 D = some (.lst ys) → AllB H1 ys 0 → rSort1 K [.ref D] H1 Q := fun H1 ys s1 e1 a1 => ?fin
      · obtain ⟨Pv, p0, ps, pd⟩ := inv D nD (fun H1 => rSort1 K [.ref D] H1 Q) fin
        refine lc_range Pv p0 (fun i H1 hi p1 => ?_) pd
        obtain ⟨s1, acc, e1, hl, nxt⟩ := ps i H1 (by simpa using hi) p1
        exact ⟨rfl, _, rfl, _, rfl, i, 0, by simp, by decide, fun p H' s2 np e2 => ⟨acc, s2 _ _ e1, hl, nxt p H' s2 np e2⟩⟩
      case fin =>
        obtain ⟨y, rfl⟩ := List.length_eq_one_iff.mp a1.len
        refine ⟨D, y, rfl, .inl (.inl e1), fun p np => q p [y] _ (s1.trans (same_new np)) (s1.free np) upd_same ⟨a1.len, fun z hz => ?_, fun bs hb => ?_⟩⟩
        · obtain ⟨bs, g, l⟩ := a1.all z hz
          exact ⟨bs, g.keep (same_new np), l⟩
        · obtain ⟨z, hz, g⟩ := a1.each bs hb
          exact ⟨z, hz, g.keep (same_new np)⟩
    · refine ⟨_, pss_one (ps_ret (pe_callB (cr_sortT (d := n) (B := 2) (by omega)) (by rfl) ms (by decide +kernel) (pa_cons (pe_lc (own := [("number", 1)]) (g := gName 1) (tt := tYes) rfl scAllBits.nd (pi_range1 (by rfl) mr (pa_cons (pe_call GP (hr.mono (by decide)) (by rfl) mP kP bP .nil pass0 (pa_cons (pv 0) pa_nil)) pa_nil)) (blkOk_by (N := ["size", "number"]) (sc := defScope sAllBits) (by decide +kernel))
        (fun _ _ _ _ _ => pg_name (i := 1) scAllBits.nd rfl (Or.inl rfl)) (fun _ _ _ _ _ => pts_nil) (fun _ _ _ _ _ => pe_call GB hr (by rfl) mB kB bB .nil pass0 (pa_cons (pv 1) (pa_cons (pv 0) pa_nil)))) pa_nil))), ?_⟩
      refine ⟨_, rfl, n, rfl, by omega, _, rfl, low62 h16, high62 h16, fun D nD => ?_⟩
      rw [Int.toNat_natCast]
      have fin : ∀ H1 ys, Same H H1 → H1 D = some (.lst ys) → AllB H1 ys n → rSortU K n 2 [.ref D] H1 Q := fun H1 ys s1 e1 a1 => ?fin
      · obtain ⟨Pv, p0, ps, pd⟩ := inv D nD (fun H1 => rSortU K n 2 [.ref D] H1 Q) fin
        refine lc_range Pv p0 (fun i H1 hi p1 => ?_) pd
        obtain ⟨s1, acc, e1, hl, nxt⟩ := ps i H1 hi p1
        exact ⟨rfl, _, rfl, _, rfl, i, n, by simp, hn, fun p H' s2 np e2 => ⟨acc, s2 _ _ e1, hl, nxt p H' s2 np e2⟩⟩
      case fin =>
        refine ⟨D, ys, rfl, .inl (.inl e1), by rw [a1.len]; omega, fun x hx => ?_, fun zs p hp _ np => q p zs _ (s1.trans (same_new np)) (s1.free np) upd_same ⟨hp.length_eq.trans a1.len, fun z hz => ?_, fun bs hb => ?_⟩⟩
        · obtain ⟨bs, ⟨t, e, g⟩, l⟩ := a1.all x hx
          refine ⟨bs.map bitZ, ⟨t, e, by rw [← bits_map]; exact .inl (.inl g)⟩, by rw [List.length_map, l], fun m hm => ?_⟩
          obtain ⟨b, _, rfl⟩ := List.mem_map.mp hm
          cases b <;> decide
        · obtain ⟨bs, g, l⟩ := a1.all z (hp.mem_iff.mp hz)
          exact ⟨bs, g.keep (same_new np), l⟩
        · obtain ⟨z, hz, g⟩ := a1.each bs hb
          exact ⟨z, hp.mem_iff.mpr hz, g.keep (same_new np)⟩
end
end K02

set_option Elab.async false
set_option linter.all false
set_option maxRecDepth 100000
set_option maxHeartbeats 1000000
/-! A gate's bit, as the law finds it; bits in the place of all None. -/
namespace K02
open PySem PySem.Spec L2
open PyProof.Rows GenW GxR
open LamX (ExtN)
theorem idx_snoc (xs : List Bool) (b : Bool) : idx (xs ++ [b]) = idx xs + (if b then 1 else 0) * 2 ^ xs.length := by
  induction xs with
  | nil =>
    show (if b then 1 else 0) + 2 * idx [] = 0 + (if b then 1 else 0) * 2 ^ 0
    simp [idx]
  | cons x r ih =>
    show (if x then 1 else 0) + 2 * idx (r ++ [b]) = (if x then 1 else 0) + 2 * idx r + (if b then 1 else 0) * 2 ^ (r.length + 1)
    rw [ih, Nat.pow_succ]
    cases b <;> simp <;> omega
/-! ### None's places -/
def spotsF : List (Option Bool) → List Nat
  | [] => []
  | none :: r => 0 :: (spotsF r).map (· + 1)
  | some _ :: r => (spotsF r).map (· + 1)
theorem spotsF_snoc (xs : List (Option Bool)) (x : Option Bool) : spotsF (xs ++ [x]) = match x with
  | none => spotsF xs ++ [xs.length]
  | some _ => spotsF xs := by
  induction xs with
  | nil => cases x <;> rfl
  | cons y r ih =>
    cases x with
    | none =>
      have ih' : spotsF (r ++ [none]) = spotsF r ++ [r.length] := ih
      cases y with
      | none =>
        show 0 :: (spotsF (r ++ [none])).map (· + 1) = 0 :: (spotsF r).map (· + 1) ++ [r.length + 1]
        rw [ih', List.map_append]
        rfl
      | some c =>
        show (spotsF (r ++ [none])).map (· + 1) = (spotsF r).map (· + 1) ++ [r.length + 1]
        rw [ih', List.map_append]
        rfl
    | some d =>
      have ih' : spotsF (r ++ [some d]) = spotsF r := ih
      cases y with
      | none =>
        show 0 :: (spotsF (r ++ [some d])).map (· + 1) = 0 :: (spotsF r).map (· + 1)
        rw [ih']
      | some c =>
        show (spotsF (r ++ [some d])).map (· + 1) = (spotsF r).map (· + 1)
        rw [ih']
theorem spotsF_lt (rs : List (Option Bool)) : ∀ p ∈ spotsF rs, p < rs.length := by
  induction rs with
  | nil => intro p h; cases h
  | cons y r ih =>
    have key : ∀ p ∈ (spotsF r).map (· + 1), p < (y :: r).length := fun p h => by
      obtain ⟨q, hq, rfl⟩ := List.mem_map.mp h
      have := ih q hq
      rw [List.length_cons]
      omega
    intro p h
    cases y with
    | none =>
      rcases List.mem_cons.mp h with e | h
      · rw [e, List.length_cons]
        omega
      · exact key p h
    | some c => exact key p h
theorem spotsF_len (rs : List (Option Bool)) : (spotsF rs).length ≤ rs.length := by
  induction rs with
  | nil => exact Nat.le_refl _
  | cons y r ih =>
    cases y with
    | none =>
      show (0 :: (spotsF r).map (· + 1)).length ≤ r.length + 1
      rw [List.length_cons, List.length_map]
      omega
    | some c =>
      show ((spotsF r).map (· + 1)).length ≤ r.length + 1
      rw [List.length_map]
      omega
def setN (l : List (Option Bool)) (ps : List (Nat × Bool)) : List (Option Bool) := ps.foldl (fun l p => l.set p.1 (some p.2)) l
theorem setN_len (l : List (Option Bool)) (ps : List (Nat × Bool)) : (setN l ps).length = l.length := by
  induction ps generalizing l with
  | nil => rfl
  | cons p r ih =>
    show (setN (l.set p.1 (some p.2)) r).length = l.length
    rw [ih, List.length_set]
theorem setN_snoc (l : List (Option Bool)) (ps : List (Nat × Bool)) (p : Nat × Bool) : setN l (ps ++ [p]) = (setN l ps).set p.1 (some p.2) := by
  unfold setN
  rw [List.foldl_append]
  rfl
theorem setN_shift (x : Option Bool) (l : List (Option Bool)) (ps : List (Nat × Bool)) : setN (x :: l) (ps.map fun p => (p.1 + 1, p.2)) = x :: setN l ps := by
  induction ps generalizing l with
  | nil => rfl
  | cons p r ih =>
    show setN ((x :: l).set (p.1 + 1) (some p.2)) (r.map fun p => (p.1 + 1, p.2)) = x :: setN (l.set p.1 (some p.2)) r
    rw [List.set_cons_succ, ih]
theorem zip_shift (os : List Nat) (bs : List Bool) : (os.map (· + 1)).zip bs = (os.zip bs).map fun p => (p.1 + 1, p.2) := by
  rw [List.zip_map_left]
  rfl
theorem fill_ok : ∀ (rs : List (Option Bool)) (bs : List Bool), bs.length = (spotsF rs).length → ∃ full, setN rs ((spotsF rs).zip bs) = full.map some ∧ Comp rs full
  | [], bs, _ => ⟨[], by cases bs <;> rfl, .nil⟩
  | none :: r, bs, h => by
    cases bs with
    | nil => exact absurd h (by simp [spotsF])
    | cons b bs =>
      obtain ⟨full, e, c⟩ := fill_ok r bs (by simpa [spotsF] using h)
      refine ⟨b :: full, ?_, .free b c⟩
      show setN (some b :: r) (((spotsF r).map (· + 1)).zip bs) = some b :: full.map some
      rw [zip_shift, setN_shift, e]
  | some d :: r, bs, h => by
    obtain ⟨full, e, c⟩ := fill_ok r bs (by simpa [spotsF] using h)
    refine ⟨d :: full, ?_, .told d c⟩
    show setN (some d :: r) (((spotsF r).map (· + 1)).zip bs) = some d :: full.map some
    rw [zip_shift, setN_shift, e]
theorem fill_all {rs : List (Option Bool)} {full : List Bool} (c : Comp rs full) : ∃ bs : List Bool, bs.length = (spotsF rs).length ∧ setN rs ((spotsF rs).zip bs) = full.map some := by
  induction c with
  | nil => exact ⟨[], rfl, rfl⟩
  | @free r fs b c ih =>
    obtain ⟨bs, h, e⟩ := ih
    refine ⟨b :: bs, by simpa [spotsF] using h, ?_⟩
    show setN (some b :: r) (((spotsF r).map (· + 1)).zip bs) = some b :: fs.map some
    rw [zip_shift, setN_shift, e]
  | @told r fs d c ih =>
    obtain ⟨bs, h, e⟩ := ih
    refine ⟨bs, by simpa [spotsF] using h, ?_⟩
    show setN (some d :: r) (((spotsF r).map (· + 1)).zip bs) = some d :: fs.map some
    rw [zip_shift, setN_shift, e]
def fillV (rs : List (Option Bool)) (bs : List Bool) : List Bool := (setN rs ((spotsF rs).zip bs)).map fun x => x.getD false
theorem fillV_of {rs : List (Option Bool)} {bs full : List Bool} (e : setN rs ((spotsF rs).zip bs) = full.map some) : fillV rs bs = full := by
  unfold fillV
  rw [e, List.map_map]
  exact List.map_id _
theorem fillV_comp {rs : List (Option Bool)} {bs : List Bool} (h : bs.length = (spotsF rs).length) : Comp rs (fillV rs bs) ∧ (setN rs ((spotsF rs).zip bs)).map rdV = (fillV rs bs).map bitV := by
  obtain ⟨full, e, c⟩ := fill_ok rs bs h
  rw [fillV_of e, e]
  refine ⟨c, ?_⟩
  rw [List.map_map]
  rfl
/-- the bits of a gate over all bits of its open places: the gate's reading -/
theorem gate_all {tb : List Bool} {rs : List (Option Bool)} {bss : List (List Bool)} (h1 : ∀ bs ∈ bss, bs.length = (spotsF rs).length) (h2 : ∀ bs : List Bool, bs.length = (spotsF rs).length → bs ∈ bss) :
    one (bss.map fun bs => tb.getD (idx (fillV rs bs)) false) = gateR tb rs := by
  unfold gateR
  refine one_congr fun b => ?_
  rw [List.mem_map, List.mem_map]
  constructor
  · rintro ⟨bs, hb, e⟩
    exact ⟨idx (fillV rs bs), (plc_mem rs _).mpr ⟨_, (fillV_comp (h1 bs hb)).1, rfl⟩, e⟩
  · rintro ⟨p, hp, e⟩
    obtain ⟨full, c, rfl⟩ := (plc_mem rs p).mp hp
    obtain ⟨bs, hl, es⟩ := fill_all c
    refine ⟨bs, h2 bs hl, ?_⟩
    show tb.getD (idx (fillV rs bs)) false = b
    rw [fillV_of es]
    exact e

section
variable {P : Program} {w : World} {K : PySem.W.Frag} {mg : Str → Option Value} {base : Heap}
def spGateBit (K : PySem.W.Frag) : Sp := fun vs H Q _ => ∃ (a b : Addr) (tb bs : List Bool), vs = [.ref a, .ref b] ∧ SqT K H a (tb.map bitV) ∧ SqL K H b (bs.map bitV) ∧ bs.length ≤ 4 ∧ tb.length = 2 ^ bs.length ∧ ∀ H', Same H H' → Q (bitV (tb.getD (idx bs) false)) H'
theorem scGateBit : FnScope ["table", "bits", "spot", "bit"] ["table", "bits"] (defScope sGateBit) := ⟨rfl, rfl, rfl, by decide +kernel, rfl, by decide +kernel, by decide +kernel⟩
theorem ok_gateBit {f fP : Addr} {fd fdP : FuncData} (F : Fun K "_law_gate_bit" "_law_gate_bit" sGateBit f fd) (me : mg "enumerate" = none) (ms : mg "sum" = none)
    (GP : FnOk P w K mg base CX0 1 fP fdP ["number"] spPower) (kP : PySem.W.keepIn K (.ref fP) = true) (bP : Binds K fdP ["number"] []) (mP : mg "_law_power" = some (.ref fP)) : FnOk P w K mg base CX0 2 f fd ["table", "bits"] (spGateBit K) := by
  refine F.ok scGateBit (fun vs H Q E h => ?_) (fun cdv A outer s H vs Q E hr h => ?_)
  · obtain ⟨a, b, tb, bs, rfl, _⟩ := h
    rfl
  · obtain ⟨a, b, tb, bs, rfl, hT, hB, hl, htl, q⟩ := h
    refine ⟨_, pss_one (ps_ret (pe_ix (r := rIxT K) ix_tup (pv 0) (pe_callB (cr_sum rfl) (by rfl) ms (by decide +kernel) (pa_cons (pe_lc (own := [("spot", 2), ("bit", 3)]) (g := gTup K 2 (gCons (gName 2) (gCons (gName 3) gNil))) (tt := tYes) rfl scGateBit.nd (pi_enum (by rfl) me (pa_cons (pv 1) pa_nil)) (blkOk_by (N := ["table", "bits", "spot", "bit"]) (sc := defScope sGateBit) (by decide +kernel))
      (fun _ _ _ _ _ => pg_tup rfl (pgs_cons (pg_name (i := 2) scGateBit.nd rfl (Or.inl rfl)) (pgs_cons (pg_name (i := 3) scGateBit.nd rfl (Or.inl rfl)) pgs_nil))) (fun _ _ _ _ _ => pts_nil) (fun _ _ _ _ _ => pe_op op_mul (pv 3) (pe_call GP hr (by rfl) mP kP bP .nil pass0 (pa_cons (pv 2) pa_nil)))) pa_nil)) (fun _ _ => rfl))), ?_⟩
    refine ⟨_, rfl, _, rfl, b, bs.map bitV, rfl, hB, fun D nD => ?_⟩
    refine lc_it walk_enum (fun i H1 => Same H H1 ∧ ∃ ns : List Int, H1 D = some (.lst (ns.map V.int)) ∧ ns.length = i ∧ ns.sum = (idx (bs.take i) : Int)) ⟨same_new nD, [], upd_same, rfl, rfl⟩ (fun i H1 _ z => z.1.seq hB) (fun i x H1 H2 hi ⟨s1, ns, e1, l1, es⟩ hy => ?_) (fun H1 ⟨s1, ns, e1, l1, es⟩ => ?_)
    · obtain ⟨T, x1, y1, rfl, nT, rfl, hx, hy⟩ := hy
      cases hx
      have hy : (bs.map bitV)[i]? = some y1 := hy
      rw [List.getElem?_map] at hy
      obtain ⟨c, hc, rfl⟩ := Option.map_eq_some_iff.mp hy
      have hib : i < bs.length := (List.getElem?_eq_some_iff.mp hc).1
      have hlen : (bs.take i).length = i := by
        rw [List.length_take]
        omega
      have hb : bitZ c = (if c then 1 else 0 : Int) := by cases c <;> rfl
      refine ⟨T, _, rfl, .inl (.inl upd_same), rfl, _, _, rfl, _, _, rfl, rfl, rfl, _, rfl, _, rfl, i, rfl, by omega, _, _, rfl, rfl, .inl ⟨by cases c <;> decide, by cases c <;> decide⟩, ns.map V.int, ?_, ?_, fun b' o e => ?_, ns ++ [bitZ c * ((2 ^ i : Nat) : Int)], ?_, ?_, ?_⟩
      · rw [upd_ne (fun z => by rw [z, nT] at e1; cases e1)]
        exact e1
      · rw [List.length_map, l1]
        exact small1000 (by omega)
      · rw [upd_ne (ne_of_none e nD)]
        exact same_new nT _ _ (s1 _ _ e)
      · rw [upd_same, List.map_append]
        rfl
      · rw [List.length_append, l1]
        rfl
      · rw [List.sum_append, es, take_snoc hc, idx_snoc, hlen]
        show (idx (bs.take i) : Int) + (bitZ c * ((2 ^ i : Nat) : Int) + 0) = _
        cases c
        · show (idx (bs.take i) : Int) + (0 * ((2 ^ i : Nat) : Int) + 0) = ((idx (bs.take i) + 0 * 2 ^ i : Nat) : Int)
          rw [Int.zero_mul, Nat.zero_mul]
          simp
        · show (idx (bs.take i) : Int) + (1 * ((2 ^ i : Nat) : Int) + 0) = ((idx (bs.take i) + 1 * 2 ^ i : Nat) : Int)
          rw [Int.one_mul, Nat.one_mul, Int.natCast_add, Int.add_zero]
    · rw [List.length_map, List.take_length] at es
      have hlt : idx bs < tb.length := by
        rw [htl]
        exact idx_lt bs
      refine ⟨D, ns, rfl, .inl (.inl e1), a, _, _, bitV (tb.getD (idx bs) false), rfl, rfl, extN_seqT (extN_same s1) hT, ?_, q H1 s1⟩
      rw [es]
      refine atI_nat ?_
      rw [List.getElem?_map, List.getElem?_eq_getElem hlt]
      simp [List.getD_eq_getElem?_getD, List.getElem?_eq_getElem hlt]
end
end K02

set_option Elab.async false
set_option linter.all false
set_option maxRecDepth 100000
set_option maxHeartbeats 1000000
/-! A gate's reading, as the law finds it. -/
namespace K02
open PySem PySem.Spec L2
open PyProof.Rows GenW GxR EZ
open LamX (ExtN)
abbrev sLawReading : Stmt := top 26
abbrev nLR : List Str := ["table", "readings", "open_spots", "told", "bits", "filled", "spot", "bit", "reading"]
theorem scLR : FnScope nLR ["table", "readings"] (defScope sLawReading) := ⟨rfl, rfl, rfl, by decide +kernel, rfl, by decide +kernel, by decide +kernel⟩
theorem bitV_inj {a b : List Bool} (h : a.map bitV = b.map bitV) : a = b := by
  induction a generalizing b with
  | nil =>
    cases b with
    | nil => rfl
    | cons y r => cases h
  | cons x r ih =>
    cases b with
    | nil => cases h
    | cons y q =>
      injection h with h1 h2
      rw [ih h2, bitZ_inj (V.int.inj h1)]
theorem bss_of {H : Hp} {n : Nat} : ∀ {ys : List V}, (∀ y ∈ ys, ∃ bs, IsB H y bs ∧ bs.length = n) → ∃ bss : List (List Bool), bss.length = ys.length ∧ ∀ (i : Nat) (y : V), ys[i]? = some y → ∃ bs, bss[i]? = some bs ∧ IsB H y bs ∧ bs.length = n
  | [], _ => ⟨[], rfl, fun i y h => by simp at h⟩
  | y :: r, h => by
    obtain ⟨bss, hl, hb⟩ := bss_of (ys := r) fun z hz => h z (List.mem_cons_of_mem _ hz)
    obtain ⟨bs, g, l⟩ := h y List.mem_cons_self
    refine ⟨bs :: bss, by rw [List.length_cons, List.length_cons, hl], fun i z hz => ?_⟩
    cases i with
    | zero =>
      cases hz
      exact ⟨bs, rfl, g, l⟩
    | succ i => exact hb i z hz
theorem IsB.inj {H : Hp} {y : V} {a b : List Bool} (h : IsB H y a) (g : IsB H y b) : a = b := by
  obtain ⟨t, rfl, e⟩ := h
  obtain ⟨t', e', e2⟩ := g
  cases e'
  rw [e] at e2
  injection e2 with e2
  injection e2 with e2
  exact bitV_inj e2
theorem walk_enumT {K : PySem.W.Frag} {a : Addr} {xs : List V} : Walk (IteT K a xs) xs.length (fun H => SqT K H a xs) (YPair (fun i => some (.int (i : Nat))) (fun i => xs[i]?)) :=
  ⟨fun _ _ hi q => ⟨q, hi⟩, fun _ q => ⟨q, rfl⟩, fun i H v H' _ _ ⟨T, x, h1, h2, h3, h4⟩ => ⟨T, _, x, h1, h2, h3, rfl, h4⟩⟩
theorem walk_zipLT {K : PySem.W.Frag} {a b : Addr} {xs ys : List V} : Walk (ItzLT K a b xs ys) xs.length (fun H => SqL K H a xs ∧ SqT K H b ys) (YPair (fun i => xs[i]?) (fun i => ys[i]?)) :=
  ⟨fun _ _ hi q => ⟨q.1, q.2, hi⟩, fun _ q => ⟨q.1, q.2, rfl⟩, fun i H v H' _ _ ⟨T, x, y, h1, h2, h3, h4, h5⟩ => ⟨T, x, y, h1, h2, h3, h4, h5⟩⟩
theorem rdV_non {r : Option Bool} : decide (rdV r = .non) = r.isNone := by
  cases r with
  | none => rfl
  | some c => rfl
section
variable {P : Program} {w : World} {K : PySem.W.Frag} {mg : Str → Option Value} {base : Heap}
def spLR (K : PySem.W.Frag) : Sp := fun vs H Q _ => ∃ (a b : Addr) (tb : List Bool) (rs : List (Option Bool)), vs = [.ref a, .ref b] ∧ SqT K H a (tb.map bitV) ∧ SqT K H b (rs.map rdV) ∧ rs.length ≤ 4 ∧ tb.length = 2 ^ rs.length ∧ ∀ H', Same H H' → Q (rdV (gateR tb rs)) H'
theorem ok_LR {f fA fG : Addr} {fd fdA fdG : FuncData} (F : Fun K "_law_gate_reading" "_law_gate_reading" sLawReading f fd) (me : mg "enumerate" = none) (ml : mg "len" = none) (mli : mg "list" = none) (mz : mg "zip" = none) (mmin : mg "min" = none) (mmax : mg "max" = none)
    (GA : FnOk P w K mg base CX0 3 fA fdA ["size"] spAllBits) (kA : PySem.W.keepIn K (.ref fA) = true) (bA : Binds K fdA ["size"] []) (mA : mg "_law_all_bits" = some (.ref fA))
    (GG : FnOk P w K mg base CX0 2 fG fdG ["table", "bits"] (spGateBit K)) (kG : PySem.W.keepIn K (.ref fG) = true) (bG : Binds K fdG ["table", "bits"] []) (mG : mg "_law_gate_bit" = some (.ref fG)) :
    FnOk P w K mg base CX0 4 f fd ["table", "readings"] (spLR K) := by
  refine F.ok scLR (fun vs H Q E h => ?_) (fun cdv A outer s H vs Q E hr h => ?_)
  · obtain ⟨a, b, tb, rs, rfl, _⟩ := h
    rfl
  · obtain ⟨a, b, tb, rs, rfl, hT, hR, hl, htl, q⟩ := h
    refine ⟨_, pss_cons (ps_par (i := 2) (j := 3) rfl scLR.nd rfl rfl (by decide) rfl rfl (pa_cons (pe_lc (own := [("spot", 6), ("reading", 8)]) (g := gTup K 2 (gCons (gName 6) (gCons (gName 8) gNil))) rfl scLR.nd (pi_enumT (by rfl) me (pa_cons (pv 1) pa_nil)) (blkOk_by (N := nLR) (sc := defScope sLawReading) (by decide +kernel))
        (fun _ _ _ _ _ => pg_tup rfl (pgs_cons (pg_name (i := 6) scLR.nd rfl (Or.inl rfl)) (pgs_cons (pg_name (i := 8) scLR.nd rfl (Or.inl rfl)) pgs_nil))) (fun _ _ _ _ _ => pts_one (pt_cmpR op_isN (pv 8) pe_non (nomark _))) (fun _ _ _ _ _ => pv 6)) (pa_cons (pe_lst pa_nil) pa_nil)) (by rfl))
      (pss_cons (ps_for PassesOwn.never rfl (pi_list (pe_call GA hr (by rfl) mA kA bA .nil pass0 (pa_cons (pe_callB call_len_seq (by rfl) ml PySem.boot_len (pa_cons (pv 2) pa_nil)) pa_nil))) (pg_name (i := 4) scLR.nd rfl (Or.inl rfl))
        (pss_cons (ps_set (i := 5) scLR.nd rfl (Or.inl rfl) (pe_callTy call_list_of (by rfl) mli (by decide +kernel) (pa_cons (pv 1) pa_nil)))
        (pss_cons (ps_for PassesOwn.never rfl (pi_zipLT (by rfl) mz (pa_cons (pv 2) (pa_cons (pv 4) pa_nil))) (pg_tup rfl (pgs_cons (pg_name (i := 6) scLR.nd rfl (Or.inl rfl)) (pgs_cons (pg_name (i := 7) scLR.nd rfl (Or.inl rfl)) pgs_nil)))
          (pss_one (ps_asg (pv 7) (pg_sub (pv 5) (pv 6) set_list))))
        (pss_one (ps_expr (pe_bm PySem.F.plainAttrs_list PySem.F.slot_list_append PySem.F.type_list_append mt_append (pv 3) (pa_cons (pe_call GG (hr.mono (by decide)) (by rfl) mG kG bG .nil pass0 (pa_cons (pv 0) (pa_cons (pv 5) pa_nil))) pa_nil)))))))
      (pss_one (ps_ret (pe_ifExp (pt_cmpR op_eq (pe_callB (cr_min rfl) (by rfl) mmin (by decide +kernel) (pa_cons (pv 3) pa_nil)) (pe_callB (cr_max rfl) (by rfl) mmax (by decide +kernel) (pa_cons (pv 3) pa_nil)) (nomark _)) (pe_ix ix_list (pv 3) pe_int (fun _ _ => rfl)) pe_non)))), ?_⟩
    -- open_spots, told = [..], []
    refine ⟨_, rfl, b, rs.map rdV, rfl, hR, fun D nD => ?_⟩
    refine lc_it walk_enumT (fun i H1 => Same H H1 ∧ H1 D = some (.lst (natV (spotsF (rs.take i))))) ⟨same_new nD, upd_same⟩ (fun i H1 _ z => extN_seqT (extN_same z.1) hR) (fun i x H1 H2 hi ⟨s1, e1⟩ hy => ?_) (fun H1 ⟨s1, e1⟩ => ?_)
    · obtain ⟨T, x1, y1, rfl, nT, rfl, hx, hy⟩ := hy
      cases hx
      have hy : (rs.map rdV)[i]? = some y1 := hy
      rw [List.getElem?_map] at hy
      obtain ⟨r, hr1, rfl⟩ := Option.map_eq_some_iff.mp hy
      have hir : i < rs.length := (List.getElem?_eq_some_iff.mp hr1).1
      have hlen : (rs.take i).length = i := by
        rw [List.length_take]
        omega
      have s2 := same_new (o := .tup [.int (i : Nat), rdV r]) nT
      have nDT : D ≠ T := fun z => by
        rw [z, nT] at e1
        cases e1
      have hsn := spotsF_snoc (rs.take i) r
      refine ⟨T, _, rfl, .inl (.inl upd_same), rfl, _, _, rfl, _, _, rfl, rfl, rfl, _, rfl, rfl, ?_⟩
      refine ⟨_, rfl, ?_⟩
      rw [rdV_non]
      cases r with
      | none =>
        have hsn : spotsF (rs.take i ++ [none]) = spotsF (rs.take i) ++ [(rs.take i).length] := hsn
        refine iteT ⟨_, rfl, natV (spotsF (rs.take i)), ?_, ?_, fun b' o e => ?_, ?_⟩
        · rw [upd_ne nDT]
          exact e1
        · rw [natV_len]
          have := spotsF_len (rs.take i)
          exact small1000 (by omega)
        · rw [upd_ne (ne_of_none e nD)]
          exact s2 _ _ (s1 _ _ e)
        · rw [upd_same, take_snoc hr1, hsn, hlen, natV_app]
          rfl
      | some c =>
        have hsn : spotsF (rs.take i ++ [some c]) = spotsF (rs.take i) := hsn
        refine iteF ⟨fun b' o e => s2 _ _ (s1 _ _ e), ?_⟩
        rw [take_snoc hr1, hsn, upd_ne nDT]
        exact e1
    · have e1' : H1 D = some (.lst (natV (spotsF rs))) := by
        rw [List.length_map, List.take_length] at e1
        exact e1
      clear e1
      have hsl : (spotsF rs).length ≤ 4 := Nat.le_trans (spotsF_len rs) hl
      refine ⟨Nat.zero_le _, fun L nL => ⟨_, _, rfl, ?_⟩⟩
      have s2 : Same H (upd H1 L (.lst [])) := s1.trans (same_new nL)
      have hLD : L ≠ D := fun z => by
        rw [z, e1'] at nL
        cases nL
      have e2 : upd H1 L (.lst []) D = some (.lst (natV (spotsF rs))) := by
        rw [upd_ne hLD.symm]
        exact e1'
      refine ⟨_, rfl, D, _, rfl, .inl (.inl (.inl e2)), (spotsF rs).length, by rw [natV_len]; rfl, hsl, fun l ys H3 s3 nl e3 A3 => ?_⟩
      obtain ⟨bss, lb, hbss⟩ := bss_of A3.all
      have e3L : H3 L = some (.lst []) := s3 _ _ upd_same
      have hD3 : SqL K H3 D (natV (spotsF rs)) := .inl (.inl (s3 _ _ e2))
      have s03 : Same H H3 := s2.trans s3
      have nlL : l ≠ L := fun z => by
        rw [z, upd_same] at nl
        cases nl
      have bl : bss.length ≤ 16 := by
        rw [lb, A3.len]
        exact pow16 hsl
      generalize hf : (fun bs : List Bool => tb.getD (idx (fillV rs bs)) false) = bitOf
      -- what stands but told
      have offL : ∀ c o, H c = some o → c ≠ L := fun c o e => ne_of_none (s1 _ _ e) nL
      refine ⟨l, rfl, ⟨ys, .inl (.inl e3)⟩, for_list (fun i σ Hx => ∃ y4 y5 y6 y7 : Option V, σ = [some (.ref a), some (.ref b), some (.ref D), some (.ref L), y4, y5, y6, y7, none] ∧ (∀ c o, c ≠ L → H3 c = some o → Hx c = some o) ∧ Hx L = some (.lst (((bss.take i).map bitOf).map bitV)))
        ⟨none, none, none, none, rfl, fun _ _ _ e => e, e3L⟩ (fun i σ Hx _ ⟨_, _, _, _, _, k, _⟩ => .inl (.inl (k _ _ nlL e3))) (fun i x σ Hx hx ⟨y4, y5, y6, y7, eσ, kx, eL⟩ => ?_) (fun σ Hx ⟨y4, y5, y6, y7, eσ, kx, eL⟩ => ?_)⟩
      · subst eσ
        obtain ⟨bs, hbi, ⟨t, rfl, et⟩, lbs⟩ := hbss i x hx
        have tL : t ≠ L := fun z => by
          rw [z, e3L] at et
          cases et
        refine ⟨_, rfl, b, rs.map rdV, rfl, .inr ?_, fun F nF => ?_⟩
        · exact extN_seqT (fun c o e _ => kx c o (offL c o e) (s03 _ _ e)) hR
        have k4 : ∀ c o, c ≠ L → H3 c = some o → upd Hx F (.lst (rs.map rdV)) c = some o := fun c o n e => by
          have z := kx c o n e
          rw [upd_ne (ne_of_none z nF)]
          exact z
        have FL : F ≠ L := fun z => by
          rw [z, eL] at nF
          cases nF
        have DL : D ≠ L := hLD.symm
        have FD : F ≠ D := fun z => by
          have w := kx D _ DL (s3 _ _ e2)
          rw [← z, nF] at w
          cases w
        have Ft : F ≠ t := fun z => by
          have w := kx t _ tL et
          rw [← z, nF] at w
          cases w
        refine ⟨_, rfl, _, rfl, D, t, natV (spotsF rs), bs.map bitV, rfl, .inl (.inl (k4 _ _ DL (s3 _ _ e2))), .inl (.inl (k4 _ _ tL et)), by rw [natV_len, List.length_map, lbs], ?_⟩
        refine for_it walk_zipLT (fun j σ Hy => ∃ y6 y7 : Option V, σ = [some (.ref a), some (.ref b), some (.ref D), some (.ref L), some (.ref t), some (.ref F), y6, y7, none] ∧ (∀ c o, c ≠ F → upd Hx F (.lst (rs.map rdV)) c = some o → Hy c = some o) ∧ Hy F = some (.lst ((setN rs (((spotsF rs).zip bs).take j)).map rdV)))
          ⟨y6, y7, rfl, fun _ _ _ e => e, upd_same⟩ (fun j σ Hy _ ⟨_, _, _, ky, _⟩ => ⟨.inl (.inl (ky _ _ FD.symm (k4 _ _ DL (s3 _ _ e2)))), .inl (.inl (ky _ _ Ft.symm (k4 _ _ tL et)))⟩) (fun j x σ Hy Hz hj ⟨y6', y7', eσ, ky, eF⟩ hy => ?_) (fun σ Hy ⟨y6', y7', eσ, ky, eF⟩ => ?_)
        · subst eσ
          obtain ⟨T, x1, y1, rfl, nT, rfl, hx1, hy1⟩ := hy
          obtain ⟨p, hp, rfl⟩ := natV_get hx1
          have hy1 : (bs.map bitV)[j]? = some y1 := hy1
          rw [List.getElem?_map] at hy1
          obtain ⟨c, hc, rfl⟩ := Option.map_eq_some_iff.mp hy1
          have hz : ((spotsF rs).zip bs)[j]? = some (p, c) := List.getElem?_zip_eq_some.mpr ⟨hp, hc⟩
          have hpl : p < rs.length := spotsF_lt rs p (List.mem_of_getElem? hp)
          have FT : F ≠ T := fun z => by
            rw [z, nT] at eF
            cases eF
          refine ⟨T, _, rfl, .inl (.inl upd_same), rfl, _, _, rfl, _, _, rfl, rfl, ?_⟩
          refine ⟨_, rfl, _, rfl, _, rfl, F, (setN rs (((spotsF rs).zip bs).take j)).map rdV, (p : Int), p, rfl, rfl, ?_, ?_, some (.int (p : Int)), some (bitV c), rfl, fun d o n e => ?_, ?_⟩
          · rw [upd_ne FT]
            exact eF
          · have hpn : p < ((setN rs (((spotsF rs).zip bs).take j)).map rdV).length := by
              rw [List.length_map, setN_len]
              exact hpl
            unfold ixN
            rw [if_pos (Int.natCast_nonneg _), if_pos (Int.ofNat_lt.mpr hpn), Int.toNat_natCast]
          · have z := ky d o n e
            rw [upd_ne n, upd_ne (ne_of_none z nT)]
            exact z
          · rw [upd_same, take_snoc hz, setN_snoc, List.map_set]
            rfl
        · subst eσ
          have hzl : ((spotsF rs).zip bs).length = (natV (spotsF rs)).length := by
            rw [List.length_zip, natV_len, lbs, Nat.min_self]
          rw [← hzl, List.take_length, (fillV_comp lbs).2] at eF
          have kz : ∀ c o, c ≠ L → H3 c = some o → Hy c = some o := fun c o n e => ky c o (fun z => by
            have w := kx c o n e
            rw [z, nF] at w
            cases w) (k4 c o n e)
          have hlen : (fillV rs bs).length = rs.length := (fillV_comp lbs).1.length
          refine ⟨_, rfl, ?_, _, rfl, _, rfl, a, F, tb, fillV rs bs, rfl, ?_, .inl (.inl eF), by rw [hlen]; exact hl, by rw [hlen]; exact htl, fun H' s' => ⟨L, ((bss.take i).map bitOf).map bitV, _, rfl, rfl, ?_, ?_, ?_⟩⟩
          · refine .inl ⟨rfl, ((bss.take i).map bitOf).map bitV, .inl (.inl (ky L _ FL.symm ?_))⟩
            rw [upd_ne FL.symm]
            exact eL
          · exact extN_seqT (fun c o e _ => kz c o (offL c o e) (s03 _ _ e)) hT
          · refine s' _ _ (ky L _ FL.symm ?_)
            rw [upd_ne FL.symm]
            exact eL
          · rw [List.length_map, List.length_map, List.length_take]
            exact small1000 (by omega)
          · refine ⟨some (.ref t), some (.ref F), y6', y7', rfl, fun c o n e => ?_, ?_⟩
            · rw [upd_ne n]
              exact s' _ _ (kz c o n e)
            · rw [upd_same, take_snoc hbi, List.map_append, List.map_append, ← hf]
              rfl
      · subst eσ
        have e : Hx L = some (.lst ((bss.map bitOf).map bitV)) := by
          have hyl : ys.length = bss.length := lb.symm
          rw [hyl, List.take_length] at eL
          exact eL
        have hone : one (bss.map bitOf) = gateR tb rs := by
          rw [← hf]
          refine gate_all (fun bs hb => ?_) (fun bs hl => ?_)
          · obtain ⟨i, hi⟩ := List.getElem?_of_mem hb
            have hiy : i < ys.length := by
              rw [← lb]
              exact (List.getElem?_eq_some_iff.mp hi).1
            obtain ⟨bs', h1, _, h3⟩ := hbss i _ (List.getElem?_eq_getElem hiy)
            rw [hi] at h1
            cases h1
            exact h3
          · obtain ⟨y, hy, g⟩ := A3.each bs hl
            obtain ⟨i, hi⟩ := List.getElem?_of_mem hy
            obtain ⟨bs', h1, g', _⟩ := hbss i y hi
            rw [g.inj g']
            exact List.mem_of_getElem? h1
        generalize hLL : bss.map bitOf = LL at e hone
        have hD : SqL K Hx L ((LL.map bitZ).map V.int) := by
          refine .inl (.inl ?_)
          rw [e, List.map_map]
          rfl
        have hpos : 0 < (LL.map bitZ).length := by
          rw [List.length_map, ← hLL, List.length_map, lb, A3.len]
          exact Nat.two_pow_pos _
        have sx : Same H Hx := fun c o e => kx c o (offL c o e) (s03 _ _ e)
        refine ⟨_, rfl, L, _, rfl, hD, hpos, fun lo l1 l2 => ⟨_, rfl, L, _, rfl, hD, hpos, fun hi h1 h2 => ⟨rfl, _, rfl, ite2 (fun hc => ?_) (fun hc => ?_)⟩⟩⟩
        · obtain ⟨b', r, el, eo⟩ := (minmax_one l1 l2 h1 h2).1 (V.int.inj (of_decide_eq_true hc))
          have z := q Hx sx
          rw [← hone, eo] at z
          refine ⟨_, rfl, L, _, 0, bitV b', rfl, rfl, hD, ?_, z⟩
          rw [el]
          exact atI_nat (j := 0) rfl
        · have eo := (minmax_one l1 l2 h1 h2).2 fun z => hc (decide_eq_true (congrArg V.int z))
          have z := q Hx sx
          rw [← hone, eo] at z
          exact z
end
end K02

set_option Elab.async false
set_option linter.all false
set_option maxRecDepth 100000
set_option maxHeartbeats 1000000
/-! The law's tables and readings. -/
namespace K02
open PySem PySem.Spec L2
open PyProof.Rows GenW GxR EZ
open LamX (ExtN)
abbrev sLTable : Stmt := top 27
abbrev sAllR : Stmt := top 28
theorem StOk.up {H : Hp} {st lg cl : Addr} {t t' : Nat} (S : StOk H st lg cl t) (h : t ≤ t') : StOk H st lg cl t' := by
  obtain ⟨ls, cs, left, turn, S⟩ := S
  exact ⟨ls, cs, left, turn, S.d, S.l, S.c, S.lp, S.l0, S.t0, by have := S.tt; omega, S.ll, S.cc, S.ne⟩
theorem But.st_new {st lg cl p : Addr} {H : Hp} {o : HO} {t : Nat} (S : StOk H st lg cl t) (np : H p = none) : p ≠ st ∧ p ≠ lg := by
  obtain ⟨ls, cs, left, turn, S⟩ := S
  exact ⟨ne_of_none S.d np |>.symm, ne_of_none S.l np |>.symm⟩
theorem But.free {st lg cl p : Addr} {H H' : Hp} {t : Nat} (B : But st lg H H') (S : StOk H' st lg cl t) (np : H' p = none) : H p = none := by
  have n := But.st_new (o := .tup []) S np
  cases e : H p with
  | none => rfl
  | some o =>
    have z := B p o e n.1 n.2
    rw [np] at z
    cases z
theorem StOk.upd {st lg cl p : Addr} {H : Hp} {o : HO} {t : Nat} (S : StOk H st lg cl t) (n1 : p ≠ st) (n2 : p ≠ lg) (n3 : p ≠ cl) : StOk (upd H p o) st lg cl t := by
  obtain ⟨ls, cs, left, turn, S⟩ := S
  exact ⟨ls, cs, left, turn, by rw [upd_ne n1.symm]; exact S.d, by rw [upd_ne n2.symm]; exact S.l, by rw [upd_ne n3.symm]; exact S.c, S.lp, S.l0, S.t0, S.tt, S.ll, S.cc, S.ne⟩
theorem StOk.cl_ne {st lg cl p : Addr} {H : Hp} {t : Nat} (S : StOk H st lg cl t) (np : H p = none) : p ≠ cl := by
  obtain ⟨ls, cs, left, turn, S⟩ := S
  exact (ne_of_none S.c np).symm
theorem bits01 {k : Int} (h0 : 0 ≤ k) (h1 : k < 2) : ∃ b, V.int k = bitV b := by
  by_cases h : k = 1
  · exact ⟨true, by rw [h]; rfl⟩
  · exact ⟨false, by rw [show k = 0 by omega]; rfl⟩
section
variable {P : Program} {w : World} {K : PySem.W.Frag} {mg : Str → Option Value} {base : Heap}
def spLTable : Sp := fun vs H Q _ => ∃ (st lg cl : Addr) (t n : Nat), vs = [.ref st, .int (n : Int)] ∧ n ≤ 4 ∧ t + 100 < 1000000000 ∧ StOk H st lg cl t ∧
  ∀ (tb : List Bool) (p : Addr) (H' : Hp), tb.length = 2 ^ n → H' p = some (.tup (tb.map bitV)) → H p = none → StOk H' st lg cl (t + 17) → But st lg H H' → Q (.ref p) H'
theorem scLTable : FnScope ["state", "size", "way", "count", "spot"] ["state", "size"] (defScope sLTable) := ⟨rfl, rfl, rfl, by decide +kernel, rfl, by decide +kernel, by decide +kernel⟩
theorem rep_one {α : Type} (x : α) (n : Nat) : (List.replicate n [x]).flatten = List.replicate n x := by
  induction n with
  | zero => rfl
  | succ n ih =>
    rw [List.replicate_succ, List.flatten_cons, ih, List.replicate_succ]
    rfl
theorem ok_ltable {f fD fP : Addr} {fd fdD fdP : FuncData} (F : Fun K "_law_table" "_law_table" sLTable f fd) (mt : mg "tuple" = none) (mr : mg "range" = none)
    (GD : FnOk P w K mg base CX0 1 fD fdD ["state", "size_here"] spDraw) (kD : PySem.W.keepIn K (.ref fD) = true) (bD : Binds K fdD ["state", "size_here"] []) (mD : mg "_law_draw" = some (.ref fD))
    (GP : FnOk P w K mg base CX0 1 fP fdP ["number"] spPower) (kP : PySem.W.keepIn K (.ref fP) = true) (bP : Binds K fdP ["number"] []) (mP : mg "_law_power" = some (.ref fP)) :
    FnOk P w K mg base CX0 2 f fd ["state", "size"] spLTable := by
  refine F.ok scLTable (fun vs H Q E h => ?_) (fun cdv A outer s H vs Q E hr h => ?_)
  · obtain ⟨st, lg, cl, t, n, rfl, _⟩ := h
    rfl
  · obtain ⟨st, lg, cl, t, n, rfl, hn, ht, S, q⟩ := h
    have h16 := pow16 hn
    have hp0 : 0 < 2 ^ n := Nat.two_pow_pos n
    refine ⟨_, pss_cons (ps_par (i := 2) (j := 3) rfl scLTable.nd rfl rfl (by decide) rfl rfl (pa_cons (pe_call GD hr (by rfl) mD kD bD .nil pass0 (pa_cons (pv 0) (pa_cons pe_int pa_nil))) (pa_cons (pe_call GP hr (by rfl) mP kP bP .nil pass0 (pa_cons (pv 1) pa_nil)) pa_nil)) (by rfl))
      (pss_cons (ps_if (pt_cmpR op_eq (pv 2) pe_int (nomark _)) (pss_one (ps_ret (pe_callTy call_tuple_of (by rfl) mt (by decide +kernel) (pa_cons (pe_op op_cat (pe_lst (pa_cons pe_int pa_nil)) (pe_op op_rep (pe_lst (pa_cons pe_int pa_nil)) (pe_op op_sub (pv 3) pe_int))) pa_nil)))) pss_nil)
      (pss_cons (ps_if (pt_cmpR op_eq (pv 2) pe_int (nomark _)) (pss_one (ps_ret (pe_callTy call_tuple_of (by rfl) mt (by decide +kernel) (pa_cons (pe_op op_cat (pe_op op_rep (pe_lst (pa_cons pe_int pa_nil)) (pe_op op_sub (pv 3) pe_int)) (pe_lst (pa_cons pe_int pa_nil))) pa_nil)))) pss_nil)
      (pss_cons (ps_if (pw_and (pt_cmpR op_eq (pv 2) pe_int (nomark _)) (pw_and1 (pt_cmpR op_eq (pv 1) pe_int (nomark _)))).pt (pss_one (ps_ret (pe_tup (pa_cons pe_int (pa_cons pe_int pa_nil))))) pss_nil)
      (pss_one (ps_ret (pe_callTy call_tuple_of (by rfl) mt (by decide +kernel) (pa_cons (pe_lc (own := [("spot", 4)]) (g := gName 4) (tt := tYes) rfl scLTable.nd (pi_range1 (by rfl) mr (pa_cons (pv 3) pa_nil)) (blkOk_by (N := ["state", "size", "way", "count", "spot"]) (sc := defScope sLTable) (by decide +kernel))
        (fun _ _ _ _ _ => pg_name (i := 4) scLTable.nd rfl (Or.inl rfl)) (fun _ _ _ _ _ => pts_nil) (fun _ _ _ _ _ => pe_call GD hr (by rfl) mD kD bD .nil pass0 (pa_cons (pv 0) (pa_cons pe_int pa_nil)))) pa_nil))))))), ?_⟩
    refine ⟨_, rfl, st, lg, cl, t, 5, rfl, by decide, by decide, by omega, S, fun k H1 k0 k1 S1 B1 => ?_⟩
    refine ⟨_, rfl, n, rfl, by omega, ⟨_, _, rfl, ?_⟩⟩
    have fin : ∀ (tb : List Bool) (ys : List V) (H2 : Hp), Same H1 H2 → ys = tb.map bitV → tb.length = 2 ^ n → ∀ l, H2 l = none → Q (.ref l) (L2.upd H2 l (.tup ys)) := fun tb ys H2 s2 e hl l nl => by
      refine q tb l _ hl ?_ (B1.free S1 (s2.free nl)) ((S1.keep (s2.trans (same_new nl))).up (by omega)) (B1.trans (But.of (s2.trans (same_new nl))))
      rw [upd_same, e]
    have hm : (((2 ^ n : Nat) : Int) - 1).toNat = 2 ^ n - 1 := by omega
    have b1 : (-(2 ^ 63) : Int) ≤ ((2 ^ n : Nat) : Int) - 1 := by
      have := Int.natCast_nonneg (2 ^ n)
      omega
    have b2 : ((2 ^ n : Nat) : Int) - 1 < 2 ^ 63 := by
      have : ((2 ^ n : Nat) : Int) ≤ 16 := Int.ofNat_le.mpr h16
      omega
    refine ⟨_, rfl, rfl, _, rfl, ite2 (fun e => ?_) (fun e => ?_)⟩
    · refine ⟨(by show 1 ≤ sizeLine; decide), fun p1 np1 => ⟨(by show 1 ≤ sizeLine; decide), fun p2 np2 => ⟨_, rfl, _, _, rfl, rfl, p2, _, [.int 1], rfl, rfl, upd_same, b1, b2, ?_, fun p3 np3 => ?_⟩⟩⟩
      · rw [hm]
        exact Nat.le_of_lt (small1000 (by show 1 * (2 ^ n - 1) ≤ 1000; omega))
      · have s3 := ((same_new (o := .lst [.int 0]) np1).trans (same_new (o := .lst [.int 1]) np2)).trans (same_new (o := .lst (List.replicate (((2 ^ n : Nat) : Int) - 1).toNat [V.int 1]).flatten) np3)
        refine ⟨p1, p3, [.int 0], _, rfl, rfl, same_new np3 _ _ (same_new np2 _ _ upd_same), upd_same, ?_, fun p4 np4 => ⟨p4, _, rfl, .inl ⟨.inl (.inl upd_same), fin (false :: List.replicate (2 ^ n - 1) true) _ _ (s3.trans (same_new np4)) ?_ ?_⟩⟩⟩
        · rw [rep_one, List.length_replicate, hm]
          exact Nat.le_of_lt (small1000 (by show 1 + (2 ^ n - 1) ≤ 1000; omega))
        · rw [rep_one, hm, List.map_cons, List.map_replicate]
          rfl
        · rw [List.length_cons, List.length_replicate]
          omega
    · refine ⟨_, rfl, rfl, _, rfl, ite2 (fun e => ?_) (fun e => ?_)⟩
      · refine ⟨(by show 1 ≤ sizeLine; decide), fun p2 np2 => ⟨_, rfl, _, _, rfl, rfl, p2, _, [.int 0], rfl, rfl, upd_same, b1, b2, ?_, fun p3 np3 => ⟨(by show 1 ≤ sizeLine; decide), fun p1 np1 => ?_⟩⟩⟩
        · rw [hm]
          exact Nat.le_of_lt (small1000 (by show 1 * (2 ^ n - 1) ≤ 1000; omega))
        · have s3 := ((same_new (o := .lst [.int 0]) np2).trans (same_new (o := .lst (List.replicate (((2 ^ n : Nat) : Int) - 1).toNat [V.int 0]).flatten) np3)).trans (same_new (o := .lst [.int 1]) np1)
          refine ⟨p3, p1, _, [.int 1], rfl, rfl, same_new np1 _ _ upd_same, upd_same, ?_, fun p4 np4 => ⟨p4, _, rfl, .inl ⟨.inl (.inl upd_same), fin (List.replicate (2 ^ n - 1) false ++ [true]) _ _ (s3.trans (same_new np4)) ?_ ?_⟩⟩⟩
          · rw [rep_one, List.length_replicate, hm]
            exact Nat.le_of_lt (small1000 (by show (2 ^ n - 1) + 1 ≤ 1000; omega))
          · rw [rep_one, hm, List.map_append, List.map_replicate]
            rfl
          · rw [List.length_append, List.length_replicate]
            show 2 ^ n - 1 + 1 = 2 ^ n
            omega
      · refine ⟨_, rfl, rfl, ?_⟩
        have last : ∀ D, H1 D = none → ∀ Qd : Hp → Prop, (∀ (H2 : Hp) (bs : List Bool), bs.length = 2 ^ n → H2 D = some (.lst (bs.map bitV)) → StOk H2 st lg cl (t + 17) → But st lg H1 H2 → Qd H2) →
            ∃ Pv : Nat → Hp → Prop, Pv 0 (L2.upd H1 D (.lst [])) ∧ (∀ (i : Nat) (H2 : Hp), i < 2 ^ n → Pv i H2 → spDraw [.ref st, .int 2] H2 (fun y H4 => ∃ acc, H4 D = some (.lst acc) ∧ acc.length < sizeLine ∧ Pv (i + 1) (L2.upd H4 D (.lst (acc ++ [y])))) E) ∧ ∀ H2, Pv (2 ^ n) H2 → Qd H2 := by
          intro D nD Qd qd
          have nn := But.st_new (o := .tup []) S1 nD
          have n3 := S1.cl_ne nD
          refine ⟨fun i H2 => ∃ bs : List Bool, bs.length = i ∧ H2 D = some (.lst (bs.map bitV)) ∧ StOk H2 st lg cl (t + 1 + i) ∧ But st lg H1 H2, ⟨[], rfl, upd_same, S1.upd nn.1 nn.2 n3, But.of (same_new nD)⟩, fun i H2 hi ⟨bs, l2, e2, S2, B2⟩ => ⟨st, lg, cl, t + 1 + i, 2, rfl, by decide, by decide, by omega, S2, fun k H3 k0 k1 S3 B3 => ⟨bs.map bitV, B3 _ _ e2 nn.1 nn.2, ?_, ?_⟩⟩, fun H2 ⟨bs, l2, e2, S2, B2⟩ => qd H2 bs l2 e2 (S2.up (by omega)) B2⟩
          · rw [List.length_map, l2]
            exact small1000 (by omega)
          · obtain ⟨b, eb⟩ := bits01 k0 k1
            refine ⟨bs ++ [b], by rw [List.length_append, l2]; rfl, ?_, S3.upd nn.1 nn.2 n3, fun c o ec m1 m2 => ?_⟩
            · rw [upd_same, List.map_append, eb]
              rfl
            · rw [upd_ne (ne_of_none ec nD)]
              exact B3 _ _ (B2 _ _ ec m1 m2) m1 m2
        refine ⟨_, rfl, ite2 (fun e2 => ⟨_, rfl, rfl, _, rfl, ite2 (fun e3 => ?one) (fun e3 => ?_)⟩) (fun e2 => ?_)⟩
        case one =>
          have hn1 : n = 1 := by
            have z := V.int.inj (of_decide_eq_true e3)
            omega
          refine ⟨(by show 2 ≤ sizeLine; decide), fun p np => fin [true, false] _ _ (fun _ _ e => e) rfl ?_ p np⟩
          rw [hn1]
          rfl
        all_goals
          refine ⟨_, rfl, _, rfl, low62 h16, high62 h16, fun D nD => ?_⟩
          rw [Int.toNat_natCast]
          have tail : ∀ (H2 : Hp) (bs : List Bool), bs.length = 2 ^ n → H2 D = some (.lst (bs.map bitV)) → StOk H2 st lg cl (t + 17) → But st lg H1 H2 → ∀ l, H2 l = none → Q (.ref l) (L2.upd H2 l (.tup (bs.map bitV))) := fun H2 bs l2 e2 S2 B2 l nl =>
            q bs l _ l2 upd_same (B1.free S1 (B2.free S2 nl)) (S2.keep (same_new nl)) ((B1.trans B2).trans (But.of (same_new nl)))
          obtain ⟨Pv, p0, ps, pd⟩ := last D nD (fun H2 => ∃ bs : List Bool, H2 D = some (.lst (bs.map bitV)) ∧ ∀ l, H2 l = none → Q (.ref l) (L2.upd H2 l (.tup (bs.map bitV)))) (fun H2 bs l2 e2 S2 B2 => ⟨bs, e2, tail H2 bs l2 e2 S2 B2⟩)
          refine lc_range Pv p0 (fun i H2 hi p1 => ⟨rfl, _, rfl, ps i H2 hi p1⟩) fun H2 p2 => ?_
          obtain ⟨bs, e2, fq⟩ := pd H2 p2
          exact ⟨D, _, rfl, .inl ⟨.inl (.inl e2), fq⟩⟩
end
end K02

set_option Elab.async false
set_option linter.all false
set_option maxRecDepth 100000
set_option maxHeartbeats 1000000
/-! All readings, as the law finds them. -/
namespace K02
open PySem PySem.Spec L2
open PyProof.Rows GenW GxR EZ
open LamX (ExtN)
def allR : Nat → List (List (Option Bool))
  | 0 => [[]]
  | n + 1 => ((allR n).map (· ++ [some false]) ++ (allR n).map (· ++ [some true])) ++ (allR n).map (· ++ [none])
theorem allR_len (n : Nat) : ∀ rs ∈ allR n, rs.length = n := by
  induction n with
  | zero =>
    intro rs h
    rw [List.mem_singleton.mp h]
    rfl
  | succ n ih =>
    have key : ∀ r, ∀ rs ∈ (allR n).map (· ++ [r]), rs.length = n + 1 := fun r rs h => by
      obtain ⟨q, hq, rfl⟩ := List.mem_map.mp h
      show (q ++ [r]).length = n + 1
      rw [List.length_append, ih q hq]
      rfl
    intro rs h
    rcases List.mem_append.mp h with h | h
    · rcases List.mem_append.mp h with h | h
      · exact key _ rs h
      · exact key _ rs h
    · exact key _ rs h
theorem allR_all : ∀ (n : Nat) (rs : List (Option Bool)), rs.length = n → rs ∈ allR n
  | 0, rs, h => by
    rw [List.length_eq_zero_iff.mp h]
    exact List.mem_singleton.mpr rfl
  | n + 1, rs, h => by
    have hne : rs ≠ [] := fun z => by
      rw [z] at h
      cases h
    have e := List.dropLast_concat_getLast hne
    have hm := allR_all n rs.dropLast (by rw [List.length_dropLast, h]; rfl)
    rw [← e]
    have key : ∀ r, rs.dropLast ++ [r] ∈ (allR n).map (· ++ [r]) := fun r => List.mem_map.mpr ⟨_, hm, rfl⟩
    rcases rs.getLast hne with _ | _ | _
    · exact List.mem_append_right _ (key none)
    · exact List.mem_append_left _ (List.mem_append_left _ (key (some false)))
    · exact List.mem_append_left _ (List.mem_append_right _ (key (some true)))
theorem snoc_inj {α : Type} {a b : List α} {x y : α} (h : a ++ [x] = b ++ [y]) : a = b ∧ x = y := by
  have h2 := List.append_inj' h rfl
  exact ⟨h2.1, by injection h2.2⟩
theorem allR_nodup (n : Nat) : (allR n).Nodup := by
  induction n with
  | zero => exact List.nodup_cons.mpr ⟨by simp, List.nodup_nil⟩
  | succ n ih =>
    have one_ : ∀ r, ((allR n).map (· ++ [r])).Nodup := fun r => List.Pairwise.map _ (fun a b hab z => hab (snoc_inj z).1) ih
    have two : ∀ r r' : Option Bool, r ≠ r' → ∀ a ∈ (allR n).map (· ++ [r]), ∀ b ∈ (allR n).map (· ++ [r']), a ≠ b := fun r r' hr a ha b hb z => by
      obtain ⟨p, _, rfl⟩ := List.mem_map.mp ha
      obtain ⟨q, _, rfl⟩ := List.mem_map.mp hb
      exact hr (snoc_inj z).2
    show (((allR n).map (· ++ [some false]) ++ (allR n).map (· ++ [some true])) ++ (allR n).map (· ++ [none])).Nodup
    refine List.nodup_append.mpr ⟨List.nodup_append.mpr ⟨one_ _, one_ _, two _ _ (by decide)⟩, one_ _, fun a ha b hb => ?_⟩
    rcases List.mem_append.mp ha with ha | ha
    · exact two _ _ (by decide) a ha b hb
    · exact two _ _ (by decide) a ha b hb
theorem allR_size (n : Nat) : (allR n).length = 3 ^ n := by
  induction n with
  | zero => rfl
  | succ n ih =>
    show (((allR n).map (· ++ [some false]) ++ (allR n).map (· ++ [some true])) ++ (allR n).map (· ++ [none])).length = 3 ^ (n + 1)
    rw [List.length_append, List.length_append, List.length_map, List.length_map, List.length_map, ih, Nat.pow_succ]
    omega
/-- y is a tuple of the readings rs -/
def IsR (H : Hp) (y : V) (rs : List (Option Bool)) : Prop := ∃ t, y = .ref t ∧ H t = some (.tup (rs.map rdV))
theorem IsR.keep {H H' : Hp} {y : V} {rs : List (Option Bool)} (h : IsR H y rs) (k : ∀ t o, H t = some (.tup o) → H' t = some (.tup o)) : IsR H' y rs := by
  obtain ⟨t, e, g⟩ := h
  exact ⟨t, e, k _ _ g⟩
theorem pr_keep {H H' : Hp} {ys : List V} {rss : List (List (Option Bool))} (h : Paired (IsR H) ys rss) (k : ∀ t o, H t = some (.tup o) → H' t = some (.tup o)) : Paired (IsR H') ys rss := by
  induction h with
  | nil => exact .nil
  | cons a t ih => exact .cons (a.keep k) ih
theorem pr_app {R : V → List (Option Bool) → Prop} {a b : List V} {x y : List (List (Option Bool))} (h : Paired R a x) (g : Paired R b y) : Paired R (a ++ b) (x ++ y) := by
  induction h with
  | nil => exact g
  | cons r t ih => exact .cons r ih
theorem pr_get {R : V → List (Option Bool) → Prop} {a : List V} {x : List (List (Option Bool))} (h : Paired R a x) : ∀ {i : Nat} {y : V}, a[i]? = some y → ∃ rs, x[i]? = some rs ∧ R y rs := by
  induction h with
  | nil => intro i y hy; simp at hy
  | cons r t ih =>
    intro i y hy
    cases i with
    | zero =>
      cases hy
      exact ⟨_, rfl, r⟩
    | succ i => exact ih hy
/-- a list at D grows by readings with r behind them -/
def PvC (H1 : Hp) (D : Addr) (rss : List (List (Option Bool))) (r : Option Bool) (i : Nat) (H2 : Hp) : Prop := Same H1 H2 ∧ ∃ zs, H2 D = some (.lst zs) ∧ zs.length = i ∧ Paired (IsR H2) zs ((rss.take i).map (· ++ [r]))
theorem pvc_zero {H1 : Hp} {D : Addr} {rss : List (List (Option Bool))} {r : Option Bool} (nD : H1 D = none) : PvC H1 D rss r 0 (upd H1 D (.lst [])) := ⟨same_new nD, [], upd_same, rfl, .nil⟩
theorem pvc_push {H1 H2 H3 : Hp} {D : Addr} {rss : List (List (Option Bool))} {r : Option Bool} {i : Nat} {rs : List (Option Bool)} {y : V} (nD : H1 D = none) (p : PvC H1 D rss r i H2) (hr : rss[i]? = some rs) (hi : i ≤ 900) (s : Same H2 H3) (hy : IsR H3 y (rs ++ [r])) :
    ∃ acc, H3 D = some (.lst acc) ∧ acc.length < sizeLine ∧ PvC H1 D rss r (i + 1) (upd H3 D (.lst (acc ++ [y]))) := by
  obtain ⟨s1, zs, e, l, rel⟩ := p
  have e3 := s _ _ e
  have off : ∀ t o, H3 t = some (.tup o) → upd H3 D (.lst (zs ++ [y])) t = some (.tup o) := fun t o g => by
    rw [upd_ne (fun z => by rw [z, e3] at g; cases g)]
    exact g
  refine ⟨zs, e3, by rw [l]; exact small1000 (by omega), fun b o g => ?_, zs ++ [y], upd_same, by rw [List.length_append, l]; rfl, ?_⟩
  · rw [upd_ne (ne_of_none g nD)]
    exact s _ _ (s1 _ _ g)
  · rw [take_snoc hr, List.map_append]
    exact pr_app (pr_keep rel fun t o g => off t o (s _ _ g)) (.cons (hy.keep off) .nil)
section
variable {P : Program} {w : World} {K : PySem.W.Frag} {mg : Str → Option Value} {base : Heap}
/-- the item with r behind it -/
theorem cat_step {H1 H2 : Hp} {D : Addr} {rss : List (List (Option Bool))} {r : Option Bool} {i : Nat} {rs : List (Option Bool)} {y : V} (nD : H1 D = none) (p : PvC H1 D rss r i H2) (hr : rss[i]? = some rs) (hi : i ≤ 900) (hl : rs.length ≤ 900) (hy : IsR H2 y rs) {q : Addr} (nq : H2 q = none) :
    rCatA K y (.ref q) (upd H2 q (.tup [rdV r])) fun y H4 => ∃ acc, H4 D = some (.lst acc) ∧ acc.length < sizeLine ∧ PvC H1 D rss r (i + 1) (upd H4 D (.lst (acc ++ [y]))) := by
  obtain ⟨t, rfl, e⟩ := hy
  have s2 := same_new (o := .tup [rdV r]) nq
  refine ⟨t, q, rs.map rdV, [rdV r], rfl, rfl, .inl (.inl (s2 _ _ e)), .inl (.inl upd_same), ?_, fun z => ?_, (fun _ z => by cases z), fun _ _ p3 np3 => ?_⟩
  · rw [List.length_map]
    exact Nat.le_of_lt (small1000 (by show rs.length + 1 ≤ 1000; omega))
  · have z0 : rs = [] := List.map_eq_nil_iff.mp z
    rw [z0] at hr
    exact pvc_push nD p hr hi s2 ⟨q, rfl, upd_same⟩
  · refine pvc_push nD p hr hi (s2.trans (same_new np3)) ⟨p3, rfl, ?_⟩
    rw [upd_same, List.map_append]
    rfl
def spAllR : Sp := fun vs H Q _ => ∃ n : Nat, vs = [.int (n : Int)] ∧ n ≤ 4 ∧ ∀ l ys H', Same H H' → H l = none → H' l = some (.lst ys) → Paired (IsR H') ys (allR n) → Q (.ref l) H'
theorem scAllR : FnScope ["size", "found", "lap", "told"] ["size"] (defScope sAllR) := ⟨rfl, rfl, rfl, by decide +kernel, rfl, by decide +kernel, by decide +kernel⟩
theorem pow3 {i : Nat} (h : i ≤ 4) : 3 ^ i ≤ 81 := Nat.pow_le_pow_right (by decide) h
theorem ok_allR {f : Addr} {fd : FuncData} (F : Fun K "_law_all_readings" "_law_all_readings" sAllR f fd) (mr : mg "range" = none) : FnOk P w K mg base CX0 1 f fd ["size"] spAllR := by
  refine F.ok scAllR (fun vs H Q E h => ?_) (fun cdv A outer s H vs Q E hr h => ?_)
  · obtain ⟨n, rfl, _⟩ := h
    rfl
  · obtain ⟨n, rfl, hn, q⟩ := h
    refine ⟨_, pss_cons (ps_set (i := 1) scAllR.nd rfl (Or.inl rfl) (pe_lst (pa_cons (pe_tup pa_nil) pa_nil)))
      (pss_cons (ps_for PassesOwn.never rfl (pi_range1 (by rfl) mr (pa_cons (pv 0) pa_nil)) (pg_name (i := 2) scAllR.nd rfl (Or.inl rfl))
        (pss_one (ps_set (i := 1) scAllR.nd rfl (Or.inl rfl) (pe_op op_cat (pe_op op_cat
          (pe_lc (own := [("told", 3)]) (g := gName 3) (tt := tYes) rfl scAllR.nd (pi_list (pv 1)) (blkOk_by (N := ["size", "found", "lap", "told"]) (sc := defScope sAllR) (by decide +kernel)) (fun _ _ _ _ _ => pg_name (i := 3) scAllR.nd rfl (Or.inl rfl)) (fun _ _ _ _ _ => pts_nil) (fun _ _ _ _ _ => pe_op (r := rCatA K) op_catA (pv 3) (pe_tup (pa_cons pe_int pa_nil))))
          (pe_lc (own := [("told", 3)]) (g := gName 3) (tt := tYes) rfl scAllR.nd (pi_list (pv 1)) (blkOk_by (N := ["size", "found", "lap", "told"]) (sc := defScope sAllR) (by decide +kernel)) (fun _ _ _ _ _ => pg_name (i := 3) scAllR.nd rfl (Or.inl rfl)) (fun _ _ _ _ _ => pts_nil) (fun _ _ _ _ _ => pe_op (r := rCatA K) op_catA (pv 3) (pe_tup (pa_cons pe_int pa_nil)))))
          (pe_lc (own := [("told", 3)]) (g := gName 3) (tt := tYes) rfl scAllR.nd (pi_list (pv 1)) (blkOk_by (N := ["size", "found", "lap", "told"]) (sc := defScope sAllR) (by decide +kernel)) (fun _ _ _ _ _ => pg_name (i := 3) scAllR.nd rfl (Or.inl rfl)) (fun _ _ _ _ _ => pts_nil) (fun _ _ _ _ _ => pe_op (r := rCatA K) op_catA (pv 3) (pe_tup (pa_cons pe_non pa_nil))))))))
      (pss_one (ps_ret (pv 1)))), ?_⟩
    refine ⟨Nat.zero_le _, fun p1 np1 => ⟨(by show 1 ≤ sizeLine; decide), fun p2 np2 => ⟨_, rfl, n, rfl, by omega, by omega, ?_⟩⟩⟩
    rw [Int.toNat_natCast]
    refine for_range (fun i σ H1 => ∃ (fa : Addr) (ys : List V) (y : Option V), σ = [some (.int (n : Int)), some (.ref fa), y, none] ∧ Same H H1 ∧ H fa = none ∧ H1 fa = some (.lst ys) ∧ Paired (IsR H1) ys (allR i)) ⟨p2, [.ref p1], none, rfl, (same_new np1).trans (same_new np2), (same_new np1).free np2, upd_same, .cons ⟨p1, rfl, same_new np2 _ _ upd_same⟩ .nil⟩ (fun i σ H1 hi ⟨fa, ys, y, e, s1, n1, e1, r1⟩ => ?_) (fun σ H1 ⟨fa, ys, y, e, s1, n1, e1, r1⟩ => ?_)
    · subst e
      have hyl : ys.length = 3 ^ i := by rw [Paired.length r1, allR_size]
      have h81 := pow3 (i := i) (by omega)
      have tupS : ∀ {Ha Hb : Hp}, Same Ha Hb → ∀ t o, Ha t = some (.tup o) → Hb t = some (.tup o) := fun s t o e => s _ _ e
      have lenR : ∀ {j : Nat} {rs : List (Option Bool)}, (allR i)[j]? = some rs → rs.length ≤ 900 := fun h => by
        rw [allR_len i _ (List.mem_of_getElem? h)]
        omega
      have step : ∀ (Hs : Hp) (Da : Addr) (r : Option Bool) (j : Nat) (x : V) (H2 : Hp), Hs Da = none → Same H1 Hs → ys[j]? = some x → PvC Hs Da (allR i) r j H2 → ∀ q, H2 q = none →
          rCatA K x (.ref q) (upd H2 q (.tup [rdV r])) fun y H4 => ∃ acc, H4 Da = some (.lst acc) ∧ acc.length < sizeLine ∧ PvC Hs Da (allR i) r (j + 1) (upd H4 Da (.lst (acc ++ [y]))) := fun Hs Da r j x H2 nD sH hx p q nq => by
        obtain ⟨rs, hrs, hR⟩ := pr_get r1 hx
        have hj : j < ys.length := (List.getElem?_eq_some_iff.mp hx).1
        exact cat_step nD p hrs (by omega) (lenR hrs) (hR.keep (tupS (sH.trans p.1))) nq
      have full : ∀ (Hs : Hp) (Da : Addr) (r : Option Bool) (H2 : Hp), PvC Hs Da (allR i) r ys.length H2 → ∃ zs, H2 Da = some (.lst zs) ∧ Same Hs H2 ∧ zs.length = 3 ^ i ∧ Paired (IsR H2) zs ((allR i).map (· ++ [r])) := fun Hs Da r H2 ⟨s, zs, e, l, rel⟩ => by
        refine ⟨zs, e, s, by rw [l, hyl], ?_⟩
        rw [Paired.length r1, List.take_length] at rel
        exact rel
      refine ⟨_, rfl, fa, rfl, ⟨_, .inl (.inl e1)⟩, fun D1 nD1 => lc_list (K := K) (a := fa) (xs := ys) (PvC H1 D1 (allR i) (some false)) (pvc_zero nD1) (fun j H2 _ p => .inl (.inl (p.1 _ _ e1))) (fun j x H2 hj p => ⟨rfl, _, rfl, (by show 1 ≤ sizeLine; decide), fun q nq => step H1 D1 (some false) j x H2 nD1 (fun _ _ e => e) hj p q nq⟩) (fun H2 p2 => ?_)⟩
      obtain ⟨z1, f1, s2, l1, rel1⟩ := full _ _ _ _ p2
      refine ⟨_, rfl, fa, rfl, ⟨_, .inl (.inl (s2 _ _ e1))⟩, fun D2 nD2 => lc_list (K := K) (a := fa) (xs := ys) (PvC H2 D2 (allR i) (some true)) (pvc_zero nD2) (fun j H3 _ p => .inl (.inl (p.1 _ _ (s2 _ _ e1)))) (fun j x H3 hj p => ⟨rfl, _, rfl, (by show 1 ≤ sizeLine; decide), fun q nq => step H2 D2 (some true) j x H3 nD2 s2 hj p q nq⟩) (fun H3 p3 => ?_)⟩
      obtain ⟨z2, f2, s3, l2, rel2⟩ := full _ _ _ _ p3
      refine ⟨D1, D2, z1, z2, rfl, rfl, s3 _ _ f1, f2, Nat.le_of_lt (small1000 (by omega)), fun C nC => ?_⟩
      have s4 := s3.trans (same_new (o := .lst (z1 ++ z2)) nC)
      have e4 := s4 _ _ (s2 _ _ e1)
      refine ⟨_, rfl, fa, rfl, ⟨_, .inl (.inl e4)⟩, fun D3 nD3 => lc_list (K := K) (a := fa) (xs := ys) (PvC (upd H3 C (.lst (z1 ++ z2))) D3 (allR i) none) (pvc_zero nD3) (fun j H5 _ p => .inl (.inl (p.1 _ _ e4))) (fun j x H5 hj p => ⟨rfl, _, rfl, (by show 1 ≤ sizeLine; decide), fun q nq => step _ D3 none j x H5 nD3 (s2.trans s4) hj p q nq⟩) (fun H5 p5 => ?_)⟩
      obtain ⟨z3, f3, s5, l3, rel3⟩ := full _ _ _ _ p5
      have s35 := (same_new (o := .lst (z1 ++ z2)) nC).trans s5
      refine ⟨C, D3, z1 ++ z2, z3, rfl, rfl, s5 _ _ upd_same, f3, ?_, fun O nO => ⟨O, _, _, rfl, ?_, ?_, upd_same, ?_⟩⟩
      · rw [List.length_append]
        exact Nat.le_of_lt (small1000 (by omega))
      · exact ((s1.trans s2).trans s4).trans (s5.trans (same_new nO))
      · exact ((s1.trans s2).trans s4).trans s5 |>.free nO
      · have sO := same_new (o := .lst ((z1 ++ z2) ++ z3)) nO
        exact pr_app (pr_app (pr_keep rel1 (tupS (s3.trans (s35.trans sO)))) (pr_keep rel2 (tupS (s35.trans sO)))) (pr_keep rel3 (tupS sO))
    · subst e
      exact ⟨_, rfl, q fa ys H1 s1 n1 e1 r1⟩
end
end K02

set_option Elab.async false
set_option linter.all false
set_option maxRecDepth 100000
set_option maxHeartbeats 1000000
/-! Rules that the law's own text wants. -/
namespace K02
open PySem PySem.Spec L2
open PyProof.Rows GenW GxR EZ
open LamX (ExtN)
/-- repr of a reading -/
def rdS : Option Bool → Str
  | none => "None"
  | some b => toString (bitZ b)
theorem call_reprR {X : Cx} : CallR X (.builtin "repr") (fun xs H Q => ∃ r : Option Bool, xs = [rdV r] ∧ Q (.str (rdS r)) H) := by
  intro pins s σ H xs us Q I r h
  obtain ⟨o, rfl, q⟩ := h
  cases o with
  | none =>
    rcases r with _ | ⟨ra, r0⟩
    cases r0
    cases ra
    exact PySem.P.repr_of_none ⟨.str _, H, I.tok _, ⟨_, rfl⟩, q⟩
  | some b =>
    rcases r with _ | ⟨ra, r0⟩
    cases r0
    obtain ⟨t, rfl⟩ := ra
    exact PySem.P.repr_of_int (by cases b <;> decide) ⟨.str _, H, I.tok _, ⟨_, rfl⟩, q⟩
/-- f(k = v, ..) -/
theorem pe_callK0 {X : Cx} {CX : CXT} {k : Nat} {f : Addr} {fd : FuncData} {ps ks : List Str} {sp : Sp} {g : List Value → List Value → List Value} {gV : List V → List V → List V} {E : XK} {x : Str} {p pos : Pos} {kws : List Keyword} {tk : TA} (F : FnOk X.prog X.w X.K X.mg X.base CX k f fd ps sp) (hr : Room k X.A) (hg : Gl X x)
    (hm : X.mg x = some (.ref f)) (hk : PySem.W.keepIn X.K (.ref f) = true) (hb : KBinds X.K fd ps ks g gV) (hx : Passes CX X E) (hkw : PK X kws tk) (hall : (backToKw pos (keywordEach kws X.env)).all (·.1.isSome) = true := by rfl)
    (hks : (backToKw pos (keywordEach kws X.env)).filterMap (·.1) = ks := by rfl) (hdb : (x == ("__debug__" : Str)) = false := by decide) (hpl : ((backTo pos (starEach [] X.env)).any (·.1) || (backToKw pos (keywordEach kws X.env)).any (·.1.isNone)) = false := by rfl) :
    PE X (.Call (.Name x p) [] kws pos) (tCallK sp gV E tNil tk) := by
  constructor
  intro pins s σ H Q I h
  refine wpAny_Call_Name_kw (ld_glob I hg hm (PySem.W.callWith_KW0 (h₀ := X.base) I.ok.mod.kin hk hall (thn (hkw.run pos pins s σ H _ I h) fun ws s2 ⟨zs, H2, I2, rz, q2⟩ => ⟨I2.kIn, ?_⟩) hpl) hdb)
  rw [hks]
  exact run_fnk F hr hb hx I2 .nil rz q2
/-- no error leaves a call that has none -/
theorem passNone {X : Cx} : Passes (L2.CX X.prog X.w) X fun _ _ _ => False := fun _ _ _ _ _ _ _ c => by
  obtain ⟨_, _, _, _, _, _, _, _, _, _, _, _, z⟩ := c
  exact z.elim
end K02

set_option Elab.async false
set_option linter.all false
set_option maxRecDepth 100000
set_option maxHeartbeats 4000000
namespace TM
open PySem PySem.Spec PySem.Calls PyProof.Rows L2
theorem tuple_mul1 (l : Addr) (items : Array Value) (n : Nat) (dd : Option Addr) (sl : Array (Option Value)) (u : Tok) :
    Meets (Builtin.«tuple.__mul__» ⟨[.ref l, .int 1 u], []⟩) (fun _ R s => s.heap.get? l = some { cls := .type "tuple", dict := dd, data := .seq items n, slots := sl } ∧ R (.ok (.ret (.ref l))) s) :=
  .of_wp fun prog w A R s h => by
    obtain ⟨hp, g, d, tk, os⟩ := s
    obtain ⟨hl, h⟩ := h
    have f1 := AutoSeq1.idx_int
    wp_walk using wpAny_loadPart' hl
    exact ⟨_, rfl, h⟩
/-- t * k, k at least 1 (t * 1 is t itself) -/
def rRepA (K : PySem.W.Frag) : R2 := fun x y H Q => ∃ l k xs, x = .ref l ∧ y = .int k ∧ SqT K H l xs ∧ xs ≠ [] ∧ 1 ≤ k ∧ k ≤ 1000 ∧ xs.length ≤ 1000 ∧ (k = 1 → Q (.ref l) H) ∧ (2 ≤ k → ∀ p, H p = none → Q (.ref p) (upd H p (.tup (List.replicate k.toNat xs).flatten)))
theorem op_repA {X : Cx} : OpR X (binaryOp .Mult) (rRepA X.K) := by
  intro pins s σ H x y v u Q I rx ry h
  obtain ⟨l, k, xs, rfl, rfl, hT, hne, h1, h2, hz, q1, q2⟩ := h
  by_cases hk : k = 1
  · subst hk
    cases rx
    obtain ⟨t, rfl⟩ := ry
    obtain ⟨its, r, ⟨⟨cls, dd, data, sl⟩, ho, hc, n, hd⟩, hs⟩ := I.tuple hT
    simp only at hc hd
    subst hc
    subst hd
    exact wpAny_binaryOp_repeat_ref (T := "tuple") (U := "int") (by decide) ⟨_, ho, rfl⟩ (fun s' => typeIs_int s' 1 t) noFill_tuple_mul F.fills_int_mul F.slot_int_rmul repeat_tuple F.slot_int_index.lookup
      (call_meets F.slot_int_rmul (typeIs_int s 1 t) F.entry_int_rmul (F.args_int_rmul_2 _ _) (int_rmul_tuple 1 t l its.toArray n dd sl)
        ⟨ho, rfl, ⟨_, ho, rfl⟩, call_meets F.slot_tuple_mul ⟨_, ho, rfl⟩ F.entry_tuple_mul (F.args_tuple_mul_2 _ _) (tuple_mul1 l its.toArray n dd sl t) ⟨ho, ⟨.ref l, H, I, rfl, q1 rfl⟩⟩⟩)
  · exact op_repT pins s σ H (.ref l) (.int k) v u Q I rx ry ⟨l, k, xs, rfl, rfl, hT, hne, by omega, h2, hz, q2 (by omega)⟩
end TM

set_option Elab.async false
set_option linter.all false
set_option maxRecDepth 100000
set_option maxHeartbeats 1000000
/-! Pieces of the law: what is asked of gate_reading; less known, nothing sure lost; keys. -/
namespace K02
open PySem PySem.Spec L2
open PyProof.Rows GenW GxR EZ TK
open LamX (ExtN)
/-! ### less known -/
def lessR (rs : List (Option Bool)) (s : Nat) : List (Option Bool) := (rs.take s ++ [none]) ++ rs.drop (s + 1)
theorem lessR_len {rs : List (Option Bool)} {s : Nat} (h : s < rs.length) : (lessR rs s).length = rs.length := by
  unfold lessR
  rw [List.length_append, List.length_append, List.length_take, List.length_drop]
  show min s rs.length + 1 + (rs.length - (s + 1)) = rs.length
  omega
theorem comp_less {rs : List (Option Bool)} {bs : List Bool} (c : Comp rs bs) : ∀ {s : Nat}, s < rs.length → Comp (lessR rs s) bs := by
  induction c with
  | nil => intro s h; cases h
  | @free r bs b c ih =>
    intro s h
    cases s with
    | zero => exact .free b c
    | succ s => exact .free b (ih (by simpa using h))
  | @told r bs b c ih =>
    intro s h
    cases s with
    | zero => exact .free b c
    | succ s => exact .told b (ih (by simpa using h))
theorem less_sure {tb : List Bool} {rs : List (Option Bool)} {s : Nat} {b : Bool} (h : s < rs.length) (e : gateR tb (lessR rs s) = some b) : gateR tb rs = some b := by
  unfold gateR at e ⊢
  rw [one_some] at e ⊢
  obtain ⟨_, all⟩ := e
  refine ⟨fun z => ?_, fun x hx => ?_⟩
  · have z' := List.map_eq_nil_iff.mp z
    have p := (plc_len rs).2
    rw [z'] at p
    cases p
  · obtain ⟨p, hp, e⟩ := List.mem_map.mp hx
    obtain ⟨bs, c, rfl⟩ := (plc_mem rs p).mp hp
    exact all x (List.mem_map.mpr ⟨idx bs, (plc_mem _ _).mpr ⟨bs, comp_less c h, rfl⟩, e⟩)
/-! ### keys -/
def leafR : Option Bool → Leaf
  | none => .none
  | some b => .num (bitZ b)
theorem leaf_rd (r : Option Bool) : leafV (leafR r) = rdV r := by
  cases r <;> rfl
theorem leaves_rd (rs : List (Option Bool)) : (rs.map leafR).map leafV = rs.map rdV := by
  rw [List.map_map]
  exact List.map_congr_left fun r _ => leaf_rd r
theorem leafR_inj {a b : Option Bool} (h : leafR a = leafR b) : a = b := by
  cases a <;> cases b <;> first
    | rfl
    | (cases h)
    | (injection h with h; rw [bitZ_inj h])
theorem leaves_inj : ∀ {a b : List (Option Bool)}, a.map leafR = b.map leafR → a = b
  | [], [], _ => rfl
  | [], _ :: _, h => by cases h
  | _ :: _, [], h => by cases h
  | x :: r, y :: q, h => by
    injection h with h1 h2
    rw [leafR_inj h1, leaves_inj h2]
/-- the entries of the dict of what was told -/
def Told (tb : List Bool) (rss : List (List (Option Bool))) (xs : List Ent) : Prop := xs.map (fun x => (x.1, x.2.2)) = rss.map fun rs => (rs.map leafR, rdV (gateR tb rs))
theorem Told.len {tb : List Bool} {rss : List (List (Option Bool))} {xs : List Ent} (h : Told tb rss xs) : xs.length = rss.length := by
  have z := congrArg List.length h
  rw [List.length_map, List.length_map] at z
  exact z
theorem Told.keys {tb : List Bool} {rss : List (List (Option Bool))} {xs : List Ent} (h : Told tb rss xs) : xs.map (·.1) = rss.map (·.map leafR) := by
  have z := congrArg (List.map Prod.fst) h
  rw [List.map_map, List.map_map] at z
  exact z
theorem Told.get {tb : List Bool} {rss : List (List (Option Bool))} {xs : List Ent} (h : Told tb rss xs) {rs : List (Option Bool)} (hr : rs ∈ rss) : ∃ a, (rs.map leafR, a, rdV (gateR tb rs)) ∈ xs := by
  have m : (rs.map leafR, rdV (gateR tb rs)) ∈ xs.map (fun x => (x.1, x.2.2)) := by
    rw [h]
    exact List.mem_map.mpr ⟨rs, hr, rfl⟩
  obtain ⟨⟨k, a, v⟩, hx, e⟩ := List.mem_map.mp m
  injection e with e1 e2
  have e1 : k = rs.map leafR := e1
  have e2 : v = rdV (gateR tb rs) := e2
  rw [e1, e2] at hx
  exact ⟨a, hx⟩
theorem Told.at_ {tb : List Bool} {rss : List (List (Option Bool))} {xs : List Ent} (h : Told tb rss xs) {i : Nat} {k : List Leaf} {a : Addr} {v : V} (hx : xs[i]? = some (k, a, v)) : ∃ rs ∈ rss, k = rs.map leafR ∧ v = rdV (gateR tb rs) := by
  have z : (xs.map (fun x => (x.1, x.2.2)))[i]? = some (k, v) := by
    rw [List.getElem?_map, hx]
    rfl
  rw [h, List.getElem?_map] at z
  obtain ⟨rs, hr, e⟩ := Option.map_eq_some_iff.mp z
  injection e with e1 e2
  exact ⟨rs, List.mem_of_getElem? hr, e1.symm, e2.symm⟩
theorem Told.snoc {tb : List Bool} {rss : List (List (Option Bool))} {xs : List Ent} (h : Told tb rss xs) (rs : List (Option Bool)) (a : Addr) : Told tb (rss ++ [rs]) (xs ++ [(rs.map leafR, a, rdV (gateR tb rs))]) := by
  unfold Told
  rw [List.map_append, List.map_append, h]
  rfl
/-! ### types -/
section
variable {K : PySem.W.Frag} {H : Hp}
theorem ty_non : Ty1 K H .non "NoneType" := ⟨.base .non, by decide⟩
theorem ty_int (i : Int) : Ty1 K H (.int i) "int" := ⟨.base (.int i), by decide⟩
theorem ty_bl (b : Bool) : Ty1 K H (.bl b) "bool" := ⟨.base (.bl b), by decide⟩
theorem ty_str (z : Str) : Ty1 K H (.str z) "str" := ⟨.base (.str z), by decide⟩
theorem ty_tup {a : Addr} {xs : List V} (h : H a = some (.tup xs)) : Ty1 K H (.ref a) "tuple" := ⟨.base (.tup h), by decide⟩
theorem ty_lst {a : Addr} {xs : List V} (h : H a = some (.lst xs)) : Ty1 K H (.ref a) "list" := ⟨.base (.lst h), by decide⟩
theorem ty_dT {a : Addr} {xs : List (List L2.Key × V)} (h : H a = some (.dT xs)) : Ty1 K H (.ref a) "dict" := ⟨.base (.dT h), by decide⟩
theorem ty_rd (r : Option Bool) : ∃ t, Ty1 K H (rdV r) t := by
  cases r with
  | none => exact ⟨_, ty_non⟩
  | some b => exact ⟨_, ty_int _⟩
theorem bel_bitV (b : Bool) : bel (bitV b) 2 = true := by cases b <;> decide
theorem rdB_rdV (r : Option Bool) : rdB (rdV r) = true := by
  cases r with
  | none => rfl
  | some b => cases b <;> decide
theorem sz_pow {k : Nat} (h : k ≤ 4) : sz ((2 ^ k : Nat) : Int) = some (k : Int) := by
  rcases (by omega : k = 0 ∨ k = 1 ∨ k = 2 ∨ k = 3 ∨ k = 4) with e | e | e | e | e <;> subst e <;> decide
theorem okT_tb {tb : List Bool} {k : Nat} (hk : k ≤ 4) (h : tb.length = 2 ^ k) : okT "tuple" (tb.map bitV) = true := by
  have hall : ((tb.map bitV).all fun y => bel y 2) = true := List.all_eq_true.mpr fun y hy => by
    obtain ⟨b, _, rfl⟩ := List.mem_map.mp hy
    exact bel_bitV b
  unfold okT
  rw [hall, List.length_map, h, sz_pow hk]
  rfl
theorem okR_rs {t : String} {rs : List (Option Bool)} {k : Nat} (ht : t = "list" ∨ t = "tuple") (hk : k ≤ 4) (h : rs.length = k) : okR t (rs.map rdV) (2 ^ k) = true := by
  have hall : (rs.map rdV).all rdB = true := List.all_eq_true.mpr fun y hy => by
    obtain ⟨b, _, rfl⟩ := List.mem_map.mp hy
    exact rdB_rdV b
  unfold okR
  rw [hall, List.length_map, h, sz_pow hk, decide_eq_true ht]
  simp
/-- what gate_reading does for a table and readings -/
theorem gate_ok {TT : List Addr} {CT CR a b : Addr} {tb : List Bool} {rs : List (Option Bool)} {t : String} {J : It} {Q : VK} {E : XK} (hA : H a = some (.tup (tb.map bitV))) (hB : Ty1 K H (.ref b) t) (ht : t = "list" ∨ t = "tuple") (hJ : SeqJ K H b (rs.map rdV) J) (hl : rs.length ≤ 4) (htb : tb.length = 2 ^ rs.length) (hT : TabsG TT H)
    (q : ∀ H', Ex TT H H' → Q (rdV (gateR tb rs)) H') : spGate K TT CT CR [.ref a, .ref b] H Q E := by
  have o1 := okT_tb hl htb
  have o2 : okR t (rs.map rdV) ((tb.map bitV).length) = true := by
    rw [List.length_map, htb]
    exact okR_rs ht hl rfl
  refine ⟨.ref a, .ref b, "tuple", t, tb.map bitV, rs.map rdV, rfl, ty_tup hA, fun _ => ⟨a, rfl, .inl (.inl hA)⟩, fun _ y hy => ?_, hB, fun _ => ⟨b, J, rfl, hJ, fun y hy => ?_⟩, hT, fun z => ?_, fun _ z => ?_, fun _ _ tb' rs' H' e1 e2 x => ?_⟩
  · obtain ⟨c, _, rfl⟩ := List.mem_map.mp hy
    exact ⟨_, ty_int _⟩
  · obtain ⟨c, _, rfl⟩ := List.mem_map.mp hy
    exact ty_rd c
  · rw [o1] at z
    cases z
  · rw [o2] at z
    cases z
  · have e1' := bitV_inj e1
    have e2' : rs = rs' := leaves_inj (by
      have z : (rs.map leafR).map leafV = (rs'.map leafR).map leafV := by
        rw [leaves_rd, leaves_rd]
        exact e2
      exact (List.map_inj_right fun _ _ h => leafV_inj h).mp z)
    rw [← e1', ← e2']
    exact q H' x
end
end K02

set_option Elab.async false
set_option linter.all false
set_option maxRecDepth 100000
set_option maxHeartbeats 1000000
/-! What is no table, what are no readings. -/
namespace K02
open PySem PySem.Spec L2
open PyProof.Rows GenW GxR EZ TK
open LamX (ExtN)
def atomV : V → Bool
  | .non => true
  | .bl _ => true
  | .int _ => true
  | .str _ => true
  | _ => false
section
variable {K : PySem.W.Frag} {H H' : Hp}
theorem atom_ty {y : V} (h : atomV y = true) : ∃ t, Ty1 K H y t := by
  cases y with
  | non => exact ⟨_, ty_non⟩
  | bl b => exact ⟨_, ty_bl b⟩
  | int i => exact ⟨_, ty_int i⟩
  | str z => exact ⟨_, ty_str z⟩
  | _ => cases h
/-- x is no table -/
def OddOk (K : PySem.W.Frag) (H : Hp) (x : V) : Prop := ∃ t xs, Ty1 K H x t ∧ TupV K H x t xs ∧ (t = "tuple" → ∀ y ∈ xs, atomV y = true) ∧ okT t xs = false
theorem OddOk.ext {x : V} (h : OddOk K H x) (e : ExtN H H') : OddOk K H' x := by
  obtain ⟨t, xs, a, b, c, d⟩ := h
  exact ⟨t, xs, a.ext e, b.ext e, c, d⟩
theorem odd_of {x : V} {t : String} (h : Ty1 K H x t) (n : t ≠ "tuple") : OddOk K H x := ⟨t, [], h, fun z => absurd z n, fun z => absurd z n, by
  unfold okT
  rw [decide_eq_false n]
  rfl⟩
theorem odd_tup {a : Addr} {xs : List V} (h : H a = some (.tup xs)) (ha : xs.all atomV = true) (o : okT "tuple" xs = false) : OddOk K H (.ref a) := ⟨"tuple", xs, ty_tup h, fun _ => ⟨a, rfl, .inl (.inl h)⟩, fun _ y hy => List.all_eq_true.mp ha y hy, o⟩
/-- x are no readings for 2 ^ n places -/
def WrongOk (K : PySem.W.Frag) (H : Hp) (n : Nat) (x : V) : Prop := ∃ t xs, Ty1 K H x t ∧ RowV K H x t xs ∧ okR t xs (2 ^ n) = false
theorem WrongOk.ext {x : V} {n : Nat} (h : WrongOk K H n x) (e : ExtN H H') : WrongOk K H' n x := by
  obtain ⟨t, xs, a, b, c⟩ := h
  exact ⟨t, xs, a.ext e, b.ext e, c⟩
theorem wrong_of {x : V} {t : String} {n : Nat} (h : Ty1 K H x t) (n1 : ¬ (t = "list" ∨ t = "tuple")) : WrongOk K H n x := ⟨t, [], h, fun z => absurd z n1, by
  unfold okR
  rw [decide_eq_false n1]
  rfl⟩
theorem wrong_tup {a : Addr} {xs : List V} {n : Nat} (hn : n ≤ 4) (h : H a = some (.tup xs)) (ha : xs.all atomV = true) (o : xs.length ≠ n ∨ xs.all rdB = false) : WrongOk K H n (.ref a) := by
  refine ⟨"tuple", xs, ty_tup h, fun _ => ⟨a, Itt K a, rfl, .inr ⟨rfl, .inl (.inl h)⟩, fun y hy => atom_ty (List.all_eq_true.mp ha y hy)⟩, ?_⟩
  unfold okR
  rw [sz_pow hn]
  rcases o with o | o
  · rw [decide_eq_false (fun z => o (by injection z with z; omega) : ¬ some ((xs.length : Nat) : Int) = some (n : Int))]
    simp
  · rw [o]
    simp
theorem rep_all {α : Type} (f : α → Bool) (x : α) (n : Nat) (h : f x = true) : (List.replicate n x).all f = true := List.all_eq_true.mpr fun y hy => by
  rw [List.eq_of_mem_replicate hy]
  exact h
theorem rep_bad {α : Type} (f : α → Bool) (x : α) {n : Nat} (h : f x = false) (hn : 0 < n) : (List.replicate n x).all f = false := by
  cases n with
  | zero => cases hn
  | succ n =>
    rw [List.replicate_succ, List.all_cons, h]
    rfl
theorem repA_to {x : Addr} {v : V} {k : Int} {Q : VK} (hx : H x = some (.tup [v])) (h1 : 1 ≤ k) (h2 : k ≤ 1000) (q : ∀ p H', Same H H' → H' p = some (.tup (List.replicate k.toNat v)) → Q (.ref p) H') : TM.rRepA K (.ref x) (.int k) H Q := by
  refine ⟨x, k, [v], rfl, rfl, .inl (.inl hx), by simp, h1, h2, (by show 1 ≤ 1000; decide), fun z => ?_, fun _ p np => q p _ (same_new np) ?_⟩
  · refine q x H (fun _ _ e => e) ?_
    rw [z]
    exact hx
  · rw [upd_same, rep_one]
/-- gate_reading refuses the table -/
theorem gate_odd {TT : List Addr} {CT CR : Addr} {x y : V} {n : Nat} {Q : VK} {E : XK} (o : OddOk K H x) (w : WrongOk K H n y) (hT : TabsG TT H) (e : ∀ H', Ex TT H H' → E (.ref CT) none H') : spGate K TT CT CR [x, y] H Q E := by
  obtain ⟨t, xs, h1, h2, h3, h4⟩ := o
  obtain ⟨t2, xs2, g1, g2, g3⟩ := w
  refine ⟨x, y, t, t2, xs, xs2, rfl, h1, h2, fun z v hv => atom_ty (h3 z v hv), g1, g2, hT, fun _ => e, fun z => ?_, fun z => ?_⟩
  · rw [h4] at z
    cases z
  · rw [h4] at z
    cases z
/-- gate_reading refuses the readings -/
theorem gate_wrong {TT : List Addr} {CT CR a : Addr} {tb : List Bool} {y : V} {n : Nat} {Q : VK} {E : XK} (hA : H a = some (.tup (tb.map bitV))) (hn : n ≤ 4) (htb : tb.length = 2 ^ n) (w : WrongOk K H n y) (hT : TabsG TT H) (e : ∀ H', Ex TT H H' → E (.ref CR) none H') : spGate K TT CT CR [.ref a, y] H Q E := by
  obtain ⟨t2, xs2, g1, g2, g3⟩ := w
  have o1 := okT_tb hn htb
  have o2 : okR t2 xs2 (tb.map bitV).length = false := by
    rw [List.length_map, htb]
    exact g3
  refine ⟨.ref a, y, "tuple", t2, tb.map bitV, xs2, rfl, ty_tup hA, fun _ => ⟨a, rfl, .inl (.inl hA)⟩, fun _ v hv => ?_, g1, g2, hT, fun z => ?_, fun _ _ => e, fun _ z => ?_⟩
  · obtain ⟨c, _, rfl⟩ := List.mem_map.mp hv
    exact ⟨_, ty_int _⟩
  · rw [o1] at z
    cases z
  · rw [o2] at z
    cases z
end
end K02

set_option Elab.async false
set_option linter.all false
set_option maxRecDepth 100000
set_option maxHeartbeats 1000000
/-! The law. -/
namespace K02
open PySem PySem.Spec L2
open PyProof.Rows GenW GxR EZ TK CE LamX
abbrev sLaw : Stmt := top 29
abbrev nLaw : List Str := ["script", "state", "turn", "size", "table", "told", "readings", "due", "spot", "less", "odd", "wrong"]
theorem scLaw : FnScope nLaw ["script"] (defScope sLaw) := ⟨rfl, rfl, rfl, by decide +kernel, rfl, by decide +kernel, by decide +kernel⟩
/-- readings=.., table=.. as the def's two parameters -/
def kwG {α : Type} : List α → List α → List α
  | [], [a, b] => [b, a]
  | _, _ => []
/-- where the law's helpers stand -/
structure LawFs (P : Program) (w : World) (K : PySem.W.Frag) (mg : Str → Option Value) (base : Heap) (TT : List Addr) (CT CR CS : Addr) : Prop where
  begun : ∃ f fd, FnOk P w K mg base CX0 1 f fd ["script"] (spBegun K) ∧ PySem.W.keepIn K (.ref f) = true ∧ Binds K fd ["script"] [] ∧ mg "_law_begun" = some (.ref f)
  draw : ∃ f fd, FnOk P w K mg base CX0 1 f fd ["state", "size_here"] spDraw ∧ PySem.W.keepIn K (.ref f) = true ∧ Binds K fd ["state", "size_here"] [] ∧ mg "_law_draw" = some (.ref f)
  pick : ∃ f fd, FnOk P w K mg base CX0 2 f fd ["state", "several"] (spPick K) ∧ PySem.W.keepIn K (.ref f) = true ∧ Binds K fd ["state", "several"] [] ∧ mg "_law_pick" = some (.ref f)
  table : ∃ f fd, FnOk P w K mg base CX0 2 f fd ["state", "size"] spLTable ∧ PySem.W.keepIn K (.ref f) = true ∧ Binds K fd ["state", "size"] [] ∧ mg "_law_table" = some (.ref f)
  allR : ∃ f fd, FnOk P w K mg base CX0 1 f fd ["size"] spAllR ∧ PySem.W.keepIn K (.ref f) = true ∧ Binds K fd ["size"] [] ∧ mg "_law_all_readings" = some (.ref f)
  read : ∃ f fd, FnOk P w K mg base CX0 4 f fd ["table", "readings"] (spLR K) ∧ PySem.W.keepIn K (.ref f) = true ∧ Binds K fd ["table", "readings"] [] ∧ mg "_law_gate_reading" = some (.ref f)
  gate : ∃ f fd, FnOk P w K mg base (L2.CX P w) 6 f fd ["table", "readings"] (spGate K TT CT CR) ∧ PySem.W.keepIn K (.ref f) = true ∧ Binds K fd ["table", "readings"] [] ∧ mg "gate_reading" = some (.ref f) ∧ KBinds K fd ["table", "readings"] ["readings", "table"] kwG kwG
  caught : ∃ g fd, Fun K "_law_caught" "_law_caught" sCaught g fd ∧ PySem.W.keepIn K (.ref g) = true ∧ Binds K fd ["work"] [] ∧ mg "_law_caught" = some (.ref g)
  gS : mg "RestError" = some (.ref CS)
  gT : mg "BadTable" = some (.ref CT)
  gR : mg "BadReadings" = some (.ref CR)
  eT : PySem.W.exmOne K (.ref CT) (.ref CS) = some true
  eR : PySem.W.exmOne K (.ref CR) (.ref CS) = some true
  cT : ExcC K CT
  cR : ExcC K CR
  iT : PySem.W.kitOne K (.ref CT) (.ref CT) = some true
  iR : PySem.W.kitOne K (.ref CR) (.ref CR) = some true
theorem walk_tk {P : Program} {w : World} {d : Addr} {xs : List Ent} {es : Array DictEntry} {ep : Nat} : Walk (ItTk P w d xs es ep) xs.length (fun H => TkAt P w H d xs es ep) (fun i H x H' => H' = H ∧ ∃ k b v, xs[i]? = some (k, b, v) ∧ x = .ref b ∧ H b = some (.tup (k.map leafV))) :=
  ⟨fun _ _ hi q => ⟨q, hi⟩, fun _ q => ⟨q, Nat.le_refl _⟩, fun _ _ _ _ _ _ y => y⟩
theorem catA_to {K : PySem.W.Frag} {H : Hp} {x y : Addr} {xs ys : List V} {Q : VK} (hx : H x = some (.tup xs)) (hy : H y = some (.tup ys)) (hl : xs.length + ys.length ≤ 1000) (q : ∀ p H', Same H H' → H' p = some (.tup (xs ++ ys)) → Q (.ref p) H') : rCatA K (.ref x) (.ref y) H Q := by
  refine ⟨x, y, xs, ys, rfl, rfl, .inl (.inl hx), .inl (.inl hy), Nat.le_of_lt (small1000 hl), fun z => ?_, fun _ z => ?_, fun _ _ p np => q p _ (same_new np) upd_same⟩
  · refine q y H (fun _ _ e => e) ?_
    rw [z]
    exact hy
  · refine q x H (fun _ _ e => e) ?_
    rw [z, List.append_nil]
    exact hx
theorem cut_take (rs : List (Option Bool)) {s : Nat} (h : s < rs.length) : cutV (rs.map rdV) none (some (s : Int)) = (rs.take s).map rdV := by
  unfold cutV
  rw [HT.sIx_none, HT.sIx_nat, List.length_map, List.drop_zero, Nat.min_eq_left (Nat.le_of_lt h), Nat.sub_zero, List.map_take]
theorem cut_drop (rs : List (Option Bool)) {s : Nat} (h : s < rs.length) : cutV (rs.map rdV) (some ((s + 1 : Nat) : Int)) none = (rs.drop (s + 1)).map rdV := by
  unfold cutV
  rw [HT.sIx_none, HT.sIx_nat, List.length_map, Nat.min_eq_left h, List.take_of_length_le (by rw [List.length_drop, List.length_map]; omega), List.map_drop]
/-- the name of the law's lambdas -/
abbrev lawQ : Str := ("law" ++ ".<locals>.") ++ "<lambda>"
/-- the heap without what the draws write -/
def hid (st lg : Addr) (H : Hp) : Hp := fun b => if b = st ∨ b = lg then none else H b
theorem hid_at {st lg b : Addr} {H : Hp} (n1 : b ≠ st) (n2 : b ≠ lg) : hid st lg H b = H b := by
  unfold hid
  rw [if_neg (by rintro (z | z); exact n1 z; exact n2 z)]
theorem hid_tup {st lg cl b : Addr} {H : Hp} {t : Nat} {xs : List V} (S : StOk H st lg cl t) (e : H b = some (.tup xs)) : hid st lg H b = some (.tup xs) := by
  obtain ⟨ls, cs, left, turn, S⟩ := S
  rw [hid_at (fun z => by rw [z, S.d] at e; cases e) (fun z => by rw [z, S.l] at e; cases e)]
  exact e
theorem hid_ext {st lg : Addr} {H H' : Hp} (U : But st lg H H') : ExtN (hid st lg H) H' := fun b o e _ => by
  unfold hid at e
  by_cases h : b = st ∨ b = lg
  · rw [if_pos h] at e
    cases e
  · rw [if_neg h] at e
    exact U b o e (fun z => h (.inl z)) (fun z => h (.inr z))
/-- what stands between the turns -/
structure Between (st lg cl Pl : Addr) (TT : List Addr) (H : Hp) (t : Nat) : Prop where
  s : StOk H st lg cl t
  tt : TabsG TT H
  tl : LamX.TabS H Pl lawQ
theorem Between.same {st lg cl Pl : Addr} {TT : List Addr} {H H' : Hp} {t : Nat} (B : Between st lg cl Pl TT H t) (k : Same H H') : Between st lg cl Pl TT H' t := ⟨B.s.keep k, (Ex.same k).tabs B.tt, B.tl.ext k⟩
theorem codeO_st {c : Addr} {q : Str} : (∀ kvs, CodeO c q ≠ .dK kvs) ∧ ∀ xs, CodeO c q ≠ .lst xs := by
  unfold CodeO
  exact ⟨fun _ z => (by cases z), fun _ z => (by cases z)⟩
theorem But.keepO {st lg cl : Addr} {H H' : Hp} {t : Nat} {b : Addr} {o : HO} (U : But st lg H H') (S : StOk H st lg cl t) (e : H b = some o) (n1 : ∀ kvs, o ≠ .dK kvs) (n2 : ∀ xs, o ≠ .lst xs) : H' b = some o := by
  obtain ⟨ls, cs, left, turn, S⟩ := S
  refine U b o e (fun z => ?_) (fun z => ?_)
  · rw [z, S.d] at e
    exact n1 _ (Option.some.inj e).symm
  · rw [z, S.l] at e
    exact n2 _ (Option.some.inj e).symm
theorem Between.but {st lg cl Pl : Addr} {TT : List Addr} {H H' : Hp} {t t' : Nat} (B : Between st lg cl Pl TT H t) (S' : StOk H' st lg cl t') (U : But st lg H H') : Between st lg cl Pl TT H' t' := by
  refine ⟨S', fun P hP => ?_, ?_⟩
  · obtain ⟨ps, e, r⟩ := B.tt P hP
    exact ⟨ps, U.keepO B.s e (fun _ z => by cases z) (fun _ z => by cases z), r⟩
  · obtain ⟨ps, e, r, ce⟩ := B.tl
    refine ⟨ps, U.keepO B.s e (fun _ z => by cases z) (fun _ z => by cases z), r, fun pos cv h => ?_⟩
    obtain ⟨c, e1, e2⟩ := ce pos cv h
    exact ⟨c, e1, U.keepO B.s e2 codeO_st.1 codeO_st.2⟩
/-- all but d and the tables TT is as it was -/
def FR (d : Addr) (TT : List Addr) (H H' : Hp) : Prop := ∀ b o, b ≠ d → b ∉ TT → H b = some o → H' b = some o
theorem FR.refl (d : Addr) (TT : List Addr) (H : Hp) : FR d TT H H := fun _ _ _ _ e => e
theorem FR.same {d : Addr} {TT : List Addr} {H H1 H2 : Hp} (a : FR d TT H H1) (k : Same H1 H2) : FR d TT H H2 := fun b o n m e => k _ _ (a b o n m e)
theorem FR.ex {d : Addr} {TT : List Addr} {H H1 H2 : Hp} (a : FR d TT H H1) (k : Ex TT H1 H2) : FR d TT H H2 := fun b o n m e => k.keep _ _ m (a b o n m e)
theorem FR.upd {d : Addr} {TT : List Addr} {H H1 : Hp} {o : HO} (a : FR d TT H H1) : FR d TT H (upd H1 d o) := fun b x n m e => by
  rw [upd_ne n]
  exact a b x n m e
theorem notTT {TT : List Addr} {H : Hp} (t : TabsG TT H) {b : Addr} {o : HO} (e : H b = some o) (n : ∀ ps, o ≠ .tbl ps) : b ∉ TT := fun z => by
  obtain ⟨ps, g, _⟩ := t b z
  rw [g] at e
  exact n ps (Option.some.inj e).symm
theorem Between.fr {st lg cl Pl d : Addr} {TT : List Addr} {H0 H H' : Hp} {t : Nat} (B : Between st lg cl Pl TT H t) (hPT : Pl ∉ TT) (k0 : ∀ b o, H0 b = some o → H b = some o) (B0 : Between st lg cl Pl TT H0 t) (nd : H0 d = none) (F : FR d TT H H') (T : TabsG TT H') : Between st lg cl Pl TT H' t := by
  have key : ∀ b o, H0 b = some o → (∀ ps, o ≠ .tbl ps) → H' b = some o := fun b o e n => F b o (fun z => by rw [z, nd] at e; cases e) (notTT B0.tt e n) (k0 _ _ e)
  refine ⟨?_, T, ?_⟩
  · obtain ⟨ls, cs, left, turn, S⟩ := B0.s
    exact ⟨ls, cs, left, turn, key _ _ S.d (fun _ z => by cases z), key _ _ S.l (fun _ z => by cases z), key _ _ S.c (fun _ z => by cases z), S.lp, S.l0, S.t0, S.tt, S.ll, S.cc, S.ne⟩
  · obtain ⟨ps, e, r, ce⟩ := B0.tl
    refine ⟨ps, F Pl _ (fun z => by rw [z, nd] at e; cases e) hPT (k0 _ _ e), r, fun pos cv h => ?_⟩
    obtain ⟨c, e1, e2⟩ := ce pos cv h
    exact ⟨c, e1, key _ _ e2 (fun ps => codeO_ne ps)⟩
theorem Between.lam {st lg cl Pl ad : Addr} {TT : List Addr} {H H3 H4 : Hp} {t : Nat} {o : HO} (B : Between st lg cl Pl TT H t) (hPT : Pl ∉ TT) (bp : ButP Pl H H3) (T3 : LamX.TabS H3 Pl lawQ) :
    TabsG TT H3 ∧ ExtN H H3 ∧ (Ex TT H3 H4 → H4 ad = none → Between st lg cl Pl TT (upd H4 ad o) t ∧ ExtN H (upd H4 ad o)) := by
  obtain ⟨ps, e, r, ce⟩ := B.tl
  have x3 : ExtN H H3 := fun b o' h n => bp b o' (fun z => by rw [z, e] at h; exact n _ (Option.some.inj h).symm) h
  have t3 : TabsG TT H3 := fun P hP => by
    obtain ⟨ps', e', r'⟩ := B.tt P hP
    exact ⟨ps', bp P _ (fun z => hPT (z ▸ hP)) e', r'⟩
  refine ⟨t3, x3, fun x4 nad => ?_⟩
  have x5 : ExtN H (upd H4 ad o) := fun b o' h n => by
    have z := x4.extN t3 b o' (x3 b o' h n) n
    rw [upd_ne (ne_of_none z nad)]
    exact z
  refine ⟨⟨?_, fun P hP => ?_, ?_⟩, x5⟩
  · obtain ⟨ls, cs, left, turn, S⟩ := B.s
    exact ⟨ls, cs, left, turn, x5 _ _ S.d (fun _ z => by cases z), x5 _ _ S.l (fun _ z => by cases z), x5 _ _ S.c (fun _ z => by cases z), S.lp, S.l0, S.t0, S.tt, S.ll, S.cc, S.ne⟩
  · obtain ⟨ps', e', r'⟩ := x4.tabs t3 P hP
    exact ⟨ps', by rw [upd_ne (ne_of_none e' nad)]; exact e', r'⟩
  · obtain ⟨ps3, e3, r3, ce3⟩ := T3
    have k := x4.keep _ _ hPT e3
    refine ⟨ps3, by rw [upd_ne (ne_of_none k nad)]; exact k, r3, fun pos cv h => ?_⟩
    obtain ⟨c, e1, e2⟩ := ce3 pos cv h
    have z := x4.extN t3 c _ e2 (fun ps => codeO_ne ps)
    exact ⟨c, e1, by rw [upd_ne (ne_of_none z nad)]; exact z⟩
section
variable {P : Program} {w : World} {K : PySem.W.Frag} {mg : Str → Option Value} {base : Heap}
def spLaw (K : PySem.W.Frag) (TT : List Addr) (Pl : Addr) : Sp := fun vs H Q _ => ∃ (a : Addr) (ns : List Int), vs = [.ref a] ∧ SqL K H a (ns.map V.int) ∧ ns.length ≤ 63 ∧ TabsG TT H ∧ LamX.TabS H Pl lawQ ∧ Pl ∉ TT ∧ ∀ H', Q (.bl true) H'
theorem ok_law {TT : List Addr} {f c Pl CT CR CS : Addr} {fd : FuncData} (F : Fun K "law" "law" sLaw f fd) (hc : fd.code = .ref c) (TB : LamX.TabB base mg c Pl) (L : LawFs P w K mg base TT CT CR CS)
    (mr : mg "range" = none) (mmin : mg "min" = none) (mmax : mg "max" = none) (ml : mg "len" = none) (mrp : mg "repr" = none) (mli : mg "list" = none) (mi : mg "isinstance" = none) : FnOk P w K mg base CX0 9 f fd ["script"] (spLaw K TT Pl) := by
  obtain ⟨fB, fdB, GB, kB, bB, mB⟩ := L.begun
  obtain ⟨fD, fdD, GD, kD, bD, mD⟩ := L.draw
  obtain ⟨fK, fdK, GK, kK, bK, mK⟩ := L.pick
  obtain ⟨fT, fdT, GT, kT, bT, mT⟩ := L.table
  obtain ⟨fA, fdA, GA, kA, bA, mA⟩ := L.allR
  obtain ⟨fR, fdR, GR, kR, bR, mR⟩ := L.read
  obtain ⟨fG, fdG, GG, kG, bG, mG, hG⟩ := L.gate
  obtain ⟨fC, fdC, FC, kC, bC, mC⟩ := L.caught
  obtain ⟨oc, od, kV, doc, pm, an, cdv, ct, osl, rfl, lkC, hcdC⟩ := FC.ex
  refine okC F hc scLaw (fun vs H Q E h => ?_) (fun A outer s H vs Q E hr h => ?_)
  · obtain ⟨a, ns, rfl, _⟩ := h
    rfl
  · obtain ⟨a, ns, rfl, hS, hl, hT, hP, hPT, q⟩ := h
    have hu := hu_of hr
    refine ⟨_, pss_cons (ps_set (i := 1) scLaw.nd rfl (Or.inl rfl) (pe_call GB (hr.mono (by decide)) (by rfl) mB kB bB .nil pass0 (pa_cons (pv 0) pa_nil)))
      (pss_cons (ps_for PassesOwn.never rfl (pi_range1 (by rfl) mr (pa_cons (pe_op op_add pe_int (pe_callB (call_min2 rfl) (by rfl) mmin (by decide +kernel) (pa_cons (pe_callB call_len_seq (by rfl) ml PySem.boot_len (pa_cons (pv 0) pa_nil)) (pa_cons pe_int pa_nil)))) pa_nil)) (pg_name (i := 2) scLaw.nd rfl (Or.inl rfl))
        (pss_cons (ps_set (i := 3) scLaw.nd rfl (Or.inl rfl) (pe_call GD (hr.mono (by decide)) (by rfl) mD kD bD .nil pass0 (pa_cons (pv 1) (pa_cons pe_int pa_nil))))
        (pss_cons (ps_asg (pe_tup (pa_cons (pe_call GT (hr.mono (by decide)) (by rfl) mT kT bT .nil pass0 (pa_cons (pv 1) (pa_cons (pv 3) pa_nil))) (pa_cons pe_dnewT pa_nil))) (pg_tup rfl (pgs_cons (pg_name (i := 4) scLaw.nd rfl (Or.inr rfl)) (pgs_cons (pg_name (i := 5) scLaw.nd rfl (Or.inl rfl)) pgs_nil))))
        (pss_cons (ps_for PassesOwn.never rfl (pi_list (pe_call GA (hr.mono (by decide)) (by rfl) mA kA bA .nil pass0 (pa_cons (pv 3) pa_nil))) (pg_name (i := 6) scLaw.nd rfl (Or.inl rfl))
          (pss_cons (ps_set (i := 7) scLaw.nd rfl (Or.inl rfl) (pe_call GR (hr.mono (by decide)) (by rfl) mR kR bR .nil pass0 (pa_cons (pv 4) (pa_cons (pv 6) pa_nil))))
          (pss_cons (ps_tkput hu (pv 5) (pv 6) (pe_call GG (hr.mono (by decide)) (by rfl) mG kG bG .nil passNone (pa_cons (pv 4) (pa_cons (pv 6) pa_nil))))
          (pss_cons (ps_if (pt_cmpR op_ne (pe_callB call_reprR (by rfl) mrp (by decide +kernel) (pa_cons (pe_ix (ix_tk hu) (pv 5) (pv 6) (fun _ _ => rfl)) pa_nil)) (pe_callB call_reprR (by rfl) mrp (by decide +kernel) (pa_cons (pv 7) pa_nil)) (nomark _)) (pss_one (ps_ret pe_bl)) pss_nil)
          (pss_one (ps_if (pt_cmpR op_ne (pe_callB call_reprR (by rfl) mrp (by decide +kernel) (pa_cons (pe_callK0 GG (hr.mono (by decide)) (by rfl) mG kG hG passNone (pk_cons (pe_callTy call_list_of (by rfl) mli (by decide +kernel) (pa_cons (pv 6) pa_nil)) (pk_cons (pv 4) pk_nil))) pa_nil)) (pe_callB call_reprR (by rfl) mrp (by decide +kernel) (pa_cons (pv 7) pa_nil)) (nomark _)) (pss_one (ps_ret pe_bl)) pss_nil))))))
        (pss_cons (ps_for PassesOwn.never rfl (pi_tk (pv 5)) (pg_name (i := 6) scLaw.nd rfl (Or.inl rfl))
          (pss_one (ps_for PassesOwn.never rfl (pi_range1 (by rfl) mr (pa_cons (pv 3) pa_nil)) (pg_name (i := 8) scLaw.nd rfl (Or.inl rfl))
            (pss_cons (ps_set (i := 9) scLaw.nd rfl (Or.inl rfl) (pe_op op_catA (pe_op op_catA (pe_slice sl_tup (pv 6) po_none (po_some (pv 8))) (pe_tup (pa_cons pe_non pa_nil))) (pe_slice sl_tup (pv 6) (po_some (pe_op op_add (pv 8) pe_int)) po_none)))
            (pss_one (ps_if (pw_and (pt_cmpR op_notN (pe_ix (ix_tk hu) (pv 5) (pv 9) (fun _ _ => rfl)) pe_non (nomark _)) (pw_and1 (pt_cmpR op_ne (pe_ix (ix_tk hu) (pv 5) (pv 9) (fun _ _ => rfl)) (pe_ix (ix_tk hu) (pv 5) (pv 6) (fun _ _ => rfl)) (nomark _)))).pt (pss_one (ps_ret pe_bl)) pss_nil))))))
        (pss_cons (ps_set (i := 10) scLaw.nd rfl (Or.inr rfl) (pe_call GK (hr.mono (by decide)) (by rfl) mK kK bK .nil pass0 (pa_cons (pv 1) (pa_cons (pe_lst (pa_cons pe_non (pa_cons pe_int (pa_cons (pe_callTy call_list_of (by rfl) mli (by decide +kernel) (pa_cons (pv 4) pa_nil)) (pa_cons (pe_tup (pa_cons pe_int (pa_cons pe_int (pa_cons pe_int pa_nil)))) (pa_cons (pe_op op_repT (pe_tup (pa_cons pe_int pa_nil)) pe_int)
            (pa_cons (pe_tup (pa_cons pe_int pa_nil)) (pa_cons (pe_tup (pa_cons pe_bl (pa_cons pe_bl pa_nil))) (pa_cons (pe_tup (pa_cons pe_non (pa_cons pe_int pa_nil))) (pa_cons pe_str (pa_cons (pe_tup pa_nil) (pa_cons (pe_op op_repT (pe_tup (pa_cons pe_int pa_nil)) pe_int) pa_nil)))))))))))) pa_nil))))
        (pss_cons (ps_set (i := 11) scLaw.nd rfl (Or.inr rfl) (pe_call GK (hr.mono (by decide)) (by rfl) mK kK bK .nil pass0 (pa_cons (pv 1) (pa_cons (pe_lst (pa_cons pe_non (pa_cons pe_int (pa_cons (pe_op TM.op_repA (pe_tup (pa_cons pe_int pa_nil)) (pe_op op_add (pv 3) pe_int)) (pa_cons pe_dnewT (pa_cons pe_str
            (pa_cons (pe_op TM.op_repA (pe_tup (pa_cons pe_int pa_nil)) (pe_callB (call_max2 rfl) (by rfl) mmax (by decide +kernel) (pa_cons pe_int (pa_cons (pv 3) pa_nil)))) (pa_cons (pe_op TM.op_repA (pe_tup (pa_cons pe_bl pa_nil)) (pe_callB (call_max2 rfl) (by rfl) mmax (by decide +kernel) (pa_cons pe_int (pa_cons (pv 3) pa_nil))))
            (pa_cons (pe_op TM.op_repA (pe_tup (pa_cons pe_str pa_nil)) (pe_callB (call_max2 rfl) (by rfl) mmax (by decide +kernel) (pa_cons pe_int (pa_cons (pv 3) pa_nil)))) (pa_cons (pe_op op_repT (pe_tup (pa_cons pe_int pa_nil)) pe_int) pa_nil)))))))))) pa_nil))))
        (pss_cons (ps_if (pt_not (pt_val (pe_callB (call_isCau L.cT) (by rfl) mi (by decide +kernel) (pa_cons (pe_lamP (k := 6) (Ng := nCaught) (by rfl) mC kC lkC hcdC bC scCaught rfl (.inl rfl) (caught_gives L.gS) TB rfl hr (lamS_by (by show lamSB (defScope sLaw) _ = true; decide +kernel)) rfl (fun _ _ _ _ _ => rfl)
            (fun A outer s H E f c' hr2 => pe_call (E := E) GG hr2 (by rfl) mG kG bG .nil (L2.passes_call (L2.takes_of rfl rfl rfl rfl) (fun _ _ _ _ e => e)) (pa_cons (pv 10) (pa_cons (pv 11) pa_nil)))) (pa_cons (pe_glob (v := .ref CT) (by rfl) L.gT rfl) pa_nil))))) (pss_one (ps_ret pe_bl)) pss_nil)
        (pss_one (ps_if (pt_not (pt_val (pe_callB (call_isCau L.cR) (by rfl) mi (by decide +kernel) (pa_cons (pe_lamP (k := 6) (Ng := nCaught) (by rfl) mC kC lkC hcdC bC scCaught rfl (.inl rfl) (caught_gives L.gS) TB rfl hr (lamS_by (by show lamSB (defScope sLaw) _ = true; decide +kernel)) rfl (fun _ _ _ _ _ => rfl)
            (fun A outer s H E f c' hr2 => pe_call (E := E) GG hr2 (by rfl) mG kG bG .nil (L2.passes_call (L2.takes_of rfl rfl rfl rfl) (fun _ _ _ _ e => e)) (pa_cons (pv 4) (pa_cons (pv 11) pa_nil)))) (pa_cons (pe_glob (v := .ref CR) (by rfl) L.gR rfl) pa_nil))))) (pss_one (ps_ret pe_bl)) pss_nil)))))))))) (pss_one (ps_ret pe_bl))), ?_⟩
    refine ⟨_, rfl, a, ns, rfl, hS, hl, fun st lg cl H1 S1 k1 n1 n2 n3 => ?_⟩
    refine ⟨_, rfl, a, _, rfl, .inl (k1.seq hS), ⟨_, _, rfl, _, _, rfl, rfl, _, rfl, ?_, ?_, ?_⟩⟩
    · show -(2 ^ 62) ≤ (3 : Int) + (if (5 : Int) < ((ns.map V.int).length : Int) then 5 else ((ns.map V.int).length : Int))
      split <;> omega
    · show (3 : Int) + (if (5 : Int) < ((ns.map V.int).length : Int) then 5 else ((ns.map V.int).length : Int)) < 2 ^ 62
      split <;> omega
    have hM : (3 + (if (5 : Int) < ((ns.map V.int).length : Int) then 5 else ((ns.map V.int).length : Int))).toNat ≤ 8 := by
      split <;> omega
    generalize (3 + (if (5 : Int) < ((ns.map V.int).length : Int) then 5 else ((ns.map V.int).length : Int))).toNat = M at hM
    refine for_range (fun i σ H2 => ∃ y2 y3 y4 y5 y6 y7 y8 y9 y10 y11 : Option V, σ = [some (.ref a), some (.ref st), y2, y3, y4, y5, y6, y7, y8, y9, y10, y11] ∧ Between st lg cl Pl TT H2 (100 * i)) ⟨none, none, none, none, none, none, none, none, none, none, rfl, S1, (Ex.same k1).tabs hT, hP.ext k1⟩ (fun i σ H2 hi hh => ?turn) (fun σ H2 hh => ?done)
    case done =>
      obtain ⟨y2, y3, y4, y5, y6, y7, y8, y9, y10, y11, rfl, _⟩ := hh
      exact q H2
    case turn =>
      obtain ⟨y2, y3, y4, y5, y6, y7, y8, y9, y10, y11, rfl, B2⟩ := hh
      refine ⟨_, rfl, st, lg, cl, 100 * i, 5, rfl, by decide, by decide, by omega, B2.s, fun k H3 k0 k5 S3 U3 => ?_⟩
      obtain ⟨n, rfl⟩ : ∃ n : Nat, k = n := ⟨k.toNat, (Int.toNat_of_nonneg k0).symm⟩
      have hn : n ≤ 4 := by omega
      have B3 := B2.but S3 U3
      -- table, told = _law_table(state, size), {}
      refine ⟨_, rfl, _, rfl, st, lg, cl, 100 * i + 1, n, rfl, hn, by omega, S3, fun tb pT H4 htb eT nT S4 U4 d nd => ⟨(by show 2 ≤ sizeLine; decide), fun p np => ?_⟩⟩
      have B4 := B3.but S4 U4
      have s45 : Same H4 (upd (upd H4 d (.dT [])) p (.tup [.ref pT, .ref d])) := (same_new nd).trans (same_new np)
      have e5d : upd (upd H4 d (.dT [])) p (.tup [.ref pT, .ref d]) d = some (.dT []) := same_new np _ _ upd_same
      refine ⟨p, _, rfl, .inl (.inl upd_same), rfl, _, _, rfl, _, _, rfl, rfl, ?_⟩
      refine ⟨_, rfl, n, rfl, hn, fun l ys H6 s6 nl el R6 => ⟨l, rfl, ⟨ys, .inl (.inl el)⟩, ?_⟩⟩
      have s46 := s45.trans s6
      have e6d := s6 _ _ e5d
      have B6 := B4.same s46
      have eT6 := s46 _ _ eT
      have ndT : d ≠ pT := fun z => by
        rw [z, eT] at nd
        cases nd
      have ndl : d ≠ l := fun z => by
        rw [← z, e5d] at nl
        cases nl
      have rlen : ∀ {j : Nat} {rs : List (Option Bool)}, (allR n)[j]? = some rs → rs.length = n := fun h => allR_len n _ (List.mem_of_getElem? h)
      refine for_list (xs := ys) (fun j σ Hx => ∃ z6 z7 z8 z9 z10 z11 : Option V, σ = [some (.ref a), some (.ref st), some (.int (0 + (i : Int))), some (.int (n : Int)), some (.ref pT), some (.ref d), z6, z7, z8, z9, z10, z11] ∧ FR d TT H6 Hx ∧ TabsG TT Hx ∧ ∃ xs, Told tb ((allR n).take j) xs ∧ ((Hx d = some (.dT []) ∧ xs = []) ∨ ∃ es ep, TkAt P w Hx d xs es ep))
        ⟨y6, y7, y8, y9, y10, y11, rfl, FR.refl _ _ _, B6.tt, [], rfl, .inl ⟨e6d, rfl⟩⟩ (fun j σ Hx _ hh => ?lst) (fun j x σ Hx hx hh => ?read) (fun σ Hx hh => ?after)
      case lst =>
        obtain ⟨_, _, _, _, _, _, _, f, _⟩ := hh
        exact .inl (.inl (f l _ ndl.symm (notTT B6.tt el (fun _ z => by cases z)) el))
      case read =>
        obtain ⟨z6, z7, z8, z9, z10, z11, rfl, fx, tx, xs, tl, dx⟩ := hh
        obtain ⟨rs, hr, ⟨t, rfl, et⟩⟩ := pr_get R6 hx
        have hrl : rs.length = n := rlen hr
        have htd : t ≠ d := fun z => by
          rw [z, e6d] at et
          cases et
        have eTx := fx pT _ ndT.symm (notTT B6.tt eT6 (fun _ z => by cases z)) eT6
        have etx := fx t _ htd (notTT B6.tt et (fun _ z => by cases z)) et
        have htl : tb.length = 2 ^ rs.length := by rw [hrl, htb]
        have hl4 : rs.length ≤ 4 := by omega
        refine ⟨_, rfl, _, rfl, pT, t, tb, rs, rfl, .inl (.inl eTx), .inl (.inl etx), hl4, htl, fun H7 s7 => ?_⟩
        have tx7 := (Ex.same s7).tabs tx
        refine ⟨_, rfl, _, rfl, ?_⟩
        dsimp only [tNil]
        show spGate K TT CT CR [.ref pT, .ref t] H7 _ _
        refine gate_ok (J := Itt K t) (s7 _ _ eTx) (ty_tup (s7 _ _ etx)) (.inr rfl) (.inr ⟨rfl, .inl (.inl (s7 _ _ etx))⟩) hl4 htl tx7 fun H8 x8 => ?_
        have n8 := x8.extN tx7
        have tx8 := x8.tabs tx7
        have et8 := n8 _ _ (s7 _ _ etx) (fun _ z => by cases z)
        have eT8 := n8 _ _ (s7 _ _ eTx) (fun _ z => by cases z)
        have dx8 : (H8 d = some (.dT []) ∧ xs = []) ∨ ∃ es ep, TkAt P w H8 d xs es ep := by
          rcases dx with ⟨e, e'⟩ | ⟨es, ep, T⟩
          · exact .inl ⟨n8 _ _ (s7 _ _ e) (fun _ z => by cases z), e'⟩
          · exact .inr ⟨es, ep, T.mono fun b o e n => n8 _ _ (s7 _ _ e) n⟩
        have hnew : rs.map leafR ∉ xs.map (·.1) := by
          rw [tl.keys]
          intro z
          obtain ⟨rs', h1, h2⟩ := List.mem_map.mp z
          rw [leaves_inj h2] at h1
          obtain ⟨j', hj'⟩ := List.getElem?_of_mem h1
          have hlt : j' < j := by
            have z := (List.getElem?_eq_some_iff.mp hj').1
            rw [List.length_take] at z
            omega
          rw [List.getElem?_take_of_lt hlt] at hj'
          have nd' := allR_nodup n
          have z1 := (List.getElem?_eq_some_iff.mp hj').1
          have z2 := (List.getElem?_inj z1 nd').mp (hj'.trans hr.symm)
          omega
        have h81 : (allR n).length ≤ 81 := by
          rw [allR_size]
          exact pow3 hn
        refine ⟨_, rfl, _, rfl, d, t, xs, rs.map leafR, rfl, rfl, dx8, by rw [leaves_rd]; exact et8, hnew, by rw [tl.len, List.length_take]; omega, fun es ep T9 => ?_⟩
        have e9 : ∀ b o, b ≠ d → H8 b = some o → upd H8 d (TkO d es ep) b = some o := fun b o n e => by
          rw [upd_ne n]
          exact e
        have ddTT : d ∉ TT := by
          rcases dx with ⟨e, _⟩ | ⟨es, ep, T⟩
          · exact notTT tx e (fun _ z => by cases z)
          · exact notTT tx T.at_ (fun _ z => by unfold TkO at z; cases z)
        have tx9 : TabsG TT (upd H8 d (TkO d es ep)) := fun Q hQ => by
          obtain ⟨ps, e, r⟩ := tx8 Q hQ
          exact ⟨ps, e9 _ _ (fun z => ddTT (z ▸ hQ)) e, r⟩
        have same_ : ∀ z : Str, (!decide (V.str z = V.str z)) = false := fun z => by simp
        refine ⟨_, rfl, _, rfl, d, t, xs ++ [(rs.map leafR, t, rdV (gateR tb rs))], es, ep, rs.map leafR, t, rdV (gateR tb rs), rfl, rfl, T9, by rw [leaves_rd]; exact e9 _ _ htd et8, List.mem_append_right _ (List.mem_singleton.mpr rfl), gateR tb rs, rfl, _, rfl, gateR tb rs, rfl, rfl, _, rfl, ?_⟩
        rw [same_]
        refine iteF ⟨_, rfl, t, rs.map rdV, rfl, .inr (.inl (.inl (e9 _ _ htd et8))), fun L nL => ⟨_, rfl, ?_⟩⟩
        have s10 := same_new (o := .lst (rs.map rdV)) nL
        have tx10 := (Ex.same s10).tabs tx9
        have eL : upd (upd H8 d (TkO d es ep)) L (.lst (rs.map rdV)) L = some (.lst (rs.map rdV)) := upd_same
        dsimp only [tNil]
        show spGate K TT CT CR [.ref pT, .ref L] _ _ _
        refine gate_ok (J := Itl K L) (t := "list") (s10 _ _ (e9 _ _ ndT.symm eT8)) (ty_lst eL) (.inl rfl) (.inl ⟨rfl, .inl (.inl eL)⟩) hl4 htl tx10 fun H11 x11 => ?_
        refine ⟨gateR tb rs, rfl, _, rfl, gateR tb rs, rfl, rfl, _, rfl, ?_⟩
        rw [same_]
        refine iteF ⟨some (.ref t), some (rdV (gateR tb rs)), z8, z9, z10, z11, rfl, ((((fx.same s7).ex x8).upd).same s10).ex x11, x11.tabs tx10, _, ?_, .inr ⟨es, ep, T9.mono fun b o e n => (x11.extN tx10) _ _ (s10 _ _ e) n⟩⟩
        rw [take_snoc hr]
        exact tl.snoc rs t
      case after =>
        obtain ⟨z6, z7, z8, z9, z10, z11, rfl, fx, tx, xs, tl, dx⟩ := hh
        have hyl : ys.length = (allR n).length := Paired.length R6
        rw [hyl, List.take_length] at tl
        have hpos : 0 < xs.length := by
          rw [tl.len, allR_size]
          exact Nat.pow_pos (by decide)
        obtain ⟨es, ep, T⟩ : ∃ es ep, TkAt P w Hx d xs es ep := by
          rcases dx with ⟨_, e⟩ | h
          · rw [e] at hpos
            cases hpos
          · exact h
        have Bx := B6.fr hPT (fun b o e => s6 _ _ ((same_new np) _ _ ((same_new nd) _ _ e))) B4 nd fx tx
        have eTx := fx pT _ ndT.symm (notTT B6.tt eT6 (fun _ z => by cases z)) eT6
        -- for readings in told
        refine ⟨_, rfl, d, xs, es, ep, rfl, T, ?_⟩
        refine for_it walk_tk (fun j σ Hy => ∃ z6 z7 z8 z9 z10 z11 : Option V, σ = [some (.ref a), some (.ref st), some (.int (0 + (i : Int))), some (.int (n : Int)), some (.ref pT), some (.ref d), z6, z7, z8, z9, z10, z11] ∧ Same Hx Hy) ⟨z6, z7, z8, z9, z10, z11, rfl, fun _ _ e => e⟩
          (fun j σ Hy _ hh => T.mono fun b o e _ => hh.choose_spec.choose_spec.choose_spec.choose_spec.choose_spec.choose_spec.2 _ _ e) (fun j x σ Hy Hz hj hh hy => ?look) (fun σ Hy hh => ?picks)
        case look =>
          obtain ⟨z6, z7, z8, z9, z10, z11, rfl, sy⟩ := hh
          obtain ⟨rfl, k, b, v, hk, rfl, eb⟩ := hy
          obtain ⟨rs, hrs, rfl, rfl⟩ := tl.at_ hk
          rw [leaves_rd] at eb
          have hrl := allR_len n rs hrs
          refine ⟨_, rfl, n, rfl, by omega, by omega, ?_⟩
          rw [Int.toNat_natCast]
          refine for_range (fun s σ Hs => ∃ z7 z8 z9 z10 z11 : Option V, σ = [some (.ref a), some (.ref st), some (.int (0 + (i : Int))), some (.int (n : Int)), some (.ref pT), some (.ref d), some (.ref b), z7, z8, z9, z10, z11] ∧ Same Hz Hs) ⟨z7, z8, z9, z10, z11, rfl, fun _ _ e => e⟩ (fun s σ Hs hs hh => ?_) (fun σ Hs hh => ?_)
          · obtain ⟨z7, z8, z9, z10, z11, rfl, ss⟩ := hh
            have ebs := ss _ _ eb
            have hs' : s < rs.length := by omega
            have z0 : (0 + (s : Int)) = ((s : Nat) : Int) := by omega
            have hn1 : ¬ (HT.sIx (rs.map rdV).length 0 none = 0 ∧ HT.sIx (rs.map rdV).length (rs.map rdV).length (some (s : Int)) = (rs.map rdV).length) := fun z => by
              have z2 := z.2
              rw [HT.sIx_nat, List.length_map] at z2
              omega
            have hn2 : ¬ (HT.sIx (rs.map rdV).length 0 (some ((s + 1 : Nat) : Int)) = 0 ∧ HT.sIx (rs.map rdV).length (rs.map rdV).length none = (rs.map rdV).length) := fun z => by
              have z1 := z.1
              rw [HT.sIx_nat, List.length_map] at z1
              omega
            refine ⟨_, rfl, _, rfl, (s : Int), congrArg V.int z0, b, rs.map rdV, rfl, .inl (.inl ebs), hn1, fun p1 np1 => ⟨(by show 1 ≤ sizeLine; decide), fun p2 np2 => ?_⟩⟩
            rw [cut_take rs hs'] at np2 ⊢
            refine catA_to (xs := (rs.take s).map rdV) (ys := [.non]) (same_new np2 _ _ upd_same) upd_same (by rw [List.length_map, List.length_take]; show min s rs.length + 1 ≤ 1000; omega) fun p3 H3 s3 e3 => ?_
            have s03 : Same Hs H3 := ((same_new np1).trans (same_new np2)).trans s3
            refine ⟨_, rfl, _, rfl, _, _, rfl, rfl, ((s + 1 : Nat) : Int), ?_, b, rs.map rdV, rfl, .inl (.inl (s03 _ _ ebs)), hn2, fun p4 np4 => ?_⟩
            · exact congrArg V.int (by omega)
            rw [cut_drop rs hs']
            refine catA_to (xs := (rs.take s).map rdV ++ [.non]) (ys := (rs.drop (s + 1)).map rdV) (same_new np4 _ _ e3) upd_same (by rw [List.length_append, List.length_map, List.length_map, List.length_take, List.length_drop]; show min s rs.length + 1 + (rs.length - (s + 1)) ≤ 1000; omega) fun p5 H5 s5 e5 => ?_
            have s05 : Same Hz H5 := ss.trans (s03.trans ((same_new np4).trans s5))
            have e5' : H5 p5 = some (.tup ((lessR rs s).map rdV)) := by
              rw [e5]
              unfold lessR
              rw [List.map_append, List.map_append]
              rfl
            have hless : lessR rs s ∈ allR n := allR_all n _ (by rw [lessR_len hs', hrl])
            obtain ⟨al, hal⟩ := tl.get hless
            obtain ⟨ar, har⟩ := tl.get hrs
            have T5 : TkAt P w H5 d xs es ep := T.mono fun b o e _ => s05 _ _ (sy _ _ e)
            have k5 : H5 p5 = some (.tup (((lessR rs s).map leafR).map leafV)) := by rw [leaves_rd]; exact e5'
            have kb : H5 b = some (.tup ((rs.map leafR).map leafV)) := by rw [leaves_rd]; exact s05 _ _ eb
            refine ⟨_, rfl, _, rfl, d, p5, xs, es, ep, _, al, _, rfl, rfl, T5, k5, hal, rfl, _, rfl, ?_⟩
            cases hg : gateR tb (lessR rs s) with
            | none =>
              refine iteF (iteF ⟨z7, some (.int (0 + (s : Int))), some (.ref p5), z10, z11, rfl, s05⟩)
            | some bb =>
              rw [hg] at hal
              have hg2 := less_sure hs' hg
              rw [hg2] at har
              refine iteT ⟨_, rfl, _, rfl, d, p5, xs, es, ep, _, al, rdV (some bb), rfl, rfl, T5, k5, hal, _, rfl, _, rfl, d, b, xs, es, ep, _, ar, rdV (some bb), rfl, rfl, T5, kb, har, rfl, _, rfl, ?_⟩
              have e0 : (!decide (rdV (some bb) = rdV (some bb))) = false := by simp
              rw [e0]
              exact iteF ⟨z7, some (.int (0 + (s : Int))), some (.ref p5), z10, z11, rfl, s05⟩
          · obtain ⟨z7, z8, z9, z10, z11, rfl, ss⟩ := hh
            exact ⟨_, _, _, _, _, _, rfl, sy.trans ss⟩
        case picks =>
          obtain ⟨z6, z7, z8, z9, z10, z11, rfl, sy⟩ := hh
          have By := Bx.same sy
          have eTy := sy _ _ eTx
          refine ⟨_, rfl, _, rfl, pT, tb.map bitV, rfl, .inr (.inl (.inl eTy)), fun L1 n1 => ⟨(by show 3 ≤ sizeLine; decide), fun p2 n2 => ⟨(by show 1 ≤ sizeLine; decide), fun p3 n3 => ⟨p3, 5, [.int 0], rfl, rfl, .inl (.inl upd_same), by simp, by decide, by decide, by decide, fun p4 n4 => ?_⟩⟩⟩⟩
          refine ⟨(by show 1 ≤ sizeLine; decide), fun p5 n5 => ⟨(by show 2 ≤ sizeLine; decide), fun p6 n6 => ⟨(by show 2 ≤ sizeLine; decide), fun p7 n7 => ⟨Nat.zero_le _, fun p8 n8 => ⟨(by show 1 ≤ sizeLine; decide), fun p9 n9 => ⟨p9, 32, [.int 0], rfl, rfl, .inl (.inl upd_same), by simp, by decide, by decide, by decide, fun p10 n10 => ⟨(by show 11 ≤ sizeLine; decide), fun LL nLL => ?_⟩⟩⟩⟩⟩⟩⟩
          have k10 := (same_new n10).trans (same_new (o := .lst [.non, .int 5, .ref L1, .ref p2, .ref p4, .ref p5, .ref p6, .ref p7, .str "01", .ref p8, .ref p10]) nLL)
          have k9 := (same_new n9).trans k10
          have k8 := (same_new n8).trans k9
          have k7 := (same_new n7).trans k8
          have k6 := (same_new n6).trans k7
          have k5 := (same_new n5).trans k6
          have k4 := (same_new n4).trans k5
          have k3 := (same_new n3).trans k4
          have k2 := (same_new n2).trans k3
          have k1' := (same_new n1).trans k2
          have SL := By.s.keep k1'
          have kUp := (((((((((same_new n1).trans (same_new n2)).trans (same_new n3)).trans (same_new n4)).trans (same_new n5)).trans (same_new n6)).trans (same_new n7)).trans (same_new n8)).trans (same_new n9)).trans (same_new (o := .tup (List.replicate (Int.toNat 32) [V.int 0]).flatten) n10)
          have neL := But.st_new (o := .tup []) (By.s.keep kUp) nLL
          refine ⟨st, lg, cl, LL, 100 * i + 1 + 17, [.non, .int 5, .ref L1, .ref p2, .ref p4, .ref p5, .ref p6, .ref p7, .str "01", .ref p8, .ref p10], rfl, (by show 0 < 11; decide), (by show 11 ≤ 1000; decide), neL.1, neL.2, .inl (.inl upd_same), by omega, SL, fun odd H' mem S' U' => ?_⟩
          have BL := By.same k1'
          have B' := BL.but S' U'
          have kt0 : ∀ {b : Addr} {o : List V}, _ = some (HO.tup o) → H' b = some (.tup o) := fun {b o} e => U'.keepO SL e (fun _ z => by cases z) (fun _ z => by cases z)
          have kt : ∀ {b : Addr} {o : List V}, _ = some (HO.tup o) → hid st lg H' b = some (.tup o) := fun {b o} e => hid_tup S' (kt0 e)
          have neL1 := But.st_new (o := .tup []) By.s n1
          have odd_ : OddOk K (hid st lg H') odd := by
            simp only [List.mem_cons, List.not_mem_nil, or_false] at mem
            rcases mem with rfl | rfl | rfl | rfl | rfl | rfl | rfl | rfl | rfl | rfl | rfl
            · exact odd_of ty_non (by decide)
            · exact odd_of (ty_int _) (by decide)
            · exact odd_of (ty_lst (xs := tb.map bitV) (by rw [hid_at neL1.1 neL1.2]; exact U' L1 _ (k2 _ _ upd_same) neL1.1 neL1.2)) (by decide)
            · exact odd_tup (kt (k3 _ _ upd_same)) (by decide) (by decide)
            · exact odd_tup (kt (k5 _ _ upd_same)) (by decide) (by decide)
            · exact odd_tup (kt (k6 _ _ upd_same)) (by decide) (by decide)
            · exact odd_tup (kt (k7 _ _ upd_same)) (by decide) (by decide)
            · exact odd_tup (kt (k8 _ _ upd_same)) (by decide) (by decide)
            · exact odd_of (ty_str _) (by decide)
            · exact odd_tup (kt (k9 _ _ upd_same)) (by decide) (by decide)
            · exact odd_tup (kt ((same_new nLL) _ _ upd_same)) (by decide) (by decide)
          have eT' : H' pT = some (.tup (tb.map bitV)) := kt0 (k1' _ _ eTy)
          have eH : ExtN (hid st lg H') H' := hid_ext (But.refl st lg H')
          -- wrong = _law_pick(state, [..])
          have mx : (if (1 : Int) < (n : Int) then (n : Int) else 1) = ((max 1 n : Nat) : Int) := by
            split <;> omega
          have mx1 : 1 ≤ max 1 n := Nat.le_max_left _ _
          have mx4 : max 1 n ≤ 4 := by omega
          refine ⟨_, rfl, (by show 1 ≤ sizeLine; decide), fun q1 m1 => ⟨_, rfl, _, _, rfl, rfl, repA_to upd_same (by omega) (by omega) fun r1 G1 t1 e1 d2 m2 => ⟨(by show 1 ≤ sizeLine; decide), fun q2 m3 => ⟨_, rfl, _, _, rfl, ?_⟩⟩⟩⟩
          have hk : (if (n : Int) > 1 then (n : Int) else 1) = ((max 1 n : Nat) : Int) := mx
          show TM.rRepA K (.ref q2) (.int (if (n : Int) > 1 then (n : Int) else 1)) _ _
          rw [hk]
          refine repA_to upd_same (by omega) (by omega) fun r2 G2 t2 e2 => ⟨(by show 1 ≤ sizeLine; decide), fun q3 m4 => ⟨_, rfl, _, _, rfl, ?_⟩⟩
          show TM.rRepA K (.ref q3) (.int (if (n : Int) > 1 then (n : Int) else 1)) _ _
          rw [hk]
          refine repA_to upd_same (by omega) (by omega) fun r3 G3 t3 e3 => ⟨(by show 1 ≤ sizeLine; decide), fun q4 m5 => ⟨_, rfl, _, _, rfl, ?_⟩⟩
          show TM.rRepA K (.ref q4) (.int (if (n : Int) > 1 then (n : Int) else 1)) _ _
          rw [hk]
          refine repA_to upd_same (by omega) (by omega) fun r4 G4 t4 e4 => ⟨(by show 1 ≤ sizeLine; decide), fun q5 m6 => ⟨q5, 9, [.int 0], rfl, rfl, .inl (.inl upd_same), by simp, by decide, by decide, by decide, fun r5 m7 => ⟨(by show 9 ≤ sizeLine; decide), fun LL2 m8 => ?_⟩⟩⟩
          rw [Int.toNat_natCast] at e2 e3 e4
          have e1' : G1 r1 = some (.tup (List.replicate (n + 1) (V.int 0))) := by
            rw [e1]
            have z : ((n : Int) + 1).toNat = n + 1 := by omega
            rw [z]
          have j5 := (same_new m7).trans (same_new (o := .lst [.non, .int 5, .ref r1, .ref d2, .str "0", .ref r2, .ref r3, .ref r4, .ref r5]) m8)
          have j4 := (same_new m6).trans j5
          have j3 := (same_new m5).trans (t4.trans j4)
          have j2 := (same_new m4).trans (t3.trans j3)
          have j1 := (same_new m3).trans (t2.trans j2)
          have j0 := (same_new m2).trans j1
          have jH := (same_new m1).trans (t1.trans j0)
          have SL2 := S'.keep jH
          have neL2 := But.st_new (o := .tup []) (S'.keep ((same_new m1).trans (t1.trans ((same_new m2).trans ((same_new m3).trans (t2.trans ((same_new m4).trans (t3.trans ((same_new m5).trans (t4.trans ((same_new m6).trans (same_new (o := .tup (List.replicate (Int.toNat 9) [V.int 0]).flatten) m7)))))))))))) m8
          have ned := But.st_new (o := .tup []) (S'.keep ((same_new m1).trans t1)) m2
          refine ⟨st, lg, cl, LL2, 100 * i + 1 + 17 + 1, [.non, .int 5, .ref r1, .ref d2, .str "0", .ref r2, .ref r3, .ref r4, .ref r5], rfl, (by show 0 < 9; decide), (by show 9 ≤ 1000; decide), neL2.1, neL2.2, .inl (.inl upd_same), by omega, SL2, fun wrong H2 mem2 S2 U2 => ?_⟩
          have ku : ∀ {b : Addr} {o : List V}, _ = some (HO.tup o) → H2 b = some (.tup o) := fun {b o} e => U2.keepO SL2 e (fun _ z => by cases z) (fun _ z => by cases z)
          have wrong_ : WrongOk K H2 n wrong := by
            simp only [List.mem_cons, List.not_mem_nil, or_false] at mem2
            rcases mem2 with rfl | rfl | rfl | rfl | rfl | rfl | rfl | rfl | rfl
            · exact wrong_of ty_non (by decide)
            · exact wrong_of (ty_int _) (by decide)
            · exact wrong_tup hn (ku (j0 _ _ e1')) (rep_all _ _ _ rfl) (.inl (by rw [List.length_replicate]; omega))
            · exact wrong_of (ty_dT (xs := []) (U2 d2 _ (j1 _ _ upd_same) ned.1 ned.2)) (by decide)
            · exact wrong_of (ty_str _) (by decide)
            · exact wrong_tup hn (ku (j2 _ _ e2)) (rep_all _ _ _ rfl) (.inr (rep_bad _ _ (by decide) (by omega)))
            · exact wrong_tup hn (ku (j3 _ _ e3)) (rep_all _ _ _ rfl) (.inr (rep_bad _ _ (by decide) (by omega)))
            · exact wrong_tup hn (ku (j4 _ _ e4)) (rep_all _ _ _ rfl) (.inr (rep_bad _ _ (by decide) (by omega)))
            · exact wrong_tup hn (ku ((same_new m8) _ _ upd_same)) (by decide) (.inl (by show 9 ≠ n; omega))
          have B2' := (B'.same jH).but S2 U2
          have eT2 : H2 pT = some (.tup (tb.map bitV)) := ku (jH _ _ eT')
          have odd2 : OddOk K H2 odd := odd_.ext fun b o e ne => by
            unfold hid at e
            by_cases h : b = st ∨ b = lg
            · rw [if_pos h] at e
              cases e
            · rw [if_neg h] at e
              exact U2 b o (jH _ _ e) (fun z => h (.inl z)) (fun z => h (.inr z))
          refine ⟨B2'.tl, fun H3 bp T3 => ⟨_, rfl, _, rfl, ?_⟩⟩
          have T3' : LamX.TabS H3 Pl lawQ := T3
          have t3 := (B2'.lam (H4 := H3) (ad := 0) (o := .tup []) hPT bp T3').1
          have x3 := (B2'.lam (H4 := H3) (ad := 0) (o := .tup []) hPT bp T3').2.1
          dsimp only [tNil]
          show spGate K TT CT CR [odd, wrong] H3 _ _
          refine gate_odd (odd2.ext x3) (wrong_.ext x3) t3 fun H4 x4 => ⟨true, L.eT, fun _ ad nad => ?_, fun z => (nomatch z)⟩
          obtain ⟨B5, x5⟩ := (B2'.lam (ad := ad) (o := CauO (.ref CT) none ad) hPT bp T3').2.2 x4 nad
          refine ⟨ad, .ref CT, .ref CT, true, rfl, upd_same, fun u h => h, L.iT, _, rfl, iteF ?_⟩
          have eT5 := x5 _ _ eT2 (fun _ z => by cases z)
          have wrong5 := wrong_.ext x5
          refine ⟨B5.tl, fun H6 bp6 T6 => ⟨_, rfl, _, rfl, ?_⟩⟩
          have T6' : LamX.TabS H6 Pl lawQ := T6
          have t6 := (B5.lam (H4 := H6) (ad := 0) (o := .tup []) hPT bp6 T6').1
          have x6 := (B5.lam (H4 := H6) (ad := 0) (o := .tup []) hPT bp6 T6').2.1
          dsimp only [tNil]
          show spGate K TT CT CR [.ref pT, wrong] H6 _ _
          refine gate_wrong (x6 _ _ eT5 (fun _ z => by cases z)) hn htb (wrong5.ext x6) t6 fun H7 x7 => ⟨true, L.eR, fun _ ad2 nad2 => ?_, fun z => (nomatch z)⟩
          obtain ⟨B8, x8⟩ := (B5.lam (ad := ad2) (o := CauO (.ref CR) none ad2) hPT bp6 T6').2.2 x7 nad2
          refine ⟨ad2, .ref CR, .ref CR, true, rfl, upd_same, fun u h => h, L.iR, _, rfl, iteF ?_⟩
          exact ⟨_, _, _, _, _, _, _, _, _, _, rfl, B8.s.up (by omega), B8.tt, B8.tl⟩
end
end K02

set_option Elab.async false
set_option linter.all false
set_option maxRecDepth 100000
set_option maxHeartbeats 2000000
/-! The end: the tables of the defs that hold generator expressions or lambdas. -/
namespace EN
open PySem PySem.Spec PyProof.Rows L2 LamX
theorem walk_tabs {l : PySem.W.OpenLaw} {n k : Nat} {q : Program} {loose : List Str} {XP : (Str → Option Value) → Heap → Prop} {YP : World → Heap → Prop} {d : DefRec} {K : Params → PySem.W.Frag} {CX : World → CXT} {x : Str} (names : List Str)
    (hn : l.most = some n) (hn2 : n ≤ sizeLine) (hdf : d.params.defaults = []) (hr : Room k callerA) (hrec : (names.all fun y => (recsOf q).any fun e => e.name == y) = true) (hY : ∀ (w : World) (h : Heap), YP w h → (K w.params).In h)
    (F : ∀ (w : World) (mg : Str → Option Value) (fa : Addr) (h : Heap), YP w h → (K w.params).In h → h.Ns mainGlobals mg → mg d.name = some (.ref fa) → (∀ y ∈ names, ∀ f, mg y = some (.ref f) → OwnTab (K w.params) f h) → LawAtS l w (K w.params) (CX w) k n x mg fa h)
    (hCX : ∀ (w : World) (H : Hp) (s : Shared) (e : Value) (s' : Shared), CX w [] H s (fun _ _ _ => False) e s' → False) : PySem.W.WalkO q loose XP YP l.row.toRowW d [] (fun f vs => PySem.call f vs) := by
  refine Att.attach_callB hn hdf fun w s₀ s₁ mg mb fa o pm cd doc a vs ns G Y ho hd hcd hmg hobj hints hlen hbits hg => ?_
  have KX := hY w _ Y
  have own : ∀ y ∈ names, ∀ f, mg y = some (.ref f) → OwnTab (K w.params) f s₁.heap := by
    intro y hy f hf c P o1 fd1 e dd vs1 sl k1 k2 k3 k4 k5
    obtain ⟨dL, hm, hn1⟩ := List.any_eq_true.mp (List.all_eq_true.mp hrec y hy)
    obtain ⟨a', o', fd', c', P', h1, h2, h3, h4, _, ⟨oc, vc, e1, _, e3, e4⟩, hP⟩ := G.T.tab dL hm
    rw [beq_iff_eq.mp hn1, hf] at h1
    cases h1
    rw [KX _ _ k1] at h2
    cases h2
    rw [k2] at h3
    cases h3
    rw [k3] at h4
    cases h4
    rw [KX _ _ k4] at e1
    cases e1
    cases e3
    rw [k5] at e4
    cases e4
    exact hP
  obtain ⟨fd, cs, sp, hT, nT, C, hb, hsp, hF⟩ := F w mg fa _ Y KX G.T.g hmg own
  exact law_callTs KX G.T.g G.T.b G.T.builtins G.T.nolimit hg hT nT C G.T.bmain hobj hints (Nat.le_trans hlen hn2) hr hF hb (fun H hH hS => hsp H a ns hlen hbits hH hS) fun H e s' => hCX w H s₁ e s'
end EN
namespace K02
open PySem PySem.Spec L2
open PyProof.Rows GenW GxR
/-- the dict of the sizes, as it stands -/
abbrev sizesD (h1 h2 h3 h4 h5 : Int) (t1 t2 t3 t4 t5 u1 u2 u3 u4 u5 : Tok) : Array DictEntry := #[⟨h1, .int 1 t1, .int 0 u1⟩, ⟨h2, .int 2 t2, .int 1 u2⟩, ⟨h3, .int 4 t3, .int 2 u3⟩, ⟨h4, .int 8 t4, .int 3 u4⟩, ⟨h5, .int 16 t5, .int 4 u5⟩]
theorem sizes_ok {h1 h2 h3 h4 h5 : Int} {t1 t2 t3 t4 t5 u1 u2 u3 u4 u5 : Tok} : Sizes (sizesD h1 h2 h3 h4 h5 t1 t2 t3 t4 t5 u1 u2 u3 u4 u5) := by
  intro n
  unfold sz
  by_cases e1 : n = 1
  · rw [if_pos e1, e1]
    exact ⟨u1, rfl⟩
  rw [if_neg e1]
  by_cases e2 : n = 2
  · rw [if_pos e2, e2]
    exact ⟨u2, rfl⟩
  rw [if_neg e2]
  by_cases e3 : n = 4
  · rw [if_pos e3, e3]
    exact ⟨u3, rfl⟩
  rw [if_neg e3]
  by_cases e4 : n = 8
  · rw [if_pos e4, e4]
    exact ⟨u4, rfl⟩
  rw [if_neg e4]
  by_cases e5 : n = 16
  · rw [if_pos e5, e5]
    exact ⟨u5, rfl⟩
  rw [if_neg e5]
  show iGet _ n = none
  unfold iGet findBy
  simp [Value.isInt]
  omega
end K02

set_option Elab.async false
set_option linter.all false
set_option maxRecDepth 100000
set_option maxHeartbeats 4000000
/-! All facts put together. -/
namespace K02
open PySem PySem.Spec L2
open PyProof.Rows GenW GxR
theorem excC_of {K : PySem.W.Frag} {D : Addr} (a : PySem.W.findIn K (.ref D) "__getattribute__" = some (some (.builtin "BaseException.__getattribute__"))) (b : PySem.W.findIn K (.ref D) "__getattr__" = some none) (c : PySem.W.subIn K (.ref D) (.type "BaseException") = some true) (d : PySem.W.hasDictIn K D = true)
    (e : PySem.W.findIn K (.ref D) "__class__" = some (some (.builtin "object.__class__"))) (f : PySem.W.specialIn K (.builtin "object.__class__") "__get__" = some (some (.builtin "getset_descriptor.__get__"))) (g : PySem.W.takesIn K (.builtin "object.__class__") = some true) (h : PySem.W.mroIn K D (.type "object") = some true) : ExcC K D := ⟨a, b, c, d, e, f, g, h⟩
theorem lit_of {h1 h2 h3 h4 h5 : Int} {t1 t2 t3 t4 t5 u1 u2 u3 u4 u5 : Tok} (e1 : h1 = hashInt 1) (e2 : h2 = hashInt 2) (e3 : h3 = hashInt 4) (e4 : h4 = hashInt 8) (e5 : h5 = hashInt 16) : ∀ e ∈ (sizesD h1 h2 h3 h4 h5 t1 t2 t3 t4 t5 u1 u2 u3 u4 u5).toList, ∃ (i : Int) (t : Tok), e.key = .int i t ∧ e.hash = hashInt i := by
  intro e he
  simp only [List.mem_cons, List.not_mem_nil, or_false] at he
  rcases he with rfl | rfl | rfl | rfl | rfl
  · exact ⟨_, _, rfl, e1⟩
  · exact ⟨_, _, rfl, e2⟩
  · exact ⟨_, _, rfl, e3⟩
  · exact ⟨_, _, rfl, e4⟩
  · exact ⟨_, _, rfl, e5⟩
theorem kb_gate {K : PySem.W.Frag} {f : Addr} {fd : FuncData} (F : Fun K "gate_reading" "gate_reading" sGate f fd) : KBinds K fd ["table", "readings"] ["readings", "table"] kwG kwG := by
  obtain ⟨oc, od, kV, doc, pm, an, cdv, ct, osl, rfl, lk, hcd⟩ := F.ex
  refine ⟨fun s us ws _ hl => ?_, fun {vs us zs ws} r rz => ?_⟩
  · match us, ws, hl with
    | [], [a, b], _ => exact .of_eq rfl
  · rcases r with _ | ⟨_, _⟩
    · rcases rz with _ | ⟨r1, _ | ⟨r2, _ | ⟨r3, r4⟩⟩⟩
      · exact .nil
      · exact .nil
      · exact .cons r2 (.cons r1 .nil)
      · exact .nil
    · exact .nil
theorem all_mk {l : PySem.W.OpenLaw} {w : World} {K : PySem.W.Frag} {h : Heap} {mg : Str → Option Value} {fa : Addr} {names : List Str} (X : K.In h) (G : h.Ns mainGlobals mg) (hfa : mg "law" = some (.ref fa)) (own : ∀ y ∈ names, ∀ f, mg y = some (.ref f) → LamX.OwnTab K f h)
    (m0 : ("is_bits" : Str) ∈ names) (m1 : ("gate_reading" : Str) ∈ names) (m2 : ("law" : Str) ∈ names)
    {f0 f1 f2 f3 f4 f5 f6 f7 f8 f9 f10 f11 f12 f13 f14 f15 f16 f17 f18 f19 f20 c6 P6 c8 P8 c20 P20 CT CR CS dS : Addr} {oc0 kV0 dc0 pm0 ct0 cd0 oc1 kV1 dc1 pm1 ct1 cd1 oc2 kV2 dc2 pm2 ct2 cd2 oc3 kV3 dc3 pm3 ct3 cd3 oc4 kV4 dc4 pm4 ct4 cd4 oc5 kV5 dc5 pm5 ct5 cd5 oc6 kV6 dc6 pm6 ct6 oc7 kV7 dc7 pm7 ct7 cd7 oc8 kV8 dc8 pm8 ct8 oc9 kV9 dc9 pm9 ct9 cd9 oc10 kV10 dc10 pm10 ct10 cd10 oc11 kV11 dc11 pm11 ct11 cd11 oc12 kV12 dc12 pm12 ct12 cd12 oc13 kV13 dc13 pm13 ct13 cd13 oc14 kV14 dc14 pm14 ct14 cd14 oc15 kV15 dc15 pm15 ct15 cd15 oc16 kV16 dc16 pm16 ct16 cd16 oc17 kV17 dc17 pm17 ct17 cd17 oc18 kV18 dc18 pm18 ct18 cd18 oc19 kV19 dc19 pm19 ct19 cd19 oc20 kV20 dc20 pm20 ct20 ce6 ce8 ce20 : Value} {od0 an0 od1 an1 od2 an2 od3 an3 od4 an4 od5 an5 od6 an6 od7 an7 od8 an8 od9 an9 od10 an10 od11 an11 od12 an12 od13 an13 od14 an14 od15 an15 od16 an16 od17 an17 od18 an18 od19 an19 od20 an20 cdd6 cdd8 cdd20 : Option Addr} {sl0 sl1 sl2 sl3 sl4 sl5 sl6 sl7 sl8 sl9 sl10 sl11 sl12 sl13 sl14 sl15 sl16 sl17 sl18 sl19 sl20 csl6 csl8 csl20 : Array (Option Value)} {vs6 vs8 vs20 : Array Value} {nS : Nat} {h1 h2 h3 h4 h5 : Int} {t1 t2 t3 t4 t5 u1 u2 u3 u4 u5 : Tok}
    (a0 : PySem.W.nsIn K mainGlobals "is_number" = some (some (.ref f0))) (l0 : K.lookup f0 = some ⟨oc0, od0, .func (PySem.W.fnOf "is_number" "is_number" (defArgs sIsNumber) (defBody sIsNumber) (defScope sIsNumber) .none kV0 dc0 pm0 an0 cd0 ct0), sl0⟩) (c0' : PySem.W.codeIn K cd0 "is_number" = true) (k0 : PySem.W.keepIn K (.ref f0) = true)
    (a1 : PySem.W.nsIn K mainGlobals "is_below" = some (some (.ref f1))) (l1 : K.lookup f1 = some ⟨oc1, od1, .func (PySem.W.fnOf "is_below" "is_below" (defArgs sIsBelow) (defBody sIsBelow) (defScope sIsBelow) .none kV1 dc1 pm1 an1 cd1 ct1), sl1⟩) (c1' : PySem.W.codeIn K cd1 "is_below" = true) (k1 : PySem.W.keepIn K (.ref f1) = true)
    (a2 : PySem.W.nsIn K mainGlobals "is_bit" = some (some (.ref f2))) (l2 : K.lookup f2 = some ⟨oc2, od2, .func (PySem.W.fnOf "is_bit" "is_bit" (defArgs sIsBit) (defBody sIsBit) (defScope sIsBit) .none kV2 dc2 pm2 an2 cd2 ct2), sl2⟩) (c2' : PySem.W.codeIn K cd2 "is_bit" = true) (k2 : PySem.W.keepIn K (.ref f2) = true)
    (a3 : PySem.W.nsIn K mainGlobals "is_reading" = some (some (.ref f3))) (l3 : K.lookup f3 = some ⟨oc3, od3, .func (PySem.W.fnOf "is_reading" "is_reading" (defArgs sIsReading) (defBody sIsReading) (defScope sIsReading) .none kV3 dc3 pm3 an3 cd3 ct3), sl3⟩) (c3' : PySem.W.codeIn K cd3 "is_reading" = true) (k3 : PySem.W.keepIn K (.ref f3) = true)
    (a4 : PySem.W.nsIn K mainGlobals "is_row" = some (some (.ref f4))) (l4 : K.lookup f4 = some ⟨oc4, od4, .func (PySem.W.fnOf "is_row" "is_row" (defArgs sIsRow) (defBody sIsRow) (defScope sIsRow) .none kV4 dc4 pm4 an4 cd4 ct4), sl4⟩) (c4' : PySem.W.codeIn K cd4 "is_row" = true) (k4 : PySem.W.keepIn K (.ref f4) = true)
    (a5 : PySem.W.nsIn K mainGlobals "is_tuple_of" = some (some (.ref f5))) (l5 : K.lookup f5 = some ⟨oc5, od5, .func (PySem.W.fnOf "is_tuple_of" "is_tuple_of" (defArgs sIsTupleOf) (defBody sIsTupleOf) (defScope sIsTupleOf) .none kV5 dc5 pm5 an5 cd5 ct5), sl5⟩) (c5' : PySem.W.codeIn K cd5 "is_tuple_of" = true) (k5 : PySem.W.keepIn K (.ref f5) = true)
    (a6 : PySem.W.nsIn K mainGlobals "is_bits" = some (some (.ref f6))) (l6 : K.lookup f6 = some ⟨oc6, od6, .func (PySem.W.fnOf "is_bits" "is_bits" (defArgs sIsBits) (defBody sIsBits) (defScope sIsBits) .none kV6 dc6 pm6 an6 (.ref c6) ct6), sl6⟩) (c6' : PySem.W.codeIn K (.ref c6) "is_bits" = true) (k6 : PySem.W.keepIn K (.ref f6) = true)
    (x6 : K.lookup c6 = some ⟨ce6, cdd6, .fields vs6, csl6⟩) (p6 : vs6[11]? = some (.ref P6)) (n6 : K.lookup P6 = none) (o6 : PySem.W.codeHdIn K c6 P6 = true)
    (a7 : PySem.W.nsIn K mainGlobals "table_reading" = some (some (.ref f7))) (l7 : K.lookup f7 = some ⟨oc7, od7, .func (PySem.W.fnOf "table_reading" "table_reading" (defArgs sTable) (defBody sTable) (defScope sTable) .none kV7 dc7 pm7 an7 cd7 ct7), sl7⟩) (c7' : PySem.W.codeIn K cd7 "table_reading" = true) (k7 : PySem.W.keepIn K (.ref f7) = true)
    (a8 : PySem.W.nsIn K mainGlobals "gate_reading" = some (some (.ref f8))) (l8 : K.lookup f8 = some ⟨oc8, od8, .func (PySem.W.fnOf "gate_reading" "gate_reading" (defArgs sGate) (defBody sGate) (defScope sGate) .none kV8 dc8 pm8 an8 (.ref c8) ct8), sl8⟩) (c8' : PySem.W.codeIn K (.ref c8) "gate_reading" = true) (k8 : PySem.W.keepIn K (.ref f8) = true)
    (x8 : K.lookup c8 = some ⟨ce8, cdd8, .fields vs8, csl8⟩) (p8 : vs8[11]? = some (.ref P8)) (n8 : K.lookup P8 = none) (o8 : PySem.W.codeHdIn K c8 P8 = true)
    (a9 : PySem.W.nsIn K mainGlobals "_law_begun" = some (some (.ref f9))) (l9 : K.lookup f9 = some ⟨oc9, od9, .func (PySem.W.fnOf "_law_begun" "_law_begun" (defArgs sBegun) (defBody sBegun) (defScope sBegun) .none kV9 dc9 pm9 an9 cd9 ct9), sl9⟩) (c9' : PySem.W.codeIn K cd9 "_law_begun" = true) (k9 : PySem.W.keepIn K (.ref f9) = true)
    (a10 : PySem.W.nsIn K mainGlobals "_law_draw" = some (some (.ref f10))) (l10 : K.lookup f10 = some ⟨oc10, od10, .func (PySem.W.fnOf "_law_draw" "_law_draw" (defArgs sDraw) (defBody sDraw) (defScope sDraw) .none kV10 dc10 pm10 an10 cd10 ct10), sl10⟩) (c10' : PySem.W.codeIn K cd10 "_law_draw" = true) (k10 : PySem.W.keepIn K (.ref f10) = true)
    (a11 : PySem.W.nsIn K mainGlobals "_law_pick" = some (some (.ref f11))) (l11 : K.lookup f11 = some ⟨oc11, od11, .func (PySem.W.fnOf "_law_pick" "_law_pick" (defArgs sPick) (defBody sPick) (defScope sPick) .none kV11 dc11 pm11 an11 cd11 ct11), sl11⟩) (c11' : PySem.W.codeIn K cd11 "_law_pick" = true) (k11 : PySem.W.keepIn K (.ref f11) = true)
    (a12 : PySem.W.nsIn K mainGlobals "_law_caught" = some (some (.ref f12))) (l12 : K.lookup f12 = some ⟨oc12, od12, .func (PySem.W.fnOf "_law_caught" "_law_caught" (defArgs sCaught) (defBody sCaught) (defScope sCaught) .none kV12 dc12 pm12 an12 cd12 ct12), sl12⟩) (c12' : PySem.W.codeIn K cd12 "_law_caught" = true) (k12 : PySem.W.keepIn K (.ref f12) = true)
    (a13 : PySem.W.nsIn K mainGlobals "_law_power" = some (some (.ref f13))) (l13 : K.lookup f13 = some ⟨oc13, od13, .func (PySem.W.fnOf "_law_power" "_law_power" (defArgs sPower) (defBody sPower) (defScope sPower) .none kV13 dc13 pm13 an13 cd13 ct13), sl13⟩) (c13' : PySem.W.codeIn K cd13 "_law_power" = true) (k13 : PySem.W.keepIn K (.ref f13) = true)
    (a14 : PySem.W.nsIn K mainGlobals "_law_bits_of" = some (some (.ref f14))) (l14 : K.lookup f14 = some ⟨oc14, od14, .func (PySem.W.fnOf "_law_bits_of" "_law_bits_of" (defArgs sBitsOf) (defBody sBitsOf) (defScope sBitsOf) .none kV14 dc14 pm14 an14 cd14 ct14), sl14⟩) (c14' : PySem.W.codeIn K cd14 "_law_bits_of" = true) (k14 : PySem.W.keepIn K (.ref f14) = true)
    (a15 : PySem.W.nsIn K mainGlobals "_law_all_bits" = some (some (.ref f15))) (l15 : K.lookup f15 = some ⟨oc15, od15, .func (PySem.W.fnOf "_law_all_bits" "_law_all_bits" (defArgs sAllBits) (defBody sAllBits) (defScope sAllBits) .none kV15 dc15 pm15 an15 cd15 ct15), sl15⟩) (c15' : PySem.W.codeIn K cd15 "_law_all_bits" = true) (k15 : PySem.W.keepIn K (.ref f15) = true)
    (a16 : PySem.W.nsIn K mainGlobals "_law_gate_bit" = some (some (.ref f16))) (l16 : K.lookup f16 = some ⟨oc16, od16, .func (PySem.W.fnOf "_law_gate_bit" "_law_gate_bit" (defArgs sGateBit) (defBody sGateBit) (defScope sGateBit) .none kV16 dc16 pm16 an16 cd16 ct16), sl16⟩) (c16' : PySem.W.codeIn K cd16 "_law_gate_bit" = true) (k16 : PySem.W.keepIn K (.ref f16) = true)
    (a17 : PySem.W.nsIn K mainGlobals "_law_gate_reading" = some (some (.ref f17))) (l17 : K.lookup f17 = some ⟨oc17, od17, .func (PySem.W.fnOf "_law_gate_reading" "_law_gate_reading" (defArgs sLawReading) (defBody sLawReading) (defScope sLawReading) .none kV17 dc17 pm17 an17 cd17 ct17), sl17⟩) (c17' : PySem.W.codeIn K cd17 "_law_gate_reading" = true) (k17 : PySem.W.keepIn K (.ref f17) = true)
    (a18 : PySem.W.nsIn K mainGlobals "_law_table" = some (some (.ref f18))) (l18 : K.lookup f18 = some ⟨oc18, od18, .func (PySem.W.fnOf "_law_table" "_law_table" (defArgs sLTable) (defBody sLTable) (defScope sLTable) .none kV18 dc18 pm18 an18 cd18 ct18), sl18⟩) (c18' : PySem.W.codeIn K cd18 "_law_table" = true) (k18 : PySem.W.keepIn K (.ref f18) = true)
    (a19 : PySem.W.nsIn K mainGlobals "_law_all_readings" = some (some (.ref f19))) (l19 : K.lookup f19 = some ⟨oc19, od19, .func (PySem.W.fnOf "_law_all_readings" "_law_all_readings" (defArgs sAllR) (defBody sAllR) (defScope sAllR) .none kV19 dc19 pm19 an19 cd19 ct19), sl19⟩) (c19' : PySem.W.codeIn K cd19 "_law_all_readings" = true) (k19 : PySem.W.keepIn K (.ref f19) = true)
    (a20 : PySem.W.nsIn K mainGlobals "law" = some (some (.ref f20))) (l20 : K.lookup f20 = some ⟨oc20, od20, .func (PySem.W.fnOf "law" "law" (defArgs sLaw) (defBody sLaw) (defScope sLaw) .none kV20 dc20 pm20 an20 (.ref c20) ct20), sl20⟩) (c20' : PySem.W.codeIn K (.ref c20) "law" = true) (k20 : PySem.W.keepIn K (.ref f20) = true)
    (x20 : K.lookup c20 = some ⟨ce20, cdd20, .fields vs20, csl20⟩) (p20 : vs20[11]? = some (.ref P20)) (n20 : K.lookup P20 = none) (o20 : PySem.W.codeHdIn K c20 P20 = true)
    (pd : P20 ∉ [P8, P6])
    (z_int : PySem.W.nsIn K mainGlobals "int" = some none)
    (z_len : PySem.W.nsIn K mainGlobals "len" = some none)
    (z_abs : PySem.W.nsIn K mainGlobals "abs" = some none)
    (z_all : PySem.W.nsIn K mainGlobals "all" = some none)
    (z_enumerate : PySem.W.nsIn K mainGlobals "enumerate" = some none)
    (z_isinstance : PySem.W.nsIn K mainGlobals "isinstance" = some none)
    (z_list : PySem.W.nsIn K mainGlobals "list" = some none)
    (z_tuple : PySem.W.nsIn K mainGlobals "tuple" = some none)
    (z_bool : PySem.W.nsIn K mainGlobals "bool" = some none)
    (z_range : PySem.W.nsIn K mainGlobals "range" = some none)
    (z_min : PySem.W.nsIn K mainGlobals "min" = some none)
    (z_max : PySem.W.nsIn K mainGlobals "max" = some none)
    (z_sum : PySem.W.nsIn K mainGlobals "sum" = some none)
    (z_sorted : PySem.W.nsIn K mainGlobals "sorted" = some none)
    (z_zip : PySem.W.nsIn K mainGlobals "zip" = some none)
    (z_repr : PySem.W.nsIn K mainGlobals "repr" = some none)
    (aD : PySem.W.nsIn K mainGlobals "TABLE_SIZES" = some (some (.ref dS))) (xD : K.lookup dS = some ⟨.type "dict", none, .dict (sizesD h1 h2 h3 h4 h5 t1 t2 t3 t4 t5 u1 u2 u3 u4 u5) nS, #[]⟩) (g1 : h1 = hashInt 1) (g2 : h2 = hashInt 2) (g3 : h3 = hashInt 4) (g4 : h4 = hashInt 8) (g5 : h5 = hashInt 16) (lD : (dS == sysModules) = false)
    (aS : PySem.W.nsIn K mainGlobals "RestError" = some (some (.ref CS)))
    (aCT : PySem.W.nsIn K mainGlobals "BadTable" = some (some (.ref CT))) (xCT : PySem.W.excIn K CT [.type "ValueError", .type "Exception", .type "BaseException", .type "object"] "ValueError.__new__" = true) (kCT : PySem.W.keepIn K (.ref CT) = true) (bCT : PySem.W.subIn K (.ref CT) (.type "BaseException") = some true) (tCT : PySem.W.typeIn K (.ref CT) = some (.type "type"))
    (eCT : PySem.W.exmOne K (.ref CT) (.ref CS) = some true) (iCT : PySem.W.kitOne K (.ref CT) (.ref CT) = some true) (qCT1 : PySem.W.findIn K (.ref CT) "__getattribute__" = some (some (.builtin "BaseException.__getattribute__"))) (qCT2 : PySem.W.findIn K (.ref CT) "__getattr__" = some none) (qCT3 : PySem.W.hasDictIn K CT = true)
    (qCT4 : PySem.W.findIn K (.ref CT) "__class__" = some (some (.builtin "object.__class__"))) (qCT5 : PySem.W.mroIn K CT (.type "object") = some true)
    (aCR : PySem.W.nsIn K mainGlobals "BadReadings" = some (some (.ref CR))) (xCR : PySem.W.excIn K CR [.type "ValueError", .type "Exception", .type "BaseException", .type "object"] "ValueError.__new__" = true) (kCR : PySem.W.keepIn K (.ref CR) = true) (bCR : PySem.W.subIn K (.ref CR) (.type "BaseException") = some true) (tCR : PySem.W.typeIn K (.ref CR) = some (.type "type"))
    (eCR : PySem.W.exmOne K (.ref CR) (.ref CS) = some true) (iCR : PySem.W.kitOne K (.ref CR) (.ref CR) = some true) (qCR1 : PySem.W.findIn K (.ref CR) "__getattribute__" = some (some (.builtin "BaseException.__getattribute__"))) (qCR2 : PySem.W.findIn K (.ref CR) "__getattr__" = some none) (qCR3 : PySem.W.hasDictIn K CR = true)
    (qCR4 : PySem.W.findIn K (.ref CR) "__class__" = some (some (.builtin "object.__class__"))) (qCR5 : PySem.W.mroIn K CR (.type "object") = some true)
    (r1 : PySem.W.specialIn K (.builtin "object.__class__") "__get__" = some (some (.builtin "getset_descriptor.__get__"))) (r2 : PySem.W.takesIn K (.builtin "object.__class__") = some true) :
    LamX.LawAtS l w K CX0 9 63 "script" mg fa h := by
  have e := hfa.symm.trans (PySem.W.mg_of X G a20)
  cases e
  have F0 := fun_mk (st := sIsNumber) l0 c0' k0
  have b0 := F0.binds (ps := ["thing"]) fun _ _ _ _ _ _ us hl => match us, hl with | [_], _ => rfl
  have g_0 := PySem.W.mg_of X G a0
  have F1 := fun_mk (st := sIsBelow) l1 c1' k1
  have b1 := F1.binds (ps := ["thing", "limit"]) fun _ _ _ _ _ _ us hl => match us, hl with | [_, _], _ => rfl
  have g_1 := PySem.W.mg_of X G a1
  have F2 := fun_mk (st := sIsBit) l2 c2' k2
  have b2 := F2.binds (ps := ["thing"]) fun _ _ _ _ _ _ us hl => match us, hl with | [_], _ => rfl
  have g_2 := PySem.W.mg_of X G a2
  have F3 := fun_mk (st := sIsReading) l3 c3' k3
  have b3 := F3.binds (ps := ["thing"]) fun _ _ _ _ _ _ us hl => match us, hl with | [_], _ => rfl
  have g_3 := PySem.W.mg_of X G a3
  have F4 := fun_mk (st := sIsRow) l4 c4' k4
  have b4 := F4.binds (ps := ["thing"]) fun _ _ _ _ _ _ us hl => match us, hl with | [_], _ => rfl
  have g_4 := PySem.W.mg_of X G a4
  have F5 := fun_mk (st := sIsTupleOf) l5 c5' k5
  have b5 := F5.binds (ps := ["thing", "many"]) fun _ _ _ _ _ _ us hl => match us, hl with | [_, _], _ => rfl
  have g_5 := PySem.W.mg_of X G a5
  have F6 := fun_mk (st := sIsBits) l6 c6' k6
  have b6 := F6.binds (ps := ["thing", "many"]) fun _ _ _ _ _ _ us hl => match us, hl with | [_, _], _ => rfl
  have g_6 := PySem.W.mg_of X G a6
  have F7 := fun_mk (st := sTable) l7 c7' k7
  have b7 := F7.binds (ps := ["table", "readings"]) fun _ _ _ _ _ _ us hl => match us, hl with | [_, _], _ => rfl
  have g_7 := PySem.W.mg_of X G a7
  have F8 := fun_mk (st := sGate) l8 c8' k8
  have b8 := F8.binds (ps := ["table", "readings"]) fun _ _ _ _ _ _ us hl => match us, hl with | [_, _], _ => rfl
  have g_8 := PySem.W.mg_of X G a8
  have F9 := fun_mk (st := sBegun) l9 c9' k9
  have b9 := F9.binds (ps := ["script"]) fun _ _ _ _ _ _ us hl => match us, hl with | [_], _ => rfl
  have g_9 := PySem.W.mg_of X G a9
  have F10 := fun_mk (st := sDraw) l10 c10' k10
  have b10 := F10.binds (ps := ["state", "size_here"]) fun _ _ _ _ _ _ us hl => match us, hl with | [_, _], _ => rfl
  have g_10 := PySem.W.mg_of X G a10
  have F11 := fun_mk (st := sPick) l11 c11' k11
  have b11 := F11.binds (ps := ["state", "several"]) fun _ _ _ _ _ _ us hl => match us, hl with | [_, _], _ => rfl
  have g_11 := PySem.W.mg_of X G a11
  have F12 := fun_mk (st := sCaught) l12 c12' k12
  have b12 := F12.binds (ps := ["work"]) fun _ _ _ _ _ _ us hl => match us, hl with | [_], _ => rfl
  have g_12 := PySem.W.mg_of X G a12
  have F13 := fun_mk (st := sPower) l13 c13' k13
  have b13 := F13.binds (ps := ["number"]) fun _ _ _ _ _ _ us hl => match us, hl with | [_], _ => rfl
  have g_13 := PySem.W.mg_of X G a13
  have F14 := fun_mk (st := sBitsOf) l14 c14' k14
  have b14 := F14.binds (ps := ["number", "size"]) fun _ _ _ _ _ _ us hl => match us, hl with | [_, _], _ => rfl
  have g_14 := PySem.W.mg_of X G a14
  have F15 := fun_mk (st := sAllBits) l15 c15' k15
  have b15 := F15.binds (ps := ["size"]) fun _ _ _ _ _ _ us hl => match us, hl with | [_], _ => rfl
  have g_15 := PySem.W.mg_of X G a15
  have F16 := fun_mk (st := sGateBit) l16 c16' k16
  have b16 := F16.binds (ps := ["table", "bits"]) fun _ _ _ _ _ _ us hl => match us, hl with | [_, _], _ => rfl
  have g_16 := PySem.W.mg_of X G a16
  have F17 := fun_mk (st := sLawReading) l17 c17' k17
  have b17 := F17.binds (ps := ["table", "readings"]) fun _ _ _ _ _ _ us hl => match us, hl with | [_, _], _ => rfl
  have g_17 := PySem.W.mg_of X G a17
  have F18 := fun_mk (st := sLTable) l18 c18' k18
  have b18 := F18.binds (ps := ["state", "size"]) fun _ _ _ _ _ _ us hl => match us, hl with | [_, _], _ => rfl
  have g_18 := PySem.W.mg_of X G a18
  have F19 := fun_mk (st := sAllR) l19 c19' k19
  have b19 := F19.binds (ps := ["size"]) fun _ _ _ _ _ _ us hl => match us, hl with | [_], _ => rfl
  have g_19 := PySem.W.mg_of X G a19
  have F20 := fun_mk (st := sLaw) l20 c20' k20
  have b20 := F20.binds (ps := ["script"]) fun _ _ _ _ _ _ us hl => match us, hl with | [_], _ => rfl
  have g_20 := PySem.W.mg_of X G a20
  have y_int := PySem.W.mg_none_of X G z_int
  have y_len := PySem.W.mg_none_of X G z_len
  have y_abs := PySem.W.mg_none_of X G z_abs
  have y_all := PySem.W.mg_none_of X G z_all
  have y_enumerate := PySem.W.mg_none_of X G z_enumerate
  have y_isinstance := PySem.W.mg_none_of X G z_isinstance
  have y_list := PySem.W.mg_none_of X G z_list
  have y_tuple := PySem.W.mg_none_of X G z_tuple
  have y_bool := PySem.W.mg_none_of X G z_bool
  have y_range := PySem.W.mg_none_of X G z_range
  have y_min := PySem.W.mg_none_of X G z_min
  have y_max := PySem.W.mg_none_of X G z_max
  have y_sum := PySem.W.mg_none_of X G z_sum
  have y_sorted := PySem.W.mg_none_of X G z_sorted
  have y_zip := PySem.W.mg_none_of X G z_zip
  have y_repr := PySem.W.mg_none_of X G z_repr
  have eC : ExcC K CT := excC_of qCT1 qCT2 bCT qCT3 qCT4 r1 r2 qCT5
  have eR : ExcC K CR := excC_of qCR1 qCR2 bCR qCR3 qCR4 r1 r2 qCR5
  have D : IDict K dS (sizesD h1 h2 h3 h4 h5 t1 t2 t3 t4 t5 u1 u2 u3 u4 u5) nS := ⟨xD, lit_of g1 g2 g3 g4 g5, lD⟩
  have kw : KBinds K _ ["table", "readings"] ["readings", "table"] kwG kwG := kb_gate F8
  refine ⟨PySem.W.fnOf "law" "law" (defArgs sLaw) (defBody sLaw) (defScope sLaw) .none kV20 dc20 pm20 an20 (.ref c20) ct20, [(c20, P20), (c8, P8), (c6, P6)], spLaw K [P8, P6] P20, fun p hp => ?_, fun p hp => ?_, fun p hp => ?_, fun s u => .of_eq rfl, fun H a ns hl _ hT hS => ?_, fun base KB GB TB => ?_⟩
  · simp only [List.mem_cons, List.not_mem_nil, or_false] at hp
    rcases hp with rfl | rfl | rfl
    · exact own _ m2 _ g_20 c20 P20 _ _ _ _ _ _ l20 rfl rfl x20 p20
    · exact own _ m1 _ g_8 c8 P8 _ _ _ _ _ _ l8 rfl rfl x8 p8
    · exact own _ m0 _ g_6 c6 P6 _ _ _ _ _ _ l6 rfl rfl x6 p6
  · simp only [List.mem_cons, List.not_mem_nil, or_false] at hp
    rcases hp with rfl | rfl | rfl
    · exact n20
    · exact n8
    · exact n6
  · simp only [List.mem_cons, List.not_mem_nil, or_false] at hp
    rcases hp with rfl | rfl | rfl
    · exact PySem.W.codeHd_of_K X o20
    · exact PySem.W.codeHd_of_K X o8
    · exact PySem.W.codeHd_of_K X o6
  · have hP : ∀ P ∈ [P20, P8, P6], H P = some (.tbl #[]) := fun P hP => by
      simp only [List.mem_cons, List.not_mem_nil, or_false] at hP
      rcases hP with e | e | e
      · rw [e]
        exact hT (c20, P20) (by simp)
      · rw [e]
        exact hT (c8, P8) (by simp)
      · rw [e]
        exact hT (c6, P6) (by simp)
    exact ⟨a, ns, rfl, hS, hl, fun P h => ⟨#[], hP P (List.mem_cons_of_mem _ h), True.intro⟩, LamX.TabS.nil (hP _ List.mem_cons_self), pd, fun _ => rfl⟩
  · have TL := TB (c20, P20) (by simp)
    have TG := TB (c8, P8) (by simp)
    have TI := TB (c6, P6) (by simp)
    have TG' : GxR.TabB base mg c8 P8 := ⟨TG.code, TG.bm, TG.gP⟩
    have TI' : GxR.TabB base mg c6 P6 := ⟨TI.code, TI.bm, TI.gP⟩
    have G0 := ok_number (P := l.prog) (w := w) (mg := mg) (base := base) F0 y_isinstance y_int y_bool
    have G1 := ok_below F1 G0 F0.kp b0 g_0
    have G2 := ok_bit F2 G1 F1.kp b1 g_1
    have G3 := ok_reading F3 G2 F2.kp b2 g_2
    have G4 := ok_row (P := l.prog) (w := w) (mg := mg) (base := base) F4 y_isinstance y_list y_tuple
    have G5 := ok_tupleOf (P := l.prog) (w := w) (mg := mg) (base := base) F5 y_isinstance y_tuple y_len
    have G6 := ok_bits (TT := [P8, P6]) F6 rfl TI' (by simp) y_all G5 F5.kp b5 g_5 G2 F2.kp b2 g_2
    have G7 := ok_table (P := l.prog) (w := w) (mg := mg) (base := base) F7 y_min y_max
    have G8 := ok_gate (TT := [P8, P6]) F8 rfl TG' (by simp) y_isinstance y_tuple y_len y_all D sizes_ok (PySem.W.mg_of X G aD) xCT (PySem.W.mg_of X G aCT) kCT bCT tCT xCR (PySem.W.mg_of X G aCR) kCR bCR tCR G6 F6.kp b6 g_6 G4 F4.kp b4 g_4 G3 F3.kp b3 g_3 G7 F7.kp b7 g_7
    have G9 := ok_begun (P := l.prog) (w := w) (mg := mg) (base := base) F9 y_abs
    have G10 := ok_draw (P := l.prog) (w := w) (mg := mg) (base := base) F10 y_int y_len
    have G11 := ok_pick F11 y_len G10 F10.kp b10 g_10
    have G13 := ok_power (P := l.prog) (w := w) (mg := mg) (base := base) F13 y_range
    have G14 := ok_bitsOf F14 y_range y_tuple G13 F13.kp b13 g_13
    have G15 := ok_allBits F15 y_range y_sorted G13 F13.kp b13 g_13 G14 F14.kp b14 g_14
    have G16 := ok_gateBit F16 y_enumerate y_sum G13 F13.kp b13 g_13
    have G17 := ok_LR F17 y_enumerate y_len y_list y_zip y_min y_max G15 F15.kp b15 g_15 G16 F16.kp b16 g_16
    have G18 := ok_ltable F18 y_tuple y_range G10 F10.kp b10 g_10 G13 F13.kp b13 g_13
    have G19 := ok_allR (P := l.prog) (w := w) (mg := mg) (base := base) F19 y_range
    have LF : LawFs l.prog w K mg base [P8, P6] CT CR CS := {
      begun := ⟨_, _, G9, F9.kp, b9, g_9⟩
      draw := ⟨_, _, G10, F10.kp, b10, g_10⟩
      pick := ⟨_, _, G11, F11.kp, b11, g_11⟩
      table := ⟨_, _, G18, F18.kp, b18, g_18⟩
      allR := ⟨_, _, G19, F19.kp, b19, g_19⟩
      read := ⟨_, _, G17, F17.kp, b17, g_17⟩
      gate := ⟨_, _, G8, F8.kp, b8, g_8, kw⟩
      caught := ⟨_, _, F12, F12.kp, b12, g_12⟩
      gS := PySem.W.mg_of X G aS
      gT := PySem.W.mg_of X G aCT
      gR := PySem.W.mg_of X G aCR
      eT := eCT
      eR := eCR
      cT := eC
      cR := eR
      iT := iCT
      iR := iCR }
    exact ok_law F20 rfl TL LF y_range y_min y_max y_len y_repr y_list y_isinstance
end K02

open PySem PySem.W PyProof.Rows
set_option Elab.async false
set_option maxRecDepth 100000 in
set_option maxHeartbeats 0 in
theorem PySem.Challenge.cw_restsure_k02_readings_of_gates_holds : PySem.Challenge.rw_restsure_k02_readings_of_gates.Holds := by
  w_on; o_law; k_head; (case hw => w_witness2)
  k_fill
  refine EN.walk_tabs (l := PySem.Challenge.rw_restsure_k02_readings_of_gates) (n := 63) (k := 9) (x := "script") (CX := fun _ => L2.CX0) ["is_bits", "gate_reading", "law"] rfl (by decide) rfl ⟨rfl, by decide, by decide⟩ (by decide +kernel) (fun w h Y => PySem.W.km_in_of Y) ?F (fun _ _ _ _ _ z => z)
  case F =>
    intro w mg fa h Y KX G hmg own
    refine' K02.all_mk KX G hmg own (by simp) (by simp) (by simp) ?a0 ?l0 ?c0' ?k0 ?a1 ?l1 ?c1' ?k1 ?a2 ?l2 ?c2' ?k2 ?a3 ?l3 ?c3' ?k3 ?a4 ?l4 ?c4' ?k4 ?a5 ?l5 ?c5' ?k5 ?a6 ?l6 ?c6' ?k6 ?x6 ?p6 ?n6 ?o6 ?a7 ?l7 ?c7' ?k7 ?a8 ?l8 ?c8' ?k8 ?x8 ?p8 ?n8 ?o8 ?a9 ?l9 ?c9' ?k9 ?a10 ?l10 ?c10' ?k10 ?a11 ?l11 ?c11' ?k11 ?a12 ?l12 ?c12' ?k12 ?a13 ?l13 ?c13' ?k13 ?a14 ?l14 ?c14' ?k14 ?a15 ?l15 ?c15' ?k15 ?a16 ?l16 ?c16' ?k16 ?a17 ?l17 ?c17' ?k17 ?a18 ?l18 ?c18' ?k18 ?a19 ?l19 ?c19' ?k19 ?a20 ?l20 ?c20' ?k20 ?x20 ?p20 ?n20 ?o20 ?pd ?z_int ?z_len ?z_abs ?z_all ?z_enumerate ?z_isinstance ?z_list ?z_tuple ?z_bool ?z_range ?z_min ?z_max ?z_sum ?z_sorted ?z_zip ?z_repr ?aD ?xD ?g1 ?g2 ?g3 ?g4 ?g5 ?lD ?aS ?aCT ?xCT ?kCT ?bCT ?tCT ?eCT ?iCT ?qCT1 ?qCT2 ?qCT3 ?qCT4 ?qCT5 ?aCR ?xCR ?kCR ?bCR ?tCR ?eCR ?iCR ?qCR1 ?qCR2 ?qCR3 ?qCR4 ?qCR5 ?r1 ?r2
    (case a0 => first | k_is | decide +kernel)
    (case l0 => first | k_is | decide +kernel)
    (case c0' => first | k_is | decide +kernel)
    (case k0 => first | k_is | decide +kernel)
    (case a1 => first | k_is | decide +kernel)
    (case l1 => first | k_is | decide +kernel)
    (case c1' => first | k_is | decide +kernel)
    (case k1 => first | k_is | decide +kernel)
    (case a2 => first | k_is | decide +kernel)
    (case l2 => first | k_is | decide +kernel)
    (case c2' => first | k_is | decide +kernel)
    (case k2 => first | k_is | decide +kernel)
    (case a3 => first | k_is | decide +kernel)
    (case l3 => first | k_is | decide +kernel)
    (case c3' => first | k_is | decide +kernel)
    (case k3 => first | k_is | decide +kernel)
    (case a4 => first | k_is | decide +kernel)
    (case l4 => first | k_is | decide +kernel)
    (case c4' => first | k_is | decide +kernel)
    (case k4 => first | k_is | decide +kernel)
    (case a5 => first | k_is | decide +kernel)
    (case l5 => first | k_is | decide +kernel)
    (case c5' => first | k_is | decide +kernel)
    (case k5 => first | k_is | decide +kernel)
    (case a6 => first | k_is | decide +kernel)
    (case l6 => first | k_is | decide +kernel)
    (case c6' => first | k_is | decide +kernel)
    (case k6 => first | k_is | decide +kernel)
    (case x6 => first | k_is | decide +kernel)
    (case p6 => rfl)
    (case n6 => first | kernel_rfl | rfl)
    (case o6 => first | kernel_rfl | rfl)
    (case a7 => first | k_is | decide +kernel)
    (case l7 => first | k_is | decide +kernel)
    (case c7' => first | k_is | decide +kernel)
    (case k7 => first | k_is | decide +kernel)
    (case a8 => first | k_is | decide +kernel)
    (case l8 => first | k_is | decide +kernel)
    (case c8' => first | k_is | decide +kernel)
    (case k8 => first | k_is | decide +kernel)
    (case x8 => first | k_is | decide +kernel)
    (case p8 => rfl)
    (case n8 => first | kernel_rfl | rfl)
    (case o8 => first | kernel_rfl | rfl)
    (case a9 => first | k_is | decide +kernel)
    (case l9 => first | k_is | decide +kernel)
    (case c9' => first | k_is | decide +kernel)
    (case k9 => first | k_is | decide +kernel)
    (case a10 => first | k_is | decide +kernel)
    (case l10 => first | k_is | decide +kernel)
    (case c10' => first | k_is | decide +kernel)
    (case k10 => first | k_is | decide +kernel)
    (case a11 => first | k_is | decide +kernel)
    (case l11 => first | k_is | decide +kernel)
    (case c11' => first | k_is | decide +kernel)
    (case k11 => first | k_is | decide +kernel)
    (case a12 => first | k_is | decide +kernel)
    (case l12 => first | k_is | decide +kernel)
    (case c12' => first | k_is | decide +kernel)
    (case k12 => first | k_is | decide +kernel)
    (case a13 => first | k_is | decide +kernel)
    (case l13 => first | k_is | decide +kernel)
    (case c13' => first | k_is | decide +kernel)
    (case k13 => first | k_is | decide +kernel)
    (case a14 => first | k_is | decide +kernel)
    (case l14 => first | k_is | decide +kernel)
    (case c14' => first | k_is | decide +kernel)
    (case k14 => first | k_is | decide +kernel)
    (case a15 => first | k_is | decide +kernel)
    (case l15 => first | k_is | decide +kernel)
    (case c15' => first | k_is | decide +kernel)
    (case k15 => first | k_is | decide +kernel)
    (case a16 => first | k_is | decide +kernel)
    (case l16 => first | k_is | decide +kernel)
    (case c16' => first | k_is | decide +kernel)
    (case k16 => first | k_is | decide +kernel)
    (case a17 => first | k_is | decide +kernel)
    (case l17 => first | k_is | decide +kernel)
    (case c17' => first | k_is | decide +kernel)
    (case k17 => first | k_is | decide +kernel)
    (case a18 => first | k_is | decide +kernel)
    (case l18 => first | k_is | decide +kernel)
    (case c18' => first | k_is | decide +kernel)
    (case k18 => first | k_is | decide +kernel)
    (case a19 => first | k_is | decide +kernel)
    (case l19 => first | k_is | decide +kernel)
    (case c19' => first | k_is | decide +kernel)
    (case k19 => first | k_is | decide +kernel)
    (case a20 => first | k_is | decide +kernel)
    (case l20 => first | k_is | decide +kernel)
    (case c20' => first | k_is | decide +kernel)
    (case k20 => first | k_is | decide +kernel)
    (case x20 => first | k_is | decide +kernel)
    (case p20 => rfl)
    (case n20 => first | kernel_rfl | rfl)
    (case o20 => first | kernel_rfl | rfl)
    (case pd => decide)
    (case z_int => first | k_is | decide +kernel)
    (case z_len => first | k_is | decide +kernel)
    (case z_abs => first | k_is | decide +kernel)
    (case z_all => first | k_is | decide +kernel)
    (case z_enumerate => first | k_is | decide +kernel)
    (case z_isinstance => first | k_is | decide +kernel)
    (case z_list => first | k_is | decide +kernel)
    (case z_tuple => first | k_is | decide +kernel)
    (case z_bool => first | k_is | decide +kernel)
    (case z_range => first | k_is | decide +kernel)
    (case z_min => first | k_is | decide +kernel)
    (case z_max => first | k_is | decide +kernel)
    (case z_sum => first | k_is | decide +kernel)
    (case z_sorted => first | k_is | decide +kernel)
    (case z_zip => first | k_is | decide +kernel)
    (case z_repr => first | k_is | decide +kernel)
    (case aD => first | k_is | decide +kernel)
    (case xD => first | k_is | decide +kernel)
    (case g1 => first | rfl | decide)
    (case g2 => first | rfl | decide)
    (case g3 => first | rfl | decide)
    (case g4 => first | rfl | decide)
    (case g5 => first | rfl | decide)
    (case lD => first | rfl | decide)
    (case aS => first | k_is | decide +kernel)
    (case aCT => first | k_is | decide +kernel)
    (case xCT => first | k_exc | k_is | decide +kernel)
    (case kCT => first | k_is | decide +kernel)
    (case bCT => first | k_is | decide +kernel)
    (case tCT => first | k_is | decide +kernel)
    (case eCT => first | k_is | rfl | decide +kernel)
    (case iCT => first | k_is | rfl | decide +kernel)
    (case qCT1 => first | k_is | decide +kernel)
    (case qCT2 => first | k_is | decide +kernel)
    (case qCT3 => first | k_is | decide +kernel)
    (case qCT4 => first | k_is | decide +kernel)
    (case qCT5 => first | k_is | decide +kernel)
    (case aCR => first | k_is | decide +kernel)
    (case xCR => first | k_exc | k_is | decide +kernel)
    (case kCR => first | k_is | decide +kernel)
    (case bCR => first | k_is | decide +kernel)
    (case tCR => first | k_is | decide +kernel)
    (case eCR => first | k_is | rfl | decide +kernel)
    (case iCR => first | k_is | rfl | decide +kernel)
    (case qCR1 => first | k_is | decide +kernel)
    (case qCR2 => first | k_is | decide +kernel)
    (case qCR3 => first | k_is | decide +kernel)
    (case qCR4 => first | k_is | decide +kernel)
    (case qCR5 => first | k_is | decide +kernel)
    (case r1 => first | k_is | decide +kernel)
    (case r2 => first | k_is | decide +kernel)
#print axioms PySem.Challenge.cw_restsure_k02_readings_of_gates_holds

