import PyProof.Rows.All
import Wide.All
import OpenK.AllK
import Wide.FinOn
import HandS.ForMost
import HandS.AnyAll
import HandS.Nested
import HandS.GenList
import KE.KEqSeq
import HandS.IsInst
import HandS.Flow
import HandS.Lambda
import HandS.ExcIs
import KE.KDictKeyed
import KE.KDictCopyH
import KE.GoesNew
import KE.GoesMore
import KE.GoesZip
import KE.GoesEnum
import HandS.RaiseMore
import HandS.TupMul
import HandS.TupAny
import HandS.EndBits
import HandS.EndTab
import HandS.EndOwn
import PyProof.ReprRoads
import HandS.ExcInit
import HandS.ExcSuper
import KE.KExcSuper
import KE.KSuper
import HandS.ExcValue
import HandS.ExcField
import PyProof.SumWalk
import PyProof.ListOps
import PyProof.SliceList
import HandS.TupSets
import PyProof.Rows.RegFStrParts
import HandS.Walk
import HandS.Text
import KE.OsRunLaw
import PySem.Challenge.RW_restsure_k00_errors_apart
set_option Elab.async false
set_option linter.all false
set_option maxRecDepth 100000
/-! all(e for x in xs), any(e for x in xs): the generator expression's own frame, its element any expression that HandS has rules for (calls too). -/
namespace GX
open PySem PySem.Spec L2
open PyProof.Rows GenW GxR NdefX

/-- only the generators differ -/
def Regen (s t : Shared) : Prop := ∃ G : Array GenState, AllBare G ∧ t = { s with gens := G }

/-- the frame of a generator expression that is walked from the around A, begun at s -/
abbrev gcx (X : Cx) (A : Around) (s : Shared) (H : Hp) (cenv : Env) (fp : List Addr) (pn : List (Addr × Obj)) : Cx :=
  { X with
    A := A.deeper cenv
    s_0 := s
    H_0 := H
    env := cenv
    outer := X.stack
    stack := cenv :: X.stack
    ex := fp
    fn := fun _ => false
    pn := pn
    xe := fun _ _ => False }

theorem over_gen {A : Around} {elt : Expr} {gs : List Comprehension} {sc : Scope} {pos : Pos} {it acc : Value} {env : Env} :
    A.over (.compLoop (.GeneratorExp elt gs sc pos) 0 it acc env) [] = A.deeper env := by
  first
    | rfl
    | (cases A; simp [Around.over, Around.deeper, marksOver, frameCount, unitsOf, envsOf, guardsOf, pushEnvs, pushGuards, Code.envs, Code.env?, Code.isFrame, Code.guards, Code.isGuard, Code.weight, Code.frames, Code.isCreation, Code.isCaller, Code.cUnits])
theorem over_start {A : Around} {elt : Expr} {gs : List Comprehension} {sc : Scope} {pos : Pos} {it acc : Value} {env : Env} :
    A.over (.compStart (.GeneratorExp elt gs sc pos) 0 it acc env) [] = A.deeper env := by
  first
    | rfl
    | (cases A; simp [Around.over, Around.deeper, marksOver, frameCount, unitsOf, envsOf, guardsOf, pushEnvs, pushGuards, Code.envs, Code.env?, Code.isFrame, Code.guards, Code.isGuard, Code.weight, Code.frames, Code.isCreation, Code.isCaller, Code.cUnits])

section
variable {X : Cx} {pins : List (Addr × Obj)} {σ : L2.St} {H : Hp} {s t : Shared}
theorem Regen.inv (r : Regen s t) (I : Inv X pins σ H s) : Inv X pins σ H t := by
  obtain ⟨G, hG, rfl⟩ := r
  exact ⟨I.ok, I.os, hG, I.base, I.loc, I.cell, I.free, I.freeC, I.pin, I.hok, I.len⟩

/-- what a generator expression's own frame is like when it is woken first -/
theorem gen_start {scope : Scope} {own : List (Str × Nat)} {fp : List Addr} {A : Around} {cenv : Env} {m : Str → Option Value} {a : Addr} {go : Obj}
    (I : Inv X pins σ H s) (ok : BlkOk X.N X.env.scope scope own) (hN : X.N.Nodup)
    (hcell : ∀ y ∈ scope.names, y.2 ≠ .cell) (hA : A.handled = none) (hfr : A.frames = some X.stack)
    (hfp : ∀ b ∈ fp, FpOk X pins H b ∧ b < s.heap.objs.size)
    (e1 : cenv.scope = scope) (e2 : cenv.locals = s.heap.objs.size) (e3 : cenv.globals = mainGlobals) (e4 : cenv.builtins = builtinsNs)
    (e5 : cenv.cells = cloFrom X.env.cells scope.names []) (e6 : cenv.frame = some s.heap.objs.size)
    (os' : t.os = s.os) (hb : AllBare t.gens) (kp : ∀ b o, s.heap.get? b = some o → t.heap.get? b = some o)
    (ns : t.heap.Ns s.heap.objs.size m) (ha : t.heap.get? a = some go) (hlt : s.heap.objs.size < a) (hd : ∀ v, go.data ≠ .cell v) :
    Inv (gcx X A s H cenv fp [(a, go)]) [] (wipe σ (own.map (·.2))) H t := by
  have hfree : ∀ y ∈ scope.names, y.2 = .free → ∃ c, X.env.cells.lookup y.1 = some c := fun y hy e => by
    rcases ok.free y hy e with k | k
    · exact I.ok.has _ (.inl k)
    · exact I.ok.has _ (.inr k)
  have back : ∀ {y : Str} {c : Addr}, cenv.cells.lookup y = some c → X.env.cells.lookup y = some c := fun {y c} e => by
    rw [e5] at e
    exact clo_cm hfree e
  have old : ∀ {y : Str} {c : Addr}, cenv.cells.lookup y = some c → c < s.heap.objs.size := fun {y c} e => by
    obtain ⟨v, z⟩ := I.cell y c (back e)
    exact z.lt
  have has : ∀ {y : Str}, scope.names.lookup y = some .free → ∃ c, cenv.cells.lookup y = some c ∧ X.env.cells.lookup y = some c := fun {y} hl => by
    have hy : (y, NameKind.free) ∈ scope.names := PySem.mem_of_lookup hl
    obtain ⟨c, hc⟩ := hfree _ hy rfl
    refine ⟨c, ?_, hc⟩
    rw [e5]
    exact clo_has hfree hy hc
  have kindIs : ∀ y : Str, cenv.kindOf y = scope.names.lookup y := fun y => by
    unfold Env.kindOf
    rw [e1]
  have aNew : H a = none := I.hok.fresh (Nat.le_of_lt hlt)
  have aFs : a ∉ frs X.stack := fun hm => by
    rcases List.mem_cons.mp (I.stkSub a hm) with z | z
    · have h1 := I.lt
      rw [← z] at h1
      exact absurd (Nat.lt_trans hlt h1) (Nat.lt_irrefl _)
    · exact I.nofs (Nat.le_of_lt hlt) z
  have okZ : (gcx X A s H cenv fp [(a, go)]).Ok := by
    refine ⟨I.ok.mod, ?_, e3, e4, Nat.le_of_eq e2.symm, fun y z c q1 q2 => I.ok.inj y z c (back q1) (back q2), fun y hy => ?_, fun y c q _ => (nomatch q), fun _ => hA,
      Around.frames_deeper hfr, .inr ⟨rfl, ?_⟩, fun b hb => ⟨?_, fun y c e z => ?_⟩, I.bs, Nat.le_trans I.ok.bsz I.sz, fun b o e hb => ?_, fun b hb z => ?_, I.stack, I.stkFree⟩
    · show cenv.scope.kind = _
      rw [e1]
      exact ok.kind
    · have hy : cenv.kindOf y = some .cell ∨ cenv.kindOf y = some .free := hy
      rw [kindIs y] at hy
      rcases hy with hy | hy
      · exact absurd rfl (hcell _ (PySem.mem_of_lookup hy))
      · obtain ⟨c, q, _⟩ := has hy
        exact ⟨c, q⟩
    · show cenv.frame = some cenv.locals
      rw [e6, e2]
    · show b ≠ cenv.locals
      rw [e2]
      exact Nat.ne_of_lt (hfp b hb).2
    · exact (hfp b hb).1.2.2.2.2.1 y c (back e) z
    · rcases (hfp b hb).1.2.2.2.1 with z | z
      · exact I.ok.noex b o e z
      · exact absurd (Nat.lt_of_lt_of_le (Heap.lt_size e) (Nat.le_trans I.ok.bsz z)) (Nat.lt_irrefl _)
    · rcases List.mem_cons.mp (I.stkSub b z) with z | z
      · exact (hfp b hb).1.2.1 z
      · exact (hfp b hb).1.2.2.1 z
  refine ⟨okZ, os', hb, Un.kept kp, ⟨m, ?_, fun i y av q1 q2 q3 => ?_⟩, fun y c e => ?_, ?_, fun y c e => I.freeC y c (back e), fun p hp => ?_, I.hok.kept kp, by rw [wipe_length]; exact I.len⟩
  · show t.heap.Ns cenv.locals m
    rw [e2]
    exact ns
  · obtain ⟨q2, hne⟩ := wipe_some q2
    have q3 : Vis cenv.scope y := q3
    rw [e1] at q3
    have hfr : scope.names.lookup y = some .free := by
      rcases q3 with q3 | q3 | q3
      · rcases ok.own _ (PySem.mem_of_lookup q3) (.inl rfl) with e' | e'
        · obtain ⟨p, hp, hpy⟩ := List.mem_map.mp e'
          have e8 := ok.ix p hp
          have e9 : p.1 = y := hpy
          rw [e9] at e8
          exact absurd (List.mem_map.mpr ⟨p, hp, nodup_ix hN e8 q1⟩) hne
        · exact absurd (List.mem_of_getElem? q1) e'
      · exact absurd rfl (hcell _ (PySem.mem_of_lookup q3))
      · exact q3
    obtain ⟨m0, hn, hl⟩ := I.loc
    have hvis : Vis X.env.scope y := (ok.free _ (PySem.mem_of_lookup hfr) rfl).elim (fun k => .inr (.inl k)) (fun k => .inr (.inr k))
    obtain ⟨w, r, q⟩ := hl i y av q1 q2 hvis
    obtain ⟨c, c1, c2⟩ := has hfr
    refine ⟨w, r, .inr ⟨.inr (by show cenv.kindOf y = _; rw [kindIs y]; exact hfr), c, c1, ?_⟩⟩
    rcases q with ⟨k, _⟩ | ⟨_, c', e', z⟩
    · have k : X.env.scope.names.lookup y = some .local := k
      rcases ok.free _ (PySem.mem_of_lookup hfr) rfl with k' | k'
      · rw [show X.env.scope.names.lookup y = _ from k'] at k
        cases k
      · rw [show X.env.scope.names.lookup y = _ from k'] at k
        cases k
    · rw [c2] at e'
      cases e'
      exact z.keeps kp
  · obtain ⟨w, z⟩ := I.cell y c (back e)
    exact ⟨w, z.keeps kp⟩
  · show H cenv.locals = none
    rw [e2]
    exact I.hok.fresh (Nat.le_refl _)
  · rcases List.mem_append.mp hp with hp | hp
    · rw [List.mem_singleton.mp hp]
      refine ⟨ha, aNew, ?_, aFs, hd⟩
      show a ≠ cenv.locals
      rw [e2]
      exact Nat.ne_of_gt hlt
    · cases hp
end

/-! ### the frame's segments -/
/-- handed out: a truth value; the consumer stops at stop -/
def gYld (Z : Cx) (τ : L2.St) (stop : Bool) (Q : VK) : Protocol := fun _ _ v s kap =>
  ∃ (c : Bool) (H : Hp), v = .bool c ∧ Inv Z [] τ H s ∧ (c = stop → Q (.bl stop) H) ∧ (c ≠ stop → ∀ t, Regen s t → kap (.send .none) t)
def gFin (Z : Cx) (τ : L2.St) (stop : Bool) (Q : VK) : Nat → Shared → Shared → Prop := fun _ _ s => ∃ H, Inv Z [] τ H s ∧ Q (.bl (!stop)) H
abbrev gEnd (Z : Cx) (τ : L2.St) (stop : Bool) (Q : VK) : GenEnd := fun n s₀ r s₁ => r = .ok .next ∧ gFin Z τ stop Q n s₀ s₁

/-- the loop as it is asked of a prover -/
def TurnsOf (J : It) (g : TG) (tt : TT) (te : TE) (vs : List Nat) (τ : L2.St) (stop : Bool) (Q : VK) (W : Nat → Nat → Hp → Prop) : Prop :=
  ∀ i m H, W i m H → (J.stop i H ∧ Q (.bl (!stop)) H) ∨ (J.go i H ∧ ∃ Nx : Hp → Prop, (∀ H', Nx H' → ∃ m', m' < m ∧ W (i + 1) m' H') ∧
    ∀ x H', J.yld i H x H' → g x τ H' fun σ2 H2 => wipe σ2 vs = τ ∧ tt σ2 H2 fun b H3 =>
      if b = true then te σ2 H3 fun y H4 => ∃ c : Bool, y = .bl c ∧ (c = stop → Q (.bl stop) H4) ∧ (c ≠ stop → Nx H4) else Nx H3)

section
variable {X : Cx} {A : Around} {s₁ : Shared} {H₁ : Hp} {cenv : Env} {fp : List Addr} {pn : List (Addr × Obj)} {tg elt iter : Expr} {ifs : List Expr} {scope : Scope} {pos : Pos} {it : Addr} {tn : Nat → Heap → Prop} {J : It} {g : TG} {tt : TT} {te : TE} {vs : List Nat} {τ : L2.St} {stop : Bool} {Q : VK} {W : Nat → Nat → Hp → Prop}
theorem seg_gx (hcalm : X.calm = true) (pg : PG (gcx X A s₁ H₁ cenv fp pn) tg g) (pt : PTs (gcx X A s₁ H₁ cenv fp pn) ifs tt) (pe : PE (gcx X A s₁ H₁ cenv fp pn) elt te)
    (T : Turn X.prog X.w X.K tg J fp it tn) (hco : cenv.scope.isCoroutine = false) (turn : TurnsOf J g tt te vs τ stop Q W) (hnp : ∀ p ∈ pn, p.1 ∉ fp) :
    ∀ (m n : Nat), m < n → ∀ (i : Nat) (s₀ s : Shared) (H : Hp), W i m H → Inv (gcx X A s₁ H₁ cenv fp pn) [] τ H s → tn i s.heap → (∀ b ∈ fp, H b = none) →
      Seg (model X.prog X.w) A (gEnd (gcx X A s₁ H₁ cenv fp pn) τ stop Q) (gYld (gcx X A s₁ H₁ cenv fp pn) τ stop Q) n s₀
        (.compLoop (.GeneratorExp elt [⟨tg, iter, ifs, 0⟩] scope pos) 0 (.ref it) .none cenv)
        ((model X.prog X.w).den (.compLoop (.GeneratorExp elt [⟨tg, iter, ifs, 0⟩] scope pos) 0 (.ref it) .none cenv)) [] s := by
  have stat : ∀ {σ' : L2.St} {H' : Hp} {s' : Shared}, Inv (gcx X A s₁ H₁ cenv fp pn) [] σ' H' s' → (∀ b ∈ fp, H' b = none) → ∀ b ∈ fp, FpOk (gcx X A s₁ H₁ cenv fp pn) [] H' b :=
    fun {σ' H' s'} I' hn b hb => ⟨hn b hb, (I'.ok.exf b hb).1, I'.ok.exfs b hb, .inl hb, fun x c e => (I'.ok.exf b hb).2 x c e, fun p hp z => by
      rcases List.mem_append.mp hp with hp | hp
      · exact hnp p hp (by rw [z]; exact hb)
      · cases hp⟩
  have noE : ∀ {α : Type} {u : Sem α} {q q' : α → Shared → Prop} {E : Value → Shared → Prop} {s' : Shared}, wpAny (model X.prog X.w) (gcx X A s₁ H₁ cenv fp pn).A u q (fun _ _ => False) s' → (∀ r s6, q r s6 → q' r s6) →
      wpAny (model X.prog X.w) (A.over (.compLoop (.GeneratorExp elt [⟨tg, iter, ifs, 0⟩] scope pos) 0 (.ref it) .none cenv) []) u q' E s' := fun {α u q q' E s'} h k => by
    rw [over_gen]
    exact wpAny_mono h k fun _ _ z => False.elim z
  intro m
  induction m using Nat.strongRecOn with
  | ind m ih =>
    intro n hmn i s₀ s H w I st hn
    show Seg _ A _ _ _ s₀ _ ((compTurn (.GeneratorExp elt [⟨tg, iter, ifs, 0⟩] scope pos) 0 (.ref it) .none cenv).onRaise (leaving cenv)) [] s
    rw [compTurn_gen, Sem.onRaise_eq_wrap]
    refine seg_bind_wrap (wpAny_standAt ?_)
    rcases turn i m H w with ⟨hs, qq⟩ | ⟨hgo, Nx, hNx, step⟩
    · refine seg_bind_wrap (noE (T.done (gcx X A s₁ H₁ cenv fp pn) rfl rfl rfl hcalm i [] s _ H (fun _ _ => False) I (stat I hn) st hs) fun r s6 ⟨hr, I6⟩ => ?_)
      subst hr
      exact seg_end (.ok .next) ⟨rfl, H, I6, qq⟩
    · refine seg_bind_wrap (noE (T.item (gcx X A s₁ H₁ cenv fp pn) rfl rfl rfl hcalm i [] s _ H (fun _ _ => False) I (stat I hn) st hgo) fun r s6 ⟨u, hr, h6⟩ => ?_)
      subst hr
      refine seg_bind_wrap (noE h6 fun _ s7 ⟨x, H7, I7, r7, y7, st7, n7⟩ => ?_)
      have I7' := I7.pinned (stat I7 n7) (T.obj _ _ st7)
      refine seg_bind_wrap (noE (pg.run _ s7 _ H7 x u _ I7' r7 (step x H7 y7)) fun _ s8 ⟨σ8, H8, I8, hw8, q8⟩ => ?_)
      refine seg_bind_wrap (noE (pt.run _ s8 σ8 H8 _ I8 q8) fun b s9 ⟨H9, I9, q9⟩ => ?_)
      -- back to the loop's own words
      have tidy : ∀ {s' : Shared} {H' : Hp}, Inv (gcx X A s₁ H₁ cenv fp pn) ([] ++ pinsAt fp s7.heap) σ8 H' s' →
          Inv (gcx X A s₁ H₁ cenv fp pn) [] τ H' s' ∧ tn (i + 1) s'.heap ∧ ∀ b ∈ fp, H' b = none := fun {s' H'} I' => by
        have pin' : ∀ b ∈ fp, ∀ o, s7.heap.get? b = some o → s'.heap.get? b = some o ∧ H' b = none := fun b hb o e =>
          let z := I'.pin (b, o) (List.mem_append_right _ (List.mem_append_right _ (mem_pinsAt hb e)))
          ⟨z.1, z.2.1⟩
        have hl : τ.length = σ8.length := by rw [← hw8, wipe_length]
        refine ⟨(I'.unpinned (pins := [])).weak hl (fun j v e => ?_), T.keep _ _ _ st7 fun b hb o e => (pin' b hb o e).1, fun b hb => ?_⟩
        · rw [← hw8] at e
          exact (wipe_some e).1
        · obtain ⟨o, e, _⟩ := T.obj _ _ st7 b hb
          exact (pin' b hb o e).2
      cases b with
      | false =>
        simp only [Bool.false_eq_true, if_false] at q9 ⊢
        obtain ⟨m', hm', w'⟩ := hNx H9 q9
        obtain ⟨J1, J2, J3⟩ := tidy I9
        exact seg_again rfl (ih m' hm' n (Nat.lt_trans hm' hmn) (i + 1) s₀ s9 H9 w' J1 J2 J3)
      | true =>
        simp only [if_true] at q9 ⊢
        have hy : ∀ v, yieldOut cenv v = yieldValue v := fun v => by simp only [yieldOut, hco, Bool.false_eq_true, if_false]
        simp only [hy]
        rw [Sem.bind_eq_wrap', Sem.bind_eq_wrap', Sem.wrap_wrap, Sem.wrap_wrap]
        refine seg_wrap (noE (pe.run _ s9 σ8 H9 _ I9 q9) fun z s10 ⟨yv, H10, I10, r10, c, ec, h1, h2⟩ => ?_)
        subst ec
        have ez : z = Value.bool c := r10
        subst ez
        obtain ⟨J1, J2, J3⟩ := tidy I10
        have pos' : ∃ n', n = n' + 1 := ⟨n - 1, by omega⟩
        obtain ⟨n', rfl⟩ := pos'
        refine seg_at (seg_yield rfl rfl rfl ⟨c, H10, rfl, J1, h1, fun hc s'' hr => ?_⟩)
        obtain ⟨m', hm', w'⟩ := hNx H10 (h2 hc)
        have hh : s''.heap = s10.heap := by
          obtain ⟨G, _, rfl⟩ := hr
          rfl
        exact seg_again rfl (ih m' hm' n' (by omega) (i + 1) s'' s'' H10 w' (hr.inv J1) (by rw [hh]; exact J2) J3)
end

/-! ### who asks: all(..), any(..) -/
section
variable {Z : Cx} {τ : L2.St} {Q : VK} {A : Around} {a : Addr} {g : Nat} {go : Obj} {R : Result → Shared → Prop}
theorem all_loop (hh : A.handled = none) (hd : A.depth < recursionLimit) (hpn : (a, go) ∈ Z.pn) (hgo : ∀ h : Heap, h.get? a = some go → h.IsGen a g)
    (hend : ∀ (b : Bool) (H : Hp) (s1 s' : Shared), Inv Z [] τ H s1 → Q (.bl b) H → s'.os = s1.os → AllBare s'.gens → (∀ x o, s1.heap.get? x = some o → s'.heap.get? x = some o) → R (.ok (.ret (.bool b))) s') :
    ∀ (n : Nat) (s : Shared) (gs : GenState), s.gens[g]? = some gs →
      gs.Goes (model Z.prog Z.w) A.in1.in1 (gEnd Z τ false Q) (gYld Z τ false Q) n (.send .none) (s.setGen g .running) → s.heap.get? a = some go → s.heap.NoLimit →
      codeAny (model Z.prog Z.w) A (.builtin "all.loop" ⟨[.ref a], []⟩) R s := by
  intro n
  induction n with
  | zero =>
    intro s gs hgs hG hga hl
    refine codeAny_builtin F.entry_all_loop ?_
    rw [Around.under_plainId F.plain_all_loop _]
    show wpAny _ A.in1 (pyNext (.ref a) >>= _) _ _ s
    refine wpAny_bind (wpAny_pyNext_genexpQ (A := A.in1) (P := gFin Z τ false Q) hh hl hd (hgo _ hga) hgs hG (fun v s₁ gs' hb hv => ?_) (fun s₁ hp h' hk => ?_))
    · obtain ⟨c, H, rfl, I, h1, h2⟩ := hv
      refine wpAny_bind (wpAny_holding (wpAny_truthy_bool ?_))
      refine wpAny_bind (wpAny_letGo ?_)
      cases c with
      | false =>
        simp only [Bool.false_eq_true, if_false]
        exact wpAny_bind (wpAny_rule (wpAny_pure (hend false H s₁ _ I (h1 rfl) rfl (allBare_setGen I.bare hb) fun _ _ e => e)))
      | true => exact False.elim (h2 (by decide) s₁ ⟨s₁.gens, I.bare, rfl⟩)
    · obtain ⟨H, I, q⟩ := hp
      exact wpAny_bind (wpAny_rule (wpAny_pure (hend true H s₁ _ I q rfl (allBare_setGen I.bare rfl) hk)))
  | succ n ih =>
    intro s gs hgs hG hga hl
    have hgl : g < s.gens.size := (Array.getElem?_eq_some_iff.mp hgs).1
    refine codeAny_builtin F.entry_all_loop ?_
    rw [Around.under_plainId F.plain_all_loop _]
    show wpAny _ A.in1 (pyNext (.ref a) >>= _) _ _ s
    refine wpAny_bind (wpAny_gsz (n := g + 1) hgl (wpAny_pyNext_genexpQ (A := A.in1) (P := gFin Z τ false Q) hh hl hd (hgo _ hga) hgs hG (fun v s₁ gs' hb hv => ?_) (fun s₁ hp h' hk => ?_)))
    · intro hsz
      obtain ⟨c, H, rfl, I, h1, h2⟩ := hv
      refine wpAny_bind (wpAny_holding (wpAny_truthy_bool ?_))
      refine wpAny_bind (wpAny_letGo ?_)
      cases c with
      | false =>
        simp only [Bool.false_eq_true, if_false]
        exact wpAny_bind (wpAny_rule (wpAny_pure (hend false H s₁ _ I (h1 rfl) rfl (allBare_setGen I.bare hb) fun _ _ e => e)))
      | true =>
        simp only [if_true]
        have hsz1 : g < s₁.gens.size := by
          have q : (s₁.setGen g gs').gens.size = s₁.gens.size := setGen_size _ _ _
          have hsz' : g + 1 ≤ (s₁.setGen g gs').gens.size := hsz
          omega
        have bare2 : AllBare (s₁.setGen g gs').gens := allBare_setGen I.bare hb
        exact wpAny_pure ⟨plainId_quiet F.plain_all_loop _, ih (s₁.setGen g gs') gs' (setGen_at hsz1) (h2 (by decide) _ ⟨_, allBare_setGen (s := s₁.setGen g gs') bare2 rfl, rfl⟩) (I.pin (a, go) (List.mem_append_left _ hpn)).1 I.nolimit⟩
    · intro _
      obtain ⟨H, I, q⟩ := hp
      exact wpAny_bind (wpAny_rule (wpAny_pure (hend true H s₁ _ I q rfl (allBare_setGen I.bare rfl) hk)))
theorem any_loop (hh : A.handled = none) (hd : A.depth < recursionLimit) (hpn : (a, go) ∈ Z.pn) (hgo : ∀ h : Heap, h.get? a = some go → h.IsGen a g)
    (hend : ∀ (b : Bool) (H : Hp) (s1 s' : Shared), Inv Z [] τ H s1 → Q (.bl b) H → s'.os = s1.os → AllBare s'.gens → (∀ x o, s1.heap.get? x = some o → s'.heap.get? x = some o) → R (.ok (.ret (.bool b))) s') :
    ∀ (n : Nat) (s : Shared) (gs : GenState), s.gens[g]? = some gs →
      gs.Goes (model Z.prog Z.w) A.in1.in1 (gEnd Z τ true Q) (gYld Z τ true Q) n (.send .none) (s.setGen g .running) → s.heap.get? a = some go → s.heap.NoLimit →
      codeAny (model Z.prog Z.w) A (.builtin "any.loop" ⟨[.ref a], []⟩) R s := by
  intro n
  induction n with
  | zero =>
    intro s gs hgs hG hga hl
    refine codeAny_builtin F.entry_any_loop ?_
    rw [Around.under_plainId F.plain_any_loop _]
    show wpAny _ A.in1 (pyNext (.ref a) >>= _) _ _ s
    refine wpAny_bind (wpAny_pyNext_genexpQ (A := A.in1) (P := gFin Z τ true Q) hh hl hd (hgo _ hga) hgs hG (fun v s₁ gs' hb hv => ?_) (fun s₁ hp h' hk => ?_))
    · obtain ⟨c, H, rfl, I, h1, h2⟩ := hv
      refine wpAny_bind (wpAny_holding (wpAny_truthy_bool ?_))
      refine wpAny_bind (wpAny_letGo ?_)
      cases c with
      | true =>
        simp only [if_true]
        exact wpAny_bind (wpAny_rule (wpAny_pure (hend true H s₁ _ I (h1 rfl) rfl (allBare_setGen I.bare hb) fun _ _ e => e)))
      | false => exact False.elim (h2 (by decide) s₁ ⟨s₁.gens, I.bare, rfl⟩)
    · obtain ⟨H, I, q⟩ := hp
      exact wpAny_bind (wpAny_rule (wpAny_pure (hend false H s₁ _ I q rfl (allBare_setGen I.bare rfl) hk)))
  | succ n ih =>
    intro s gs hgs hG hga hl
    have hgl : g < s.gens.size := (Array.getElem?_eq_some_iff.mp hgs).1
    refine codeAny_builtin F.entry_any_loop ?_
    rw [Around.under_plainId F.plain_any_loop _]
    show wpAny _ A.in1 (pyNext (.ref a) >>= _) _ _ s
    refine wpAny_bind (wpAny_gsz (n := g + 1) hgl (wpAny_pyNext_genexpQ (A := A.in1) (P := gFin Z τ true Q) hh hl hd (hgo _ hga) hgs hG (fun v s₁ gs' hb hv => ?_) (fun s₁ hp h' hk => ?_)))
    · intro hsz
      obtain ⟨c, H, rfl, I, h1, h2⟩ := hv
      refine wpAny_bind (wpAny_holding (wpAny_truthy_bool ?_))
      refine wpAny_bind (wpAny_letGo ?_)
      cases c with
      | true =>
        simp only [if_true]
        exact wpAny_bind (wpAny_rule (wpAny_pure (hend true H s₁ _ I (h1 rfl) rfl (allBare_setGen I.bare hb) fun _ _ e => e)))
      | false =>
        simp only [Bool.false_eq_true, if_false]
        have hsz1 : g < s₁.gens.size := by
          have q : (s₁.setGen g gs').gens.size = s₁.gens.size := setGen_size _ _ _
          have hsz' : g + 1 ≤ (s₁.setGen g gs').gens.size := hsz
          omega
        have bare2 : AllBare (s₁.setGen g gs').gens := allBare_setGen I.bare hb
        exact wpAny_pure ⟨plainId_quiet F.plain_any_loop _, ih (s₁.setGen g gs') gs' (setGen_at hsz1) (h2 (by decide) _ ⟨_, allBare_setGen (s := s₁.setGen g gs') bare2 rfl, rfl⟩) (I.pin (a, go) (List.mem_append_left _ hpn)).1 I.nolimit⟩
    · intro _
      obtain ⟨H, I, q⟩ := hp
      exact wpAny_bind (wpAny_rule (wpAny_pure (hend false H s₁ _ I q rfl (allBare_setGen I.bare rfl) hk)))
end

/-! ### the expression -/
/-- all(elt for tg in iter if ..) (stop := false), any(..) (stop := true): P the table of the running def's code object, which may grow -/
def tAsk (stop : Bool) (P : Addr) (wi : TI) (g : TG) (tt : TT) (te : TE) (vs : List Nat) : TE := fun σ H Q => wi σ H fun J H1 => TabG H1 P ∧ ∀ H2, Tabbed P H1 H2 →
  ∃ W : Nat → Nat → Hp → Prop, (∃ m, W 0 m H2) ∧ TurnsOf J g tt te vs (wipe σ vs) stop Q W

section
variable {X : Cx} {pins : List (Addr × Obj)} {σ : L2.St} {H : Hp} {s : Shared} {tg elt iter : Expr} {ifs : List Expr} {scope : Scope} {pos : Pos} {wi : TI} {g : TG} {tt : TT} {te : TE} {own : List (Str × Nat)} {c P : Addr} {k : Nat} {stop : Bool} {Q : VK}
/-- the generator is made; it goes when it is woken -/
theorem gen_made {Q' : Value → Shared → Prop} (hr : Room (k + 1) X.A) (TB : TabB X.base X.mg c P) (hcode : X.env.code = .ref c) (hc : X.calm = true) (hN : X.N.Nodup) (hi : PI X tg iter wi) (ok : BlkOk X.N X.env.scope scope own)
    (hcell : ∀ y ∈ scope.names, y.2 ≠ .cell) (hdot : scope.names.lookup (".0" : Str) = some NameKind.local) (hco : scope.isCoroutine = false)
    (hg : ∀ (A : Around) (s : Shared) (H : Hp) (C : Addr) (code : Value) (fp : List Addr) (pn : List (Addr × Obj)), PG (gcx X A s H (genEnv scope (cloFrom X.env.cells scope.names []) C code builtinsNs X.env) fp pn) tg g)
    (ht : ∀ (A : Around) (s : Shared) (H : Hp) (C : Addr) (code : Value) (fp : List Addr) (pn : List (Addr × Obj)), Room k (A.deeper (genEnv scope (cloFrom X.env.cells scope.names []) C code builtinsNs X.env)) → PTs (gcx X A s H (genEnv scope (cloFrom X.env.cells scope.names []) C code builtinsNs X.env) fp pn) ifs tt)
    (he : ∀ (A : Around) (s : Shared) (H : Hp) (C : Addr) (code : Value) (fp : List Addr) (pn : List (Addr × Obj)), Room k (A.deeper (genEnv scope (cloFrom X.env.cells scope.names []) C code builtinsNs X.env)) → PE (gcx X A s H (genEnv scope (cloFrom X.env.cells scope.names []) C code builtinsNs X.env) fp pn) elt te)
    (hs : ∀ v, genFold iter X.env v = pure v) (I : Inv X pins σ H s) (h : tAsk stop P wi g tt te (own.map (·.2)) σ H Q)
    (hQ : ∀ (Z : Cx) (τ : L2.St) (a : Addr) (j n : Nat) (go : Obj) (gs : GenState) (s5 : Shared), Z.prog = X.prog → Z.w = X.w → (a, go) ∈ Z.pn → (∀ h : Heap, h.get? a = some go → h.IsGen a j) → s5.gens[j]? = some gs →
      gs.Goes (model X.prog X.w) X.A.in1.in1 (gEnd Z τ stop Q) (gYld Z τ stop Q) n (.send .none) (s5.setGen j .running) → s5.heap.get? a = some go → s5.heap.NoLimit →
      (∀ (b : Bool) (H' : Hp) (s1 s' : Shared), Inv Z [] τ H' s1 → Q (.bl b) H' → s'.os = s1.os → AllBare s'.gens → (∀ x o, s1.heap.get? x = some o → s'.heap.get? x = some o) → EP X pins σ Q (.bool b) s') → Q' (.ref a) s5) :
    wpAny (model X.prog X.w) X.A (eval (.GeneratorExp elt [⟨tg, iter, ifs, 0⟩] scope pos) X.env) Q' X.xe s := by
  have hfree : ∀ y ∈ scope.names, y.2 = .free → ∃ c, X.env.cells.lookup y.1 = some c := fun y hy e => by
    rcases ok.free y hy e with q | q
    · exact I.ok.has _ (.inl q)
    · exact I.ok.has _ (.inr q)
  refine wpAny_GeneratorExp_make hco (closure_ok hfree) hcell hdot ok.kind (by have := hr.dp; omega) ?_ hs
  refine thn (hi.run pins s σ H _ I h) fun xv s1 hx => thn hx fun itv s2 h2 => ?_
  obtain ⟨it, fp, tn, J, H2, rfl, I2, T, st2, f2, ⟨ps, hP, htri⟩, hW⟩ := h2
  have hPs : s2.heap.get? P = some { cls := .none, data := .fields ps } := I2.hok P _ hP
  have cd : PySem.W.CodeHd s2.heap c P := TB.code.keeps I2.bk
  have neP : ∀ b ∈ fp, b ≠ P := fun b hb z => by
    have q := (f2 b hb).1
    rw [z, hP] at q
    cases q
  refine ⟨I2.nolimit, ?_⟩
  have cont : ∀ (code : Value) (h3 : Heap) (tk : Nat) (more : Array Value), Heap.ExtBut P s2.heap h3 → s2.heap.objs.size ≤ h3.objs.size → h3.get? P = some { cls := .none, data := .fields (ps ++ more) } → TriplesOk (ps ++ more).toList →
      wpAny (model X.prog X.w) X.A (builtinsFor X.env.globals X.env.builtins) (fun bi s₄ => ∀ h', h'.Ns s₄.heap.objs.size (fun y => if y = ".0" then some (.ref it) else none) → Heap.SameBut s₄.heap.objs.size (s₄.heap.push { cls := .type "frame", data := .dict #[] }) h' →
          Q' (.ref h'.objs.size) { s₄ with
            gens := s₄.gens.push (.fresh (.compStart (.GeneratorExp elt [⟨tg, iter, ifs, 0⟩] scope pos) 0 (.ref it) .none (genEnv scope (cloFrom X.env.cells scope.names []) s₄.heap.objs.size code bi X.env))),
            toks := s₄.toks + 1 + 1 + 1,
            heap := h'.push { cls := .type "generator", data := .fields #[.int s₄.gens.size 0, .str "<genexpr>" (s₄.toks + 1), .str (X.env.qual ++ "<genexpr>") (s₄.toks + 1 + 1)] } }) X.xe { s2 with heap := h3, toks := tk } := by
    intro code h3 tk more hx hsz hP3 htri3
    have I3 : Inv X pins σ (upd H2 P (.tbl (ps ++ more))) { s2 with heap := h3, toks := tk } := inv_tab (g' := s2.gens) (d' := s2.drawn) (t' := tk) I2 hP (fun b u hb e => hx b u hb e) hP3 I2.bare
    have hT : Tabbed P H2 (upd H2 P (.tbl (ps ++ more))) := ⟨⟨ps ++ more, upd_same, htri3⟩, fun b hb => upd_ne hb⟩
    obtain ⟨W, ⟨m0, w0⟩, turn⟩ := hW _ hT
    generalize hH3 : upd H2 P (.tbl (ps ++ more)) = H3 at I3 w0
    have n3 : ∀ b ∈ fp, H3 b = none := fun b hb => by
      rw [← hH3, upd_ne (neP b hb)]
      exact (f2 b hb).1
    generalize hs3 : ({ s2 with heap := h3, toks := tk } : Shared) = s3 at I3 ⊢
    have e3 : s3.heap = h3 := by rw [← hs3]
    have f3 : ∀ b ∈ fp, FpOk X pins H3 b ∧ b < s3.heap.objs.size := fun b hb => by
      obtain ⟨o, e, _⟩ := T.obj _ _ st2 b hb
      refine ⟨⟨n3 b hb, (f2 b hb).2⟩, ?_⟩
      rw [e3]
      exact Nat.lt_of_lt_of_le (Heap.lt_size e) hsz
    have st3 : tn 0 s3.heap := T.keep _ _ _ st2 fun b hb o e => by
      rw [e3]
      exact hx b o (neP b hb) e
    obtain ⟨bm, ob, b1, b2, b3, b4, b5, b6, b7, b8⟩ := TB.bm
    refine wpAny_builtinsFor (m := X.mg) (by rw [I3.ok.glob]; exact I3.mod.glob.keeps I3.bk) b1 b2 (I3.bk _ _ b5) b6 b7 b8 ?_
    intro h' hn' hs'
    have hsz' : h'.objs.size = s3.heap.objs.size + 1 := by rw [hs'.1, Heap.size_push]
    have keep' : ∀ b o, s3.heap.get? b = some o → h'.get? b = some o := fun b o e => hs'.extBut b o (Nat.ne_of_lt (Heap.lt_size e)) (Heap.get?_push_of_some _ e)
    generalize hgo : ({ cls := .type "generator", data := .fields #[.int s3.gens.size 0, .str "<genexpr>" (s3.toks + 1), .str (X.env.qual ++ "<genexpr>") (s3.toks + 1 + 1)] } : Obj) = go
    generalize hce : genEnv scope (cloFrom X.env.cells scope.names []) s3.heap.objs.size code builtinsNs X.env = ce
    have keep5 : ∀ b o, s3.heap.get? b = some o → (h'.push go).get? b = some o := fun b o e => Heap.get?_push_of_some _ (keep' b o e)
    have hget : (h'.push go).get? h'.objs.size = some go := Heap.get?_push_size _ (by rw [← hgo]; rfl)
    have hgd : ∀ v, go.data ≠ .cell v := fun v q => by
      rw [← hgo] at q
      cases q
    have hgen : ∀ h : Heap, h.get? h'.objs.size = some go → h.IsGen h'.objs.size s3.gens.size := fun h e => ⟨go, _, _, e, by rw [← hgo], by rw [← hgo], by rw [← hgo]⟩
    have hA : X.A.in1.in1.handled = none := hr.hd
    have hfr : X.A.in1.in1.frames = some X.stack := I3.ok.frames
    have hroom : Room k (X.A.in1.in1.deeper ce) := ⟨hr.hd, by
      have := hr.dp
      show X.A.depth + 1 + 3 * k + 5 < _
      omega, by
      have := hr.un
      show X.A.units + 1 + 1 + 3 + 16 * k + 200 < _
      omega⟩
    have start : ∀ t : Shared, t.os = s3.os → AllBare t.gens → t.heap = h'.push go → Inv (gcx X X.A.in1.in1 s3 H3 ce fp [(h'.objs.size, go)]) [] (wipe σ (own.map (·.2))) H3 t := fun t q1 q2 q3 => by
      have nsF : t.heap.Ns s3.heap.objs.size (fun y => if y = ".0" then some (.ref it) else none) := by
        rw [q3]
        exact hn'.push _
      subst hce
      exact gen_start I3 ok hN hcell hA hfr f3 rfl rfl I3.ok.glob rfl rfl rfl q1 q2 (fun b o e => by rw [q3]; exact keep5 b o e) nsF (by rw [q3]; exact hget) (by rw [hsz']; exact Nat.lt_succ_self _) hgd
    have notFp : ∀ p ∈ [(h'.objs.size, go)], p.1 ∉ fp := fun p hp hm => by
      rw [List.mem_singleton.mp hp] at hm
      have z := (f3 _ hm).2
      rw [hsz'] at z
      exact absurd (Nat.lt_of_succ_lt z) (Nat.lt_irrefl _)
    refine hQ (gcx X X.A.in1.in1 s3 H3 ce fp [(h'.objs.size, go)]) (wipe σ (own.map (·.2))) h'.objs.size s3.gens.size (m0 + 1) go _ _ rfl rfl (List.mem_singleton.mpr rfl) hgen (Array.getElem?_push_size ..) ⟨rfl, ?_⟩ hget (I3.nolimit.keeps keep5) fun b H' t1 t' I' q' qo qb qk => ?_
    · have pgZ : PG (gcx X X.A.in1.in1 s3 H3 ce fp [(h'.objs.size, go)]) tg g := by
        subst hce
        exact hg _ _ _ _ _ _ _
      have ptZ : PTs (gcx X X.A.in1.in1 s3 H3 ce fp [(h'.objs.size, go)]) ifs tt := by
        subst hce
        exact ht _ _ _ _ _ _ _ hroom
      have peZ : PE (gcx X X.A.in1.in1 s3 H3 ce fp [(h'.objs.size, go)]) elt te := by
        subst hce
        exact he _ _ _ _ _ _ _ hroom
      have hco' : ce.scope.isCoroutine = false := by
        rw [← hce]
        exact hco
      have woken : ∀ t : Shared, t.os = s3.os → AllBare t.gens → t.heap = h'.push go → Seg (model X.prog X.w) X.A.in1.in1 (gEnd (gcx X X.A.in1.in1 s3 H3 ce fp [(h'.objs.size, go)]) (wipe σ (own.map (·.2))) stop Q) (gYld (gcx X X.A.in1.in1 s3 H3 ce fp [(h'.objs.size, go)]) (wipe σ (own.map (·.2))) stop Q) (m0 + 1) t
          (.compStart (.GeneratorExp elt [⟨tg, iter, ifs, 0⟩] scope pos) 0 (.ref it) .none ce) ((model X.prog X.w).den (.compStart (.GeneratorExp elt [⟨tg, iter, ifs, 0⟩] scope pos) 0 (.ref it) .none ce)) [] t := fun t q1 q2 q3 => by
        have st5 : tn 0 t.heap := T.keep _ _ _ st3 fun b _ o e => by
          rw [q3]
          exact keep5 b o e
        have loop := seg_gx (iter := iter) (scope := scope) (pos := pos) hc pgZ ptZ peZ T hco' turn notFp m0 (m0 + 1) (Nat.lt_succ_self _) 0 t t H3 w0 (start t q1 q2 q3) st5 n3
        show Seg _ X.A.in1.in1 _ _ _ t _ ((compStart (.GeneratorExp elt [⟨tg, iter, ifs, 0⟩] scope pos) 0 (.ref it) .none ce).onRaise (leaving ce)) [] t
        unfold compStart
        rw [Sem.onRaise_eq_wrap]
        show Seg _ X.A.in1.in1 _ _ _ t _ ((ask >>= _).wrap _ _ _ _) [] t
        refine seg_bind_wrap (wpAny_askSetting ?_)
        split
        · exact seg_again rfl loop
        · first
            | exact seg_bind_wrap (wpAny_rule (seg_bind_wrap (wpAny_standAt (seg_bind_wrap (T.self _ 0 t _ _ st5 (seg_again rfl loop))))))
            | (refine seg_bind_wrap (wpAny_rule ?_)
               show Seg _ X.A.in1.in1 _ _ _ t _ ((standAt iter.pos >>= _).wrap _ _ _ _) [] t
               exact seg_bind_wrap (wpAny_standAt (seg_bind_wrap (T.self _ 0 t _ _ st5 (seg_again rfl loop)))))
      exact woken _ rfl (allBare_setGen (s := { s3 with gens := s3.gens.push _, heap := h'.push go, toks := s3.toks + 1 + 1 + 1 }) (AllBare.push I3.bare rfl) rfl) rfl
    · have hfpX : ∀ b ∈ fp, (b ∈ X.ex ∨ X.s_0.heap.objs.size ≤ b) ∧ b ≠ X.env.locals ∧ (∀ x c, X.env.cells.lookup x = some c → c ≠ b) ∧ ∀ p ∈ X.pn ++ pins, p.1 ≠ b := fun b hb =>
        ⟨(f3 b hb).1.2.2.2.1, (f3 b hb).1.2.1, (f3 b hb).1.2.2.2.2.1, (f3 b hb).1.2.2.2.2.2⟩
      have un : Un (frs X.stack) fp H3 H' s3.heap t1.heap := I'.base
      have un2 : Un (frs X.stack) fp H3 H' s3.heap t'.heap := un.trans (Un.kept qk)
      exact ⟨.bl b, H', I3.call' (ch := fp) (qo.trans I'.os) un2 (I'.hok.kept qk) qb hfpX, rfl, q'⟩
  cases hf : codeAmong pos ps.toList with
  | none =>
    refine wpAny_genexprCodeX hcode (cd.code hPs htri) (cd.tab hPs) hf fun c' h3 tk hx hge hlt hco' _ htab' _ => ?_
    obtain ⟨o1, vs, f1, tf, fl, tg', inF, tx, tt', op, _, _, _, _, _, _, _, _, _, htr, _⟩ := hco'
    exact cont _ h3 tk _ hx (Nat.le_trans hge (Nat.le_of_lt hlt)) htab'.2 htr
  | some cv =>
    refine wpAny_genexprCode_hit hcode (cd.code hPs htri) hf ?_
    exact cont cv s2.heap s2.toks #[] (Heap.ExtBut.refl _ _) (Nat.le_refl _) (by simpa using hPs) (by simpa using htri)
/-- what is asked of the generator expression's own names -/
structure GenNames (scope : Scope) : Prop where
  nocell : ∀ y ∈ scope.names, y.2 ≠ .cell
  dot : scope.names.lookup (".0" : Str) = some NameKind.local
  plain : scope.isCoroutine = false
def genNamesB (scope : Scope) : Bool := (scope.names.all fun y => decide (y.2 ≠ .cell)) && decide (scope.names.lookup (".0" : Str) = some NameKind.local) && !scope.isCoroutine
theorem genNames_by (h : genNamesB scope = true) : GenNames scope := by
  unfold genNamesB at h
  simp only [Bool.and_eq_true, List.all_eq_true, decide_eq_true_eq, Bool.not_eq_true'] at h
  exact ⟨h.1.1, h.1.2, h.2⟩
theorem pe_all {p pos' : Pos} (hr : Room (k + 1) X.A) (hl : Gl X "all") (hm : X.mg "all" = none) (TB : TabB X.base X.mg c P) (hcode : X.env.code = .ref c) (hc : X.calm = true) (hN : X.N.Nodup) (hi : PI X tg iter wi) (ok : BlkOk X.N X.env.scope scope own) (gn : GenNames scope)
    (hg : ∀ (A : Around) (s : Shared) (H : Hp) (C : Addr) (code : Value) (fp : List Addr) (pn : List (Addr × Obj)), PG (gcx X A s H (genEnv scope (cloFrom X.env.cells scope.names []) C code builtinsNs X.env) fp pn) tg g)
    (ht : ∀ (A : Around) (s : Shared) (H : Hp) (C : Addr) (code : Value) (fp : List Addr) (pn : List (Addr × Obj)), Room k (A.deeper (genEnv scope (cloFrom X.env.cells scope.names []) C code builtinsNs X.env)) → PTs (gcx X A s H (genEnv scope (cloFrom X.env.cells scope.names []) C code builtinsNs X.env) fp pn) ifs tt)
    (he : ∀ (A : Around) (s : Shared) (H : Hp) (C : Addr) (code : Value) (fp : List Addr) (pn : List (Addr × Obj)), Room k (A.deeper (genEnv scope (cloFrom X.env.cells scope.names []) C code builtinsNs X.env)) → PE (gcx X A s H (genEnv scope (cloFrom X.env.cells scope.names []) C code builtinsNs X.env) fp pn) elt te)
    (hs : ∀ v, genFold iter X.env v = pure v := by intro _; rfl) (hb : bootBuiltins "all" = some (.builtin "all") := by decide +kernel)
    (hst : starEach [.GeneratorExp elt [⟨tg, iter, ifs, 0⟩] scope pos] X.env = (false, eval (.GeneratorExp elt [⟨tg, iter, ifs, 0⟩] scope pos) X.env) :: starEach [] X.env := by rfl) :
    PE X (.Call (.Name "all" p) [.GeneratorExp elt [⟨tg, iter, ifs, 0⟩] scope pos] [] pos') (tAsk false P wi g tt te (own.map (·.2))) := by
  refine ⟨fun pins s σ H Q I h => ?_⟩
  refine wpAny_Call_Name_kw (ld_blt I hl hm hb ?_)
  refine callWith_builtin1 ?_ hst (by rfl)
  rw [hst]
  show wpAny _ _ (spliced ((false, eval (.GeneratorExp elt [⟨tg, iter, ifs, 0⟩] scope pos) X.env) :: backTo pos' (starEach [] X.env))) _ _ s
  refine Calls.spliced_cons (gen_made hr TB hcode hc hN hi ok gn.nocell gn.dot gn.plain hg ht he hs I h fun Z τ a j n go gs s5 hp hw hpn hgo hgs hG hga hlim hend => ?_)
  refine Calls.spliced_nil (call_function_tree F.kind_all F.plain_all F.entry_all (F.args_all1 _) ?_)
  unfold Builtin.«all»
  refine wpAny_bind (m := oneArg "all" _) (wpAny_pure (wpAny_bind (wpAny_pyIter_gen (hgo _ hga) ?_)))
  refine wpAny_pure ⟨plainId_quiet F.plain_all_loop _, ?_⟩
  rw [← hp, ← hw] at hG ⊢
  exact all_loop (A := X.A) hr.hd hr.depth hpn hgo hend n s5 gs hgs hG hga hlim
theorem pe_any {p pos' : Pos} (hr : Room (k + 1) X.A) (hl : Gl X "any") (hm : X.mg "any" = none) (TB : TabB X.base X.mg c P) (hcode : X.env.code = .ref c) (hc : X.calm = true) (hN : X.N.Nodup) (hi : PI X tg iter wi) (ok : BlkOk X.N X.env.scope scope own) (gn : GenNames scope)
    (hg : ∀ (A : Around) (s : Shared) (H : Hp) (C : Addr) (code : Value) (fp : List Addr) (pn : List (Addr × Obj)), PG (gcx X A s H (genEnv scope (cloFrom X.env.cells scope.names []) C code builtinsNs X.env) fp pn) tg g)
    (ht : ∀ (A : Around) (s : Shared) (H : Hp) (C : Addr) (code : Value) (fp : List Addr) (pn : List (Addr × Obj)), Room k (A.deeper (genEnv scope (cloFrom X.env.cells scope.names []) C code builtinsNs X.env)) → PTs (gcx X A s H (genEnv scope (cloFrom X.env.cells scope.names []) C code builtinsNs X.env) fp pn) ifs tt)
    (he : ∀ (A : Around) (s : Shared) (H : Hp) (C : Addr) (code : Value) (fp : List Addr) (pn : List (Addr × Obj)), Room k (A.deeper (genEnv scope (cloFrom X.env.cells scope.names []) C code builtinsNs X.env)) → PE (gcx X A s H (genEnv scope (cloFrom X.env.cells scope.names []) C code builtinsNs X.env) fp pn) elt te)
    (hs : ∀ v, genFold iter X.env v = pure v := by intro _; rfl) (hb : bootBuiltins "any" = some (.builtin "any") := by decide +kernel)
    (hst : starEach [.GeneratorExp elt [⟨tg, iter, ifs, 0⟩] scope pos] X.env = (false, eval (.GeneratorExp elt [⟨tg, iter, ifs, 0⟩] scope pos) X.env) :: starEach [] X.env := by rfl) :
    PE X (.Call (.Name "any" p) [.GeneratorExp elt [⟨tg, iter, ifs, 0⟩] scope pos] [] pos') (tAsk true P wi g tt te (own.map (·.2))) := by
  refine ⟨fun pins s σ H Q I h => ?_⟩
  refine wpAny_Call_Name_kw (ld_blt I hl hm hb ?_)
  refine callWith_builtin1 ?_ hst (by rfl)
  rw [hst]
  show wpAny _ _ (spliced ((false, eval (.GeneratorExp elt [⟨tg, iter, ifs, 0⟩] scope pos) X.env) :: backTo pos' (starEach [] X.env))) _ _ s
  refine Calls.spliced_cons (gen_made hr TB hcode hc hN hi ok gn.nocell gn.dot gn.plain hg ht he hs I h fun Z τ a j n go gs s5 hp hw hpn hgo hgs hG hga hlim hend => ?_)
  refine Calls.spliced_nil (call_function_tree F.kind_any F.plain_any F.entry_any (F.args_any1 _) ?_)
  unfold Builtin.«any»
  refine wpAny_bind (m := oneArg "any" _) (wpAny_pure (wpAny_bind (wpAny_pyIter_gen (hgo _ hga) ?_)))
  refine wpAny_pure ⟨plainId_quiet F.plain_any_loop _, ?_⟩
  rw [← hp, ← hw] at hG ⊢
  exact any_loop (A := X.A) hr.hd hr.depth hpn hgo hend n s5 gs hgs hG hga hlim
end
end GX

set_option Elab.async false
set_option linter.all false
set_option maxRecDepth 100000
/-! The law's drawing: _law_begun, _law_draw, _law_pick. -/
namespace K02
open PySem PySem.Spec L2
open PyProof.Rows
def top (i : Nat) : Stmt := PySem.Challenge.pw_restsure_k00_errors_apart.main.body.getD i (.Pass ⟨0, 0, 0, 0⟩)
abbrev sBegun : Stmt := top 56 -- _law_begun
abbrev sDraw : Stmt := top 57 -- _law_draw
abbrev sPick : Stmt := top 58 -- _law_pick

/-! ### the state of the draws -/
abbrev kLarge : Key := Sum.inr ("large" : Str)
abbrev kCells : Key := Sum.inr ("cells" : Str)
abbrev kLeft : Key := Sum.inr ("left" : Str)
abbrev kTurn : Key := Sum.inr ("turn" : Str)
def stD (lg cl : Addr) (left turn : Int) : List (Key × V) := [(kLarge, .ref lg), (kCells, .ref cl), (kLeft, .int left), (kTurn, .int turn)]
theorem sne1 : ¬ ("large" : Str) = "cells" := by decide +kernel
theorem sne2 : ¬ ("large" : Str) = "left" := by decide +kernel
theorem sne3 : ¬ ("large" : Str) = "turn" := by decide +kernel
theorem sne4 : ¬ ("cells" : Str) = "left" := by decide +kernel
theorem sne5 : ¬ ("cells" : Str) = "turn" := by decide +kernel
theorem sne6 : ¬ ("left" : Str) = "turn" := by decide +kernel
theorem sne7 : ¬ ("turn" : Str) = "left" := by decide +kernel
theorem kne1 : ¬ kLarge = kCells := fun z => sne1 (Sum.inr.inj z)
theorem kne2 : ¬ kLarge = kLeft := fun z => sne2 (Sum.inr.inj z)
theorem kne3 : ¬ kLarge = kTurn := fun z => sne3 (Sum.inr.inj z)
theorem kne4 : ¬ kCells = kLeft := fun z => sne4 (Sum.inr.inj z)
theorem kne5 : ¬ kCells = kTurn := fun z => sne5 (Sum.inr.inj z)
theorem kne6 : ¬ kLeft = kTurn := fun z => sne6 (Sum.inr.inj z)
theorem st_large (lg cl : Addr) (a b : Int) : valV (stD lg cl a b) kLarge = some (.ref lg) := valV_pos rfl
theorem st_cells (lg cl : Addr) (a b : Int) : valV (stD lg cl a b) kCells = some (.ref cl) := by
  unfold stD
  rw [valV_neg kne1]
  exact valV_pos rfl
theorem st_left (lg cl : Addr) (a b : Int) : valV (stD lg cl a b) kLeft = some (.int a) := by
  unfold stD
  rw [valV_neg kne2, valV_neg kne4]
  exact valV_pos rfl
theorem st_turn (lg cl : Addr) (a b : Int) : valV (stD lg cl a b) kTurn = some (.int b) := by
  unfold stD
  rw [valV_neg kne3, valV_neg kne5, valV_neg kne6]
  exact valV_pos rfl
theorem put_left (lg cl : Addr) (a b c : Int) : putK (stD lg cl a b) kLeft (.int c) = stD lg cl c b := by
  unfold putK stD
  simp [sne2, sne4, sne7]
theorem put_turn (lg cl : Addr) (a b c : Int) : putK (stD lg cl a b) kTurn (.int c) = stD lg cl a c := by
  unfold putK stD
  simp [sne3, sne5, sne6]

theorem merge_st (lg cl : Addr) (a b : Int) : mergeK [] (stD lg cl a b) = stD lg cl a b := by
  unfold mergeK putK stD
  simp [sne1, sne2, sne3, sne4, sne5, sne6]
structure StAt (H : Hp) (st lg cl : Addr) (ls cs : List Int) (left turn : Int) (t : Nat) : Prop where
  d : H st = some (.dK (stD lg cl left turn))
  l : H lg = some (.lst (ls.map V.int))
  c : H cl = some (.lst (cs.map V.int))
  lp : ∀ x ∈ ls, 0 ≤ x
  l0 : 0 ≤ left
  t0 : 0 ≤ turn
  tt : turn ≤ t
  ll : ls.length ≤ 63
  cc : cs.length ≤ 63
  ne : lg ≠ cl
/-- the state of the draws stands at st, its lists at lg and cl; at most t turns are done -/
def StOk (H : Hp) (st lg cl : Addr) (t : Nat) : Prop := ∃ ls cs left turn, StAt H st lg cl ls cs left turn t
theorem StAt.ne1 {H : Hp} {st lg cl : Addr} {ls cs : List Int} {left turn : Int} {t : Nat} (S : StAt H st lg cl ls cs left turn t) : lg ≠ st := ne_of S.l S.d (by intro z; cases z)
theorem StAt.ne2 {H : Hp} {st lg cl : Addr} {ls cs : List Int} {left turn : Int} {t : Nat} (S : StAt H st lg cl ls cs left turn t) : cl ≠ st := ne_of S.c S.d (by intro z; cases z)
theorem StAt.keep {H H' : Hp} {st lg cl : Addr} {ls cs : List Int} {left turn : Int} {t : Nat} (S : StAt H st lg cl ls cs left turn t) (k : Same H H') : StAt H' st lg cl ls cs left turn t :=
  ⟨k _ _ S.d, k _ _ S.l, k _ _ S.c, S.lp, S.l0, S.t0, S.tt, S.ll, S.cc, S.ne⟩
theorem StOk.keep {H H' : Hp} {st lg cl : Addr} {t : Nat} (S : StOk H st lg cl t) (k : Same H H') : StOk H' st lg cl t := by
  obtain ⟨ls, cs, left, turn, S⟩ := S
  exact ⟨ls, cs, left, turn, S.keep k⟩
/-- all but the state of the draws is as it was -/
def But (st lg : Addr) (H H' : Hp) : Prop := ∀ b o, H b = some o → b ≠ st → b ≠ lg → H' b = some o
theorem But.refl (st lg : Addr) (H : Hp) : But st lg H H := fun _ _ h _ _ => h
theorem But.trans {st lg : Addr} {H H1 H2 : Hp} (a : But st lg H H1) (b : But st lg H1 H2) : But st lg H H2 := fun c o h n1 n2 => b c o (a c o h n1 n2) n1 n2
theorem But.of {st lg : Addr} {H H' : Hp} (k : Same H H') : But st lg H H' := fun c o h _ _ => k c o h
theorem same_new {H : Hp} {p : Addr} {o : HO} (h : H p = none) : Same H (upd H p o) := fun b x e => by
  rw [upd_ne (ne_of_none e h)]
  exact e
theorem but_st {st lg : Addr} {H : Hp} {o : HO} : But st lg H (upd H st o) := fun b x e n1 _ => by
  rw [upd_ne n1]
  exact e
theorem but_lg {st lg : Addr} {H : Hp} {o : HO} : But st lg H (upd H lg o) := fun b x e _ n2 => by
  rw [upd_ne n2]
  exact e

theorem StAt.gLarge {H : Hp} {st lg cl : Addr} {ls cs : List Int} {left turn : Int} {t : Nat} (S : StAt H st lg cl ls cs left turn t) : DGet H st (.str "large") (some (.ref lg)) := by
  rw [← st_large lg cl left turn]
  exact DGet.k (k := kLarge) S.d
theorem StAt.gCells {H : Hp} {st lg cl : Addr} {ls cs : List Int} {left turn : Int} {t : Nat} (S : StAt H st lg cl ls cs left turn t) : DGet H st (.str "cells") (some (.ref cl)) := by
  rw [← st_cells lg cl left turn]
  exact DGet.k (k := kCells) S.d
theorem StAt.gLeft {H : Hp} {st lg cl : Addr} {ls cs : List Int} {left turn : Int} {t : Nat} (S : StAt H st lg cl ls cs left turn t) : DGet H st (.str "left") (some (.int left)) := by
  rw [← st_left lg cl left turn]
  exact DGet.k (k := kLeft) S.d
theorem StAt.gTurn {H : Hp} {st lg cl : Addr} {ls cs : List Int} {left turn : Int} {t : Nat} (S : StAt H st lg cl ls cs left turn t) : DGet H st (.str "turn") (some (.int turn)) := by
  rw [← st_turn lg cl left turn]
  exact DGet.k (k := kTurn) S.d
theorem StAt.pLeft {H : Hp} {st lg cl : Addr} {ls cs : List Int} {left turn : Int} {t : Nat} (S : StAt H st lg cl ls cs left turn t) (v : Int) : DPut H st (.str "left") (.int v) (upd H st (.dK (stD lg cl v turn))) := by
  rw [← put_left lg cl left turn v]
  exact DPut.k (k := kLeft) S.d (small1000 (by show 4 ≤ 1000; decide))
theorem StAt.pTurn {H : Hp} {st lg cl : Addr} {ls cs : List Int} {left turn : Int} {t : Nat} (S : StAt H st lg cl ls cs left turn t) (v : Int) : DPut H st (.str "turn") (.int v) (upd H st (.dK (stD lg cl left v))) := by
  rw [← put_turn lg cl left turn v]
  exact DPut.k (k := kTurn) S.d (small1000 (by show 4 ≤ 1000; decide))
theorem StAt.setLeft {H : Hp} {st lg cl : Addr} {ls cs : List Int} {left turn : Int} {t : Nat} (S : StAt H st lg cl ls cs left turn t) {v : Int} (hv : 0 ≤ v) : StAt (upd H st (.dK (stD lg cl v turn))) st lg cl ls cs v turn t :=
  ⟨upd_same, by rw [upd_ne S.ne1]; exact S.l, by rw [upd_ne S.ne2]; exact S.c, S.lp, hv, S.t0, S.tt, S.ll, S.cc, S.ne⟩
theorem StAt.setTurn {H : Hp} {st lg cl : Addr} {ls cs : List Int} {left turn : Int} {t : Nat} (S : StAt H st lg cl ls cs left turn t) : StAt (upd H st (.dK (stD lg cl left (turn + 1)))) st lg cl ls cs left (turn + 1) (t + 1) :=
  ⟨upd_same, by rw [upd_ne S.ne1]; exact S.l, by rw [upd_ne S.ne2]; exact S.c, S.lp, S.l0, Int.le_add_one S.t0, by have := S.tt; omega, S.ll, S.cc, S.ne⟩
theorem StAt.pop {H : Hp} {st lg cl : Addr} {x : Int} {ls cs : List Int} {left turn : Int} {t : Nat} (S : StAt H st lg cl (x :: ls) cs left turn t) : StAt (upd H lg (.lst (ls.map V.int))) st lg cl ls cs left turn t :=
  ⟨by rw [upd_ne S.ne1.symm]; exact S.d, upd_same, by rw [upd_ne S.ne.symm]; exact S.c, fun y hy => S.lp y (List.mem_cons_of_mem _ hy), S.l0, S.t0, S.tt, Nat.le_of_succ_le S.ll, S.cc, S.ne⟩

theorem StAt.more {H : Hp} {st lg cl : Addr} {ls cs : List Int} {left turn : Int} {t : Nat} (S : StAt H st lg cl ls cs left turn t) : StAt H st lg cl ls cs left turn (t + 1) :=
  ⟨S.d, S.l, S.c, S.lp, S.l0, S.t0, by have := S.tt; omega, S.ll, S.cc, S.ne⟩
theorem StAt.lstL {K : PySem.W.Frag} {H : Hp} {st lg cl : Addr} {ls cs : List Int} {left turn : Int} {t : Nat} (S : StAt H st lg cl ls cs left turn t) : SqL K H lg (ls.map V.int) := .inl (.inl S.l)
theorem StAt.lstC {K : PySem.W.Frag} {H : Hp} {st lg cl : Addr} {ls cs : List Int} {left turn : Int} {t : Nat} (S : StAt H st lg cl ls cs left turn t) : SqL K H cl (cs.map V.int) := .inl (.inl S.c)

theorem seq0 (n : Nat) : seqIndex? 0 (n + 1) = some 0 := by
  unfold seqIndex?
  simp
theorem dp_ints {K : PySem.W.Frag} {H : Hp} : ∀ ns : List Int, DpAll K H (ns.map V.int) (ns.map PyData.int)
  | [] => .nil
  | n :: r => .cons (.int n) (dp_ints r)
theorem eqv_nil (ns : List Int) : PyData.eqv (.list (ns.map PyData.int)) (.list []) = ns.isEmpty := by
  cases ns with
  | nil => rfl
  | cons n r => rfl

def spDraw : Sp := fun vs H Q _ => ∃ (st lg cl : Addr) (t : Nat) (n : Int), vs = [.ref st, .int n] ∧ 0 < n ∧ n < 1073741824 ∧ t < 1000000000 ∧ StOk H st lg cl t ∧
  ∀ (k : Int) (H' : Hp), 0 ≤ k → k < n → StOk H' st lg cl (t + 1) → But st lg H H' → Q (.int k) H'

theorem small1 (z : Int) {turn : Int} {t : Nat} (t0 : 0 ≤ turn) (tb : turn ≤ t) (ht : t < 1000000000) : (z % 2147483563 + 40692 * (turn + 1) + 24681).natAbs < 2 ^ 64 := by
  have h1 : 0 ≤ z % 2147483563 := Int.emod_nonneg _ (by decide)
  have h2 : z % 2147483563 < 2147483563 := Int.emod_lt_of_pos _ (by decide)
  omega
theorem small2 (z : Int) {turn : Int} {t : Nat} (t0 : 0 ≤ turn) (tb : turn ≤ t) (ht : t < 1000000000) : (z % 2147483629 + 104917 * (turn + 1)).natAbs < 2 ^ 64 := by
  have h1 : 0 ≤ z % 2147483629 := Int.emod_nonneg _ (by decide)
  have h2 : z % 2147483629 < 2147483629 := Int.emod_lt_of_pos _ (by decide)
  omega

section
variable {P : Program} {w : World} {K : PySem.W.Frag} {mg : Str → Option Value} {base : Heap}
theorem scDraw : FnScope ["state", "size_here", "found", "turn", "cell", "mixed"] ["state", "size_here"] (defScope sDraw) := ⟨rfl, rfl, rfl, by decide +kernel, rfl, by decide +kernel, by decide +kernel⟩
theorem ok_draw {f : Addr} {fd : FuncData} (F : Fun K "_law_draw" "_law_draw" sDraw f fd) (mint : mg "int" = none) (mlen : mg "len" = none) : FnOk P w K mg base CX0 1 f fd ["state", "size_here"] spDraw := by
  refine F.ok scDraw (fun vs H Q E h => ?_) (fun cdv A outer s H vs Q E hr h => ?_)
  · obtain ⟨st, lg, cl, t, n, rfl, _⟩ := h
    rfl
  · obtain ⟨st, lg, cl, t, n, rfl, hn0, hn1, ht, S, q⟩ := h
    have hu := hu_of hr
    have hu64 := hr.units
    refine ⟨_, pss_cons (ps_while PassesOwn.never (pw_and (pt_cmpR op_eq (pe_dget hu (pv 0) pe_str (fun _ _ => rfl)) pe_int (nomark _)) (pw_and1 (pt_cmpR (op_neD hu64) (pe_dget hu (pv 0) pe_str (fun _ _ => rfl)) (pe_lst pa_nil) (nomark _)))).pt
        (pss_one (ps_dput hu (pv 0) pe_str (pe_bm PySem.F.plainAttrs_list PySem.F.slot_list_pop PySem.F.type_list_pop mt_popAt (pe_dget hu (pv 0) pe_str (fun _ _ => rfl)) (pa_cons pe_int pa_nil)) rfl)))
      (pss_cons (ps_if (pt_cmpR op_gt (pe_dget hu (pv 0) pe_str (fun _ _ => rfl)) pe_int (nomark _))
        (pss_cons (ps_set (i := 2) scDraw.nd rfl (Or.inl rfl) (pe_op op_mod (pe_callTy call_int1 (by rfl) mint (by decide +kernel) (pa_cons (pe_dget hu (pv 0) pe_str (fun _ _ => rfl)) pa_nil)) (pv 1)))
          (pss_cons (ps_dput hu (pv 0) pe_str (pe_op op_fdiv (pe_dget hu (pv 0) pe_str (fun _ _ => rfl)) (pv 1)) rfl)
            (pss_one (ps_ret (pv 2))))) pss_nil)
      (pss_cons (ps_set (i := 3) scDraw.nd rfl (Or.inl rfl) (pe_op op_add (pe_dget hu (pv 0) pe_str (fun _ _ => rfl)) pe_int))
      (pss_cons (ps_dput hu (pv 0) pe_str (pv 3) rfl)
      (pss_cons (ps_set (i := 4) scDraw.nd rfl (Or.inl rfl) (pe_ifExp (pt_cmpR (op_neD hu64) (pe_dget hu (pv 0) pe_str (fun _ _ => rfl)) (pe_lst pa_nil) (nomark _))
        (pe_ix ix_list (pe_dget hu (pv 0) pe_str (fun _ _ => rfl)) (pe_op op_mod (pe_callTy call_int1 (by rfl) mint (by decide +kernel) (pa_cons (pv 3) pa_nil)) (pe_callB call_len_seq (by rfl) mlen PySem.boot_len (pa_cons (pe_dget hu (pv 0) pe_str (fun _ _ => rfl)) pa_nil))) (fun _ _ => rfl)) pe_int))
      (pss_cons (ps_set (i := 5) scDraw.nd rfl (Or.inl rfl) (pe_op op_mod (pe_callTy call_int1 (by rfl) mint (by decide +kernel) (pa_cons (pe_op op_pow (pe_op op_add (pe_op op_add (pe_op op_mod (pe_callTy call_int1 (by rfl) mint (by decide +kernel) (pa_cons (pv 4) pa_nil)) pe_int) (pe_op op_mul pe_int (pv 3))) pe_int) pe_int) pa_nil)) pe_int))
      (pss_one (ps_ret (pe_op op_mod (pe_callTy call_int1 (by rfl) mint (by decide +kernel) (pa_cons (pe_op op_fdiv (pe_op op_mod (pe_callTy call_int1 (by rfl) mint (by decide +kernel) (pa_cons (pe_op op_pow (pe_op op_add (pv 5) (pe_op op_mul pe_int (pv 3))) pe_int) pa_nil)) pe_int) pe_int) pa_nil)) (pv 1))))))))), ?_⟩
    obtain ⟨ls0, cs, left0, turn, S0⟩ := S
    refine ⟨fun m σ H1 => σ = [some (.ref st), some (.int n), none, none, none, none] ∧ ∃ ls left, m = ls.length ∧ StAt H1 st lg cl ls cs left turn t ∧ But st lg H H1, ⟨_, rfl, ls0, left0, rfl, S0, But.refl _ _ _⟩, fun m σ H1 hW => ?_⟩
    obtain ⟨rfl, ls, left, rfl, S1, B1⟩ := hW
    refine ⟨_, rfl, st, _, rfl, S1.gLeft, rfl, _, rfl, ite2 (fun e => ?ga) (fun e => iteF ?gb)⟩
    case' ga =>
      refine ⟨_, rfl, st, _, rfl, S1.gLarge, Nat.zero_le _, fun p np => ⟨.list (ls.map PyData.int), .list [], .lst (S1.keep (same_new np)).lstL (dp_ints ls), .lst (.inl (.inl upd_same)) .nil, PySem.W.ke_shaped_ints ls, PySem.W.ke_shaped_ints [], _, rfl, ?_⟩⟩
      have S1 := S1.keep (same_new (o := .lst []) np)
      have B1 := B1.trans (But.of (same_new (o := .lst []) np))
      rcases ls with _ | ⟨x, r⟩
      case cons =>
        refine iteT ⟨fun σ' H' => σ' = [some (.ref st), some (.int n), none, none, none, none] ∧ ∃ left', StAt H' st lg cl r cs left' turn t ∧ But st lg H H', fun σ' H' ⟨e', left', S', B'⟩ => ⟨r.length, Nat.lt_succ_self _, e', r, left', rfl, S', B'⟩, ?_⟩
        have S3 := S1.pop
        exact ⟨_, rfl, st, _, rfl, S1.gLarge, .inl ⟨rfl, _, S1.lstL⟩, lg, _, 0, 0, .int x, rfl, rfl, S1.l, by decide, by decide, seq0 _, rfl, _, rfl, st, _, rfl, S3.pLeft x, rfl, x, S3.setLeft (S1.lp x (List.mem_cons_self ..)), B1.trans (but_lg.trans but_st)⟩
      refine iteF ?_
    all_goals
      -- if state['left'] > 0
      refine ⟨_, rfl, st, _, rfl, S1.gLeft, _, _, rfl, rfl, _, rfl, ite2 (fun e => ?_) (fun e => ?_)⟩
      · -- some are left
        refine ⟨_, rfl, st, _, rfl, S1.gLeft, .inl ⟨_, rfl, _, rfl, _, _, rfl, rfl, hn0, ?_⟩⟩
        refine ⟨_, rfl, st, _, rfl, S1.gLeft, _, rfl, _, _, rfl, rfl, ⟨hn0, hn1⟩, _, rfl, st, _, rfl, S1.pLeft _, _, rfl, ?_⟩
        exact q _ _ (Int.emod_nonneg _ (Int.ne_of_gt hn0)) (Int.emod_lt_of_pos _ hn0) ⟨_, _, _, _, (S1.setLeft (Int.ediv_nonneg S1.l0 (Int.le_of_lt hn0))).more⟩ (B1.trans but_st)
      · -- turn = state['turn'] + 1; state['turn'] = turn
        refine ⟨_, rfl, st, _, rfl, S1.gTurn, _, _, rfl, rfl, _, rfl, _, rfl, st, _, rfl, S1.pTurn _, ?_⟩
        have S2 := S1.setTurn
        have B2 := B1.trans (but_st (o := .dK (stD lg cl left (turn + 1))))
        refine ⟨_, rfl, st, _, rfl, S2.gCells, Nat.zero_le _, fun p2 np2 => ⟨.list (cs.map PyData.int), .list [], .lst (S2.keep (same_new np2)).lstC (dp_ints cs), .lst (.inl (.inl upd_same)) .nil, PySem.W.ke_shaped_ints cs, PySem.W.ke_shaped_ints [], _, rfl, ?_⟩⟩
        have S3 := S2.keep (same_new (o := .lst []) np2)
        have B3 := B2.trans (But.of (same_new (o := .lst []) np2))
        have tb := S1.tt
        have t0 := S1.t0
        rcases cs with _ | ⟨y, r⟩
        case' cons =>
          have hpos : (0 : Int) < ((y :: r).map V.int).length := by
            rw [List.length_map, List.length_cons]
            omega
          have i0 : 0 ≤ (turn + 1) % (((y :: r).map V.int).length : Int) := Int.emod_nonneg _ (Int.ne_of_gt hpos)
          have i1 : (turn + 1) % (((y :: r).map V.int).length : Int) < ((y :: r).map V.int).length := Int.emod_lt_of_pos _ hpos
          obtain ⟨j, hj⟩ : ∃ j : Nat, (turn + 1) % (((y :: r).map V.int).length : Int) = j := ⟨_, (Int.toNat_of_nonneg i0).symm⟩
          rw [hj] at i1
          have j1 : j < (y :: r).length := by
            rw [List.length_map] at i1
            omega
          have hat : atI ((y :: r).map V.int) ((turn + 1) % (((y :: r).map V.int).length : Int)) = some (.int ((y :: r)[j])) := by
            rw [hj]
            refine atI_nat ?_
            rw [List.getElem?_map, List.getElem?_eq_getElem j1]
            rfl
          refine iteT ⟨_, rfl, st, _, rfl, S3.gCells, _, rfl, .inl ⟨_, rfl, _, rfl, st, _, rfl, S3.gCells, cl, _, rfl, .inl S3.lstC, _, _, rfl, rfl, hpos, cl, _, _, _, rfl, rfl, S3.lstC, hat, ?_⟩⟩
        case' nil => refine iteF ?_
        all_goals
          -- mixed = ..
          refine ⟨_, rfl, .inl ⟨_, rfl, _, _, rfl, rfl, (by show (0 : Int) < 2147483563; decide), _, rfl, _, _, rfl, rfl, .inl ⟨by decide, by decide⟩, _, _, rfl, rfl, _, _, rfl, rfl, _, _, rfl, rfl, ⟨by decide, by decide, small1 _ t0 tb ht⟩, .inl ⟨_, rfl, _, _, rfl, rfl, (by show (0 : Int) < 2147483629; decide), ?_⟩⟩⟩
          -- return ..
          refine ⟨_, rfl, _, rfl, _, _, rfl, rfl, .inl ⟨by decide, by decide⟩, _, _, rfl, rfl, _, _, rfl, rfl, ⟨by decide, by decide, small2 _ t0 tb ht⟩, .inl ⟨_, rfl, _, _, rfl, rfl, (by show (0 : Int) < 2147483579; decide), _, _, rfl, rfl, ⟨by decide, by decide⟩, .inl ⟨_, rfl, _, rfl, _, _, rfl, rfl, hn0, ?_⟩⟩⟩
          exact q _ _ (Int.emod_nonneg _ (Int.ne_of_gt hn0)) (Int.emod_lt_of_pos _ hn0) ⟨_, _, _, _, S3⟩ B3
/-! ### _law_begun -/
def absI (z : Int) : Int := if z < 0 then -z else z
theorem absI_nonneg (z : Int) : 0 ≤ absI z := by
  unfold absI
  split <;> omega
def big (cs : List Int) : List Int := (cs.filter fun c => decide (10 ^ 18 ≤ c)).map fun c => c - 10 ^ 18
theorem big_nonneg (cs : List Int) : ∀ x ∈ big cs, 0 ≤ x := fun x hx => by
  obtain ⟨y, hy, rfl⟩ := List.mem_map.mp hx
  have h := of_decide_eq_true (List.mem_filter.mp hy).2
  omega
theorem big_len (cs : List Int) : (big cs).length ≤ cs.length := by
  unfold big
  rw [List.length_map]
  exact List.length_filter_le _ _
theorem big_snoc (cs : List Int) (c : Int) : big (cs ++ [c]) = if (10 ^ 18 ≤ c) then big cs ++ [c - 10 ^ 18] else big cs := by
  unfold big
  rw [List.filter_append, List.map_append]
  by_cases h : (10 ^ 18 : Int) ≤ c
  · rw [if_pos h, List.filter_cons_of_pos (by simpa using h)]
    rfl
  · rw [if_neg h, List.filter_cons_of_neg (by simpa using h)]
    simp
theorem take_snoc {α : Type} {xs : List α} {i : Nat} {x : α} (h : xs[i]? = some x) : xs.take (i + 1) = xs.take i ++ [x] := by
  rw [List.take_add_one, h]
  rfl
def spBegun (K : PySem.W.Frag) : Sp := fun vs H Q _ => ∃ (a : Addr) (ns : List Int), vs = [.ref a] ∧ SqL K H a (ns.map V.int) ∧ ns.length ≤ 63 ∧
  ∀ (st lg cl : Addr) (H' : Hp), StOk H' st lg cl 0 → Same H H' → H st = none → H lg = none → H cl = none → Q (.ref st) H'
theorem scBegun : FnScope ["script", "cells_here", "large", "cell"] ["script"] (defScope sBegun) := ⟨rfl, rfl, rfl, by decide +kernel, rfl, by decide +kernel, by decide +kernel⟩
theorem ok_begun {f : Addr} {fd : FuncData} (F : Fun K "_law_begun" "_law_begun" sBegun f fd) (mabs : mg "abs" = none) : FnOk P w K mg base CX0 1 f fd ["script"] (spBegun K) := by
  refine F.ok scBegun (fun vs H Q E h => ?_) (fun cdv A outer s H vs Q E hr h => ?_)
  · obtain ⟨a, ns, rfl, _⟩ := h
    rfl
  · obtain ⟨a, ns, rfl, hS, hl, q⟩ := h
    refine ⟨_, pss_cons (ps_setLc (i := 1) (own := [("cell", 3)]) (g := gName 3) (tt := tYes) rfl scBegun.nd rfl rfl (sw_true rfl rfl rfl (by decide +kernel)) (pi_list (pv 0)) (blkOk_by (N := ["script", "cells_here", "large", "cell"]) (sc := defScope sBegun) (by decide +kernel))
        (fun _ _ _ _ _ => pg_name (i := 3) scBegun.nd rfl (Or.inl rfl)) (fun _ _ _ _ _ => pts_nil) (fun _ _ _ _ _ => pe_callB call_abs (by rfl) mabs (by decide +kernel) (pa_cons (pv 3) pa_nil)))
      (pss_cons (ps_setLc (i := 2) (own := [("cell", 3)]) (g := gName 3) rfl scBegun.nd rfl rfl (sw_true rfl rfl rfl (by decide +kernel)) (pi_list (pv 1)) (blkOk_by (N := ["script", "cells_here", "large", "cell"]) (sc := defScope sBegun) (by decide +kernel))
        (fun _ _ _ _ _ => pg_name (i := 3) scBegun.nd rfl (Or.inl rfl)) (fun _ _ _ _ _ => pts_one (pt_cmpR op_ge (pv 3) (pe_op op_pow pe_int pe_int) (nomark _))) (fun _ _ _ _ _ => pe_op op_sub (pv 3) (pe_op op_pow pe_int pe_int)))
      (pss_one (ps_ret (pe_disp (pps_cons pe_str (pv 2) (pps_cons pe_str (pv 1) (pps_cons pe_str pe_int (pps_cons pe_str pe_int pps_nil)))) (by rfl) (by rfl) (fun z => by cases z) (by decide))))), ?_⟩
    refine ⟨_, rfl, a, rfl, ⟨_, hS⟩, fun D nD => lc_list (K := K) (a := a) (xs := ns.map V.int) (fun i H1 => Same H H1 ∧ H1 D = some (.lst (((ns.take i).map absI).map V.int))) ⟨same_new nD, upd_same⟩ (fun i H1 _ h1 => h1.1.seq hS) (fun i x H1 hi ⟨s1, e1⟩ => ?_) (fun H1 ⟨s1, e1⟩ => ?_)⟩
    · rw [List.getElem?_map] at hi
      obtain ⟨z, hz, rfl⟩ := Option.map_eq_some_iff.mp hi
      have hlt : i < ns.length := (List.getElem?_eq_some_iff.mp hz).1
      refine ⟨rfl, _, rfl, z, rfl, _, e1, ?_, fun b o e => ?_, ?_⟩
      · rw [List.length_map, List.length_map, List.length_take]
        exact small1000 (by omega)
      · rw [upd_ne (ne_of_none e nD)]
        exact s1 b o e
      · rw [upd_same, take_snoc hz, List.map_append, List.map_append]
        rfl
    · have e1' : H1 D = some (.lst ((ns.map absI).map V.int)) := by
        rw [List.length_map, List.take_length] at e1
        exact e1
      clear e1
      have hS1 : SqL K H1 D ((ns.map absI).map V.int) := .inl (.inl e1')
      refine ⟨_, rfl, D, rfl, ⟨_, hS1⟩, fun D2 nD2 => lc_list (K := K) (a := D) (xs := (ns.map absI).map V.int) (fun i H2 => Same H1 H2 ∧ H2 D2 = some (.lst ((big ((ns.map absI).take i)).map V.int))) ⟨same_new nD2, upd_same⟩ (fun i H2 _ h2 => h2.1.seq hS1) (fun i x H2 hi ⟨s2, e2⟩ => ?_) (fun H2 ⟨s2, e2⟩ => ?_)⟩
      · rw [List.getElem?_map] at hi
        obtain ⟨z, hz, rfl⟩ := Option.map_eq_some_iff.mp hi
        have hlen : ((big ((ns.map absI).take i)).map V.int).length < sizeLine := by
          have h1 := big_len ((ns.map absI).take i)
          rw [List.length_take, List.length_map] at h1
          rw [List.length_map]
          exact small1000 (by omega)
        refine ⟨rfl, _, rfl, _, _, rfl, rfl, ⟨by decide, by decide, by decide⟩, _, _, rfl, rfl, _, rfl, ite2 (fun hc => ?_) (fun hc => ?_)⟩
        · have hc : (10 ^ 18 : Int) ≤ z := of_decide_eq_true hc
          refine ⟨_, rfl, _, _, rfl, rfl, ⟨by decide, by decide, by decide⟩, _, _, rfl, rfl, _, e2, hlen, fun b o e => ?_, ?_⟩
          · rw [upd_ne (ne_of_none e nD2)]
            exact s2 b o e
          · rw [upd_same, take_snoc hz, big_snoc, if_pos hc, List.map_append]
            rfl
        · have hc : ¬ (10 ^ 18 : Int) ≤ z := fun z' => hc (decide_eq_true z')
          refine ⟨s2, ?_⟩
          rw [take_snoc hz, big_snoc, if_neg hc]
          exact e2
      · have e2' : H2 D2 = some (.lst ((big (ns.map absI)).map V.int)) := by
          rw [List.length_map, List.take_length] at e2
          exact e2
        have e1'' : H2 D = some (.lst ((ns.map absI).map V.int)) := s2 _ _ e1'
        intro p np
        refine ⟨_, rfl, _, rfl, upd_same, stD D2 D 0 0, rfl, (by show 4 ≤ 15; decide), ?_⟩
        rw [merge_st]
        have n1 : D ≠ D2 := fun z => by
          rw [z, nD2] at e1'
          cases e1'
        have up : upd (upd H2 p (HO.dK [])) p (.dK (stD D2 D 0 0)) = upd H2 p (.dK (stD D2 D 0 0)) := by
          funext b
          by_cases hb : b = p
          · rw [hb, upd_same, upd_same]
          · rw [upd_ne hb, upd_ne hb, upd_ne hb]
        rw [up]
        refine q p D2 D _ ⟨big (ns.map absI), ns.map absI, 0, 0, upd_same, ?_, ?_, big_nonneg _, Int.le_refl _, Int.le_refl _, Int.le_refl _, ?_, ?_, n1.symm⟩ (fun b o e => same_new np _ _ (s2 _ _ (s1 _ _ e))) (s1.free (s2.free np)) (s1.free nD2) nD
        · rw [upd_ne (ne_of_none e2' np)]
          exact e2'
        · rw [upd_ne (ne_of_none e1'' np)]
          exact e1''
        · have h1 := big_len (ns.map absI)
          rw [List.length_map] at h1
          omega
        · rw [List.length_map]
          exact hl

/-! ### _law_pick -/
def spPick (K : PySem.W.Frag) : Sp := fun vs H Q _ => ∃ (st lg cl a : Addr) (t : Nat) (xs : List V), vs = [.ref st, .ref a] ∧ 0 < xs.length ∧ xs.length ≤ 1000 ∧ a ≠ st ∧ a ≠ lg ∧ SqL K H a xs ∧ t < 1000000000 ∧ StOk H st lg cl t ∧
  ∀ (x : V) (H' : Hp), x ∈ xs → StOk H' st lg cl (t + 1) → But st lg H H' → Q x H'
theorem But.seq {st lg a : Addr} {H H' : Hp} {xs : List V} (k : But st lg H H') (n1 : a ≠ st) (n2 : a ≠ lg) (h : SqL K H a xs) : SqL K H' a xs := by
  rcases h with (h | ⟨o, h⟩) | h
  · exact .inl (.inl (k _ _ h n1 n2))
  · exact .inl (.inr ⟨o, k _ _ h n1 n2⟩)
  · exact .inr h
theorem scPick : FnScope ["state", "several"] ["state", "several"] (defScope sPick) := ⟨rfl, rfl, rfl, by decide +kernel, rfl, by decide +kernel, by decide +kernel⟩
theorem ok_pick {f fD : Addr} {fd fdD : FuncData} (F : Fun K "_law_pick" "_law_pick" sPick f fd) (mlen : mg "len" = none) (GD : FnOk P w K mg base CX0 1 fD fdD ["state", "size_here"] spDraw) (kD : PySem.W.keepIn K (.ref fD) = true) (bD : Binds K fdD ["state", "size_here"] []) (mD : mg "_law_draw" = some (.ref fD)) :
    FnOk P w K mg base CX0 2 f fd ["state", "several"] (spPick K) := by
  refine F.ok scPick (fun vs H Q E h => ?_) (fun cdv A outer s H vs Q E hr h => ?_)
  · obtain ⟨st, lg, cl, a, t, xs, rfl, _⟩ := h
    rfl
  · obtain ⟨st, lg, cl, a, t, xs, rfl, h0, h1, n1, n2, hS, ht, S, q⟩ := h
    refine ⟨_, pss_one (ps_ret (pe_ix ix_list (pv 1) (pe_call GD hr (by rfl) mD kD bD .nil pass0 (pa_cons (pv 0) (pa_cons (pe_callB call_len_seq (by rfl) mlen PySem.boot_len (pa_cons (pv 1) pa_nil)) pa_nil))) (fun _ _ => rfl))), ?_⟩
    refine ⟨_, rfl, _, rfl, _, rfl, a, xs, rfl, .inl hS, st, lg, cl, t, _, rfl, by omega, by omega, ht, S, fun k H' k0 k1 S' B' => ?_⟩
    obtain ⟨j, rfl⟩ : ∃ j : Nat, k = j := ⟨k.toNat, (Int.toNat_of_nonneg k0).symm⟩
    have j1 : j < xs.length := by omega
    exact ⟨a, xs, _, xs[j], rfl, rfl, B'.seq n1 n2 hS, atI_nat (List.getElem?_eq_getElem j1), q _ _ (List.getElem_mem j1) S' B'⟩
end
end K02

set_option Elab.async false
set_option linter.all false
set_option maxRecDepth 100000
/-! Kinds of values; defs with a code object of their own. -/
namespace K02
open PySem PySem.Spec L2
open PyProof.Rows GenW GxR
open LamX (ExtN)

/-! ### kinds of values -/
def kindsL : List String := ["NoneType", "bool", "int", "str", "list", "tuple", "dict"]
def kitR (t u : String) : Bool := decide (t = u) || (decide (t = "bool") && decide (u = "int"))
theorem kit_all : (kindsL.all fun t => ["int", "bool", "list", "tuple"].all fun u => decide (kitB t u = some (kitR t u))) = true := by decide +kernel
theorem kit_of1 {K : PySem.W.Frag} {t u : String} (ht : t ∈ kindsL) (hu : u ∈ ["int", "bool", "list", "tuple"]) : PySem.W.kitOne K (.type t) (.type u) = some (kitR t u) := by
  have h1 := List.all_eq_true.mp kit_all t ht
  exact kit_ty (of_decide_eq_true (List.all_eq_true.mp h1 u hu))
/-- x is of the kind t -/
structure Ty1 (K : PySem.W.Frag) (H : Hp) (x : V) (t : String) : Prop where
  ty : TyX K H x (.type t)
  mem : t ∈ kindsL
def bel (x : V) (l : Int) : Bool := match x with
  | .int i => decide (0 ≤ i) && decide (i < l)
  | _ => false
theorem tyInt {K : PySem.W.Frag} {H : Hp} {x : V} {tv : Value} (h : TyX K H x tv) (e : tv = .type "int") : ∃ i, x = .int i := by
  cases h with
  | base b =>
    cases b <;> first
      | exact ⟨_, rfl⟩
      | exact absurd (Value.type.inj e) (by decide)
      | cases e
  | byt => exact absurd (Value.type.inj e) (by decide)
  | set => exact absurd (Value.type.inj e) (by decide)
  | kList => exact absurd (Value.type.inj e) (by decide)
  | kTuple => exact absurd (Value.type.inj e) (by decide)
  | kDict => exact absurd (Value.type.inj e) (by decide)
  | fTuple => exact absurd (Value.type.inj e) (by decide)
  | fDict => exact absurd (Value.type.inj e) (by decide)
theorem Ty1.int {K : PySem.W.Frag} {H : Hp} {x : V} (h : Ty1 K H x "int") : ∃ i, x = .int i := tyInt h.ty rfl
theorem Ty1.notInt {K : PySem.W.Frag} {H : Hp} {x : V} {t : String} (h : Ty1 K H x t) (n : t ≠ "int") (l : Int) : bel x l = false := by
  obtain ⟨h, _⟩ := h
  cases x with
  | int i =>
    cases h with
    | base b =>
      cases b
      exact absurd rfl n
  | _ => rfl
theorem Ty1.ext {K : PySem.W.Frag} {H H' : Hp} {x : V} {t : String} (h : Ty1 K H x t) (e : ExtN H H') : Ty1 K H' x t := by
  obtain ⟨h, m⟩ := h
  refine ⟨?_, m⟩
  cases h with
  | base b =>
    refine .base ?_
    cases b with
    | non => exact .non
    | bl b => exact .bl b
    | int i => exact .int i
    | str z => exact .str z
    | flt z => exact .flt z
    | lst q => exact .lst (e _ _ q fun ps z => by cases z)
    | frz q => exact .frz (e _ _ q fun ps z => by cases z)
    | tup q => exact .tup (e _ _ q fun ps z => by cases z)
    | dK q => exact .dK (e _ _ q fun ps z => by cases z)
    | dT q => exact .dT (e _ _ q fun ps z => by cases z)
  | byt b => exact .byt b
  | set q => exact .set (e _ _ q fun ps z => by cases z)
  | kList q c => exact .kList q c
  | kTuple q c => exact .kTuple q c
  | kDict q c => exact .kDict q c
  | fTuple q => exact .fTuple (e _ _ q fun ps z => by cases z)
  | fDict q => exact .fDict (e _ _ q fun ps z => by cases z)
theorem extN_seqT {K : PySem.W.Frag} {H H' : Hp} {a : Addr} {xs : List V} (e : ExtN H H') (h : SqT K H a xs) : SqT K H' a xs := by
  rcases h with (h | ⟨o, h⟩) | h
  · exact .inl (.inl (e _ _ h fun ps z => by cases z))
  · exact .inl (.inr ⟨o, e _ _ h fun ps z => by cases z⟩)
  · exact .inr h
theorem extN_seqL {K : PySem.W.Frag} {H H' : Hp} {a : Addr} {xs : List V} (e : ExtN H H') (h : SqL K H a xs) : SqL K H' a xs := by
  rcases h with (h | ⟨o, h⟩) | h
  · exact .inl (.inl (e _ _ h fun ps z => by cases z))
  · exact .inl (.inr ⟨o, e _ _ h fun ps z => by cases z⟩)
  · exact .inr h
theorem extN_same {H H' : Hp} (k : Same H H') : ExtN H H' := fun b o e _ => k b o e
theorem extN_tabbed {H H' : Hp} {P : Addr} (k : Tabbed P H H') (t : TabG H P) : ExtN H H' := fun b o e n => by
  by_cases hb : b = P
  · obtain ⟨ps, q, _⟩ := t
    rw [hb, q] at e
    exact absurd (Option.some.inj e).symm (n ps)
  · rw [k.2 b hb]
    exact e

/-! ### what stands but the tables of code objects, which may grow -/
def TabsG (TT : List Addr) (H : Hp) : Prop := ∀ P ∈ TT, TabG H P
structure Ex (TT : List Addr) (H H' : Hp) : Prop where
  keep : ∀ b o, b ∉ TT → H b = some o → H' b = some o
  tabs : TabsG TT H → TabsG TT H'
theorem Ex.refl (TT : List Addr) (H : Hp) : Ex TT H H := ⟨fun _ _ _ e => e, fun t => t⟩
theorem Ex.trans {TT : List Addr} {H H1 H2 : Hp} (a : Ex TT H H1) (b : Ex TT H1 H2) : Ex TT H H2 := ⟨fun c o n e => b.keep c o n (a.keep c o n e), fun t => b.tabs (a.tabs t)⟩
theorem Ex.same {TT : List Addr} {H H' : Hp} (k : Same H H') : Ex TT H H' := ⟨fun b o _ e => k b o e, fun t P hP => by
  obtain ⟨ps, q, r⟩ := t P hP
  exact ⟨ps, k _ _ q, r⟩⟩
theorem Ex.extN {TT : List Addr} {H H' : Hp} (x : Ex TT H H') (t : TabsG TT H) : ExtN H H' := fun b o e n => by
  by_cases hb : b ∈ TT
  · obtain ⟨ps, q, _⟩ := t b hb
    rw [q] at e
    exact absurd (Option.some.inj e).symm (n ps)
  · exact x.keep b o hb e
theorem Ex.tabbed {TT : List Addr} {H H' : Hp} {P : Addr} (hP : P ∈ TT) (k : Tabbed P H H') : Ex TT H H' := ⟨fun b o n e => by
  rw [k.2 b fun z => n (by rw [z]; exact hP)]
  exact e, fun t Q hQ => by
  by_cases hb : Q = P
  · rw [hb]
    exact k.1
  · obtain ⟨ps, q, r⟩ := t Q hQ
    exact ⟨ps, by rw [k.2 Q hb]; exact q, r⟩⟩

section
variable {P : Program} {w : World} {K : PySem.W.Frag} {mg : Str → Option Value} {base : Heap}
/-- a def that makes generator expressions: its code object stands at c -/
theorem okC {x qual : Str} {st : Stmt} {f c : Addr} {fd : FuncData} {N ps : List Str} {k : Nat} {sp : Sp} (F : Fun K x qual st f fd) (hc : fd.code = .ref c) (S : FnScope N ps (defScope st)) (len : ∀ vs H Q E, sp vs H Q E → vs.length = ps.length)
    (hbody : ∀ (A : Around) (outer : List Env) (s : Shared) (H : Hp) (vs : List V) (Q : VK) (E : XK), Room k (A.deeper (envOfC qual (defScope st) s.heap.objs.size f (.ref c))) → sp vs H Q E →
      ∃ t, PSs (cxOf CX0 P w K mg base N qual (defScope st) f (.ref c) A outer s H E).nox (defBody st) t ∧ t { nx := fun _ H' => Q .non H', rt := Q } (start N vs) H) : FnOk P w K mg base CX0 (k + 1) f fd ps sp := by
  obtain ⟨oc, od, kV, doc, pm, an, cdv, ct, osl, rfl, lk, hcd⟩ := F.ex
  have e : cdv = .ref c := hc
  subst e
  refine fn_of lk hcd S len fun A outer s H vs Q E hr hsp => ?_
  obtain ⟨t, h, q⟩ := hbody A outer s H vs Q E hr hsp
  exact ⟨t, h.nox, q⟩

end
def rdB (x : V) : Bool := decide (x = .non) || bel x 2
/-- where x is a tuple, xs are its items -/
def TupV (K : PySem.W.Frag) (H : Hp) (x : V) (t : String) (xs : List V) : Prop := t = "tuple" → ∃ a, x = .ref a ∧ SqT K H a xs
theorem TupV.ext {K : PySem.W.Frag} {H H' : Hp} {x : V} {t : String} {xs : List V} (h : TupV K H x t xs) (e : ExtN H H') : TupV K H' x t xs := fun ht => by
  obtain ⟨a, q, s⟩ := h ht
  exact ⟨a, q, extN_seqT e s⟩
theorem rep_one {α : Type} (x : α) (n : Nat) : (List.replicate n [x]).flatten = List.replicate n x := by
  induction n with
  | zero => rfl
  | succ n ih =>
    rw [List.replicate_succ, List.flatten_cons, ih, List.replicate_succ]
    rfl
end K02

set_option Elab.async false
set_option linter.all false
set_option maxRecDepth 100000
/-! The reading of a gate by the program's own sums of places. -/
namespace K02
open PySem PySem.Spec L2
open PyProof.Rows GenW GxR
open LamX (ExtN)

/-! ### a list or a tuple is walked -/
def SeqJ (K : PySem.W.Frag) (H : Hp) (a : Addr) (xs : List V) (J : It) : Prop := (J = Itl K a ∧ SqL K H a xs) ∨ (J = Itt K a ∧ SqT K H a xs)
def iSeq (K : PySem.W.Frag) (tl : TE) : TI := fun σ H R => tl σ H fun x H1 => ∃ (a : Addr) (xs : List V) (J : It), x = .ref a ∧ SeqJ K H1 a xs J ∧ R J H1
theorem pi_seq {X : Cx} {tg l : Expr} {tl : TE} (hl : PE X l tl) : PI X tg l (iSeq X.K tl) := by
  refine ⟨fun pins s σ H R I h => thn (hl.run pins s σ H _ I h) fun v s1 ⟨x, H1, I1, r1, a, xs, J, ex, hJ, q⟩ => ?_⟩
  subst ex
  cases r1
  have fp : ∀ b ∈ [s1.heap.objs.size], FpOk X pins H1 b := fun b hb => by
    rw [List.mem_singleton.mp hb]
    exact I1.fpOk (Nat.le_refl _) (I1.hok.fresh (Nat.le_refl _))
  rcases hJ with ⟨rfl, hq⟩ | ⟨rfl, hq⟩
  · obtain ⟨its, rv, p, hz⟩ := I1.list hq
    exact wpAny_pyIter_list p.isList ⟨_, [s1.heap.objs.size], _, _, H1, rfl, I1.kept (t' := s1.toks) (fun b o e => Heap.get?_push_of_some _ e), turn_list a _, ⟨_, Heap.get?_push_size _ rfl, rfl, rfl⟩, fp, q⟩
  · obtain ⟨its, rv, p, hz⟩ := I1.tuple hq
    exact wpAny_pyIter_tuple (show s1.heap.IsTuple a its.toArray from p) ⟨_, [s1.heap.objs.size], _, _, H1, rfl, I1.kept (t' := s1.toks) (fun b o e => Heap.get?_push_of_some _ e), turn_tuple a _, ⟨_, Heap.get?_push_size _ rfl, rfl, rfl⟩, fp, q⟩
theorem SeqJ.ext {K : PySem.W.Frag} {H H' : Hp} {a : Addr} {xs : List V} {J : It} (h : SeqJ K H a xs J) (e : ExtN H H') : SeqJ K H' a xs J := by
  rcases h with ⟨e1, h⟩ | ⟨e1, h⟩
  · exact .inl ⟨e1, extN_seqL e h⟩
  · exact .inr ⟨e1, extN_seqT e h⟩
theorem for_seq {K : PySem.W.Frag} {a : Addr} {xs : List V} {J : It} {g : TG} {tb : TS} {D : Ends} {σ : L2.St} {H : Hp} (Pv : Nat → L2.St → Hp → Prop) (hJ : SeqJ K H a xs J) (h0 : Pv 0 σ H)
    (hl : ∀ i σ' H', i ≤ xs.length → Pv i σ' H' → SeqJ K H' a xs J)
    (hs : ∀ i x σ H, xs[i]? = some x → Pv i σ H → g x σ H fun σ2 H2 => tb { D with nx := Pv (i + 1), ct := Pv (i + 1), bk := D.nx } σ2 H2) (hd : ∀ σ H, Pv xs.length σ H → D.nx σ H) :
    ∃ W : Nat → Nat → L2.St → Hp → Prop, (∃ m, W 0 m σ H) ∧ ∀ i m σ H, W i m σ H →
      (J.stop i H ∧ D.nx σ H) ∨ (J.go i H ∧ ∃ N : L2.St → Hp → Prop, (∀ σ' H', N σ' H' → ∃ m', m' < m ∧ W (i + 1) m' σ' H') ∧ ∀ x H', J.yld i H x H' → g x σ H' fun σ2 H2 => tb { D with nx := N, ct := N, bk := D.nx } σ2 H2) := by
  refine ⟨fun i m σ H => m + i = xs.length ∧ Pv i σ H, ⟨xs.length, rfl, h0⟩, ?_⟩
  rintro i m σ1 H1 ⟨em, p⟩
  have hJ1 := hl i σ1 H1 (by omega) p
  by_cases hi : i < xs.length
  · have step : ∀ x, xs[i]? = some x → g x σ1 H1 fun σ2 H2 => tb { D with nx := Pv (i + 1), ct := Pv (i + 1), bk := D.nx } σ2 H2 := fun x hx => hs i x σ1 H1 hx p
    have nxt : ∀ σ' H', Pv (i + 1) σ' H' → ∃ m', m' < m ∧ m' + (i + 1) = xs.length ∧ Pv (i + 1) σ' H' := fun σ' H' p' => ⟨m - 1, by omega, by omega, p'⟩
    rcases hJ1 with ⟨rfl, hq⟩ | ⟨rfl, hq⟩
    · exact .inr ⟨⟨xs, xs[i], hq, List.getElem?_eq_getElem hi⟩, Pv (i + 1), nxt, fun x H' ⟨e, y⟩ => by subst e; exact step x (y xs hq)⟩
    · exact .inr ⟨⟨xs, xs[i], hq, List.getElem?_eq_getElem hi⟩, Pv (i + 1), nxt, fun x H' ⟨e, y⟩ => by subst e; exact step x (y xs hq)⟩
  · have ei : i = xs.length := by omega
    subst ei
    rcases hJ1 with ⟨rfl, hq⟩ | ⟨rfl, hq⟩
    · exact .inl ⟨⟨xs, hq, Nat.le_refl _⟩, hd σ1 H1 p⟩
    · exact .inl ⟨⟨xs, hq, Nat.le_refl _⟩, hd σ1 H1 p⟩

/-! ### the mathematics -/
def bitZ (b : Bool) : Int := if b then 1 else 0
def bitV (b : Bool) : V := .int (bitZ b)
def rdV : Option Bool → V
  | none => .non
  | some b => bitV b
theorem bitZ_inj {a b : Bool} (h : bitZ a = bitZ b) : a = b := by
  cases a <;> cases b <;> first | rfl | (exact absurd h (by decide))
/-- bits in the place of all None -/
inductive Comp : List (Option Bool) → List Bool → Prop
  | nil : Comp [] []
  | free {r : List (Option Bool)} {bs : List Bool} (b : Bool) : Comp r bs → Comp (none :: r) (b :: bs)
  | told {r : List (Option Bool)} {bs : List Bool} (b : Bool) : Comp r bs → Comp (some b :: r) (b :: bs)
def idx : List Bool → Nat
  | [] => 0
  | b :: r => (if b then 1 else 0) + 2 * idx r
theorem Comp.length {rs : List (Option Bool)} {bs : List Bool} (h : Comp rs bs) : bs.length = rs.length := by
  induction h with
  | nil => rfl
  | free b _ ih => simp [ih]
  | told b _ ih => simp [ih]
theorem idx_lt (bs : List Bool) : idx bs < 2 ^ bs.length := by
  induction bs with
  | nil => decide
  | cons b r ih =>
    have : 2 ^ (b :: r).length = 2 * 2 ^ r.length := by rw [List.length_cons, Nat.pow_succ, Nat.mul_comm]
    unfold idx
    split <;> omega
/-- what one source does to the places -/
def stp (x : Nat × List Nat) (r : Option Bool) : Nat × List Nat := (2 * x.1, match r with
  | none => x.2 ++ x.2.map (· + x.1)
  | some true => x.2.map (· + x.1)
  | some false => x.2)
def plc (rs : List (Option Bool)) : Nat × List Nat := rs.foldl stp (1, [0])
theorem plc_gen (rs : List (Option Bool)) : ∀ (w : Nat) (ps : List Nat), (rs.foldl stp (w, ps)).1 = w * 2 ^ rs.length ∧ ∀ p, p ∈ (rs.foldl stp (w, ps)).2 ↔ ∃ q ∈ ps, ∃ bs, Comp rs bs ∧ p = q + w * idx bs := by
  induction rs with
  | nil =>
    intro w ps
    refine ⟨by simp, fun p => ⟨fun h => ⟨p, h, [], .nil, by simp [idx]⟩, fun ⟨q, hq, bs, hc, e⟩ => ?_⟩⟩
    cases hc
    simp [idx] at e
    rw [e]
    exact hq
  | cons r rs ih =>
    intro w ps
    obtain ⟨h1, h2⟩ := ih (2 * w) (stp (w, ps) r).2
    have e0 : (r :: rs).foldl stp (w, ps) = rs.foldl stp (2 * w, (stp (w, ps) r).2) := rfl
    rw [e0]
    refine ⟨by rw [h1, List.length_cons, Nat.pow_succ, Nat.mul_comm 2 w, Nat.mul_assoc, Nat.mul_comm 2], fun p => ?_⟩
    rw [h2 p]
    have a0 : ∀ k : Nat, w * (0 + 2 * k) = 2 * w * k := fun k => by
      rw [Nat.zero_add, ← Nat.mul_assoc, Nat.mul_comm w 2]
    have a1 : ∀ k : Nat, w * (1 + 2 * k) = w + 2 * w * k := fun k => by
      rw [Nat.mul_add, ← Nat.mul_assoc, Nat.mul_comm w 2, Nat.mul_one]
    have i0 : ∀ bs : List Bool, w * idx (false :: bs) = 2 * w * idx bs := fun bs => a0 _
    have i1 : ∀ bs : List Bool, w * idx (true :: bs) = w + 2 * w * idx bs := fun bs => a1 _
    constructor
    · rintro ⟨q, hq, bs, hc, e⟩
      rcases r with _ | _ | _
      · rcases List.mem_append.mp hq with hq | hq
        · exact ⟨q, hq, false :: bs, .free _ hc, by rw [i0, e]⟩
        · obtain ⟨q', hq', rfl⟩ := List.mem_map.mp hq
          exact ⟨q', hq', true :: bs, .free _ hc, by rw [i1, e]; exact Nat.add_assoc ..⟩
      · exact ⟨q, hq, false :: bs, .told _ hc, by rw [i0, e]⟩
      · obtain ⟨q', hq', rfl⟩ := List.mem_map.mp hq
        exact ⟨q', hq', true :: bs, .told _ hc, by rw [i1, e]; exact Nat.add_assoc ..⟩
    · rintro ⟨q, hq, bs, hc, e⟩
      cases hc with
      | @free _ bs b hc =>
        cases b with
        | false => exact ⟨q, List.mem_append_left _ hq, bs, hc, by rw [i0] at e; exact e⟩
        | true => exact ⟨q + w, List.mem_append_right _ (List.mem_map.mpr ⟨q, hq, rfl⟩), bs, hc, by rw [i1] at e; rw [e]; exact (Nat.add_assoc ..).symm⟩
      | @told _ bs b hc =>
        cases b with
        | false => exact ⟨q, hq, bs, hc, by rw [i0] at e; exact e⟩
        | true => exact ⟨q + w, List.mem_map.mpr ⟨q, hq, rfl⟩, bs, hc, by rw [i1] at e; rw [e]; exact (Nat.add_assoc ..).symm⟩
theorem plc_fst (rs : List (Option Bool)) : (plc rs).1 = 2 ^ rs.length := by
  have h := (plc_gen rs 1 [0]).1
  rw [Nat.one_mul] at h
  exact h
theorem plc_mem (rs : List (Option Bool)) (p : Nat) : p ∈ (plc rs).2 ↔ ∃ bs, Comp rs bs ∧ idx bs = p := by
  have h := (plc_gen rs 1 [0]).2 p
  unfold plc
  rw [h]
  constructor
  · rintro ⟨q, hq, bs, hc, e⟩
    rw [List.mem_singleton.mp hq] at e
    exact ⟨bs, hc, by omega⟩
  · rintro ⟨bs, hc, e⟩
    exact ⟨0, List.mem_singleton.mpr rfl, bs, hc, by omega⟩
theorem plc_lt {rs : List (Option Bool)} {p : Nat} (h : p ∈ (plc rs).2) : p < 2 ^ rs.length := by
  obtain ⟨bs, hc, rfl⟩ := (plc_mem rs p).mp h
  rw [← hc.length]
  exact idx_lt bs
theorem plc_len (rs : List (Option Bool)) : (plc rs).2.length ≤ 2 ^ rs.length ∧ 0 < (plc rs).2.length := by
  have gen : ∀ (l : List (Option Bool)) (x : Nat × List Nat), (l.foldl stp x).2.length ≤ x.2.length * 2 ^ l.length ∧ (0 < x.2.length → 0 < (l.foldl stp x).2.length) := by
    intro l
    induction l with
    | nil => intro x; simp
    | cons r l ih =>
      intro x
      have h := ih (stp x r)
      have e : (stp x r).2.length ≤ 2 * x.2.length ∧ (0 < x.2.length → 0 < (stp x r).2.length) := by
        rcases r with _ | _ | _
        · simp only [stp, List.length_append, List.length_map]
          omega
        · simp only [stp]
          omega
        · simp only [stp, List.length_map]
          omega
      refine ⟨?_, fun h0 => h.2 (e.2 h0)⟩
      show (l.foldl stp (stp x r)).2.length ≤ _
      rw [List.length_cons, Nat.pow_succ, Nat.mul_comm (2 ^ l.length) 2, ← Nat.mul_assoc, Nat.mul_comm x.2.length 2]
      exact Nat.le_trans h.1 (Nat.mul_le_mul_right _ e.1)
  have h := gen rs (1, [0])
  refine ⟨by simpa [plc] using h.1, h.2 (by decide)⟩
theorem plc_snoc (rs : List (Option Bool)) (r : Option Bool) : plc (rs ++ [r]) = stp (plc rs) r := by
  unfold plc
  rw [List.foldl_append]
  rfl
/-- the one bit that all have -/
def one (l : List Bool) : Option Bool := match l with
  | [] => none
  | b :: r => if r.all (fun x => x == b) then some b else none
theorem one_some {l : List Bool} {b : Bool} : one l = some b ↔ l ≠ [] ∧ ∀ x ∈ l, x = b := by
  cases l with
  | nil => simp [one]
  | cons a r =>
    have e : one (a :: r) = if (r.all fun x => x == a) = true then some a else none := rfl
    rw [e]
    by_cases hall : (r.all fun x => x == a) = true
    · rw [if_pos hall]
      have h2 : ∀ x ∈ r, x = a := fun x hx => by simpa using List.all_eq_true.mp hall x hx
      constructor
      · intro h
        have h : a = b := Option.some.inj h
        subst h
        refine ⟨by simp, fun x hx => ?_⟩
        rcases List.mem_cons.mp hx with hx | hx
        · exact hx
        · exact h2 x hx
      · rintro ⟨_, h⟩
        rw [h a (List.mem_cons_self ..)]
    · rw [if_neg hall]
      constructor
      · intro h
        cases h
      · rintro ⟨_, h⟩
        refine absurd (List.all_eq_true.mpr fun x hx => ?_) hall
        rw [h a (List.mem_cons_self ..), h x (List.mem_cons_of_mem _ hx)]
        simp
theorem one_congr {l m : List Bool} (h : ∀ b, b ∈ l ↔ b ∈ m) : one l = one m := by
  have ne : l ≠ [] ↔ m ≠ [] := by
    constructor
    · intro hl hm
      obtain ⟨x, r, rfl⟩ := List.exists_cons_of_ne_nil hl
      have z := (h x).mp (List.mem_cons_self ..)
      rw [hm] at z
      cases z
    · intro hm hl
      obtain ⟨x, r, rfl⟩ := List.exists_cons_of_ne_nil hm
      have z := (h x).mpr (List.mem_cons_self ..)
      rw [hl] at z
      cases z
  have key : ∀ b, one l = some b ↔ one m = some b := fun b => by
    rw [one_some, one_some, ne]
    exact and_congr_right fun _ => ⟨fun q x hx => q x ((h x).mpr hx), fun q x hx => q x ((h x).mp hx)⟩
  cases e : one l with
  | some b => rw [(key b).mp e]
  | none =>
    cases e2 : one m with
    | none => rfl
    | some b =>
      rw [(key b).mpr e2] at e
      cases e
/-- what a gate with this table reads -/
def gateR (tb : List Bool) (rs : List (Option Bool)) : Option Bool := one ((plc rs).2.map fun p => tb.getD p false)
theorem minmax_one {l : List Bool} {lo hi : Int} (h1 : lo ∈ l.map bitZ) (h2 : ∀ y, y ∈ l.map bitZ → lo ≤ y) (h3 : hi ∈ l.map bitZ) (h4 : ∀ y, y ∈ l.map bitZ → y ≤ hi) :
    (lo = hi → ∃ b r, l = b :: r ∧ one l = some b) ∧ (lo ≠ hi → one l = none) := by
  constructor
  · intro e
    obtain ⟨b, hb, eb⟩ := List.mem_map.mp h1
    have all : ∀ x ∈ l, bitZ x = lo := fun x hx => by
      have q1 := h2 _ (List.mem_map.mpr ⟨x, hx, rfl⟩)
      have q2 := h4 _ (List.mem_map.mpr ⟨x, hx, rfl⟩)
      omega
    cases l with
    | nil => cases hb
    | cons a r =>
      refine ⟨a, r, rfl, one_some.mpr ⟨by simp, fun x hx => bitZ_inj ((all x hx).trans (all a (List.mem_cons_self ..)).symm)⟩⟩
  · intro e
    cases q : one l with
    | none => rfl
    | some b =>
      obtain ⟨_, hall⟩ := one_some.mp q
      obtain ⟨x, hx, ex⟩ := List.mem_map.mp h1
      obtain ⟨y, hy, ey⟩ := List.mem_map.mp h3
      rw [hall x hx] at ex
      rw [hall y hy] at ey
      exact absurd (ex.symm.trans ey) e
def natV (ps : List Nat) : List V := ps.map fun p : Nat => V.int (Int.ofNat p)
theorem natV_len (ps : List Nat) : (natV ps).length = ps.length := List.length_map ..
theorem natV_get {ps : List Nat} {i : Nat} {x : V} (h : (natV ps)[i]? = some x) : ∃ p : Nat, ps[i]? = some p ∧ x = .int (p : Int) := by
  unfold natV at h
  rw [List.getElem?_map] at h
  obtain ⟨p, hp, e⟩ := Option.map_eq_some_iff.mp h
  exact ⟨p, hp, e.symm⟩
theorem pw2 (i : Nat) : ((2 ^ i : Nat) : Int) * 2 = ((2 ^ (i + 1) : Nat) : Int) := by
  rw [Nat.pow_succ, Int.natCast_mul]
  rfl
theorem pow16 {n : Nat} (h : n ≤ 4) : 2 ^ n ≤ 16 := Nat.pow_le_pow_right (by decide) h
theorem natV_app (a b : List Nat) : natV (a ++ b) = natV a ++ natV b := List.map_append ..
theorem get_snoc {α : Type} {xs : List α} {i : Nat} {x : α} (h : xs[i]? = some x) : xs.take (i + 1) = xs.take i ++ [x] := take_snoc h

end K02

set_option Elab.async false
set_option linter.all false
set_option maxRecDepth 100000
set_option maxHeartbeats 2000000
/-! A caught exception that is still known behind its try; a lambda handed to a def, with the other tables kept. -/
namespace CE
open PySem PySem.Spec L2
open PyProof.Rows

/-- an exception of the class cls stands at a -/
def CauO (cls : Value) (d : Option Addr) (a : Addr) : HO := .ext fun h => ∃ (oe : Obj) (vs : Array Value), h.get? a = some oe ∧ Zc cls d oe ∧ oe.data = .fields vs

section
variable {X : Cx} {pins : List (Addr × Obj)} {σ : L2.St} {H : Hp} {s : Shared}
theorem told {a : Addr} {oe : Obj} {cls : Value} {d : Option Addr} {vs : Array Value} (I : Inv X pins σ H s) (e : s.heap.get? a = some oe) (z : Zc cls d oe) (hd : oe.data = .fields vs) (na : H a = none)
    (n0 : X.s_0.heap.get? a = none) (nl : a ≠ X.env.locals) (np : ∀ p ∈ X.pn ++ pins, p.1 ≠ a) : Inv X pins σ (upd H a (CauO cls d a)) s where
  ok := I.ok
  os := I.os
  bare := I.bare
  base := by
    have U := I.base
    refine ⟨U.keep, U.slot, fun b o q n x => ?_, U.there, fun b xs q => ?_, fun b o u q => ?_, fun b ps q => ?_⟩
    · have hb : b ≠ a := fun w => by
        rw [w, n0] at q
        cases q
      rw [upd_ne hb]
      exact U.free b o q n x
    · have q' := U.tups b xs q
      rw [upd_ne (ne_of_none q' na)]
      exact q'
    · have q' := U.frzs b o u q
      rw [upd_ne (ne_of_none q' na)]
      exact q'
    · obtain ⟨m, q'⟩ := U.tbls b ps q
      refine ⟨m, ?_⟩
      rw [upd_ne (ne_of_none q' na)]
      exact q'
  loc := I.loc
  cell := I.cell
  free := by
    rw [upd_ne (Ne.symm nl)]
    exact I.free
  freeC := fun x c hc => by
    have n : c ≠ a := fun w => by
      obtain ⟨v, o', e1, e2⟩ := I.cell x c hc
      rw [w, e] at e1
      cases e1
      rw [hd] at e2
      cases e2
    rw [upd_ne n]
    exact I.freeC x c hc
  pin := fun p hp => by
    obtain ⟨p1, p2, p3⟩ := I.pin p hp
    refine ⟨p1, ?_, p3⟩
    rw [upd_ne (np p hp)]
    exact p2
  hok := fun b u q => by
    by_cases hb : b = a
    · rw [hb, upd_same] at q
      cases q
      rw [hb]
      exact ⟨⟨oe, vs, e, z, hd⟩, ⟨oe, e⟩, fun _ _ ⟨o, v, g, r⟩ k => ⟨o, v, k o g, r⟩⟩
    · rw [upd_ne hb] at q
      exact (I.hok b u q).stay (fun _ _ _ g => g) (fun c g => by rw [upd_ne (ne_of_none g na)]; exact g) fun c xs g => by rw [upd_ne (ne_of_none g na)]; exact g
  len := I.len
end
/-- what a try with one clause `except c as n` asks; behind its suite the caught error is known -/
def wKept (K : PySem.W.Frag) (c : Value) (i : Nat) (ts : Addr → Value → Option Addr → TS) (Wout : WX) (D : Ends) : WX := fun cls d σ H => ∃ b, PySem.W.exmOne K cls c = some b ∧
  (b = true → ∀ a, H a = none → ts a cls d { nx := fun σ' H' => D.nx (σ'.set i none) (upd H' a (CauO cls d a)), rt := fun _ _ => False, bk := fun _ _ => False, ct := fun _ _ => False } (σ.set i (some (.ref a))) H) ∧ (b = false → Wout cls d σ H)

section
variable {X : Cx} {body : List Stmt} {x n : Str} {c : Value} {i : Nat} {b₀ : Stmt} {suite : List Stmt} {Wout : WX} {tb : WX → TS} {ts : Addr → Value → Option Addr → TS} {np pos pos' : Pos}
theorem ps_try_kept (hs : X.stack = X.env :: X.outer) (hf : X.env.frame = some X.env.locals) (hex : X.ex = []) (hN : X.N.Nodup) (hi : X.N[i]? = some n) (hln : X.env.kindOf n = some .local) (hc : Names X x c) (tk : Takes X Wout)
    (hb : ∀ (W : WX) (pn : List (Addr × Obj)) (xe : Value → Shared → Prop), Takes (X.tr pn xe) W → PassesOwn (model X.prog X.w) X.A X.env xe → PSs (X.tr pn xe) body (tb W))
    (hsu : ∀ (a : Addr) (oe : Obj) (cls : Value) (d : Option Addr) (pn : List (Addr × Obj)), PSs (X.suite a ((a, oe) :: pn)) (b₀ :: suite) (ts a cls d)) :
    PS X (.Try body [.ExceptHandler (some (.Name x np)) (some n) (b₀ :: suite) pos'] [] [] pos) (fun D σ H => tb (wKept X.K c i ts Wout D) D σ H) := by
  constructor
  intro pins s σ H D I h
  have ok := I.ok
  have fr : X.A.frames = some (X.env :: X.outer) := ok.frames.trans (by rw [hs])
  have lc : Loc X.env.scope n := .inl hln
  apply wpAny_Try_except
  have hb' := hb (wKept X.K c i ts Wout D) (X.pn ++ pins) (fun e s₁ => wpAny (model X.prog X.w) X.A (noteFrame e X.env) (fun _ s₂ => wpAny (model X.prog X.w) X.A (setFlight e none) (fun _ s₃ =>
    wpAny (model X.prog X.w) X.A (handleBy e X.env [.ExceptHandler (some (.Name x np)) (some n) (b₀ :: suite) pos']) (SP X pins D) X.xe s₃) X.xe s₂) X.xe s₁)
  refine wpAny_mono ((hb' ?caught PassesOwn.looking).run [] s σ H D (I.toTry _) h) ?through fun e s1 he => he
  case through =>
    intro f s1 sp
    cases f with
    | next => exact sp.elim fun σ1 z => z.elim fun H1 z => wpAny_execs_nil ⟨σ1, H1, z.1.ofTry ok, z.2⟩
    | brk => exact sp.elim fun σ1 z => z.elim fun H1 z => ⟨σ1, H1, z.1.ofTry ok, z.2⟩
    | cont => exact sp.elim fun σ1 z => z.elim fun H1 z => ⟨σ1, H1, z.1.ofTry ok, z.2⟩
    | ret u => exact sp.elim fun v z => z.elim fun σ1 z => z.elim fun H1 z => ⟨v, σ1, H1, z.1.ofTry ok, z.2.1, z.2.2⟩
  case caught =>
    rintro u s' ⟨a, B, sI, pins', σ1, H1, cls, d, rfl, J', nb, up, sky, na, os, ag, b, hb1, yes, no⟩
    have J : Inv X pins σ1 H1 sI := J'.ofTry ok
    have sky1 : Sky B (X.env :: X.outer) a (Zc cls d) X.env.locals s'.heap := hs ▸ sky
    show wpAny (model X.prog X.w) X.A (noteFrame (.ref a) X.env) _ _ _
    refine Sky.land Zc.steady fr hf sky1 fun h3 fl up3 => ?_
    obtain ⟨o3, v3, g3, z3, d3⟩ := fl.there
    have J3 : Inv X pins σ1 H1 { s' with heap := h3 } := J.landed nb fl.1 (up.trans up3) os ag
    have out : a ∉ frs (X.env :: X.outer) := fun hm => by
      obtain ⟨_, o', e', nf⟩ := fl.2.2.1.mem hm
      rw [g3] at e'
      cases e'
      exact nf _ d3
    have nl : a ≠ X.env.locals := fun w => out (List.mem_filterMap.mpr ⟨X.env, List.mem_cons_self, by rw [hf, w]⟩)
    have nfs : a ∉ X.fs := fun hm => by
      obtain ⟨e, m, q⟩ := List.mem_filterMap.mp hm
      exact out (List.mem_filterMap.mpr ⟨e, List.mem_cons_of_mem _ m, q⟩)
    have none_ : sI.heap.get? a = none := by
      cases q : sI.heap.get? a with
      | none => rfl
      | some o =>
        have z := nb a o q (by rw [hs]; exact out)
        rw [fl.2.1] at z
        cases z
    have none0 : X.s_0.heap.get? a = none := by
      cases q : X.s_0.heap.get? a with
      | none => rfl
      | some o =>
        obtain ⟨o', z⟩ := J.base.there a o q (by rw [hex]; exact List.not_mem_nil)
        rw [none_] at z
        cases z
    have pn_ : ∀ p ∈ X.pn ++ pins, p.1 ≠ a := fun p hp w => by
      have z := (J.pin p hp).1
      rw [w, none_] at z
      cases z
    have S3 := J3.suite g3 d3 na nl nfs
    have lt : PySem.W.Looks (model X.prog X.w) h3 (typeOf (.ref a)) cls := fun _ _ _ _ k q => wpAny_typeOf_ref (k _ _ g3) (z3.1 ▸ q)
    have lm := PySem.W.exm_one (M := model X.prog X.w) J3.kIn lt hb1
    have ask : ∀ {Q : Value → Shared → Prop} {E : Value → Shared → Prop}, Q c { s' with heap := h3 } → wpAny (model X.prog X.w) (X.A.mark (some (.ref a))) (eval (.Name x np) X.env) Q E { s' with heap := h3 } := by
      intro Q E q
      rcases hc with ⟨hg, hdb, hm | ⟨hm, hv, hnn⟩⟩
      · exact ld_glob (X := X.suite a _) S3 hg hm q hdb
      · exact ld_blt (X := X.suite a _) S3 hg hm hv q hnn hdb
    refine wpAny_handleBy_cons (codeAny_handlers_test (ask (lm.here ?_))) (by intro q; cases q)
    cases b with
    | true =>
      refine codeAny_handlers_suite_as (HandSPX.lands_againZ fl fun h4 fl4 up4 => ?_)
      obtain ⟨o4, v4, g4, z4, d4⟩ := fl4.there
      have J4 : Inv X pins σ1 H1 { s' with heap := h4 } := J.landed nb fl4.1 ((up.trans up3).trans up4) os ag
      have S4 := J4.suite g4 d4 na nl nfs
      refine store_ok (X := X.suite a ((a, o4) :: (X.pn ++ pins))) (v := .ref a) S4 hN hi lc rfl (fun s5 S5 => ?_) (.inr hln)
      refine wpAny_mono ((hsu a o4 cls d (X.pn ++ pins)).run [] s5 _ H1 _ S5 (yes rfl a na)) (fun f s6 sp => ?_) (fun _ _ w => w.elim)
      cases f with
      | next =>
        obtain ⟨σ6, H6, S6, q6⟩ := sp
        have p6 := S6.pin (a, o4) (List.mem_append_left _ List.mem_cons_self)
        have K6 := told (S6.unsuite ok) p6.1 z4 d4 p6.2.1 none0 nl pn_
        exact gone_ok K6 hN hi hln fun s7 J7 => ⟨_, _, J7, q6⟩
      | brk => exact sp.elim fun _ z => z.elim fun _ z => z.2.elim
      | cont => exact sp.elim fun _ z => z.elim fun _ z => z.2.elim
      | ret u => exact sp.elim fun _ z => z.elim fun _ z => z.elim fun _ z => z.2.2.elim
    | false =>
      show wpAny _ X.A (handleBy (.ref a) X.env []) _ _ _
      apply wpAny_handleBy_nil
      obtain ⟨_, _, _, oe, vs, T, oT, ts', he, _, hd, h1, _⟩ := id fl
      unfold PySem.passOn
      refine wpAny_bind (wpAny_field he hd h1 ?_)
      rw [if_neg (show ¬ ((Value.ref T == Value.none) = true) from by simp)]
      have fin : wpAny (model X.prog X.w) X.A (setFlight (.ref a) X.env.frame) (fun _ s4 => wpAny (model X.prog X.w) X.A (throw (.ref a) : Sem Flow) (SP X pins D) X.xe s4) X.xe { s' with heap := h3 } := by
        rw [hf]
        exact HandSPX.setFlight_upZ fl fun h4 hh4 up4 => wpAny_throw (tk _ _ ⟨a, B, sI, pins, σ1, H1, cls, d, rfl, J, nb, (up.trans up3).trans up4, .inr (.inr (by rw [hs]; exact hh4)), na, os, ag, no rfl⟩)
      first
        | exact wpAny_bind (wpAny_pure (wpAny_bind fin))
        | exact wpAny_bind fin
end

/-! ### isinstance of it -/
def rIsCau (K : PySem.W.Frag) (D : Addr) : List V → Hp → VK → Prop := fun xs H Q => ∃ (a : Addr) (c : V) (cv : Value) (b : Bool), xs = [.ref a, c] ∧ H a = some (CauO (.ref D) none a) ∧ (∀ u, RelV c u → u = cv) ∧ PySem.W.kitOne K (.ref D) cv = some b ∧ Q (.bl b) H
theorem call_isCau {X : Cx} {D : Addr} (C : ExcC X.K D) : CallR X (.builtin "isinstance") (rIsCau X.K D) := by
  intro pins s σ H xs us Q I r h
  obtain ⟨a, c, cv, b, rfl, hH, hcv, e, q⟩ := h
  rcases r with _ | ⟨rx, _ | ⟨rt, r0⟩⟩
  cases r0
  cases rx
  cases hcv _ rt
  obtain ⟨oe, vs, g, z, hd⟩ := (I.hok a _ hH).1
  have J : PySem.W.InstAt s.heap a oe D none := by
    rcases oe with ⟨oc, od, oda, osl⟩
    obtain ⟨h1, h2⟩ := z
    dsimp only at h1 h2 hd
    subst h1
    subst h2
    subst hd
    exact ⟨g, rfl, rfl, trivial⟩
  exact PySem.W.kia_one (PySem.W.handS_kitx_exc C.hg C.hk C.hs C.hd C.ha C.hn C.ht C.hm) I.kIn J e (fun z => nomatch z) fun tk => ⟨.bl b, H, I.kept (t' := tk) fun _ _ z => z, rfl, q⟩
end CE

set_option Elab.async false
set_option linter.all false
set_option maxRecDepth 100000
set_option maxHeartbeats 2000000
/-! What a def makes of a lambda whose error it catches. -/
namespace K02
open PySem PySem.Spec L2
open PyProof.Rows GenW GxR LamX CE
theorem takes_len {X : Cx} {W : WX} (t : Takes X W) : Takes X (fun cls d σ H => σ.length = X.N.length → W cls d σ H) := fun u s' ⟨a, B, sI, pins, σ, H, cls, d, e, I, nb, up, sky, na, os, ag, w⟩ =>
  t u s' ⟨a, B, sI, pins, σ, H, cls, d, e, I, nb, up, sky, na, os, ag, w I.len⟩
/-- what _law_caught makes of the lambda: the error that it raises is given back, or None -/
def TCau (K : PySem.W.Frag) (CS : Addr) : (XK → Hp → VK → Prop) → Hp → VK → Prop := fun tl H Q =>
  tl (fun cls d H' => ∃ b, PySem.W.exmOne K cls (.ref CS) = some b ∧ (b = true → ∀ a, H' a = none → Q (.ref a) (upd H' a (CauO cls d a))) ∧ (b = false → False)) H fun _ H' => Q .non H'
theorem three {σ : L2.St} (h : σ.length = 3) : ∃ a b c, σ = [a, b, c] := by
  rcases σ with _ | ⟨a, _ | ⟨b, _ | ⟨c, _ | ⟨d, r⟩⟩⟩⟩
  all_goals first
    | exact ⟨_, _, _, rfl⟩
    | exact absurd h (by simp)
end K02

set_option Elab.async false
set_option linter.all false
set_option maxRecDepth 100000
set_option maxHeartbeats 2000000
/-! A lambda handed to a def, all tables but the maker's own kept as they are. -/
namespace CE
open PySem PySem.Spec L2
open PyProof.Rows LamX
/-- all but P's table is as it was -/
def ButP (P : Addr) (H H' : Hp) : Prop := ∀ b o, b ≠ P → H b = some o → H' b = some o
def lamN (X : Cx) : Str := X.env.qual ++ "<lambda>"
section
variable {X : Cx} {pins : List (Addr × Obj)} {σ : L2.St} {H : Hp} {s : Shared}
theorem lam_mk {c P : Addr} {ps : Arguments} {body : Expr} {sc : Scope} {pos : Pos} {E Q : Value → Shared → Prop} (I : Inv X pins σ H s) (TB : TabB X.base X.mg c P) (hcode : X.env.code = .ref c) (hT : TabS H P (lamN X))
    (hdef : defaultsOf ps X.env = ([], [])) (hfree : ∀ y ∈ sc.names, y.2 = .free → ∃ c, X.env.cells.lookup y.1 = some c)
    (h : ∀ (f c' : Addr) (pm ctv : Value) (H1 : Hp) (s' : Shared), Inv X pins σ H1 s' → ButP P H H1 → TabS H1 P (lamN X) → s'.heap.get? f = some (PySem.W.kla_obj "<lambda>" (lamN X) ps body sc (cloFrom X.env.cells sc.names []) pm c' ctv) →
      H1 f = none → f ∉ frs X.stack → H1 c' = some (CodeO c' (lamN X)) → Q (.ref f) s') : wpAny (model X.prog X.w) X.A (eval (.Lambda ps body sc pos) X.env) Q E s := by
  obtain ⟨tb, tP, tt, tc⟩ := hT
  have inP : s.heap.get? P = some { cls := .none, data := .fields tb } := I.hok P _ tP
  have far : ∀ f, s.heap.objs.size ≤ f → f ∉ frs X.stack := by
    intro f hf z
    rcases List.mem_cons.mp (I.stkSub _ z) with e | e
    · have lt := I.lt
      rw [← e] at lt
      exact Nat.not_le_of_lt lt hf
    · exact I.nofs hf e
  apply PySem.W.kla_eval hdef
  rcases hc : codeAmong pos tb.toList with _ | cv
  · refine PySem.W.kla_makeFunction (mg := X.mg) (c := c) (P := P) (ps := tb) (closure_ok hfree) I.ok.glob (I.mod.glob.keeps I.bk) hcode (TB.code.keeps I.bk) inP tt hc TB.gP (TB.bm.keeps I.bk) ?_
    intro c' ctv h' tk hx hge hlt hrec htb
    obtain ⟨c2, oc, vs, t, ec, hoc, hd, hv⟩ := hrec
    cases ec
    have grow : s.heap.objs.size ≤ h'.objs.size := Nat.le_trans hge (Nat.le_of_lt hlt)
    have fresh : H c' = none := I.hok.fresh hge
    have nP : P ≠ c' := ne_of_none tP fresh
    have J := inv_table (t' := tk) (more := #[rawInt pos.line, rawInt pos.col, .ref c']) (h' := h'.push (PySem.W.kla_obj "<lambda>" (lamN X) ps body sc (cloFrom X.env.cells sc.names []) ((X.mg "__name__").getD .none) c' ctv)) I tP
      (fun b o hb e => Heap.get?_push_of_some _ (hx b o hb e)) (Heap.get?_push_of_some _ htb) hge ⟨oc, vs, t, Heap.get?_push_of_some _ hoc, hd, hv⟩
    refine h h'.objs.size c' _ ctv _ _ J (fun b o hb e => ?_) ⟨tb ++ #[rawInt pos.line, rawInt pos.col, .ref c'], ?_, ?_, fun p' cv hcv => ?_⟩ (Heap.get?_push_size _ rfl) ?_ (far _ grow) upd_same
    · rw [upd_ne (ne_of_none e fresh), upd_ne hb]
      exact e
    · rw [upd_ne nP, upd_same]
    · rw [Array.toList_append]
      exact PySem.TriplesOk_snoc _ _ _ _ tt
    · rw [Array.toList_append] at hcv
      rcases among_app _ tt hcv with z | z
      · obtain ⟨c0, e1, e2⟩ := tc p' cv z
        refine ⟨c0, e1, ?_⟩
        rw [upd_ne (ne_of_none e2 fresh), upd_ne (fun w => by rw [w, tP] at e2; exact codeO_ne _ (Option.some.inj e2).symm)]
        exact e2
      · exact ⟨c', z, upd_same⟩
    · have pLt := Heap.lt_size inP
      rw [upd_ne (Nat.ne_of_gt hlt), upd_ne (Nat.ne_of_gt (Nat.lt_of_lt_of_le pLt grow))]
      exact I.hok.fresh grow
  · obtain ⟨c', rfl, hco⟩ := tc pos cv hc
    refine PySem.W.kla_makeFunctionHit (mg := X.mg) (c := c) (P := P) (ps := tb) (closure_ok hfree) I.ok.glob (I.mod.glob.keeps I.bk) hcode (TB.code.keeps I.bk) inP tt hc (TB.bm.keeps I.bk) fun ctv h' tk hx hsz => ?_
    exact h h'.objs.size c' ((X.mg "__name__").getD .none) ctv H _ (I.kept (t' := tk) (h' := h'.push _) fun b o e => Heap.get?_push_of_some _ (hx b o e)) (fun _ _ _ e => e) ⟨tb, tP, tt, tc⟩ (Heap.get?_push_size _ rfl) (I.hok.fresh hsz) (far _ hsz) hco
end
def tLamP (P : Addr) (q : Str) (TT : (XK → Hp → VK → Prop) → Hp → VK → Prop) (t : XK → TE) : TE := fun σ H Q => TabS H P q ∧ ∀ H1, ButP P H H1 → TabS H1 P q → TT (fun E H' Q' => t E σ H' Q') H1 Q
section
variable {X : Cx}
/-- x(lambda: body), x a def of one parameter -/
theorem pe_lamP {TT : (XK → Hp → VK → Prop) → Hp → VK → Prop} {x a : Str} {g c P : Addr} {k : Nat} {pg : Arguments} {bg : List Stmt} {sg : Scope} {dV kV doc pm cdv ct oc : Value} {an od : Option Addr} {osl : Array (Option Value)} {Ng : List Str}
    {ps : Arguments} {body : Expr} {sc : Scope} {t : XK → TE} {p lpos pos : Pos} (hg : Gl X x) (hm : X.mg x = some (.ref g)) (hk : PySem.W.keepIn X.K (.ref g) = true) (lk : X.K.lookup g = some ⟨oc, od, .func (PySem.W.fnOf x x pg bg sg dV kV doc pm an cdv ct), osl⟩)
    (hcg : PySem.W.codeIn X.K cdv x = true) (hb : L2.Binds X.K (PySem.W.fnOf x x pg bg sg dV kV doc pm an cdv ct) [a] []) (Sg : FnScope Ng [a] sg) (hNg : Ng[0]? = some a) (hva : Vis sg a) (hG : GivesTo X Ng x sg g cdv bg a (lamN X) TT)
    (TB : TabB X.base X.mg c P) (hcode : X.env.code = .ref c) (hr : Room (k + 2) X.A) (L : LamS X.env.scope sc) (hdef : defaultsOf ps X.env = ([], [])) (hbind : ∀ (q : Str) (cl : List (Str × Addr)) (pm cv ctv : Value), bindArgs (PySem.W.kla_fn "<lambda>" q ps body sc cl pm cv ctv) ⟨[], []⟩ = pure [])
    (hbody : ∀ (A : Around) (outer : List Env) (s : Shared) (H : Hp) (E : XK) (f c' : Addr), Room k (A.deeper (lamEnv X sc s.heap.objs.size f c')) → PE (lamCx X A outer s H E sc f c') body (t E))
    (hdb : (x == ("__debug__" : Str)) = false := by decide) (hd : (a == ("__debug__" : Str)) = false := by decide) (hcd : (a == ("__classdict__" : Str)) = false := by decide) : PE X (.Call (.Name x p) [.Lambda ps body sc lpos] [] pos) (tLamP P (lamN X) TT t) := by
  constructor
  rintro pins s σ H Q I ⟨hT, h⟩
  refine wpAny_Call_Name_kw (ld_glob I hg hm ?_ hdb)
  refine PySem.W.callWith_K (h₀ := X.base) I.ok.mod.kin hk ?_ (by rfl) (by rfl)
  show wpAny _ _ (spliced ((false, eval (.Lambda ps body sc lpos) X.env) :: backTo pos (starEach [] X.env))) _ _ s
  apply Calls.spliced_cons
  refine lam_mk I TB hcode hT hdef (L.has I.ok) fun f c' pm' ctv H1 s' I1 eN T1 hf hfn hfr hco => Calls.spliced_nil ⟨I1.kIn, ?_⟩
  have run : codeAny (model X.prog X.w) X.A (.call (.ref g) ⟨[.ref f], []⟩) (CR C8.CX0 X.stack X.prog X.w H1 s' Q C8.E0) s' :=
    run_ofS (N := Ng) (ps := [a]) (us := [.ref f]) (vs := [.ref f]) lk hcg Sg hr I1.env0 (hb s' [.ref f] I1.kIn rfl) (.cons rfl .nil) rfl fun hr' => by
      obtain ⟨t', ht', hq'⟩ := hG f c' s' H1 Q (fun E H' Q' => t E σ H' Q') (fun W pn xe E p1 p2 tk hW => pe_act (i := 0) I1 L hf hfn hfr (hbind _ _ _ _ _) tk hW hr' (fun A outer s H hr2 => hbody A outer s H E f c' hr2) hNg hva hd hcd) hco (h H1 eN T1)
      exact ⟨t', ht'.nox, hq'⟩
  refine wpAny_call (codeAny_mono run fun r s2 hq => ?_)
  rcases r with e | fl
  · exact False.elim hq
  · cases fl with
    | ret u => exact I1.after hq
    | _ => exact False.elim hq
end
end CE

set_option Elab.async false
set_option linter.all false
set_option maxRecDepth 100000
set_option maxHeartbeats 2000000
/-! A dict whose keys are tuples of numbers, texts and None: stored into, asked, walked. -/
namespace TK
open PySem PySem.Spec L2
open PyProof.Rows
def leafV : Leaf → V
  | .none => .non
  | .num i => .int i
  | .text z => .str z
theorem leafV_inj {a b : Leaf} (h : leafV a = leafV b) : a = b := by
  cases a <;> cases b <;> first
    | rfl
    | (cases h; rfl)
    | cases h
abbrev Ent := List Leaf × Addr × V
abbrev kd (P : Program) (w : World) : HeapKind P w (List Leaf) := tupleKind (leafKind P w)
def TkO (d : Addr) (es : Array DictEntry) (ep : Nat) : HO := .ext fun h => ∃ o, h.get? d = some o ∧ o.ExactDict ∧ o.data = .dict es ep
abbrev EntR : Ent → List Leaf × Addr × Value → Prop := fun p q => p.1 = q.1 ∧ p.2.1 = q.2.1 ∧ RelV p.2.2 q.2.2
def TkD (P : Program) (w : World) (xs : List Ent) (es : Array DictEntry) : Prop := ∃ ys, es.toList = ys.map (entryOfKey (kd P w)) ∧ Paired EntR xs ys
structure TkAt (P : Program) (w : World) (H : Hp) (d : Addr) (xs : List Ent) (es : Array DictEntry) (ep : Nat) : Prop where
  at_ : H d = some (TkO d es ep)
  dat : TkD P w xs es
  keys : ∀ x ∈ xs, H x.2.1 = some (.tup (x.1.map leafV))
  nd : (xs.map (·.1)).Nodup
  low : (d == sysModules) = false
theorem TkAt.mono {P : Program} {w : World} {H H' : Hp} {d : Addr} {xs : List Ent} {es : Array DictEntry} {ep : Nat} (T : TkAt P w H d xs es ep) (k : ∀ b o, H b = some o → (∀ ps, o ≠ .tbl ps) → H' b = some o) : TkAt P w H' d xs es ep :=
  ⟨k _ _ T.at_ (fun ps z => by unfold TkO at z; cases z), T.dat, fun x hx => k _ _ (T.keys x hx) (fun ps z => by cases z), T.nd, T.low⟩

theorem leaf_is {P : Program} {w : World} {k : Leaf} {u : Value} (h : RelV (leafV k) u) : (leafKind P w).is k u = true := by
  cases k with
  | none =>
    cases h
    rfl
  | num i =>
    obtain ⟨t, rfl⟩ := h
    show decide (i = i) = true
    exact decide_eq_true rfl
  | text z =>
    obtain ⟨t, rfl⟩ := h
    show (Value.str z t).isStrOf z = true
    simp [Value.isStrOf]
theorem leaves_are {P : Program} {w : World} : ∀ {ks : List Leaf} {us : List Value}, Vals (ks.map leafV) us → ItemsAre (leafKind P w) ks us
  | [], _, r => by
    cases r
    exact .nil
  | k :: ks, _, r => by
    cases r with
    | cons h t => exact .cons (leaf_is h) (leaves_are t)
theorem is_key {P : Program} {w : World} {H : Hp} {h : Heap} {a : Addr} {ks : List Leaf} (ok : HOk P w H h) (e : H a = some (.tup (ks.map leafV))) : (kd P w).is h ks a := by
  obtain ⟨_, its, r, o, g1, g2, n, g3⟩ := (show ObjOk P w H h a (.tup (ks.map leafV)) from ok a _ e)
  refine ⟨o, its.toArray, n, g1, g2, g3, ?_⟩
  rw [List.toList_toArray]
  exact leaves_are r
theorem ents_of {xs : List Ent} {ys : List (List Leaf × Addr × Value)} (r : Paired EntR xs ys) : ys.map (·.1) = xs.map (·.1) := by
  induction r with
  | nil => rfl
  | cons h t ih => rw [List.map_cons, List.map_cons, ih, h.1]
theorem mem_of {xs : List Ent} {ys : List (List Leaf × Addr × Value)} (r : Paired EntR xs ys) : ∀ y ∈ ys, ∃ x ∈ xs, EntR x y := by
  induction r with
  | nil => intro y hy; cases hy
  | @cons p q ps qs h t ih =>
    intro y hy
    rcases List.mem_cons.mp hy with e | hy
    · exact ⟨p, List.mem_cons_self, by rw [e]; exact h⟩
    · obtain ⟨x, hx, z⟩ := ih y hy
      exact ⟨x, List.mem_cons_of_mem _ hx, z⟩
theorem get_of {xs : List Ent} {ys : List (List Leaf × Addr × Value)} (r : Paired EntR xs ys) : ∀ {i : Nat} {x : Ent}, xs[i]? = some x → ∃ y, ys[i]? = some y ∧ EntR x y := by
  induction r with
  | nil => intro i x h; simp at h
  | @cons p q ps qs h t ih =>
    intro i x hx
    cases i with
    | zero =>
      cases hx
      exact ⟨q, rfl, h⟩
    | succ i => exact ih hx
theorem snoc_of {xs : List Ent} {ys : List (List Leaf × Addr × Value)} {p : Ent} {q : List Leaf × Addr × Value} (r : Paired EntR xs ys) (h : EntR p q) : Paired EntR (xs ++ [p]) (ys ++ [q]) := by
  induction r with
  | nil => exact .cons h .nil
  | cons h' t ih => exact .cons h' ih

section
variable {X : Cx} {pins : List (Addr × Obj)} {σ : L2.St} {H : Hp} {s : Shared} {d b : Addr} {k : List Leaf} {xs : List Ent} {es : Array DictEntry} {ep : Nat}
theorem TkAt.of (I : Inv X pins σ H s) (T : TkAt X.prog X.w H d xs es ep) : ∃ ys, Paired EntR xs ys ∧ s.heap.DictOfH (kd X.prog X.w) d ys ∧ es.toList = ys.map (entryOfKey (kd X.prog X.w)) := by
  obtain ⟨o, e1, e2, e3⟩ := (I.hok d _ T.at_).1
  obtain ⟨ys, h1, h2⟩ := T.dat
  refine ⟨ys, h2, ⟨o, es, ep, e1, e2, e3, h1, fun y hy => ?_, ?_⟩, h1⟩
  · obtain ⟨x, hx, e, e', _⟩ := mem_of h2 y hy
    rw [← e, ← e']
    exact is_key I.hok (T.keys x hx)
  · rw [ents_of h2]
    exact T.nd
/-- d[k], k a key -/
def rTk (P : Program) (w : World) : R2 := fun x y H Q => ∃ (d b : Addr) (xs : List Ent) (es : Array DictEntry) (ep : Nat) (k : List Leaf) (a : Addr) (v : V), x = .ref d ∧ y = .ref b ∧ TkAt P w H d xs es ep ∧ H b = some (.tup (k.map leafV)) ∧ (k, a, v) ∈ xs ∧ Q v H
theorem ix_tk (hu : X.A.units + 1 < cLine) : IxR X (rTk X.prog X.w) := by
  intro value slice pins s σ H x y v u Q I rx ry h hs
  obtain ⟨d, b, xs, es, ep, k, a, v0, rfl, rfl, T, hb, hk, q⟩ := h
  cases rx
  cases ry
  obtain ⟨ys, rel, D, _⟩ := T.of I
  obtain ⟨i, hi⟩ := List.getElem?_of_mem hk
  obtain ⟨⟨k', a', u'⟩, hy, e1, e2, e3⟩ := get_of rel hi
  cases e1
  have hat := atKey_of_get (by rw [ents_of rel]; exact T.nd) hy
  exact tail_any D.typeIs slot_dict_getitem.lookup (wpAny_getItem_heap (tupleKind_room_in1 hu) (is_key I.hok hb) D hat ⟨v0, H, I.tok _, e3, q⟩) hs

/-- d[k] = v, k no key before -/
def sTkPut (P : Program) (w : World) (td ty tv : TE) : TS := fun D σ H => tv σ H fun v H1 => td σ H1 fun x H2 => ty σ H2 fun y H3 => ∃ (d b : Addr) (xs : List Ent) (k : List Leaf), x = .ref d ∧ y = .ref b ∧
  ((H3 d = some (.dT []) ∧ xs = []) ∨ ∃ es ep, TkAt P w H3 d xs es ep) ∧ H3 b = some (.tup (k.map leafV)) ∧ k ∉ xs.map (·.1) ∧ xs.length ≤ 1000 ∧ ∀ es ep, TkAt P w (upd H3 d (TkO d es ep)) d (xs ++ [(k, b, v)]) es ep → D.nx σ (upd H3 d (TkO d es ep))
theorem ps_tkput {o i value : Expr} {pos pos' : Pos} {td ty tv : TE} (hu : X.A.units + 1 < cLine) (ho : PE X o td) (hi : PE X i ty) (hv : PE X value tv) (hs : swapsWith value (some (.Subscript o i pos')) pos.line X.env = pure false := by rfl) :
    PS X (.Assign [.Subscript o i pos'] value pos) (sTkPut X.prog X.w td ty tv) := by
  constructor
  intro pins s σ H D I h
  refine wpAny_Assign_Subscript (thn (hv.run pins s σ H _ I h) fun r s1 ⟨v, H1, I1, rv, q1⟩ => thn (ho.run pins s1 σ H1 _ I1 q1) fun u s2 ⟨x, H2, I2, rx, q2⟩ => thn (hi.run pins s2 σ H2 _ I2 q2) fun iv s3 ⟨y, H3, I3, ry, d, b, xs, k, ex, ey, hd, hb, hk, hl, q3⟩ => ?_) hs
  subst ex
  subst ey
  cases rx
  cases ry
  have nbd : ∀ c xs', H3 c = some (.tup xs') → c ≠ d := fun c xs' e z => by
    rw [z] at e
    rcases hd with ⟨e', _⟩ | ⟨es, ep, T⟩
    · rw [e'] at e
      cases e
    · have e' := T.at_
      rw [e] at e'
      unfold TkO at e'
      cases e'
  have start : ∃ ys, Paired EntR xs ys ∧ s3.heap.DictOfH (kd X.prog X.w) d ys ∧ (d == sysModules) = false ∧ (xs.map (·.1)).Nodup ∧ (∀ x ∈ xs, H3 x.2.1 = some (.tup (x.1.map leafV))) ∧ Mut (H3 d) := by
    rcases hd with ⟨e', rfl⟩ | ⟨es, ep, T⟩
    · obtain ⟨_, hlow, ys0, r0, o, es0, ep0, g1, g2, g3, g4, g5, g6⟩ := dt_of I3.hok e'
      cases r0
      refine ⟨[], .nil, ⟨o, es0, ep0, g1, g2, g3, g4, (fun y hy => by cases hy), List.nodup_nil⟩, hlow, List.nodup_nil, (fun x hx => by cases hx), ?_⟩
      rw [e']
      trivial
    · obtain ⟨ys, r, D, _⟩ := T.of I3
      refine ⟨ys, r, D, T.low, T.nd, T.keys, ?_⟩
      rw [T.at_]
      trivial
  obtain ⟨ys, rel, DD, hlow, hnd, hks, hmut⟩ := start
  have hno : atKey ys k = none := by
    cases q : atKey ys k with
    | none => rfl
    | some p =>
      unfold atKey at q
      obtain ⟨y, hy, _⟩ := Option.map_eq_some_iff.mp q
      have e : y.1 = k := by
        have z := List.find?_some hy
        exact of_decide_eq_true z
      exact absurd (List.mem_map.mpr ⟨y, List.mem_of_find?_eq_some hy, e⟩) (by rw [ents_of rel]; exact hk)
  have hlen : ys.length ≤ sizeLine := by
    rw [← Paired.length rel]
    have : (1000 : Nat) ≤ sizeLine := by rw [sizeLine_eq]; decide
    omega
  refine wpAny_setItem_heap (tupleKind_room_in1 hu) (is_key I3.hok hb) DD (fun h' DD' sb => ?_) hlen
  rw [storedH_new hno] at DD'
  obtain ⟨o, es, ep, g1, g2, g3, g4, g5, g6⟩ := DD'
  have J := d_write (t' := s3.toks + (kd X.prog X.w).draws k) (ob := TkO d es ep) I3 hmut sb ⟨o, g1⟩ ⟨⟨o, g1, g2, g3⟩, ⟨o, g1⟩, fun h1 h2 ⟨o', f1, f2⟩ st => ⟨o', st _ f1, f2⟩⟩
  refine ⟨σ, _, J, q3 es ep ⟨upd_same, ⟨_, g4, snoc_of rel ⟨rfl, rfl, rv⟩⟩, fun x hx => ?_, ?_, hlow⟩⟩
  · have hx' : H3 x.2.1 = some (.tup (x.1.map leafV)) := by
      rcases List.mem_append.mp hx with hx | hx
      · exact hks x hx
      · rw [List.mem_singleton.mp hx]
        exact hb
    rw [upd_ne (nbd _ _ hx')]
    exact hx'
  · rw [List.map_append]
    exact List.nodup_append.mpr ⟨hnd, by simp, fun a ha b hb z => by
      have e := List.mem_singleton.mp hb
      rw [z, e] at ha
      exact hk ha⟩

/-! ### for k in d -/
def ItTk (P : Program) (w : World) (d : Addr) (xs : List Ent) (es : Array DictEntry) (ep : Nat) : It where
  go := fun i H => TkAt P w H d xs es ep ∧ i < xs.length
  yld := fun i H x H' => H' = H ∧ ∃ k b v, xs[i]? = some (k, b, v) ∧ x = .ref b ∧ H b = some (.tup (k.map leafV))
  stop := fun i H => TkAt P w H d xs es ep ∧ xs.length ≤ i
theorem turn_tk {tg : Expr} (it : Addr) : Turn X.prog X.w X.K tg (ItTk X.prog X.w d xs es ep) [it] it (fun i h => h.IsKeyIter it d i xs.length ep) where
  mem := List.mem_singleton.mpr rfl
  obj := fun i h st b hb => by
    rw [List.mem_singleton.mp hb]
    obtain ⟨oi, e, c, dd⟩ := st
    refine ⟨oi, e, fun v z => ?_⟩
    rw [dd] at z
    cases z
  keep := fun i h h' st k => st.at fun oi e => k it (List.mem_singleton.mpr rfl) oi e
  item := by
    intro Y hP hw hK hc i pins s σ H E I hf st hg
    obtain ⟨T, hi⟩ := hg
    obtain ⟨f0, f1, f2, f3, f4, f5⟩ := hf it (List.mem_singleton.mpr rfl)
    rw [← hP, ← hw] at T ⊢
    obtain ⟨ys, rel, _, hes⟩ := T.of I
    obtain ⟨o, e1, e2, e3⟩ := (I.hok d _ T.at_).1
    obtain ⟨⟨k', a', u'⟩, hy, g1, g2, g3⟩ := get_of rel (List.getElem?_eq_getElem hi)
    have hsz : es.size = xs.length := by
      rw [← Array.length_toList, hes, List.length_map, Paired.length rel]
    have hen : es[i]? = some (entryOfKey (kd Y.prog Y.w) (k', a', u')) := by
      rw [← Array.getElem?_toList, hes, List.getElem?_map, hy]
      rfl
    refine next_key_item st e1 e3 hsz hen fun h' st' sb => ?_
    have I1 : Inv Y pins σ H { s with heap := h' } := I.turned (t' := s.toks) (fun b ob hb e => (sb.2 b hb).trans e) f0 f1 f3 f4 f5
    obtain ⟨oi, e, c, dd⟩ := id st'
    refine ⟨_, rfl, go_of (s := { s with heap := h' }) e c dd (by decide) ⟨.ref a', H, I1, rfl, ⟨rfl, _, _, _, List.getElem?_eq_getElem hi, ?_, ?_⟩, st', fun b hb => (hf b hb).1⟩⟩
    · exact congrArg V.ref g2.symm
    · exact T.keys _ (List.getElem_mem hi)
  done := by
    intro Y hP hw hK hc i pins s σ H E I hf st hg
    obtain ⟨T, hi⟩ := hg
    obtain ⟨f0, f1, f2, f3, f4, f5⟩ := hf it (List.mem_singleton.mpr rfl)
    rw [← hP, ← hw] at T ⊢
    obtain ⟨ys, rel, _, hes⟩ := T.of I
    obtain ⟨o, e1, e2, e3⟩ := (I.hok d _ T.at_).1
    have hsz : es.size = xs.length := by
      rw [← Array.length_toList, hes, List.length_map, Paired.length rel]
    exact next_key_end (I.ok.hd hc) st e1 e3 hsz hi fun h' eb => ⟨rfl, I.turned (t' := s.toks) (fun b ob hb e => eb b ob hb e) f0 f1 f3 f4 f5⟩
  self := fun A i s Q E st h => by
    refine wpAny_pyIter_slot st.typeIs F.slot_dict_keyiterator_iter (wpAny_call_entry F.slot_dict_keyiterator_iter st.typeIs F.entry_dict_keyiterator_iter (show wpAny _ _ (ret (.ref it)) _ _ s from ?_) (F.args_dict_keyiterator_iter_1 _))
    exact wpAny_pure ⟨_, rfl, "dict_keyiterator", _, st.typeIs, F.slot_dict_keyiterator_next.lookup, h⟩
def iTk (P : Program) (w : World) (td : TE) : TI := fun σ H R => td σ H fun x H1 => ∃ (d : Addr) (xs : List Ent) (es : Array DictEntry) (ep : Nat), x = .ref d ∧ TkAt P w H1 d xs es ep ∧ R (ItTk P w d xs es ep) H1
theorem pi_tk {tg e : Expr} {td : TE} (he : PE X e td) : PI X tg e (iTk X.prog X.w td) := by
  constructor
  intro pins s σ H R I h
  refine thn (he.run pins s σ H _ I h) fun u s1 ⟨x, H1, I1, rx, d, xs, es, ep, ex, T, q⟩ => ?_
  subst ex
  cases rx
  obtain ⟨ys, rel, _, hes⟩ := T.of I1
  obtain ⟨o, e1, e2, e3⟩ := (I1.hok d _ T.at_).1
  have hsz : es.size = xs.length := by
    rw [← Array.length_toList, hes, List.length_map, Paired.length rel]
  refine iter_keys T.low e1 e2 e3 (pi_one (tk := s1.toks) I1 _ (turn_tk _) ⟨_, Heap.get?_push_size _ rfl, rfl, ?_⟩ q)
  rw [hsz] <;> rfl
end
end TK

set_option Elab.async false
set_option linter.all false
set_option maxRecDepth 100000
set_option maxHeartbeats 2000000
/-! enumerate of a tuple, zip of a list and a tuple, over the hand layer. -/
namespace EZ
open PySem PySem.Spec L2
open PyProof.Rows

/-! ### what hands out new pairs, by PyProof.WalksT -/
theorem turn_of {P : Program} {w : World} {K : PySem.W.Frag} {elts : List Expr} {kk : Nat} {tpos : Pos} {J : It} {it : Addr} {fp : List Addr} {tn : Nat → Heap → Prop} (mem : it ∈ fp)
    (obj : ∀ i h, tn i h → ∀ b ∈ fp, ∃ o, h.get? b = some o ∧ ∀ v : Option Value, o.data ≠ .cell v) (keep : ∀ i h h', tn i h → (∀ b ∈ fp, ∀ o, h.get? b = some o → h'.get? b = some o) → tn i h')
    (self : ∀ (A : Around) (i : Nat) (s : Shared) (Q E : Value → Shared → Prop), tn i s.heap → Q (.ref it) s → wpAny (model P w) A (pyIter (.ref it)) Q E s)
    (go : ∀ (X : Cx) (i : Nat) (pins : List (Addr × Obj)) (s : Shared) (σ : L2.St) (H : Hp), X.prog = P → X.w = w → X.K = K → X.A.handled = none → Inv X pins σ H s → tn i s.heap → J.go i H →
      ∃ (fpW wr : List Addr) (n : Nat) (Pt : Nat → Array Value → Prop) (St : Nat → Heap → Prop) (Mid : Nat → Addr → Heap → Prop), WalksT P w X.A it fpW wr n Pt St Mid ∧ i < n ∧ St i s.heap ∧ (∀ b ∈ wr, b ∈ fp) ∧ (∀ h, St (i + 1) h → tn (i + 1) h) ∧
        ∀ vals, Pt i vals → ∃ ys, Vals ys vals.toList ∧ ys.length ≤ 15 ∧ ∀ T, H T = none → J.yld i H (.ref T) (upd H T (.tup ys)))
    (stop : ∀ (X : Cx) (i : Nat) (pins : List (Addr × Obj)) (s : Shared) (σ : L2.St) (H : Hp), X.prog = P → X.w = w → X.K = K → X.A.handled = none → Inv X pins σ H s → tn i s.heap → J.stop i H →
      ∃ (fpW wr : List Addr) (n : Nat) (Pt : Nat → Array Value → Prop) (St : Nat → Heap → Prop) (Mid : Nat → Addr → Heap → Prop), WalksT P w X.A it fpW wr n Pt St Mid ∧ St n s.heap ∧ ∀ b ∈ wr, b ∈ fp) :
    Turn P w K (.Tuple elts kk tpos) J fp it tn where
  mem := mem
  obj := obj
  keep := keep
  self := self
  item := by
    intro X hP hw hK hc i pins s σ H E I hf st hg
    obtain ⟨fpW, wr, n, Pt, St, Mid, W, hi, hst, hwr, nxt, hy⟩ := go X i pins s σ H hP hw hK (I.ok.hd hc) I st hg
    refine W.item i s _ _ hi hst fun T vals h' tk hp hnew hT hm hk => ⟨_, rfl, W.go _ _ _ i T { s with heap := h', toks := tk } _ _ hm fun h2 st2 hk2 => ?_⟩
    obtain ⟨ys, rv, hl, hyl⟩ := hy vals hp
    have nT : H T = none := I.hok.fresh hnew
    have hT2 : h2.IsTuple T vals := hT.at fun o e => hk2 T o (W.apart i T h' hm) e
    have new : ObjOk X.prog X.w (upd H T (.tup ys)) h2 T (.tup ys) := by
      refine ⟨Nat.le_trans hl (by rw [sizeLine_eq]; decide), vals.toList, rv, ?_⟩
      exact hT2
    have I1 := I.turnedNew (t' := tk) (ch := fp) (fun b o hb q => hk2 b o (fun z => hb (hwr b z)) (hk b o (fun z => hb (hwr b z)) q)) hf hnew new
    refine ⟨.ref T, _, I1, rfl, hyl T nT, nxt _ st2, fun b hb => ?_⟩
    obtain ⟨ob, e, _⟩ := obj i _ st b hb
    have ne : b ≠ T := fun z => by
      have lt := Heap.lt_size e
      rw [z] at lt
      exact Nat.not_le_of_lt lt hnew
    rw [upd_ne ne]
    exact (hf b hb).1
  done := by
    intro X hP hw hK hc i pins s σ H E I hf st hg
    obtain ⟨fpW, wr, n, Pt, St, Mid, W, hst, hwr⟩ := stop X i pins s σ H hP hw hK (I.ok.hd hc) I st hg
    exact W.done s _ _ hst fun h' tk hk => ⟨rfl, I.turnedL (t' := tk) (ch := fp) (fun b o hb q => hk b o (fun z => hb (hwr b z)) q) hf⟩

/-! ### enumerate(t) -/
theorem meets_enum1 {v : Value} {o : Obj} {H : Heap → Prop} (B : Begins v o H) :
    Meets (Builtin.«enumerate.__new__» ⟨[.type "enumerate", v], []⟩) (fun _ R s => H s.heap ∧ R (.ok (.ret (.ref (s.heap.push o).objs.size))) { s with heap := (s.heap.push o).push { cls := .type "enumerate", data := .fields #[.none, .bool false, .ref s.heap.objs.size, rawInt 0, .none, .none] } }) :=
  .of_wp fun prog w A R s h => by
    obtain ⟨hp, g, d, tk, os⟩ := s
    obtain ⟨h1, h⟩ := h
    have hsub := sub_enumerate
    have q1 : ∀ {A' : Around} {E Q : Value → Shared → Prop}, Q (.ref hp.objs.size) ⟨hp.push o, g, d, tk, os⟩ → wpAny (model prog w) A' (pyIter v) Q E ⟨hp, g, d, tk, os⟩ := fun q => B.iter prog w _ _ ⟨hp, g, d, tk, os⟩ _ h1 q
    wp_walk using q1
    refine wpAny_stack_any fun st => wpAny_pure ?_
    split
    · rename_i c _ _ _ _ _
      cases (c == Value.type "enumerate") <;> (wp_walk using q1; exact ⟨_, rfl, h⟩)
    · wp_walk using q1
      exact ⟨_, rfl, h⟩
section
variable {prog : Program} {w : World} {A : Around} {E : Value → Shared → Prop} {s : Shared}
theorem call_enum1 {v : Value} {o : Obj} {H : Heap → Prop} {Q : Value → Shared → Prop} (B : Begins v o H) (h1 : H s.heap)
    (h : ∀ h', IsEnum h' (s.heap.objs.size + 1) s.heap.objs.size 0 .none → h'.get? s.heap.objs.size = some o → (∀ b o, s.heap.get? b = some o → h'.get? b = some o) → Q (.ref (s.heap.objs.size + 1)) { s with heap := h' }) :
    wpAny (model prog w) A (call (.type "enumerate") [v]) Q E s := by
  refine callType_new F.called_enumerate (by decide) (F.typeCall_enumerate_1 _) (F.newCall_enumerate_1 _) (fun obj => F.args_object_init_2 obj _) F.entry_enumerate_new (meets_enum1 B) ⟨h1, ?_⟩
  have hz : (s.heap.push o).objs.size = s.heap.objs.size + 1 := Heap.size_push ..
  have he := Heap.get?_push_size (s.heap.push o) (o := { cls := .type "enumerate", data := .fields #[.none, .bool false, .ref s.heap.objs.size, rawInt 0, .none, .none] }) rfl
  rw [hz] at he
  show _ ∧ _
  rw [hz]
  exact ⟨⟨_, he, rfl⟩, h _ he (Heap.get?_push_of_some _ (Heap.get?_push_size _ B.free)) fun b o x => Heap.get?_push_of_some _ (Heap.get?_push_of_some _ x)⟩
end
def IteT (K : PySem.W.Frag) (a : Addr) (xs : List V) : It :=
  ⟨fun i H => SqT K H a xs ∧ i < xs.length, fun i H v H' => ∃ T x, v = .ref T ∧ H T = none ∧ H' = upd H T (.tup [.int (i : Nat), x]) ∧ xs[i]? = some x, fun i H => SqT K H a xs ∧ i = xs.length⟩
theorem vals_at {xs : List V} {us : List Value} (r : Vals xs us) {i : Nat} {u : Value} (h : us[i]? = some u) : ∃ x, xs[i]? = some x ∧ RelV x u := by
  induction r generalizing i with
  | nil => simp at h
  | cons a t ih =>
    cases i with
    | zero =>
      cases h
      exact ⟨_, rfl, a⟩
    | succ i => exact ih h
theorem turn_enumT {P : Program} {w : World} {K : PySem.W.Frag} {elts : List Expr} {kk : Nat} {tpos : Pos} {a e it : Addr} {xs : List V} :
    Turn P w K (.Tuple elts kk tpos) (IteT K a xs) [e, it] e (fun i h => (∃ old, IsEnum h e it ((i : Nat) : Int) old) ∧ h.IsTupleIter it a i ∧ e ≠ it) := by
  have walk : ∀ (X : Cx) (pins : List (Addr × Obj)) (s : Shared) (σ : L2.St) (H : Hp) (i : Nat), X.prog = P → X.w = w → X.K = K → X.A.handled = none → Inv X pins σ H s → SqT K H a xs → ((∃ old, IsEnum s.heap e it ((i : Nat) : Int) old) ∧ s.heap.IsTupleIter it a i ∧ e ≠ it) →
      ∃ its : List Value, Vals xs its ∧ s.heap.IsTuple a its.toArray ∧ e ≠ a ∧ it ≠ a ∧ Draws P w X.A.in1 it [it, a] its.toArray.size (fun i v => its.toArray[i]? = some v) (fun i h => h.IsTupleIter it a i ∧ h.IsTuple a its.toArray) := by
    intro X pins s σ H i hP hw hK hh I hq st
    subst hP
    subst hw
    subst hK
    obtain ⟨⟨old, he⟩, hi, hne⟩ := st
    obtain ⟨its, rv, p, _⟩ := I.tuple hq
    have pa : s.heap.IsTuple a its.toArray := p
    obtain ⟨o1, g1, c1, _⟩ := id pa
    obtain ⟨o2, g2, c2, _⟩ := id hi
    have n1 : e ≠ a := fun z => by
      rw [z] at he
      have w := Option.some.inj (he.symm.trans g1)
      rw [← w] at c1
      have c1' : Value.type "enumerate" = Value.type "tuple" := c1
      injection c1' with c2'
      exact absurd c2' (by decide)
    have n2 : it ≠ a := fun z => by
      rw [z, g1] at g2
      cases g2
      rw [c1] at c2
      exact absurd c2 (by decide)
    have hh1 : X.A.in1.handled = none := hh
    exact ⟨its, rv, pa, n1, n2, Draws.tuple hh1 it a n2.symm _⟩
  refine turn_of (List.mem_cons_self ..) (fun i h st b hb => ?_) (fun i h h' st k => ?_) (fun A i s Q E st h => ?_) (fun X i pins s σ H hP hw hK hh I st hg => ?_) (fun X i pins s σ H hP hw hK hh I st hg => ?_)
  · obtain ⟨⟨old, he⟩, ⟨o, ho, hc, hd⟩, _⟩ := st
    rcases List.mem_cons.mp hb with z | z
    · rw [z]
      exact ⟨_, he, fun v q => nomatch q⟩
    · rw [List.mem_singleton.mp z]
      refine ⟨o, ho, fun v q => ?_⟩
      rw [hd] at q
      cases q
  · obtain ⟨⟨old, he⟩, hi, hne⟩ := st
    exact ⟨⟨old, k e (List.mem_cons_self ..) _ he⟩, hi.at fun o q => k it (List.mem_cons_of_mem _ (List.mem_cons_self ..)) o q, hne⟩
  · obtain ⟨⟨old, he⟩, _⟩ := st
    exact wpAny_pyIter_enum he h
  · obtain ⟨hq, hi⟩ := hg
    obtain ⟨its, rv, pa, n1, n2, D⟩ := walk X pins s σ H i hP hw hK hh I hq st
    have hl := rv.length
    refine ⟨_, _, _, _, _, _, WalksT.enumFrom 0 D e st.2.2 (fun z => ?_) (List.mem_cons_self ..), by simpa using by omega, ⟨by simpa using st.1, st.2.1, pa⟩, fun b hb => hb, fun h z => ⟨by simpa using z.1, z.2.1, st.2.2⟩, fun vals ⟨t, u, hu, ev⟩ => ?_⟩
    · rcases List.mem_cons.mp z with z | z
      · exact st.2.2 z
      · exact n1 (List.mem_singleton.mp z)
    · obtain ⟨x, hx, rx⟩ := vals_at rv (by simpa using hu)
      refine ⟨[.int (i : Nat), x], ?_, (by show 2 ≤ 15; decide), fun T nT => ⟨T, x, rfl, nT, rfl, hx⟩⟩
      rw [ev]
      exact .cons ⟨t, by simp⟩ (.cons rx .nil)
  · obtain ⟨hq, hi⟩ := hg
    obtain ⟨its, rv, pa, n1, n2, D⟩ := walk X pins s σ H i hP hw hK hh I hq st
    have hl := rv.length
    refine ⟨_, _, _, _, _, _, WalksT.enumFrom 0 D e st.2.2 (fun z => ?_) (List.mem_cons_self ..), ?_, fun b hb => hb⟩
    · rcases List.mem_cons.mp z with z | z
      · exact st.2.2 z
      · exact n1 (List.mem_singleton.mp z)
    · have hn : its.toArray.size = i := by
        rw [List.size_toArray, ← hl, hi]
      rw [hn]
      exact ⟨by simpa using st.1, st.2.1, pa⟩
def iEnumT (K : PySem.W.Frag) (ta : TA) : TI := fun σ H R => ta σ H fun vs H1 => ∃ a xs, vs = [.ref a] ∧ SqT K H1 a xs ∧ R (IteT K a xs) H1
theorem pi_enumT {X : Cx} {e : Expr} {ta : TA} {p pos tpos : Pos} {elts : List Expr} {kk : Nat} (hg : Gl X "enumerate") (hm : X.mg "enumerate" = none) (ha : PA X [e] ta) (hs : starEach [e] X.env = [(false, eval e X.env)] := by rfl) :
    PI X (.Tuple elts kk tpos) (.Call (.Name "enumerate" p) [e] [] pos) (iEnumT X.K ta) := by
  constructor
  intro pins s σ H R I h
  refine Call_ (ld_blt I hg hm boot_enumerate (PyProof.Rows.callWith_type1 (thn (ha.run pos pins s σ H _ I h) fun us s1 ⟨vs, H1, I1, r1, a, xs, ex, hq, q⟩ => ?_) hs rfl))
  subst ex
  rcases r1 with _ | ⟨r, r0⟩
  cases r0
  cases r
  obtain ⟨its, rv, pa, _⟩ := I1.tuple hq
  refine call_enum1 (begins_tuple a its.toArray) (show s1.heap.IsTuple a its.toArray from pa) fun h' he hit hk => wpAny_pyIter_enum he ?_
  refine ⟨s1.heap.objs.size + 1, [s1.heap.objs.size + 1, s1.heap.objs.size], _, _, H1, rfl, I1.kept (t' := s1.toks) hk, turn_enumT, ⟨⟨.none, he⟩, ⟨_, hit, rfl, rfl⟩, Nat.succ_ne_self _⟩, fun b hb => ?_, q⟩
  have hle : s1.heap.objs.size ≤ b := by
    rcases List.mem_cons.mp hb with z | z
    · rw [z]
      exact Nat.le_succ _
    · rw [List.mem_singleton.mp z]
      exact Nat.le_refl _
  exact I1.fpOk hle (I1.hok.fresh hle)

/-! ### zip(l, t) -/
def ItzLT (K : PySem.W.Frag) (a b : Addr) (xs ys : List V) : It :=
  ⟨fun i H => SqL K H a xs ∧ SqT K H b ys ∧ i < xs.length, fun i H v H' => ∃ T x y, v = .ref T ∧ H T = none ∧ H' = upd H T (.tup [x, y]) ∧ xs[i]? = some x ∧ ys[i]? = some y, fun i H => SqL K H a xs ∧ SqT K H b ys ∧ i = xs.length⟩
theorem turn_zipLT {P : Program} {w : World} {K : PySem.W.Frag} {elts : List Expr} {kk : Nat} {tpos : Pos} {a b z TI TO i1 i2 : Addr} {xs ys : List V} (hlen : xs.length = ys.length) (S : ZipSep2 z TI TO i1 i2 [i1, a] [i2, b]) (na : a ≠ i1) (nb : b ≠ i2) :
    Turn P w K (.Tuple elts kk tpos) (ItzLT K a b xs ys) [z, TI, TO, i1, i2] z (fun i h => IsZip h z TI TO .none ∧ IsTupOf2 h TI (.ref i1) (.ref i2) ∧ (∃ x y, IsTupOf2 h TO x y) ∧ h.IsListIter i1 a i ∧ h.IsTupleIter i2 b i) := by
  have lists : ∀ (X : Cx) (pins : List (Addr × Obj)) (s : Shared) (σ : L2.St) (H : Hp), X.K = K → X.prog = P → X.w = w → X.A.handled = none → Inv X pins σ H s → SqL K H a xs → SqT K H b ys →
      ∃ us vs : List Value, Vals xs us ∧ Vals ys vs ∧ s.heap.IsList a us.toArray ∧ s.heap.IsTuple b vs.toArray ∧ us.length = xs.length ∧ vs.length = xs.length ∧
        WalksT P w X.A z (z :: TI :: TO :: ([i1, a] ++ [i2, b])) [z, TO, i1, i2] (min us.toArray.size vs.toArray.size) (fun i vals => ∃ x1 x2, us.toArray[i]? = some x1 ∧ vs.toArray[i]? = some x2 ∧ vals = #[x1, x2])
          (fun i h => IsZip h z TI TO .none ∧ IsTupOf2 h TI (.ref i1) (.ref i2) ∧ (∃ a1 a2, IsTupOf2 h TO a1 a2) ∧ (h.IsListIter i1 a i ∧ h.IsList a us.toArray) ∧ h.IsTupleIter i2 b i ∧ h.IsTuple b vs.toArray)
          (fun i T h => IsZip h z TI TO (rawInt T) ∧ IsTupOf2 h TI (.ref i1) (.ref i2) ∧ (∃ a1 a2, IsTupOf2 h TO a1 a2) ∧ (h.IsListIter i1 a (i + 1) ∧ h.IsList a us.toArray) ∧ (h.IsTupleIter i2 b (i + 1) ∧ h.IsTuple b vs.toArray) ∧ T ≠ z ∧ T ≠ TO ∧ T ≠ i1 ∧ T ≠ i2) := by
    intro X pins s σ H hK hP hw hh I h1 h2
    subst hK
    subst hP
    subst hw
    obtain ⟨us, ru, pu, _⟩ := I.list h1
    obtain ⟨vs, rv, pv, _⟩ := I.tuple h2
    have hh1 : X.A.in1.handled = none := hh
    exact ⟨us, vs, ru, rv, pu.isList, pv, ru.length.symm, by rw [← rv.length, hlen], WalksT.zipD2 S (Draws.list hh1 i1 a na _) (Draws.tuple hh1 i2 b nb _)⟩
  have sub5 : ∀ c ∈ [z, TO, i1, i2], c ∈ [z, TI, TO, i1, i2] := fun c hc => by
    simp only [List.mem_cons, List.not_mem_nil, or_false] at hc ⊢
    rcases hc with e | e | e | e
    · exact .inl e
    · exact .inr (.inr (.inl e))
    · exact .inr (.inr (.inr (.inl e)))
    · exact .inr (.inr (.inr (.inr e)))
  refine turn_of (List.mem_cons_self ..) (fun i h st c hc => ?_) (fun i h h' st k => ?_) (fun A i s Q E st h => wpAny_pyIter_zip st.1 h) (fun X i pins s σ H hP hw hK hh I st hg => ?_) (fun X i pins s σ H hP hw hK hh I st hg => ?_)
  · obtain ⟨hz, hTI, ⟨x, y, hTO⟩, ⟨o1, e1, _, d1⟩, ⟨o2, e2, _, d2⟩⟩ := st
    simp only [List.mem_cons, List.not_mem_nil, or_false] at hc
    rcases hc with q | q | q | q | q
    all_goals rw [q]
    · exact ⟨_, hz, fun v q => nomatch q⟩
    · exact ⟨_, hTI, fun v q => nomatch q⟩
    · exact ⟨_, hTO, fun v q => nomatch q⟩
    · exact ⟨o1, e1, fun v q => by rw [d1] at q; cases q⟩
    · exact ⟨o2, e2, fun v q => by rw [d2] at q; cases q⟩
  · obtain ⟨hz, hTI, ⟨x, y, hTO⟩, h1, h2⟩ := st
    have m : ∀ c, c = z ∨ c = TI ∨ c = TO ∨ c = i1 ∨ c = i2 → ∀ o, h.get? c = some o → h'.get? c = some o := fun c hc => k c (by simpa using hc)
    exact ⟨m z (.inl rfl) _ hz, m TI (.inr (.inl rfl)) _ hTI, ⟨x, y, m TO (.inr (.inr (.inl rfl))) _ hTO⟩, h1.at fun o q => m i1 (.inr (.inr (.inr (.inl rfl)))) o q, h2.at fun o q => m i2 (.inr (.inr (.inr (.inr rfl)))) o q⟩
  · obtain ⟨h1, h2, hi⟩ := hg
    obtain ⟨us, vs, ru, rv, pu, pv, lu, lv, W⟩ := lists X pins s σ H hK hP hw hh I h1 h2
    refine ⟨_, _, _, _, _, _, W, ?_, ⟨st.1, st.2.1, st.2.2.1, ⟨st.2.2.2.1, pu⟩, st.2.2.2.2, pv⟩, sub5, fun h z => ⟨z.1, z.2.1, z.2.2.1, z.2.2.2.1.1, z.2.2.2.2.1⟩, fun vals ⟨u1, u2, g1, g2, ev⟩ => ?_⟩
    · rw [List.size_toArray, List.size_toArray, lu, lv, Nat.min_self]
      exact hi
    · obtain ⟨x, hx, rx⟩ := vals_at ru (by simpa using g1)
      obtain ⟨y, hy, ry⟩ := vals_at rv (by simpa using g2)
      refine ⟨[x, y], ?_, (by show 2 ≤ 15; decide), fun T nT => ⟨T, x, y, rfl, nT, rfl, hx, hy⟩⟩
      rw [ev]
      exact .cons rx (.cons ry .nil)
  · obtain ⟨h1, h2, hi⟩ := hg
    obtain ⟨us, vs, ru, rv, pu, pv, lu, lv, W⟩ := lists X pins s σ H hK hP hw hh I h1 h2
    refine ⟨_, _, _, _, _, _, W, ?_, sub5⟩
    have hn : min us.toArray.size vs.toArray.size = i := by
      rw [List.size_toArray, List.size_toArray, lu, lv, Nat.min_self, hi]
    rw [hn]
    exact ⟨st.1, st.2.1, st.2.2.1, ⟨st.2.2.2.1, pu⟩, st.2.2.2.2, pv⟩
def iZipLT (K : PySem.W.Frag) (ta : TA) : TI := fun σ H R => ta σ H fun vs H1 => ∃ a b xs ys, vs = [.ref a, .ref b] ∧ SqL K H1 a xs ∧ SqT K H1 b ys ∧ xs.length = ys.length ∧ R (ItzLT K a b xs ys) H1
theorem pi_zipLT {X : Cx} {e e2 : Expr} {ta : TA} {p pos tpos : Pos} {elts : List Expr} {kk : Nat} (hg : Gl X "zip") (hm : X.mg "zip" = none) (ha : PA X [e, e2] ta) (hs : starEach [e, e2] X.env = (false, eval e X.env) :: starEach [e2] X.env := by rfl)
    (hpl : (backTo pos (starEach [e2] X.env)).any (·.1) = false := by rfl) : PI X (.Tuple elts kk tpos) (.Call (.Name "zip" p) [e, e2] [] pos) (iZipLT X.K ta) := by
  constructor
  intro pins s σ H R I h
  refine Call_ (ld_blt I hg hm PyProof.Rows.boot_zip (PyProof.Rows.callWith_type1 (thn (ha.run pos pins s σ H _ I h) fun us s1 ⟨vs, H1, I1, r1, a, b, xs, ys, ex, h1, h2, hl, q⟩ => ?_) hs hpl))
  subst ex
  rcases r1 with _ | ⟨ra, _ | ⟨rb, r0⟩⟩
  cases r0
  cases ra
  cases rb
  obtain ⟨us, ru, pu, _⟩ := I1.list h1
  obtain ⟨vs, rv, pv, _⟩ := I1.tuple h2
  have pv' : s1.heap.IsTuple b vs.toArray := pv
  have la : a < s1.heap.objs.size := pu.isList.elim fun o z => Heap.lt_size z.1
  have lb : b < s1.heap.objs.size := pv'.elim fun o z => Heap.lt_size z.1
  refine zip_begins2 (begins_list a us.toArray) (begins_tuple b vs.toArray) pu.isList pv' fun h' hz hTI hTO e1 e2 hsz hk => wpAny_pyIter_zip hz ?_
  have S : ZipSep2 (s1.heap.objs.size + 4) (s1.heap.objs.size + 2) (s1.heap.objs.size + 3) s1.heap.objs.size (s1.heap.objs.size + 1) [s1.heap.objs.size, a] [s1.heap.objs.size + 1, b] :=
    zip_sep2 (N := s1.heap.objs.size) (fun c hc => by rw [List.mem_singleton.mp hc]; exact la) (fun c hc => by rw [List.mem_singleton.mp hc]; exact lb)
  refine ⟨s1.heap.objs.size + 4, [s1.heap.objs.size + 4, s1.heap.objs.size + 2, s1.heap.objs.size + 3, s1.heap.objs.size, s1.heap.objs.size + 1], _, _, H1, rfl, I1.kept (t' := s1.toks) hk, turn_zipLT hl S (Nat.ne_of_lt la) (Nat.ne_of_lt (Nat.lt_succ_of_lt lb)),
    ⟨hz, hTI, ⟨_, _, hTO⟩, ⟨_, e1, rfl, rfl⟩, ⟨_, e2, rfl, rfl⟩⟩, fun c hc => ?_, q⟩
  have hle : s1.heap.objs.size ≤ c := by
    simp only [List.mem_cons, List.not_mem_nil, or_false] at hc
    rcases hc with q | q | q | q | q <;> rw [q] <;> first
      | exact Nat.le_add_right _ _
      | exact Nat.le_refl _
  exact I1.fpOk hle (I1.hok.fresh hle)
end EZ

set_option Elab.async false
set_option linter.all false
set_option maxRecDepth 100000
set_option maxHeartbeats 1000000
/-! Rules that the law's own text wants. -/
namespace K02
open PySem PySem.Spec L2
open PyProof.Rows GenW GxR EZ
open LamX (ExtN)
/-- repr of a reading -/
def rdS : Option Bool → Str
  | none => "None"
  | some b => toString (bitZ b)
theorem call_reprR {X : Cx} : CallR X (.builtin "repr") (fun xs H Q => ∃ r : Option Bool, xs = [rdV r] ∧ Q (.str (rdS r)) H) := by
  intro pins s σ H xs us Q I r h
  obtain ⟨o, rfl, q⟩ := h
  cases o with
  | none =>
    rcases r with _ | ⟨ra, r0⟩
    cases r0
    cases ra
    exact PySem.P.repr_of_none ⟨.str _, H, I.tok _, ⟨_, rfl⟩, q⟩
  | some b =>
    rcases r with _ | ⟨ra, r0⟩
    cases r0
    obtain ⟨t, rfl⟩ := ra
    exact PySem.P.repr_of_int (by cases b <;> decide) ⟨.str _, H, I.tok _, ⟨_, rfl⟩, q⟩
/-- f(k = v, ..) -/
theorem pe_callK0 {X : Cx} {CX : CXT} {k : Nat} {f : Addr} {fd : FuncData} {ps ks : List Str} {sp : Sp} {g : List Value → List Value → List Value} {gV : List V → List V → List V} {E : XK} {x : Str} {p pos : Pos} {kws : List Keyword} {tk : TA} (F : FnOk X.prog X.w X.K X.mg X.base CX k f fd ps sp) (hr : Room k X.A) (hg : Gl X x)
    (hm : X.mg x = some (.ref f)) (hk : PySem.W.keepIn X.K (.ref f) = true) (hb : KBinds X.K fd ps ks g gV) (hx : Passes CX X E) (hkw : PK X kws tk) (hall : (backToKw pos (keywordEach kws X.env)).all (·.1.isSome) = true := by rfl)
    (hks : (backToKw pos (keywordEach kws X.env)).filterMap (·.1) = ks := by rfl) (hdb : (x == ("__debug__" : Str)) = false := by decide) (hpl : ((backTo pos (starEach [] X.env)).any (·.1) || (backToKw pos (keywordEach kws X.env)).any (·.1.isNone)) = false := by rfl) :
    PE X (.Call (.Name x p) [] kws pos) (tCallK sp gV E tNil tk) := by
  constructor
  intro pins s σ H Q I h
  refine wpAny_Call_Name_kw (ld_glob I hg hm (PySem.W.callWith_KW0 (h₀ := X.base) I.ok.mod.kin hk hall (thn (hkw.run pos pins s σ H _ I h) fun ws s2 ⟨zs, H2, I2, rz, q2⟩ => ⟨I2.kIn, ?_⟩) hpl) hdb)
  rw [hks]
  exact run_fnk F hr hb hx I2 .nil rz q2
/-- no error leaves a call that has none -/
theorem passNone {X : Cx} : Passes (L2.CX X.prog X.w) X fun _ _ _ => False := fun _ _ _ _ _ _ _ c => by
  obtain ⟨_, _, _, _, _, _, _, _, _, _, _, _, z⟩ := c
  exact z.elim
end K02

set_option Elab.async false
set_option linter.all false
set_option maxRecDepth 100000
set_option maxHeartbeats 4000000
namespace TM
open PySem PySem.Spec PySem.Calls PyProof.Rows L2
theorem tuple_mul1 (l : Addr) (items : Array Value) (n : Nat) (dd : Option Addr) (sl : Array (Option Value)) (u : Tok) :
    Meets (Builtin.«tuple.__mul__» ⟨[.ref l, .int 1 u], []⟩) (fun _ R s => s.heap.get? l = some { cls := .type "tuple", dict := dd, data := .seq items n, slots := sl } ∧ R (.ok (.ret (.ref l))) s) :=
  .of_wp fun prog w A R s h => by
    obtain ⟨hp, g, d, tk, os⟩ := s
    obtain ⟨hl, h⟩ := h
    have f1 := AutoSeq1.idx_int
    wp_walk using wpAny_loadPart' hl
    exact ⟨_, rfl, h⟩
/-- t * k, k at least 1 (t * 1 is t itself) -/
def rRepA (K : PySem.W.Frag) : R2 := fun x y H Q => ∃ l k xs, x = .ref l ∧ y = .int k ∧ SqT K H l xs ∧ xs ≠ [] ∧ 1 ≤ k ∧ k ≤ 1000 ∧ xs.length ≤ 1000 ∧ (k = 1 → Q (.ref l) H) ∧ (2 ≤ k → ∀ p, H p = none → Q (.ref p) (upd H p (.tup (List.replicate k.toNat xs).flatten)))
theorem op_repA {X : Cx} : OpR X (binaryOp .Mult) (rRepA X.K) := by
  intro pins s σ H x y v u Q I rx ry h
  obtain ⟨l, k, xs, rfl, rfl, hT, hne, h1, h2, hz, q1, q2⟩ := h
  by_cases hk : k = 1
  · subst hk
    cases rx
    obtain ⟨t, rfl⟩ := ry
    obtain ⟨its, r, ⟨⟨cls, dd, data, sl⟩, ho, hc, n, hd⟩, hs⟩ := I.tuple hT
    simp only at hc hd
    subst hc
    subst hd
    exact wpAny_binaryOp_repeat_ref (T := "tuple") (U := "int") (by decide) ⟨_, ho, rfl⟩ (fun s' => typeIs_int s' 1 t) noFill_tuple_mul F.fills_int_mul F.slot_int_rmul repeat_tuple F.slot_int_index.lookup
      (call_meets F.slot_int_rmul (typeIs_int s 1 t) F.entry_int_rmul (F.args_int_rmul_2 _ _) (int_rmul_tuple 1 t l its.toArray n dd sl)
        ⟨ho, rfl, ⟨_, ho, rfl⟩, call_meets F.slot_tuple_mul ⟨_, ho, rfl⟩ F.entry_tuple_mul (F.args_tuple_mul_2 _ _) (tuple_mul1 l its.toArray n dd sl t) ⟨ho, ⟨.ref l, H, I, rfl, q1 rfl⟩⟩⟩)
  · exact op_repT pins s σ H (.ref l) (.int k) v u Q I rx ry ⟨l, k, xs, rfl, rfl, hT, hne, by omega, h2, hz, q2 (by omega)⟩
end TM

set_option Elab.async false
set_option linter.all false
set_option maxRecDepth 100000
set_option maxHeartbeats 1000000
/-! Kinds of values that stand in a heap. -/
namespace K02
open PySem PySem.Spec L2
open PyProof.Rows GenW GxR EZ TK
open LamX (ExtN)
def atomV : V → Bool
  | .non => true
  | .bl _ => true
  | .int _ => true
  | .str _ => true
  | _ => false
/-! ### types -/
section
variable {K : PySem.W.Frag} {H : Hp}
theorem ty_non : Ty1 K H .non "NoneType" := ⟨.base .non, by decide⟩
theorem ty_int (i : Int) : Ty1 K H (.int i) "int" := ⟨.base (.int i), by decide⟩
theorem ty_bl (b : Bool) : Ty1 K H (.bl b) "bool" := ⟨.base (.bl b), by decide⟩
theorem ty_str (z : Str) : Ty1 K H (.str z) "str" := ⟨.base (.str z), by decide⟩
theorem ty_tup {a : Addr} {xs : List V} (h : H a = some (.tup xs)) : Ty1 K H (.ref a) "tuple" := ⟨.base (.tup h), by decide⟩
theorem ty_lst {a : Addr} {xs : List V} (h : H a = some (.lst xs)) : Ty1 K H (.ref a) "list" := ⟨.base (.lst h), by decide⟩
theorem ty_dT {a : Addr} {xs : List (List L2.Key × V)} (h : H a = some (.dT xs)) : Ty1 K H (.ref a) "dict" := ⟨.base (.dT h), by decide⟩
theorem ty_rd (r : Option Bool) : ∃ t, Ty1 K H (rdV r) t := by
  cases r with
  | none => exact ⟨_, ty_non⟩
  | some b => exact ⟨_, ty_int _⟩
theorem bel_bitV (b : Bool) : bel (bitV b) 2 = true := by cases b <;> decide
theorem rdB_rdV (r : Option Bool) : rdB (rdV r) = true := by
  cases r with
  | none => rfl
  | some b => cases b <;> decide
variable {H' : Hp}
theorem atom_ty {y : V} (h : atomV y = true) : ∃ t, Ty1 K H y t := by
  cases y with
  | non => exact ⟨_, ty_non⟩
  | bl b => exact ⟨_, ty_bl b⟩
  | int i => exact ⟨_, ty_int i⟩
  | str z => exact ⟨_, ty_str z⟩
  | _ => cases h
theorem rep_all {α : Type} (f : α → Bool) (x : α) (n : Nat) (h : f x = true) : (List.replicate n x).all f = true := List.all_eq_true.mpr fun y hy => by
  rw [List.eq_of_mem_replicate hy]
  exact h
theorem rep_bad {α : Type} (f : α → Bool) (x : α) {n : Nat} (h : f x = false) (hn : 0 < n) : (List.replicate n x).all f = false := by
  cases n with
  | zero => cases hn
  | succ n =>
    rw [List.replicate_succ, List.all_cons, h]
    rfl
theorem repA_to {x : Addr} {v : V} {k : Int} {Q : VK} (hx : H x = some (.tup [v])) (h1 : 1 ≤ k) (h2 : k ≤ 1000) (q : ∀ p H', Same H H' → H' p = some (.tup (List.replicate k.toNat v)) → Q (.ref p) H') : TM.rRepA K (.ref x) (.int k) H Q := by
  refine ⟨x, k, [v], rfl, rfl, .inl (.inl hx), by simp, h1, h2, (by show 1 ≤ 1000; decide), fun z => ?_, fun _ p np => q p _ (same_new np) ?_⟩
  · refine q x H (fun _ _ e => e) ?_
    rw [z]
    exact hx
  · rw [upd_same, rep_one]
end
end K02

set_option Elab.async false
set_option linter.all false
set_option maxRecDepth 100000
set_option maxHeartbeats 1000000
/-! What stands between the turns of a law: the state of the draws, the tables. -/
namespace K02
open PySem PySem.Spec L2
open PyProof.Rows GenW GxR EZ TK CE LamX
theorem catA_to {K : PySem.W.Frag} {H : Hp} {x y : Addr} {xs ys : List V} {Q : VK} (hx : H x = some (.tup xs)) (hy : H y = some (.tup ys)) (hl : xs.length + ys.length ≤ 1000) (q : ∀ p H', Same H H' → H' p = some (.tup (xs ++ ys)) → Q (.ref p) H') : rCatA K (.ref x) (.ref y) H Q := by
  refine ⟨x, y, xs, ys, rfl, rfl, .inl (.inl hx), .inl (.inl hy), Nat.le_of_lt (small1000 hl), fun z => ?_, fun _ z => ?_, fun _ _ p np => q p _ (same_new np) upd_same⟩
  · refine q y H (fun _ _ e => e) ?_
    rw [z]
    exact hy
  · refine q x H (fun _ _ e => e) ?_
    rw [z, List.append_nil]
    exact hx
/-- the name of the law's lambdas -/
abbrev lawQ : Str := ("law" ++ ".<locals>.") ++ "<lambda>"
/-- the heap without what the draws write -/
def hid (st lg : Addr) (H : Hp) : Hp := fun b => if b = st ∨ b = lg then none else H b
theorem hid_at {st lg b : Addr} {H : Hp} (n1 : b ≠ st) (n2 : b ≠ lg) : hid st lg H b = H b := by
  unfold hid
  rw [if_neg (by rintro (z | z); exact n1 z; exact n2 z)]
theorem hid_tup {st lg cl b : Addr} {H : Hp} {t : Nat} {xs : List V} (S : StOk H st lg cl t) (e : H b = some (.tup xs)) : hid st lg H b = some (.tup xs) := by
  obtain ⟨ls, cs, left, turn, S⟩ := S
  rw [hid_at (fun z => by rw [z, S.d] at e; cases e) (fun z => by rw [z, S.l] at e; cases e)]
  exact e
theorem hid_ext {st lg : Addr} {H H' : Hp} (U : But st lg H H') : ExtN (hid st lg H) H' := fun b o e _ => by
  unfold hid at e
  by_cases h : b = st ∨ b = lg
  · rw [if_pos h] at e
    cases e
  · rw [if_neg h] at e
    exact U b o e (fun z => h (.inl z)) (fun z => h (.inr z))
/-- what stands between the turns -/
structure Between (st lg cl Pl : Addr) (TT : List Addr) (H : Hp) (t : Nat) : Prop where
  s : StOk H st lg cl t
  tt : TabsG TT H
  tl : LamX.TabS H Pl lawQ
theorem Between.same {st lg cl Pl : Addr} {TT : List Addr} {H H' : Hp} {t : Nat} (B : Between st lg cl Pl TT H t) (k : Same H H') : Between st lg cl Pl TT H' t := ⟨B.s.keep k, (Ex.same k).tabs B.tt, B.tl.ext k⟩
theorem codeO_st {c : Addr} {q : Str} : (∀ kvs, CodeO c q ≠ .dK kvs) ∧ ∀ xs, CodeO c q ≠ .lst xs := by
  unfold CodeO
  exact ⟨fun _ z => (by cases z), fun _ z => (by cases z)⟩
theorem But.keepO {st lg cl : Addr} {H H' : Hp} {t : Nat} {b : Addr} {o : HO} (U : But st lg H H') (S : StOk H st lg cl t) (e : H b = some o) (n1 : ∀ kvs, o ≠ .dK kvs) (n2 : ∀ xs, o ≠ .lst xs) : H' b = some o := by
  obtain ⟨ls, cs, left, turn, S⟩ := S
  refine U b o e (fun z => ?_) (fun z => ?_)
  · rw [z, S.d] at e
    exact n1 _ (Option.some.inj e).symm
  · rw [z, S.l] at e
    exact n2 _ (Option.some.inj e).symm
theorem Between.but {st lg cl Pl : Addr} {TT : List Addr} {H H' : Hp} {t t' : Nat} (B : Between st lg cl Pl TT H t) (S' : StOk H' st lg cl t') (U : But st lg H H') : Between st lg cl Pl TT H' t' := by
  refine ⟨S', fun P hP => ?_, ?_⟩
  · obtain ⟨ps, e, r⟩ := B.tt P hP
    exact ⟨ps, U.keepO B.s e (fun _ z => by cases z) (fun _ z => by cases z), r⟩
  · obtain ⟨ps, e, r, ce⟩ := B.tl
    refine ⟨ps, U.keepO B.s e (fun _ z => by cases z) (fun _ z => by cases z), r, fun pos cv h => ?_⟩
    obtain ⟨c, e1, e2⟩ := ce pos cv h
    exact ⟨c, e1, U.keepO B.s e2 codeO_st.1 codeO_st.2⟩
/-- all but d and the tables TT is as it was -/
def FR (d : Addr) (TT : List Addr) (H H' : Hp) : Prop := ∀ b o, b ≠ d → b ∉ TT → H b = some o → H' b = some o
theorem FR.refl (d : Addr) (TT : List Addr) (H : Hp) : FR d TT H H := fun _ _ _ _ e => e
theorem FR.same {d : Addr} {TT : List Addr} {H H1 H2 : Hp} (a : FR d TT H H1) (k : Same H1 H2) : FR d TT H H2 := fun b o n m e => k _ _ (a b o n m e)
theorem FR.ex {d : Addr} {TT : List Addr} {H H1 H2 : Hp} (a : FR d TT H H1) (k : Ex TT H1 H2) : FR d TT H H2 := fun b o n m e => k.keep _ _ m (a b o n m e)
theorem FR.upd {d : Addr} {TT : List Addr} {H H1 : Hp} {o : HO} (a : FR d TT H H1) : FR d TT H (upd H1 d o) := fun b x n m e => by
  rw [upd_ne n]
  exact a b x n m e
theorem notTT {TT : List Addr} {H : Hp} (t : TabsG TT H) {b : Addr} {o : HO} (e : H b = some o) (n : ∀ ps, o ≠ .tbl ps) : b ∉ TT := fun z => by
  obtain ⟨ps, g, _⟩ := t b z
  rw [g] at e
  exact n ps (Option.some.inj e).symm
theorem Between.fr {st lg cl Pl d : Addr} {TT : List Addr} {H0 H H' : Hp} {t : Nat} (B : Between st lg cl Pl TT H t) (hPT : Pl ∉ TT) (k0 : ∀ b o, H0 b = some o → H b = some o) (B0 : Between st lg cl Pl TT H0 t) (nd : H0 d = none) (F : FR d TT H H') (T : TabsG TT H') : Between st lg cl Pl TT H' t := by
  have key : ∀ b o, H0 b = some o → (∀ ps, o ≠ .tbl ps) → H' b = some o := fun b o e n => F b o (fun z => by rw [z, nd] at e; cases e) (notTT B0.tt e n) (k0 _ _ e)
  refine ⟨?_, T, ?_⟩
  · obtain ⟨ls, cs, left, turn, S⟩ := B0.s
    exact ⟨ls, cs, left, turn, key _ _ S.d (fun _ z => by cases z), key _ _ S.l (fun _ z => by cases z), key _ _ S.c (fun _ z => by cases z), S.lp, S.l0, S.t0, S.tt, S.ll, S.cc, S.ne⟩
  · obtain ⟨ps, e, r, ce⟩ := B0.tl
    refine ⟨ps, F Pl _ (fun z => by rw [z, nd] at e; cases e) hPT (k0 _ _ e), r, fun pos cv h => ?_⟩
    obtain ⟨c, e1, e2⟩ := ce pos cv h
    exact ⟨c, e1, key _ _ e2 (fun ps => codeO_ne ps)⟩
theorem Between.lam {st lg cl Pl ad : Addr} {TT : List Addr} {H H3 H4 : Hp} {t : Nat} {o : HO} (B : Between st lg cl Pl TT H t) (hPT : Pl ∉ TT) (bp : ButP Pl H H3) (T3 : LamX.TabS H3 Pl lawQ) :
    TabsG TT H3 ∧ ExtN H H3 ∧ (Ex TT H3 H4 → H4 ad = none → Between st lg cl Pl TT (upd H4 ad o) t ∧ ExtN H (upd H4 ad o)) := by
  obtain ⟨ps, e, r, ce⟩ := B.tl
  have x3 : ExtN H H3 := fun b o' h n => bp b o' (fun z => by rw [z, e] at h; exact n _ (Option.some.inj h).symm) h
  have t3 : TabsG TT H3 := fun P hP => by
    obtain ⟨ps', e', r'⟩ := B.tt P hP
    exact ⟨ps', bp P _ (fun z => hPT (z ▸ hP)) e', r'⟩
  refine ⟨t3, x3, fun x4 nad => ?_⟩
  have x5 : ExtN H (upd H4 ad o) := fun b o' h n => by
    have z := x4.extN t3 b o' (x3 b o' h n) n
    rw [upd_ne (ne_of_none z nad)]
    exact z
  refine ⟨⟨?_, fun P hP => ?_, ?_⟩, x5⟩
  · obtain ⟨ls, cs, left, turn, S⟩ := B.s
    exact ⟨ls, cs, left, turn, x5 _ _ S.d (fun _ z => by cases z), x5 _ _ S.l (fun _ z => by cases z), x5 _ _ S.c (fun _ z => by cases z), S.lp, S.l0, S.t0, S.tt, S.ll, S.cc, S.ne⟩
  · obtain ⟨ps', e', r'⟩ := x4.tabs t3 P hP
    exact ⟨ps', by rw [upd_ne (ne_of_none e' nad)]; exact e', r'⟩
  · obtain ⟨ps3, e3, r3, ce3⟩ := T3
    have k := x4.keep _ _ hPT e3
    refine ⟨ps3, by rw [upd_ne (ne_of_none k nad)]; exact k, r3, fun pos cv h => ?_⟩
    obtain ⟨c, e1, e2⟩ := ce3 pos cv h
    have z := x4.extN t3 c _ e2 (fun ps => codeO_ne ps)
    exact ⟨c, e1, by rw [upd_ne (ne_of_none z nad)]; exact z⟩
end K02

set_option Elab.async false
set_option linter.all false
set_option maxRecDepth 100000
set_option maxHeartbeats 2000000
/-! The end: the tables of the defs that hold generator expressions or lambdas. -/
namespace EN
open PySem PySem.Spec PyProof.Rows L2 LamX
theorem walk_tabs {l : PySem.W.OpenLaw} {n k : Nat} {q : Program} {loose : List Str} {XP : (Str → Option Value) → Heap → Prop} {YP : World → Heap → Prop} {d : DefRec} {K : Params → PySem.W.Frag} {CX : World → CXT} {x : Str} (names : List Str)
    (hn : l.most = some n) (hn2 : n ≤ sizeLine) (hdf : d.params.defaults = []) (hr : Room k callerA) (hrec : (names.all fun y => (recsOf q).any fun e => e.name == y) = true) (hY : ∀ (w : World) (h : Heap), YP w h → (K w.params).In h)
    (F : ∀ (w : World) (mg : Str → Option Value) (fa : Addr) (h : Heap), YP w h → (K w.params).In h → h.Ns mainGlobals mg → mg d.name = some (.ref fa) → (∀ y ∈ names, ∀ f, mg y = some (.ref f) → OwnTab (K w.params) f h) → LawAtS l w (K w.params) (CX w) k n x mg fa h)
    (hCX : ∀ (w : World) (H : Hp) (s : Shared) (e : Value) (s' : Shared), CX w [] H s (fun _ _ _ => False) e s' → False) : PySem.W.WalkO q loose XP YP l.row.toRowW d [] (fun f vs => PySem.call f vs) := by
  refine Att.attach_callB hn hdf fun w s₀ s₁ mg mb fa o pm cd doc a vs ns G Y ho hd hcd hmg hobj hints hlen hbits hg => ?_
  have KX := hY w _ Y
  have own : ∀ y ∈ names, ∀ f, mg y = some (.ref f) → OwnTab (K w.params) f s₁.heap := by
    intro y hy f hf c P o1 fd1 e dd vs1 sl k1 k2 k3 k4 k5
    obtain ⟨dL, hm, hn1⟩ := List.any_eq_true.mp (List.all_eq_true.mp hrec y hy)
    obtain ⟨a', o', fd', c', P', h1, h2, h3, h4, _, ⟨oc, vc, e1, _, e3, e4⟩, hP⟩ := G.T.tab dL hm
    rw [beq_iff_eq.mp hn1, hf] at h1
    cases h1
    rw [KX _ _ k1] at h2
    cases h2
    rw [k2] at h3
    cases h3
    rw [k3] at h4
    cases h4
    rw [KX _ _ k4] at e1
    cases e1
    cases e3
    rw [k5] at e4
    cases e4
    exact hP
  obtain ⟨fd, cs, sp, hT, nT, C, hb, hsp, hF⟩ := F w mg fa _ Y KX G.T.g hmg own
  exact law_callTs KX G.T.g G.T.b G.T.builtins G.T.nolimit hg hT nT C G.T.bmain hobj hints (Nat.le_trans hlen hn2) hr hF hb (fun H hH hS => hsp H a ns hlen hbits hH hS) fun H e s' => hCX w H s₁ e s'
end EN

set_option Elab.async false
set_option linter.all false
set_option maxRecDepth 100000
set_option maxHeartbeats 1000000
/-! repr of data (numbers, bools, texts, None, lists and tuples of these), where no repr is under way. -/
namespace RP
open PySem PySem.Spec L2
open PyProof.Rows
def rRepr (K : PySem.W.Frag) : List V → Hp → VK → Prop := fun xs H Q => ∃ (x : V) (d : PyData), xs = [x] ∧ Dp K H x d ∧ d.showable = true ∧ d.hasDict = false ∧ d.depth ≤ 60 ∧ d.shown.length ≤ sizeLine ∧ (∀ i, d = .int i → i.natAbs.log2 < 1920) ∧ Q (.str d.shown) H
theorem call_reprD {X : Cx} (hg : X.A.guards = some []) (hu : X.A.units + 64 < cLine) : CallR X (.builtin "repr") (rRepr X.K) := by
  intro pins s σ H xs us Q I r h
  obtain ⟨x, d, rfl, hd, hs, hdi, hdp, hl, hi, q⟩ := h
  rcases r with _ | ⟨rx, r0⟩
  cases r0
  cases hd with
  | non =>
    cases rx
    exact PySem.P.repr_of_none ⟨.str _, H, I.tok _, ⟨_, rfl⟩, q⟩
  | bl b =>
    cases rx
    refine PySem.P.repr_of_bool ⟨.str _, H, I.tok _, ⟨_, rfl⟩, ?_⟩
    cases b <;> exact q
  | int i =>
    obtain ⟨t, rfl⟩ := rx
    exact PySem.P.repr_of_int (hi i rfl) ⟨.str _, H, I.tok _, ⟨_, rfl⟩, q⟩
  | str z =>
    obtain ⟨t, rfl⟩ := rx
    exact PySem.P.repr_of_str ⟨.str _, H, I.tok _, ⟨_, rfl⟩, q⟩ hl
  | lst h1 h2 =>
    cases rx
    obtain ⟨as, rd⟩ := Dp.reads I _ _ _ (.lst h1 h2) rfl
    exact repr_of_reads' rd hs (fun z => by rw [hdi] at z; cases z) hg (by omega) (fun _ _ e => e) (fun h' u tk hk => ⟨.str _, H, I.kept (t' := tk) hk, ⟨_, rfl⟩, q⟩) hl
  | tup h1 h2 =>
    cases rx
    obtain ⟨as, rd⟩ := Dp.reads I _ _ _ (.tup h1 h2) rfl
    exact repr_of_reads' rd hs (fun z => by rw [hdi] at z; cases z) hg (by omega) (fun _ _ e => e) (fun h' u tk hk => ⟨.str _, H, I.kept (t' := tk) hk, ⟨_, rfl⟩, q⟩) hl
end RP

set_option Elab.async false
set_option linter.all false
set_option maxRecDepth 100000
set_option maxHeartbeats 2000000
/-! Own exceptions over an own class, whose __init__ says super().__init__(text) and keeps its one argument. -/
namespace ES
open PySem PySem.Spec L2
open PyProof.Rows
/-! ### the built-in __init__ bound to the object, called -/
section
open PySem.W PySem.HandSPX
variable {prog : Program} {w : World} {A : Around} {E : Value → Shared → Prop} {h : Heap} {g : Array GenState} {d : Drawn} {t : Nat} {os : OsState}
variable {nm q : Str} {C N : Addr} {bs bm : List Value} {hdct : Bool} {sn : List Str} {sub : List Value} {ab : Bool} {col : Option Bool} {dd : Option Addr} {k0 k1 k2 k3 k5 : Option Value}
theorem call_mw {u e t0 : Addr} {rest : List Value} {Q : Value → Shared → Prop}
    (hC : h.get? C = some (excClassObj nm q C N bs bm hdct sn sub ab col dd k0 k1 k2 k3 k5 "ValueError.__new__")) (he : h.get? e = some (excO C t0)) (hu : h.get? u = some (kxs_mw "ValueError.__init__" e)) (hrest : rest.length ≤ sizeLine)
    (hq : ∀ h' t1, (∀ b o, b ≠ e → h.get? b = some o → h'.get? b = some o) → h'.get? e = some (excO C t1) → Q .none ⟨h', g, d, t, os⟩) :
    wpAny (model prog w) A (call (.ref u) rest) Q E ⟨h, g, d, t, os⟩ := by
  refine wpAny_call (codeAny_of_tree ?_)
  show wpAny _ A.in1 (callAny (.ref u) ⟨rest, []⟩) _ _ _
  simp only [callAny]
  refine wpAny_bind (wpAny_load hu ?_)
  simp only [kxs_mw, show (Value.type "method-wrapper" == Value.type "method" || Value.type "method-wrapper" == Value.type "builtin_function_or_method" || Value.type "method-wrapper" == Value.type "method-wrapper") = true by decide, if_true]
  refine W.KFB.if_so (by decide) ?_
  refine wpAny_bind (PySem.ESX.check_bound F.excBase_ValueError hC he rfl ?_)
  refine wpAny_bind (wpAny_pure (wpAny_pure ?_))
  refine ⟨Code.quiet_builtin _ (by decide +kernel), codeAny_builtin F.excBase_ValueError.initEntry ?_⟩
  rw [Around.under_plainId F.excBase_ValueError.init.plain _]
  wp_walk
  refine hq _ h.objs.size (fun b o hb ho => ?_) ?_
  · rw [Heap.get?_update_other _ _ (Ne.symm hb)]
    exact Heap.get?_push_of_some _ ho
  · rw [Heap.get?_update_self _ (Heap.get?_push_of_some _ he) rfl]
    rfl
end
/-! ### the frame of such an __init__ -/
def initCx (CX : CXT) (P : Program) (w : World) (K : PySem.W.Frag) (mg : Str → Option Value) (base : Heap) (N : List Str) (qual : Str) (scope : Scope) (f cda cc : Addr) (A : Around) (outer : List Env) (s : Shared) (H : Hp) (E : XK) : Cx where
  prog := P
  w := w
  K := K
  mg := mg
  base := base
  A := A.deeper (PySem.W.ksEnv qual scope s.heap.objs.size f (.ref cda) cc)
  N := N
  s_0 := s
  H_0 := H
  env := PySem.W.ksEnv qual scope s.heap.objs.size f (.ref cda) cc
  outer := outer
  stack := PySem.W.ksEnv qual scope s.heap.objs.size f (.ref cda) cc :: outer
  ex := []
  calm := true
  fn := fun _ => false
  pn := []
  xe := fun e s' => wpAny (model P w) (A.deeper (PySem.W.ksEnv qual scope s.heap.objs.size f (.ref cda) cc)) (leaving (PySem.W.ksEnv qual scope s.heap.objs.size f (.ref cda) cc) e) (fun _ s'' => CX outer H s E e s'') (fun e' s'' => CX outer H s E e' s'') s'
/-- the names of such an __init__: self, one more, __class__ captured -/
structure InitScope (p : Str) (scope : Scope) : Prop where
  kind : scope.kind = .function
  co : scope.isCoroutine = false
  gen : scope.isGenerator = false
  slf : scope.names.lookup ("self" : Str) = some .local
  par : scope.names.lookup p = some .local
  sup : scope.names.lookup ("super" : Str) = some .globalImplicit
  cls : scope.names.lookup ("__class__" : Str) = some .free
  only : ∀ y ∈ scope.names, (y.2 = .cell ∨ y.2 = .free) → y.1 = ("__class__" : Str)
  nocell : ∀ y ∈ scope.names, y.2 ≠ .cell
  ne : p ≠ ("self" : Str)
section
variable {CX : CXT} {P : Program} {w : World} {K : PySem.W.Frag} {mg : Str → Option Value} {base : Heap} {p qual : Str} {scope : Scope} {f cda cc D : Addr} {A : Around} {outer : List Env} {s : Shared} {H : Hp} {E : XK} {h₁ : Heap} {tk : Nat} {a : Addr} {v : V} {u : Value} {cl : Value} {cld : Option Addr} {csl : Array (Option Value)}
theorem init_start (S : InitScope p scope) (hcell : K.lookup cc = some ⟨cl, cld, .cell (some (.ref D)), csl⟩) (hd : A.handled = none) (e0 : Env0 P w K mg base A outer s H) (rv : RelV v u) (hns : h₁.Ns s.heap.objs.size fun y => ([("self", Value.ref a), (p, u)] : List (Str × Value)).reverse.lookup y)
    (kp : ∀ b o, s.heap.get? b = some o → h₁.get? b = some o) : Inv (initCx CX P w K mg base ["self", p] qual scope f cda cc A outer s H E) [] [some (.ref a), some v] H { s with heap := h₁, toks := tk } := by
  have hcb : base.get? cc = some ⟨cl, cld, .cell (some (.ref D)), csl⟩ := e0.mod.kin _ _ hcell
  have hcs := kp _ _ (e0.bs _ _ hcb).1
  have hcH := (e0.bs _ _ hcb).2
  have one : ∀ {y c}, ([("__class__", cc)] : List (Str × Addr)).lookup y = some c → y = "__class__" ∧ c = cc := fun {y c} e => by
    rw [List.lookup_cons] at e
    split at e
    · rename_i q
      cases e
      exact ⟨by simpa using q, rfl⟩
    · cases e
  have noA : ∀ b : Addr, b ∉ (initCx CX P w K mg base ["self", p] qual scope f cda cc A outer s H E).ex := fun b z => absurd (show b ∈ ([] : List Addr) from z) (by simp)
  refine ⟨⟨e0.mod, S.kind, rfl, rfl, Nat.le_refl _, fun y z c e1 e2 => by rw [(one e1).1, (one e2).1], fun y hy => ?_, fun y c z _ => ?_, fun _ => hd, Around.frames_deeper e0.frames, .inr ⟨rfl, rfl⟩, fun b z => absurd z (noA b), e0.bs, e0.bsz, fun b _ _ => noA b,
      fun b z => absurd z (noA b), e0.funs, e0.frf⟩,
    rfl, e0.bare, Un.kept kp, ⟨_, hns, fun i y x e1 e2 e3 => ?_⟩, fun y c e => ?_, e0.hok.fresh (Nat.le_refl _), fun y c e => ?_, fun q hq => absurd (show q ∈ ([] : List (Addr × Obj)) ++ [] from hq) (by simp), e0.hok.kept kp, rfl⟩
  · have hy : scope.names.lookup y = some .cell ∨ scope.names.lookup y = some .free := hy
    have : y = "__class__" := by
      rcases hy with h | h
      · exact S.only _ (PySem.mem_of_lookup h) (.inl rfl)
      · exact S.only _ (PySem.mem_of_lookup h) (.inr rfl)
    rw [this]
    exact ⟨cc, rfl⟩
  · have z : false = true := z
    cases z
  · have e1 : (["self", p] : List Str)[i]? = some y := e1
    have e2 : ([some (V.ref a), some v] : List (Option V))[i]? = some (some x) := e2
    match i, e1, e2 with
    | 0, e1, e2 =>
      cases e1
      cases e2
      refine ⟨.ref a, rfl, .inl ⟨S.slf, ?_⟩⟩
      show ([(p, u), ("self", Value.ref a)] : List (Str × Value)).lookup ("self" : Str) = some (.ref a)
      rw [List.lookup_cons]
      have : (("self" : Str) == p) = false := by simpa using fun z => S.ne z.symm
      rw [this]
      rfl
    | 1, e1, e2 =>
      cases e1
      cases e2
      refine ⟨u, rv, .inl ⟨S.par, ?_⟩⟩
      show ([(p, u), ("self", Value.ref a)] : List (Str × Value)).lookup p = some u
      rw [List.lookup_cons]
      have : (p == p) = true := by simp
      rw [this]
    | i + 2, e1, _ => cases e1
  · obtain ⟨rfl, rfl⟩ := one e
    exact ⟨_, _, hcs, rfl⟩
  · obtain ⟨rfl, rfl⟩ := one e
    exact hcH
end
/-- what the written part says of the class and its __init__ -/
structure InitK (P : Program) (K : PySem.W.Frag) (mg : Str → Option Value) (C cc f cda : Addr) : Prop where
  T : OexC K C
  sub : PySem.W.subIn K (.ref C) (.type "ValueError") = some true
  mro : PySem.W.mroIn K C (.ref C) = some true
  opq : PySem.W.nsIn K cStatics "thirdparty.any" = some none
  sup : PySem.W.ks_superIn K C C "__init__" = some (some (.builtin "ValueError.__init__"))
  cell : ∃ cl cld csl, K.lookup cc = some ⟨cl, cld, .cell (some (.ref C)), csl⟩
  file : ∃ ccl cdd vs ccs fl tf, K.lookup cda = some ⟨ccl, cdd, .fields vs, ccs⟩ ∧ vs[2]? = some (.str fl tf) ∧ ((P.main.file : Str) == fl) = true
  top : (P.main.scope.names.lookup ("super" : Str)).isSome = false
  msup : mg "super" = none
section
variable {CX : CXT} {P : Program} {w : World} {K : PySem.W.Frag} {mg : Str → Option Value} {base : Heap} {p qual : Str} {scope : Scope} {f cda cc : Addr} {A : Around} {outer : List Env} {s : Shared} {H : Hp} {E : XK} {a : Addr} {v : V}
/-- super().__init__('m') -/
theorem init_super {params : Arguments} {body bd : List Stmt} {pb : Str} {m : Str} {j : Nat} {p0 p1 p2 p3 p4 p5 : Pos} {dV kV doc pm ct oc : Value} {an od : Option Addr} {osl : Array (Option Value)} {s' : Shared} {ar : Arg} {C : Addr} {pl : Env → Sem Bool} (S : InitScope p scope) (k : InitK P K mg C cc f cda)
    (lk : K.lookup f = some ⟨oc, od, .func (PySem.W.ksFn pb qual params body scope dV kV doc pm an (.ref cda) ct cc), osl⟩) (har : (params.posonlyargs ++ params.args).head? = some ar) (hself : ar.arg = ("self" : Str))
    (I : Inv (initCx CX P w K mg base ["self", p] qual scope f cda cc A outer s H E) [] [some (.ref a), some v] H s') (he : H a = some (exo a C none))
    (hev : ∀ env : Env, eval (.Call (.Attribute (.Call (.Name "super" p0) [] [] p1) "__init__" p2) [.Constant (.str m) j p3] [] p4) env = (do
      let ov ← attributeBase (.Call (.Name "super" p0) [] [] p1) "__init__" env (eval (.Call (.Name "super" p0) [] [] p1) env)
      standAt p2.atName
      let (f, first) ← holding [ov] (getMethod ov "__init__" (pl env))
      callWith p4 f first (backTo p4 (starEach [.Constant (.str m) j p3] env)) [])) :
    _root_.PySem.wpAt (model P w) (A.deeper (PySem.W.ksEnv qual scope s.heap.objs.size f (.ref cda) cc)) (.func bd (PySem.W.ksEnv qual scope s.heap.objs.size f (.ref cda) cc))
      (exec (.Expr (.Call (.Attribute (.Call (.Name "super" p0) [] [] p1) "__init__" p2) [.Constant (.str m) j p3] [] p4) p5) (PySem.W.ksEnv qual scope s.heap.objs.size f (.ref cda) cc))
      (fun fl s'' => fl = .next ∧ Inv (initCx CX P w K mg base ["self", p] qual scope f cda cc A outer s H E) [] [some (.ref a), some v] H s'') (initCx CX P w K mg base ["self", p] qual scope f cda cc A outer s H E).xe s' := by
  obtain ⟨t1, ho⟩ := exo_at I.hok he
  obtain ⟨cl, cld, csl, hcell⟩ := k.cell
  obtain ⟨ccl, cdd, vs, ccs, fl, tf, hcode, hvs, hfile⟩ := k.file
  obtain ⟨nm, q, Na, bs, bm, sn, sub, ab, col, dd, k0, k1, k2, k3, k5, hCK, hbm⟩ := k.T.cls
  have X : K.In s'.heap := I.kIn
  have hC := X _ _ hCK
  obtain ⟨mb, hb1, hb2⟩ := I.mod.blt
  obtain ⟨ml, hns, hl⟩ := I.loc
  obtain ⟨us, ru, lks⟩ := hl 0 "self" (.ref a) rfl rfl (.inl S.slf)
  obtain rfl : us = Value.ref a := ru
  have hv : ml "self" = some (.ref a) := by
    rcases lks with ⟨_, e⟩ | ⟨z, _⟩
    · exact e
    · have z : scope.names.lookup ("self" : Str) = some .cell ∨ scope.names.lookup ("self" : Str) = some .free := z
      rw [S.slf] at z
      rcases z with z | z <;> cases z
  obtain ⟨hh, g, d, t, os⟩ := s'
  refine PySem.ks_wpAt_Expr_any ?_ I.quiet
  refine PySem.ks_wpAt_MethodCall ?_ (hev _)
  refine PySem.ks_wpAt_super_base S.sup S.cls (by decide) rfl (X _ _ lk) rfl har rfl (X _ _ hcode) rfl hvs hfile k.top ?_
  refine PySem.W.ks_loadName_global S.kind S.sup (Calls.loadGlobal_builtin (I.mod.glob.keeps I.bk) k.msup (hb1.keeps I.bk) ((hb2 "super" (by decide)).trans (show bootBuiltins "super" = some (.type "super") by first | rfl | kernel_rfl)) ⟨rfl, ?_⟩)
  refine wpAny_loadName_free S.kind S.cls rfl ⟨_, X _ _ hcell, rfl⟩ ?_
  rw [hself]
  refine wpAny_loadName_local S.kind S.slf hns hv ?_
  refine PySem.ks_wpAny_isType_cls hC rfl ⟨rfl, ?_⟩
  refine PySem.ks_wpAny_call_super hC rfl ho rfl (fun _ z => nomatch z) (PySem.W.looks_mroIn X k.mro) (fun h' e kp => ?_)
  have X' : K.In h' := fun b o z => kp _ _ (X b o z)
  have ho' := kp _ _ ho
  have I' : PySem.W.InstAt h' a ({ cls := .ref C, dict := none, data := .fields #[.ref t1, .none, .none, .none, .bool false, .none] } : Obj) C none := ⟨ho', rfl, rfl, trivial⟩
  obtain ⟨cd, hcd⟩ : ∃ cd, PySem.W.clsIn K C = some cd := ⟨_, by unfold PySem.W.clsIn; rw [hCK] <;> rfl⟩
  have hm : PySem.W.alongIn K "__init__" ((cd.mro.dropWhile (· != .ref C)).drop 1) = some (some (.builtin "ValueError.__init__")) := by
    have z := k.sup
    unfold PySem.W.ks_superIn at z
    rw [hcd] at z
    exact z
  refine PySem.W.kxs_getMethod PySem.W.kxs_ValueError e (PySem.W.looks_opaque X' k.opq) (l₀ := cd.mro) ?_ rfl X' hm (I'.type.andThen (PySem.W.looks_subIn X' k.sub)) (PySem.W.ks_ne X' I' hcd) (by decide) ?_
  · exact fun A Q E s k q => wpAny_bind ((PySem.W.looks_clsIn X' hcd) A _ E s k (wpAny_pure q))
  have hu : (h'.push (PySem.W.kxs_mw "ValueError.__init__" a)).get? h'.objs.size = some (PySem.W.kxs_mw "ValueError.__init__" a) := Heap.get?_push_at rfl rfl
  have kq : ∀ b o, hh.get? b = some o → (h'.push (PySem.W.kxs_mw "ValueError.__init__" a)).get? b = some o := fun b o z => Heap.get?_push_of_some _ (kp b o z)
  refine PySem.W.kxs_callWith (i := "ValueError.__init__") (x := a) rfl (Calls.evalArgs_plain (Calls.spliced_cons (Calls.Constant_str (k := j) (pos := p3) (Calls.spliced_nil ⟨hu, ?_⟩))))
  refine call_mw (kq _ _ hC) (kq _ _ ho) hu (by show 1 ≤ sizeLine; rw [sizeLine_eq]; omega) fun h2 t2 k2 e2 => ⟨rfl, ?_⟩
  have J := I.write (t' := t + 1 + 1) (x := a) (e := a) (o := exo a C none) (by rw [he]; exact True.intro) (.inl rfl) (fun b o hb z => k2 b o hb (kq b o z)) ⟨_, e2⟩ (exo_ok e2)
  have eu : upd H a (exo a C none) = H := by
    funext b
    by_cases hb : b = a
    · rw [hb, upd_same, he]
    · rw [upd_ne hb]
  rw [eu] at J
  exact J
/-- what C(v) keeps, in its __init__ -/
def spInit (K : PySem.W.Frag) (C : Addr) (fld : Str) : Sp := fun vs H Q _ => ∃ (a : Addr) (v : V), vs = [.ref a, v] ∧ H a = some (exo a C none) ∧ OexC K C ∧ PySem.W.findIn K (.ref C) fld = some none ∧ ∀ dx, H dx = none → dx ≠ a → Q .non (upd (upd H dx (exd dx [(fld, v)])) a (exo a C (some dx)))
abbrev iniScope (p : Str) : Scope := { kind := .function, names := [("self", .local), (p, .local), ("__class__", .free), ("super", .globalImplicit)], isGenerator := false, isCoroutine := false, more := [] }
abbrev iniArgs (p : Str) (q1 q2 : Pos) : Arguments := { posonlyargs := [], args := [{ arg := "self", annotation := none, pos := q1 }, { arg := p, annotation := none, pos := q2 }], vararg := none, kwonlyargs := [], kw_defaults := [], kwarg := none, defaults := [] }
abbrev iniBody (p m fld : Str) (j : Nat) (p0 p1 p2 p3 p4 p5 p6 p7 p8 p9 : Pos) : List Stmt :=
  [.Expr (.Call (.Attribute (.Call (.Name "super" p0) [] [] p1) "__init__" p2) [.Constant (.str m) j p3] [] p4) p5, .Assign [.Attribute (.Name "self" p6) fld p7] (.Name p p8) p9]
theorem iniScope_ok {p : Str} (h : p ∈ (["index", "signal", "name", "row", "most"] : List Str)) : InitScope p (iniScope p) := by
  simp only [List.mem_cons, List.not_mem_nil, or_false] at h
  rcases h with rfl | rfl | rfl | rfl | rfl
  all_goals exact ⟨rfl, rfl, rfl, rfl, rfl, rfl, rfl, by decide, by decide, by decide⟩
theorem ok_init {p m fld pb : Str} {j : Nat} {q1 q2 p0 p1 p2 p3 p4 p5 p6 p7 p8 p9 : Pos} {dV kV doc pm ct oc : Value} {an od : Option Addr} {osl : Array (Option Value)} {C : Addr} {pl : Env → Sem Bool} (S : InitScope p (iniScope p)) (k : InitK P K mg C cc f cda)
    (hno : PySem.W.findIn K (.ref C) fld = some none)
    (lk : K.lookup f = some ⟨oc, od, .func (PySem.W.ksFn pb qual (iniArgs p q1 q2) (iniBody p m fld j p0 p1 p2 p3 p4 p5 p6 p7 p8 p9) (iniScope p) dV kV doc pm an (.ref cda) ct cc), osl⟩)
    (hcd : PySem.W.codeIn K (.ref cda) qual = true) (hdb : (p == ("__debug__" : Str)) = false) (hcl : (p == ("__classdict__" : Str)) = false)
    (hev : ∀ env : Env, eval (.Call (.Attribute (.Call (.Name "super" p0) [] [] p1) "__init__" p2) [.Constant (.str m) j p3] [] p4) env = (do
      let ov ← attributeBase (.Call (.Name "super" p0) [] [] p1) "__init__" env (eval (.Call (.Name "super" p0) [] [] p1) env)
      standAt p2.atName
      let (f, first) ← holding [ov] (getMethod ov "__init__" (pl env))
      callWith p4 f first (backTo p4 (starEach [.Constant (.str m) j p3] env)) [])) :
    FnOk P w K mg base CX 1 f (PySem.W.ksFn pb qual (iniArgs p q1 q2) (iniBody p m fld j p0 p1 p2 p3 p4 p5 p6 p7 p8 p9) (iniScope p) dV kV doc pm an (.ref cda) ct cc) ["self", p] (spInit K C fld) := by
  refine ⟨fun vs H Q E h => ?_, fun A outer s H args us vs Q E hr e0 hb r hsp => ?_⟩
  · obtain ⟨a, v, rfl, _⟩ := h
    rfl
  obtain ⟨a, v, rfl, ea, _, _, q⟩ := hsp
  obtain ⟨cl, cld, csl, hcell⟩ := k.cell
  obtain ⟨u2, rfl, r2⟩ : ∃ u2, us = [Value.ref a, u2] ∧ RelV v u2 := by
    cases r with
    | @cons _ u1 _ ur r1 rr =>
      cases rr with
      | @cons _ u2 _ ur2 r2 r3 =>
        cases r3
        obtain rfl : u1 = Value.ref a := r1
        exact ⟨u2, rfl, r2⟩
  have KX : K.In s.heap := e0.mod.kin.keeps fun b o e => (e0.bs b o e).1
  have lim : s.heap.NoLimit := e0.mod.nolimit.keeps fun b o e => (e0.bs b o e).1
  refine PySem.ks_codeAny_call_defAt (fd := PySem.W.ksFn pb qual (iniArgs p q1 q2) (iniBody p m fld j p0 p1 p2 p3 p4 p5 p6 p7 p8 p9) (iniScope p) dV kV doc pm an (.ref cda) ct cc) (binds := [("self", Value.ref a), (p, u2)]) hr.depth (KX _ _ lk) rfl lim (PySem.W.codeRec_of KX hcd) rfl hb S.nocell (fun y hy => ?_) (fun h₁ hns kp => ?_)
  · simp only [List.mem_cons, List.not_mem_nil, or_false] at hy
    rcases hy with rfl | rfl
    · exact S.slf
    · exact S.par
  have I := init_start (CX := CX) (w := w) (E := E) (qual := qual) (f := f) (cda := cda) (tk := s.toks + 2) S hcell hr.hd e0 r2 hns kp
  refine PySem.ks_wpAt_execs_cons (PySem.ks_wpAt_mono (init_super (p5 := p5) S k lk rfl rfl I ea hev) (fun fl s' hs => ?_) fun _ _ z => z)
  obtain ⟨rfl, J⟩ := hs
  have PSt : PSs (initCx CX P w K mg base ["self", p] qual (iniScope p) f cda cc A outer s H E) [.Assign [.Attribute (.Name "self" p6) fld p7] (.Name p p8) p9] _ :=
    pss_one (ps_ost (f := fld) (pv 0 rfl (.inl S.slf)) (pv 1 rfl (.inl S.par) hdb hcl))
  refine PySem.wpAt_of_wpAny (wpAny_mono (PSt.run [] s' _ H { nx := fun _ H' => Q .non H', rt := fun _ _ => False } J ?_) (fun fl s'' hs => ?_) fun _ _ z => z)
  · exact ⟨_, rfl, _, rfl, a, C, rfl, k.T, hno, .inl ⟨ea, fun dx n ne => q dx n ne⟩⟩
  · cases fl with
    | next =>
      obtain ⟨σ', H', J', q'⟩ := hs
      exact ⟨.non, H', J'.os, J'.bare, J'.base, J'.hok, rfl, q'⟩
    | ret u =>
      obtain ⟨_, _, _, _, _, z⟩ := hs
      exact z.elim
    | brk =>
      obtain ⟨_, _, _, z⟩ := hs
      exact False.elim z
    | cont =>
      obtain ⟨_, _, _, z⟩ := hs
      exact False.elim z
end
end ES

set_option Elab.async false
set_option linter.all false
set_option maxRecDepth 100000
set_option maxHeartbeats 4000000
/-! Own exceptions made by keywords: C(k = v). -/
namespace PySem
namespace EK
open PySem.HandSPX
section
variable {M : Model} {A : Around} {E : Value → Shared → Prop} {h : Heap} {g : Array GenState} {d : Drawn} {t : Nat} {os : OsState}
variable {nm q : Str} {C N : Addr} {bs bm bmB : List Value} {hdct : Bool} {sn : List Str} {sub : List Value} {ab : Bool} {col : Option Bool} {dd : Option Addr} {k0 k1 k2 k3 k5 : Option Value} {B newId initId : String}
theorem check_new (F : ExcBaseFacts B newId initId bmB) (hT : ∀ X : String, bm.contains (.type X) = bmB.contains (.type X)) {rest : List Value} {kw : List (Str × Value)} {Q : Unit → Shared → Prop}
    (hC : h.get? C = some (excClassObj nm q C N bs bm hdct sn sub ab col dd k0 k1 k2 k3 k5 newId)) (hq : Q () ⟨h, g, d, t, os⟩) : wpAny M A (checkBuiltinCall newId ⟨.ref C :: rest, kw⟩) Q E ⟨h, g, d, t, os⟩ := by
  have hcont : (Value.ref C :: bm).contains (.type B) = true := by rw [List.contains_cons, hT, F.hasB, Bool.or_true]
  have hstar := F.noStar
  simp only [checkBuiltinCall, F.newKind, F.newSplit, F.newRow]
  repeat (first | refine wpAny_loadPart_at hC ?_ | (refine wpAny_isSubtype_exc hC ?_; rw [hcont]) | refine wpAny_staticBase_exc hC ?_ | refine wpAny_madeBy_exc hC ?_ | simp only [bne_self_eq_false, Bool.false_eq_true, if_false] | wp_step)
  exact hq
end
section
variable {prog : Program} {w : World} {A : Around} {E : Value → Shared → Prop} {R : Result → Shared → Prop} {h : Heap} {g : Array GenState} {d : Drawn} {t : Nat} {os : OsState}
variable {nm q : Str} {C N : Addr} {bs bm bmB : List Value} {hdct : Bool} {sn : List Str} {sub : List Value} {ab : Bool} {col : Option Bool} {dd : Option Addr} {k0 k1 k2 k3 k5 : Option Value} {B newId initId : String}
theorem new_own (F : ExcBaseFacts B newId initId bmB) (hT : ∀ X : String, bm.contains (.type X) = bmB.contains (.type X)) {rest : List Value} {kw : List (Str × Value)}
    (hC : h.get? C = some (excClassObj nm q C N bs bm hdct sn sub ab col dd k0 k1 k2 k3 k5 newId))
    (hq : R (.ok (.ret (.ref (h.objs.size + 1)))) ⟨(h.push { cls := .type "tuple", data := .seq rest.toArray }).push
      { cls := .ref C, data := .fields #[.ref h.objs.size, .none, .none, .none, .bool false, .none] }, g, d, t, os⟩) (hrest : rest.length ≤ sizeLine) :
    codeAny (model prog w) A (.builtin newId ⟨.ref C :: rest, kw⟩) R ⟨h, g, d, t, os⟩ := by
  have hends := F.ends
  have hcB : (Value.ref C :: bm).contains (.type B) = true := by rw [List.contains_cons, hT, F.hasB, Bool.or_true]
  have hcA : (Value.ref C :: bm).contains (.type "AttributeError") = false := by rw [List.contains_cons, hT, F.noAttr]; rfl
  have hcN : (Value.ref C :: bm).contains (.type "NameError") = false := by rw [List.contains_cons, hT, F.noName]; rfl
  refine codeAny_builtinAt F.entry ?_
  unfold Builtin.«BaseException.__new__»
  refine wpAt_bind ?_
  show wpAt _ _ _ (stack >>= _) _ _ _
  refine wpAt_bind (wpAt_stack fun p below => wpAt_of_wpAny ?_)
  wp_walk
  refine wpAt_of_wpAny ?_
  rw [F.owner]
  repeat (first | with_reducible refine wpAny_madeHere_exc F.canon hC ?_ | with_reducible refine wpAny_loadPart_at hC ?_ | (with_reducible refine wpAny_isSubtype_exc hC ?_; first | rw [hcB] | rw [hcA] | rw [hcN]) | wp_step)
  show R _ _
  rw [Heap.size_push]
  exact hq
theorem type_call (F : ExcBaseFacts B newId initId bmB) (hT : ∀ X : String, bm.contains (.type X) = bmB.contains (.type X)) {rest : List Value} {kw : List (Str × Value)} {fI : Addr} {Q : Fin → Shared → Prop}
    (hC : h.get? C = some (excClassObj nm q C N bs bm hdct sn sub ab col dd k0 k1 k2 k3 k5 newId))
    (hi : W.Looks (model prog w) h (typeLookup (.ref C) "__init__") (some (.ref fI))) (hb : ∀ self, W.Looks (model prog w) h (bindSpecial (.ref fI) self) (.ref fI, [self])) (hrest : rest.length ≤ sizeLine)
    (hq : codeAny (model prog w) A (.call (.ref fI) ⟨.ref (h.objs.size + 1) :: rest, kw⟩)
      (fun r s' => match r with | .ok (.ret v) => v = .none ∧ Q (.done (.ret (.ref (h.objs.size + 1)))) s' | .ok _ => False | .error e => E e s')
      ⟨(h.push (W.kdv_tup rest)).push (excO C h.objs.size), g, d, t, os⟩) :
    wpAny (model prog w) A (Builtin.«type.__call__» ⟨.ref C :: rest, kw⟩) Q E ⟨h, g, d, t, os⟩ := by
  repeat (first | with_reducible refine wpAny_loadPart_at hC ?_ | with_reducible refine wpAny_madeBy_exc hC ?_ | wp_step)
  refine codeAny_call_builtin_code (Code.quiet_builtin _ F.quiet) (check_new F hT hC ?_)
  refine new_own F hT hC ?_ hrest
  show wpAny _ _ _ _ _ _
  have k : ∀ b o, h.get? b = some o → ((h.push (W.kdv_tup rest)).push (excO C h.objs.size)).get? b = some o := fun b o e => Heap.get?_push_of_some _ (Heap.get?_push_of_some _ e)
  have hC₁ := k _ _ hC
  have hget : ((h.push (W.kdv_tup rest)).push (excO C h.objs.size)).get? (h.objs.size + 1) = some (excO C h.objs.size) := by heap_get
  have hcC : (Value.ref C :: bm).contains (.ref C) = true := by simp
  have i1 := hi.keeps k
  have b1 := (hb (.ref (h.objs.size + 1))).keeps k
  unfold isInstance
  repeat (first | with_reducible refine wpAny_loadPart_at hget ?_ | (with_reducible refine wpAny_isSubtype_exc hC₁ ?_; rw [hcC]) | wp_step)
  show wpAny _ _ (typeLookup (.ref C) _) _ _ _
  refine i1.at ?_
  refine wpAny_holding (wpAny_bind (b1.at ?_))
  refine wpAny_bind (wpAny_call (codeAny_mono hq fun r s' z => ?_))
  rcases r with e | (v | _ | _ | _) <;> first | exact z | exact z.elim | skip
  obtain ⟨rfl, z⟩ := z
  first
    | exact wpAny_pure (wpAny_pure z)
    | (wp_walk; exact z)
theorem call_own (F : ExcBaseFacts B newId initId bmB) (hT : ∀ X : String, bm.contains (.type X) = bmB.contains (.type X)) {rest : List Value} {kw : List (Str × Value)} {fI : Addr}
    (hC : h.get? C = some (excClassObj nm q C N bs bm hdct sn sub ab col dd k0 k1 k2 k3 k5 newId))
    (hi : W.Looks (model prog w) h (typeLookup (.ref C) "__init__") (some (.ref fI))) (hb : ∀ self, W.Looks (model prog w) h (bindSpecial (.ref fI) self) (.ref fI, [self])) (hrest : rest.length ≤ sizeLine)
    (hq : codeAny (model prog w) (A.under (.builtin "type.__call__" ⟨.ref C :: rest, kw⟩)) (.call (.ref fI) ⟨.ref (h.objs.size + 1) :: rest, kw⟩) (W.InitBack (h.objs.size + 1) R)
      ⟨(h.push (W.kdv_tup rest)).push (excO C h.objs.size), g, d, t, os⟩) :
    codeAny (model prog w) A (.call (.ref C) ⟨rest, kw⟩) R ⟨h, g, d, t, os⟩ := by
  have f1 := tc_lookup
  have f2 := tc_bind (.ref C)
  have hTy : (⟨h, g, d, t, os⟩ : Shared).TypeIs (.ref C) "type" := ⟨_, hC, rfl⟩
  refine codeAny_of_tree ?_
  show wpAny _ _ (callAny (.ref C) _) _ _ _
  repeat (any_goals (first | assumption | with_reducible refine wpAny_loadPart_at hC ?_ | wp_step))
  refine ⟨rfl, ?_⟩
  refine codeAny_call_builtin_at (Code.quiet_builtin _ (by decide +kernel)) entry_typeCall (wpAny_check_type_call_sub hC (type_call F hT hC hi hb hrest ?_))
  refine codeAny_mono hq fun r s' z => ?_
  rcases r with e | (v | _ | _ | _) <;> exact z
end
end EK
end PySem

set_option Elab.async false
set_option linter.all false
set_option maxRecDepth 100000
set_option maxHeartbeats 4000000
/-! Own exceptions as values: made, asked by isinstance, their field read. -/
namespace PySem.W
open PySem PySem.Spec PySem.Calls PyProof.Rows
section
variable {prog : Program} {w : World} {A : Around} {E : Value → Shared → Prop} {s : Shared} {K : Frag} {x D : Addr} {ox : Obj} {od : Option Obj}
theorem findObj_dataA {C : Addr} {name : Str} {a g : Value} (hc : (clsIn K C).isSome = true) (ha : findIn K (.ref C) name = some (some a)) (hg : specialIn K a "__get__" = some (some g)) (ht : takesIn K a = some true) : findObj K C od name = some (.bind g a) := by
  obtain ⟨cd, hc⟩ := Option.isSome_iff_exists.mp hc
  unfold findObj
  rw [hc, Option.bind_some, ha, Option.bind_some]
  simp [hg, ht]
theorem kin_classA {Q : Option Value → Shared → Prop} (hga : findIn K (.ref D) "__getattribute__" = some (some (.builtin "BaseException.__getattribute__"))) (hgt : findIn K (.ref D) "__getattr__" = some none) (hsub : subIn K (.ref D) (.type "BaseException") = some true)
    (hdct : hasDictIn K D = true) (ha : findIn K (.ref D) "__class__" = some (some (.builtin "object.__class__")))
    (hn : specialIn K (.builtin "object.__class__") "__get__" = some (some (.builtin "getset_descriptor.__get__"))) (htk : takesIn K (.builtin "object.__class__") = some true) (hm : mroIn K D (.type "object") = some true)
    (X : K.In s.heap) (I : InstAt s.heap x ox D od) (h : Q (some (.ref D)) { s with toks := s.toks + 1 }) : wpAny (model prog w) A (getAttr? (.ref x) "__class__") Q E s := by
  have hf : findObj K D od "__class__" = some (.bind (.builtin "getset_descriptor.__get__") (.builtin "object.__class__")) := findObj_dataA (by obtain ⟨cd, hc, _⟩ := any_some hdct; rw [hc]; rfl) ha hn htk
  obtain ⟨hp, g, d, t, os⟩ := s
  have L0 := I.type (M := model prog w)
  have L1 := looks_findIn (M := model prog w) X hga
  have L2 := looks_findIn (M := model prog w) X hgt
  have L3 := looks_find (M := model prog w) X I hf
  have sub : Looks (model prog w) hp (isInstance (.ref x) (.type "BaseException")) true := L0.andThen (looks_subIn X hsub)
  have hx0 : (false && onTheHeap (Value.builtin "BaseException.__getattribute__")) = false := rfl
  have hx2 : (Value.builtin "BaseException.__getattribute__" == Value.builtin "object.__getattribute__") = false := by decide +kernel
  have hx1 : (onTheHeap (Value.ref D) && Value.builtin "BaseException.__getattribute__" == Value.builtin "object.__getattribute__") = false := by rw [hx2]; rfl
  unfold getAttr? getAttrBy? getAttrBy
  refine wpAny_bind (wpAny_mkText (wpAny_bind (wpAny_attempt (wpAny_holding (wpAny_bind (L0.at (wpAny_bind (L1.at ?_))))))))
  show wpAny _ _ (if (onTheHeap (Value.ref D) && Value.builtin "BaseException.__getattribute__" == Value.builtin "object.__getattribute__") = true then _ else _) _ _ _
  rw [hx1, if_neg Bool.false_ne_true]
  unfold getAttrByItsOwn hookBefore
  refine wpAny_bind ?_
  rw [if_pos (show onTheHeap (Value.ref D) = true from rfl)]
  refine L2.at ?_
  refine wpAny_bind (wpAny_attempt (wpAny_holding ?_))
  unfold callGetattribute
  rw [hx0, if_neg Bool.false_ne_true]
  unfold boundAndCalled
  rw [PySem.F.excAttr_ValueError.ga.bind (.ref x)]
  refine wpAny_bind (wpAny_pure ?_)
  show wpAny _ _ (call (.builtin "BaseException.__getattribute__") [.ref x, .str "__class__" t]) _ _ _
  refine wpAny_call (codeAny_call_builtin PySem.F.excAttr_ValueError.ga.plain PySem.F.entry_bexc_ga ?_)
  refine @check_slot (model prog w) _ _ ⟨hp, g, d, t + 1, os⟩ "BaseException.__getattribute__" "BaseException" "__getattribute__" (.ref x) [.str "__class__" t] [] _ (by decide +kernel) (by decide +kernel) sub (PySem.F.args_bexc_ga (.ref x) (.str "__class__" t)) ?_
  unfold Builtin.«object.__getattribute__»
  refine wpAny_bind (wpAny_of_eq (a := ((Value.ref x : Value), [Value.str "__class__" t])) (by first | rfl | (simp only [slotArgs]; rfl)) ?_)
  refine wpAny_bind (wpAny_pure (wpAny_bind (L0.at (wpAny_bind (L3.at ?_)))))
  show wpAny _ _ (holding [Value.builtin "object.__class__"] (call (.builtin "getset_descriptor.__get__") [.builtin "object.__class__", .ref x, .ref D]) >>= ret) _ _ _
  refine wpAny_bind (wpAny_holding (wpAny_call (class_get (s := ⟨hp, g, d, t + 1, os⟩) (ox := ox) (od := od) X I hm ?_)))
  refine wpAny_pure ?_
  show wpAny _ _ (handedOut (.ref D)) _ _ _
  rw [handedOut_of (v := .ref D) rfl]
  first
    | exact wpAny_pure (wpAny_pure h)
    | exact wpAny_pure h
    | exact wpAny_pure (wpAny_bind (wpAny_pure (wpAny_pure h)))
theorem kitx_excA (hga : findIn K (.ref D) "__getattribute__" = some (some (.builtin "BaseException.__getattribute__"))) (hgt : findIn K (.ref D) "__getattr__" = some none) (hsub : subIn K (.ref D) (.type "BaseException") = some true) (hdct : hasDictIn K D = true) (ha : findIn K (.ref D) "__class__" = some (some (.builtin "object.__class__")))
    (hn : specialIn K (.builtin "object.__class__") "__get__" = some (some (.builtin "getset_descriptor.__get__"))) (htk : takesIn K (.builtin "object.__class__") = some true) (hm : mroIn K D (.type "object") = some true) :
    KitX K (.ref x) (.ref D) (fun h => InstAt h x ox D od) where
  ty := fun _ _ _ I => I.type
  it := fun _ _ X _ => by
    obtain ⟨cdD, hcD, _⟩ := any_some hdct
    unfold clsIn at hcD
    split at hcD
    · rename_i c' d' cd' sl' ho
      intro A' Q' E' s' k q
      unfold isType loadHead
      exact wpAny_bind (wpAny_loadPart (k _ _ (X _ _ ho)) (wpAny_pure q))
    · cases hcD
  ne := fun h tp dd its n sl X htp => by
    obtain ⟨cdD, hcD, _⟩ := any_some hdct
    refine Bool.eq_false_iff.mpr fun q => ?_
    have e : D = tp := Value.ref.inj (beq_iff_eq.mp q)
    subst e
    unfold clsIn at hcD
    split at hcD
    · rename_i c' d' cd' sl' ho
      have z := (X _ _ ho).symm.trans htp
      cases z
    · cases hcD
  ca := fun X I k => kin_classA hga hgt hsub hdct ha hn htk hm X I k
end
end PySem.W
namespace ES
open PySem PySem.Spec L2
open PyProof.Rows
/-! ### what stands at an exception that is held as a value -/
/-- x is an exception of the class at C; f tells its field, if it has one -/
def ExcAt (H : Hp) (x : V) (C : Addr) (fs : Option (List (Str × V))) : Prop := ∃ a, x = .ref a ∧ match fs with
  | none => H a = some (ExO (.ref C) a)
  | some l => ∃ d, H a = some (exo a C (some d)) ∧ H d = some (exd d l)
theorem exc_inst {X : Cx} {pins : List (Addr × Obj)} {σ : L2.St} {H : Hp} {s : Shared} {x : V} {C : Addr} {fs : Option (List (Str × V))} (I : Inv X pins σ H s) (h : ExcAt H x C fs) : ∃ a ox od, x = .ref a ∧ PySem.W.InstAt s.heap a ox C od := by
  obtain ⟨a, rfl, h⟩ := h
  cases fs with
  | none =>
    obtain ⟨⟨oe, vs, ho, hz, hd, _⟩, _, _⟩ := I.hok a _ (show H a = some (ExO (.ref C) a) from h)
    obtain ⟨oc, odd, oda, osl⟩ := oe
    obtain ⟨h1, h2⟩ := hz
    dsimp only at h1 h2 hd
    subst h1 h2 hd
    exact ⟨a, _, none, rfl, ho, rfl, rfl, trivial⟩
  | some l =>
    obtain ⟨d, ha, hd⟩ := h
    obtain ⟨t1, ho⟩ := exo_at I.hok ha
    obtain ⟨mA, ⟨od, es, ep, hod, _⟩, _⟩ := exd_at I.hok hd
    exact ⟨a, _, some od, rfl, ho, rfl, rfl, hod⟩
/-- isinstance(e, c), e an exception held as a value -/
def rIsV (K : PySem.W.Frag) : List V → Hp → VK → Prop := fun xs H Q => ∃ (x c : V) (cv : Value) (C : Addr) (fs : Option (List (Str × V))) (b : Bool), xs = [x, c] ∧ ExcAt H x C fs ∧ ExcC K C ∧ (∀ u, RelV c u → u = cv) ∧ PySem.W.kitOne K (.ref C) cv = some b ∧ Q (.bl b) H
theorem call_isV {X : Cx} : CallR X (.builtin "isinstance") (rIsV X.K) := by
  intro pins s σ H xs us Q I r h
  obtain ⟨x, c, cv, C, fs, b, rfl, hx, T, hcv, e, q⟩ := h
  obtain ⟨a, ox, od, rfl, J⟩ := exc_inst I hx
  cases r with
  | cons rx rr =>
    cases rr with
    | cons rt rr =>
      cases rr
      cases rx
      have ec := hcv _ rt
      subst ec
      exact PySem.W.kia_one (PySem.W.kitx_excA T.hg T.hk T.hs T.hd T.ha T.hn T.ht T.hm) I.kIn J e (fun z => nomatch z) fun tk => ⟨.bl b, H, I.kept (t' := tk) fun _ _ z => z, rfl, q⟩
/-- e.f, e an exception held as a value -/
def tXV (K : PySem.W.Frag) (f : Str) (te : TE) : TE := fun σ H Q => te σ H fun x H1 => ∃ (C : Addr) (l : List (Str × V)) (v : V), ExcAt H1 x C (some l) ∧ XfC K C ∧ PySem.W.findIn K (.ref C) f = some none ∧ l.lookup f = some v ∧ Q v H1
theorem pe_xv {X : Cx} {e : Expr} {te : TE} {pos : Pos} {n : Str} (he : PE X e te) (hb : attributeBase e n X.env (eval e X.env) = eval e X.env := by rfl) : PE X (.Attribute e n pos) (tXV X.K n te) := by
  refine ⟨fun pins s σ H Q I h => ?_⟩
  refine attr_of hb (thn (he.run pins s σ H _ I h) fun u s1 hh => ?_)
  obtain ⟨x, H1, I1, rx, C, l, v, ⟨a, rfl, d, ha, hd⟩, T, hno, hl, q⟩ := hh
  obtain rfl : u = Value.ref a := rx
  obtain ⟨t1, ho⟩ := exo_at I1.hok ha
  obtain ⟨mA, hns, hr⟩ := exd_at I1.hok hd
  obtain ⟨od, hod, hlk⟩ := lookIn_ns hns
  obtain ⟨u, hu, ru⟩ := RelO.some_of (v := v) (o := mA n) (by rw [← hl]; exact hr n)
  have J : PySem.W.InstAt s1.heap a ({ cls := .ref C, dict := some d, data := .fields #[.ref t1, .none, .none, .none, .bool false, .none] } : Obj) C (some od) := ⟨ho, rfl, rfl, hod⟩
  exact HandSPX.exc_get I1.kIn J T.ga T.gg T.exC (PySem.W.findObj_own T.hdC hno rfl (by rw [hlk, hu])) (handed_of ru) ⟨v, H1, I1.tok _, ru, q⟩
/-! ### C(v, ..) as a value -/
/-- C(e, ..), C's own __init__ keeping sp -/
def tMkV (C : Addr) (sp : Sp) (ta : TA) : TE := fun σ H Q => ta σ H fun vs H1 => vs.length ≤ 1000 ∧ ∀ a, H1 a = none → sp (.ref a :: vs) (upd H1 a (exo a C none)) (fun v H2 => v = .non ∧ Q (.ref a) H2) (fun _ _ _ => False)
section
variable {X : Cx} {CX : CXT} {x : Str} {C fI : Addr} {k : Nat} {fd : FuncData} {ps ks : List Str} {sp : Sp} {g : List Value → List Value → List Value} {gV : List V → List V → List V} {e : Expr} {es : List Expr} {kws : List Keyword} {ta tk : TA} {p pos : Pos}
theorem pe_mkV (T : OexC X.K C) (iC : PySem.W.findIn X.K (.ref C) "__init__" = some (some (.ref fI))) (tI : PySem.W.typeIn X.K (.ref fI) = some (.type "function"))
    (F1 : FnOk X.prog X.w X.K X.mg X.base CX k fI fd ps sp) (hr : Room (k + 1) X.A) (hb : Binds X.K fd ps []) (hx : Passes CX X (fun _ _ _ => False)) (hg : Gl X x) (hm : X.mg x = some (.ref C)) (ha : PA X (e :: es) ta)
    (hdb : (x == ("__debug__" : Str)) = false := by decide) (he : starEach (e :: es) X.env = (false, eval e X.env) :: starEach es X.env := by rfl) (hpl : (backTo pos (starEach es X.env)).any (·.1) = false := by rfl) :
    PE X (.Call (.Name x p) (e :: es) [] pos) (tMkV C sp ta) := by
  refine ⟨fun pins s σ H Q I h => ?_⟩
  obtain ⟨nm, q, N, bs, bm, sn, sub, ab, col, dd, k0, k1, k2, k3, k5, hC, hbm⟩ := T.cls
  refine wpAny_Call_Name_kw (ld_glob I hg hm ?_ hdb)
  refine PySem.W.callWith_K (h₀ := X.base) I.ok.mod.kin T.kC (thn (ha.run pos pins s σ H _ I h) fun us s1 ⟨vs, H1, I1, r1, hz, q1⟩ => ⟨I1.kIn, ?_⟩) he hpl
  show wpAny _ _ (call (.ref C) us) _ _ _
  obtain ⟨hp, gg, dr, tk, os⟩ := s1
  have hsz : hp.objs.size ≤ hp.objs.size + 1 := Nat.le_succ _
  have hn : H1 (hp.objs.size + 1) = none := I1.hok.fresh hsz
  have hq := q1 (hp.objs.size + 1) hn
  have kk : ∀ b o, hp.get? b = some o → ((hp.push (PySem.W.kdv_tup us)).push (PySem.HandSPX.excO C hp.objs.size)).get? b = some o := fun b o e => Heap.get?_push_of_some _ (Heap.get?_push_of_some _ e)
  have hget : ((hp.push (PySem.W.kdv_tup us)).push (PySem.HandSPX.excO C hp.objs.size)).get? (hp.objs.size + 1) = some (PySem.HandSPX.excO C hp.objs.size) := by heap_get
  have I2 : Inv X pins σ (upd H1 (hp.objs.size + 1) (exo (hp.objs.size + 1) C none)) ⟨(hp.push (PySem.W.kdv_tup us)).push (PySem.HandSPX.excO C hp.objs.size), gg, dr, tk, os⟩ :=
    I1.laid (t' := tk) (a := hp.objs.size + 1) (o := exo (hp.objs.size + 1) C none) (h' := (hp.push (PySem.W.kdv_tup us)).push (PySem.HandSPX.excO C hp.objs.size)) kk hsz (exo_ok hget)
  have r2 : Vals (V.ref (hp.objs.size + 1) :: vs) (Value.ref (hp.objs.size + 1) :: us) := .cons rfl r1
  have hl : (Value.ref (hp.objs.size + 1) :: us).length = ps.length := by
    have e := r2.length
    rw [F1.len _ _ _ _ hq] at e
    exact e.symm
  have hus : us.length ≤ sizeLine := by
    rw [← Paired.length r1, sizeLine_eq]
    omega
  have bb := hb _ (Value.ref (hp.objs.size + 1) :: us) I2.kIn (by rw [List.append_nil]; exact hl)
  rw [List.append_nil] at bb
  refine wpAny_call (PySem.HandSPX.call_own F.excBase_ValueError (fun Y => PySem.HandSPX.refsVE_contains Y bm hbm) (I1.kIn _ _ hC) (PySem.W.looks_findIn I1.kIn iC) (fun self => PySem.W.bind_fn I1.kIn self tI) hus
    (codeAny_mono (F1.run _ X.stack _ _ ⟨Value.ref (hp.objs.size + 1) :: us, []⟩ (Value.ref (hp.objs.size + 1) :: us) _ _ (fun _ _ _ => False) (hr.make C us []) (I2.env0.make C us []) bb r2 hq) fun r s' hq' => ?_))
  cases r with
  | error er => exact hx pins σ _ _ er s' I2 hq'
  | ok fl =>
    cases fl with
    | ret u =>
      obtain ⟨v, H2, I3, rv, ev, q2⟩ := I2.after hq'
      subst ev
      exact ⟨rv, .ref (hp.objs.size + 1), H2, I3, rfl, q2⟩
    | next => exact False.elim hq'
    | brk => exact False.elim hq'
    | cont => exact False.elim hq'
/-- C(k = v, ..) -/
def tMkVK (C : Addr) (sp : Sp) (gV : List V → List V → List V) (tk : TA) : TE := fun σ H Q => tk σ H fun zs H1 => ∀ a, H1 a = none → sp (gV [.ref a] zs) (upd H1 a (exo a C none)) (fun v H2 => v = .non ∧ Q (.ref a) H2) (fun _ _ _ => False)
theorem pe_mkVK (T : OexC X.K C) (iC : PySem.W.findIn X.K (.ref C) "__init__" = some (some (.ref fI))) (tI : PySem.W.typeIn X.K (.ref fI) = some (.type "function"))
    (F1 : FnOk X.prog X.w X.K X.mg X.base CX k fI fd ps sp) (hr : Room (k + 1) X.A) (hb : KBinds X.K fd ps ks g gV) (hx : Passes CX X (fun _ _ _ => False)) (hg : Gl X x) (hm : X.mg x = some (.ref C)) (hkw : PK X kws tk)
    (hall : (backToKw pos (keywordEach kws X.env)).all (·.1.isSome) = true := by rfl) (hks : (backToKw pos (keywordEach kws X.env)).filterMap (·.1) = ks := by rfl) (hdb : (x == ("__debug__" : Str)) = false := by decide)
    (hpl : ((backTo pos (starEach [] X.env)).any (·.1) || (backToKw pos (keywordEach kws X.env)).any (·.1.isNone)) = false := by rfl) : PE X (.Call (.Name x p) [] kws pos) (tMkVK C sp gV tk) := by
  refine ⟨fun pins s σ H Q I h => ?_⟩
  obtain ⟨nm, q, N, bs, bm, sn, sub, ab, col, dd, k0, k1, k2, k3, k5, hC, hbm⟩ := T.cls
  refine wpAny_Call_Name_kw (ld_glob I hg hm ?_ hdb)
  refine PySem.W.callWith_KW0 (h₀ := X.base) I.ok.mod.kin T.kC hall (thn (hkw.run pos pins s σ H _ I h) fun ws s1 ⟨zs, H1, I1, rz, q1⟩ => ⟨I1.kIn, ?_⟩) hpl
  rw [hks]
  show wpAny _ _ (call (.ref C) [] (ks.zip ws)) _ _ _
  obtain ⟨hp, gg, dr, tk, os⟩ := s1
  have hsz : hp.objs.size ≤ hp.objs.size + 1 := Nat.le_succ _
  have hn : H1 (hp.objs.size + 1) = none := I1.hok.fresh hsz
  have hq := q1 (hp.objs.size + 1) hn
  have kk : ∀ b o, hp.get? b = some o → ((hp.push (PySem.W.kdv_tup [])).push (PySem.HandSPX.excO C hp.objs.size)).get? b = some o := fun b o e => Heap.get?_push_of_some _ (Heap.get?_push_of_some _ e)
  have hget : ((hp.push (PySem.W.kdv_tup [])).push (PySem.HandSPX.excO C hp.objs.size)).get? (hp.objs.size + 1) = some (PySem.HandSPX.excO C hp.objs.size) := by heap_get
  have I2 : Inv X pins σ (upd H1 (hp.objs.size + 1) (exo (hp.objs.size + 1) C none)) ⟨(hp.push (PySem.W.kdv_tup [])).push (PySem.HandSPX.excO C hp.objs.size), gg, dr, tk, os⟩ :=
    I1.laid (t' := tk) (a := hp.objs.size + 1) (o := exo (hp.objs.size + 1) C none) (h' := (hp.push (PySem.W.kdv_tup [])).push (PySem.HandSPX.excO C hp.objs.size)) kk hsz (exo_ok hget)
  have r2 : Vals (gV [V.ref (hp.objs.size + 1)] zs) (g [Value.ref (hp.objs.size + 1)] ws) := hb.rel (.cons rfl .nil) rz
  have hl : (g [Value.ref (hp.objs.size + 1)] ws).length = ps.length := by
    rw [← r2.length]
    exact F1.len _ _ _ _ hq
  have bb := hb.to ⟨(hp.push (PySem.W.kdv_tup [])).push (PySem.HandSPX.excO C hp.objs.size), gg, dr, tk, os⟩ [Value.ref (hp.objs.size + 1)] ws I2.kIn hl
  refine wpAny_call (PySem.EK.call_own F.excBase_ValueError (fun Y => PySem.HandSPX.refsVE_contains Y bm hbm) (I1.kIn _ _ hC) (PySem.W.looks_findIn I1.kIn iC) (fun self => PySem.W.bind_fn I1.kIn self tI) (Nat.zero_le _)
    (codeAny_mono (F1.run _ X.stack _ _ ⟨[Value.ref (hp.objs.size + 1)], ks.zip ws⟩ (g [Value.ref (hp.objs.size + 1)] ws) _ _ (fun _ _ _ => False) (hr.make C [] (ks.zip ws)) (I2.env0.make C [] (ks.zip ws)) bb r2 hq) fun r s' hq' => ?_))
  cases r with
  | error er => exact hx pins σ _ _ er s' I2 hq'
  | ok fl =>
    cases fl with
    | ret u =>
      obtain ⟨v, H2, I3, rv, ev, q2⟩ := I2.after hq'
      subst ev
      exact ⟨rv, .ref (hp.objs.size + 1), H2, I3, rfl, q2⟩
    | next => exact False.elim hq'
    | brk => exact False.elim hq'
    | cont => exact False.elim hq'
end
end ES

set_option Elab.async false
set_option linter.all false
set_option maxRecDepth 100000
set_option maxHeartbeats 2000000
/-! sum of lists from a list on; a list or a tuple turned about by a slice; sorted of a tuple of tuples; repr of an empty dict. -/
namespace RU
open PySem PySem.Spec L2
open PyProof.Rows

/-! ### sum(xs, ys) of lists -/
theorem args_sum2 (a b : Value) : argsOk "sum" ⟨[a, b], []⟩ := by unfold argsOk; kernel_rfl
theorem sub_list_str : isSubtype (.type "list") (.type "str") = pure false := by rw [isSubtype_type]; kernel_rfl
theorem sub_list_bytes : isSubtype (.type "list") (.type "bytes") = pure false := by rw [isSubtype_type]; kernel_rfl
theorem sub_list_bytearray : isSubtype (.type "list") (.type "bytearray") = pure false := by rw [isSubtype_type]; kernel_rfl
abbrev Lo (xs : List Value) (n : Nat) : Obj := { cls := .type "list", data := .seq xs.toArray n }
section
variable {prog : Program} {w : World} {A : Around}
theorem sum_lists_loop {R : Result → Shared → Prop} {I l S : Addr} {items : Array Value} {old : Heap} {L : Nat → List Value} (hh : A.in1.handled = none) (hne : l ≠ I) (hSI : S ≠ I) (hSl : S ≠ l)
    (ho : ∀ b o, old.get? b = some o → b ≠ I ∧ b ≠ S) (hP : ∀ (i : Nat) (v : Value), items[i]? = some v → ∃ a n, v = .ref a ∧ old.get? a = some (Lo (L i) n)) (hz : ∀ i, i ≤ items.size → ((List.range i).flatMap L).length ≤ sizeLine) :
    ∀ (k i : Nat) (s : Shared) (acc : Addr) (c nn : Nat), items.size - i = k → i ≤ items.size → s.heap.IsListIter I l i → s.heap.IsList l items → s.heap.get? S = some (Lo [.ref acc] c) → acc ≠ S → acc ≠ I →
      s.heap.get? acc = some (Lo ((List.range i).flatMap L) nn) → (∀ b o, old.get? b = some o → s.heap.get? b = some o) →
      (∀ r h' m, (∀ b o, old.get? b = some o → h'.get? b = some o) → h'.get? r = some (Lo ((List.range items.size).flatMap L) m) → (r = acc ∧ i = items.size ∨ old.get? r = none) → R (.ok (.ret (.ref r))) { s with heap := h' }) →
      codeAny (model prog w) A (.builtin "sum.loop" ⟨[.ref I, .ref S, rawInt 2, rawInt 0], []⟩) R s := by
  intro k
  induction k with
  | zero =>
    intro i s acc c nn hk hi hit hl hS hSa hIa hacc hold hR
    have hin : i = items.size := by omega
    subst hin
    refine codeAny_builtin F.entry_sum_loop ?_
    rw [Around.under_plainId F.plain_sum_loop _]
    show wpAny _ A.in1 (seqItems? (.ref S) >>= _) _ _ s
    refine wpAny_bind (wpAny_seqItems hS rfl ?_)
    show wpAny _ A.in1 (tryCatch (pyNext (.ref I)) _ >>= _) _ _ s
    refine wpAny_bind (wpAny_tryCatch (wpAny_pyNext_list_end hh hit hl (by simp) fun h' he => ?_))
    exact wpAny_pure (hR acc h' nn (fun b o e => he b o (ho b o e).1 (hold b o e)) (he _ _ hIa hacc) (.inl ⟨rfl, rfl⟩))
  | succ k ih =>
    intro i s acc c nn hk hi hit hl hS hSa hIa hacc hold hR
    have hlt : i < items.size := by omega
    obtain ⟨a, na, ev, ha⟩ := hP i items[i] (by simp [hlt])
    refine codeAny_builtin F.entry_sum_loop ?_
    rw [Around.under_plainId F.plain_sum_loop _]
    show wpAny _ A.in1 (seqItems? (.ref S) >>= _) _ _ s
    refine wpAny_bind (wpAny_seqItems hS rfl ?_)
    show wpAny _ A.in1 (tryCatch (pyNext (.ref I)) _ >>= _) _ _ s
    refine wpAny_bind (wpAny_tryCatch (wpAny_pyNext_list_item hit hl (x := items[i]) (by simp [hlt]) fun h1 hit1 hs1 => ?_))
    rw [ev]
    have k1 : ∀ b o, b ≠ I → s.heap.get? b = some o → h1.get? b = some o := fun b o n e => (hs1.2 b n).trans e
    have hS1 := k1 _ _ hSI hS
    have hacc1 := k1 _ _ hIa hacc
    have ha1 := k1 _ _ (ho _ _ ha).1 (hold _ _ ha)
    have hl1 : h1.IsList l items := hl.extBut hs1.extBut hne
    have hsum : (List.range (i + 1)).flatMap L = (List.range i).flatMap L ++ L i := by rw [List.range_succ, List.flatMap_append]; simp
    have hz1 := hz (i + 1) hlt
    rw [hsum, List.length_append] at hz1
    show wpAny _ A.in1 ((holding [Value.ref a] (binaryOp .Add (.ref acc) (.ref a))).attempt >>= _) _ _ _
    refine wpAny_bind (wpAny_attempt (wpAny_holding (PySem.P.add_list (s := { s with heap := h1 }) hacc1 ha1 ?_ (by rw [List.size_toArray, List.size_toArray]; exact hz1))))
    have eo : (((List.range i).flatMap L).toArray ++ (L i).toArray) = ((List.range (i + 1)).flatMap L).toArray := by rw [hsum]; simp
    rw [eo]
    show wpAny _ A.in1 (updateSeq S (fun _ => #[Value.ref h1.objs.size]) >>= _) _ _ _
    have hS2 : (h1.push (Lo ((List.range (i + 1)).flatMap L) 0)).get? S = some (Lo [.ref acc] c) := Heap.get?_push_of_some _ hS1
    have hp2 : (h1.push (Lo ((List.range (i + 1)).flatMap L) 0)).get? h1.objs.size = some (Lo ((List.range (i + 1)).flatMap L) 0) := Heap.get?_push_size _ rfl
    have nS : h1.objs.size ≠ S := fun z => absurd (z ▸ Heap.lt_size hS1) (Nat.lt_irrefl _)
    have nI : h1.objs.size ≠ I := fun z => by
      obtain ⟨o, e, _⟩ := hit1
      exact absurd (z ▸ Heap.lt_size e) (Nat.lt_irrefl _)
    have k2 : ∀ b o, h1.get? b = some o → (h1.push (Lo ((List.range (i + 1)).flatMap L) 0)).get? b = some o := fun b o e => Heap.get?_push_of_some _ e
    have hit2 : (h1.push (Lo ((List.range (i + 1)).flatMap L) 0)).IsListIter I l (i + 1) := hit1.at fun o e => k2 I o e
    have hl2 : (h1.push (Lo ((List.range (i + 1)).flatMap L) 0)).IsList l items := hl1.push _
    generalize h1.push (Lo ((List.range (i + 1)).flatMap L) 0) = h2 at hS2 hp2 k2 hit2 hl2
    refine wpAny_bind (wpAny_updateSeq hS2 rfl ?_)
    have hS3 := Heap.get?_update_self (Obj.mapSeq fun _ => #[Value.ref h1.objs.size]) hS2 rfl
    have k3 : ∀ b, b ≠ S → (h2.update S (Obj.mapSeq fun _ => #[Value.ref h1.objs.size])).get? b = h2.get? b := fun b n => Heap.get?_update_other _ _ (Ne.symm n)
    generalize h2.update S (Obj.mapSeq fun _ => #[Value.ref h1.objs.size]) = h3 at hS3 k3
    refine wpAny_bind (wpAny_letGo ?_)
    have hS4 := Heap.get?_update_self (Obj.mapSeq fun _ => #[Value.ref h1.objs.size]) hS3 rfl
    have k4 : ∀ b, b ≠ S → (h3.update S (Obj.mapSeq fun _ => #[Value.ref h1.objs.size])).get? b = h3.get? b := fun b n => Heap.get?_update_other _ _ (Ne.symm n)
    refine wpAny_bind (wpAny_updateSeq hS3 rfl ?_)
    generalize h3.update S (Obj.mapSeq fun _ => #[Value.ref h1.objs.size]) = h4 at hS4 k4
    have k5 : ∀ b o, b ≠ S → h2.get? b = some o → h4.get? b = some o := fun b o n e => ((k4 b n).trans (k3 b n)).trans e
    refine wpAny_pure ⟨plainId_quiet F.plain_sum_loop _, ih (i + 1) { s with heap := h4 } h1.objs.size _ _ (by omega) hlt (hit2.at fun o e => k5 I o (Ne.symm hSI) e) ?_ hS4 nS nI (k5 _ _ nS hp2) (fun b o e => k5 b o (ho b o e).2 (k2 b o (k1 b o (ho b o e).1 (hold b o e)))) fun r h' m q1 q2 q3 => hR r h' m q1 q2 ?_⟩
    · obtain ⟨o, e, r⟩ := hl2
      exact ⟨o, k5 _ _ (Ne.symm hSl) e, r⟩
    · rcases q3 with ⟨q3, _⟩ | q3
      · refine .inr ?_
        rw [q3]
        cases z : old.get? h1.objs.size with
        | none => rfl
        | some o => exact absurd (Heap.lt_size (k1 _ _ (ho _ _ z).1 (hold _ _ z))) (Nat.lt_irrefl _)
      · exact .inr q3
theorem call_sum_lists {E : Value → Shared → Prop} {s : Shared} {l b : Addr} {nb : Nat} {items : Array Value} {L : Nat → List Value} {Q : Value → Shared → Prop} (hh : A.handled = none) (hl : s.heap.IsList l items)
    (hP : ∀ (i : Nat) (v : Value), items[i]? = some v → ∃ a n, v = .ref a ∧ s.heap.get? a = some (Lo (L i) n)) (hb : s.heap.get? b = some (Lo [] nb)) (hz : ∀ i, i ≤ items.size → ((List.range i).flatMap L).length ≤ sizeLine)
    (h : ∀ r h' m, (∀ c o, s.heap.get? c = some o → h'.get? c = some o) → h'.get? r = some (Lo ((List.range items.size).flatMap L) m) → (r = b ∧ 0 = items.size ∨ s.heap.get? r = none) → Q (.ref r) { s with heap := h' }) :
    wpAny (model prog w) A (call (.builtin "sum") [.ref l, .ref b]) Q E s := by
  have hlt : l < s.heap.objs.size := by obtain ⟨_, e, _⟩ := hl; exact Heap.lt_size e
  refine call_function_tree F.kind_sum F.plain_sum F.entry_sum (args_sum2 _ _) ?_
  unfold Builtin.«sum»
  simp only [List.length_cons, List.length_nil]
  rw [if_neg (by decide)]
  refine wpAny_bind (wpAny_of_eq (show Builtin.Builtins.bindParams "sum" ["start"] 0 ⟨[.ref b], []⟩ = pure [some (.ref b)] from rfl) ?_)
  refine wpAny_bind (wpAny_pyIter_list hl ?_)
  refine wpAny_bind (wpAny_pure ?_)
  have kI : ∀ c o, s.heap.get? c = some o → (s.heap.push { cls := .type "list_iterator", data := .fields #[.ref l, .int 0 0] }).get? c = some o := fun c o e => Heap.get?_push_of_some _ e
  have hitI : (s.heap.push { cls := .type "list_iterator", data := .fields #[.ref l, .int 0 0] }).IsListIter s.heap.objs.size l 0 := ⟨_, Heap.get?_push_size _ rfl, rfl, rfl⟩
  have hlI : (s.heap.push { cls := .type "list_iterator", data := .fields #[.ref l, .int 0 0] }).IsList l items := hl.push _
  generalize s.heap.push { cls := .type "list_iterator", data := .fields #[.ref l, .int 0 0] } = hI at kI hitI hlI
  have tb : ({ s with heap := hI } : Shared).TypeIs (.ref b) "list" := ⟨_, kI _ _ hb, rfl⟩
  simp only [List.forIn_cons, List.forIn_nil]
  refine wpAny_bind (wpAny_bind (wpAny_bind (wpAny_isInstance (T := "list") (b := false) tb sub_list_str ?_)))
  simp only [Bool.false_eq_true, if_false]
  refine wpAny_pure (wpAny_bind (wpAny_bind (wpAny_isInstance (T := "list") (b := false) tb sub_list_bytes ?_)))
  simp only [Bool.false_eq_true, if_false]
  refine wpAny_pure (wpAny_bind (wpAny_bind (wpAny_isInstance (T := "list") (b := false) tb sub_list_bytearray ?_)))
  simp only [Bool.false_eq_true, if_false]
  refine wpAny_pure (wpAny_pure ?_)
  refine wpAny_bind (wpAny_newObj_type ?_)
  have nb1 : b ≠ hI.objs.size := fun z => absurd (z ▸ Heap.lt_size (kI _ _ hb)) (Nat.lt_irrefl _)
  have nI1 : hI.objs.size ≠ s.heap.objs.size := fun z => by
    obtain ⟨o, e, _⟩ := hitI
    exact absurd (z ▸ Heap.lt_size e) (Nat.lt_irrefl _)
  have nl1 : hI.objs.size ≠ l := fun z => by
    obtain ⟨o, e, _⟩ := hlI
    exact absurd (z ▸ Heap.lt_size e) (Nat.lt_irrefl _)
  refine wpAny_pure ⟨plainId_quiet F.plain_sum_loop _, sum_lists_loop (old := s.heap) (l := l) (items := items) (L := L) hh (Nat.ne_of_lt hlt) nI1 nl1 (fun c o e => ⟨Nat.ne_of_lt (Heap.lt_size e), fun z => absurd (z ▸ Heap.lt_size (kI _ _ e)) (Nat.lt_irrefl _)⟩) hP hz items.size 0 _ b _ _ rfl (Nat.zero_le _)
    (hitI.at fun o e => Heap.get?_push_of_some _ e) (hlI.push _) (Heap.get?_push_size _ rfl) nb1 (fun z => absurd (z ▸ Heap.lt_size hb) (Nat.lt_irrefl _)) (Heap.get?_push_of_some _ (kI _ _ hb)) (fun c o e => Heap.get?_push_of_some _ (kI _ _ e)) fun r h' m q1 q2 q3 => h r h' m q1 q2 q3⟩
end
theorem flat_range {α : Type} : ∀ (vss : List (List α)), (List.range vss.length).flatMap (fun i => vss.getD i []) = vss.flatten
  | [] => rfl
  | v :: r => by
    rw [List.length_cons, List.range_succ_eq_map, List.flatMap_cons, List.flatMap_map, List.flatten_cons, ← flat_range r]
    rfl
theorem flat_up {α : Type} (f : Nat → List α) (i : Nat) : ∀ k, ((List.range i).flatMap f).length ≤ ((List.range (i + k)).flatMap f).length
  | 0 => Nat.le_refl _
  | k + 1 => by
    refine Nat.le_trans (flat_up f i k) ?_
    rw [show i + (k + 1) = (i + k) + 1 from rfl, List.range_succ, List.flatMap_append, List.length_append]
    omega
theorem flat_le {α : Type} {vss : List (List α)} {n : Nat} (h : vss.flatten.length ≤ n) (i : Nat) (hi : i ≤ vss.length) : ((List.range i).flatMap (fun i => vss.getD i [])).length ≤ n := by
  have z := flat_up (fun i => vss.getD i []) i (vss.length - i)
  rw [show i + (vss.length - i) = vss.length by omega, flat_range] at z
  omega
/-- sum(xs, []) of a list of lists -/
def rSumL (K : PySem.W.Frag) : List V → Hp → VK → Prop := fun vs H Q => ∃ (l b : Addr) (xs : List V) (yss : List (List V)), vs = [.ref l, .ref b] ∧ SqL K H l xs ∧ H b = some (.lst []) ∧ Paired (fun x ys => ∃ a, x = V.ref a ∧ H a = some (.lst ys)) xs yss ∧
  yss.flatten.length ≤ sizeLine ∧ (xs = [] → Q (.ref b) H) ∧ ∀ p, H p = none → Q (.ref p) (upd H p (.lst yss.flatten))
theorem vss_of {X : Cx} {pins : List (Addr × Obj)} {σ : L2.St} {H : Hp} {s : Shared} (I : Inv X pins σ H s) {xs : List V} {yss : List (List V)} (h : Paired (fun x ys => ∃ a, x = V.ref a ∧ H a = some (.lst ys)) xs yss) :
    ∀ {its : List Value}, Vals xs its → ∃ vss : List (List Value), vss.length = its.length ∧ Vals yss.flatten vss.flatten ∧ ∀ (i : Nat) (v : Value), its[i]? = some v → ∃ a n, v = .ref a ∧ s.heap.get? a = some (Lo (vss.getD i []) n) := by
  induction h with
  | nil =>
    intro its r
    cases r
    exact ⟨[], rfl, .nil, fun i v e => by simp at e⟩
  | cons r t ih =>
    intro its rv
    cases rv with
    | cons rx rt =>
      obtain ⟨a, rfl, ha⟩ := r
      cases rx
      obtain ⟨vss, h1, h2, h3⟩ := ih rt
      obtain ⟨us, n, ru, e, _⟩ := I.lst ha
      refine ⟨us :: vss, by simp [h1], ?_, fun i v hv => ?_⟩
      · rw [List.flatten_cons, List.flatten_cons]
        exact ru.append h2
      · cases i with
        | zero =>
          cases hv
          exact ⟨a, n, rfl, e⟩
        | succ i => exact h3 i v hv
theorem cr_sumL {X : Cx} (hc : X.calm = true) : CallR X (.builtin "sum") (rSumL X.K) := by
  intro pins s σ H vs us Q I r h
  obtain ⟨l, b, xs, yss, rfl, hs, hb, hp, hz, q0, q1⟩ := h
  rcases r with _ | ⟨r1, r2⟩
  rcases r2 with _ | ⟨r2, r3⟩
  cases r3
  cases r1
  cases r2
  obtain ⟨its, rv, hl, _⟩ := I.list hs
  obtain ⟨bs, nb, rb, eb, _⟩ := I.lst hb
  cases rb
  obtain ⟨vss, h1, h2, h3⟩ := vss_of I hp rv
  have hz2 : vss.flatten.length ≤ sizeLine := by rw [← h2.length]; exact hz
  refine call_sum_lists (L := fun i => vss.getD i []) (I.ok.hd hc) hl.isList (fun i v e => h3 i v (by simpa using e)) eb (fun i hi => flat_le hz2 i (by rw [h1]; simpa using hi)) fun r h' m k1 k2 k3 => ?_
  rw [List.size_toArray, ← h1, flat_range] at k2
  rcases k3 with ⟨rfl, k3⟩ | k3
  · have e : xs = [] := by
      have := rv.length
      rw [List.size_toArray] at k3
      exact List.length_eq_zero_iff.mp (by omega)
    exact ⟨.ref _, H, I.kept k1, rfl, q0 e⟩
  · have hn : H r = none := I.hok.gone k3
    have new : ObjOk X.prog X.w (upd H r (.lst yss.flatten)) h' r (.lst yss.flatten) := ⟨hz, _, m, h2, k2⟩
    exact ⟨.ref r, _, I.laidN (t' := s.toks) k1 k3 hn new, rfl, q1 r hn⟩

/-! ### xs[::-1] -/
/-- what a value turned about is: the slice object stands at sl -/
def RevR (X : Cx) (r : V → Hp → VK → Prop) : Prop :=
  ∀ (pins : List (Addr × Obj)) (s : Shared) (σ : L2.St) (H : Hp) (x : V) (v : Value) (sl : Addr) (t : Tok) (Q : VK), Inv X pins σ H s → RelV x v → s.heap.IsSliceOf sl .none .none (.int (-1) t) → r x H Q →
    ∃ T id, typeLookup (.type T) "__getitem__" = pure (some (.builtin id)) ∧ s.TypeIs v T ∧ wpAny (model X.prog X.w) X.A (getItem v (.ref sl)) (EP X pins σ Q) X.xe s
def tRev (r : V → Hp → VK → Prop) (te ts : TE) : TE := fun σ H Q => te σ H fun x H1 => ts σ H1 fun k H2 => k = .int (-1) ∧ r x H2 Q
theorem pe_rev {X : Cx} {e st : Expr} {te ts : TE} {pos p2 : Pos} {r : V → Hp → VK → Prop} (hr : RevR X r) (he : PE X e te) (hst : PE X st ts) : PE X (.Subscript e (.Slice none none (some st) p2) pos) (tRev r te ts) := by
  refine ⟨fun pins s σ H Q I h => ?_⟩
  refine Subscript_ (thn (he.run pins s σ H _ I h) fun v s1 ⟨x, H1, I1, r1, q1⟩ => ?_)
  refine wpAny_Slice ?_
  rw [evalPart_none, evalPart_some]
  refine wpAny_pure (wpAny_pure ?_)
  refine thn (hst.run pins s1 σ H1 _ I1 q1) fun u s2 ⟨k, H2, I2, r2, ek, q2⟩ => ?_
  subst ek
  obtain ⟨t, rfl⟩ := r2
  have I4 : Inv X pins σ H2 { s2 with heap := s2.heap.push { cls := .type "slice", data := .fields #[.none, .none, .int (-1) t] } } := I2.kept (t' := s2.toks) fun b ob q => Heap.get?_push_of_some _ q
  obtain ⟨T, id, hT, ht, hg⟩ := hr pins { s2 with heap := s2.heap.push { cls := .type "slice", data := .fields #[.none, .none, .int (-1) t] } } σ H2 x v s2.heap.objs.size t Q I4 r1 (Heap.IsSliceOf.new ..) q2
  show wpAny (model X.prog X.w) X.A (subscriptTail e (.Slice none none (some st) p2) v (.ref s2.heap.objs.size)) (EP X pins σ Q) X.xe { s2 with heap := s2.heap.push { cls := .type "slice", data := .fields #[.none, .none, .int (-1) t] } }
  exact tail_any (ops := [v, .ref s2.heap.objs.size]) ht hT hg (by with_unfolding_all rfl)
theorem back_pick {α : Type} : ∀ (ys : List α), (List.range ys.length).filterMap (fun k => ys.reverse[ys.length - 1 - k]?) = ys
  | [] => rfl
  | a :: ys => by
    rw [List.length_cons, List.range_succ_eq_map, List.filterMap_cons, List.filterMap_map]
    have e0 : (a :: ys).reverse[ys.length + 1 - 1 - 0]? = some a := by
      rw [List.reverse_cons, List.getElem?_append_right (by rw [List.length_reverse]; omega), List.length_reverse]
      have : ys.length + 1 - 1 - 0 - ys.length = 0 := by omega
      rw [this]
      rfl
    rw [e0]
    show a :: _ = a :: ys
    congr 1
    by_cases hn : ys.length = 0
    · rw [List.length_eq_zero_iff.mp hn]
      rfl
    · refine Eq.trans ?_ (back_pick ys)
      congr 1
      funext k
      show (a :: ys).reverse[ys.length + 1 - 1 - (k + 1)]? = ys.reverse[ys.length - 1 - k]?
      have : ys.length + 1 - 1 - (k + 1) = ys.length - 1 - k := by omega
      rw [this, List.reverse_cons, List.getElem?_append_left (by rw [List.length_reverse]; omega)]
theorem pick_rev {α : Type} (xs : List α) : (List.range xs.length).filterMap (fun k => xs[xs.length - 1 - k]?) = xs.reverse := by
  have := back_pick xs.reverse
  rw [List.length_reverse, List.reverse_reverse] at this
  exact this
theorem pick_back (its : List Value) : slicePick its.toArray none none (some (-1)) = its.reverse.toArray := by
  unfold slicePick
  have e : sliceRange (sliceBounds none none (some (-1)) its.toArray.size).1 (sliceBounds none none (some (-1)) its.toArray.size).2.1 (sliceBounds none none (some (-1)) its.toArray.size).2.2 = (List.range its.length).map fun k => its.length - 1 - k := by
    have e1 : sliceBounds none none (some (-1)) its.toArray.size = ((its.length : Int) - 1, -1, -1) := by simp [sliceBounds]
    rw [e1]
    show sliceRange ((its.length : Int) - 1) (-1) (-1) = _
    unfold sliceRange
    have c : (if (-1 : Int) > 0 then (if (its.length : Int) - 1 < -1 then (-1 - ((its.length : Int) - 1) + -1 - 1) / -1 else 0) else (if (its.length : Int) - 1 > -1 then ((its.length : Int) - 1 - -1 - -1 - 1) / (- -1) else 0)) = (its.length : Int) := by
      rw [if_neg (by omega)]
      split
      · have : (- -1 : Int) = 1 := by decide
        rw [this, Int.ediv_one]
        omega
      · omega
    simp only [c, Int.toNat_natCast]
    refine List.map_congr_left fun k hk => ?_
    have := List.mem_range.mp hk
    omega
  rw [e, List.filterMap_map, ← pick_rev its]
  congr 2
  funext k
  show its.toArray[its.length - 1 - k]? = _
  rw [List.getElem?_toArray]
def rRevL (K : PySem.W.Frag) : V → Hp → VK → Prop := fun x H Q => ∃ a xs, x = .ref a ∧ SqL K H a xs ∧ ∀ p, H p = none → Q (.ref p) (upd H p (.lst xs.reverse))
def rRevT (K : PySem.W.Frag) : V → Hp → VK → Prop := fun x H Q => ∃ a xs, x = .ref a ∧ SqT K H a xs ∧ ∀ p, H p = none → Q (.ref p) (upd H p (.tup xs.reverse))
theorem vals_rev {xs : List V} {us : List Value} (r : Vals xs us) : Vals xs.reverse us.reverse := by
  induction r with
  | nil => exact .nil
  | cons a t ih =>
    rw [List.reverse_cons, List.reverse_cons]
    exact ih.append (.cons a .nil)
theorem rev_list {X : Cx} : RevR X (rRevL X.K) := by
  intro pins s σ H x v sl t Q I rx hs h
  obtain ⟨a, xs, rfl, hx, q⟩ := h
  cases rx
  obtain ⟨its, r, ht, hz⟩ := I.list hx
  have hlen := r.length
  refine ⟨"list", _, slot_list_getitem.lookup, ht.isList.typeIs, ?_⟩
  refine wpAny_getItem_list_slice ht.isList hs .none .none (.int (-1) t) (by simp) ?_ (by rw [List.size_toArray] <;> omega)
  rw [pick_back]
  refine ⟨.ref s.heap.objs.size, _, I.laid (t' := s.toks) (o := .lst xs.reverse) (fun b ob q => Heap.get?_push_of_some _ q) (Nat.le_refl _) ?_, rfl, q _ (I.hok.fresh (Nat.le_refl _))⟩
  exact ⟨by rw [List.length_reverse]; exact hz, _, 0, vals_rev r, Heap.get?_push_size _ rfl⟩
theorem sliceApplied_back {prog : Program} {w : World} {A : Around} {E : Value → Shared → Prop} {s : Shared} {sl : Addr} {t : Tok} {n : Nat} {Q : Int × Int × Nat → Shared → Prop} (hs : s.heap.IsSliceOf sl .none .none (.int (-1) t))
    (h : Q ((n : Int) - 1, -1, n) s) : wpAny (model prog w) A (Builtin.Slice.sliceApplied (.ref sl) (pure (n : Int))) Q E s := by
  obtain ⟨os, hos, hcs, hds⟩ := id hs
  unfold Builtin.Slice.sliceApplied Builtin.Slice.sliceFields
  refine wpAny_bind (wpAny_bind (wpAny_field hos hds (x := .none) rfl (wpAny_bind (wpAny_field hos hds (x := .none) rfl (wpAny_bind (wpAny_field hos hds (x := .int (-1) t) rfl (wpAny_pure ?_)))))))
  refine wpAny_bind (HT.slicePart_ (.int (-1) t) ?_)
  show wpAny _ _ (if ((-1 : Int) == 0) = true then _ else _) _ _ s
  rw [if_neg (by decide)]
  refine wpAny_bind (HT.slicePart_ .none (wpAny_bind (HT.slicePart_ .none (wpAny_bind (wpAny_pure ?_)))))
  have e : Builtin.Slice.slicePlaces ((n : Int) - 1) (-1) (-1) = n := by
    unfold Builtin.Slice.slicePlaces
    rw [if_neg (by decide)]
    have : (- -1 : Int) = 1 := by decide
    rw [this, Int.ediv_one]
    split <;> omega
  show wpAny _ _ (pure ((n : Int) - 1, (-1 : Int), Builtin.Slice.slicePlaces ((n : Int) - 1) (-1) (-1))) _ _ s
  rw [e]
  exact wpAny_pure h
theorem pickT (xs : Array Value) : ((List.range xs.size).filterMap fun (k : Nat) => xs[(((xs.size : Nat) : Int) - 1 + (k : Int) * (-1)).toNat]?).toArray = xs.toList.reverse.toArray := by
  rw [← pick_rev xs.toList]
  congr 1
  rw [Array.length_toList]
  congr 1
  funext k
  have : (((xs.size : Nat) : Int) - 1 + (k : Int) * (-1)).toNat = xs.size - 1 - k := by omega
  rw [this, Array.getElem?_toList]
theorem getItem_tuple_back {prog : Program} {w : World} {A : Around} {E : Value → Shared → Prop} {s : Shared} {t sl : Addr} {k : Tok} {items : Array Value} {Q : Value → Shared → Prop} (ht : IsTup s.heap t items) (hs : s.heap.IsSliceOf sl .none .none (.int (-1) k))
    (h : Q (.ref s.heap.objs.size) { s with heap := s.heap.push { cls := .type "tuple", data := .seq items.toList.reverse.toArray } })
    (hsz : items.size ≤ sizeLine) : wpAny (model prog w) A (getItem (.ref t) (.ref sl)) Q E s := by
  have htake : sizeOk (.seq items.toList.reverse.toArray) := by
    show items.toList.reverse.toArray.size ≤ sizeLine
    rw [List.size_toArray, List.length_reverse, Array.length_toList]
    exact hsz
  obtain ⟨os, hos, hcs, hds⟩ := id hs
  have hTs : s.TypeIs (.ref sl) "slice" := ⟨os, hos, hcs⟩
  unfold getItem
  try with_reducible refine wpAny_holding ?_
  first | refine wpAny_bind (wpAny_pure ?_) | skip
  refine wpAny_bind (wpAny_sequenceKey ht.typeIs (by decide) ?_)
  refine wpAny_bind (wpAny_callSpecial?_slot (name := Str.ofString "__getitem__") ht.typeIs PyProof.Rows.slot_tuple_getitem
    (wpAny_call_entry PyProof.Rows.slot_tuple_getitem ht.typeIs entry_tuple_getitem ?_ (args_tuple_getitem _ _)))
  show wpAny _ _ (Builtin.Tuple.tupleItemsOf (.ref t) >>= _) _ _ s
  refine wpAny_bind (tupleItemsOf_ ht ?_)
  refine wpAny_bind (wpAny_typeOf hTs ?_)
  rw [if_pos (by decide)]
  refine wpAny_bind (sliceApplied_back hs ?_)
  show wpAny _ _ (if ((((items.size : Nat) : Int) - 1 == 0 && (-1 : Int) == 1 && items.size == items.size)) = true then _ else _) _ _ s
  rw [if_neg (by simp), pickT]
  first
    | exact wpAny_bind (m := Builtin.Tuple.tupleExact _) (wpAny_newObj_type (wpAny_pure ⟨_, rfl, wpAny_pure h⟩) htake)
    | exact wpAny_bind (m := Builtin.Tuple.tupleExact _) (wpAny_newObj_type (wpAny_bind (wpAny_pure (wpAny_pure ⟨_, rfl, wpAny_pure h⟩))) htake)
    | exact wpAny_bind (wpAny_bind (m := Builtin.Tuple.tupleExact _) (wpAny_newObj_type (wpAny_pure (wpAny_pure ⟨_, rfl, wpAny_pure h⟩)) htake))
    | exact wpAny_bind (wpAny_bind (m := Builtin.Tuple.tupleExact _) (wpAny_newObj_type (wpAny_pure ⟨_, rfl, wpAny_pure h⟩) htake))
theorem rev_tup {X : Cx} : RevR X (rRevT X.K) := by
  intro pins s σ H x v sl t Q I rx hs h
  obtain ⟨a, xs, rfl, hx, q⟩ := h
  cases rx
  obtain ⟨its, r, ht, hz⟩ := I.tuple hx
  have hlen := r.length
  refine ⟨"tuple", _, PyProof.Rows.slot_tuple_getitem.lookup, ht.typeIs, ?_⟩
  refine getItem_tuple_back ht hs ?_ (by rw [List.size_toArray] <;> omega)
  refine ⟨.ref s.heap.objs.size, _, I.laid (t' := s.toks) (o := .tup xs.reverse) (fun b ob q => Heap.get?_push_of_some _ q) (Nat.le_refl _) ?_, rfl, q _ (I.hok.fresh (Nat.le_refl _))⟩
  exact ⟨by rw [List.length_reverse]; exact hz, _, vals_rev r, IsTup.new _ _⟩

/-! ### sorted(t), t a tuple of tuples of numbers -/
section
variable {prog : Program} {w : World} {A : Around} {E : Value → Shared → Prop} {s : Shared}
theorem collect_tuple {l : Addr} {vs : List Value} {Q : List Value → Shared → Prop} (hl : IsTup s.heap l vs.toArray)
    (h : Q vs { s with heap := (s.heap.push (seqObj "list" #[] 0)).update s.heap.objs.size (Obj.mapSeq (· ++ vs.toArray)) }) (hsz : vs.length ≤ sizeLine) :
    wpAny (model prog w) A (collect (.ref l)) Q E s := by
  obtain ⟨o, ho, hc, n, hd⟩ := id hl
  unfold collect
  refine wpAny_bind (wpAny_runValue (codeAny_builtin entry_proto_collect' ?_))
  show wpAny _ _ (do again (.builtin "list.__iadd__" ⟨[← newList [], .ref l], []⟩)) _ _ s
  refine wpAny_bind (wpAny_newList (wpAny_pure ⟨Code.quiet_builtin _ (by decide +kernel), codeAny_builtin entry_list_iadd' ?_⟩))
  show wpAny _ _ (Builtin.List.listExtendWith (.ref s.heap.objs.size) (.ref l) (.ref s.heap.objs.size)) _ _ { s with heap := s.heap.push (seqObj "list" #[] 0) }
  unfold Builtin.List.listExtendWith
  have ho' : (s.heap.push (seqObj "list" #[] 0)).get? l = some o := Heap.get?_push_of_some _ ho
  refine wpAny_bind (wpAny_typeOf (T := "tuple") ⟨o, ho', hc⟩ ?_)
  have ht : (Value.type "tuple" == Value.type "tuple") = true := by rfl
  rw [if_pos (by rw [ht]; simp)]
  refine wpAny_bind (listItems_at ho' hd ?_)
  refine wpAny_bind (listItems_at (xs := #[]) (n := 0) (Heap.get?_push_size _ rfl) rfl ?_)
  rw [if_neg (by simp)]
  refine wpAny_bind (listUpdate_at (xs := #[]) (n := 0) (Heap.get?_push_size _ rfl) rfl ?_ (Nat.zero_le _) (by show (#[] ++ vs.toArray).size ≤ sizeLine + 1; simp only [Array.size_append, List.size_toArray, List.length_nil]; omega))
  refine wpAny_pure ?_
  show wpAny (model prog w) A (do
      let o ← load s.heap.objs.size
      match o.data with
      | .seq xs _ => pure xs.toList
      | _ => unsupported "internal:collect") Q E { s with heap := (s.heap.push (seqObj "list" #[] 0)).update s.heap.objs.size (Obj.mapSeq (· ++ vs.toArray)) }
  refine wpAny_bind (wpAny_load (get?_update_seq (Heap.get?_push_size _ rfl) _) ?_)
  show wpAny _ _ (pure ((#[] : Array Value) ++ vs.toArray).toList) Q E _
  rw [show ((#[] : Array Value) ++ vs.toArray).toList = vs by simp]
  exact wpAny_pure h
theorem sorted_tupsT {l : Addr} {vs : List Value} {d : Nat} {B : Int} {Q : Value → Shared → Prop} (hl : IsTup s.heap l vs.toArray) (h64 : vs.length < 64) (hd : 1 ≤ d) (x : TS.TupsOk s.heap d B vs)
    (h : ∀ out : Array Value, out.toList.Perm vs → out.toList.Pairwise (fun u v => TS.code B (TS.intsOf s.heap u) ≤ TS.code B (TS.intsOf s.heap v)) → Q (.ref (s.heap.objs.size + 1)) { s with heap := sortedAll s.heap vs out }) :
    wpAny (model prog w) A (call (.builtin "sorted") [.ref l]) Q E s := by
  refine Calls.call_function_entry kind_sorted plain_sorted entry_sorted (args_sorted1 _) ?_
  unfold Builtin.«sorted»
  refine wpAny_bind (m := checkCount "sorted" 1 1 _) (wpAny_pure ?_)
  refine wpAny_bind (collect_tuple hl ?_ (by rw [sizeLine_eq]; omega))
  refine wpAny_bind (wpAny_newList ?_ (by rw [sizeLine_eq]; omega))
  have hsz : ((s.heap.push (seqObj "list" #[] 0)).update s.heap.objs.size (Obj.mapSeq (· ++ vs.toArray))).objs.size = s.heap.objs.size + 1 := by
    rw [Heap.size_update, size_push']
  have hoL : (((s.heap.push (seqObj "list" #[] 0)).update s.heap.objs.size (Obj.mapSeq (· ++ vs.toArray))).push (seqObj "list" vs.toArray 0)).get? (s.heap.objs.size + 1) = some (seqObj "list" vs.toArray 0) := by
    rw [← hsz]; exact Heap.get?_push_size _ rfl
  have keep : ∀ b o, s.heap.get? b = some o → o.cls = .type "tuple" → (((s.heap.push (seqObj "list" #[] 0)).update s.heap.objs.size (Obj.mapSeq (· ++ vs.toArray))).push (seqObj "list" vs.toArray 0)).get? b = some o := fun b o q _ => by
    have hlt : b < s.heap.objs.size := Heap.lt_size q
    rw [Heap.get?_push_ne _ _ _ (by rw [hsz]; exact Nat.ne_of_lt (Nat.lt_succ_of_lt hlt)), Heap.get?_update_ne _ _ _ _ (Nat.ne_of_lt hlt), Heap.get?_push_ne _ _ _ (Nat.ne_of_lt hlt)]
    exact q
  show wpAny _ _ _ _ _ { s with heap := ((s.heap.push (seqObj "list" #[] 0)).update s.heap.objs.size (Obj.mapSeq (· ++ vs.toArray))).push (seqObj "list" vs.toArray 0) }
  rw [hsz]
  refine wpAny_bind (wpAny_holding (wpAny_call_entry slot_list_sort ⟨_, hoL, rfl⟩ entry_list_sort (TS.sort_tups hoL h64 hd (x.keeps keep) (fun v => TS.code B (TS.intsOf s.heap v)) (fun v hv ns t => ?_) fun out a1 a2 => ⟨_, rfl, ?_⟩) (args_list_sort _)))
  · obtain ⟨ns0, t0, _⟩ := x v hv
    have e : ns = ns0 := t.ints.symm.trans (t0.keeps keep).ints
    rw [e]
    show TS.code B (TS.intsOf s.heap v) = TS.code B ns0
    rw [t0.ints]
  · exact wpAny_pure ⟨_, rfl, h out a1 a2⟩
end
/-- sorted(t), t a tuple of fewer than 64 tuples of d ints in [0, B) -/
def rSortV (K : PySem.W.Frag) (d : Nat) (B : Int) : List V → Hp → VK → Prop := fun vs H Q => ∃ (a : Addr) (xs : List V), vs = [V.ref a] ∧ SqT K H a xs ∧ xs.length < 64 ∧ (∀ x ∈ xs, ∃ ns, TupI K H x ns ∧ ns.length = d ∧ TS.Bd B ns) ∧
  ∀ (ys : List V) (p : Addr), ys.Perm xs → ys.Pairwise (fun x y => ∀ n m, TupI K H x n → TupI K H y m → TS.code B n ≤ TS.code B m) → H p = none → Q (.ref p) (upd H p (.lst ys))
theorem cr_sortV {X : Cx} {d : Nat} {B : Int} (hd : 1 ≤ d) : CallR X (.builtin "sorted") (rSortV X.K d B) := by
  intro pins s σ H vs us Q I r h
  obtain ⟨a, xs, rfl, hs, h64, hx, q⟩ := h
  obtain ⟨its, rv, hl, hz⟩ := I.tuple hs
  rw [Vals.ref1 r]
  obtain ⟨e1, e2⟩ := bkV_refs rv fun x m => by
    obtain ⟨ns, ⟨t, e, _⟩, _⟩ := hx x m
    exact ⟨t, e⟩
  refine sorted_tupsT (d := d) (B := B) hl (by rw [← rv.length]; exact h64) hd (fun v hv => ?_) fun out h1 h2 => ?_
  · obtain ⟨t, rfl⟩ := e2 v hv
    have hm : V.ref t ∈ xs := by
      rw [e1]
      exact List.mem_map.mpr ⟨_, hv, rfl⟩
    obtain ⟨ns, ⟨t', e, ht⟩, hn, hb⟩ := hx _ hm
    cases e
    exact ⟨ns, tupI_raw I ht, hn, hb⟩
  · obtain ⟨ep, he'⟩ := PyProof.Rows.sortedAll_at s.heap its out
    have h3 : ∀ u ∈ out.toList, ∃ a, u = Value.ref a := fun u hu => e2 u (h1.mem_iff.mp hu)
    have hp : (out.toList.map bkV).Perm xs := by
      rw [e1]
      exact h1.map bkV
    have hlen : (out.toList.map bkV).length ≤ sizeLine := by
      rw [hp.length_eq]
      exact hz
    refine ⟨.ref _, upd H (s.heap.objs.size + 1) (.lst (out.toList.map bkV)), I.laid (t' := s.toks) (fun _ _ => PyProof.Rows.sortedAll_old) (Nat.le_succ _) ⟨hlen, out.toList, ep, bkV_vals h3, he'⟩, rfl, q _ _ hp ?_ (I.hok.fresh (Nat.le_succ _))⟩
    rw [List.pairwise_map]
    refine List.Pairwise.imp (fun {u v} huv n m hn hm => ?_) h2
    obtain ⟨t, et, ht⟩ := hn
    obtain ⟨t', et', ht'⟩ := hm
    have eu := bkV_ref et
    have ev := bkV_ref et'
    have i1 : TS.intsOf s.heap u = n := by
      rw [eu]
      exact (tupI_raw I ht).ints
    have i2 : TS.intsOf s.heap v = m := by
      rw [ev]
      exact (tupI_raw I ht').ints
    rw [← i1, ← i2]
    exact huv

/-! ### repr({}) -/
def rReprU (K : PySem.W.Frag) : List V → Hp → VK → Prop := fun xs H Q => RP.rRepr K xs H Q ∨ ∃ a, xs = [.ref a] ∧ H a = some (.dT []) ∧ Q (.str (PyData.dict []).shown) H
theorem call_reprU {X : Cx} (hg : X.A.guards = some []) (hu : X.A.units + 64 < cLine) : CallR X (.builtin "repr") (rReprU X.K) := by
  intro pins s σ H xs us Q I r h
  rcases h with h | ⟨a, rfl, ha, q⟩
  · exact RP.call_reprD hg hu pins s σ H xs us Q I r h
  · rw [Vals.ref1 r]
    obtain ⟨_, hsys, ks, rel, o, es, ep, g1, g2, g3, g4, _⟩ := (show ObjOk X.prog X.w H s.heap a (.dT []) from I.hok a _ ha)
    cases rel
    have e0 : es.toList = [] := g4
    have rd : Reads s.heap (.ref a) (.dict []) (a :: [] ++ []) := Reads.dict g1 g2.1 g3 (by rw [e0]; exact .nil) (by rw [e0]; exact .nil)
    exact repr_of_reads' rd (by decide +kernel) (fun _ z => by
      simp only [List.append_nil, List.mem_singleton] at z
      rw [← z] at hsys
      simp at hsys) hg (by show X.A.units + (_ + 1) < cLine; have : (PyData.dict []).depth ≤ 3 := by decide
                           omega) (fun _ _ e => e) (fun h' u tk hk => ⟨.str _, H, I.kept (t' := tk) hk, ⟨_, rfl⟩, q⟩) (by rw [sizeLine_eq]; decide +kernel)
end RU

set_option Elab.async false
set_option linter.all false
set_option maxRecDepth 100000
set_option maxHeartbeats 2000000
/-! What a def of the law keeps; a def at its name. -/
namespace K02
open PySem PySem.Spec L2
open PyProof.Rows GenW GxR EZ TK CE LamX
theorem paired_snoc {α β : Type} {R : α → β → Prop} {a : α} {b : β} : ∀ {xs : List α} {ys : List β}, Paired R xs ys → R a b → Paired R (xs ++ [a]) (ys ++ [b])
  | _, _, .nil, r => .cons r .nil
  | _, _, .cons h t, r => .cons h (paired_snoc t r)
theorem paired_imp {α β : Type} {R S : α → β → Prop} (f : ∀ a b, R a b → S a b) : ∀ {xs : List α} {ys : List β}, Paired R xs ys → Paired S xs ys
  | _, _, .nil => .nil
  | _, _, .cons h t => .cons (f _ _ h) (paired_imp f t)
theorem StOk.up {H : Hp} {st lg cl : Addr} {t t' : Nat} (S : StOk H st lg cl t) (h : t ≤ t') : StOk H st lg cl t' := by
  obtain ⟨ls, cs, left, turn, S⟩ := S
  exact ⟨ls, cs, left, turn, S.d, S.l, S.c, S.lp, S.l0, S.t0, by have := S.tt; omega, S.ll, S.cc, S.ne⟩
theorem But.st_new {st lg cl p : Addr} {H : Hp} {o : HO} {t : Nat} (S : StOk H st lg cl t) (np : H p = none) : p ≠ st ∧ p ≠ lg := by
  obtain ⟨ls, cs, left, turn, S⟩ := S
  exact ⟨ne_of_none S.d np |>.symm, ne_of_none S.l np |>.symm⟩
theorem But.free {st lg cl p : Addr} {H H' : Hp} {t : Nat} (B : But st lg H H') (S : StOk H' st lg cl t) (np : H' p = none) : H p = none := by
  have n := But.st_new (o := .tup []) S np
  cases e : H p with
  | none => rfl
  | some o =>
    have z := B p o e n.1 n.2
    rw [np] at z
    cases z
theorem StOk.upd {st lg cl p : Addr} {H : Hp} {o : HO} {t : Nat} (S : StOk H st lg cl t) (n1 : p ≠ st) (n2 : p ≠ lg) (n3 : p ≠ cl) : StOk (upd H p o) st lg cl t := by
  obtain ⟨ls, cs, left, turn, S⟩ := S
  exact ⟨ls, cs, left, turn, by rw [upd_ne n1.symm]; exact S.d, by rw [upd_ne n2.symm]; exact S.l, by rw [upd_ne n3.symm]; exact S.c, S.lp, S.l0, S.t0, S.tt, S.ll, S.cc, S.ne⟩
theorem StOk.cl_ne {st lg cl p : Addr} {H : Hp} {t : Nat} (S : StOk H st lg cl t) (np : H p = none) : p ≠ cl := by
  obtain ⟨ls, cs, left, turn, S⟩ := S
  exact (ne_of_none S.c np).symm
theorem bits01 {k : Int} (h0 : 0 ≤ k) (h1 : k < 2) : ∃ b, V.int k = bitV b := by
  by_cases h : k = 1
  · exact ⟨true, by rw [h]; rfl⟩
  · exact ⟨false, by rw [show k = 0 by omega]; rfl⟩
/-- all tuples stay -/
def TupKeep (H H' : Hp) : Prop := ∀ t xs, H t = some (.tup xs) → H' t = some (.tup xs)
theorem TupKeep.of {H H' : Hp} (s : Same H H') : TupKeep H H' := fun _ _ e => s _ _ e
theorem TupKeep.upd {H : Hp} {a : Addr} {o o' : HO} (e : H a = some o) (n : ∀ xs, o ≠ .tup xs) : TupKeep H (L2.upd H a o') := fun t xs z => by
  rw [upd_ne fun q => by
    rw [q, e] at z
    exact n _ (Option.some.inj z)]
  exact z
theorem TupKeep.trans {H H1 H2 : Hp} (a : TupKeep H H1) (b : TupKeep H1 H2) : TupKeep H H2 := fun t xs e => b t xs (a t xs e)
theorem But.tup {st lg cl : Addr} {H H' : Hp} {t : Nat} (U : But st lg H H') (S : StOk H st lg cl t) : TupKeep H H' := fun _ _ e => U.keepO S e (fun _ z => by cases z) (fun _ z => by cases z)
theorem StOk.there {H : Hp} {st lg cl : Addr} {t : Nat} (S : StOk H st lg cl t) : H st ≠ none ∧ H lg ≠ none := by
  obtain ⟨ls, cs, left, turn, S⟩ := S
  refine ⟨fun z => ?_, fun z => ?_⟩
  · have := S.d
    rw [z] at this
    cases this
  · have := S.l
    rw [z] at this
    cases this
theorem StOk.keepC {st lg cl ra : Addr} {H H' : Hp} {t : Nat} (S : StOk H st lg cl t) (k : ∀ b o, b ≠ ra → H b = some o → H' b = some o) (n1 : ra ≠ st) (n2 : ra ≠ lg) (n3 : ra ≠ cl) : StOk H' st lg cl t := by
  obtain ⟨ls, cs, left, turn, S⟩ := S
  exact ⟨ls, cs, left, turn, k _ _ n1.symm S.d, k _ _ n2.symm S.l, k _ _ n3.symm S.c, S.lp, S.l0, S.t0, S.tt, S.ll, S.cc, S.ne⟩
/-- a def that stands at its name and keeps its promise -/
def Cal (P : Program) (w : World) (K : PySem.W.Frag) (mg : Str → Option Value) (base : Heap) (CX : CXT) (k : Nat) (x : Str) (ps : List Str) (sp : Sp) : Prop :=
  ∃ f fd, FnOk P w K mg base CX k f fd ps sp ∧ PySem.W.keepIn K (.ref f) = true ∧ Binds K fd ps [] ∧ mg x = some (.ref f)
end K02

set_option Elab.async false
set_option linter.all false
set_option maxRecDepth 100000
set_option maxHeartbeats 2000000
/-! Data that is compared and shown. -/
namespace K02
open PySem PySem.Spec L2
open PyProof.Rows GenW GxR EZ TK
open LamX (ExtN)
/-- a leaf -/
def leafD : PyData → Bool
  | .none => true
  | .bool _ => true
  | .int _ => true
  | _ => false
theorem leaf_lay {d : PyData} (h : leafD d = true) : d.canLay0 = true ∧ d.depth = 0 := by
  cases d <;> first | exact ⟨rfl, rfl⟩ | cases h
theorem leaf_layAll : ∀ {ds : List PyData}, ds.all leafD = true → PyData.canLayAll0 ds = true ∧ PyData.depthAll ds = 0
  | [], _ => ⟨rfl, rfl⟩
  | d :: r, h => by
    rw [List.all_cons, Bool.and_eq_true] at h
    obtain ⟨a, b⟩ := leaf_lay h.1
    obtain ⟨c, e⟩ := leaf_layAll h.2
    refine ⟨?_, ?_⟩
    · simp [PyData.canLayAll0, a, c]
    · simp [PyData.depthAll, b, e]
/-- laid out no deeper than n -/
def LayN (n : Nat) (d : PyData) : Prop := d.canLay0 = true ∧ d.depth ≤ n
def LayAllN (n : Nat) (ds : List PyData) : Prop := PyData.canLayAll0 ds = true ∧ PyData.depthAll ds ≤ n
theorem layAll_of {n : Nat} : ∀ {ds : List PyData}, (∀ d ∈ ds, LayN n d) → LayAllN n ds
  | [], _ => ⟨rfl, Nat.zero_le _⟩
  | d :: r, h => by
    obtain ⟨a, b⟩ := h d List.mem_cons_self
    obtain ⟨c, e⟩ := layAll_of fun x hx => h x (List.mem_cons_of_mem _ hx)
    refine ⟨?_, ?_⟩
    · simp [PyData.canLayAll0, a, c]
    · simp only [PyData.depthAll]
      omega
theorem layN_leaf {d : PyData} (h : leafD d = true) : LayN 0 d := ⟨(leaf_lay h).1, Nat.le_of_eq (leaf_lay h).2⟩
theorem layN_mono {n m : Nat} {d : PyData} (h : LayN n d) (l : n ≤ m) : LayN m d := ⟨h.1, Nat.le_trans h.2 l⟩
theorem layN_list {n : Nat} {ds : List PyData} (h : ∀ d ∈ ds, LayN n d) : LayN (n + 1) (.list ds) := by
  obtain ⟨a, b⟩ := layAll_of h
  refine ⟨?_, ?_⟩
  · simp [PyData.canLay0, a]
  · simp only [PyData.depth]
    omega
theorem layN_tuple {n : Nat} {ds : List PyData} (h : ∀ d ∈ ds, LayN n d) : LayN (n + 1) (.tuple ds) := by
  obtain ⟨a, b⟩ := layAll_of h
  refine ⟨?_, ?_⟩
  · simp [PyData.canLay0, a]
  · simp only [PyData.depth]
    omega
theorem layN_shaped {n : Nat} {d : PyData} (h : LayN n d) (l : n ≤ 64) : SeqAt.shaped d = true := by
  unfold SeqAt.shaped
  rw [h.1, decide_eq_true (Nat.le_trans h.2 l)]
  rfl
theorem eqv_nilL (ds : List PyData) : PyData.eqv (.list ds) (.list []) = ds.isEmpty := by
  cases ds <;> rfl
end K02

set_option Elab.async false
set_option linter.all false
set_option maxRecDepth 100000
set_option maxHeartbeats 2000000
/-! The end for a law that asks repr of lists or tuples: the law's call is the outermost, so no repr is under way. -/
namespace GE
open PySem PySem.Spec PyProof.Rows L2 LamX
/-- a def keeps its promise where no repr is under way -/
structure FnG (P : Program) (w : World) (K : PySem.W.Frag) (mg : Str → Option Value) (base : Heap) (CX : CXT) (k : Nat) (f : Addr) (fd : FuncData) (ps : List Str) (sp : Sp) : Prop where
  run : ∀ (A : Around) (outer : List Env) (s : Shared) (H : Hp) (args : Args) (us : List Value) (vs : List V) (Q : VK) (E : XK), A.guards = some [] → Room k A → Env0 P w K mg base A outer s H → BindsTo s fd args (ps.zip us) → Vals vs us → sp vs H Q E →
    codeAny (model P w) A (.call (.ref f) args) (CR CX outer P w H s Q E) s
/-- the abstract heap at the law's call: the tables are empty, the script stands at a -/
def startH (K : PySem.W.Frag) (T : List Addr) (a : Addr) (vs : List Value) (ns : List Int) : Hp := fun b =>
  if b ∈ T then some (.tbl #[]) else if b = a ∧ (K.lookup a).isNone = true then some (.frz { cls := .type "list", data := .seq vs.toArray } (.lst (ns.map V.int))) else none
section
variable {K : PySem.W.Frag} {T : List Addr} {a b : Addr} {vs : List Value} {ns : List Int}
theorem start_tab (h : b ∈ T) : startH K T a vs ns b = some (.tbl #[]) := if_pos h
theorem start_a (h : a ∉ T) (n : K.lookup a = none) : startH K T a vs ns a = some (.frz { cls := .type "list", data := .seq vs.toArray } (.lst (ns.map V.int))) := by
  unfold startH
  rw [if_neg h, if_pos ⟨rfl, by rw [n]; rfl⟩]
theorem start_none (h : b ∉ T) (h2 : ¬ (b = a ∧ (K.lookup a).isNone = true)) : startH K T a vs ns b = none := by
  unfold startH
  rw [if_neg h, if_neg h2]
/-- what may be tracked -/
theorem start_cases (b : Addr) : startH K T a vs ns b = none ∨ (b ∈ T ∧ startH K T a vs ns b = some (.tbl #[])) ∨ (b ∉ T ∧ b = a ∧ K.lookup a = none ∧ startH K T a vs ns b = some (.frz { cls := .type "list", data := .seq vs.toArray } (.lst (ns.map V.int)))) := by
  by_cases h : b ∈ T
  · exact .inr (.inl ⟨h, start_tab h⟩)
  · by_cases h2 : b = a ∧ (K.lookup a).isNone = true
    · obtain ⟨rfl, h3⟩ := h2
      have n : K.lookup b = none := Option.isNone_iff_eq_none.mp h3
      exact .inr (.inr ⟨h, rfl, n, start_a h n⟩)
    · exact .inl (start_none h h2)
end
/-- the law's call, its promise kept where no repr is under way -/
theorem end_call {P : Program} {w : World} {K : PySem.W.Frag} {mg mb : Str → Option Value} {CX : CXT} {k : Nat} {fa a : Addr} {cs : List (Addr × Addr)} {fd : FuncData} {x : Str} {sp : Sp} {s₁ : Shared} {vs : List Value} {ns : List Int} (KX : K.In s₁.heap) (hns : s₁.heap.Ns mainGlobals mg) (hb : s₁.heap.Ns builtinsNs mb)
    (hbb : ∀ x : Str, x ≠ "__name__" → mb x = bootBuiltins x) (hlim : s₁.heap.NoLimit) (hg : s₁.gens = #[]) (hT : ∀ p ∈ cs, s₁.heap.get? p.2 = some { cls := .none, data := .fields #[] }) (nT : ∀ p ∈ cs, K.lookup p.2 = none) (C : ∀ p ∈ cs, PySem.W.CodeHd s₁.heap p.1 p.2)
    (hbm : ∃ (bm : Addr) (ob : Obj), mg "__builtins__" = some (.ref bm) ∧ bm ≠ builtinsNs ∧ s₁.heap.get? bm = some ob ∧ ob.cls = .type "module" ∧ ob.dict = some builtinsNs ∧ ob.data = .plain) (ha : s₁.heap.get? a = some { cls := .type "list", data := .seq vs.toArray }) (hi : IntsAre vs ns) (hl : ns.length ≤ sizeLine) (hr : Room k callerA)
    (F : ∀ base : Heap, K.In base → base.Ns mainGlobals mg → (∀ p ∈ cs, TabB base mg p.1 p.2) → FnG P w K mg base CX k fa fd [x] sp) (hbind : ∀ (s : Shared) (u : Value), BindsTo s fd ⟨[u], []⟩ [(x, u)])
    (hsp : ∀ H : Hp, (∀ p ∈ cs, H p.2 = some (.tbl #[])) → SqL K H a (ns.map V.int) → sp [.ref a] H (fun v _ => v = .bl true) fun _ _ _ => False) (hCX : ∀ H e s', CX [] H s₁ (fun _ _ _ => False) e s' → False) :
    codeAny (model P w) callerA (.call (.ref fa) ⟨[.ref a], []⟩) (fun r s' => r = .ok (.ret (.bool true)) ∧ OldK s₁.heap s'.heap ∧ s'.os = s₁.os ∧ AllBare s'.gens) s₁ := by
  obtain ⟨T, hTd⟩ : ∃ T, T = cs.map (·.2) := ⟨_, rfl⟩
  have inT : ∀ p ∈ cs, p.2 ∈ T := fun p hp => by
    rw [hTd]
    exact List.mem_map.mpr ⟨p, hp, rfl⟩
  have ofT : ∀ b ∈ T, ∃ p ∈ cs, p.2 = b := fun b hb => by
    rw [hTd] at hb
    exact List.mem_map.mp hb
  have tabs : ∀ b ∈ T, s₁.heap.get? b = some { cls := .none, data := .fields #[] } ∧ K.lookup b = none := fun b hb => by
    obtain ⟨p, hp, rfl⟩ := ofT b hb
    exact ⟨hT p hp, nT p hp⟩
  have aT : a ∉ T := fun z => by
    have q := (tabs a z).1
    rw [ha] at q
    cases q
  obtain ⟨H, hH⟩ : ∃ H, H = startH K T a vs ns := ⟨_, rfl⟩
  have cases_ : ∀ b, H b = none ∨ (b ∈ T ∧ H b = some (.tbl #[])) ∨ (b ∉ T ∧ b = a ∧ K.lookup a = none ∧ H b = some (.frz { cls := .type "list", data := .seq vs.toArray } (.lst (ns.map V.int)))) := fun b => by
    rw [hH]
    exact start_cases b
  have rel : Vals (ns.map V.int) vs := vals_ints hi
  have len : vs.length = ns.length := hi.length
  -- an object that is neither the script's list nor an empty table is not tracked
  have free_ : ∀ {b : Addr} {o : Obj}, s₁.heap.get? b = some o → (∀ us n, o.data ≠ .seq us n) → o.data ≠ .fields #[] → H b = none := fun {b o} e n1 n2 => by
    rcases cases_ b with z | ⟨z, _⟩ | ⟨_, z, _⟩
    · exact z
    · rw [(tabs b z).1] at e
      cases e
      exact absurd rfl n2
    · rw [z, ha] at e
      cases e
      exact absurd rfl (n1 _ _)
  have dict_ : ∀ {b : Addr} {o : Obj} {es : Array DictEntry} {ep : Nat}, s₁.heap.get? b = some o → o.data = .dict es ep → H b = none := fun e d => free_ e (fun _ _ z => by rw [d] at z; cases z) (fun z => by rw [d] at z; cases z)
  have ns_ : ∀ {b : Addr} {m : Str → Option Value}, s₁.heap.Ns b m → (hidT s₁.heap H).Ns b m := fun {b m} z => by
    obtain ⟨o, es, ep, e, d, r⟩ := z
    exact ⟨o, es, ep, hidT_get e (dict_ e d), d, r⟩
  have inK : K.In (hidT s₁.heap H) := fun b o e => by
    refine hidT_get (KX b o e) ?_
    rcases cases_ b with z | ⟨z, _⟩ | ⟨_, z, z2, _⟩
    · exact z
    · rw [(tabs b z).2] at e
      cases e
    · rw [z, z2] at e
      cases e
  have md : L2.Mod K mg (hidT s₁.heap H) := by
    obtain ⟨mc, l1, l2⟩ := hlim
    exact ⟨inK, ns_ hns, ⟨mb, ns_ hb, hbb⟩, ⟨mc, ns_ l1, l2⟩⟩
  have TB : ∀ p ∈ cs, TabB (hidT s₁.heap H) mg p.1 p.2 := fun p hp => by
    obtain ⟨oG, esG, epG, eG, dG, _⟩ := id hns
    constructor
    · obtain ⟨o, us, fl, tf, fs, tg, inF, tx, tt, e1, r1, r2, r3, rest⟩ := C p hp
      refine ⟨o, us, fl, tf, fs, tg, inF, tx, tt, hidT_get e1 (free_ e1 (fun _ _ z => by rw [r2] at z; cases z) fun z => ?_), r1, r2, r3, rest⟩
      rw [r2] at z
      cases z
      simp at r3
    · obtain ⟨bm, ob, b1, b2, b3, b4, b5, b6⟩ := hbm
      refine ⟨bm, ob, b1, b2, fun z => ?_, fun z => ?_, hidT_get b3 (free_ b3 (fun _ _ z => by rw [b6] at z; cases z) (fun z => by rw [b6] at z; cases z)), b4, b5, b6⟩
      · rw [z, eG] at b3
        cases b3
        rw [dG] at b6
        cases b6
      · rw [z, hT p hp] at b3
        cases b3
        cases b6
    · intro z
      rw [z, hT p hp] at eG
      cases eG
      cases dG
  have ok : HOk P w H s₁.heap := fun b u e => by
    rcases cases_ b with z | ⟨z, z2⟩ | ⟨_, z, _, z2⟩
    · rw [z] at e
      cases e
    · rw [z2] at e
      cases e
      exact (tabs b z).1
    · rw [z2] at e
      cases e
      rw [z]
      exact ⟨ha, by rw [List.length_map]; exact hl, vs, _, rel, ha⟩
  have sq : SqL K H a (ns.map V.int) := by
    cases hk : K.lookup a with
    | none => exact .inl (.inr ⟨_, by rw [hH]; exact start_a aT hk⟩)
    | some o =>
      have e := KX a o hk
      rw [ha] at e
      cases e
      exact .inr ⟨_, vs.toArray, _, hk, rfl, rfl, rfl, by rw [List.size_toArray, len]; exact hl, by simpa using rel⟩
  have start : ∀ p ∈ cs, H p.2 = some (.tbl #[]) := fun p hp => by
    rw [hH]
    exact start_tab (inT p hp)
  have env : Env0 P w K mg (hidT s₁.heap H) callerA [] s₁ H := ⟨rfl, md, fun b o e => of_hidT e, Nat.le_of_eq (hidT_size _ _), trivial, fun b hb => (nomatch hb), ok, .of_eq hg⟩
  refine codeAny_mono ((F _ inK (ns_ hns) TB).run callerA [] s₁ H ⟨[.ref a], []⟩ [.ref a] [.ref a] _ _ rfl hr env (hbind s₁ (.ref a)) (.cons rfl .nil) (hsp H start sq)) fun r s' h => ?_
  rcases r with e | fl
  · exact (hCX H e s' h).elim
  · cases fl with
    | ret u =>
      obtain ⟨v, H', os, bare, un, ok', r', q⟩ := h
      cases q
      cases r'
      have kept : ∀ b o, b ∉ T → s₁.heap.get? b = some o → s'.heap.get? b = some o := fun b o nb e => by
        rcases cases_ b with z | ⟨z, _⟩ | ⟨_, _, _, z⟩
        · exact un.keep b o e z (fun z => nomatch z) (fun z => nomatch z)
        · exact absurd z nb
        · have g1 := (ok b _ z).1
          have g2 := (ok' b _ (un.frzs b _ _ z)).1
          rw [e] at g1
          cases g1
          exact g2
      have more : ∀ p ∈ cs, ∃ us : Array Value, s'.heap.get? p.2 = some { cls := .none, data := .fields us } := fun p hp => by
        obtain ⟨us, z⟩ := un.tbls p.2 #[] (start p hp)
        exact ⟨_, ok' p.2 _ z⟩
      refine ⟨rfl, ⟨fun b o e => ?_, fun b o e => ?_⟩, os, bare⟩
      · by_cases hb : b ∈ T
        · obtain ⟨p, hp, rfl⟩ := ofT b hb
          obtain ⟨us, hm⟩ := more p hp
          rw [hT p hp] at e
          cases e
          exact .inr (.inl ⟨((C p hp).tab (hT p hp)).isCodeTable, rfl, #[], us, rfl, by rw [Array.empty_append]; exact hm⟩)
        · exact .inl (kept b o hb e)
      · by_cases hb : b ∈ T
        · obtain ⟨p, hp, rfl⟩ := ofT b hb
          obtain ⟨us, hm⟩ := more p hp
          exact ⟨_, hm⟩
        · exact ⟨o, kept b o hb e⟩
    | _ => exact False.elim h
end GE

set_option Elab.async false
set_option linter.all false
set_option maxRecDepth 100000
set_option maxHeartbeats 2000000
/-! Defs where no repr is under way: how they are shown, and the end of a row with them. -/
namespace GE
open PySem PySem.Spec PyProof.Rows L2 LamX
section
variable {P : Program} {w : World} {K : PySem.W.Frag} {mg : Str → Option Value} {base : Heap}
theorem okG {CX : CXT} {x qual : Str} {st : Stmt} {f c : Addr} {fd : FuncData} {N ps : List Str} {k : Nat} {sp : Sp} (F : Fun K x qual st f fd) (hc : fd.code = .ref c) (S : FnScope N ps (defScope st)) (len : ∀ vs H Q E, sp vs H Q E → vs.length = ps.length)
    (hbody : ∀ (A : Around) (outer : List Env) (s : Shared) (H : Hp) (vs : List V) (Q : VK) (E : XK), (A.deeper (envOfC qual (defScope st) s.heap.objs.size f (.ref c))).guards = some [] → Room k (A.deeper (envOfC qual (defScope st) s.heap.objs.size f (.ref c))) → sp vs H Q E →
      ∃ t, PSs (cxOf CX P w K mg base N qual (defScope st) f (.ref c) A outer s H E) (defBody st) t ∧ t { nx := fun _ H' => Q .non H', rt := Q } (start N vs) H) : FnG P w K mg base CX (k + 1) f fd ps sp := by
  obtain ⟨oc, od, kV, doc, pm, an, cdv, ct, osl, rfl, lk, hcd⟩ := F.ex
  have e : cdv = .ref c := hc
  subst e
  exact ⟨fun A outer s H args us vs Q E hg hr e0 hb r hsp => run_ofS (N := N) lk hcd S hr e0 hb r (len _ _ _ _ hsp) fun hr' => hbody A outer s H vs Q E hg hr' hsp⟩
end
/-- as LawAtS, where no repr is under way -/
def LawAtG (l : PySem.W.OpenLaw) (w : World) (K : PySem.W.Frag) (CX : CXT) (k n : Nat) (x : Str) (mg : Str → Option Value) (fa : Addr) (h : Heap) : Prop :=
  ∃ (fd : FuncData) (cs : List (Addr × Addr)) (sp : Sp), (∀ p ∈ cs, h.get? p.2 = some { cls := .none, data := .fields #[] }) ∧ (∀ p ∈ cs, K.lookup p.2 = none) ∧ (∀ p ∈ cs, PySem.W.CodeHd h p.1 p.2) ∧ (∀ (s : Shared) (u : Value), BindsTo s fd ⟨[u], []⟩ [(x, u)]) ∧
    (∀ (H : Hp) (a : Addr) (ns : List Int), ns.length ≤ n → (∀ z ∈ ns, Builtin.Int.intBits z ≤ 1048576) → (∀ p ∈ cs, H p.2 = some (.tbl #[])) → SqL K H a (ns.map V.int) → sp [.ref a] H (fun v _ => v = .bl true) fun _ _ _ => False) ∧
    ∀ base : Heap, K.In base → base.Ns mainGlobals mg → (∀ p ∈ cs, TabB base mg p.1 p.2) → FnG l.prog w K mg base CX k fa fd [x] sp
theorem walk_tabsG {l : PySem.W.OpenLaw} {n k : Nat} {q : Program} {loose : List Str} {XP : (Str → Option Value) → Heap → Prop} {YP : World → Heap → Prop} {d : DefRec} {K : Params → PySem.W.Frag} {CX : World → CXT} {x : Str} (names : List Str) (hn : l.most = some n) (hn2 : n ≤ sizeLine) (hdf : d.params.defaults = []) (hr : Room k callerA)
    (hrec : (names.all fun y => (recsOf q).any fun e => e.name == y) = true) (hY : ∀ (w : World) (h : Heap), YP w h → (K w.params).In h)
    (F : ∀ (w : World) (mg : Str → Option Value) (fa : Addr) (h : Heap), YP w h → (K w.params).In h → h.Ns mainGlobals mg → mg d.name = some (.ref fa) → (∀ y ∈ names, ∀ f, mg y = some (.ref f) → OwnTab (K w.params) f h) → LawAtG l w (K w.params) (CX w) k n x mg fa h)
    (hCX : ∀ (w : World) (H : Hp) (s : Shared) (e : Value) (s' : Shared), CX w [] H s (fun _ _ _ => False) e s' → False) : PySem.W.WalkO q loose XP YP l.row.toRowW d [] (fun f vs => PySem.call f vs) := by
  refine Att.attach_callB hn hdf fun w s₀ s₁ mg mb fa o pm cd doc a vs ns G Y ho hd hcd hmg hobj hints hlen hbits hg => ?_
  have KX := hY w _ Y
  have own : ∀ y ∈ names, ∀ f, mg y = some (.ref f) → OwnTab (K w.params) f s₁.heap := by
    intro y hy f hf c P o1 fd1 e dd vs1 sl k1 k2 k3 k4 k5
    obtain ⟨dL, hm, hn1⟩ := List.any_eq_true.mp (List.all_eq_true.mp hrec y hy)
    obtain ⟨a', o', fd', c', P', h1, h2, h3, h4, _, ⟨oc, vc, e1, _, e3, e4⟩, hP⟩ := G.T.tab dL hm
    rw [beq_iff_eq.mp hn1, hf] at h1
    cases h1
    rw [KX _ _ k1] at h2
    cases h2
    rw [k2] at h3
    cases h3
    rw [k3] at h4
    cases h4
    rw [KX _ _ k4] at e1
    cases e1
    cases e3
    rw [k5] at e4
    cases e4
    exact hP
  obtain ⟨fd, cs, sp, hT, nT, C, hb, hsp, hF⟩ := F w mg fa _ Y KX G.T.g hmg own
  exact end_call KX G.T.g G.T.b G.T.builtins G.T.nolimit hg hT nT C G.T.bmain hobj hints (Nat.le_trans hlen hn2) hr hF hb (fun H hH hS => hsp H a ns hlen hbits hH hS) fun H e s' => hCX w H s₁ e s'
end GE

set_option Elab.async false
set_option linter.all false
set_option maxRecDepth 100000
set_option maxHeartbeats 2000000
/-! repr of data; what stands between the turns, behind a def that keeps the tables. -/
namespace K02
open PySem PySem.Spec L2
open PyProof.Rows GenW GxR EZ TK CE LamX
/-- what repr asks of data -/
def GoodD (d : PyData) : Prop := d.canLay0 = true ∧ d.showable = true ∧ d.hasDict = false ∧ d.intsShort 13 = true
def GoodAll (ds : List PyData) : Prop := PyData.canLayAll0 ds = true ∧ PyData.showableAll ds = true ∧ PyData.hasDictAll ds = false ∧ PyData.intsShortAll 13 ds = true
theorem good_all : ∀ {ds : List PyData}, (∀ d ∈ ds, GoodD d) → GoodAll ds
  | [], _ => ⟨rfl, rfl, rfl, rfl⟩
  | d :: r, h => by
    obtain ⟨a1, a2, a3, a4⟩ := h d List.mem_cons_self
    obtain ⟨b1, b2, b3, b4⟩ := good_all fun x hx => h x (List.mem_cons_of_mem _ hx)
    refine ⟨?_, ?_, ?_, ?_⟩
    · simp [PyData.canLayAll0, a1, b1]
    · simp [PyData.showableAll, a2, b2]
    · simp [PyData.hasDictAll, a3, b3]
    · simp [PyData.intsShortAll, a4, b4]
theorem good_tup {ds : List PyData} (h : ∀ d ∈ ds, GoodD d) : GoodD (.tuple ds) := by
  obtain ⟨a, b, c, e⟩ := good_all h
  exact ⟨by simp [PyData.canLay0, a], by simp [PyData.showable, b], by simp [PyData.hasDict, c], by simp [PyData.intsShort, e]⟩
theorem good_lst {ds : List PyData} (h : ∀ d ∈ ds, GoodD d) : GoodD (.list ds) := by
  obtain ⟨a, b, c, e⟩ := good_all h
  exact ⟨by simp [PyData.canLay0, a], by simp [PyData.showable, b], by simp [PyData.hasDict, c], by simp [PyData.intsShort, e]⟩
theorem short01 (b : Bool) : (PyData.int (bitZ b)).intsShort 13 = true := by
  cases b <;> decide +kernel
theorem good_bl (b : Bool) : GoodD (.bool b) := ⟨rfl, rfl, rfl, rfl⟩
theorem repr_to {K : PySem.W.Frag} {H : Hp} {x : V} {d : PyData} {Q : VK} (hd : Dp K H x d) (g : GoodD d) (dp : d.depth ≤ 60) (wt : d.weight ≤ 2 ^ 20) (ni : ∀ i, d ≠ .int i) (q : Q (.str d.shown) H) : RP.rRepr K [x] H Q := by
  refine ⟨x, d, rfl, hd, g.2.1, g.2.2.1, dp, ?_, fun i e => absurd e (ni i), q⟩
  have hl : d.layable0 = true := by
    unfold PyData.layable0
    rw [g.1, decide_eq_true (show d.depth ≤ 64 by omega), decide_eq_true wt]
    rfl
  have z := PyProof.Rows.shown_le13 hl g.2.2.2
  rw [sizeLine_eq]
  omega
theorem Between.ex {st lg cl Pl : Addr} {TT : List Addr} {H H' : Hp} {t : Nat} (B : Between st lg cl Pl TT H t) (hPT : Pl ∉ TT) (x : Ex TT H H') : Between st lg cl Pl TT H' t := by
  have n := x.extN B.tt
  refine ⟨?_, x.tabs B.tt, ?_⟩
  · obtain ⟨ls, cs, left, turn, S⟩ := B.s
    exact ⟨ls, cs, left, turn, n _ _ S.d (fun _ z => by cases z), n _ _ S.l (fun _ z => by cases z), n _ _ S.c (fun _ z => by cases z), S.lp, S.l0, S.t0, S.tt, S.ll, S.cc, S.ne⟩
  · obtain ⟨ps, e, r, ce⟩ := B.tl
    refine ⟨ps, x.keep _ _ hPT e, r, fun pos cv h => ?_⟩
    obtain ⟨c, e1, e2⟩ := ce pos cv h
    exact ⟨c, e1, n _ _ e2 (fun ps => codeO_ne ps)⟩
section
variable {P : Program} {w : World} {K : PySem.W.Frag} {mg : Str → Option Value} {base : Heap}
theorem okGN {x qual : Str} {st : Stmt} {f c : Addr} {fd : FuncData} {N ps : List Str} {k : Nat} {sp : Sp} (F : Fun K x qual st f fd) (hc : fd.code = .ref c) (S : FnScope N ps (defScope st)) (len : ∀ vs H Q E, sp vs H Q E → vs.length = ps.length)
    (hbody : ∀ (A : Around) (outer : List Env) (s : Shared) (H : Hp) (vs : List V) (Q : VK) (E : XK), (A.deeper (envOfC qual (defScope st) s.heap.objs.size f (.ref c))).guards = some [] → Room k (A.deeper (envOfC qual (defScope st) s.heap.objs.size f (.ref c))) → sp vs H Q E →
      ∃ t, PSs (cxOf CX0 P w K mg base N qual (defScope st) f (.ref c) A outer s H E).nox (defBody st) t ∧ t { nx := fun _ H' => Q .non H', rt := Q } (start N vs) H) : GE.FnG P w K mg base CX0 (k + 1) f fd ps sp :=
  GE.okG F hc S len fun A outer s H vs Q E hg hr hsp => by
    obtain ⟨t, h, q⟩ := hbody A outer s H vs Q E hg hr hsp
    exact ⟨t, h.nox, q⟩
end
end K02

set_option Elab.async false
set_option linter.all false
set_option maxRecDepth 100000
set_option maxHeartbeats 2000000
/-! Values that a law draws, with what they are as data: atoms, rows of these, rows of such rows. -/
namespace K02
open PySem PySem.Spec L2
open PyProof.Rows GenW GxR EZ TK CE LamX
/-- an atom, and what it is as data -/
inductive At0 : V → PyData → Prop
  | non : At0 .non .none
  | bl (b : Bool) : At0 (.bl b) (.bool b)
  | int (i : Int) : -100 ≤ i → i ≤ 100 → At0 (.int i) (.int i)
  | str (z : Str) : GoodD (.str z) → (PyData.str z).weight ≤ 20 → (PyData.str z).depth = 0 → At0 (.str z) (.str z)
/-- a row: its list is none of N -/
def Cont (N : Addr → Prop) (H : Hp) (R : V → PyData → Prop) (x : V) (d : PyData) : Prop := ∃ (a : Addr) (xs : List V) (ds : List PyData), x = .ref a ∧ Paired R xs ds ∧ xs.length ≤ 20 ∧ (H a = some (.tup xs) ∧ d = .tuple ds ∨ H a = some (.lst xs) ∧ ¬ N a ∧ d = .list ds)
def D1 (N : Addr → Prop) (H : Hp) (x : V) (d : PyData) : Prop := At0 x d ∨ Cont N H At0 x d
def D2 (N : Addr → Prop) (H : Hp) (x : V) (d : PyData) : Prop := At0 x d ∨ Cont N H (D1 N H) x d
inductive IT (N : Addr → Prop) (H : Hp) : V → PyData → Prop
  | d2 {x : V} {d : PyData} : D2 N H x d → IT N H x d
  | dic {a : Addr} : H a = some (.dT []) → IT N H (.ref a) (.dict [])
/-- tuples, lists but those of N, empty dicts are kept -/
structure KL (N : Addr → Prop) (H H' : Hp) : Prop where
  tup : TupKeep H H'
  lst : ∀ c xs, H c = some (.lst xs) → ¬ N c → H' c = some (.lst xs)
  dic : ∀ c, H c = some (.dT []) → H' c = some (.dT [])
theorem KL.trans {N : Addr → Prop} {H H1 H2 : Hp} (a : KL N H H1) (b : KL N H1 H2) : KL N H H2 := ⟨a.tup.trans b.tup, fun c xs e n => b.lst c xs (a.lst c xs e n) n, fun c e => b.dic c (a.dic c e)⟩
theorem KL.same {N : Addr → Prop} {H H' : Hp} (s : Same H H') : KL N H H' := ⟨.of s, fun c xs e _ => s _ _ e, fun c e => s _ _ e⟩
theorem KL.ext {N : Addr → Prop} {H H' : Hp} (x : ExtN H H') : KL N H H' := ⟨fun t xs e => x _ _ e (fun _ z => by cases z), fun c xs e _ => x _ _ e (fun _ z => by cases z), fun c e => x _ _ e (fun _ z => by cases z)⟩
theorem KL.but {N : Addr → Prop} {st lg cl : Addr} {H H' : Hp} {t : Nat} (U : But st lg H H') (S : StOk H st lg cl t) (n1 : N st) (n2 : N lg) : KL N H H' :=
  ⟨U.tup S, fun c xs e n => U _ _ e (fun z => n (z ▸ n1)) (fun z => n (z ▸ n2)), fun c e => U.keepO S e (fun _ z => by cases z) (fun _ z => by cases z)⟩
/-- a list of N is written anew -/
theorem KL.put {N : Addr → Prop} {H : Hp} {p : Addr} {xs : List V} {o : HO} (e : H p = some (.lst xs)) (n : N p) : KL N H (L2.upd H p o) :=
  ⟨TupKeep.upd e (fun _ z => by cases z), fun c ys ec m => by
    rw [upd_ne (show c ≠ p from fun z => m (by rw [z]; exact n))]
    exact ec, fun c ec => by
    have : c ≠ p := fun z => by
      rw [z, e] at ec
      cases ec
    rw [upd_ne this]
    exact ec⟩
theorem pairedMono {α β : Type} {R R' : α → β → Prop} (h : ∀ x d, R x d → R' x d) {xs : List α} {ds : List β} (p : Paired R xs ds) : Paired R' xs ds := by
  induction p with
  | nil => exact .nil
  | cons r t ih => exact .cons (h _ _ r) ih
theorem Cont.keep {N : Addr → Prop} {H H' : Hp} {R R' : V → PyData → Prop} {x : V} {d : PyData} (k : KL N H H') (h : ∀ x d, R x d → R' x d) (c : Cont N H R x d) : Cont N H' R' x d := by
  obtain ⟨a, xs, ds, e, p, l, o⟩ := c
  refine ⟨a, xs, ds, e, pairedMono h p, l, ?_⟩
  rcases o with ⟨e, z⟩ | ⟨e, n, z⟩
  · exact .inl ⟨k.tup _ _ e, z⟩
  · exact .inr ⟨k.lst _ _ e n, n, z⟩
theorem D1.keep {N : Addr → Prop} {H H' : Hp} {x : V} {d : PyData} (k : KL N H H') (c : D1 N H x d) : D1 N H' x d := by
  rcases c with c | c
  · exact .inl c
  · exact .inr (c.keep k fun _ _ h => h)
theorem D2.keep {N : Addr → Prop} {H H' : Hp} {x : V} {d : PyData} (k : KL N H H') (c : D2 N H x d) : D2 N H' x d := by
  rcases c with c | c
  · exact .inl c
  · exact .inr (c.keep k fun _ _ h => D1.keep k h)
theorem IT.keep {N : Addr → Prop} {H H' : Hp} {x : V} {d : PyData} (k : KL N H H') (c : IT N H x d) : IT N H' x d := by
  cases c with
  | d2 h => exact .d2 (h.keep k)
  | dic e => exact .dic (k.dic _ e)
theorem Cont.mono {N M : Addr → Prop} {H : Hp} {R R' : V → PyData → Prop} {x : V} {d : PyData} (m : ∀ a, M a → N a) (h : ∀ x d, R x d → R' x d) (c : Cont N H R x d) : Cont M H R' x d := by
  obtain ⟨a, xs, ds, e, p, l, o⟩ := c
  refine ⟨a, xs, ds, e, pairedMono h p, l, ?_⟩
  rcases o with o | ⟨e, n, z⟩
  · exact .inl o
  · exact .inr ⟨e, fun z => n (m _ z), z⟩
theorem D1.mono {N M : Addr → Prop} {H : Hp} {x : V} {d : PyData} (m : ∀ a, M a → N a) (c : D1 N H x d) : D1 M H x d := by
  rcases c with c | c
  · exact .inl c
  · exact .inr (c.mono m fun _ _ h => h)
theorem D2.mono {N M : Addr → Prop} {H : Hp} {x : V} {d : PyData} (m : ∀ a, M a → N a) (c : D2 N H x d) : D2 M H x d := by
  rcases c with c | c
  · exact .inl c
  · exact .inr (c.mono m fun _ _ h => D1.mono m h)
theorem IT.mono {N M : Addr → Prop} {H : Hp} {x : V} {d : PyData} (m : ∀ a, M a → N a) (c : IT N H x d) : IT M H x d := by
  cases c with
  | d2 h => exact .d2 (h.mono m)
  | dic e => exact .dic e
theorem Cont.tup {N : Addr → Prop} {H : Hp} {R : V → PyData → Prop} {a : Addr} {xs : List V} {ds : List PyData} (e : H a = some (.tup xs)) (p : Paired R xs ds) (l : xs.length ≤ 20 := by exact Nat.le_of_ble_eq_true rfl) : Cont N H R (.ref a) (.tuple ds) := ⟨a, xs, ds, rfl, p, l, .inl ⟨e, rfl⟩⟩
theorem Cont.lst {N : Addr → Prop} {H : Hp} {R : V → PyData → Prop} {a : Addr} {xs : List V} {ds : List PyData} (e : H a = some (.lst xs)) (n : ¬ N a) (p : Paired R xs ds) (l : xs.length ≤ 20 := by exact Nat.le_of_ble_eq_true rfl) : Cont N H R (.ref a) (.list ds) := ⟨a, xs, ds, rfl, p, l, .inr ⟨e, n, rfl⟩⟩
section
variable {K : PySem.W.Frag} {N : Addr → Prop} {H : Hp}
theorem dpAll_of {R : V → PyData → Prop} (h : ∀ x d, R x d → Dp K H x d) {xs : List V} {ds : List PyData} (p : Paired R xs ds) : DpAll K H xs ds := by
  induction p with
  | nil => exact .nil
  | cons r t ih => exact .cons (h _ _ r) ih
theorem At0.dp {x : V} {d : PyData} (h : At0 x d) : Dp K H x d := by
  cases h with
  | non => exact .non
  | bl b => exact .bl b
  | int i _ _ => exact .int i
  | str z _ _ _ => exact .str z
theorem Cont.dp {R : V → PyData → Prop} (h : ∀ x d, R x d → Dp K H x d) {x : V} {d : PyData} (c : Cont N H R x d) : Dp K H x d := by
  obtain ⟨a, xs, ds, rfl, p, l, o⟩ := c
  rcases o with ⟨e, rfl⟩ | ⟨e, n, rfl⟩
  · exact .tup (.inl (.inl e)) (dpAll_of h p)
  · exact .lst (.inl (.inl e)) (dpAll_of h p)
theorem D1.dp {x : V} {d : PyData} (h : D1 N H x d) : Dp K H x d := h.elim (·.dp) (·.dp fun _ _ z => z.dp)
theorem D2.dp {x : V} {d : PyData} (h : D2 N H x d) : Dp K H x d := h.elim (·.dp) (·.dp fun _ _ z => z.dp)
theorem small_good : ∀ k : Fin 201, (PyData.int ((k.1 : Int) - 100)).showable = true ∧ (PyData.int ((k.1 : Int) - 100)).intsShort 13 = true ∧ (PyData.int ((k.1 : Int) - 100)).weight ≤ 20 := by decide +kernel
theorem small_int {i : Int} (h1 : -100 ≤ i) (h2 : i ≤ 100) : GoodD (.int i) ∧ (PyData.int i).weight ≤ 20 := by
  have z := small_good ⟨(i + 100).toNat, by omega⟩
  have e : (((i + 100).toNat : Nat) : Int) - 100 = i := by omega
  rw [e] at z
  exact ⟨⟨rfl, z.1, rfl, z.2.1⟩, z.2.2⟩
theorem At0.good {x : V} {d : PyData} (h : At0 x d) : GoodD d ∧ d.weight ≤ 20 ∧ d.depth = 0 := by
  cases h with
  | non => exact ⟨⟨rfl, rfl, rfl, rfl⟩, by decide, rfl⟩
  | bl b => exact ⟨⟨rfl, rfl, rfl, rfl⟩, by cases b <;> decide, rfl⟩
  | int i a b => exact ⟨(small_int a b).1, (small_int a b).2, rfl⟩
  | str z a b c => exact ⟨a, b, c⟩
theorem all_good {R : V → PyData → Prop} {n m : Nat} (h : ∀ x d, R x d → GoodD d ∧ d.weight ≤ n ∧ d.depth ≤ m) {xs : List V} {ds : List PyData} (p : Paired R xs ds) : (∀ d ∈ ds, GoodD d) ∧ PyData.weightAll ds ≤ (n + 1) * xs.length ∧ PyData.depthAll ds ≤ m := by
  induction p with
  | nil => exact ⟨fun d z => (nomatch z), Nat.zero_le _, Nat.zero_le _⟩
  | @cons x d xs ds r t ih =>
    obtain ⟨a, b, c⟩ := h _ _ r
    obtain ⟨a', b', c'⟩ := ih
    refine ⟨fun y hy => ?_, ?_, ?_⟩
    · rcases List.mem_cons.mp hy with z | z
      · rw [z]
        exact a
      · exact a' y z
    · show d.weight + 1 + PyData.weightAll ds ≤ (n + 1) * (xs.length + 1)
      rw [Nat.mul_succ]
      omega
    · simp only [PyData.depthAll]
      omega
theorem Cont.good {R : V → PyData → Prop} {n m : Nat} (h : ∀ x d, R x d → GoodD d ∧ d.weight ≤ n ∧ d.depth ≤ m) {x : V} {d : PyData} (c : Cont N H R x d) : GoodD d ∧ d.weight ≤ (n + 1) * 20 ∧ d.depth ≤ m + 1 := by
  obtain ⟨a, xs, ds, rfl, p, l, o⟩ := c
  obtain ⟨g, w, dd⟩ := all_good h p
  have lw : (n + 1) * xs.length ≤ (n + 1) * 20 := Nat.mul_le_mul_left _ l
  rcases o with ⟨e, rfl⟩ | ⟨e, _, rfl⟩
  · exact ⟨good_tup g, (by show PyData.weightAll ds ≤ _; omega), by simp only [PyData.depth]; omega⟩
  · exact ⟨good_lst g, (by show PyData.weightAll ds ≤ _; omega), by simp only [PyData.depth]; omega⟩
theorem D1.good {x : V} {d : PyData} (h : D1 N H x d) : GoodD d ∧ d.weight ≤ 420 ∧ d.depth ≤ 1 := by
  rcases h with h | h
  · obtain ⟨a, b, c⟩ := h.good
    exact ⟨a, by omega, by omega⟩
  · exact h.good fun _ _ z => ⟨z.good.1, z.good.2.1, Nat.le_of_eq z.good.2.2⟩
theorem D2.good {x : V} {d : PyData} (h : D2 N H x d) : GoodD d ∧ d.weight ≤ 8420 ∧ d.depth ≤ 2 := by
  rcases h with h | h
  · obtain ⟨a, b, c⟩ := h.good
    exact ⟨a, by omega, by omega⟩
  · exact h.good fun _ _ z => z.good
theorem log_small {i : Int} (h1 : -100 ≤ i) (h2 : i ≤ 100) : i.natAbs.log2 < 1920 := by
  have : i.natAbs.log2 ≤ i.natAbs := Nat.log2_le_self _
  omega
theorem IT.repr {x : V} {d : PyData} (h : IT N H x d) {Q : VK} (q : Q (.str d.shown) H) : RU.rReprU K [x] H Q := by
  cases h with
  | dic e => exact .inr ⟨_, rfl, e, q⟩
  | d2 h =>
    obtain ⟨g, wt, dp⟩ := h.good
    refine .inl ⟨x, d, rfl, h.dp, g.2.1, g.2.2.1, by omega, ?_, fun i e => ?_, q⟩
    · have hl : d.layable0 = true := by
        unfold PyData.layable0
        have e2 : (2 : Nat) ^ 20 = 1048576 := by decide
        rw [g.1, decide_eq_true (show d.depth ≤ 64 by omega), decide_eq_true (show d.weight ≤ 2 ^ 20 by omega)]
        rfl
      have z := PyProof.Rows.shown_le13 hl g.2.2.2
      rw [sizeLine_eq]
      omega
    · subst e
      rcases h with h | h
      · cases h with
        | int i a b => exact log_small a b
      · obtain ⟨a, xs, ds, _, _, _, o⟩ := h
        rcases o with ⟨_, z⟩ | ⟨_, _, z⟩ <;> cases z
theorem paired_left {α β : Type} {R : α → β → Prop} {xs : List α} {ds : List β} (p : Paired R xs ds) : ∀ y ∈ xs, ∃ d, R y d := by
  induction p with
  | nil => exact fun y z => (nomatch z)
  | cons r t ih =>
    intro y hy
    rcases List.mem_cons.mp hy with z | z
    · rw [z]
      exact ⟨_, r⟩
    · exact ih y z
end
end K02

set_option Elab.async false
set_option linter.all false
set_option maxRecDepth 100000
set_option maxHeartbeats 4000000
/-! Values of other kinds. -/
namespace K02
open PySem PySem.Spec L2
open PyProof.Rows GenW GxR EZ TK
open LamX (ExtN)
abbrev sOdd : Stmt := top 59 -- _law_odd
section
variable {P : Program} {w : World} {K : PySem.W.Frag} {mg : Str → Option Value} {base : Heap}
/-- what stands already -/
abbrev Here (H : Hp) (a : Addr) : Prop := H a ≠ none
theorem str_at (z : Str) (h1 : (PyData.str z).canLay0 = true := by decide +kernel) (h2 : (PyData.str z).showable = true := by decide +kernel) (h3 : (PyData.str z).intsShort 13 = true := by decide +kernel) (h4 : (PyData.str z).weight ≤ 20 := by decide +kernel) : At0 (.str z) (.str z) := .str z ⟨h1, h2, rfl, h3⟩ h4 rfl
theorem int_at (i : Int) (h1 : -100 ≤ i := by decide) (h2 : i ≤ 100 := by decide) : At0 (.int i) (.int i) := .int i h1 h2
def spOdd : Sp := fun vs H Q _ => ∃ (st lg cl : Addr) (t : Nat), vs = [.ref st] ∧ t + 100 < 1000000000 ∧ StOk H st lg cl t ∧
  ∀ (x : V) (d : PyData) (H' : Hp), IT (Here H) H' x d → StOk H' st lg cl (t + 1) → But st lg H H' → Q x H'
theorem scOdd : FnScope ["state"] ["state"] (defScope sOdd) := ⟨rfl, rfl, rfl, by decide +kernel, rfl, by decide +kernel, by decide +kernel⟩
theorem ok_odd {f : Addr} {fd : FuncData} (F : Fun K "_law_odd" "_law_odd" sOdd f fd) (cK : Cal P w K mg base CX0 2 "_law_pick" ["state", "several"] (spPick K)) : FnOk P w K mg base CX0 3 f fd ["state"] spOdd := by
  obtain ⟨fK, fdK, GK, kK, bK, mK⟩ := cK
  refine F.ok scOdd (fun vs H Q E h => ?_) (fun cdv A outer s H vs Q E hr h => ?_)
  · obtain ⟨st, lg, cl, t, rfl, _⟩ := h
    rfl
  · obtain ⟨st, lg, cl, t, rfl, ht, S, q⟩ := h
    refine ⟨_, (pss_one (ps_ret (pe_call GK (hr.mono (by decide)) (by rfl) mK kK bK .nil pass0 (pa_cons (pv 0) (pa_cons (pe_lst (pa_cons pe_non (pa_cons pe_bl (pa_cons pe_bl (pa_cons pe_str (pa_cons pe_str (pa_cons (pe_lst pa_nil) (pa_cons pe_dnewT (pa_cons (pe_tup (pa_cons pe_non pa_nil)) (pa_cons (pe_tup (pa_cons pe_str (pa_cons pe_int pa_nil))) (pa_cons (pe_lst (pa_cons (pe_lst (pa_cons pe_int pa_nil)) pa_nil)) (pa_cons (pe_tup (pa_cons pe_bl pa_nil)) (pa_cons (pe_tup (pa_cons (pe_tup pa_nil) pa_nil)) (pa_cons pe_int (pa_cons (pe_tup (pa_cons pe_str (pa_cons pe_int pa_nil))) pa_nil))))))))))))))) pa_nil))))), ?_⟩
    refine ⟨_, rfl, Nat.zero_le _, fun p1 n1 => ?_⟩
    have s1 := same_new (o := .lst []) n1
    have e1 : (L2.upd H p1 (.lst [])) p1 = some (.lst []) := upd_same
    generalize L2.upd H p1 (.lst []) = H1 at s1 e1
    refine fun p2 n2 => ?_
    have s2 := same_new (o := .dT []) n2
    have e2 : (L2.upd H1 p2 (.dT [])) p2 = some (.dT []) := upd_same
    generalize L2.upd H1 p2 (.dT []) = H2 at s2 e2
    refine ⟨(by show 1 ≤ sizeLine; decide), fun p3 n3 => ?_⟩
    have s3 := same_new (o := .tup [.non]) n3
    have e3 : (L2.upd H2 p3 (.tup [.non])) p3 = some (.tup [.non]) := upd_same
    generalize L2.upd H2 p3 (.tup [.non]) = H3 at s3 e3
    refine ⟨(by show 2 ≤ sizeLine; decide), fun p4 n4 => ?_⟩
    have s4 := same_new (o := .tup [.str "a", .int 1]) n4
    have e4 : (L2.upd H3 p4 (.tup [.str "a", .int 1])) p4 = some (.tup [.str "a", .int 1]) := upd_same
    generalize L2.upd H3 p4 (.tup [.str "a", .int 1]) = H4 at s4 e4
    refine ⟨(by show 1 ≤ sizeLine; decide), fun p5 n5 => ?_⟩
    have s5 := same_new (o := .lst [.int 0]) n5
    have e5 : (L2.upd H4 p5 (.lst [.int 0])) p5 = some (.lst [.int 0]) := upd_same
    generalize L2.upd H4 p5 (.lst [.int 0]) = H5 at s5 e5
    refine ⟨(by show 1 ≤ sizeLine; decide), fun p6 n6 => ?_⟩
    have s6 := same_new (o := .lst [.ref p5]) n6
    have e6 : (L2.upd H5 p6 (.lst [.ref p5])) p6 = some (.lst [.ref p5]) := upd_same
    generalize L2.upd H5 p6 (.lst [.ref p5]) = H6 at s6 e6
    refine ⟨(by show 1 ≤ sizeLine; decide), fun p7 n7 => ?_⟩
    have s7 := same_new (o := .tup [.bl true]) n7
    have e7 : (L2.upd H6 p7 (.tup [.bl true])) p7 = some (.tup [.bl true]) := upd_same
    generalize L2.upd H6 p7 (.tup [.bl true]) = H7 at s7 e7
    refine ⟨Nat.zero_le _, fun p8 n8 => ?_⟩
    have s8 := same_new (o := .tup []) n8
    have e8 : (L2.upd H7 p8 (.tup [])) p8 = some (.tup []) := upd_same
    generalize L2.upd H7 p8 (.tup []) = H8 at s8 e8
    refine ⟨(by show 1 ≤ sizeLine; decide), fun p9 n9 => ?_⟩
    have s9 := same_new (o := .tup [.ref p8]) n9
    have e9 : (L2.upd H8 p9 (.tup [.ref p8])) p9 = some (.tup [.ref p8]) := upd_same
    generalize L2.upd H8 p9 (.tup [.ref p8]) = H9 at s9 e9
    refine ⟨(by show 2 ≤ sizeLine; decide), fun p10 n10 => ?_⟩
    have s10 := same_new (o := .tup [.str "pause", .int 1]) n10
    have e10 : (L2.upd H9 p10 (.tup [.str "pause", .int 1])) p10 = some (.tup [.str "pause", .int 1]) := upd_same
    generalize L2.upd H9 p10 (.tup [.str "pause", .int 1]) = H10 at s10 e10
    have t10 : Same H10 H10 := fun _ _ e => e
    have t9 := s10.trans t10
    have t8 := s9.trans t9
    have t7 := s8.trans t8
    have t6 := s7.trans t7
    have t5 := s6.trans t6
    have t4 := s5.trans t5
    have t3 := s4.trans t4
    have t2 := s3.trans t3
    have t1 := s2.trans t2
    have s0 := s1.trans t1
    refine ⟨(by show 14 ≤ sizeLine; decide), fun L nL => ?_⟩
    have u := same_new (o := .lst [.non, .bl true, .bl false, .str "", .str "A", .ref p1, .ref p2, .ref p3, .ref p4, .ref p6, .ref p7, .ref p9, .int 5, .ref p10]) nL
    have S11 := S.keep (s0.trans u)
    have nLs := But.st_new (o := .tup []) (S.keep s0) nL
    have m1 : ¬ Here H p1 := fun z => z n1
    have m5 : ¬ Here H p5 := fun z => z ((s1.trans (s2.trans (s3.trans s4))).free n5)
    have m6 : ¬ Here H p6 := fun z => z ((s1.trans (s2.trans (s3.trans (s4.trans s5)))).free n6)
    have all : ∀ x ∈ [V.non, .bl true, .bl false, .str "", .str "A", .ref p1, .ref p2, .ref p3, .ref p4, .ref p6, .ref p7, .ref p9, .int 5, .ref p10], ∃ d, IT (Here H) (L2.upd H10 L (.lst [.non, .bl true, .bl false, .str "", .str "A", .ref p1, .ref p2, .ref p3, .ref p4, .ref p6, .ref p7, .ref p9, .int 5, .ref p10])) x d := by
      intro x hx
      simp only [List.mem_cons, List.not_mem_nil, or_false] at hx
      rcases hx with h | h | h | h | h | h | h | h | h | h | h | h | h | h <;> subst h
      · exact ⟨_, .d2 (.inl .non)⟩
      · exact ⟨_, .d2 (.inl (.bl _))⟩
      · exact ⟨_, .d2 (.inl (.bl _))⟩
      · exact ⟨_, .d2 (.inl (str_at ""))⟩
      · exact ⟨_, .d2 (.inl (str_at "A"))⟩
      · exact ⟨_, .d2 (.inr (.lst (u _ _ (t1 _ _ e1)) m1 .nil))⟩
      · exact ⟨_, .dic (u _ _ (t2 _ _ e2))⟩
      · exact ⟨_, .d2 (.inr (.tup (u _ _ (t3 _ _ e3)) (.cons (.inl .non) .nil)))⟩
      · exact ⟨_, .d2 (.inr (.tup (u _ _ (t4 _ _ e4)) (.cons (.inl (str_at "a")) (.cons (.inl (int_at 1)) .nil))))⟩
      · exact ⟨_, .d2 (.inr (.lst (u _ _ (t6 _ _ e6)) m6 (.cons (.inr (.lst (u _ _ (t5 _ _ e5)) m5 (.cons (int_at 0) .nil))) .nil)))⟩
      · exact ⟨_, .d2 (.inr (.tup (u _ _ (t7 _ _ e7)) (.cons (.inl (.bl _)) .nil)))⟩
      · exact ⟨_, .d2 (.inr (.tup (u _ _ (t9 _ _ e9)) (.cons (.inr (.tup (u _ _ (t8 _ _ e8)) .nil)) .nil)))⟩
      · exact ⟨_, .d2 (.inl (int_at 5))⟩
      · exact ⟨_, .d2 (.inr (.tup (u _ _ (t10 _ _ e10)) (.cons (.inl (str_at "pause")) (.cons (.inl (int_at 1)) .nil))))⟩
    refine ⟨st, lg, cl, L, t, _, rfl, (by show 0 < 14; decide), (by show 14 ≤ 1000; decide), nLs.1, nLs.2, .inl (.inl upd_same), by omega, S11, fun x H' mem S' U' => ?_⟩
    obtain ⟨d, hd⟩ := all x mem
    exact q x d H' (hd.keep (.but U' S11 S.there.1 S.there.2)) S' ((But.of (s0.trans u)).trans U')
end
end K02

set_option Elab.async false
set_option linter.all false
set_option maxRecDepth 100000
set_option maxHeartbeats 2000000
/-! The own classes of errors: what stands of each, how isinstance parts them. -/
namespace K02
open PySem PySem.Spec L2
open PyProof.Rows GenW GxR EZ TK
open LamX (ExtN)
abbrev Cl := Str × Addr
structure CI (K : PySem.W.Frag) (mg : Str → Option Value) (CS : Addr) (c : Cl) : Prop where
  m : mg c.1 = some (.ref c.2)
  ex : ExcC K c.2
  ty : PySem.W.typeIn K (.ref c.2) = some (.type "type")
  mro : (PySem.W.clsIn K c.2).map (·.mro) = some [.ref c.2, .ref CS, .type "ValueError", .type "Exception", .type "BaseException", .type "object"]
section
variable {K : PySem.W.Frag} {mg : Str → Option Value} {CS : Addr} {c d : Cl}
theorem CI.some (a : CI K mg CS c) : ∃ cd, PySem.W.clsIn K c.2 = some cd ∧ cd.mro = [.ref c.2, .ref CS, .type "ValueError", .type "Exception", .type "BaseException", .type "object"] := by
  have z := a.mro
  cases e : PySem.W.clsIn K c.2 with
  | none => rw [e] at z; cases z
  | some cd => rw [e] at z; exact ⟨cd, rfl, Option.some.inj z⟩
theorem CI.sub (a : CI K mg CS c) (v : Value) : PySem.W.subIn K (.ref c.2) v = Option.some ([Value.ref c.2, .ref CS, .type "ValueError", .type "Exception", .type "BaseException", .type "object"].contains v) := by
  obtain ⟨cd, e, m⟩ := a.some
  show PySem.W.mroIn K c.2 v = _
  unfold PySem.W.mroIn
  rw [e, Option.bind_some, m]
  rfl
theorem beq_ref (a b : Addr) : (Value.ref a == Value.ref b) = decide (a = b) := by
  by_cases h : a = b
  · subst h; simp
  · simp [h]
theorem kit_own (a : CI K mg CS c) (b : CI K mg CS d) (n : d.2 ≠ CS) : PySem.W.kitOne K (.ref c.2) (.ref d.2) = Option.some (decide (c.2 = d.2)) := by
  unfold PySem.W.kitOne PySem.W.kitCls
  by_cases h : c.2 = d.2
  · rw [if_pos (by rw [h]; simp), decide_eq_true h]
  · rw [if_neg (by rw [beq_ref]; simp [h]), decide_eq_false h]
    obtain ⟨cd, e, _⟩ := b.some
    dsimp only
    rw [if_pos (by rw [e, b.ty]; rfl), a.sub]
    have h' : (Value.ref d.2 == Value.ref c.2) = false := by rw [beq_ref]; exact decide_eq_false fun z => h z.symm
    have n' : (Value.ref d.2 == Value.ref CS) = false := by rw [beq_ref]; exact decide_eq_false n
    simp only [List.contains_cons, h', n', Bool.false_or]
    rfl
theorem kit_base (a : CI K mg CS c) (hS : (PySem.W.clsIn K CS).isSome = true) (tS : PySem.W.typeIn K (.ref CS) = Option.some (.type "type")) : PySem.W.kitOne K (.ref c.2) (.ref CS) = Option.some true := by
  unfold PySem.W.kitOne PySem.W.kitCls
  by_cases h : (Value.ref c.2 == Value.ref CS) = true
  · rw [if_pos h]
  · rw [if_neg h]
    dsimp only
    rw [if_pos (by rw [hS, tS]; rfl), a.sub]
    simp
theorem kit_VE (a : CI K mg CS c) : PySem.W.kitOne K (.ref c.2) (.type "ValueError") = Option.some true := by
  unfold PySem.W.kitOne PySem.W.kitCls
  rw [if_neg (by simp)]
  dsimp only
  rw [if_pos (by decide +kernel), a.sub]
  simp
end
end K02

set_option Elab.async false
set_option linter.all false
set_option maxRecDepth 100000
set_option maxHeartbeats 4000000
/-! Which classes an error is of. -/
namespace K02
open PySem PySem.Spec L2
open PyProof.Rows GenW GxR EZ TK
open LamX (ExtN)
abbrev sKdA : Stmt := top 60 -- _law_kinds_a
abbrev sKdB : Stmt := top 61 -- _law_kinds_b
abbrev sKdC : Stmt := top 62 -- _law_kinds_c
abbrev nKd : List Str := ["caught", "found", "each"]
/-- the names of the classes that are c -/
def kindsOf (C : Addr) (g : List Cl) : List V := (g.filter fun p => decide (C = p.2)).map fun p => .str p.1
def spKinds (K : PySem.W.Frag) (mg : Str → Option Value) (CS : Addr) (g : List Cl) : Sp := fun vs H Q _ => ∃ (x : V) (c : Cl) (fs : Option (List (Str × V))), vs = [x] ∧ ES.ExcAt H x c.2 fs ∧ CI K mg CS c ∧ ∀ (r : Addr) (H' : Hp), Same H H' → H' r = some (.lst (kindsOf c.2 g)) → Q (.ref r) H'
theorem scKdA : FnScope nKd ["caught"] (defScope sKdA) := ⟨rfl, rfl, rfl, by decide +kernel, rfl, by decide +kernel, by decide +kernel⟩
theorem scKdB : FnScope nKd ["caught"] (defScope sKdB) := ⟨rfl, rfl, rfl, by decide +kernel, rfl, by decide +kernel, by decide +kernel⟩
theorem scKdC : FnScope nKd ["caught"] (defScope sKdC) := ⟨rfl, rfl, rfl, by decide +kernel, rfl, by decide +kernel, by decide +kernel⟩
/-- the list at L grows, all else is as it was -/
def Kst (H0 H : Hp) (L : Addr) (vs : List V) : Prop := H L = some (.lst vs) ∧ ∀ b, b ≠ L → H b = H0 b
theorem ext_lst {φ : Heap → Prop} (xs : List V) : HO.ext φ ≠ HO.lst xs := fun z => by cases z
theorem exc_keep {H H' : Hp} {x : V} {C : Addr} {fs : Option (List (Str × V))} (h : ES.ExcAt H x C fs) (k : ∀ b o, H b = some o → (∀ xs, o ≠ .lst xs) → H' b = some o) : ES.ExcAt H' x C fs := by
  obtain ⟨a, e, h⟩ := h
  refine ⟨a, e, ?_⟩
  cases fs with
  | none => exact k _ _ h ext_lst
  | some l =>
    obtain ⟨d, h1, h2⟩ := h
    exact ⟨d, k _ _ h1 ext_lst, k _ _ h2 ext_lst⟩
theorem Kst.keep {H0 H : Hp} {L : Addr} {vs : List V} (k : Kst H0 H L vs) (n : H0 L = none) : Same H0 H := fun b o e => by
  rw [k.2 b (fun z => by rw [z, n] at e; cases e)]
  exact e
theorem Kst.put {H0 H : Hp} {L : Addr} {vs ws : List V} (k : Kst H0 H L vs) : Kst H0 (L2.upd H L (.lst ws)) L ws := ⟨upd_same, fun b hb => by rw [upd_ne hb]; exact k.2 b hb⟩
/-- as far as the classes g were asked -/
def KG (H0 H : Hp) (L C : Addr) (g : List Cl) : Prop := Kst H0 H L (g.reverse.map fun d => .str (if C = d.2 then d.1 else ""))
section
variable {K : PySem.W.Frag} {mg : Str → Option Value} {CS : Addr}
theorem kd_step {H0 H : Hp} {x : V} {c d : Cl} {fs : Option (List (Str × V))} {L : Addr} {g : List Cl} {t : TS} {D : Ends} {σ2 : Option V} (hk : KG H0 H L c.2 g) (hL : H0 L = none) (hx : ES.ExcAt H0 x c.2 fs) (hc : CI K mg CS c) (hd : CI K mg CS d) (n : d.2 ≠ CS) (hl : g.length < 100)
    (q : ∀ H', KG H0 H' L c.2 (d :: g) → t D [some x, some (.ref L), σ2] H') :
    tSeq (tDrop (tBM K "list" rAppend (tVar 1) (tCons (tIf (tB (tCB (ES.rIsV K) (tCons (tVar 0) (tCons (tC (.ref d.2)) tNil)))) (tC (.str d.1)) (tC (.str ""))) tNil))) t D [some x, some (.ref L), σ2] H := by
  refine ⟨_, rfl, .inl ⟨rfl, _, .inl (.inl hk.1)⟩, ?_⟩
  refine ⟨_, rfl, x, .ref d.2, .ref d.2, c.2, fs, _, rfl, exc_keep hx (fun b o e _ => hk.keep hL b o e), hc.ex, (fun u r => r), kit_own hc hd n, _, rfl, ?_⟩
  have fin : ∀ s : Str, s = (if c.2 = d.2 then d.1 else "") → rAppend (.ref L) [.str s] H fun _ H' => t D [some x, some (.ref L), σ2] H' := fun s hs => by
    subst hs
    refine ⟨L, _, _, rfl, rfl, hk.1, (by rw [sizeLine_eq, List.length_map, List.length_reverse]; omega), q _ ?_⟩
    unfold KG
    rw [List.reverse_cons, List.map_append]
    exact hk.put
  show if decide (c.2 = d.2) = true then _ else _
  by_cases h : c.2 = d.2
  · rw [if_pos (decide_eq_true h)]
    exact fin _ (by rw [if_pos h])
  · rw [if_neg (by simpa using h)]
    exact fin _ (by rw [if_neg h])
/-- what every such def has -/
structure KdX (X : Cx) : Prop where
  n0 : X.N[0]? = some ("caught" : Str)
  n1 : X.N[1]? = some ("found" : Str)
  v0 : Vis X.env.scope "caught"
  v1 : Vis X.env.scope "found"
  gi : X.env.kindOf "isinstance" = some .globalImplicit
  mi : X.mg "isinstance" = none
theorem ps_kd {X : Cx} {n : Str} {C : Addr} {p1 p2 p3 p4 p5 p6 p7 p8 p9 p10 p11 : Pos} {j j' : Nat} (B : KdX X) (gn : X.env.kindOf n = some .globalImplicit) (mn : X.mg n = some (.ref C)) (hd : (n == ("__debug__" : Str)) = false) (hline : (p2.endLine == p10.line) = true) :
    PS X (.Expr (.Call (.Attribute (.Name "found" p1) "append" p2) [.IfExp (.Call (.Name "isinstance" p3) [.Name "caught" p4, .Name n p5] [] p6) (.Constant (.str n) j p7) (.Constant (.str "") j' p8) p9] [] p10) p11)
      (tDrop (tBM X.K "list" rAppend (tVar 1) (tCons (tIf (tB (tCB (ES.rIsV X.K) (tCons (tVar 0) (tCons (tC (.ref C)) tNil)))) (tC (.str n)) (tC (.str ""))) tNil))) :=
  ps_expr (pe_bm PySem.F.plainAttrs_list PySem.F.slot_list_append PySem.F.type_list_append mt_append (pv 1 B.n1 B.v1) (pa_cons (pe_ifExp (pt_val (pe_callB ES.call_isV B.gi B.mi (by decide +kernel) (pa_cons (pv 0 B.n0 B.v0) (pa_cons (pe_glob gn mn rfl hd) pa_nil)))) pe_str pe_str) pa_nil) (hline := hline))
theorem kinds_snoc {C : Addr} {g : List Cl} {d : Cl} : kindsOf C (g ++ [d]) = kindsOf C g ++ (if C = d.2 then [.str d.1] else []) := by
  unfold kindsOf
  rw [List.filter_append, List.map_append]
  by_cases h : C = d.2
  · rw [if_pos h, List.filter_cons, if_pos (decide_eq_true h)]
    rfl
  · rw [if_neg h, List.filter_cons, if_neg (by simpa using h)]
    rfl
theorem kd_end {H0 H : Hp} {x : V} {c : Cl} {g : List Cl} {L : Addr} {Q : VK} {nx : L2.St → Hp → Prop} {gr : List Cl} (hk : KG H0 H L c.2 gr) (he : gr.reverse = g) (hL : H0 L = none) (hn : (g.map (·.1)).all (fun n => decide (n ≠ ("" : Str))) = true) (hl : g.length < 100)
    (q : ∀ (r : Addr) (H' : Hp), Same H0 H' → H' r = some (.lst (kindsOf c.2 g)) → Q (.ref r) H') :
    tRet (tLc (iList K (tVar 1)) (gName 2) (tTest (tOp rNe (tVar 2) (tC (.str "")))) (tVar 2) [2]) { nx := nx, rt := Q } [some x, some (.ref L), none] H := by
  unfold KG at hk
  rw [he] at hk
  have hS : SqL K H L (g.map fun d => .str (if c.2 = d.2 then d.1 else "")) := .inl (.inl hk.1)
  refine ⟨_, rfl, L, rfl, ⟨_, hS⟩, fun D nD => ?_⟩
  refine lc_it walk_list (fun i H1 => Same H H1 ∧ H1 D = some (.lst (kindsOf c.2 (g.take i)))) ⟨same_new nD, upd_same⟩ (fun i H1 _ z => extN_seqL (extN_same z.1) hS) (fun i y H1 H1' hi ⟨s1, e1⟩ hy => ?_) (fun H1 ⟨s1, e1⟩ => ?_)
  · obtain ⟨rfl, hy⟩ := hy
    rw [List.getElem?_map] at hy
    obtain ⟨d, hd, rfl⟩ := Option.map_eq_some_iff.mp hy
    have hdm := List.mem_of_getElem? hd
    refine ⟨rfl, _, rfl, rfl, _, rfl, ?_⟩
    have tk : g.take (i + 1) = g.take i ++ [d] := take_snoc hd
    rw [tk, kinds_snoc]
    by_cases h : c.2 = d.2
    · rw [if_pos h, if_pos h]
      have nz : decide (V.str d.1 = V.str "") = false := decide_eq_false fun z => of_decide_eq_true (List.all_eq_true.mp hn d.1 (List.mem_map_of_mem hdm)) (V.str.inj z)
      rw [nz]
      refine iteT ⟨_, rfl, _, e1, ?_, fun b o e => ?_, upd_same⟩
      · have : (kindsOf c.2 (g.take i)).length ≤ g.length := by
          unfold kindsOf
          rw [List.length_map]
          exact Nat.le_trans (List.length_filter_le _ _) (by rw [List.length_take]; omega)
        rw [sizeLine_eq]
        omega
      · rw [upd_ne (ne_of_none e nD)]
        exact s1 _ _ e
    · rw [if_neg h, if_neg h, List.append_nil]
      have nz : decide (V.str "" = V.str "") = true := decide_eq_true rfl
      rw [nz]
      exact iteF ⟨s1, e1⟩
  · rw [List.length_map, List.take_length] at e1
    exact q D H1 (fun b o e => s1 _ _ (hk.keep hL _ _ e)) e1
end
section
variable {P : Program} {w : World} {K : PySem.W.Frag} {mg : Str → Option Value} {base : Heap} {CS : Addr}
theorem ok_ka {f : Addr} {fd : FuncData} (F : Fun K "_law_kinds_a" "_law_kinds_a" sKdA f fd) (mi : mg "isinstance" = none) {C_BadCases C_BadCircuit C_BadCode C_BadDiagram C_BadElement C_BadFrame C_BadGiven C_BadHeld C_BadLine C_BadLot C_BadMachine C_BadModule C_BadName C_BadNames C_BadNumber C_BadOrder C_BadOwn C_BadPart C_BadPath C_BadPicks C_BadPiece C_BadProgram C_BadReadings C_BadRest : Addr}
    (i_BadCases : CI K mg CS ("BadCases", C_BadCases)) (n_BadCases : C_BadCases ≠ CS) (i_BadCircuit : CI K mg CS ("BadCircuit", C_BadCircuit)) (n_BadCircuit : C_BadCircuit ≠ CS) (i_BadCode : CI K mg CS ("BadCode", C_BadCode)) (n_BadCode : C_BadCode ≠ CS) (i_BadDiagram : CI K mg CS ("BadDiagram", C_BadDiagram)) (n_BadDiagram : C_BadDiagram ≠ CS) (i_BadElement : CI K mg CS ("BadElement", C_BadElement)) (n_BadElement : C_BadElement ≠ CS) (i_BadFrame : CI K mg CS ("BadFrame", C_BadFrame)) (n_BadFrame : C_BadFrame ≠ CS) (i_BadGiven : CI K mg CS ("BadGiven", C_BadGiven)) (n_BadGiven : C_BadGiven ≠ CS) (i_BadHeld : CI K mg CS ("BadHeld", C_BadHeld)) (n_BadHeld : C_BadHeld ≠ CS) (i_BadLine : CI K mg CS ("BadLine", C_BadLine)) (n_BadLine : C_BadLine ≠ CS) (i_BadLot : CI K mg CS ("BadLot", C_BadLot)) (n_BadLot : C_BadLot ≠ CS) (i_BadMachine : CI K mg CS ("BadMachine", C_BadMachine)) (n_BadMachine : C_BadMachine ≠ CS) (i_BadModule : CI K mg CS ("BadModule", C_BadModule)) (n_BadModule : C_BadModule ≠ CS) (i_BadName : CI K mg CS ("BadName", C_BadName)) (n_BadName : C_BadName ≠ CS) (i_BadNames : CI K mg CS ("BadNames", C_BadNames)) (n_BadNames : C_BadNames ≠ CS) (i_BadNumber : CI K mg CS ("BadNumber", C_BadNumber)) (n_BadNumber : C_BadNumber ≠ CS) (i_BadOrder : CI K mg CS ("BadOrder", C_BadOrder)) (n_BadOrder : C_BadOrder ≠ CS) (i_BadOwn : CI K mg CS ("BadOwn", C_BadOwn)) (n_BadOwn : C_BadOwn ≠ CS) (i_BadPart : CI K mg CS ("BadPart", C_BadPart)) (n_BadPart : C_BadPart ≠ CS) (i_BadPath : CI K mg CS ("BadPath", C_BadPath)) (n_BadPath : C_BadPath ≠ CS) (i_BadPicks : CI K mg CS ("BadPicks", C_BadPicks)) (n_BadPicks : C_BadPicks ≠ CS) (i_BadPiece : CI K mg CS ("BadPiece", C_BadPiece)) (n_BadPiece : C_BadPiece ≠ CS) (i_BadProgram : CI K mg CS ("BadProgram", C_BadProgram)) (n_BadProgram : C_BadProgram ≠ CS) (i_BadReadings : CI K mg CS ("BadReadings", C_BadReadings)) (n_BadReadings : C_BadReadings ≠ CS) (i_BadRest : CI K mg CS ("BadRest", C_BadRest)) (n_BadRest : C_BadRest ≠ CS) :
    FnOk P w K mg base CX0 1 f fd ["caught"] (spKinds K mg CS [("BadCases", C_BadCases), ("BadCircuit", C_BadCircuit), ("BadCode", C_BadCode), ("BadDiagram", C_BadDiagram), ("BadElement", C_BadElement), ("BadFrame", C_BadFrame), ("BadGiven", C_BadGiven), ("BadHeld", C_BadHeld), ("BadLine", C_BadLine), ("BadLot", C_BadLot), ("BadMachine", C_BadMachine), ("BadModule", C_BadModule), ("BadName", C_BadName), ("BadNames", C_BadNames), ("BadNumber", C_BadNumber), ("BadOrder", C_BadOrder), ("BadOwn", C_BadOwn), ("BadPart", C_BadPart), ("BadPath", C_BadPath), ("BadPicks", C_BadPicks), ("BadPiece", C_BadPiece), ("BadProgram", C_BadProgram), ("BadReadings", C_BadReadings), ("BadRest", C_BadRest)]) := by
  refine F.ok scKdA (fun vs H Q E h => ?_) (fun cdv A outer s H vs Q E hr h => ?_)
  · obtain ⟨x, c, fs, rfl, _⟩ := h
    rfl
  · obtain ⟨x, c, fs, rfl, hx, hc, q⟩ := h
    have B : KdX (cxOf CX0 P w K mg base nKd "_law_kinds_a" (defScope sKdA) f cdv A outer s H E).nox := ⟨rfl, rfl, .inl rfl, .inl rfl, by kernel_rfl, mi⟩
    refine ⟨_, (pss_cons (ps_set (i := 1) scKdA.nd rfl (Or.inl rfl) (pe_lst pa_nil)) 
      (pss_cons (ps_kd B (by kernel_rfl) i_BadCases.m (by kernel_rfl) rfl) 
      (pss_cons (ps_kd B (by kernel_rfl) i_BadCircuit.m (by kernel_rfl) rfl) 
      (pss_cons (ps_kd B (by kernel_rfl) i_BadCode.m (by kernel_rfl) rfl) 
      (pss_cons (ps_kd B (by kernel_rfl) i_BadDiagram.m (by kernel_rfl) rfl) 
      (pss_cons (ps_kd B (by kernel_rfl) i_BadElement.m (by kernel_rfl) rfl) 
      (pss_cons (ps_kd B (by kernel_rfl) i_BadFrame.m (by kernel_rfl) rfl) 
      (pss_cons (ps_kd B (by kernel_rfl) i_BadGiven.m (by kernel_rfl) rfl) 
      (pss_cons (ps_kd B (by kernel_rfl) i_BadHeld.m (by kernel_rfl) rfl) 
      (pss_cons (ps_kd B (by kernel_rfl) i_BadLine.m (by kernel_rfl) rfl) 
      (pss_cons (ps_kd B (by kernel_rfl) i_BadLot.m (by kernel_rfl) rfl) 
      (pss_cons (ps_kd B (by kernel_rfl) i_BadMachine.m (by kernel_rfl) rfl) 
      (pss_cons (ps_kd B (by kernel_rfl) i_BadModule.m (by kernel_rfl) rfl) 
      (pss_cons (ps_kd B (by kernel_rfl) i_BadName.m (by kernel_rfl) rfl) 
      (pss_cons (ps_kd B (by kernel_rfl) i_BadNames.m (by kernel_rfl) rfl) 
      (pss_cons (ps_kd B (by kernel_rfl) i_BadNumber.m (by kernel_rfl) rfl) 
      (pss_cons (ps_kd B (by kernel_rfl) i_BadOrder.m (by kernel_rfl) rfl) 
      (pss_cons (ps_kd B (by kernel_rfl) i_BadOwn.m (by kernel_rfl) rfl) 
      (pss_cons (ps_kd B (by kernel_rfl) i_BadPart.m (by kernel_rfl) rfl) 
      (pss_cons (ps_kd B (by kernel_rfl) i_BadPath.m (by kernel_rfl) rfl) 
      (pss_cons (ps_kd B (by kernel_rfl) i_BadPicks.m (by kernel_rfl) rfl) 
      (pss_cons (ps_kd B (by kernel_rfl) i_BadPiece.m (by kernel_rfl) rfl) 
      (pss_cons (ps_kd B (by kernel_rfl) i_BadProgram.m (by kernel_rfl) rfl) 
      (pss_cons (ps_kd B (by kernel_rfl) i_BadReadings.m (by kernel_rfl) rfl) 
      (pss_cons (ps_kd B (by kernel_rfl) i_BadRest.m (by kernel_rfl) rfl) (pss_one (ps_ret (pe_lc (own := [("each", 2)]) (g := gName 2) rfl scKdA.nd (pi_list (pv 1)) (blkOk_by (N := nKd) (sc := defScope sKdA) (by decide +kernel)) (fun _ _ _ _ _ => (pg_name (i := 2) scKdA.nd rfl (Or.inl rfl))) (fun _ _ _ _ _ => pts_one (pt_cmpR op_ne (pv 2) pe_str (nomark _))) (fun _ _ _ _ _ => (pv 2)))))))))))))))))))))))))))))), ?_⟩
    refine ⟨Nat.zero_le _, fun L hL => ?_⟩
    have k0 : KG H (L2.upd H L (.lst [])) L c.2 [] := ⟨upd_same, fun b hb => upd_ne hb⟩
    refine kd_step (d := ("BadCases", C_BadCases)) k0 hL hx hc i_BadCases n_BadCases (Nat.le_of_ble_eq_true rfl) fun H1 k1 => ?_
    refine kd_step (d := ("BadCircuit", C_BadCircuit)) k1 hL hx hc i_BadCircuit n_BadCircuit (Nat.le_of_ble_eq_true rfl) fun H2 k2 => ?_
    refine kd_step (d := ("BadCode", C_BadCode)) k2 hL hx hc i_BadCode n_BadCode (Nat.le_of_ble_eq_true rfl) fun H3 k3 => ?_
    refine kd_step (d := ("BadDiagram", C_BadDiagram)) k3 hL hx hc i_BadDiagram n_BadDiagram (Nat.le_of_ble_eq_true rfl) fun H4 k4 => ?_
    refine kd_step (d := ("BadElement", C_BadElement)) k4 hL hx hc i_BadElement n_BadElement (Nat.le_of_ble_eq_true rfl) fun H5 k5 => ?_
    refine kd_step (d := ("BadFrame", C_BadFrame)) k5 hL hx hc i_BadFrame n_BadFrame (Nat.le_of_ble_eq_true rfl) fun H6 k6 => ?_
    refine kd_step (d := ("BadGiven", C_BadGiven)) k6 hL hx hc i_BadGiven n_BadGiven (Nat.le_of_ble_eq_true rfl) fun H7 k7 => ?_
    refine kd_step (d := ("BadHeld", C_BadHeld)) k7 hL hx hc i_BadHeld n_BadHeld (Nat.le_of_ble_eq_true rfl) fun H8 k8 => ?_
    refine kd_step (d := ("BadLine", C_BadLine)) k8 hL hx hc i_BadLine n_BadLine (Nat.le_of_ble_eq_true rfl) fun H9 k9 => ?_
    refine kd_step (d := ("BadLot", C_BadLot)) k9 hL hx hc i_BadLot n_BadLot (Nat.le_of_ble_eq_true rfl) fun H10 k10 => ?_
    refine kd_step (d := ("BadMachine", C_BadMachine)) k10 hL hx hc i_BadMachine n_BadMachine (Nat.le_of_ble_eq_true rfl) fun H11 k11 => ?_
    refine kd_step (d := ("BadModule", C_BadModule)) k11 hL hx hc i_BadModule n_BadModule (Nat.le_of_ble_eq_true rfl) fun H12 k12 => ?_
    refine kd_step (d := ("BadName", C_BadName)) k12 hL hx hc i_BadName n_BadName (Nat.le_of_ble_eq_true rfl) fun H13 k13 => ?_
    refine kd_step (d := ("BadNames", C_BadNames)) k13 hL hx hc i_BadNames n_BadNames (Nat.le_of_ble_eq_true rfl) fun H14 k14 => ?_
    refine kd_step (d := ("BadNumber", C_BadNumber)) k14 hL hx hc i_BadNumber n_BadNumber (Nat.le_of_ble_eq_true rfl) fun H15 k15 => ?_
    refine kd_step (d := ("BadOrder", C_BadOrder)) k15 hL hx hc i_BadOrder n_BadOrder (Nat.le_of_ble_eq_true rfl) fun H16 k16 => ?_
    refine kd_step (d := ("BadOwn", C_BadOwn)) k16 hL hx hc i_BadOwn n_BadOwn (Nat.le_of_ble_eq_true rfl) fun H17 k17 => ?_
    refine kd_step (d := ("BadPart", C_BadPart)) k17 hL hx hc i_BadPart n_BadPart (Nat.le_of_ble_eq_true rfl) fun H18 k18 => ?_
    refine kd_step (d := ("BadPath", C_BadPath)) k18 hL hx hc i_BadPath n_BadPath (Nat.le_of_ble_eq_true rfl) fun H19 k19 => ?_
    refine kd_step (d := ("BadPicks", C_BadPicks)) k19 hL hx hc i_BadPicks n_BadPicks (Nat.le_of_ble_eq_true rfl) fun H20 k20 => ?_
    refine kd_step (d := ("BadPiece", C_BadPiece)) k20 hL hx hc i_BadPiece n_BadPiece (Nat.le_of_ble_eq_true rfl) fun H21 k21 => ?_
    refine kd_step (d := ("BadProgram", C_BadProgram)) k21 hL hx hc i_BadProgram n_BadProgram (Nat.le_of_ble_eq_true rfl) fun H22 k22 => ?_
    refine kd_step (d := ("BadReadings", C_BadReadings)) k22 hL hx hc i_BadReadings n_BadReadings (Nat.le_of_ble_eq_true rfl) fun H23 k23 => ?_
    refine kd_step (d := ("BadRest", C_BadRest)) k23 hL hx hc i_BadRest n_BadRest (Nat.le_of_ble_eq_true rfl) fun H24 k24 => ?_
    exact kd_end (g := [("BadCases", C_BadCases), ("BadCircuit", C_BadCircuit), ("BadCode", C_BadCode), ("BadDiagram", C_BadDiagram), ("BadElement", C_BadElement), ("BadFrame", C_BadFrame), ("BadGiven", C_BadGiven), ("BadHeld", C_BadHeld), ("BadLine", C_BadLine), ("BadLot", C_BadLot), ("BadMachine", C_BadMachine), ("BadModule", C_BadModule), ("BadName", C_BadName), ("BadNames", C_BadNames), ("BadNumber", C_BadNumber), ("BadOrder", C_BadOrder), ("BadOwn", C_BadOwn), ("BadPart", C_BadPart), ("BadPath", C_BadPath), ("BadPicks", C_BadPicks), ("BadPiece", C_BadPiece), ("BadProgram", C_BadProgram), ("BadReadings", C_BadReadings), ("BadRest", C_BadRest)]) k24 rfl hL (by kernel_rfl) (Nat.le_of_ble_eq_true rfl) q
theorem ok_kb {f : Addr} {fd : FuncData} (F : Fun K "_law_kinds_b" "_law_kinds_b" sKdB f fd) (mi : mg "isinstance" = none) {C_BadRow C_BadRows C_BadRun C_BadSignal C_BadSignals C_BadStanding C_BadStart C_BadState C_BadStatement C_BadSteps C_BadSurroundings C_BadTable C_BadText C_BadWord C_Caught C_Lost C_Missing C_NotFitting C_NotHere C_NotPlain C_NotProgram C_NotSure C_NothingDone C_NothingUndone : Addr}
    (i_BadRow : CI K mg CS ("BadRow", C_BadRow)) (n_BadRow : C_BadRow ≠ CS) (i_BadRows : CI K mg CS ("BadRows", C_BadRows)) (n_BadRows : C_BadRows ≠ CS) (i_BadRun : CI K mg CS ("BadRun", C_BadRun)) (n_BadRun : C_BadRun ≠ CS) (i_BadSignal : CI K mg CS ("BadSignal", C_BadSignal)) (n_BadSignal : C_BadSignal ≠ CS) (i_BadSignals : CI K mg CS ("BadSignals", C_BadSignals)) (n_BadSignals : C_BadSignals ≠ CS) (i_BadStanding : CI K mg CS ("BadStanding", C_BadStanding)) (n_BadStanding : C_BadStanding ≠ CS) (i_BadStart : CI K mg CS ("BadStart", C_BadStart)) (n_BadStart : C_BadStart ≠ CS) (i_BadState : CI K mg CS ("BadState", C_BadState)) (n_BadState : C_BadState ≠ CS) (i_BadStatement : CI K mg CS ("BadStatement", C_BadStatement)) (n_BadStatement : C_BadStatement ≠ CS) (i_BadSteps : CI K mg CS ("BadSteps", C_BadSteps)) (n_BadSteps : C_BadSteps ≠ CS) (i_BadSurroundings : CI K mg CS ("BadSurroundings", C_BadSurroundings)) (n_BadSurroundings : C_BadSurroundings ≠ CS) (i_BadTable : CI K mg CS ("BadTable", C_BadTable)) (n_BadTable : C_BadTable ≠ CS) (i_BadText : CI K mg CS ("BadText", C_BadText)) (n_BadText : C_BadText ≠ CS) (i_BadWord : CI K mg CS ("BadWord", C_BadWord)) (n_BadWord : C_BadWord ≠ CS) (i_Caught : CI K mg CS ("Caught", C_Caught)) (n_Caught : C_Caught ≠ CS) (i_Lost : CI K mg CS ("Lost", C_Lost)) (n_Lost : C_Lost ≠ CS) (i_Missing : CI K mg CS ("Missing", C_Missing)) (n_Missing : C_Missing ≠ CS) (i_NotFitting : CI K mg CS ("NotFitting", C_NotFitting)) (n_NotFitting : C_NotFitting ≠ CS) (i_NotHere : CI K mg CS ("NotHere", C_NotHere)) (n_NotHere : C_NotHere ≠ CS) (i_NotPlain : CI K mg CS ("NotPlain", C_NotPlain)) (n_NotPlain : C_NotPlain ≠ CS) (i_NotProgram : CI K mg CS ("NotProgram", C_NotProgram)) (n_NotProgram : C_NotProgram ≠ CS) (i_NotSure : CI K mg CS ("NotSure", C_NotSure)) (n_NotSure : C_NotSure ≠ CS) (i_NothingDone : CI K mg CS ("NothingDone", C_NothingDone)) (n_NothingDone : C_NothingDone ≠ CS) (i_NothingUndone : CI K mg CS ("NothingUndone", C_NothingUndone)) (n_NothingUndone : C_NothingUndone ≠ CS) :
    FnOk P w K mg base CX0 1 f fd ["caught"] (spKinds K mg CS [("BadRow", C_BadRow), ("BadRows", C_BadRows), ("BadRun", C_BadRun), ("BadSignal", C_BadSignal), ("BadSignals", C_BadSignals), ("BadStanding", C_BadStanding), ("BadStart", C_BadStart), ("BadState", C_BadState), ("BadStatement", C_BadStatement), ("BadSteps", C_BadSteps), ("BadSurroundings", C_BadSurroundings), ("BadTable", C_BadTable), ("BadText", C_BadText), ("BadWord", C_BadWord), ("Caught", C_Caught), ("Lost", C_Lost), ("Missing", C_Missing), ("NotFitting", C_NotFitting), ("NotHere", C_NotHere), ("NotPlain", C_NotPlain), ("NotProgram", C_NotProgram), ("NotSure", C_NotSure), ("NothingDone", C_NothingDone), ("NothingUndone", C_NothingUndone)]) := by
  refine F.ok scKdB (fun vs H Q E h => ?_) (fun cdv A outer s H vs Q E hr h => ?_)
  · obtain ⟨x, c, fs, rfl, _⟩ := h
    rfl
  · obtain ⟨x, c, fs, rfl, hx, hc, q⟩ := h
    have B : KdX (cxOf CX0 P w K mg base nKd "_law_kinds_b" (defScope sKdB) f cdv A outer s H E).nox := ⟨rfl, rfl, .inl rfl, .inl rfl, by kernel_rfl, mi⟩
    refine ⟨_, (pss_cons (ps_set (i := 1) scKdB.nd rfl (Or.inl rfl) (pe_lst pa_nil)) 
      (pss_cons (ps_kd B (by kernel_rfl) i_BadRow.m (by kernel_rfl) rfl) 
      (pss_cons (ps_kd B (by kernel_rfl) i_BadRows.m (by kernel_rfl) rfl) 
      (pss_cons (ps_kd B (by kernel_rfl) i_BadRun.m (by kernel_rfl) rfl) 
      (pss_cons (ps_kd B (by kernel_rfl) i_BadSignal.m (by kernel_rfl) rfl) 
      (pss_cons (ps_kd B (by kernel_rfl) i_BadSignals.m (by kernel_rfl) rfl) 
      (pss_cons (ps_kd B (by kernel_rfl) i_BadStanding.m (by kernel_rfl) rfl) 
      (pss_cons (ps_kd B (by kernel_rfl) i_BadStart.m (by kernel_rfl) rfl) 
      (pss_cons (ps_kd B (by kernel_rfl) i_BadState.m (by kernel_rfl) rfl) 
      (pss_cons (ps_kd B (by kernel_rfl) i_BadStatement.m (by kernel_rfl) rfl) 
      (pss_cons (ps_kd B (by kernel_rfl) i_BadSteps.m (by kernel_rfl) rfl) 
      (pss_cons (ps_kd B (by kernel_rfl) i_BadSurroundings.m (by kernel_rfl) rfl) 
      (pss_cons (ps_kd B (by kernel_rfl) i_BadTable.m (by kernel_rfl) rfl) 
      (pss_cons (ps_kd B (by kernel_rfl) i_BadText.m (by kernel_rfl) rfl) 
      (pss_cons (ps_kd B (by kernel_rfl) i_BadWord.m (by kernel_rfl) rfl) 
      (pss_cons (ps_kd B (by kernel_rfl) i_Caught.m (by kernel_rfl) rfl) 
      (pss_cons (ps_kd B (by kernel_rfl) i_Lost.m (by kernel_rfl) rfl) 
      (pss_cons (ps_kd B (by kernel_rfl) i_Missing.m (by kernel_rfl) rfl) 
      (pss_cons (ps_kd B (by kernel_rfl) i_NotFitting.m (by kernel_rfl) rfl) 
      (pss_cons (ps_kd B (by kernel_rfl) i_NotHere.m (by kernel_rfl) rfl) 
      (pss_cons (ps_kd B (by kernel_rfl) i_NotPlain.m (by kernel_rfl) rfl) 
      (pss_cons (ps_kd B (by kernel_rfl) i_NotProgram.m (by kernel_rfl) rfl) 
      (pss_cons (ps_kd B (by kernel_rfl) i_NotSure.m (by kernel_rfl) rfl) 
      (pss_cons (ps_kd B (by kernel_rfl) i_NothingDone.m (by kernel_rfl) rfl) 
      (pss_cons (ps_kd B (by kernel_rfl) i_NothingUndone.m (by kernel_rfl) rfl) (pss_one (ps_ret (pe_lc (own := [("each", 2)]) (g := gName 2) rfl scKdB.nd (pi_list (pv 1)) (blkOk_by (N := nKd) (sc := defScope sKdB) (by decide +kernel)) (fun _ _ _ _ _ => (pg_name (i := 2) scKdB.nd rfl (Or.inl rfl))) (fun _ _ _ _ _ => pts_one (pt_cmpR op_ne (pv 2) pe_str (nomark _))) (fun _ _ _ _ _ => (pv 2)))))))))))))))))))))))))))))), ?_⟩
    refine ⟨Nat.zero_le _, fun L hL => ?_⟩
    have k0 : KG H (L2.upd H L (.lst [])) L c.2 [] := ⟨upd_same, fun b hb => upd_ne hb⟩
    refine kd_step (d := ("BadRow", C_BadRow)) k0 hL hx hc i_BadRow n_BadRow (Nat.le_of_ble_eq_true rfl) fun H1 k1 => ?_
    refine kd_step (d := ("BadRows", C_BadRows)) k1 hL hx hc i_BadRows n_BadRows (Nat.le_of_ble_eq_true rfl) fun H2 k2 => ?_
    refine kd_step (d := ("BadRun", C_BadRun)) k2 hL hx hc i_BadRun n_BadRun (Nat.le_of_ble_eq_true rfl) fun H3 k3 => ?_
    refine kd_step (d := ("BadSignal", C_BadSignal)) k3 hL hx hc i_BadSignal n_BadSignal (Nat.le_of_ble_eq_true rfl) fun H4 k4 => ?_
    refine kd_step (d := ("BadSignals", C_BadSignals)) k4 hL hx hc i_BadSignals n_BadSignals (Nat.le_of_ble_eq_true rfl) fun H5 k5 => ?_
    refine kd_step (d := ("BadStanding", C_BadStanding)) k5 hL hx hc i_BadStanding n_BadStanding (Nat.le_of_ble_eq_true rfl) fun H6 k6 => ?_
    refine kd_step (d := ("BadStart", C_BadStart)) k6 hL hx hc i_BadStart n_BadStart (Nat.le_of_ble_eq_true rfl) fun H7 k7 => ?_
    refine kd_step (d := ("BadState", C_BadState)) k7 hL hx hc i_BadState n_BadState (Nat.le_of_ble_eq_true rfl) fun H8 k8 => ?_
    refine kd_step (d := ("BadStatement", C_BadStatement)) k8 hL hx hc i_BadStatement n_BadStatement (Nat.le_of_ble_eq_true rfl) fun H9 k9 => ?_
    refine kd_step (d := ("BadSteps", C_BadSteps)) k9 hL hx hc i_BadSteps n_BadSteps (Nat.le_of_ble_eq_true rfl) fun H10 k10 => ?_
    refine kd_step (d := ("BadSurroundings", C_BadSurroundings)) k10 hL hx hc i_BadSurroundings n_BadSurroundings (Nat.le_of_ble_eq_true rfl) fun H11 k11 => ?_
    refine kd_step (d := ("BadTable", C_BadTable)) k11 hL hx hc i_BadTable n_BadTable (Nat.le_of_ble_eq_true rfl) fun H12 k12 => ?_
    refine kd_step (d := ("BadText", C_BadText)) k12 hL hx hc i_BadText n_BadText (Nat.le_of_ble_eq_true rfl) fun H13 k13 => ?_
    refine kd_step (d := ("BadWord", C_BadWord)) k13 hL hx hc i_BadWord n_BadWord (Nat.le_of_ble_eq_true rfl) fun H14 k14 => ?_
    refine kd_step (d := ("Caught", C_Caught)) k14 hL hx hc i_Caught n_Caught (Nat.le_of_ble_eq_true rfl) fun H15 k15 => ?_
    refine kd_step (d := ("Lost", C_Lost)) k15 hL hx hc i_Lost n_Lost (Nat.le_of_ble_eq_true rfl) fun H16 k16 => ?_
    refine kd_step (d := ("Missing", C_Missing)) k16 hL hx hc i_Missing n_Missing (Nat.le_of_ble_eq_true rfl) fun H17 k17 => ?_
    refine kd_step (d := ("NotFitting", C_NotFitting)) k17 hL hx hc i_NotFitting n_NotFitting (Nat.le_of_ble_eq_true rfl) fun H18 k18 => ?_
    refine kd_step (d := ("NotHere", C_NotHere)) k18 hL hx hc i_NotHere n_NotHere (Nat.le_of_ble_eq_true rfl) fun H19 k19 => ?_
    refine kd_step (d := ("NotPlain", C_NotPlain)) k19 hL hx hc i_NotPlain n_NotPlain (Nat.le_of_ble_eq_true rfl) fun H20 k20 => ?_
    refine kd_step (d := ("NotProgram", C_NotProgram)) k20 hL hx hc i_NotProgram n_NotProgram (Nat.le_of_ble_eq_true rfl) fun H21 k21 => ?_
    refine kd_step (d := ("NotSure", C_NotSure)) k21 hL hx hc i_NotSure n_NotSure (Nat.le_of_ble_eq_true rfl) fun H22 k22 => ?_
    refine kd_step (d := ("NothingDone", C_NothingDone)) k22 hL hx hc i_NothingDone n_NothingDone (Nat.le_of_ble_eq_true rfl) fun H23 k23 => ?_
    refine kd_step (d := ("NothingUndone", C_NothingUndone)) k23 hL hx hc i_NothingUndone n_NothingUndone (Nat.le_of_ble_eq_true rfl) fun H24 k24 => ?_
    exact kd_end (g := [("BadRow", C_BadRow), ("BadRows", C_BadRows), ("BadRun", C_BadRun), ("BadSignal", C_BadSignal), ("BadSignals", C_BadSignals), ("BadStanding", C_BadStanding), ("BadStart", C_BadStart), ("BadState", C_BadState), ("BadStatement", C_BadStatement), ("BadSteps", C_BadSteps), ("BadSurroundings", C_BadSurroundings), ("BadTable", C_BadTable), ("BadText", C_BadText), ("BadWord", C_BadWord), ("Caught", C_Caught), ("Lost", C_Lost), ("Missing", C_Missing), ("NotFitting", C_NotFitting), ("NotHere", C_NotHere), ("NotPlain", C_NotPlain), ("NotProgram", C_NotProgram), ("NotSure", C_NotSure), ("NothingDone", C_NothingDone), ("NothingUndone", C_NothingUndone)]) k24 rfl hL (by kernel_rfl) (Nat.le_of_ble_eq_true rfl) q
theorem ok_kc {f : Addr} {fd : FuncData} (F : Fun K "_law_kinds_c" "_law_kinds_c" sKdC f fd) (mi : mg "isinstance" = none) {C_Ring C_TooMany C_Unlike C_Unsure C_Wide : Addr}
    (i_Ring : CI K mg CS ("Ring", C_Ring)) (n_Ring : C_Ring ≠ CS) (i_TooMany : CI K mg CS ("TooMany", C_TooMany)) (n_TooMany : C_TooMany ≠ CS) (i_Unlike : CI K mg CS ("Unlike", C_Unlike)) (n_Unlike : C_Unlike ≠ CS) (i_Unsure : CI K mg CS ("Unsure", C_Unsure)) (n_Unsure : C_Unsure ≠ CS) (i_Wide : CI K mg CS ("Wide", C_Wide)) (n_Wide : C_Wide ≠ CS) :
    FnOk P w K mg base CX0 1 f fd ["caught"] (spKinds K mg CS [("Ring", C_Ring), ("TooMany", C_TooMany), ("Unlike", C_Unlike), ("Unsure", C_Unsure), ("Wide", C_Wide)]) := by
  refine F.ok scKdC (fun vs H Q E h => ?_) (fun cdv A outer s H vs Q E hr h => ?_)
  · obtain ⟨x, c, fs, rfl, _⟩ := h
    rfl
  · obtain ⟨x, c, fs, rfl, hx, hc, q⟩ := h
    have B : KdX (cxOf CX0 P w K mg base nKd "_law_kinds_c" (defScope sKdC) f cdv A outer s H E).nox := ⟨rfl, rfl, .inl rfl, .inl rfl, by kernel_rfl, mi⟩
    refine ⟨_, (pss_cons (ps_set (i := 1) scKdC.nd rfl (Or.inl rfl) (pe_lst pa_nil)) 
      (pss_cons (ps_kd B (by kernel_rfl) i_Ring.m (by kernel_rfl) rfl) 
      (pss_cons (ps_kd B (by kernel_rfl) i_TooMany.m (by kernel_rfl) rfl) 
      (pss_cons (ps_kd B (by kernel_rfl) i_Unlike.m (by kernel_rfl) rfl) 
      (pss_cons (ps_kd B (by kernel_rfl) i_Unsure.m (by kernel_rfl) rfl) 
      (pss_cons (ps_kd B (by kernel_rfl) i_Wide.m (by kernel_rfl) rfl) (pss_one (ps_ret (pe_lc (own := [("each", 2)]) (g := gName 2) rfl scKdC.nd (pi_list (pv 1)) (blkOk_by (N := nKd) (sc := defScope sKdC) (by decide +kernel)) (fun _ _ _ _ _ => (pg_name (i := 2) scKdC.nd rfl (Or.inl rfl))) (fun _ _ _ _ _ => pts_one (pt_cmpR op_ne (pv 2) pe_str (nomark _))) (fun _ _ _ _ _ => (pv 2))))))))))), ?_⟩
    refine ⟨Nat.zero_le _, fun L hL => ?_⟩
    have k0 : KG H (L2.upd H L (.lst [])) L c.2 [] := ⟨upd_same, fun b hb => upd_ne hb⟩
    refine kd_step (d := ("Ring", C_Ring)) k0 hL hx hc i_Ring n_Ring (Nat.le_of_ble_eq_true rfl) fun H1 k1 => ?_
    refine kd_step (d := ("TooMany", C_TooMany)) k1 hL hx hc i_TooMany n_TooMany (Nat.le_of_ble_eq_true rfl) fun H2 k2 => ?_
    refine kd_step (d := ("Unlike", C_Unlike)) k2 hL hx hc i_Unlike n_Unlike (Nat.le_of_ble_eq_true rfl) fun H3 k3 => ?_
    refine kd_step (d := ("Unsure", C_Unsure)) k3 hL hx hc i_Unsure n_Unsure (Nat.le_of_ble_eq_true rfl) fun H4 k4 => ?_
    refine kd_step (d := ("Wide", C_Wide)) k4 hL hx hc i_Wide n_Wide (Nat.le_of_ble_eq_true rfl) fun H5 k5 => ?_
    exact kd_end (g := [("Ring", C_Ring), ("TooMany", C_TooMany), ("Unlike", C_Unlike), ("Unsure", C_Unsure), ("Wide", C_Wide)]) k5 rfl hL (by kernel_rfl) (Nat.le_of_ble_eq_true rfl) q
end
end K02

set_option Elab.async false
set_option linter.all false
set_option maxRecDepth 100000
set_option maxHeartbeats 4000000
/-! One error of each class without a field. -/
namespace K02
open PySem PySem.Spec L2
open PyProof.Rows GenW GxR EZ TK
open LamX (ExtN)
abbrev sPlA : Stmt := top 63 -- _law_plain_a
abbrev sPlB : Stmt := top 64 -- _law_plain_b
abbrev nPl : List Str := ["text_here", "found"]
theorem scPlA : FnScope nPl ["text_here"] (defScope sPlA) := ⟨rfl, rfl, rfl, by decide +kernel, rfl, by decide +kernel, by decide +kernel⟩
theorem scPlB : FnScope nPl ["text_here"] (defScope sPlB) := ⟨rfl, rfl, rfl, by decide +kernel, rfl, by decide +kernel, by decide +kernel⟩
structure CP (K : PySem.W.Frag) (mg : Str → Option Value) (CS : Addr) (c : Cl) : Prop extends CI K mg CS c where
  exc : PySem.W.excIn K c.2 [.type "ValueError", .type "Exception", .type "BaseException", .type "object"] "ValueError.__new__" = true
  keep : PySem.W.keepIn K (.ref c.2) = true
/-- all but lists is kept -/
def NoLst (H H' : Hp) : Prop := ∀ b o, H b = some o → (∀ xs, o ≠ .lst xs) → H' b = some o
theorem NoLst.same {H H' : Hp} (s : Same H H') : NoLst H H' := fun b o e _ => s b o e
theorem NoLst.trans {H H1 H2 : Hp} (a : NoLst H H1) (b : NoLst H1 H2) : NoLst H H2 := fun c o e n => b c o (a c o e n) n
theorem NoLst.put {H : Hp} {L : Addr} {vs : List V} {o : HO} (e : H L = some (.lst vs)) : NoLst H (L2.upd H L o) := fun b u eb n => by
  have : b ≠ L := fun z => by
    rw [z, e] at eb
    exact n vs (Option.some.inj eb).symm
  rw [upd_ne this]
  exact eb
theorem tup_lst {ys : List V} (xs : List V) : HO.tup ys ≠ HO.lst xs := fun z => by cases z
/-- (name, the error) -/
def PlAt (H : Hp) (v : V) (c : Cl) : Prop := ∃ t e, v = .ref t ∧ H t = some (.tup [.str c.1, e]) ∧ ES.ExcAt H e c.2 none
theorem PlAt.keep {H H' : Hp} {v : V} {c : Cl} (h : PlAt H v c) (k : NoLst H H') : PlAt H' v c := by
  obtain ⟨t, e, h1, h2, h3⟩ := h
  exact ⟨t, e, h1, k _ _ h2 tup_lst, exc_keep h3 k⟩
/-- the list at L grows by what R says of the classes g, last ahead -/
structure GP (R : Hp → V → Cl → Prop) (H0 H : Hp) (L : Addr) (g : List Cl) : Prop where
  there : ∃ vs, H L = some (.lst vs) ∧ Paired (R H) vs g.reverse
  keep : Same H0 H
theorem paired_app {α β : Type} {R : α → β → Prop} {xs ys : List α} {as bs : List β} (p : Paired R xs as) (q : Paired R ys bs) : Paired R (xs ++ ys) (as ++ bs) := by
  induction p with
  | nil => exact q
  | cons r t ih => exact .cons r ih
theorem GP.step {R : Hp → V → Cl → Prop} (hR : ∀ H H' v c, NoLst H H' → R H v c → R H' v c) {H0 H H1 : Hp} {L : Addr} {g : List Cl} {d : Cl} {v : V} (k : GP R H0 H L g) (hL : H0 L = none) (s : Same H H1) (r : R H1 v d) :
    ∃ vs, H1 L = some (.lst vs) ∧ vs.length = g.length ∧ GP R H0 (L2.upd H1 L (.lst (vs ++ [v]))) L (d :: g) := by
  obtain ⟨⟨vs, e, p⟩, kk⟩ := k
  have e1 := s _ _ e
  have n2 : NoLst H1 (L2.upd H1 L (.lst (vs ++ [v]))) := .put e1
  refine ⟨vs, e1, by rw [p.length, List.length_reverse], ⟨_, upd_same, ?_⟩, fun b o eb => ?_⟩
  · rw [List.reverse_cons]
    exact paired_app (pairedMono (fun x c h => hR _ _ _ _ ((NoLst.same s).trans n2) h) p) (.cons (hR _ _ _ _ n2 r) .nil)
  · rw [upd_ne (fun z => by rw [z, hL] at eb; cases eb)]
    exact s _ _ (kk _ _ eb)
/-- what every such def has -/
structure PlX (X : Cx) : Prop where
  n0 : X.N[0]? = some ("text_here" : Str)
  n1 : X.N[1]? = some ("found" : Str)
  v0 : Vis X.env.scope "text_here"
  v1 : Vis X.env.scope "found"
def tPl (K : PySem.W.Frag) (n : Str) (C : Addr) : TS := tDrop (tBM K "list" rAppend (tVar 1) (tCons (tTup (tCons (tC (.str n)) (tCons (fun σ H Q => tVar 0 σ H fun _ H1 => ∀ a, H1 a = none → Q (.ref a) (upd H1 a (ExO (.ref C) a))) tNil))) tNil))
theorem ps_pl {X : Cx} {n : Str} {C CS : Addr} {p1 p2 p3 p4 p5 p6 p7 p8 p9 : Pos} {j : Nat} {ec : Nat} (B : PlX X) (c : CP X.K X.mg CS (n, C)) (gn : X.env.kindOf n = some .globalImplicit) (hd : (n == ("__debug__" : Str)) = false) (hline : (p2.endLine == p8.line) = true) :
    PS X (.Expr (.Call (.Attribute (.Name "found" p1) "append" p2) [.Tuple [.Constant (.str n) j p3, .Call (.Name n p4) [.Name "text_here" p5] [] p6] ec p7] [] p8) p9) (tPl X.K n C) :=
  ps_expr (pe_bm PySem.F.plainAttrs_list PySem.F.slot_list_append PySem.F.type_list_append mt_append (pv 1 B.n1 B.v1) (pa_cons (pe_tup (pa_cons pe_str (pa_cons (pe_exc1 PySem.F.excBase_ValueError c.exc c.m c.keep gn (pv 0 B.n0 B.v0) (hdb := hd)) pa_nil))) pa_nil) (hline := hline))
theorem pl_step {K : PySem.W.Frag} {H0 H : Hp} {z : Str} {d : Cl} {L : Addr} {g : List Cl} {t : TS} {D : Ends} (hk : GP PlAt H0 H L g) (hL : H0 L = none) (hl : g.length < 100)
    (q : ∀ H', GP PlAt H0 H' L (d :: g) → t D [some (.str z), some (.ref L)] H') : tSeq (tPl K d.1 d.2) t D [some (.str z), some (.ref L)] H := by
  have hk' := hk
  obtain ⟨⟨vs, e, _⟩, _⟩ := hk'
  refine ⟨_, rfl, .inl ⟨rfl, vs, .inl (.inl e)⟩, ?_⟩
  refine ⟨_, rfl, fun a na => ⟨(by show 2 ≤ sizeLine; decide), fun p np => ?_⟩⟩
  have s1 := same_new (o := ExO (.ref d.2) a) na
  have s2 := same_new (o := .tup [.str d.1, .ref a]) np
  obtain ⟨vs, e1, l1, k1⟩ := hk.step (d := d) (v := .ref p) (fun H H' v c k r => r.keep k) hL (s1.trans s2) ⟨p, .ref a, rfl, upd_same, a, rfl, s2 _ _ upd_same⟩
  exact ⟨L, vs, _, rfl, rfl, e1, (by rw [l1, sizeLine_eq]; omega), q _ k1⟩
def spPlain (g : List Cl) : Sp := fun vs H Q _ => ∃ z : Str, vs = [.str z] ∧ ∀ (r : Addr) (H' : Hp) (ws : List V), Same H H' → H r = none → H' r = some (.lst ws) → Paired (PlAt H') ws g → Q (.ref r) H'
section
variable {P : Program} {w : World} {K : PySem.W.Frag} {mg : Str → Option Value} {base : Heap} {CS : Addr}
theorem ok_pla {f : Addr} {fd : FuncData} (F : Fun K "_law_plain_a" "_law_plain_a" sPlA f fd) {C_BadCases C_BadCircuit C_BadCode C_BadDiagram C_BadElement C_BadFrame C_BadGiven C_BadHeld C_BadLine C_BadLot C_BadMachine C_BadModule C_BadName C_BadNames C_BadNumber C_BadOrder C_BadOwn C_BadPart C_BadPath C_BadPicks C_BadPiece C_BadProgram C_BadReadings C_BadRest : Addr}
    (i_BadCases : CP K mg CS ("BadCases", C_BadCases)) (i_BadCircuit : CP K mg CS ("BadCircuit", C_BadCircuit)) (i_BadCode : CP K mg CS ("BadCode", C_BadCode)) (i_BadDiagram : CP K mg CS ("BadDiagram", C_BadDiagram)) (i_BadElement : CP K mg CS ("BadElement", C_BadElement)) (i_BadFrame : CP K mg CS ("BadFrame", C_BadFrame)) (i_BadGiven : CP K mg CS ("BadGiven", C_BadGiven)) (i_BadHeld : CP K mg CS ("BadHeld", C_BadHeld)) (i_BadLine : CP K mg CS ("BadLine", C_BadLine)) (i_BadLot : CP K mg CS ("BadLot", C_BadLot)) (i_BadMachine : CP K mg CS ("BadMachine", C_BadMachine)) (i_BadModule : CP K mg CS ("BadModule", C_BadModule)) (i_BadName : CP K mg CS ("BadName", C_BadName)) (i_BadNames : CP K mg CS ("BadNames", C_BadNames)) (i_BadNumber : CP K mg CS ("BadNumber", C_BadNumber)) (i_BadOrder : CP K mg CS ("BadOrder", C_BadOrder)) (i_BadOwn : CP K mg CS ("BadOwn", C_BadOwn)) (i_BadPart : CP K mg CS ("BadPart", C_BadPart)) (i_BadPath : CP K mg CS ("BadPath", C_BadPath)) (i_BadPicks : CP K mg CS ("BadPicks", C_BadPicks)) (i_BadPiece : CP K mg CS ("BadPiece", C_BadPiece)) (i_BadProgram : CP K mg CS ("BadProgram", C_BadProgram)) (i_BadReadings : CP K mg CS ("BadReadings", C_BadReadings)) (i_BadRest : CP K mg CS ("BadRest", C_BadRest)) :
    FnOk P w K mg base CX0 1 f fd ["text_here"] (spPlain [("BadCases", C_BadCases), ("BadCircuit", C_BadCircuit), ("BadCode", C_BadCode), ("BadDiagram", C_BadDiagram), ("BadElement", C_BadElement), ("BadFrame", C_BadFrame), ("BadGiven", C_BadGiven), ("BadHeld", C_BadHeld), ("BadLine", C_BadLine), ("BadLot", C_BadLot), ("BadMachine", C_BadMachine), ("BadModule", C_BadModule), ("BadName", C_BadName), ("BadNames", C_BadNames), ("BadNumber", C_BadNumber), ("BadOrder", C_BadOrder), ("BadOwn", C_BadOwn), ("BadPart", C_BadPart), ("BadPath", C_BadPath), ("BadPicks", C_BadPicks), ("BadPiece", C_BadPiece), ("BadProgram", C_BadProgram), ("BadReadings", C_BadReadings), ("BadRest", C_BadRest)]) := by
  refine F.ok scPlA (fun vs H Q E h => ?_) (fun cdv A outer s H vs Q E hr h => ?_)
  · obtain ⟨z, rfl, _⟩ := h
    rfl
  · obtain ⟨z, rfl, q⟩ := h
    have B : PlX (cxOf CX0 P w K mg base nPl "_law_plain_a" (defScope sPlA) f cdv A outer s H E).nox := ⟨rfl, rfl, .inl rfl, .inl rfl⟩
    refine ⟨_, (pss_cons (ps_set (i := 1) scPlA.nd rfl (Or.inl rfl) (pe_lst pa_nil)) 
      (pss_cons (ps_pl B i_BadCases (by kernel_rfl) (by kernel_rfl) rfl) 
      (pss_cons (ps_pl B i_BadCircuit (by kernel_rfl) (by kernel_rfl) rfl) 
      (pss_cons (ps_pl B i_BadCode (by kernel_rfl) (by kernel_rfl) rfl) 
      (pss_cons (ps_pl B i_BadDiagram (by kernel_rfl) (by kernel_rfl) rfl) 
      (pss_cons (ps_pl B i_BadElement (by kernel_rfl) (by kernel_rfl) rfl) 
      (pss_cons (ps_pl B i_BadFrame (by kernel_rfl) (by kernel_rfl) rfl) 
      (pss_cons (ps_pl B i_BadGiven (by kernel_rfl) (by kernel_rfl) rfl) 
      (pss_cons (ps_pl B i_BadHeld (by kernel_rfl) (by kernel_rfl) rfl) 
      (pss_cons (ps_pl B i_BadLine (by kernel_rfl) (by kernel_rfl) rfl) 
      (pss_cons (ps_pl B i_BadLot (by kernel_rfl) (by kernel_rfl) rfl) 
      (pss_cons (ps_pl B i_BadMachine (by kernel_rfl) (by kernel_rfl) rfl) 
      (pss_cons (ps_pl B i_BadModule (by kernel_rfl) (by kernel_rfl) rfl) 
      (pss_cons (ps_pl B i_BadName (by kernel_rfl) (by kernel_rfl) rfl) 
      (pss_cons (ps_pl B i_BadNames (by kernel_rfl) (by kernel_rfl) rfl) 
      (pss_cons (ps_pl B i_BadNumber (by kernel_rfl) (by kernel_rfl) rfl) 
      (pss_cons (ps_pl B i_BadOrder (by kernel_rfl) (by kernel_rfl) rfl) 
      (pss_cons (ps_pl B i_BadOwn (by kernel_rfl) (by kernel_rfl) rfl) 
      (pss_cons (ps_pl B i_BadPart (by kernel_rfl) (by kernel_rfl) rfl) 
      (pss_cons (ps_pl B i_BadPath (by kernel_rfl) (by kernel_rfl) rfl) 
      (pss_cons (ps_pl B i_BadPicks (by kernel_rfl) (by kernel_rfl) rfl) 
      (pss_cons (ps_pl B i_BadPiece (by kernel_rfl) (by kernel_rfl) rfl) 
      (pss_cons (ps_pl B i_BadProgram (by kernel_rfl) (by kernel_rfl) rfl) 
      (pss_cons (ps_pl B i_BadReadings (by kernel_rfl) (by kernel_rfl) rfl) 
      (pss_cons (ps_pl B i_BadRest (by kernel_rfl) (by kernel_rfl) rfl) (pss_one (ps_ret (pv 1)))))))))))))))))))))))))))), ?_⟩
    refine ⟨Nat.zero_le _, fun L hL => ?_⟩
    have k0 : GP PlAt H (L2.upd H L (.lst [])) L [] := ⟨⟨[], upd_same, .nil⟩, same_new hL⟩
    refine pl_step (d := ("BadCases", C_BadCases)) k0 hL (Nat.le_of_ble_eq_true rfl) fun H1 k1 => ?_
    refine pl_step (d := ("BadCircuit", C_BadCircuit)) k1 hL (Nat.le_of_ble_eq_true rfl) fun H2 k2 => ?_
    refine pl_step (d := ("BadCode", C_BadCode)) k2 hL (Nat.le_of_ble_eq_true rfl) fun H3 k3 => ?_
    refine pl_step (d := ("BadDiagram", C_BadDiagram)) k3 hL (Nat.le_of_ble_eq_true rfl) fun H4 k4 => ?_
    refine pl_step (d := ("BadElement", C_BadElement)) k4 hL (Nat.le_of_ble_eq_true rfl) fun H5 k5 => ?_
    refine pl_step (d := ("BadFrame", C_BadFrame)) k5 hL (Nat.le_of_ble_eq_true rfl) fun H6 k6 => ?_
    refine pl_step (d := ("BadGiven", C_BadGiven)) k6 hL (Nat.le_of_ble_eq_true rfl) fun H7 k7 => ?_
    refine pl_step (d := ("BadHeld", C_BadHeld)) k7 hL (Nat.le_of_ble_eq_true rfl) fun H8 k8 => ?_
    refine pl_step (d := ("BadLine", C_BadLine)) k8 hL (Nat.le_of_ble_eq_true rfl) fun H9 k9 => ?_
    refine pl_step (d := ("BadLot", C_BadLot)) k9 hL (Nat.le_of_ble_eq_true rfl) fun H10 k10 => ?_
    refine pl_step (d := ("BadMachine", C_BadMachine)) k10 hL (Nat.le_of_ble_eq_true rfl) fun H11 k11 => ?_
    refine pl_step (d := ("BadModule", C_BadModule)) k11 hL (Nat.le_of_ble_eq_true rfl) fun H12 k12 => ?_
    refine pl_step (d := ("BadName", C_BadName)) k12 hL (Nat.le_of_ble_eq_true rfl) fun H13 k13 => ?_
    refine pl_step (d := ("BadNames", C_BadNames)) k13 hL (Nat.le_of_ble_eq_true rfl) fun H14 k14 => ?_
    refine pl_step (d := ("BadNumber", C_BadNumber)) k14 hL (Nat.le_of_ble_eq_true rfl) fun H15 k15 => ?_
    refine pl_step (d := ("BadOrder", C_BadOrder)) k15 hL (Nat.le_of_ble_eq_true rfl) fun H16 k16 => ?_
    refine pl_step (d := ("BadOwn", C_BadOwn)) k16 hL (Nat.le_of_ble_eq_true rfl) fun H17 k17 => ?_
    refine pl_step (d := ("BadPart", C_BadPart)) k17 hL (Nat.le_of_ble_eq_true rfl) fun H18 k18 => ?_
    refine pl_step (d := ("BadPath", C_BadPath)) k18 hL (Nat.le_of_ble_eq_true rfl) fun H19 k19 => ?_
    refine pl_step (d := ("BadPicks", C_BadPicks)) k19 hL (Nat.le_of_ble_eq_true rfl) fun H20 k20 => ?_
    refine pl_step (d := ("BadPiece", C_BadPiece)) k20 hL (Nat.le_of_ble_eq_true rfl) fun H21 k21 => ?_
    refine pl_step (d := ("BadProgram", C_BadProgram)) k21 hL (Nat.le_of_ble_eq_true rfl) fun H22 k22 => ?_
    refine pl_step (d := ("BadReadings", C_BadReadings)) k22 hL (Nat.le_of_ble_eq_true rfl) fun H23 k23 => ?_
    refine pl_step (d := ("BadRest", C_BadRest)) k23 hL (Nat.le_of_ble_eq_true rfl) fun H24 k24 => ?_
    obtain ⟨⟨ws, e, p⟩, kk⟩ := k24
    exact ⟨_, rfl, q L _ ws kk hL e p⟩
theorem ok_plb {f : Addr} {fd : FuncData} (F : Fun K "_law_plain_b" "_law_plain_b" sPlB f fd) {C_BadRow C_BadRows C_BadRun C_BadSignal C_BadSignals C_BadStanding C_BadStart C_BadState C_BadStatement C_BadSteps C_BadSurroundings C_BadTable C_BadWord C_Lost C_NotHere C_NotPlain C_NotProgram C_NothingDone C_NothingUndone C_Unlike : Addr}
    (i_BadRow : CP K mg CS ("BadRow", C_BadRow)) (i_BadRows : CP K mg CS ("BadRows", C_BadRows)) (i_BadRun : CP K mg CS ("BadRun", C_BadRun)) (i_BadSignal : CP K mg CS ("BadSignal", C_BadSignal)) (i_BadSignals : CP K mg CS ("BadSignals", C_BadSignals)) (i_BadStanding : CP K mg CS ("BadStanding", C_BadStanding)) (i_BadStart : CP K mg CS ("BadStart", C_BadStart)) (i_BadState : CP K mg CS ("BadState", C_BadState)) (i_BadStatement : CP K mg CS ("BadStatement", C_BadStatement)) (i_BadSteps : CP K mg CS ("BadSteps", C_BadSteps)) (i_BadSurroundings : CP K mg CS ("BadSurroundings", C_BadSurroundings)) (i_BadTable : CP K mg CS ("BadTable", C_BadTable)) (i_BadWord : CP K mg CS ("BadWord", C_BadWord)) (i_Lost : CP K mg CS ("Lost", C_Lost)) (i_NotHere : CP K mg CS ("NotHere", C_NotHere)) (i_NotPlain : CP K mg CS ("NotPlain", C_NotPlain)) (i_NotProgram : CP K mg CS ("NotProgram", C_NotProgram)) (i_NothingDone : CP K mg CS ("NothingDone", C_NothingDone)) (i_NothingUndone : CP K mg CS ("NothingUndone", C_NothingUndone)) (i_Unlike : CP K mg CS ("Unlike", C_Unlike)) :
    FnOk P w K mg base CX0 1 f fd ["text_here"] (spPlain [("BadRow", C_BadRow), ("BadRows", C_BadRows), ("BadRun", C_BadRun), ("BadSignal", C_BadSignal), ("BadSignals", C_BadSignals), ("BadStanding", C_BadStanding), ("BadStart", C_BadStart), ("BadState", C_BadState), ("BadStatement", C_BadStatement), ("BadSteps", C_BadSteps), ("BadSurroundings", C_BadSurroundings), ("BadTable", C_BadTable), ("BadWord", C_BadWord), ("Lost", C_Lost), ("NotHere", C_NotHere), ("NotPlain", C_NotPlain), ("NotProgram", C_NotProgram), ("NothingDone", C_NothingDone), ("NothingUndone", C_NothingUndone), ("Unlike", C_Unlike)]) := by
  refine F.ok scPlB (fun vs H Q E h => ?_) (fun cdv A outer s H vs Q E hr h => ?_)
  · obtain ⟨z, rfl, _⟩ := h
    rfl
  · obtain ⟨z, rfl, q⟩ := h
    have B : PlX (cxOf CX0 P w K mg base nPl "_law_plain_b" (defScope sPlB) f cdv A outer s H E).nox := ⟨rfl, rfl, .inl rfl, .inl rfl⟩
    refine ⟨_, (pss_cons (ps_set (i := 1) scPlB.nd rfl (Or.inl rfl) (pe_lst pa_nil)) 
      (pss_cons (ps_pl B i_BadRow (by kernel_rfl) (by kernel_rfl) rfl) 
      (pss_cons (ps_pl B i_BadRows (by kernel_rfl) (by kernel_rfl) rfl) 
      (pss_cons (ps_pl B i_BadRun (by kernel_rfl) (by kernel_rfl) rfl) 
      (pss_cons (ps_pl B i_BadSignal (by kernel_rfl) (by kernel_rfl) rfl) 
      (pss_cons (ps_pl B i_BadSignals (by kernel_rfl) (by kernel_rfl) rfl) 
      (pss_cons (ps_pl B i_BadStanding (by kernel_rfl) (by kernel_rfl) rfl) 
      (pss_cons (ps_pl B i_BadStart (by kernel_rfl) (by kernel_rfl) rfl) 
      (pss_cons (ps_pl B i_BadState (by kernel_rfl) (by kernel_rfl) rfl) 
      (pss_cons (ps_pl B i_BadStatement (by kernel_rfl) (by kernel_rfl) rfl) 
      (pss_cons (ps_pl B i_BadSteps (by kernel_rfl) (by kernel_rfl) rfl) 
      (pss_cons (ps_pl B i_BadSurroundings (by kernel_rfl) (by kernel_rfl) rfl) 
      (pss_cons (ps_pl B i_BadTable (by kernel_rfl) (by kernel_rfl) rfl) 
      (pss_cons (ps_pl B i_BadWord (by kernel_rfl) (by kernel_rfl) rfl) 
      (pss_cons (ps_pl B i_Lost (by kernel_rfl) (by kernel_rfl) rfl) 
      (pss_cons (ps_pl B i_NotHere (by kernel_rfl) (by kernel_rfl) rfl) 
      (pss_cons (ps_pl B i_NotPlain (by kernel_rfl) (by kernel_rfl) rfl) 
      (pss_cons (ps_pl B i_NotProgram (by kernel_rfl) (by kernel_rfl) rfl) 
      (pss_cons (ps_pl B i_NothingDone (by kernel_rfl) (by kernel_rfl) rfl) 
      (pss_cons (ps_pl B i_NothingUndone (by kernel_rfl) (by kernel_rfl) rfl) 
      (pss_cons (ps_pl B i_Unlike (by kernel_rfl) (by kernel_rfl) rfl) (pss_one (ps_ret (pv 1)))))))))))))))))))))))), ?_⟩
    refine ⟨Nat.zero_le _, fun L hL => ?_⟩
    have k0 : GP PlAt H (L2.upd H L (.lst [])) L [] := ⟨⟨[], upd_same, .nil⟩, same_new hL⟩
    refine pl_step (d := ("BadRow", C_BadRow)) k0 hL (Nat.le_of_ble_eq_true rfl) fun H1 k1 => ?_
    refine pl_step (d := ("BadRows", C_BadRows)) k1 hL (Nat.le_of_ble_eq_true rfl) fun H2 k2 => ?_
    refine pl_step (d := ("BadRun", C_BadRun)) k2 hL (Nat.le_of_ble_eq_true rfl) fun H3 k3 => ?_
    refine pl_step (d := ("BadSignal", C_BadSignal)) k3 hL (Nat.le_of_ble_eq_true rfl) fun H4 k4 => ?_
    refine pl_step (d := ("BadSignals", C_BadSignals)) k4 hL (Nat.le_of_ble_eq_true rfl) fun H5 k5 => ?_
    refine pl_step (d := ("BadStanding", C_BadStanding)) k5 hL (Nat.le_of_ble_eq_true rfl) fun H6 k6 => ?_
    refine pl_step (d := ("BadStart", C_BadStart)) k6 hL (Nat.le_of_ble_eq_true rfl) fun H7 k7 => ?_
    refine pl_step (d := ("BadState", C_BadState)) k7 hL (Nat.le_of_ble_eq_true rfl) fun H8 k8 => ?_
    refine pl_step (d := ("BadStatement", C_BadStatement)) k8 hL (Nat.le_of_ble_eq_true rfl) fun H9 k9 => ?_
    refine pl_step (d := ("BadSteps", C_BadSteps)) k9 hL (Nat.le_of_ble_eq_true rfl) fun H10 k10 => ?_
    refine pl_step (d := ("BadSurroundings", C_BadSurroundings)) k10 hL (Nat.le_of_ble_eq_true rfl) fun H11 k11 => ?_
    refine pl_step (d := ("BadTable", C_BadTable)) k11 hL (Nat.le_of_ble_eq_true rfl) fun H12 k12 => ?_
    refine pl_step (d := ("BadWord", C_BadWord)) k12 hL (Nat.le_of_ble_eq_true rfl) fun H13 k13 => ?_
    refine pl_step (d := ("Lost", C_Lost)) k13 hL (Nat.le_of_ble_eq_true rfl) fun H14 k14 => ?_
    refine pl_step (d := ("NotHere", C_NotHere)) k14 hL (Nat.le_of_ble_eq_true rfl) fun H15 k15 => ?_
    refine pl_step (d := ("NotPlain", C_NotPlain)) k15 hL (Nat.le_of_ble_eq_true rfl) fun H16 k16 => ?_
    refine pl_step (d := ("NotProgram", C_NotProgram)) k16 hL (Nat.le_of_ble_eq_true rfl) fun H17 k17 => ?_
    refine pl_step (d := ("NothingDone", C_NothingDone)) k17 hL (Nat.le_of_ble_eq_true rfl) fun H18 k18 => ?_
    refine pl_step (d := ("NothingUndone", C_NothingUndone)) k18 hL (Nat.le_of_ble_eq_true rfl) fun H19 k19 => ?_
    refine pl_step (d := ("Unlike", C_Unlike)) k19 hL (Nat.le_of_ble_eq_true rfl) fun H20 k20 => ?_
    obtain ⟨⟨ws, e, p⟩, kk⟩ := k20
    exact ⟨_, rfl, q L _ ws kk hL e p⟩
end
end K02

set_option Elab.async false
set_option linter.all false
set_option maxRecDepth 100000
set_option maxHeartbeats 4000000
/-! Errors with a field. -/
namespace K02
open PySem PySem.Spec L2
open PyProof.Rows GenW GxR EZ TK
open LamX (ExtN)
abbrev sHeld : Stmt := top 65 -- _law_held
abbrev nHd : List Str := ["item", "found", "caught"]
theorem scHeld : FnScope nHd ["item"] (defScope sHeld) := ⟨rfl, rfl, rfl, by decide +kernel, rfl, by decide +kernel, by decide +kernel⟩
def kwI {α : Type} : List α → List α → List α
  | [a], [b] => [a, b]
  | _, _ => []
/-- a class whose __init__ keeps its one argument -/
structure CF (P : Program) (w : World) (K : PySem.W.Frag) (mg : Str → Option Value) (base : Heap) (CS : Addr) (c : Cl) (fld : Str) : Prop extends CI K mg CS c where
  T : OexC K c.2
  xf : XfC K c.2
  hno : PySem.W.findIn K (.ref c.2) fld = some none
  init : ∃ fI fd, PySem.W.findIn K (.ref c.2) "__init__" = some (some (.ref fI)) ∧ PySem.W.typeIn K (.ref fI) = some (.type "function") ∧ FnOk P w K mg base CX0 1 fI fd ["self", fld] (ES.spInit K c.2 fld) ∧ Binds K fd ["self", fld] [] ∧ KBinds K fd ["self", fld] [fld] kwI kwI
/-- (name, the error, what it was made of) -/
def HeAt (item : V) (H : Hp) (v : V) (c : Cl) : Prop := ∃ t e, v = .ref t ∧ H t = some (.tup [.str c.1, e, item]) ∧ ∃ l, ES.ExcAt H e c.2 (some l)
theorem HeAt.keep {item : V} {H H' : Hp} {v : V} {c : Cl} (h : HeAt item H v c) (k : NoLst H H') : HeAt item H' v c := by
  obtain ⟨t, e, h1, h2, l, h3⟩ := h
  exact ⟨t, e, h1, k _ _ h2 tup_lst, l, exc_keep h3 k⟩
structure HeX (X : Cx) (CS : Addr) : Prop where
  nd : X.N.Nodup
  n0 : X.N[0]? = some ("item" : Str)
  n1 : X.N[1]? = some ("found" : Str)
  n2 : X.N[2]? = some ("caught" : Str)
  v0 : Vis X.env.scope "item"
  v1 : Vis X.env.scope "found"
  v2 : Vis X.env.scope "caught"
  l2 : X.env.scope.names.lookup ("caught" : Str) = some .local
  ps : Passes CX0 X (fun _ _ _ => False)
  rm : Room 2 X.A
abbrev tMk (K : PySem.W.Frag) (C : Addr) (fld : Str) : TS := tAsg (ES.tMkV C (ES.spInit K C fld) (tCons (tVar 0) tNil)) (gName 2)
abbrev tMkK (K : PySem.W.Frag) (C : Addr) (fld : Str) : TS := tAsg (ES.tMkVK C (ES.spInit K C fld) kwI (tCons (tVar 0) tNil)) (gName 2)
abbrev tHe (K : PySem.W.Frag) (n fld : Str) : TS := tDrop (tBM K "list" rAppend (tVar 1) (tCons (tTup (tCons (tC (.str n)) (tCons (tVar 2) (tCons (ES.tXV K fld (tVar 2)) tNil)))) tNil))
section
variable {X : Cx} {n fld : Str} {C CS : Addr} {p1 p2 p3 p4 p5 p6 p7 p8 p9 p10 p11 : Pos} {j ec : Nat}
theorem ps_mk (B : HeX X CS) (c : CF X.prog X.w X.K X.mg X.base CS (n, C) fld) (gn : X.env.kindOf n = some .globalImplicit) (hd : (n == ("__debug__" : Str)) = false) :
    PS X (.Assign [.Name "caught" p1] (.Call (.Name n p2) [.Name "item" p3] [] p4) p5) (tMk X.K C fld) := by
  obtain ⟨fI, fd, i1, i2, F, b1, b2⟩ := c.init
  exact ps_set (i := 2) B.nd B.n2 (.inl B.l2) (ES.pe_mkV c.T i1 i2 F B.rm b1 B.ps gn c.m (pa_cons (pv 0 B.n0 B.v0) pa_nil) (hdb := hd)) (hf := .inr B.l2)
theorem ps_mkK (B : HeX X CS) (c : CF X.prog X.w X.K X.mg X.base CS (n, C) fld) (gn : X.env.kindOf n = some .globalImplicit) (hd : (n == ("__debug__" : Str)) = false) :
    PS X (.Assign [.Name "caught" p1] (.Call (.Name n p2) [] [⟨some fld, .Name "item" p3, p6⟩] p4) p5) (tMkK X.K C fld) := by
  obtain ⟨fI, fd, i1, i2, F, b1, b2⟩ := c.init
  exact ps_set (i := 2) B.nd B.n2 (.inl B.l2) (ES.pe_mkVK c.T i1 i2 F B.rm b2 B.ps gn c.m (pk_cons (pv 0 B.n0 B.v0) pk_nil) (hdb := hd)) (hf := .inr B.l2)
theorem ps_he (B : HeX X CS) (hline : (p2.endLine == p8.line) = true) :
    PS X (.Expr (.Call (.Attribute (.Name "found" p1) "append" p2) [.Tuple [.Constant (.str n) j p3, .Name "caught" p4, .Attribute (.Name "caught" p5) fld p6] ec p7] [] p8) p9) (tHe X.K n fld) :=
  ps_expr (pe_bm PySem.F.plainAttrs_list PySem.F.slot_list_append PySem.F.type_list_append mt_append (pv 1 B.n1 B.v1) (pa_cons (pe_tup (pa_cons pe_str (pa_cons (pv 2 B.n2 B.v2) (pa_cons (ES.pe_xv (pv 2 B.n2 B.v2)) pa_nil)))) pa_nil) (hline := hline))
end
section
variable {P : Program} {w : World} {K : PySem.W.Frag} {mg : Str → Option Value} {base : Heap} {CS : Addr}
theorem he_core {H0 H : Hp} {item : V} {d : Cl} {fld : Str} {L : Addr} {g : List Cl} {t : TS} {D : Ends} {c0 : Option V} (hk : GP (HeAt item) H0 H L g) (hL : H0 L = none) (hl : g.length < 100) (hd : CF P w K mg base CS d fld)
    (q : ∀ a H', GP (HeAt item) H0 H' L (d :: g) → t D [some item, some (.ref L), some (.ref a)] H') {a : Addr} (na : H a = none) :
    ES.spInit K d.2 fld [.ref a, item] (upd H a (exo a d.2 none)) (fun v H2 => v = .non ∧ gName 2 (.ref a) [some item, some (.ref L), c0] H2 (fun σ H' => tSeq (tHe K d.1 fld) t D σ H')) (fun _ _ _ => False) := by
  refine ⟨a, item, rfl, upd_same, hd.T, hd.hno, fun dx nd ne => ⟨rfl, ?_⟩⟩
  have ndx : H dx = none := by rw [upd_ne ne] at nd; exact nd
  generalize e2 : upd (upd (upd H a (exo a d.2 none)) dx (exd dx [(fld, item)])) a (exo a d.2 (some dx)) = H2
  have sm : Same H H2 := fun b o e => by
    rw [← e2, upd_ne (ne_of_none e na), upd_ne (ne_of_none e ndx), upd_ne (ne_of_none e na)]
    exact e
  have ha : H2 a = some (exo a d.2 (some dx)) := by rw [← e2, upd_same]
  have hx : H2 dx = some (exd dx [(fld, item)]) := by rw [← e2, upd_ne ne, upd_same]
  have hE : ES.ExcAt H2 (.ref a) d.2 (some [(fld, item)]) := ⟨a, rfl, dx, ha, hx⟩
  have hk' := hk
  obtain ⟨⟨vs, e, _⟩, _⟩ := hk'
  show tSeq (tHe K d.1 fld) t D [some item, some (.ref L), some (.ref a)] H2
  refine ⟨_, rfl, .inl ⟨rfl, vs, .inl (.inl (sm _ _ e))⟩, ?_⟩
  refine ⟨_, rfl, _, rfl, d.2, _, item, hE, hd.xf, hd.hno, (by simp [List.lookup]), (by show 3 ≤ sizeLine; decide), fun p np => ?_⟩
  have s2 := same_new (o := .tup [.str d.1, .ref a, item]) np
  obtain ⟨vs, e1, l1, k1⟩ := hk.step (d := d) (v := .ref p) (fun H H' v c k r => r.keep k) hL (sm.trans s2) ⟨p, .ref a, rfl, upd_same, _, exc_keep hE (NoLst.same s2)⟩
  exact ⟨L, vs, _, rfl, rfl, e1, (by rw [l1, sizeLine_eq]; omega), q a _ k1⟩
theorem he_step {H0 H : Hp} {item : V} {d : Cl} {fld : Str} {L : Addr} {g : List Cl} {t : TS} {D : Ends} {c0 : Option V} (hd : CF P w K mg base CS d fld) (hk : GP (HeAt item) H0 H L g) (hL : H0 L = none) (hl : g.length < 100)
    (q : ∀ a H', GP (HeAt item) H0 H' L (d :: g) → t D [some item, some (.ref L), some (.ref a)] H') : tSeq (tMk K d.2 fld) (tSeq (tHe K d.1 fld) t) D [some item, some (.ref L), c0] H :=
  ⟨item, rfl, (by show 1 ≤ 1000; decide), fun a na => he_core hk hL hl hd q na⟩
theorem he_stepK {H0 H : Hp} {item : V} {d : Cl} {fld : Str} {L : Addr} {g : List Cl} {t : TS} {D : Ends} {c0 : Option V} (hd : CF P w K mg base CS d fld) (hk : GP (HeAt item) H0 H L g) (hL : H0 L = none) (hl : g.length < 100)
    (q : ∀ a H', GP (HeAt item) H0 H' L (d :: g) → t D [some item, some (.ref L), some (.ref a)] H') : tSeq (tMkK K d.2 fld) (tSeq (tHe K d.1 fld) t) D [some item, some (.ref L), c0] H :=
  ⟨item, rfl, fun a na => he_core hk hL hl hd q na⟩
def spHeld (g : List Cl) : Sp := fun vs H Q _ => ∃ item : V, vs = [item] ∧ ∀ (r : Addr) (H' : Hp) (ws : List V), Same H H' → H r = none → H' r = some (.lst ws) → Paired (HeAt item H') ws g → Q (.ref r) H'
theorem ok_held {f : Addr} {fd : FuncData} (F : Fun K "_law_held" "_law_held" sHeld f fd) {C_BadText C_Caught C_Missing C_NotFitting C_NotSure C_Ring C_TooMany C_Unsure C_Wide : Addr}
    (i_BadText : CF P w K mg base CS ("BadText", C_BadText) "index") (i_Caught : CF P w K mg base CS ("Caught", C_Caught) "signal") (i_Missing : CF P w K mg base CS ("Missing", C_Missing) "name") (i_NotFitting : CF P w K mg base CS ("NotFitting", C_NotFitting) "name") (i_NotSure : CF P w K mg base CS ("NotSure", C_NotSure) "row") (i_Ring : CF P w K mg base CS ("Ring", C_Ring) "name") (i_TooMany : CF P w K mg base CS ("TooMany", C_TooMany) "most") (i_Unsure : CF P w K mg base CS ("Unsure", C_Unsure) "index") (i_Wide : CF P w K mg base CS ("Wide", C_Wide) "most") :
    FnOk P w K mg base CX0 3 f fd ["item"] (spHeld [("BadText", C_BadText), ("BadText", C_BadText), ("Caught", C_Caught), ("Caught", C_Caught), ("Missing", C_Missing), ("Missing", C_Missing), ("NotFitting", C_NotFitting), ("NotFitting", C_NotFitting), ("NotSure", C_NotSure), ("NotSure", C_NotSure), ("Ring", C_Ring), ("Ring", C_Ring), ("TooMany", C_TooMany), ("TooMany", C_TooMany), ("Unsure", C_Unsure), ("Unsure", C_Unsure), ("Wide", C_Wide), ("Wide", C_Wide)]) := by
  refine F.ok scHeld (fun vs H Q E h => ?_) (fun cdv A outer s H vs Q E hr h => ?_)
  · obtain ⟨z, rfl, _⟩ := h
    rfl
  · obtain ⟨item, rfl, q⟩ := h
    have B : HeX (cxOf CX0 P w K mg base nHd "_law_held" (defScope sHeld) f cdv A outer s H E).nox CS := ⟨scHeld.nd, rfl, rfl, rfl, .inl rfl, .inl rfl, .inl rfl, rfl, pass0, hr⟩
    refine ⟨_, (pss_cons (ps_set (i := 1) scHeld.nd rfl (Or.inl rfl) (pe_lst pa_nil)) 
      (pss_cons (ps_mk B i_BadText (by kernel_rfl) (by kernel_rfl)) (pss_cons (ps_he B rfl) (pss_cons (ps_mkK B i_BadText (by kernel_rfl) (by kernel_rfl)) (pss_cons (ps_he B rfl) 
      (pss_cons (ps_mk B i_Caught (by kernel_rfl) (by kernel_rfl)) (pss_cons (ps_he B rfl) (pss_cons (ps_mkK B i_Caught (by kernel_rfl) (by kernel_rfl)) (pss_cons (ps_he B rfl) 
      (pss_cons (ps_mk B i_Missing (by kernel_rfl) (by kernel_rfl)) (pss_cons (ps_he B rfl) (pss_cons (ps_mkK B i_Missing (by kernel_rfl) (by kernel_rfl)) (pss_cons (ps_he B rfl) 
      (pss_cons (ps_mk B i_NotFitting (by kernel_rfl) (by kernel_rfl)) (pss_cons (ps_he B rfl) (pss_cons (ps_mkK B i_NotFitting (by kernel_rfl) (by kernel_rfl)) (pss_cons (ps_he B rfl) 
      (pss_cons (ps_mk B i_NotSure (by kernel_rfl) (by kernel_rfl)) (pss_cons (ps_he B rfl) (pss_cons (ps_mkK B i_NotSure (by kernel_rfl) (by kernel_rfl)) (pss_cons (ps_he B rfl) 
      (pss_cons (ps_mk B i_Ring (by kernel_rfl) (by kernel_rfl)) (pss_cons (ps_he B rfl) (pss_cons (ps_mkK B i_Ring (by kernel_rfl) (by kernel_rfl)) (pss_cons (ps_he B rfl) 
      (pss_cons (ps_mk B i_TooMany (by kernel_rfl) (by kernel_rfl)) (pss_cons (ps_he B rfl) (pss_cons (ps_mkK B i_TooMany (by kernel_rfl) (by kernel_rfl)) (pss_cons (ps_he B rfl) 
      (pss_cons (ps_mk B i_Unsure (by kernel_rfl) (by kernel_rfl)) (pss_cons (ps_he B rfl) (pss_cons (ps_mkK B i_Unsure (by kernel_rfl) (by kernel_rfl)) (pss_cons (ps_he B rfl) 
      (pss_cons (ps_mk B i_Wide (by kernel_rfl) (by kernel_rfl)) (pss_cons (ps_he B rfl) (pss_cons (ps_mkK B i_Wide (by kernel_rfl) (by kernel_rfl)) (pss_cons (ps_he B rfl) (pss_one (ps_ret (pv 1)))))))))))))))))))))))))))))))))))))))), ?_⟩
    refine ⟨Nat.zero_le _, fun L hL => ?_⟩
    have k0 : GP (HeAt item) H (L2.upd H L (.lst [])) L [] := ⟨⟨[], upd_same, .nil⟩, same_new hL⟩
    refine he_step (d := ("BadText", C_BadText)) i_BadText k0 hL (Nat.le_of_ble_eq_true rfl) fun a1 H1 k1 => ?_
    refine he_stepK (d := ("BadText", C_BadText)) i_BadText k1 hL (Nat.le_of_ble_eq_true rfl) fun a2 H2 k2 => ?_
    refine he_step (d := ("Caught", C_Caught)) i_Caught k2 hL (Nat.le_of_ble_eq_true rfl) fun a3 H3 k3 => ?_
    refine he_stepK (d := ("Caught", C_Caught)) i_Caught k3 hL (Nat.le_of_ble_eq_true rfl) fun a4 H4 k4 => ?_
    refine he_step (d := ("Missing", C_Missing)) i_Missing k4 hL (Nat.le_of_ble_eq_true rfl) fun a5 H5 k5 => ?_
    refine he_stepK (d := ("Missing", C_Missing)) i_Missing k5 hL (Nat.le_of_ble_eq_true rfl) fun a6 H6 k6 => ?_
    refine he_step (d := ("NotFitting", C_NotFitting)) i_NotFitting k6 hL (Nat.le_of_ble_eq_true rfl) fun a7 H7 k7 => ?_
    refine he_stepK (d := ("NotFitting", C_NotFitting)) i_NotFitting k7 hL (Nat.le_of_ble_eq_true rfl) fun a8 H8 k8 => ?_
    refine he_step (d := ("NotSure", C_NotSure)) i_NotSure k8 hL (Nat.le_of_ble_eq_true rfl) fun a9 H9 k9 => ?_
    refine he_stepK (d := ("NotSure", C_NotSure)) i_NotSure k9 hL (Nat.le_of_ble_eq_true rfl) fun a10 H10 k10 => ?_
    refine he_step (d := ("Ring", C_Ring)) i_Ring k10 hL (Nat.le_of_ble_eq_true rfl) fun a11 H11 k11 => ?_
    refine he_stepK (d := ("Ring", C_Ring)) i_Ring k11 hL (Nat.le_of_ble_eq_true rfl) fun a12 H12 k12 => ?_
    refine he_step (d := ("TooMany", C_TooMany)) i_TooMany k12 hL (Nat.le_of_ble_eq_true rfl) fun a13 H13 k13 => ?_
    refine he_stepK (d := ("TooMany", C_TooMany)) i_TooMany k13 hL (Nat.le_of_ble_eq_true rfl) fun a14 H14 k14 => ?_
    refine he_step (d := ("Unsure", C_Unsure)) i_Unsure k14 hL (Nat.le_of_ble_eq_true rfl) fun a15 H15 k15 => ?_
    refine he_stepK (d := ("Unsure", C_Unsure)) i_Unsure k15 hL (Nat.le_of_ble_eq_true rfl) fun a16 H16 k16 => ?_
    refine he_step (d := ("Wide", C_Wide)) i_Wide k16 hL (Nat.le_of_ble_eq_true rfl) fun a17 H17 k17 => ?_
    refine he_stepK (d := ("Wide", C_Wide)) i_Wide k17 hL (Nat.le_of_ble_eq_true rfl) fun a18 H18 k18 => ?_
    obtain ⟨⟨ws, e, p⟩, kk⟩ := k18
    exact ⟨_, rfl, q L _ ws kk hL e p⟩
end
end K02

set_option Elab.async false
set_option linter.all false
set_option maxRecDepth 100000
set_option maxHeartbeats 4000000
/-! An error is of its own class alone. -/
namespace K02
open PySem PySem.Spec L2
open PyProof.Rows GenW GxR EZ TK
open LamX (ExtN)
abbrev sAl : Stmt := top 66 -- _law_is_alone
theorem scAl : FnScope ["caught", "name_here", "kinds_here"] ["caught", "name_here"] (defScope sAl) := ⟨rfl, rfl, rfl, by decide +kernel, rfl, by decide +kernel, by decide +kernel⟩
theorem kinds_app {C : Addr} (a b : List Cl) : kindsOf C (a ++ b) = kindsOf C a ++ kindsOf C b := by
  unfold kindsOf
  rw [List.filter_append, List.map_append]
theorem kinds_none {C : Addr} {g : List Cl} (h : ∀ d ∈ g, C ≠ d.2) : kindsOf C g = [] := by
  unfold kindsOf
  rw [List.filter_eq_nil_iff.mpr (fun d hd => by simpa using h d hd)]
  rfl
theorem kinds_one {c : Cl} {g : List Cl} (hc : c ∈ g) (hn : (g.map (·.2)).Nodup) : kindsOf c.2 g = [.str c.1] := by
  induction g with
  | nil => cases hc
  | cons d g ih =>
    have e : d :: g = [d] ++ g := rfl
    rw [e, kinds_app]
    rw [List.map_cons, List.nodup_cons] at hn
    rcases List.mem_cons.mp hc with h | h
    · subst h
      rw [kinds_none (g := g) fun x hx z => hn.1 (by rw [z]; exact List.mem_map_of_mem hx)]
      unfold kindsOf
      rw [List.filter_cons, if_pos (decide_eq_true rfl)]
      rfl
    · rw [ih h hn.2, kinds_none (g := [d]) fun x hx z => ?_]
      · rfl
      · rw [List.mem_singleton] at hx
        subst hx
        exact hn.1 (by rw [← z]; exact List.mem_map_of_mem h)
def spAlone (K : PySem.W.Frag) (mg : Str → Option Value) (CS : Addr) (g : List Cl) : Sp := fun vs H Q _ => ∃ (x : V) (c : Cl) (fs : Option (List (Str × V))), vs = [x, .str c.1] ∧ c ∈ g ∧ ES.ExcAt H x c.2 fs ∧ CI K mg CS c ∧ ∀ H', Same H H' → Q (.bl true) H'
section
variable {P : Program} {w : World} {K : PySem.W.Frag} {mg : Str → Option Value} {base : Heap} {CS : Addr}
theorem ok_alone {f : Addr} {fd : FuncData} {ga gb gc : List Cl} (F : Fun K "_law_is_alone" "_law_is_alone" sAl f fd) (mi : mg "isinstance" = none) (mVE : mg "ValueError" = none) (mS : mg "RestError" = some (.ref CS)) (hS : (PySem.W.clsIn K CS).isSome = true) (tS : PySem.W.typeIn K (.ref CS) = some (.type "type"))
    (cA : Cal P w K mg base CX0 1 "_law_kinds_a" ["caught"] (spKinds K mg CS ga)) (cB : Cal P w K mg base CX0 1 "_law_kinds_b" ["caught"] (spKinds K mg CS gb)) (cC : Cal P w K mg base CX0 1 "_law_kinds_c" ["caught"] (spKinds K mg CS gc))
    (hn : ((ga ++ gb ++ gc).map (·.2)).Nodup) (hl : (ga ++ gb ++ gc).length ≤ 100) (hz : ((ga ++ gb ++ gc).map (·.1)).all (fun n => (PyData.str n).canLay0) = true) : FnOk P w K mg base CX0 2 f fd ["caught", "name_here"] (spAlone K mg CS (ga ++ gb ++ gc)) := by
  obtain ⟨fA, fdA, GA, kA, bA, mA⟩ := cA
  obtain ⟨fB, fdB, GB, kB, bB, mB⟩ := cB
  obtain ⟨fC, fdC, GC, kC, bC, mC⟩ := cC
  refine F.ok scAl (fun vs H Q E h => ?_) (fun cdv A outer s H vs Q E hr h => ?_)
  · obtain ⟨x, c, fs, rfl, _⟩ := h
    rfl
  · obtain ⟨x, c, fs, rfl, hcg, hx, hc, q⟩ := h
    have hu64 := hr.units
    have cz := List.all_eq_true.mp hz c.1 (List.mem_map_of_mem hcg)
    have len : ∀ g : List Cl, g.length ≤ 100 → (kindsOf c.2 g).length ≤ 100 := fun g h => by
      unfold kindsOf
      rw [List.length_map]
      exact Nat.le_trans (List.length_filter_le _ _) h
    rw [List.length_append, List.length_append] at hl
    have la := len ga (by omega)
    have lb := len gb (by omega)
    have lc := len gc (by omega)
    have all := kinds_one hcg hn
    rw [kinds_app, kinds_app] at all
    refine ⟨_, (pss_cons (ps_set (i := 2) scAl.nd rfl (Or.inl rfl) (pe_op op_cat (pe_op op_cat (pe_call GA (hr.mono (by decide)) (by rfl) mA kA bA .nil pass0 (pa_cons (pv 0) pa_nil)) (pe_call GB (hr.mono (by decide)) (by rfl) mB kB bB .nil pass0 (pa_cons (pv 0) pa_nil))) (pe_call GC (hr.mono (by decide)) (by rfl) mC kC bC .nil pass0 (pa_cons (pv 0) pa_nil))))
      (pss_one (ps_ret (pe_and (pe_cmpR (op_eqD hu64) (pv 2) (pe_lst (pa_cons (pv 1) pa_nil)) (nomark _)) (pe_and (pe_callB ES.call_isV (by rfl) mi (by decide +kernel) (pa_cons (pv 0) (pa_cons (pe_glob (v := .ref CS) (by rfl) mS rfl) pa_nil))) (pe_one (pe_callB ES.call_isV (by rfl) mi (by decide +kernel) (pa_cons (pv 0) (pa_cons (pe_bltn (v := .ty "ValueError") (u := .type "ValueError") (by rfl) mVE (by first | rfl | kernel_rfl | decide +kernel) rfl) pa_nil))))))))), ?_⟩
    refine ⟨_, rfl, x, c, fs, rfl, hx, hc, fun p1 H1 s1 e1 => ?_⟩
    refine ⟨_, rfl, x, c, fs, rfl, exc_keep hx (NoLst.same s1), hc, fun p2 H2 s2 e2 => ?_⟩
    refine ⟨p1, p2, _, _, rfl, rfl, s2 _ _ e1, e2, (by rw [sizeLine_eq]; omega), fun p3 n3 => ?_⟩
    have s3 := same_new (o := .lst (kindsOf c.2 ga ++ kindsOf c.2 gb)) n3
    have e3 : (L2.upd H2 p3 (.lst (kindsOf c.2 ga ++ kindsOf c.2 gb))) p3 = some (.lst (kindsOf c.2 ga ++ kindsOf c.2 gb)) := upd_same
    generalize L2.upd H2 p3 (.lst (kindsOf c.2 ga ++ kindsOf c.2 gb)) = H3 at s3 e3
    have t3 := s1.trans (s2.trans s3)
    refine ⟨_, rfl, x, c, fs, rfl, exc_keep hx (NoLst.same t3), hc, fun p4 H4 s4 e4 => ?_⟩
    refine ⟨p3, p4, _, _, rfl, rfl, s4 _ _ e3, e4, (by rw [sizeLine_eq, List.length_append]; omega), fun p5 n5 => ?_⟩
    rw [all]
    have s5 := same_new (o := .lst [.str c.1]) n5
    have e5 : (L2.upd H4 p5 (.lst [.str c.1])) p5 = some (.lst [.str c.1]) := upd_same
    generalize L2.upd H4 p5 (.lst [.str c.1]) = H5 at s5 e5
    have t5 := t3.trans (s4.trans s5)
    refine ⟨_, rfl, _, rfl, (by show 1 ≤ sizeLine; decide), fun p6 n6 => ?_⟩
    have s6 := same_new (o := .lst [.str c.1]) n6
    have hd : ∀ a, (L2.upd H5 p6 (.lst [.str c.1])) a = some (.lst [.str c.1]) → Dp K (L2.upd H5 p6 (.lst [.str c.1])) (.ref a) (.list [.str c.1]) := fun a e => .lst (.inl (.inl e)) (.cons (.str _) .nil)
    have t6 := t5.trans s6
    have hx6 := exc_keep hx (NoLst.same t6)
    refine ⟨_, _, hd p5 (s6 _ _ e5), hd p6 upd_same, ?_, ?_, ?_⟩
    · exact layN_shaped (n := 1) (layN_list fun d hd => by rw [List.mem_singleton] at hd; subst hd; exact ⟨cz, Nat.le_refl _⟩) (by decide)
    · exact layN_shaped (n := 1) (layN_list fun d hd => by rw [List.mem_singleton] at hd; subst hd; exact ⟨cz, Nat.le_refl _⟩) (by decide)
    have ev : PyData.eqv (.list [.str c.1]) (.list [.str c.1]) = true := by simp [PyData.eqv, PyData.eqvAll]
    refine ⟨_, congrArg V.bl ev, iteT ?_⟩
    refine ⟨_, rfl, x, .ref CS, .ref CS, c.2, fs, true, rfl, hx6, hc.ex, (fun u r => r), kit_base hc hS tS, true, rfl, iteT ?_⟩
    exact ⟨_, rfl, x, .ty "ValueError", .type "ValueError", c.2, fs, true, rfl, hx6, hc.ex, (fun u r => r), kit_VE hc, q _ t6⟩
end
end K02

set_option Elab.async false
set_option linter.all false
set_option maxRecDepth 100000
set_option maxHeartbeats 8000000
/-! law_k00's body. -/
namespace K02
open PySem PySem.Spec L2
open PyProof.Rows GenW GxR EZ TK CE
open LamX (ExtN)
abbrev sLaw : Stmt := top 67 -- law
abbrev nLaw0 : List Str := ["script", "state", "turn", "text_here", "item", "some", "name_here", "caught", "told", "spot"]
theorem scLaw : FnScope nLaw0 ["script"] (defScope sLaw) := ⟨rfl, rfl, rfl, by decide +kernel, rfl, by decide +kernel, by decide +kernel⟩
/-- what the errors with a field are made of -/
inductive ItemOk (N : Addr → Prop) (H : Hp) : V → PyData → Prop
  | it {x : V} {d : PyData} : IT N H x d → ItemOk N H x d
  | big : ItemOk N H (.int 100000000) (.int 100000000)
theorem ItemOk.keep {N : Addr → Prop} {H H' : Hp} {x : V} {d : PyData} (k : KL N H H') (h : ItemOk N H x d) : ItemOk N H' x d := by
  cases h with
  | it h => exact .it (h.keep k)
  | big => exact .big
theorem ItemOk.repr {K : PySem.W.Frag} {N : Addr → Prop} {H : Hp} {x : V} {d : PyData} (h : ItemOk N H x d) {Q : VK} (q : Q (.str d.shown) H) : RU.rReprU K [x] H Q := by
  cases h with
  | it h => exact h.repr q
  | big =>
    refine .inl ⟨_, _, rfl, .int _, (by decide +kernel), rfl, (by decide), ?_, fun i e => ?_, q⟩
    · have e : ((PyData.int 100000000).shown).length = 9 := by decide +kernel
      rw [sizeLine_eq]
      show ((PyData.int 100000000).shown).length ≤ _
      rw [e]
      decide
    · cases e
      decide +kernel
theorem paired_get {α β : Type} {R : α → β → Prop} {xs : List α} {ds : List β} (p : Paired R xs ds) {i : Nat} {x : α} (h : xs[i]? = some x) : ∃ d, ds[i]? = some d ∧ R x d := by
  induction p generalizing i with
  | nil => cases h
  | cons r t ih =>
    cases i with
    | zero => cases h; exact ⟨_, rfl, r⟩
    | succ i => exact ih h
structure LawF0 (P : Program) (w : World) (K : PySem.W.Frag) (mg : Str → Option Value) (base : Heap) (CS : Addr) (ga gb gh g : List Cl) : Prop where
  begun : Cal P w K mg base CX0 1 "_law_begun" ["script"] (spBegun K)
  draw : Cal P w K mg base CX0 1 "_law_draw" ["state", "size_here"] spDraw
  pick : Cal P w K mg base CX0 2 "_law_pick" ["state", "several"] (spPick K)
  odd : Cal P w K mg base CX0 3 "_law_odd" ["state"] spOdd
  pla : Cal P w K mg base CX0 1 "_law_plain_a" ["text_here"] (spPlain ga)
  plb : Cal P w K mg base CX0 1 "_law_plain_b" ["text_here"] (spPlain gb)
  held : Cal P w K mg base CX0 3 "_law_held" ["item"] (spHeld gh)
  alone : Cal P w K mg base CX0 2 "_law_is_alone" ["caught", "name_here"] (spAlone K mg CS g)
  ina : ∀ c ∈ ga ++ gb, c ∈ g
  inh : ∀ c ∈ gh, c ∈ g
  ci : ∀ c ∈ g, CI K mg CS c
  la : ga.length ≤ 100
  lb : gb.length ≤ 100
section
variable {P : Program} {w : World} {K : PySem.W.Frag} {mg : Str → Option Value} {base : Heap} {CS : Addr}
def spLaw0 (K : PySem.W.Frag) : Sp := fun vs H Q _ => ∃ (a : Addr) (ns : List Int), vs = [.ref a] ∧ SqL K H a (ns.map V.int) ∧ ns.length ≤ 63 ∧ ∀ H', Q (.bl true) H'
theorem ok_law0 {f c : Addr} {fd : FuncData} {ga gb gh g : List Cl} (F : Fun K "law" "law" sLaw f fd) (hc : fd.code = .ref c) (L : LawF0 P w K mg base CS ga gb gh g)
    (mrange : mg "range" = none) (mmin : mg "min" = none) (mlen : mg "len" = none) (mrp : mg "repr" = none) : GE.FnG P w K mg base CX0 12 f fd ["script"] (spLaw0 K) := by
  obtain ⟨fB, fdB, GB, kB, bB, mB⟩ := L.begun
  obtain ⟨fD, fdD, GD, kD, bD, mD⟩ := L.draw
  obtain ⟨fK, fdK, GK, kK, bK, mK⟩ := L.pick
  obtain ⟨fO, fdO, GO, kO, bO, mO⟩ := L.odd
  obtain ⟨fP, fdP, GP, kP, bP, mP⟩ := L.pla
  obtain ⟨fQ, fdQ, GQ, kQ, bQ, mQ⟩ := L.plb
  obtain ⟨fH, fdH, GH, kH, bH, mH⟩ := L.held
  obtain ⟨fA, fdA, GA, kA, bA, mA⟩ := L.alone
  refine okGN F hc scLaw (fun vs H Q E h => ?_) (fun A outer s H vs Q E hg hr h => ?_)
  · obtain ⟨a, ns, rfl, _⟩ := h
    rfl
  · obtain ⟨a, ns, rfl, hS, hl, q⟩ := h
    have hu64 := hr.units
    refine ⟨_, (pss_cons (ps_set (i := 1) scLaw.nd rfl (Or.inr rfl) (pe_call GB (hr.mono (by decide)) (by rfl) mB kB bB .nil pass0 (pa_cons (pv 0) pa_nil)))
      (pss_cons (ps_for PassesOwn.never rfl (pi_range1 (by rfl) mrange (pa_cons (pe_op op_add pe_int (pe_callB (call_min2 rfl) (by rfl) mmin (by decide +kernel) (pa_cons (pe_callB call_len_seq (by rfl) mlen PySem.boot_len (pa_cons (pv 0) pa_nil)) (pa_cons pe_int pa_nil)))) pa_nil)) (pg_name (i := 2) scLaw.nd rfl (Or.inl rfl))
        (pss_cons (ps_set (i := 3) scLaw.nd rfl (Or.inl rfl) (pe_bm PySem.F.plainAttrs_str PySem.F.slot_str_join PySem.F.type_str_join mt_join pe_str (pa_cons (pe_lc (own := [("spot", 9)]) (g := gName 9) (tt := tYes) rfl scLaw.nd (pi_range1 (by rfl) mrange (pa_cons (pe_call GD (hr.mono (by decide)) (by rfl) mD kD bD .nil pass0 (pa_cons (pv 1) (pa_cons pe_int pa_nil))) pa_nil)) (blkOk_by (N := nLaw0) (sc := defScope sLaw) (by decide +kernel)) (fun _ _ _ _ _ => (pg_name (i := 9) scLaw.nd rfl (Or.inl rfl))) (fun _ _ _ _ _ => pts_nil) (fun _ _ _ _ _ => (pe_call GK (hr.mono (by decide)) (by rfl) mK kK bK .nil pass0 (pa_cons (pv 1) (pa_cons (pe_lst (pa_cons pe_str (pa_cons pe_str (pa_cons pe_str (pa_cons pe_str (pa_cons pe_str pa_nil)))))) pa_nil))))) pa_nil)))
        (pss_cons (ps_set (i := 4) scLaw.nd rfl (Or.inl rfl) (pe_call GK (hr.mono (by decide)) (by rfl) mK kK bK .nil pass0 (pa_cons (pv 1) (pa_cons (pe_lst (pa_cons (pe_call GO (hr.mono (by decide)) (by rfl) mO kO bO .nil pass0 (pa_cons (pv 1) pa_nil)) (pa_cons (pe_op op_sub (pe_call GD (hr.mono (by decide)) (by rfl) mD kD bD .nil pass0 (pa_cons (pv 1) (pa_cons pe_int pa_nil))) pe_int) (pa_cons (pe_tup (pa_cons pe_int (pa_cons pe_int pa_nil))) (pa_cons pe_str (pa_cons (pe_op op_pow pe_int pe_int) pa_nil)))))) pa_nil))))
        (pss_cons (ps_set (i := 5) scLaw.nd rfl (Or.inl rfl) (pe_op op_cat (pe_call GP (hr.mono (by decide)) (by rfl) mP kP bP .nil pass0 (pa_cons (pv 3) pa_nil)) (pe_call GQ (hr.mono (by decide)) (by rfl) mQ kQ bQ .nil pass0 (pa_cons (pv 3) pa_nil))))
        (pss_cons (ps_if (pt_cmpR (op_neD hu64) (pe_lc (own := [("name_here", 6), ("caught", 7)]) (g := gTup K 2 (gCons (gName 6) (gCons (gName 7) gNil))) rfl scLaw.nd (pi_list (pv 5)) (blkOk_by (N := nLaw0) (sc := defScope sLaw) (by decide +kernel)) (fun _ _ _ _ _ => (pg_tup rfl (pgs_cons (pg_name (i := 6) scLaw.nd rfl (Or.inl rfl)) (pgs_cons (pg_name (i := 7) scLaw.nd rfl (Or.inl rfl)) pgs_nil)))) (fun _ _ _ _ _ => pts_one (pt_not (pt_val (pe_call GA (hr.mono (by decide)) (by rfl) mA kA bA .nil pass0 (pa_cons (pv 7) (pa_cons (pv 6) pa_nil)))))) (fun _ _ _ _ _ => pe_int)) (pe_lst pa_nil) (nomark _)) (pss_one (ps_ret pe_bl)) pss_nil)
        (pss_one (ps_for PassesOwn.never rfl (pi_list (pe_call GH (hr.mono (by decide)) (by rfl) mH kH bH .nil pass0 (pa_cons (pv 4) pa_nil))) (pg_tup rfl (pgs_cons (pg_name (i := 6) scLaw.nd rfl (Or.inl rfl)) (pgs_cons (pg_name (i := 7) scLaw.nd rfl (Or.inl rfl)) (pgs_cons (pg_name (i := 8) scLaw.nd rfl (Or.inl rfl)) pgs_nil))))
          (pss_one (ps_if (pw_or (pt_not (pt_val (pe_call GA (hr.mono (by decide)) (by rfl) mA kA bA .nil pass0 (pa_cons (pv 7) (pa_cons (pv 6) pa_nil))))) (pw_or1 (pt_cmpR op_ne (pe_callB (RU.call_reprU hg hu64) (by rfl) mrp (by decide +kernel) (pa_cons (pv 8) pa_nil)) (pe_callB (RU.call_reprU hg hu64) (by rfl) mrp (by decide +kernel) (pa_cons (pv 4) pa_nil)) (nomark _)))).pt (pss_one (ps_ret pe_bl)) pss_nil)))))))))
      (pss_one (ps_ret pe_bl)))), ?_⟩
    refine ⟨_, rfl, a, ns, rfl, hS, hl, fun st lg cl H1 S1 k1 n1 n2 n3 => ?_⟩
    refine ⟨_, rfl, a, _, rfl, .inl (k1.seq hS), ⟨_, _, rfl, _, _, rfl, rfl, _, rfl, ?_, ?_, ?_⟩⟩
    · show -(2 ^ 62) ≤ (1 : Int) + (if (3 : Int) < ((ns.map V.int).length : Int) then 3 else ((ns.map V.int).length : Int))
      split <;> omega
    · show (1 : Int) + (if (3 : Int) < ((ns.map V.int).length : Int) then 3 else ((ns.map V.int).length : Int)) < 2 ^ 62
      split <;> omega
    have hM : (1 + (if (3 : Int) < ((ns.map V.int).length : Int) then 3 else ((ns.map V.int).length : Int))).toNat ≤ 8 := by
      split <;> omega
    generalize (1 + (if (3 : Int) < ((ns.map V.int).length : Int) then 3 else ((ns.map V.int).length : Int))).toNat = M at hM
    refine for_range (fun i σ H2 => ∃ y2 y3 y4 y5 y6 y7 y8 : Option V, σ = [some (.ref a), some (.ref st), y2, y3, y4, y5, y6, y7, y8, none] ∧ StOk H2 st lg cl (100 * i)) ⟨none, none, none, none, none, none, none, rfl, S1⟩ (fun i σ H2 hi hh => ?turn) (fun σ H2 hh => q H2)
    obtain ⟨y2, y3, y4, y5, y6, y7, y8, rfl, S2⟩ := hh
    -- the text
    refine ⟨rfl, _, rfl, st, lg, cl, 100 * i, 9, rfl, by decide, by decide, by omega, S2, fun k H3 a0 a1 S3 U3 => ⟨k, rfl, by omega, by omega, fun D nD => ?_⟩⟩
    obtain ⟨nDs, nDl⟩ := But.st_new (o := .lst []) S3 nD
    refine lc_it (walk_range (lo := 0) (n := k.toNat)) (fun j Hx => ∃ ys : List Str, Hx D = some (.lst (ys.map V.str)) ∧ ys.length = j ∧ (∀ y ∈ ys, y.length ≤ 1) ∧ StOk Hx st lg cl (100 * i + 1 + j))
      ⟨[], upd_same, rfl, fun y z => (nomatch z), S3.keep (same_new nD)⟩ (fun _ _ _ _ => trivial) (fun j y Hx Hx' hj hP hy => ?_) (fun H4 hP => ?_)
    · obtain ⟨rfl, rfl⟩ := hy
      obtain ⟨ys, eD, ly, hys, Sx⟩ := hP
      refine ⟨rfl, ?_⟩
      dsimp only [tYes]
      rw [if_pos rfl]
      refine ⟨_, rfl, (by show 5 ≤ sizeLine; decide), fun p np => ?_⟩
      have s1 := same_new (o := .lst [.str "a", .str "b", .str " ", .str "0", .str "-"]) np
      obtain ⟨np1, np2⟩ := But.st_new (o := .lst []) Sx np
      refine ⟨st, lg, cl, p, 100 * i + 1 + j, _, rfl, (by show 0 < 5; decide), (by show 5 ≤ 1000; decide), np1, np2, .inl (.inl upd_same), by omega, Sx.keep s1, fun x H' mem S' U' => ?_⟩
      have hx : ∃ z : Str, x = .str z ∧ z.length ≤ 1 := by
        simp only [List.mem_cons, List.not_mem_nil, or_false] at mem
        rcases mem with h | h | h | h | h <;> subst h
        · exact ⟨_, rfl, by decide +kernel⟩
        · exact ⟨_, rfl, by decide +kernel⟩
        · exact ⟨_, rfl, by decide +kernel⟩
        · exact ⟨_, rfl, by decide +kernel⟩
        · exact ⟨_, rfl, by decide +kernel⟩
      obtain ⟨z, rfl, lz⟩ := hx
      have eD' := U' _ _ (s1 _ _ eD) nDs nDl
      refine ⟨_, eD', (by rw [List.length_map, sizeLine_eq]; omega), ys ++ [z], ?_, by rw [List.length_append, ly]; rfl, fun y hy => ?_, ?_⟩
      · rw [upd_same, List.map_append]
        rfl
      · rcases List.mem_append.mp hy with h | h
        · exact hys y h
        · rw [List.mem_singleton] at h
          rw [h]
          exact lz
      · exact (StOk.upd S' nDs nDl (fun z => by
          obtain ⟨ls, cs, left, turn, S0⟩ := S3
          have := S0.c
          rw [← z, nD] at this
          cases this)).up (by omega)
    obtain ⟨ys, eD, ly, hys, S4⟩ := hP
    have hsum : (ys.map (·.length)).sum ≤ ys.length := by
      clear eD ly S4
      induction ys with
      | nil => exact Nat.le_refl _
      | cons y r ih =>
        rw [List.map_cons, List.sum_cons, List.length_cons]
        have h1 := hys y List.mem_cons_self
        have h2 := ih fun x hx => hys x (List.mem_cons_of_mem _ hx)
        omega
    refine ⟨"", D, ys, rfl, rfl, .inl (.inl (.inl eD)), (by have e0 : ("" : Str).length = 0 := rfl; rw [e0]; omega), ?_⟩
    generalize Txt.join "" ys = z
    have S4 := S4.up (show 100 * i + 1 + k.toNat ≤ 100 * i + 10 by omega)
    -- the item
    refine ⟨_, rfl, _, rfl, st, lg, cl, 100 * i + 10, rfl, by omega, S4, fun x0 d0 H5 it0 S5 U5 => ?_⟩
    refine ⟨_, rfl, st, lg, cl, 100 * i + 10 + 1, 41, rfl, by decide, by decide, by omega, S5, fun k2 H6 b0 b1 S6 U6 => ?_⟩
    refine ⟨_, _, rfl, rfl, (by show 2 ≤ sizeLine; decide), fun T nT => ?_⟩
    have s7 := same_new (o := .tup [.int 0, .int 1]) nT
    have e7 : (L2.upd H6 T (.tup [.int 0, .int 1])) T = some (.tup [.int 0, .int 1]) := upd_same
    generalize L2.upd H6 T (.tup [.int 0, .int 1]) = H7 at s7 e7
    have S7 := S6.keep s7
    refine ⟨10, 8, rfl, rfl, ⟨by decide, by decide, by decide⟩, (by show 5 ≤ sizeLine; decide), fun p np => ?_⟩
    have s8 := same_new (o := .lst [x0, .int (k2 - 20), .ref T, .str "pause", .int ((10 : Int) ^ (8 : Int).toNat)]) np
    obtain ⟨np1, np2⟩ := But.st_new (o := .lst []) S7 np
    refine ⟨st, lg, cl, p, 100 * i + 10 + 1 + 1, _, rfl, (by show 0 < 5; decide), (by show 5 ≤ 1000; decide), np1, np2, .inl (.inl upd_same), by omega, S7.keep s8, fun item H9 mem S9 U9 => ?_⟩
    have hIt : ∃ d, ItemOk (Here H4) H9 item d := by
      have k9 : KL (Here H4) H7 H9 := (KL.same s8).trans (.but U9 (S7.keep s8) S4.there.1 S4.there.2)
      simp only [List.mem_cons, List.not_mem_nil, or_false] at mem
      rcases mem with h | h | h | h | h <;> subst h
      · exact ⟨_, .it (it0.keep (((KL.but U6 S5 S4.there.1 S4.there.2).trans (.same s7)).trans k9))⟩
      · exact ⟨_, .it (.d2 (.inl (.int _ (by omega) (by omega))))⟩
      · exact ⟨_, .it ((IT.d2 (.inr (.tup e7 (.cons (.inl (int_at 0)) (.cons (.inl (int_at 1)) .nil))))).keep k9)⟩
      · exact ⟨_, .it (.d2 (.inl (str_at "pause")))⟩
      · have e : ((10 : Int) ^ (8 : Int).toNat) = 100000000 := by decide
        rw [e]
        exact ⟨_, .big⟩
    obtain ⟨di, hIt⟩ := hIt
    have S9 := S9.up (show 100 * i + 10 + 1 + 1 + 1 ≤ 100 * (i + 1) by omega)
    clear s8 np1 np2 U9 np mem
    -- those without a field
    refine ⟨_, rfl, z, rfl, fun r1 H10 ws1 s10 m10 e10 p10 => ?_⟩
    refine ⟨_, rfl, z, rfl, fun r2 H11 ws2 s11 m11 e11 p11 => ?_⟩
    have l1 := Paired.length p10
    have l2 := Paired.length p11
    have h1 := L.la
    have h2 := L.lb
    refine ⟨r1, r2, ws1, ws2, rfl, rfl, s11 _ _ e10, e11, (by rw [sizeLine_eq]; omega), fun p np => ?_⟩
    have s12 := same_new (o := .lst (ws1 ++ ws2)) np
    have e12 : (L2.upd H11 p (.lst (ws1 ++ ws2))) p = some (.lst (ws1 ++ ws2)) := upd_same
    generalize L2.upd H11 p (.lst (ws1 ++ ws2)) = H12 at s12 e12
    have pw : Paired (PlAt H12) (ws1 ++ ws2) (ga ++ gb) := paired_app (pairedMono (fun x c h => h.keep ((NoLst.same s11).trans (NoLst.same s12))) p10) (pairedMono (fun x c h => h.keep (NoLst.same s12)) p11)
    have t12 := s10.trans (s11.trans s12)
    refine ⟨_, rfl, p, rfl, ⟨_, .inl (.inl e12)⟩, fun D2 nD2 => ?_⟩
    refine lc_it (walk_list (xs := ws1 ++ ws2)) (fun j Hx => Same H12 Hx ∧ Hx D2 = some (.lst [])) ⟨same_new nD2, upd_same⟩ (fun j Hx _ hP => .inl (.inl (hP.1 _ _ e12))) (fun j y Hx Hx' hj hP hy => ?_) (fun H13 hP => ?_)
    · obtain ⟨rfl, hy⟩ := hy
      obtain ⟨sx, ex⟩ := hP
      obtain ⟨c, hc, t, e, rfl, et, hE⟩ := paired_get pw hy
      have hcg := L.ina c (List.mem_of_getElem? hc)
      refine ⟨t, _, rfl, .inl (.inl (sx _ _ et)), rfl, _, _, rfl, _, _, rfl, rfl, rfl, ?_⟩
      exact ⟨_, rfl, _, rfl, e, c, none, rfl, hcg, exc_keep hE (NoLst.same sx), L.ci c hcg, fun H' s' => ⟨true, rfl, iteF ⟨sx.trans s', s' _ _ ex⟩⟩⟩
    obtain ⟨s13, e13⟩ := hP
    refine ⟨Nat.zero_le _, fun D3 nD3 => ?_⟩
    have s14 := same_new (o := .lst []) nD3
    have e14 : (L2.upd H13 D3 (.lst [])) D3 = some (.lst []) := upd_same
    generalize L2.upd H13 D3 (.lst []) = H14 at s14 e14
    refine ⟨.list [], .list [], .lst (.inl (.inl (s14 _ _ e13))) .nil, .lst (.inl (.inl e14)) .nil, rfl, rfl, _, rfl, iteF ?_⟩
    have t14 := t12.trans (s13.trans s14)
    -- those with a field
    refine ⟨_, rfl, item, rfl, fun r H15 ws s15 m15 e15 p15 => ⟨r, rfl, ⟨ws, .inl (.inl e15)⟩, ?_⟩⟩
    have t15 := t14.trans s15
    refine for_list (xs := ws) (fun j σ Hx => ∃ y6 y7 y8 : Option V, σ = [some (.ref a), some (.ref st), some (.int (0 + (i : Int))), some (.str z), some item, some (.ref p), y6, y7, y8, none] ∧ Same H15 Hx) ⟨_, _, _, rfl, fun _ _ e => e⟩ (fun j σ Hx _ hh => ?_) (fun j x σ Hx hx hh => ?_) (fun σ Hx hh => ?_)
    · obtain ⟨_, _, _, _, sx⟩ := hh
      exact .inl (.inl (sx _ _ e15))
    · obtain ⟨y6, y7, y8, rfl, sx⟩ := hh
      obtain ⟨c, hc, t, e, rfl, et, l, hE⟩ := paired_get p15 hx
      have hcg := L.inh c (List.mem_of_getElem? hc)
      refine ⟨t, _, rfl, .inl (.inl (sx _ _ et)), rfl, _, _, rfl, _, _, rfl, _, _, rfl, rfl, ?_⟩
      refine ⟨_, rfl, _, rfl, e, c, some l, rfl, hcg, exc_keep hE (NoLst.same sx), L.ci c hcg, fun H' s' => ⟨true, rfl, iteF ?_⟩⟩
      have it' : ItemOk (Here H4) H' item di := hIt.keep (.same (t15.trans (sx.trans s')))
      refine ⟨_, rfl, it'.repr ⟨_, rfl, it'.repr ⟨rfl, ?_⟩⟩⟩
      have dz : decide (V.str di.shown = V.str di.shown) = true := decide_eq_true rfl
      rw [dz]
      exact ⟨_, rfl, iteF ⟨_, _, _, rfl, sx.trans s'⟩⟩
    · obtain ⟨y6, y7, y8, rfl, sx⟩ := hh
      exact ⟨_, _, _, _, _, _, _, rfl, S9.keep (t15.trans sx)⟩
end
end K02

set_option Elab.async false
set_option linter.all false
set_option maxRecDepth 100000
set_option maxHeartbeats 8000000
/-! All facts put together. -/
namespace K02
open PySem PySem.Spec L2
open PyProof.Rows GenW GxR EZ TK CE
/-- the first def of a class -/
def inner (s : Stmt) : Stmt := match s with
  | .ClassDef _ _ _ (b :: _) _ _ _ _ _ _ _ => b
  | s => s
abbrev scBadText : Stmt := top 38 -- BadText
abbrev scCaught : Stmt := top 40 -- Caught
abbrev scMissing : Stmt := top 42 -- Missing
abbrev scNotFitting : Stmt := top 43 -- NotFitting
abbrev scNotSure : Stmt := top 47 -- NotSure
abbrev scRing : Stmt := top 50 -- Ring
abbrev scTooMany : Stmt := top 51 -- TooMany
abbrev scUnsure : Stmt := top 53 -- Unsure
abbrev scWide : Stmt := top 54 -- Wide
def clB (K : PySem.W.Frag) (CS C : Addr) : Bool := xfB K C && (decide (PySem.W.findIn K (.ref C) "__class__" = some (some (.builtin "object.__class__"))) && (decide (PySem.W.mroIn K C (.type "object") = some true) && (decide (PySem.W.typeIn K (.ref C) = some (.type "type")) && (decide ((PySem.W.clsIn K C).map (·.mro) = some [.ref C, .ref CS, .type "ValueError", .type "Exception", .type "BaseException", .type "object"]) && !(C == CS)))))
def plB (K : PySem.W.Frag) (C : Addr) : Bool := PySem.W.excIn K C [.type "ValueError", .type "Exception", .type "BaseException", .type "object"] "ValueError.__new__" && PySem.W.keepIn K (.ref C)
theorem clB_ok {K : PySem.W.Frag} {mg : Str → Option Value} {CS C : Addr} {n : Str} (r1 : PySem.W.specialIn K (.builtin "object.__class__") "__get__" = some (some (.builtin "getset_descriptor.__get__"))) (r2 : PySem.W.takesIn K (.builtin "object.__class__") = some true) (m : mg n = some (.ref C)) (h : clB K CS C = true) : CI K mg CS (n, C) ∧ C ≠ CS ∧ XfC K C := by
  unfold clB at h
  simp only [Bool.and_eq_true, Bool.not_eq_true', beq_eq_false_iff_ne, ne_eq] at h
  obtain ⟨h1, h2, h3, h4, h5, h6⟩ := h
  have x := xfB_ok h1
  exact ⟨⟨m, ⟨x.ga, x.gg, x.exC, x.hdC, of_decide_eq_true h2, r1, r2, of_decide_eq_true h3⟩, of_decide_eq_true h4, of_decide_eq_true h5⟩, h6, x⟩
theorem plB_ok {K : PySem.W.Frag} {mg : Str → Option Value} {CS : Addr} {c : Cl} (i : CI K mg CS c) (h : plB K c.2 = true) : CP K mg CS c := by
  unfold plB at h
  rw [Bool.and_eq_true] at h
  exact { toCI := i, exc := h.1, keep := h.2 }
theorem mem_at {α : Type} {l : List α} {x : α} (i : Nat) (h : l[i]? = some x) : x ∈ l := List.mem_of_getElem? h
theorem kbI {K : PySem.W.Frag} {fd : FuncData} {fld : Str} (h : ∀ a b : Value, bindArgs fd ⟨[a], [(fld, b)]⟩ = pure ([("self" : Str), fld].zip [a, b])) : KBinds K fd ["self", fld] [fld] kwI kwI := by
  refine ⟨fun s us ws _ hl => ?_, fun {vs us zs ws} r rz => ?_⟩
  · rcases us with _ | ⟨a, _ | ⟨a2, us⟩⟩
    · cases ws <;> exact absurd (show 0 = 2 from hl) (by decide)
    · rcases ws with _ | ⟨b, _ | ⟨b2, ws⟩⟩
      · exact absurd (show 0 = 2 from hl) (by decide)
      · exact .of_eq (h a b)
      · exact absurd (show 0 = 2 from hl) (by decide)
    · cases ws <;> exact absurd (show 0 = 2 from hl) (by decide)
  · rcases r with _ | ⟨r1, _ | ⟨r2, r3⟩⟩
    · exact .nil
    · rcases rz with _ | ⟨q1, _ | ⟨q2, q3⟩⟩
      · exact .nil
      · exact .cons r1 (.cons q1 .nil)
      · exact .nil
    · cases rz <;> exact .nil
theorem init_k {P : Program} {K : PySem.W.Frag} {mg : Str → Option Value} {CS C cc f cda : Addr} {n : Str} (i : CI K mg CS (n, C)) (T : OexC K C) (opq : PySem.W.nsIn K cStatics "thirdparty.any" = some none) (sup : PySem.W.ks_superIn K C C "__init__" = some (some (.builtin "ValueError.__init__")))
    {cl : Value} {cld : Option Addr} {csl : Array (Option Value)} (cell : K.lookup cc = some ⟨cl, cld, .cell (some (.ref C)), csl⟩) {ccl : Value} {cdd : Option Addr} {vs : Array Value} {ccs : Array (Option Value)} {fl : Str} {tf : Tok} (hx : K.lookup cda = some ⟨ccl, cdd, .fields vs, ccs⟩) (hv : vs[2]? = some (.str fl tf)) (hf : ((P.main.file : Str) == fl) = true)
    (top : (P.main.scope.names.lookup ("super" : Str)).isSome = false) (msup : mg "super" = none) : ES.InitK P K mg C cc f cda where
  T := T
  sub := (i.sub (.type "ValueError")).trans (by simp)
  mro := (i.sub (.ref C)).trans (by simp)
  opq := opq
  sup := sup
  cell := ⟨_, _, _, cell⟩
  file := ⟨_, _, _, _, _, _, hx, hv, hf⟩
  top := top
  msup := msup
theorem all_mk0 {l : PySem.W.OpenLaw} {w : World} {K : PySem.W.Frag} {h : Heap} {mg : Str → Option Value} {fa : Addr} (X : K.In h) (G : h.Ns mainGlobals mg) (hfa : mg "law" = some (.ref fa))
    {f0 f1 f2 f3 f4 f5 f6 f7 f8 f9 f10 f11 c11 CS C_BadCases C_BadCircuit C_BadCode C_BadDiagram C_BadElement C_BadFrame C_BadGiven C_BadHeld C_BadLine C_BadLot C_BadMachine C_BadModule C_BadName C_BadNames C_BadNumber C_BadOrder C_BadOwn C_BadPart C_BadPath C_BadPicks C_BadPiece C_BadProgram C_BadReadings C_BadRest C_BadRow C_BadRows C_BadRun C_BadSignal C_BadSignals C_BadStanding C_BadStart C_BadState C_BadStatement C_BadSteps C_BadSurroundings C_BadTable C_BadText C_BadWord C_Caught C_Lost C_Missing C_NotFitting C_NotHere C_NotPlain C_NotProgram C_NotSure C_NothingDone C_NothingUndone C_Ring C_TooMany C_Unlike C_Unsure C_Wide N_BadText fI_BadText cc_BadText cda_BadText N_Caught fI_Caught cc_Caught cda_Caught N_Missing fI_Missing cc_Missing cda_Missing N_NotFitting fI_NotFitting cc_NotFitting cda_NotFitting N_NotSure fI_NotSure cc_NotSure cda_NotSure N_Ring fI_Ring cc_Ring cda_Ring N_TooMany fI_TooMany cc_TooMany cda_TooMany N_Unsure fI_Unsure cc_Unsure cda_Unsure N_Wide fI_Wide cc_Wide cda_Wide : Addr} {oc0 kV0 dc0 pm0 ct0 cd0 oc1 kV1 dc1 pm1 ct1 cd1 oc2 kV2 dc2 pm2 ct2 cd2 oc3 kV3 dc3 pm3 ct3 cd3 oc4 kV4 dc4 pm4 ct4 cd4 oc5 kV5 dc5 pm5 ct5 cd5 oc6 kV6 dc6 pm6 ct6 cd6 oc7 kV7 dc7 pm7 ct7 cd7 oc8 kV8 dc8 pm8 ct8 cd8 oc9 kV9 dc9 pm9 ct9 cd9 oc10 kV10 dc10 pm10 ct10 cd10 oc11 kV11 dc11 pm11 ct11 oc_BadText kV_BadText dc_BadText pm_BadText ct_BadText ccl_BadText cl_BadText oc_Caught kV_Caught dc_Caught pm_Caught ct_Caught ccl_Caught cl_Caught oc_Missing kV_Missing dc_Missing pm_Missing ct_Missing ccl_Missing cl_Missing oc_NotFitting kV_NotFitting dc_NotFitting pm_NotFitting ct_NotFitting ccl_NotFitting cl_NotFitting oc_NotSure kV_NotSure dc_NotSure pm_NotSure ct_NotSure ccl_NotSure cl_NotSure oc_Ring kV_Ring dc_Ring pm_Ring ct_Ring ccl_Ring cl_Ring oc_TooMany kV_TooMany dc_TooMany pm_TooMany ct_TooMany ccl_TooMany cl_TooMany oc_Unsure kV_Unsure dc_Unsure pm_Unsure ct_Unsure ccl_Unsure cl_Unsure oc_Wide kV_Wide dc_Wide pm_Wide ct_Wide ccl_Wide cl_Wide : Value} {od0 an0 od1 an1 od2 an2 od3 an3 od4 an4 od5 an5 od6 an6 od7 an7 od8 an8 od9 an9 od10 an10 od11 an11 od_BadText an_BadText dd_BadText cdd_BadText cld_BadText od_Caught an_Caught dd_Caught cdd_Caught cld_Caught od_Missing an_Missing dd_Missing cdd_Missing cld_Missing od_NotFitting an_NotFitting dd_NotFitting cdd_NotFitting cld_NotFitting od_NotSure an_NotSure dd_NotSure cdd_NotSure cld_NotSure od_Ring an_Ring dd_Ring cdd_Ring cld_Ring od_TooMany an_TooMany dd_TooMany cdd_TooMany cld_TooMany od_Unsure an_Unsure dd_Unsure cdd_Unsure cld_Unsure od_Wide an_Wide dd_Wide cdd_Wide cld_Wide : Option Addr} {sl0 sl1 sl2 sl3 sl4 sl5 sl6 sl7 sl8 sl9 sl10 sl11 osl_BadText ccs_BadText csl_BadText osl_Caught ccs_Caught csl_Caught osl_Missing ccs_Missing csl_Missing osl_NotFitting ccs_NotFitting csl_NotFitting osl_NotSure ccs_NotSure csl_NotSure osl_Ring ccs_Ring csl_Ring osl_TooMany ccs_TooMany csl_TooMany osl_Unsure ccs_Unsure csl_Unsure osl_Wide ccs_Wide csl_Wide : Array (Option Value)} {vs_BadText vs_Caught vs_Missing vs_NotFitting vs_NotSure vs_Ring vs_TooMany vs_Unsure vs_Wide : Array Value} {tf_BadText tf_Caught tf_Missing tf_NotFitting tf_NotSure tf_Ring tf_TooMany tf_Unsure tf_Wide : Tok} {nm_BadText q_BadText fl_BadText nm_Caught q_Caught fl_Caught nm_Missing q_Missing fl_Missing nm_NotFitting q_NotFitting fl_NotFitting nm_NotSure q_NotSure fl_NotSure nm_Ring q_Ring fl_Ring nm_TooMany q_TooMany fl_TooMany nm_Unsure q_Unsure fl_Unsure nm_Wide q_Wide fl_Wide : Str} {bs_BadText bm_BadText sub_BadText bs_Caught bm_Caught sub_Caught bs_Missing bm_Missing sub_Missing bs_NotFitting bm_NotFitting sub_NotFitting bs_NotSure bm_NotSure sub_NotSure bs_Ring bm_Ring sub_Ring bs_TooMany bm_TooMany sub_TooMany bs_Unsure bm_Unsure sub_Unsure bs_Wide bm_Wide sub_Wide : List Value} {sn_BadText sn_Caught sn_Missing sn_NotFitting sn_NotSure sn_Ring sn_TooMany sn_Unsure sn_Wide : List Str} {ab_BadText ab_Caught ab_Missing ab_NotFitting ab_NotSure ab_Ring ab_TooMany ab_Unsure ab_Wide : Bool} {col_BadText col_Caught col_Missing col_NotFitting col_NotSure col_Ring col_TooMany col_Unsure col_Wide : Option Bool} {k0_BadText k1_BadText k2_BadText k3_BadText k5_BadText k0_Caught k1_Caught k2_Caught k3_Caught k5_Caught k0_Missing k1_Missing k2_Missing k3_Missing k5_Missing k0_NotFitting k1_NotFitting k2_NotFitting k3_NotFitting k5_NotFitting k0_NotSure k1_NotSure k2_NotSure k3_NotSure k5_NotSure k0_Ring k1_Ring k2_Ring k3_Ring k5_Ring k0_TooMany k1_TooMany k2_TooMany k3_TooMany k5_TooMany k0_Unsure k1_Unsure k2_Unsure k3_Unsure k5_Unsure k0_Wide k1_Wide k2_Wide k3_Wide k5_Wide : Option Value}
    (a0 : PySem.W.nsIn K mainGlobals "_law_begun" = some (some (.ref f0)))
    (l0 : K.lookup f0 = some ⟨oc0, od0, .func (PySem.W.fnOf "_law_begun" "_law_begun" (defArgs sBegun) (defBody sBegun) (defScope sBegun) .none kV0 dc0 pm0 an0 cd0 ct0), sl0⟩)
    (c0' : PySem.W.codeIn K cd0 "_law_begun" = true)
    (k0 : PySem.W.keepIn K (.ref f0) = true)
    (a1 : PySem.W.nsIn K mainGlobals "_law_draw" = some (some (.ref f1)))
    (l1 : K.lookup f1 = some ⟨oc1, od1, .func (PySem.W.fnOf "_law_draw" "_law_draw" (defArgs sDraw) (defBody sDraw) (defScope sDraw) .none kV1 dc1 pm1 an1 cd1 ct1), sl1⟩)
    (c1' : PySem.W.codeIn K cd1 "_law_draw" = true)
    (k1 : PySem.W.keepIn K (.ref f1) = true)
    (a2 : PySem.W.nsIn K mainGlobals "_law_pick" = some (some (.ref f2)))
    (l2 : K.lookup f2 = some ⟨oc2, od2, .func (PySem.W.fnOf "_law_pick" "_law_pick" (defArgs sPick) (defBody sPick) (defScope sPick) .none kV2 dc2 pm2 an2 cd2 ct2), sl2⟩)
    (c2' : PySem.W.codeIn K cd2 "_law_pick" = true)
    (k2 : PySem.W.keepIn K (.ref f2) = true)
    (a3 : PySem.W.nsIn K mainGlobals "_law_odd" = some (some (.ref f3)))
    (l3 : K.lookup f3 = some ⟨oc3, od3, .func (PySem.W.fnOf "_law_odd" "_law_odd" (defArgs sOdd) (defBody sOdd) (defScope sOdd) .none kV3 dc3 pm3 an3 cd3 ct3), sl3⟩)
    (c3' : PySem.W.codeIn K cd3 "_law_odd" = true)
    (k3 : PySem.W.keepIn K (.ref f3) = true)
    (a4 : PySem.W.nsIn K mainGlobals "_law_kinds_a" = some (some (.ref f4)))
    (l4 : K.lookup f4 = some ⟨oc4, od4, .func (PySem.W.fnOf "_law_kinds_a" "_law_kinds_a" (defArgs sKdA) (defBody sKdA) (defScope sKdA) .none kV4 dc4 pm4 an4 cd4 ct4), sl4⟩)
    (c4' : PySem.W.codeIn K cd4 "_law_kinds_a" = true)
    (k4 : PySem.W.keepIn K (.ref f4) = true)
    (a5 : PySem.W.nsIn K mainGlobals "_law_kinds_b" = some (some (.ref f5)))
    (l5 : K.lookup f5 = some ⟨oc5, od5, .func (PySem.W.fnOf "_law_kinds_b" "_law_kinds_b" (defArgs sKdB) (defBody sKdB) (defScope sKdB) .none kV5 dc5 pm5 an5 cd5 ct5), sl5⟩)
    (c5' : PySem.W.codeIn K cd5 "_law_kinds_b" = true)
    (k5 : PySem.W.keepIn K (.ref f5) = true)
    (a6 : PySem.W.nsIn K mainGlobals "_law_kinds_c" = some (some (.ref f6)))
    (l6 : K.lookup f6 = some ⟨oc6, od6, .func (PySem.W.fnOf "_law_kinds_c" "_law_kinds_c" (defArgs sKdC) (defBody sKdC) (defScope sKdC) .none kV6 dc6 pm6 an6 cd6 ct6), sl6⟩)
    (c6' : PySem.W.codeIn K cd6 "_law_kinds_c" = true)
    (k6 : PySem.W.keepIn K (.ref f6) = true)
    (a7 : PySem.W.nsIn K mainGlobals "_law_plain_a" = some (some (.ref f7)))
    (l7 : K.lookup f7 = some ⟨oc7, od7, .func (PySem.W.fnOf "_law_plain_a" "_law_plain_a" (defArgs sPlA) (defBody sPlA) (defScope sPlA) .none kV7 dc7 pm7 an7 cd7 ct7), sl7⟩)
    (c7' : PySem.W.codeIn K cd7 "_law_plain_a" = true)
    (k7 : PySem.W.keepIn K (.ref f7) = true)
    (a8 : PySem.W.nsIn K mainGlobals "_law_plain_b" = some (some (.ref f8)))
    (l8 : K.lookup f8 = some ⟨oc8, od8, .func (PySem.W.fnOf "_law_plain_b" "_law_plain_b" (defArgs sPlB) (defBody sPlB) (defScope sPlB) .none kV8 dc8 pm8 an8 cd8 ct8), sl8⟩)
    (c8' : PySem.W.codeIn K cd8 "_law_plain_b" = true)
    (k8 : PySem.W.keepIn K (.ref f8) = true)
    (a9 : PySem.W.nsIn K mainGlobals "_law_held" = some (some (.ref f9)))
    (l9 : K.lookup f9 = some ⟨oc9, od9, .func (PySem.W.fnOf "_law_held" "_law_held" (defArgs sHeld) (defBody sHeld) (defScope sHeld) .none kV9 dc9 pm9 an9 cd9 ct9), sl9⟩)
    (c9' : PySem.W.codeIn K cd9 "_law_held" = true)
    (k9 : PySem.W.keepIn K (.ref f9) = true)
    (a10 : PySem.W.nsIn K mainGlobals "_law_is_alone" = some (some (.ref f10)))
    (l10 : K.lookup f10 = some ⟨oc10, od10, .func (PySem.W.fnOf "_law_is_alone" "_law_is_alone" (defArgs sAl) (defBody sAl) (defScope sAl) .none kV10 dc10 pm10 an10 cd10 ct10), sl10⟩)
    (c10' : PySem.W.codeIn K cd10 "_law_is_alone" = true)
    (k10 : PySem.W.keepIn K (.ref f10) = true)
    (a11 : PySem.W.nsIn K mainGlobals "law" = some (some (.ref f11)))
    (l11 : K.lookup f11 = some ⟨oc11, od11, .func (PySem.W.fnOf "law" "law" (defArgs sLaw) (defBody sLaw) (defScope sLaw) .none kV11 dc11 pm11 an11 (.ref c11) ct11), sl11⟩)
    (c11' : PySem.W.codeIn K (.ref c11) "law" = true)
    (k11 : PySem.W.keepIn K (.ref f11) = true)
    (z_int : PySem.W.nsIn K mainGlobals "int" = some none)
    (z_len : PySem.W.nsIn K mainGlobals "len" = some none)
    (z_abs : PySem.W.nsIn K mainGlobals "abs" = some none)
    (z_isinstance : PySem.W.nsIn K mainGlobals "isinstance" = some none)
    (z_range : PySem.W.nsIn K mainGlobals "range" = some none)
    (z_min : PySem.W.nsIn K mainGlobals "min" = some none)
    (z_repr : PySem.W.nsIn K mainGlobals "repr" = some none)
    (z_ValueError : PySem.W.nsIn K mainGlobals "ValueError" = some none)
    (z_super : PySem.W.nsIn K mainGlobals "super" = some none)
    (aS : PySem.W.nsIn K mainGlobals "RestError" = some (some (.ref CS)))
    (tS : PySem.W.typeIn K (.ref CS) = some (.type "type"))
    (hS : (PySem.W.clsIn K CS).isSome = true)
    (a_BadCases : PySem.W.nsIn K mainGlobals "BadCases" = some (some (.ref C_BadCases)))
    (e_BadCases : clB K CS C_BadCases = true)
    (a_BadCircuit : PySem.W.nsIn K mainGlobals "BadCircuit" = some (some (.ref C_BadCircuit)))
    (e_BadCircuit : clB K CS C_BadCircuit = true)
    (a_BadCode : PySem.W.nsIn K mainGlobals "BadCode" = some (some (.ref C_BadCode)))
    (e_BadCode : clB K CS C_BadCode = true)
    (a_BadDiagram : PySem.W.nsIn K mainGlobals "BadDiagram" = some (some (.ref C_BadDiagram)))
    (e_BadDiagram : clB K CS C_BadDiagram = true)
    (a_BadElement : PySem.W.nsIn K mainGlobals "BadElement" = some (some (.ref C_BadElement)))
    (e_BadElement : clB K CS C_BadElement = true)
    (a_BadFrame : PySem.W.nsIn K mainGlobals "BadFrame" = some (some (.ref C_BadFrame)))
    (e_BadFrame : clB K CS C_BadFrame = true)
    (a_BadGiven : PySem.W.nsIn K mainGlobals "BadGiven" = some (some (.ref C_BadGiven)))
    (e_BadGiven : clB K CS C_BadGiven = true)
    (a_BadHeld : PySem.W.nsIn K mainGlobals "BadHeld" = some (some (.ref C_BadHeld)))
    (e_BadHeld : clB K CS C_BadHeld = true)
    (a_BadLine : PySem.W.nsIn K mainGlobals "BadLine" = some (some (.ref C_BadLine)))
    (e_BadLine : clB K CS C_BadLine = true)
    (a_BadLot : PySem.W.nsIn K mainGlobals "BadLot" = some (some (.ref C_BadLot)))
    (e_BadLot : clB K CS C_BadLot = true)
    (a_BadMachine : PySem.W.nsIn K mainGlobals "BadMachine" = some (some (.ref C_BadMachine)))
    (e_BadMachine : clB K CS C_BadMachine = true)
    (a_BadModule : PySem.W.nsIn K mainGlobals "BadModule" = some (some (.ref C_BadModule)))
    (e_BadModule : clB K CS C_BadModule = true)
    (a_BadName : PySem.W.nsIn K mainGlobals "BadName" = some (some (.ref C_BadName)))
    (e_BadName : clB K CS C_BadName = true)
    (a_BadNames : PySem.W.nsIn K mainGlobals "BadNames" = some (some (.ref C_BadNames)))
    (e_BadNames : clB K CS C_BadNames = true)
    (a_BadNumber : PySem.W.nsIn K mainGlobals "BadNumber" = some (some (.ref C_BadNumber)))
    (e_BadNumber : clB K CS C_BadNumber = true)
    (a_BadOrder : PySem.W.nsIn K mainGlobals "BadOrder" = some (some (.ref C_BadOrder)))
    (e_BadOrder : clB K CS C_BadOrder = true)
    (a_BadOwn : PySem.W.nsIn K mainGlobals "BadOwn" = some (some (.ref C_BadOwn)))
    (e_BadOwn : clB K CS C_BadOwn = true)
    (a_BadPart : PySem.W.nsIn K mainGlobals "BadPart" = some (some (.ref C_BadPart)))
    (e_BadPart : clB K CS C_BadPart = true)
    (a_BadPath : PySem.W.nsIn K mainGlobals "BadPath" = some (some (.ref C_BadPath)))
    (e_BadPath : clB K CS C_BadPath = true)
    (a_BadPicks : PySem.W.nsIn K mainGlobals "BadPicks" = some (some (.ref C_BadPicks)))
    (e_BadPicks : clB K CS C_BadPicks = true)
    (a_BadPiece : PySem.W.nsIn K mainGlobals "BadPiece" = some (some (.ref C_BadPiece)))
    (e_BadPiece : clB K CS C_BadPiece = true)
    (a_BadProgram : PySem.W.nsIn K mainGlobals "BadProgram" = some (some (.ref C_BadProgram)))
    (e_BadProgram : clB K CS C_BadProgram = true)
    (a_BadReadings : PySem.W.nsIn K mainGlobals "BadReadings" = some (some (.ref C_BadReadings)))
    (e_BadReadings : clB K CS C_BadReadings = true)
    (a_BadRest : PySem.W.nsIn K mainGlobals "BadRest" = some (some (.ref C_BadRest)))
    (e_BadRest : clB K CS C_BadRest = true)
    (a_BadRow : PySem.W.nsIn K mainGlobals "BadRow" = some (some (.ref C_BadRow)))
    (e_BadRow : clB K CS C_BadRow = true)
    (a_BadRows : PySem.W.nsIn K mainGlobals "BadRows" = some (some (.ref C_BadRows)))
    (e_BadRows : clB K CS C_BadRows = true)
    (a_BadRun : PySem.W.nsIn K mainGlobals "BadRun" = some (some (.ref C_BadRun)))
    (e_BadRun : clB K CS C_BadRun = true)
    (a_BadSignal : PySem.W.nsIn K mainGlobals "BadSignal" = some (some (.ref C_BadSignal)))
    (e_BadSignal : clB K CS C_BadSignal = true)
    (a_BadSignals : PySem.W.nsIn K mainGlobals "BadSignals" = some (some (.ref C_BadSignals)))
    (e_BadSignals : clB K CS C_BadSignals = true)
    (a_BadStanding : PySem.W.nsIn K mainGlobals "BadStanding" = some (some (.ref C_BadStanding)))
    (e_BadStanding : clB K CS C_BadStanding = true)
    (a_BadStart : PySem.W.nsIn K mainGlobals "BadStart" = some (some (.ref C_BadStart)))
    (e_BadStart : clB K CS C_BadStart = true)
    (a_BadState : PySem.W.nsIn K mainGlobals "BadState" = some (some (.ref C_BadState)))
    (e_BadState : clB K CS C_BadState = true)
    (a_BadStatement : PySem.W.nsIn K mainGlobals "BadStatement" = some (some (.ref C_BadStatement)))
    (e_BadStatement : clB K CS C_BadStatement = true)
    (a_BadSteps : PySem.W.nsIn K mainGlobals "BadSteps" = some (some (.ref C_BadSteps)))
    (e_BadSteps : clB K CS C_BadSteps = true)
    (a_BadSurroundings : PySem.W.nsIn K mainGlobals "BadSurroundings" = some (some (.ref C_BadSurroundings)))
    (e_BadSurroundings : clB K CS C_BadSurroundings = true)
    (a_BadTable : PySem.W.nsIn K mainGlobals "BadTable" = some (some (.ref C_BadTable)))
    (e_BadTable : clB K CS C_BadTable = true)
    (a_BadText : PySem.W.nsIn K mainGlobals "BadText" = some (some (.ref C_BadText)))
    (e_BadText : clB K CS C_BadText = true)
    (a_BadWord : PySem.W.nsIn K mainGlobals "BadWord" = some (some (.ref C_BadWord)))
    (e_BadWord : clB K CS C_BadWord = true)
    (a_Caught : PySem.W.nsIn K mainGlobals "Caught" = some (some (.ref C_Caught)))
    (e_Caught : clB K CS C_Caught = true)
    (a_Lost : PySem.W.nsIn K mainGlobals "Lost" = some (some (.ref C_Lost)))
    (e_Lost : clB K CS C_Lost = true)
    (a_Missing : PySem.W.nsIn K mainGlobals "Missing" = some (some (.ref C_Missing)))
    (e_Missing : clB K CS C_Missing = true)
    (a_NotFitting : PySem.W.nsIn K mainGlobals "NotFitting" = some (some (.ref C_NotFitting)))
    (e_NotFitting : clB K CS C_NotFitting = true)
    (a_NotHere : PySem.W.nsIn K mainGlobals "NotHere" = some (some (.ref C_NotHere)))
    (e_NotHere : clB K CS C_NotHere = true)
    (a_NotPlain : PySem.W.nsIn K mainGlobals "NotPlain" = some (some (.ref C_NotPlain)))
    (e_NotPlain : clB K CS C_NotPlain = true)
    (a_NotProgram : PySem.W.nsIn K mainGlobals "NotProgram" = some (some (.ref C_NotProgram)))
    (e_NotProgram : clB K CS C_NotProgram = true)
    (a_NotSure : PySem.W.nsIn K mainGlobals "NotSure" = some (some (.ref C_NotSure)))
    (e_NotSure : clB K CS C_NotSure = true)
    (a_NothingDone : PySem.W.nsIn K mainGlobals "NothingDone" = some (some (.ref C_NothingDone)))
    (e_NothingDone : clB K CS C_NothingDone = true)
    (a_NothingUndone : PySem.W.nsIn K mainGlobals "NothingUndone" = some (some (.ref C_NothingUndone)))
    (e_NothingUndone : clB K CS C_NothingUndone = true)
    (a_Ring : PySem.W.nsIn K mainGlobals "Ring" = some (some (.ref C_Ring)))
    (e_Ring : clB K CS C_Ring = true)
    (a_TooMany : PySem.W.nsIn K mainGlobals "TooMany" = some (some (.ref C_TooMany)))
    (e_TooMany : clB K CS C_TooMany = true)
    (a_Unlike : PySem.W.nsIn K mainGlobals "Unlike" = some (some (.ref C_Unlike)))
    (e_Unlike : clB K CS C_Unlike = true)
    (a_Unsure : PySem.W.nsIn K mainGlobals "Unsure" = some (some (.ref C_Unsure)))
    (e_Unsure : clB K CS C_Unsure = true)
    (a_Wide : PySem.W.nsIn K mainGlobals "Wide" = some (some (.ref C_Wide)))
    (e_Wide : clB K CS C_Wide = true)
    (p_BadCases : plB K C_BadCases = true)
    (p_BadCircuit : plB K C_BadCircuit = true)
    (p_BadCode : plB K C_BadCode = true)
    (p_BadDiagram : plB K C_BadDiagram = true)
    (p_BadElement : plB K C_BadElement = true)
    (p_BadFrame : plB K C_BadFrame = true)
    (p_BadGiven : plB K C_BadGiven = true)
    (p_BadHeld : plB K C_BadHeld = true)
    (p_BadLine : plB K C_BadLine = true)
    (p_BadLot : plB K C_BadLot = true)
    (p_BadMachine : plB K C_BadMachine = true)
    (p_BadModule : plB K C_BadModule = true)
    (p_BadName : plB K C_BadName = true)
    (p_BadNames : plB K C_BadNames = true)
    (p_BadNumber : plB K C_BadNumber = true)
    (p_BadOrder : plB K C_BadOrder = true)
    (p_BadOwn : plB K C_BadOwn = true)
    (p_BadPart : plB K C_BadPart = true)
    (p_BadPath : plB K C_BadPath = true)
    (p_BadPicks : plB K C_BadPicks = true)
    (p_BadPiece : plB K C_BadPiece = true)
    (p_BadProgram : plB K C_BadProgram = true)
    (p_BadReadings : plB K C_BadReadings = true)
    (p_BadRest : plB K C_BadRest = true)
    (p_BadRow : plB K C_BadRow = true)
    (p_BadRows : plB K C_BadRows = true)
    (p_BadRun : plB K C_BadRun = true)
    (p_BadSignal : plB K C_BadSignal = true)
    (p_BadSignals : plB K C_BadSignals = true)
    (p_BadStanding : plB K C_BadStanding = true)
    (p_BadStart : plB K C_BadStart = true)
    (p_BadState : plB K C_BadState = true)
    (p_BadStatement : plB K C_BadStatement = true)
    (p_BadSteps : plB K C_BadSteps = true)
    (p_BadSurroundings : plB K C_BadSurroundings = true)
    (p_BadTable : plB K C_BadTable = true)
    (p_BadWord : plB K C_BadWord = true)
    (p_Lost : plB K C_Lost = true)
    (p_NotHere : plB K C_NotHere = true)
    (p_NotPlain : plB K C_NotPlain = true)
    (p_NotProgram : plB K C_NotProgram = true)
    (p_NothingDone : plB K C_NothingDone = true)
    (p_NothingUndone : plB K C_NothingUndone = true)
    (p_Unlike : plB K C_Unlike = true)
    (opq : PySem.W.nsIn K cStatics "thirdparty.any" = some none)
    (top_ : (l.prog.main.scope.names.lookup ("super" : Str)).isSome = false)
    (lC_BadText : K.lookup C_BadText = some (excClassObj nm_BadText q_BadText C_BadText N_BadText bs_BadText bm_BadText true sn_BadText sub_BadText ab_BadText col_BadText dd_BadText k0_BadText k1_BadText k2_BadText k3_BadText k5_BadText "ValueError.__new__"))
    (vb_BadText : PySem.HandSPX.refsVE bm_BadText = true)
    (sa_BadText : PySem.W.findIn K (.ref C_BadText) "__setattr__" = some (some (.builtin "object.__setattr__")))
    (kC_BadText : PySem.W.keepIn K (.ref C_BadText) = true)
    (su_BadText : PySem.W.ks_superIn K C_BadText C_BadText "__init__" = some (some (.builtin "ValueError.__init__")))
    (ho_BadText : PySem.W.findIn K (.ref C_BadText) "index" = some none)
    (iC_BadText : PySem.W.findIn K (.ref C_BadText) "__init__" = some (some (.ref fI_BadText)))
    (tI_BadText : PySem.W.typeIn K (.ref fI_BadText) = some (.type "function"))
    (lk_BadText : K.lookup fI_BadText = some ⟨oc_BadText, od_BadText, .func (PySem.W.ksFn "__init__" "BadText.__init__" (defArgs (inner scBadText)) (defBody (inner scBadText)) (defScope (inner scBadText)) .none kV_BadText dc_BadText pm_BadText an_BadText (.ref cda_BadText) ct_BadText cc_BadText), osl_BadText⟩)
    (cd_BadText : PySem.W.codeIn K (.ref cda_BadText) "BadText.__init__" = true)
    (ce_BadText : K.lookup cc_BadText = some ⟨cl_BadText, cld_BadText, .cell (some (.ref C_BadText)), csl_BadText⟩)
    (hx_BadText : K.lookup cda_BadText = some ⟨ccl_BadText, cdd_BadText, .fields vs_BadText, ccs_BadText⟩)
    (hv_BadText : vs_BadText[2]? = some (.str fl_BadText tf_BadText))
    (hf_BadText : ((l.prog.main.file : Str) == fl_BadText) = true)
    (lC_Caught : K.lookup C_Caught = some (excClassObj nm_Caught q_Caught C_Caught N_Caught bs_Caught bm_Caught true sn_Caught sub_Caught ab_Caught col_Caught dd_Caught k0_Caught k1_Caught k2_Caught k3_Caught k5_Caught "ValueError.__new__"))
    (vb_Caught : PySem.HandSPX.refsVE bm_Caught = true)
    (sa_Caught : PySem.W.findIn K (.ref C_Caught) "__setattr__" = some (some (.builtin "object.__setattr__")))
    (kC_Caught : PySem.W.keepIn K (.ref C_Caught) = true)
    (su_Caught : PySem.W.ks_superIn K C_Caught C_Caught "__init__" = some (some (.builtin "ValueError.__init__")))
    (ho_Caught : PySem.W.findIn K (.ref C_Caught) "signal" = some none)
    (iC_Caught : PySem.W.findIn K (.ref C_Caught) "__init__" = some (some (.ref fI_Caught)))
    (tI_Caught : PySem.W.typeIn K (.ref fI_Caught) = some (.type "function"))
    (lk_Caught : K.lookup fI_Caught = some ⟨oc_Caught, od_Caught, .func (PySem.W.ksFn "__init__" "Caught.__init__" (defArgs (inner scCaught)) (defBody (inner scCaught)) (defScope (inner scCaught)) .none kV_Caught dc_Caught pm_Caught an_Caught (.ref cda_Caught) ct_Caught cc_Caught), osl_Caught⟩)
    (cd_Caught : PySem.W.codeIn K (.ref cda_Caught) "Caught.__init__" = true)
    (ce_Caught : K.lookup cc_Caught = some ⟨cl_Caught, cld_Caught, .cell (some (.ref C_Caught)), csl_Caught⟩)
    (hx_Caught : K.lookup cda_Caught = some ⟨ccl_Caught, cdd_Caught, .fields vs_Caught, ccs_Caught⟩)
    (hv_Caught : vs_Caught[2]? = some (.str fl_Caught tf_Caught))
    (hf_Caught : ((l.prog.main.file : Str) == fl_Caught) = true)
    (lC_Missing : K.lookup C_Missing = some (excClassObj nm_Missing q_Missing C_Missing N_Missing bs_Missing bm_Missing true sn_Missing sub_Missing ab_Missing col_Missing dd_Missing k0_Missing k1_Missing k2_Missing k3_Missing k5_Missing "ValueError.__new__"))
    (vb_Missing : PySem.HandSPX.refsVE bm_Missing = true)
    (sa_Missing : PySem.W.findIn K (.ref C_Missing) "__setattr__" = some (some (.builtin "object.__setattr__")))
    (kC_Missing : PySem.W.keepIn K (.ref C_Missing) = true)
    (su_Missing : PySem.W.ks_superIn K C_Missing C_Missing "__init__" = some (some (.builtin "ValueError.__init__")))
    (ho_Missing : PySem.W.findIn K (.ref C_Missing) "name" = some none)
    (iC_Missing : PySem.W.findIn K (.ref C_Missing) "__init__" = some (some (.ref fI_Missing)))
    (tI_Missing : PySem.W.typeIn K (.ref fI_Missing) = some (.type "function"))
    (lk_Missing : K.lookup fI_Missing = some ⟨oc_Missing, od_Missing, .func (PySem.W.ksFn "__init__" "Missing.__init__" (defArgs (inner scMissing)) (defBody (inner scMissing)) (defScope (inner scMissing)) .none kV_Missing dc_Missing pm_Missing an_Missing (.ref cda_Missing) ct_Missing cc_Missing), osl_Missing⟩)
    (cd_Missing : PySem.W.codeIn K (.ref cda_Missing) "Missing.__init__" = true)
    (ce_Missing : K.lookup cc_Missing = some ⟨cl_Missing, cld_Missing, .cell (some (.ref C_Missing)), csl_Missing⟩)
    (hx_Missing : K.lookup cda_Missing = some ⟨ccl_Missing, cdd_Missing, .fields vs_Missing, ccs_Missing⟩)
    (hv_Missing : vs_Missing[2]? = some (.str fl_Missing tf_Missing))
    (hf_Missing : ((l.prog.main.file : Str) == fl_Missing) = true)
    (lC_NotFitting : K.lookup C_NotFitting = some (excClassObj nm_NotFitting q_NotFitting C_NotFitting N_NotFitting bs_NotFitting bm_NotFitting true sn_NotFitting sub_NotFitting ab_NotFitting col_NotFitting dd_NotFitting k0_NotFitting k1_NotFitting k2_NotFitting k3_NotFitting k5_NotFitting "ValueError.__new__"))
    (vb_NotFitting : PySem.HandSPX.refsVE bm_NotFitting = true)
    (sa_NotFitting : PySem.W.findIn K (.ref C_NotFitting) "__setattr__" = some (some (.builtin "object.__setattr__")))
    (kC_NotFitting : PySem.W.keepIn K (.ref C_NotFitting) = true)
    (su_NotFitting : PySem.W.ks_superIn K C_NotFitting C_NotFitting "__init__" = some (some (.builtin "ValueError.__init__")))
    (ho_NotFitting : PySem.W.findIn K (.ref C_NotFitting) "name" = some none)
    (iC_NotFitting : PySem.W.findIn K (.ref C_NotFitting) "__init__" = some (some (.ref fI_NotFitting)))
    (tI_NotFitting : PySem.W.typeIn K (.ref fI_NotFitting) = some (.type "function"))
    (lk_NotFitting : K.lookup fI_NotFitting = some ⟨oc_NotFitting, od_NotFitting, .func (PySem.W.ksFn "__init__" "NotFitting.__init__" (defArgs (inner scNotFitting)) (defBody (inner scNotFitting)) (defScope (inner scNotFitting)) .none kV_NotFitting dc_NotFitting pm_NotFitting an_NotFitting (.ref cda_NotFitting) ct_NotFitting cc_NotFitting), osl_NotFitting⟩)
    (cd_NotFitting : PySem.W.codeIn K (.ref cda_NotFitting) "NotFitting.__init__" = true)
    (ce_NotFitting : K.lookup cc_NotFitting = some ⟨cl_NotFitting, cld_NotFitting, .cell (some (.ref C_NotFitting)), csl_NotFitting⟩)
    (hx_NotFitting : K.lookup cda_NotFitting = some ⟨ccl_NotFitting, cdd_NotFitting, .fields vs_NotFitting, ccs_NotFitting⟩)
    (hv_NotFitting : vs_NotFitting[2]? = some (.str fl_NotFitting tf_NotFitting))
    (hf_NotFitting : ((l.prog.main.file : Str) == fl_NotFitting) = true)
    (lC_NotSure : K.lookup C_NotSure = some (excClassObj nm_NotSure q_NotSure C_NotSure N_NotSure bs_NotSure bm_NotSure true sn_NotSure sub_NotSure ab_NotSure col_NotSure dd_NotSure k0_NotSure k1_NotSure k2_NotSure k3_NotSure k5_NotSure "ValueError.__new__"))
    (vb_NotSure : PySem.HandSPX.refsVE bm_NotSure = true)
    (sa_NotSure : PySem.W.findIn K (.ref C_NotSure) "__setattr__" = some (some (.builtin "object.__setattr__")))
    (kC_NotSure : PySem.W.keepIn K (.ref C_NotSure) = true)
    (su_NotSure : PySem.W.ks_superIn K C_NotSure C_NotSure "__init__" = some (some (.builtin "ValueError.__init__")))
    (ho_NotSure : PySem.W.findIn K (.ref C_NotSure) "row" = some none)
    (iC_NotSure : PySem.W.findIn K (.ref C_NotSure) "__init__" = some (some (.ref fI_NotSure)))
    (tI_NotSure : PySem.W.typeIn K (.ref fI_NotSure) = some (.type "function"))
    (lk_NotSure : K.lookup fI_NotSure = some ⟨oc_NotSure, od_NotSure, .func (PySem.W.ksFn "__init__" "NotSure.__init__" (defArgs (inner scNotSure)) (defBody (inner scNotSure)) (defScope (inner scNotSure)) .none kV_NotSure dc_NotSure pm_NotSure an_NotSure (.ref cda_NotSure) ct_NotSure cc_NotSure), osl_NotSure⟩)
    (cd_NotSure : PySem.W.codeIn K (.ref cda_NotSure) "NotSure.__init__" = true)
    (ce_NotSure : K.lookup cc_NotSure = some ⟨cl_NotSure, cld_NotSure, .cell (some (.ref C_NotSure)), csl_NotSure⟩)
    (hx_NotSure : K.lookup cda_NotSure = some ⟨ccl_NotSure, cdd_NotSure, .fields vs_NotSure, ccs_NotSure⟩)
    (hv_NotSure : vs_NotSure[2]? = some (.str fl_NotSure tf_NotSure))
    (hf_NotSure : ((l.prog.main.file : Str) == fl_NotSure) = true)
    (lC_Ring : K.lookup C_Ring = some (excClassObj nm_Ring q_Ring C_Ring N_Ring bs_Ring bm_Ring true sn_Ring sub_Ring ab_Ring col_Ring dd_Ring k0_Ring k1_Ring k2_Ring k3_Ring k5_Ring "ValueError.__new__"))
    (vb_Ring : PySem.HandSPX.refsVE bm_Ring = true)
    (sa_Ring : PySem.W.findIn K (.ref C_Ring) "__setattr__" = some (some (.builtin "object.__setattr__")))
    (kC_Ring : PySem.W.keepIn K (.ref C_Ring) = true)
    (su_Ring : PySem.W.ks_superIn K C_Ring C_Ring "__init__" = some (some (.builtin "ValueError.__init__")))
    (ho_Ring : PySem.W.findIn K (.ref C_Ring) "name" = some none)
    (iC_Ring : PySem.W.findIn K (.ref C_Ring) "__init__" = some (some (.ref fI_Ring)))
    (tI_Ring : PySem.W.typeIn K (.ref fI_Ring) = some (.type "function"))
    (lk_Ring : K.lookup fI_Ring = some ⟨oc_Ring, od_Ring, .func (PySem.W.ksFn "__init__" "Ring.__init__" (defArgs (inner scRing)) (defBody (inner scRing)) (defScope (inner scRing)) .none kV_Ring dc_Ring pm_Ring an_Ring (.ref cda_Ring) ct_Ring cc_Ring), osl_Ring⟩)
    (cd_Ring : PySem.W.codeIn K (.ref cda_Ring) "Ring.__init__" = true)
    (ce_Ring : K.lookup cc_Ring = some ⟨cl_Ring, cld_Ring, .cell (some (.ref C_Ring)), csl_Ring⟩)
    (hx_Ring : K.lookup cda_Ring = some ⟨ccl_Ring, cdd_Ring, .fields vs_Ring, ccs_Ring⟩)
    (hv_Ring : vs_Ring[2]? = some (.str fl_Ring tf_Ring))
    (hf_Ring : ((l.prog.main.file : Str) == fl_Ring) = true)
    (lC_TooMany : K.lookup C_TooMany = some (excClassObj nm_TooMany q_TooMany C_TooMany N_TooMany bs_TooMany bm_TooMany true sn_TooMany sub_TooMany ab_TooMany col_TooMany dd_TooMany k0_TooMany k1_TooMany k2_TooMany k3_TooMany k5_TooMany "ValueError.__new__"))
    (vb_TooMany : PySem.HandSPX.refsVE bm_TooMany = true)
    (sa_TooMany : PySem.W.findIn K (.ref C_TooMany) "__setattr__" = some (some (.builtin "object.__setattr__")))
    (kC_TooMany : PySem.W.keepIn K (.ref C_TooMany) = true)
    (su_TooMany : PySem.W.ks_superIn K C_TooMany C_TooMany "__init__" = some (some (.builtin "ValueError.__init__")))
    (ho_TooMany : PySem.W.findIn K (.ref C_TooMany) "most" = some none)
    (iC_TooMany : PySem.W.findIn K (.ref C_TooMany) "__init__" = some (some (.ref fI_TooMany)))
    (tI_TooMany : PySem.W.typeIn K (.ref fI_TooMany) = some (.type "function"))
    (lk_TooMany : K.lookup fI_TooMany = some ⟨oc_TooMany, od_TooMany, .func (PySem.W.ksFn "__init__" "TooMany.__init__" (defArgs (inner scTooMany)) (defBody (inner scTooMany)) (defScope (inner scTooMany)) .none kV_TooMany dc_TooMany pm_TooMany an_TooMany (.ref cda_TooMany) ct_TooMany cc_TooMany), osl_TooMany⟩)
    (cd_TooMany : PySem.W.codeIn K (.ref cda_TooMany) "TooMany.__init__" = true)
    (ce_TooMany : K.lookup cc_TooMany = some ⟨cl_TooMany, cld_TooMany, .cell (some (.ref C_TooMany)), csl_TooMany⟩)
    (hx_TooMany : K.lookup cda_TooMany = some ⟨ccl_TooMany, cdd_TooMany, .fields vs_TooMany, ccs_TooMany⟩)
    (hv_TooMany : vs_TooMany[2]? = some (.str fl_TooMany tf_TooMany))
    (hf_TooMany : ((l.prog.main.file : Str) == fl_TooMany) = true)
    (lC_Unsure : K.lookup C_Unsure = some (excClassObj nm_Unsure q_Unsure C_Unsure N_Unsure bs_Unsure bm_Unsure true sn_Unsure sub_Unsure ab_Unsure col_Unsure dd_Unsure k0_Unsure k1_Unsure k2_Unsure k3_Unsure k5_Unsure "ValueError.__new__"))
    (vb_Unsure : PySem.HandSPX.refsVE bm_Unsure = true)
    (sa_Unsure : PySem.W.findIn K (.ref C_Unsure) "__setattr__" = some (some (.builtin "object.__setattr__")))
    (kC_Unsure : PySem.W.keepIn K (.ref C_Unsure) = true)
    (su_Unsure : PySem.W.ks_superIn K C_Unsure C_Unsure "__init__" = some (some (.builtin "ValueError.__init__")))
    (ho_Unsure : PySem.W.findIn K (.ref C_Unsure) "index" = some none)
    (iC_Unsure : PySem.W.findIn K (.ref C_Unsure) "__init__" = some (some (.ref fI_Unsure)))
    (tI_Unsure : PySem.W.typeIn K (.ref fI_Unsure) = some (.type "function"))
    (lk_Unsure : K.lookup fI_Unsure = some ⟨oc_Unsure, od_Unsure, .func (PySem.W.ksFn "__init__" "Unsure.__init__" (defArgs (inner scUnsure)) (defBody (inner scUnsure)) (defScope (inner scUnsure)) .none kV_Unsure dc_Unsure pm_Unsure an_Unsure (.ref cda_Unsure) ct_Unsure cc_Unsure), osl_Unsure⟩)
    (cd_Unsure : PySem.W.codeIn K (.ref cda_Unsure) "Unsure.__init__" = true)
    (ce_Unsure : K.lookup cc_Unsure = some ⟨cl_Unsure, cld_Unsure, .cell (some (.ref C_Unsure)), csl_Unsure⟩)
    (hx_Unsure : K.lookup cda_Unsure = some ⟨ccl_Unsure, cdd_Unsure, .fields vs_Unsure, ccs_Unsure⟩)
    (hv_Unsure : vs_Unsure[2]? = some (.str fl_Unsure tf_Unsure))
    (hf_Unsure : ((l.prog.main.file : Str) == fl_Unsure) = true)
    (lC_Wide : K.lookup C_Wide = some (excClassObj nm_Wide q_Wide C_Wide N_Wide bs_Wide bm_Wide true sn_Wide sub_Wide ab_Wide col_Wide dd_Wide k0_Wide k1_Wide k2_Wide k3_Wide k5_Wide "ValueError.__new__"))
    (vb_Wide : PySem.HandSPX.refsVE bm_Wide = true)
    (sa_Wide : PySem.W.findIn K (.ref C_Wide) "__setattr__" = some (some (.builtin "object.__setattr__")))
    (kC_Wide : PySem.W.keepIn K (.ref C_Wide) = true)
    (su_Wide : PySem.W.ks_superIn K C_Wide C_Wide "__init__" = some (some (.builtin "ValueError.__init__")))
    (ho_Wide : PySem.W.findIn K (.ref C_Wide) "most" = some none)
    (iC_Wide : PySem.W.findIn K (.ref C_Wide) "__init__" = some (some (.ref fI_Wide)))
    (tI_Wide : PySem.W.typeIn K (.ref fI_Wide) = some (.type "function"))
    (lk_Wide : K.lookup fI_Wide = some ⟨oc_Wide, od_Wide, .func (PySem.W.ksFn "__init__" "Wide.__init__" (defArgs (inner scWide)) (defBody (inner scWide)) (defScope (inner scWide)) .none kV_Wide dc_Wide pm_Wide an_Wide (.ref cda_Wide) ct_Wide cc_Wide), osl_Wide⟩)
    (cd_Wide : PySem.W.codeIn K (.ref cda_Wide) "Wide.__init__" = true)
    (ce_Wide : K.lookup cc_Wide = some ⟨cl_Wide, cld_Wide, .cell (some (.ref C_Wide)), csl_Wide⟩)
    (hx_Wide : K.lookup cda_Wide = some ⟨ccl_Wide, cdd_Wide, .fields vs_Wide, ccs_Wide⟩)
    (hv_Wide : vs_Wide[2]? = some (.str fl_Wide tf_Wide))
    (hf_Wide : ((l.prog.main.file : Str) == fl_Wide) = true)
    (nd : ((([("BadCases", C_BadCases), ("BadCircuit", C_BadCircuit), ("BadCode", C_BadCode), ("BadDiagram", C_BadDiagram), ("BadElement", C_BadElement), ("BadFrame", C_BadFrame), ("BadGiven", C_BadGiven), ("BadHeld", C_BadHeld), ("BadLine", C_BadLine), ("BadLot", C_BadLot), ("BadMachine", C_BadMachine), ("BadModule", C_BadModule), ("BadName", C_BadName), ("BadNames", C_BadNames), ("BadNumber", C_BadNumber), ("BadOrder", C_BadOrder), ("BadOwn", C_BadOwn), ("BadPart", C_BadPart), ("BadPath", C_BadPath), ("BadPicks", C_BadPicks), ("BadPiece", C_BadPiece), ("BadProgram", C_BadProgram), ("BadReadings", C_BadReadings), ("BadRest", C_BadRest)] : List Cl) ++ ([("BadRow", C_BadRow), ("BadRows", C_BadRows), ("BadRun", C_BadRun), ("BadSignal", C_BadSignal), ("BadSignals", C_BadSignals), ("BadStanding", C_BadStanding), ("BadStart", C_BadStart), ("BadState", C_BadState), ("BadStatement", C_BadStatement), ("BadSteps", C_BadSteps), ("BadSurroundings", C_BadSurroundings), ("BadTable", C_BadTable), ("BadText", C_BadText), ("BadWord", C_BadWord), ("Caught", C_Caught), ("Lost", C_Lost), ("Missing", C_Missing), ("NotFitting", C_NotFitting), ("NotHere", C_NotHere), ("NotPlain", C_NotPlain), ("NotProgram", C_NotProgram), ("NotSure", C_NotSure), ("NothingDone", C_NothingDone), ("NothingUndone", C_NothingUndone)] : List Cl) ++ ([("Ring", C_Ring), ("TooMany", C_TooMany), ("Unlike", C_Unlike), ("Unsure", C_Unsure), ("Wide", C_Wide)] : List Cl)).map (·.2)).Nodup)
    (r1 : PySem.W.specialIn K (.builtin "object.__class__") "__get__" = some (some (.builtin "getset_descriptor.__get__")))
    (r2 : PySem.W.takesIn K (.builtin "object.__class__") = some true) :
    GE.LawAtG l w K CX0 12 63 "script" mg fa h := by
  have e := hfa.symm.trans (PySem.W.mg_of X G a11)
  cases e
  have F0 := fun_mk (st := sBegun) l0 c0' k0
  have b0 := F0.binds (ps := ["script"]) fun _ _ _ _ _ _ us hl => match us, hl with | [_], _ => rfl
  have g_0 := PySem.W.mg_of X G a0
  have F1 := fun_mk (st := sDraw) l1 c1' k1
  have b1 := F1.binds (ps := ["state", "size_here"]) fun _ _ _ _ _ _ us hl => match us, hl with | [_, _], _ => rfl
  have g_1 := PySem.W.mg_of X G a1
  have F2 := fun_mk (st := sPick) l2 c2' k2
  have b2 := F2.binds (ps := ["state", "several"]) fun _ _ _ _ _ _ us hl => match us, hl with | [_, _], _ => rfl
  have g_2 := PySem.W.mg_of X G a2
  have F3 := fun_mk (st := sOdd) l3 c3' k3
  have b3 := F3.binds (ps := ["state"]) fun _ _ _ _ _ _ us hl => match us, hl with | [_], _ => rfl
  have g_3 := PySem.W.mg_of X G a3
  have F4 := fun_mk (st := sKdA) l4 c4' k4
  have b4 := F4.binds (ps := ["caught"]) fun _ _ _ _ _ _ us hl => match us, hl with | [_], _ => rfl
  have g_4 := PySem.W.mg_of X G a4
  have F5 := fun_mk (st := sKdB) l5 c5' k5
  have b5 := F5.binds (ps := ["caught"]) fun _ _ _ _ _ _ us hl => match us, hl with | [_], _ => rfl
  have g_5 := PySem.W.mg_of X G a5
  have F6 := fun_mk (st := sKdC) l6 c6' k6
  have b6 := F6.binds (ps := ["caught"]) fun _ _ _ _ _ _ us hl => match us, hl with | [_], _ => rfl
  have g_6 := PySem.W.mg_of X G a6
  have F7 := fun_mk (st := sPlA) l7 c7' k7
  have b7 := F7.binds (ps := ["text_here"]) fun _ _ _ _ _ _ us hl => match us, hl with | [_], _ => rfl
  have g_7 := PySem.W.mg_of X G a7
  have F8 := fun_mk (st := sPlB) l8 c8' k8
  have b8 := F8.binds (ps := ["text_here"]) fun _ _ _ _ _ _ us hl => match us, hl with | [_], _ => rfl
  have g_8 := PySem.W.mg_of X G a8
  have F9 := fun_mk (st := sHeld) l9 c9' k9
  have b9 := F9.binds (ps := ["item"]) fun _ _ _ _ _ _ us hl => match us, hl with | [_], _ => rfl
  have g_9 := PySem.W.mg_of X G a9
  have F10 := fun_mk (st := sAl) l10 c10' k10
  have b10 := F10.binds (ps := ["caught", "name_here"]) fun _ _ _ _ _ _ us hl => match us, hl with | [_, _], _ => rfl
  have g_10 := PySem.W.mg_of X G a10
  have F11 := fun_mk (st := sLaw) l11 c11' k11
  have b11 := F11.binds (ps := ["script"]) fun _ _ _ _ _ _ us hl => match us, hl with | [_], _ => rfl
  have g_11 := PySem.W.mg_of X G a11
  have y_int := PySem.W.mg_none_of X G z_int
  have y_len := PySem.W.mg_none_of X G z_len
  have y_abs := PySem.W.mg_none_of X G z_abs
  have y_isinstance := PySem.W.mg_none_of X G z_isinstance
  have y_range := PySem.W.mg_none_of X G z_range
  have y_min := PySem.W.mg_none_of X G z_min
  have y_repr := PySem.W.mg_none_of X G z_repr
  have y_ValueError := PySem.W.mg_none_of X G z_ValueError
  have y_super := PySem.W.mg_none_of X G z_super
  obtain ⟨i_BadCases, n_BadCases, x_BadCases⟩ := clB_ok (n := "BadCases") r1 r2 (PySem.W.mg_of X G a_BadCases) e_BadCases
  obtain ⟨i_BadCircuit, n_BadCircuit, x_BadCircuit⟩ := clB_ok (n := "BadCircuit") r1 r2 (PySem.W.mg_of X G a_BadCircuit) e_BadCircuit
  obtain ⟨i_BadCode, n_BadCode, x_BadCode⟩ := clB_ok (n := "BadCode") r1 r2 (PySem.W.mg_of X G a_BadCode) e_BadCode
  obtain ⟨i_BadDiagram, n_BadDiagram, x_BadDiagram⟩ := clB_ok (n := "BadDiagram") r1 r2 (PySem.W.mg_of X G a_BadDiagram) e_BadDiagram
  obtain ⟨i_BadElement, n_BadElement, x_BadElement⟩ := clB_ok (n := "BadElement") r1 r2 (PySem.W.mg_of X G a_BadElement) e_BadElement
  obtain ⟨i_BadFrame, n_BadFrame, x_BadFrame⟩ := clB_ok (n := "BadFrame") r1 r2 (PySem.W.mg_of X G a_BadFrame) e_BadFrame
  obtain ⟨i_BadGiven, n_BadGiven, x_BadGiven⟩ := clB_ok (n := "BadGiven") r1 r2 (PySem.W.mg_of X G a_BadGiven) e_BadGiven
  obtain ⟨i_BadHeld, n_BadHeld, x_BadHeld⟩ := clB_ok (n := "BadHeld") r1 r2 (PySem.W.mg_of X G a_BadHeld) e_BadHeld
  obtain ⟨i_BadLine, n_BadLine, x_BadLine⟩ := clB_ok (n := "BadLine") r1 r2 (PySem.W.mg_of X G a_BadLine) e_BadLine
  obtain ⟨i_BadLot, n_BadLot, x_BadLot⟩ := clB_ok (n := "BadLot") r1 r2 (PySem.W.mg_of X G a_BadLot) e_BadLot
  obtain ⟨i_BadMachine, n_BadMachine, x_BadMachine⟩ := clB_ok (n := "BadMachine") r1 r2 (PySem.W.mg_of X G a_BadMachine) e_BadMachine
  obtain ⟨i_BadModule, n_BadModule, x_BadModule⟩ := clB_ok (n := "BadModule") r1 r2 (PySem.W.mg_of X G a_BadModule) e_BadModule
  obtain ⟨i_BadName, n_BadName, x_BadName⟩ := clB_ok (n := "BadName") r1 r2 (PySem.W.mg_of X G a_BadName) e_BadName
  obtain ⟨i_BadNames, n_BadNames, x_BadNames⟩ := clB_ok (n := "BadNames") r1 r2 (PySem.W.mg_of X G a_BadNames) e_BadNames
  obtain ⟨i_BadNumber, n_BadNumber, x_BadNumber⟩ := clB_ok (n := "BadNumber") r1 r2 (PySem.W.mg_of X G a_BadNumber) e_BadNumber
  obtain ⟨i_BadOrder, n_BadOrder, x_BadOrder⟩ := clB_ok (n := "BadOrder") r1 r2 (PySem.W.mg_of X G a_BadOrder) e_BadOrder
  obtain ⟨i_BadOwn, n_BadOwn, x_BadOwn⟩ := clB_ok (n := "BadOwn") r1 r2 (PySem.W.mg_of X G a_BadOwn) e_BadOwn
  obtain ⟨i_BadPart, n_BadPart, x_BadPart⟩ := clB_ok (n := "BadPart") r1 r2 (PySem.W.mg_of X G a_BadPart) e_BadPart
  obtain ⟨i_BadPath, n_BadPath, x_BadPath⟩ := clB_ok (n := "BadPath") r1 r2 (PySem.W.mg_of X G a_BadPath) e_BadPath
  obtain ⟨i_BadPicks, n_BadPicks, x_BadPicks⟩ := clB_ok (n := "BadPicks") r1 r2 (PySem.W.mg_of X G a_BadPicks) e_BadPicks
  obtain ⟨i_BadPiece, n_BadPiece, x_BadPiece⟩ := clB_ok (n := "BadPiece") r1 r2 (PySem.W.mg_of X G a_BadPiece) e_BadPiece
  obtain ⟨i_BadProgram, n_BadProgram, x_BadProgram⟩ := clB_ok (n := "BadProgram") r1 r2 (PySem.W.mg_of X G a_BadProgram) e_BadProgram
  obtain ⟨i_BadReadings, n_BadReadings, x_BadReadings⟩ := clB_ok (n := "BadReadings") r1 r2 (PySem.W.mg_of X G a_BadReadings) e_BadReadings
  obtain ⟨i_BadRest, n_BadRest, x_BadRest⟩ := clB_ok (n := "BadRest") r1 r2 (PySem.W.mg_of X G a_BadRest) e_BadRest
  obtain ⟨i_BadRow, n_BadRow, x_BadRow⟩ := clB_ok (n := "BadRow") r1 r2 (PySem.W.mg_of X G a_BadRow) e_BadRow
  obtain ⟨i_BadRows, n_BadRows, x_BadRows⟩ := clB_ok (n := "BadRows") r1 r2 (PySem.W.mg_of X G a_BadRows) e_BadRows
  obtain ⟨i_BadRun, n_BadRun, x_BadRun⟩ := clB_ok (n := "BadRun") r1 r2 (PySem.W.mg_of X G a_BadRun) e_BadRun
  obtain ⟨i_BadSignal, n_BadSignal, x_BadSignal⟩ := clB_ok (n := "BadSignal") r1 r2 (PySem.W.mg_of X G a_BadSignal) e_BadSignal
  obtain ⟨i_BadSignals, n_BadSignals, x_BadSignals⟩ := clB_ok (n := "BadSignals") r1 r2 (PySem.W.mg_of X G a_BadSignals) e_BadSignals
  obtain ⟨i_BadStanding, n_BadStanding, x_BadStanding⟩ := clB_ok (n := "BadStanding") r1 r2 (PySem.W.mg_of X G a_BadStanding) e_BadStanding
  obtain ⟨i_BadStart, n_BadStart, x_BadStart⟩ := clB_ok (n := "BadStart") r1 r2 (PySem.W.mg_of X G a_BadStart) e_BadStart
  obtain ⟨i_BadState, n_BadState, x_BadState⟩ := clB_ok (n := "BadState") r1 r2 (PySem.W.mg_of X G a_BadState) e_BadState
  obtain ⟨i_BadStatement, n_BadStatement, x_BadStatement⟩ := clB_ok (n := "BadStatement") r1 r2 (PySem.W.mg_of X G a_BadStatement) e_BadStatement
  obtain ⟨i_BadSteps, n_BadSteps, x_BadSteps⟩ := clB_ok (n := "BadSteps") r1 r2 (PySem.W.mg_of X G a_BadSteps) e_BadSteps
  obtain ⟨i_BadSurroundings, n_BadSurroundings, x_BadSurroundings⟩ := clB_ok (n := "BadSurroundings") r1 r2 (PySem.W.mg_of X G a_BadSurroundings) e_BadSurroundings
  obtain ⟨i_BadTable, n_BadTable, x_BadTable⟩ := clB_ok (n := "BadTable") r1 r2 (PySem.W.mg_of X G a_BadTable) e_BadTable
  obtain ⟨i_BadText, n_BadText, x_BadText⟩ := clB_ok (n := "BadText") r1 r2 (PySem.W.mg_of X G a_BadText) e_BadText
  obtain ⟨i_BadWord, n_BadWord, x_BadWord⟩ := clB_ok (n := "BadWord") r1 r2 (PySem.W.mg_of X G a_BadWord) e_BadWord
  obtain ⟨i_Caught, n_Caught, x_Caught⟩ := clB_ok (n := "Caught") r1 r2 (PySem.W.mg_of X G a_Caught) e_Caught
  obtain ⟨i_Lost, n_Lost, x_Lost⟩ := clB_ok (n := "Lost") r1 r2 (PySem.W.mg_of X G a_Lost) e_Lost
  obtain ⟨i_Missing, n_Missing, x_Missing⟩ := clB_ok (n := "Missing") r1 r2 (PySem.W.mg_of X G a_Missing) e_Missing
  obtain ⟨i_NotFitting, n_NotFitting, x_NotFitting⟩ := clB_ok (n := "NotFitting") r1 r2 (PySem.W.mg_of X G a_NotFitting) e_NotFitting
  obtain ⟨i_NotHere, n_NotHere, x_NotHere⟩ := clB_ok (n := "NotHere") r1 r2 (PySem.W.mg_of X G a_NotHere) e_NotHere
  obtain ⟨i_NotPlain, n_NotPlain, x_NotPlain⟩ := clB_ok (n := "NotPlain") r1 r2 (PySem.W.mg_of X G a_NotPlain) e_NotPlain
  obtain ⟨i_NotProgram, n_NotProgram, x_NotProgram⟩ := clB_ok (n := "NotProgram") r1 r2 (PySem.W.mg_of X G a_NotProgram) e_NotProgram
  obtain ⟨i_NotSure, n_NotSure, x_NotSure⟩ := clB_ok (n := "NotSure") r1 r2 (PySem.W.mg_of X G a_NotSure) e_NotSure
  obtain ⟨i_NothingDone, n_NothingDone, x_NothingDone⟩ := clB_ok (n := "NothingDone") r1 r2 (PySem.W.mg_of X G a_NothingDone) e_NothingDone
  obtain ⟨i_NothingUndone, n_NothingUndone, x_NothingUndone⟩ := clB_ok (n := "NothingUndone") r1 r2 (PySem.W.mg_of X G a_NothingUndone) e_NothingUndone
  obtain ⟨i_Ring, n_Ring, x_Ring⟩ := clB_ok (n := "Ring") r1 r2 (PySem.W.mg_of X G a_Ring) e_Ring
  obtain ⟨i_TooMany, n_TooMany, x_TooMany⟩ := clB_ok (n := "TooMany") r1 r2 (PySem.W.mg_of X G a_TooMany) e_TooMany
  obtain ⟨i_Unlike, n_Unlike, x_Unlike⟩ := clB_ok (n := "Unlike") r1 r2 (PySem.W.mg_of X G a_Unlike) e_Unlike
  obtain ⟨i_Unsure, n_Unsure, x_Unsure⟩ := clB_ok (n := "Unsure") r1 r2 (PySem.W.mg_of X G a_Unsure) e_Unsure
  obtain ⟨i_Wide, n_Wide, x_Wide⟩ := clB_ok (n := "Wide") r1 r2 (PySem.W.mg_of X G a_Wide) e_Wide
  have T_BadText : OexC K C_BadText := ⟨⟨_, _, _, _, _, _, _, _, _, _, _, _, _, _, _, lC_BadText, vb_BadText⟩, sa_BadText, x_BadText.exC, i_BadText.ty, kC_BadText⟩
  have T_Caught : OexC K C_Caught := ⟨⟨_, _, _, _, _, _, _, _, _, _, _, _, _, _, _, lC_Caught, vb_Caught⟩, sa_Caught, x_Caught.exC, i_Caught.ty, kC_Caught⟩
  have T_Missing : OexC K C_Missing := ⟨⟨_, _, _, _, _, _, _, _, _, _, _, _, _, _, _, lC_Missing, vb_Missing⟩, sa_Missing, x_Missing.exC, i_Missing.ty, kC_Missing⟩
  have T_NotFitting : OexC K C_NotFitting := ⟨⟨_, _, _, _, _, _, _, _, _, _, _, _, _, _, _, lC_NotFitting, vb_NotFitting⟩, sa_NotFitting, x_NotFitting.exC, i_NotFitting.ty, kC_NotFitting⟩
  have T_NotSure : OexC K C_NotSure := ⟨⟨_, _, _, _, _, _, _, _, _, _, _, _, _, _, _, lC_NotSure, vb_NotSure⟩, sa_NotSure, x_NotSure.exC, i_NotSure.ty, kC_NotSure⟩
  have T_Ring : OexC K C_Ring := ⟨⟨_, _, _, _, _, _, _, _, _, _, _, _, _, _, _, lC_Ring, vb_Ring⟩, sa_Ring, x_Ring.exC, i_Ring.ty, kC_Ring⟩
  have T_TooMany : OexC K C_TooMany := ⟨⟨_, _, _, _, _, _, _, _, _, _, _, _, _, _, _, lC_TooMany, vb_TooMany⟩, sa_TooMany, x_TooMany.exC, i_TooMany.ty, kC_TooMany⟩
  have T_Unsure : OexC K C_Unsure := ⟨⟨_, _, _, _, _, _, _, _, _, _, _, _, _, _, _, lC_Unsure, vb_Unsure⟩, sa_Unsure, x_Unsure.exC, i_Unsure.ty, kC_Unsure⟩
  have T_Wide : OexC K C_Wide := ⟨⟨_, _, _, _, _, _, _, _, _, _, _, _, _, _, _, lC_Wide, vb_Wide⟩, sa_Wide, x_Wide.exC, i_Wide.ty, kC_Wide⟩
  refine ⟨PySem.W.fnOf "law" "law" (defArgs sLaw) (defBody sLaw) (defScope sLaw) .none kV11 dc11 pm11 an11 (.ref c11) ct11, [], spLaw0 K, fun p hp => (nomatch hp), fun p hp => (nomatch hp), fun p hp => (nomatch hp), fun s u => .of_eq rfl, fun H a ns hl _ hT hS => ⟨a, ns, rfl, hS, hl, fun _ => rfl⟩, fun base KB GB TB => ?_⟩
  have G0 := ok_begun (P := l.prog) (w := w) (mg := mg) (base := base) F0 y_abs
  have G1 := ok_draw (P := l.prog) (w := w) (mg := mg) (base := base) F1 y_int y_len
  have G2 := ok_pick F2 y_len G1 F1.kp b1 g_1
  have G3 := ok_odd F3 ⟨_, _, G2, F2.kp, b2, g_2⟩
  have G4 := ok_ka (P := l.prog) (w := w) (mg := mg) (base := base) F4 y_isinstance i_BadCases n_BadCases i_BadCircuit n_BadCircuit i_BadCode n_BadCode i_BadDiagram n_BadDiagram i_BadElement n_BadElement i_BadFrame n_BadFrame i_BadGiven n_BadGiven i_BadHeld n_BadHeld i_BadLine n_BadLine i_BadLot n_BadLot i_BadMachine n_BadMachine i_BadModule n_BadModule i_BadName n_BadName i_BadNames n_BadNames i_BadNumber n_BadNumber i_BadOrder n_BadOrder i_BadOwn n_BadOwn i_BadPart n_BadPart i_BadPath n_BadPath i_BadPicks n_BadPicks i_BadPiece n_BadPiece i_BadProgram n_BadProgram i_BadReadings n_BadReadings i_BadRest n_BadRest
  have G5 := ok_kb (P := l.prog) (w := w) (mg := mg) (base := base) F5 y_isinstance i_BadRow n_BadRow i_BadRows n_BadRows i_BadRun n_BadRun i_BadSignal n_BadSignal i_BadSignals n_BadSignals i_BadStanding n_BadStanding i_BadStart n_BadStart i_BadState n_BadState i_BadStatement n_BadStatement i_BadSteps n_BadSteps i_BadSurroundings n_BadSurroundings i_BadTable n_BadTable i_BadText n_BadText i_BadWord n_BadWord i_Caught n_Caught i_Lost n_Lost i_Missing n_Missing i_NotFitting n_NotFitting i_NotHere n_NotHere i_NotPlain n_NotPlain i_NotProgram n_NotProgram i_NotSure n_NotSure i_NothingDone n_NothingDone i_NothingUndone n_NothingUndone
  have G6 := ok_kc (P := l.prog) (w := w) (mg := mg) (base := base) F6 y_isinstance i_Ring n_Ring i_TooMany n_TooMany i_Unlike n_Unlike i_Unsure n_Unsure i_Wide n_Wide
  have G7 := ok_pla (P := l.prog) (w := w) (mg := mg) (base := base) F7 (plB_ok i_BadCases p_BadCases) (plB_ok i_BadCircuit p_BadCircuit) (plB_ok i_BadCode p_BadCode) (plB_ok i_BadDiagram p_BadDiagram) (plB_ok i_BadElement p_BadElement) (plB_ok i_BadFrame p_BadFrame) (plB_ok i_BadGiven p_BadGiven) (plB_ok i_BadHeld p_BadHeld) (plB_ok i_BadLine p_BadLine) (plB_ok i_BadLot p_BadLot) (plB_ok i_BadMachine p_BadMachine) (plB_ok i_BadModule p_BadModule) (plB_ok i_BadName p_BadName) (plB_ok i_BadNames p_BadNames) (plB_ok i_BadNumber p_BadNumber) (plB_ok i_BadOrder p_BadOrder) (plB_ok i_BadOwn p_BadOwn) (plB_ok i_BadPart p_BadPart) (plB_ok i_BadPath p_BadPath) (plB_ok i_BadPicks p_BadPicks) (plB_ok i_BadPiece p_BadPiece) (plB_ok i_BadProgram p_BadProgram) (plB_ok i_BadReadings p_BadReadings) (plB_ok i_BadRest p_BadRest)
  have G8 := ok_plb (P := l.prog) (w := w) (mg := mg) (base := base) F8 (plB_ok i_BadRow p_BadRow) (plB_ok i_BadRows p_BadRows) (plB_ok i_BadRun p_BadRun) (plB_ok i_BadSignal p_BadSignal) (plB_ok i_BadSignals p_BadSignals) (plB_ok i_BadStanding p_BadStanding) (plB_ok i_BadStart p_BadStart) (plB_ok i_BadState p_BadState) (plB_ok i_BadStatement p_BadStatement) (plB_ok i_BadSteps p_BadSteps) (plB_ok i_BadSurroundings p_BadSurroundings) (plB_ok i_BadTable p_BadTable) (plB_ok i_BadWord p_BadWord) (plB_ok i_Lost p_Lost) (plB_ok i_NotHere p_NotHere) (plB_ok i_NotPlain p_NotPlain) (plB_ok i_NotProgram p_NotProgram) (plB_ok i_NothingDone p_NothingDone) (plB_ok i_NothingUndone p_NothingUndone) (plB_ok i_Unlike p_Unlike)
  have J_BadText : CF l.prog w K mg base CS ("BadText", C_BadText) "index" := {
      toCI := i_BadText
      T := T_BadText
      xf := x_BadText
      hno := ho_BadText
      init := ⟨fI_BadText, _, iC_BadText, tI_BadText, ES.ok_init (p := "index") (fld := "index") (ES.iniScope_ok (by simp)) (init_k i_BadText T_BadText opq su_BadText ce_BadText hx_BadText hv_BadText hf_BadText top_ y_super) ho_BadText lk_BadText cd_BadText (by decide) (by decide) (fun _ => rfl), Binds.all (fun us hl => match us, hl with | [_, _], _ => rfl), kbI fun _ _ => rfl⟩ }
  have J_Caught : CF l.prog w K mg base CS ("Caught", C_Caught) "signal" := {
      toCI := i_Caught
      T := T_Caught
      xf := x_Caught
      hno := ho_Caught
      init := ⟨fI_Caught, _, iC_Caught, tI_Caught, ES.ok_init (p := "signal") (fld := "signal") (ES.iniScope_ok (by simp)) (init_k i_Caught T_Caught opq su_Caught ce_Caught hx_Caught hv_Caught hf_Caught top_ y_super) ho_Caught lk_Caught cd_Caught (by decide) (by decide) (fun _ => rfl), Binds.all (fun us hl => match us, hl with | [_, _], _ => rfl), kbI fun _ _ => rfl⟩ }
  have J_Missing : CF l.prog w K mg base CS ("Missing", C_Missing) "name" := {
      toCI := i_Missing
      T := T_Missing
      xf := x_Missing
      hno := ho_Missing
      init := ⟨fI_Missing, _, iC_Missing, tI_Missing, ES.ok_init (p := "name") (fld := "name") (ES.iniScope_ok (by simp)) (init_k i_Missing T_Missing opq su_Missing ce_Missing hx_Missing hv_Missing hf_Missing top_ y_super) ho_Missing lk_Missing cd_Missing (by decide) (by decide) (fun _ => rfl), Binds.all (fun us hl => match us, hl with | [_, _], _ => rfl), kbI fun _ _ => rfl⟩ }
  have J_NotFitting : CF l.prog w K mg base CS ("NotFitting", C_NotFitting) "name" := {
      toCI := i_NotFitting
      T := T_NotFitting
      xf := x_NotFitting
      hno := ho_NotFitting
      init := ⟨fI_NotFitting, _, iC_NotFitting, tI_NotFitting, ES.ok_init (p := "name") (fld := "name") (ES.iniScope_ok (by simp)) (init_k i_NotFitting T_NotFitting opq su_NotFitting ce_NotFitting hx_NotFitting hv_NotFitting hf_NotFitting top_ y_super) ho_NotFitting lk_NotFitting cd_NotFitting (by decide) (by decide) (fun _ => rfl), Binds.all (fun us hl => match us, hl with | [_, _], _ => rfl), kbI fun _ _ => rfl⟩ }
  have J_NotSure : CF l.prog w K mg base CS ("NotSure", C_NotSure) "row" := {
      toCI := i_NotSure
      T := T_NotSure
      xf := x_NotSure
      hno := ho_NotSure
      init := ⟨fI_NotSure, _, iC_NotSure, tI_NotSure, ES.ok_init (p := "row") (fld := "row") (ES.iniScope_ok (by simp)) (init_k i_NotSure T_NotSure opq su_NotSure ce_NotSure hx_NotSure hv_NotSure hf_NotSure top_ y_super) ho_NotSure lk_NotSure cd_NotSure (by decide) (by decide) (fun _ => rfl), Binds.all (fun us hl => match us, hl with | [_, _], _ => rfl), kbI fun _ _ => rfl⟩ }
  have J_Ring : CF l.prog w K mg base CS ("Ring", C_Ring) "name" := {
      toCI := i_Ring
      T := T_Ring
      xf := x_Ring
      hno := ho_Ring
      init := ⟨fI_Ring, _, iC_Ring, tI_Ring, ES.ok_init (p := "name") (fld := "name") (ES.iniScope_ok (by simp)) (init_k i_Ring T_Ring opq su_Ring ce_Ring hx_Ring hv_Ring hf_Ring top_ y_super) ho_Ring lk_Ring cd_Ring (by decide) (by decide) (fun _ => rfl), Binds.all (fun us hl => match us, hl with | [_, _], _ => rfl), kbI fun _ _ => rfl⟩ }
  have J_TooMany : CF l.prog w K mg base CS ("TooMany", C_TooMany) "most" := {
      toCI := i_TooMany
      T := T_TooMany
      xf := x_TooMany
      hno := ho_TooMany
      init := ⟨fI_TooMany, _, iC_TooMany, tI_TooMany, ES.ok_init (p := "most") (fld := "most") (ES.iniScope_ok (by simp)) (init_k i_TooMany T_TooMany opq su_TooMany ce_TooMany hx_TooMany hv_TooMany hf_TooMany top_ y_super) ho_TooMany lk_TooMany cd_TooMany (by decide) (by decide) (fun _ => rfl), Binds.all (fun us hl => match us, hl with | [_, _], _ => rfl), kbI fun _ _ => rfl⟩ }
  have J_Unsure : CF l.prog w K mg base CS ("Unsure", C_Unsure) "index" := {
      toCI := i_Unsure
      T := T_Unsure
      xf := x_Unsure
      hno := ho_Unsure
      init := ⟨fI_Unsure, _, iC_Unsure, tI_Unsure, ES.ok_init (p := "index") (fld := "index") (ES.iniScope_ok (by simp)) (init_k i_Unsure T_Unsure opq su_Unsure ce_Unsure hx_Unsure hv_Unsure hf_Unsure top_ y_super) ho_Unsure lk_Unsure cd_Unsure (by decide) (by decide) (fun _ => rfl), Binds.all (fun us hl => match us, hl with | [_, _], _ => rfl), kbI fun _ _ => rfl⟩ }
  have J_Wide : CF l.prog w K mg base CS ("Wide", C_Wide) "most" := {
      toCI := i_Wide
      T := T_Wide
      xf := x_Wide
      hno := ho_Wide
      init := ⟨fI_Wide, _, iC_Wide, tI_Wide, ES.ok_init (p := "most") (fld := "most") (ES.iniScope_ok (by simp)) (init_k i_Wide T_Wide opq su_Wide ce_Wide hx_Wide hv_Wide hf_Wide top_ y_super) ho_Wide lk_Wide cd_Wide (by decide) (by decide) (fun _ => rfl), Binds.all (fun us hl => match us, hl with | [_, _], _ => rfl), kbI fun _ _ => rfl⟩ }
  have G9 := ok_held F9 J_BadText J_Caught J_Missing J_NotFitting J_NotSure J_Ring J_TooMany J_Unsure J_Wide
  have G10 := ok_alone (ga := [("BadCases", C_BadCases), ("BadCircuit", C_BadCircuit), ("BadCode", C_BadCode), ("BadDiagram", C_BadDiagram), ("BadElement", C_BadElement), ("BadFrame", C_BadFrame), ("BadGiven", C_BadGiven), ("BadHeld", C_BadHeld), ("BadLine", C_BadLine), ("BadLot", C_BadLot), ("BadMachine", C_BadMachine), ("BadModule", C_BadModule), ("BadName", C_BadName), ("BadNames", C_BadNames), ("BadNumber", C_BadNumber), ("BadOrder", C_BadOrder), ("BadOwn", C_BadOwn), ("BadPart", C_BadPart), ("BadPath", C_BadPath), ("BadPicks", C_BadPicks), ("BadPiece", C_BadPiece), ("BadProgram", C_BadProgram), ("BadReadings", C_BadReadings), ("BadRest", C_BadRest)]) (gb := [("BadRow", C_BadRow), ("BadRows", C_BadRows), ("BadRun", C_BadRun), ("BadSignal", C_BadSignal), ("BadSignals", C_BadSignals), ("BadStanding", C_BadStanding), ("BadStart", C_BadStart), ("BadState", C_BadState), ("BadStatement", C_BadStatement), ("BadSteps", C_BadSteps), ("BadSurroundings", C_BadSurroundings), ("BadTable", C_BadTable), ("BadText", C_BadText), ("BadWord", C_BadWord), ("Caught", C_Caught), ("Lost", C_Lost), ("Missing", C_Missing), ("NotFitting", C_NotFitting), ("NotHere", C_NotHere), ("NotPlain", C_NotPlain), ("NotProgram", C_NotProgram), ("NotSure", C_NotSure), ("NothingDone", C_NothingDone), ("NothingUndone", C_NothingUndone)]) (gc := [("Ring", C_Ring), ("TooMany", C_TooMany), ("Unlike", C_Unlike), ("Unsure", C_Unsure), ("Wide", C_Wide)]) F10 y_isinstance y_ValueError (PySem.W.mg_of X G aS) hS tS ⟨_, _, G4, F4.kp, b4, g_4⟩ ⟨_, _, G5, F5.kp, b5, g_5⟩ ⟨_, _, G6, F6.kp, b6, g_6⟩ nd (Nat.le_of_ble_eq_true rfl) (by kernel_rfl)
  have LF : LawF0 l.prog w K mg base CS [("BadCases", C_BadCases), ("BadCircuit", C_BadCircuit), ("BadCode", C_BadCode), ("BadDiagram", C_BadDiagram), ("BadElement", C_BadElement), ("BadFrame", C_BadFrame), ("BadGiven", C_BadGiven), ("BadHeld", C_BadHeld), ("BadLine", C_BadLine), ("BadLot", C_BadLot), ("BadMachine", C_BadMachine), ("BadModule", C_BadModule), ("BadName", C_BadName), ("BadNames", C_BadNames), ("BadNumber", C_BadNumber), ("BadOrder", C_BadOrder), ("BadOwn", C_BadOwn), ("BadPart", C_BadPart), ("BadPath", C_BadPath), ("BadPicks", C_BadPicks), ("BadPiece", C_BadPiece), ("BadProgram", C_BadProgram), ("BadReadings", C_BadReadings), ("BadRest", C_BadRest)] [("BadRow", C_BadRow), ("BadRows", C_BadRows), ("BadRun", C_BadRun), ("BadSignal", C_BadSignal), ("BadSignals", C_BadSignals), ("BadStanding", C_BadStanding), ("BadStart", C_BadStart), ("BadState", C_BadState), ("BadStatement", C_BadStatement), ("BadSteps", C_BadSteps), ("BadSurroundings", C_BadSurroundings), ("BadTable", C_BadTable), ("BadWord", C_BadWord), ("Lost", C_Lost), ("NotHere", C_NotHere), ("NotPlain", C_NotPlain), ("NotProgram", C_NotProgram), ("NothingDone", C_NothingDone), ("NothingUndone", C_NothingUndone), ("Unlike", C_Unlike)] [("BadText", C_BadText), ("BadText", C_BadText), ("Caught", C_Caught), ("Caught", C_Caught), ("Missing", C_Missing), ("Missing", C_Missing), ("NotFitting", C_NotFitting), ("NotFitting", C_NotFitting), ("NotSure", C_NotSure), ("NotSure", C_NotSure), ("Ring", C_Ring), ("Ring", C_Ring), ("TooMany", C_TooMany), ("TooMany", C_TooMany), ("Unsure", C_Unsure), ("Unsure", C_Unsure), ("Wide", C_Wide), ("Wide", C_Wide)] (([("BadCases", C_BadCases), ("BadCircuit", C_BadCircuit), ("BadCode", C_BadCode), ("BadDiagram", C_BadDiagram), ("BadElement", C_BadElement), ("BadFrame", C_BadFrame), ("BadGiven", C_BadGiven), ("BadHeld", C_BadHeld), ("BadLine", C_BadLine), ("BadLot", C_BadLot), ("BadMachine", C_BadMachine), ("BadModule", C_BadModule), ("BadName", C_BadName), ("BadNames", C_BadNames), ("BadNumber", C_BadNumber), ("BadOrder", C_BadOrder), ("BadOwn", C_BadOwn), ("BadPart", C_BadPart), ("BadPath", C_BadPath), ("BadPicks", C_BadPicks), ("BadPiece", C_BadPiece), ("BadProgram", C_BadProgram), ("BadReadings", C_BadReadings), ("BadRest", C_BadRest)] : List Cl) ++ ([("BadRow", C_BadRow), ("BadRows", C_BadRows), ("BadRun", C_BadRun), ("BadSignal", C_BadSignal), ("BadSignals", C_BadSignals), ("BadStanding", C_BadStanding), ("BadStart", C_BadStart), ("BadState", C_BadState), ("BadStatement", C_BadStatement), ("BadSteps", C_BadSteps), ("BadSurroundings", C_BadSurroundings), ("BadTable", C_BadTable), ("BadText", C_BadText), ("BadWord", C_BadWord), ("Caught", C_Caught), ("Lost", C_Lost), ("Missing", C_Missing), ("NotFitting", C_NotFitting), ("NotHere", C_NotHere), ("NotPlain", C_NotPlain), ("NotProgram", C_NotProgram), ("NotSure", C_NotSure), ("NothingDone", C_NothingDone), ("NothingUndone", C_NothingUndone)] : List Cl) ++ ([("Ring", C_Ring), ("TooMany", C_TooMany), ("Unlike", C_Unlike), ("Unsure", C_Unsure), ("Wide", C_Wide)] : List Cl)) := {
      begun := ⟨_, _, G0, F0.kp, b0, g_0⟩
      draw := ⟨_, _, G1, F1.kp, b1, g_1⟩
      pick := ⟨_, _, G2, F2.kp, b2, g_2⟩
      odd := ⟨_, _, G3, F3.kp, b3, g_3⟩
      pla := ⟨_, _, G7, F7.kp, b7, g_7⟩
      plb := ⟨_, _, G8, F8.kp, b8, g_8⟩
      held := ⟨_, _, G9, F9.kp, b9, g_9⟩
      alone := ⟨_, _, G10, F10.kp, b10, g_10⟩
      ina := fun c hc => by
        simp only [List.cons_append, List.nil_append, List.mem_cons, List.not_mem_nil, or_false] at hc
        rcases hc with rfl | rfl | rfl | rfl | rfl | rfl | rfl | rfl | rfl | rfl | rfl | rfl | rfl | rfl | rfl | rfl | rfl | rfl | rfl | rfl | rfl | rfl | rfl | rfl | rfl | rfl | rfl | rfl | rfl | rfl | rfl | rfl | rfl | rfl | rfl | rfl | rfl | rfl | rfl | rfl | rfl | rfl | rfl | rfl
        · exact (mem_at 0 rfl)
        · exact (mem_at 1 rfl)
        · exact (mem_at 2 rfl)
        · exact (mem_at 3 rfl)
        · exact (mem_at 4 rfl)
        · exact (mem_at 5 rfl)
        · exact (mem_at 6 rfl)
        · exact (mem_at 7 rfl)
        · exact (mem_at 8 rfl)
        · exact (mem_at 9 rfl)
        · exact (mem_at 10 rfl)
        · exact (mem_at 11 rfl)
        · exact (mem_at 12 rfl)
        · exact (mem_at 13 rfl)
        · exact (mem_at 14 rfl)
        · exact (mem_at 15 rfl)
        · exact (mem_at 16 rfl)
        · exact (mem_at 17 rfl)
        · exact (mem_at 18 rfl)
        · exact (mem_at 19 rfl)
        · exact (mem_at 20 rfl)
        · exact (mem_at 21 rfl)
        · exact (mem_at 22 rfl)
        · exact (mem_at 23 rfl)
        · exact (mem_at 24 rfl)
        · exact (mem_at 25 rfl)
        · exact (mem_at 26 rfl)
        · exact (mem_at 27 rfl)
        · exact (mem_at 28 rfl)
        · exact (mem_at 29 rfl)
        · exact (mem_at 30 rfl)
        · exact (mem_at 31 rfl)
        · exact (mem_at 32 rfl)
        · exact (mem_at 33 rfl)
        · exact (mem_at 34 rfl)
        · exact (mem_at 35 rfl)
        · exact (mem_at 37 rfl)
        · exact (mem_at 39 rfl)
        · exact (mem_at 42 rfl)
        · exact (mem_at 43 rfl)
        · exact (mem_at 44 rfl)
        · exact (mem_at 46 rfl)
        · exact (mem_at 47 rfl)
        · exact (mem_at 50 rfl)
      inh := fun c hc => by
        simp only [List.mem_cons, List.not_mem_nil, or_false] at hc
        rcases hc with rfl | rfl | rfl | rfl | rfl | rfl | rfl | rfl | rfl | rfl | rfl | rfl | rfl | rfl | rfl | rfl | rfl | rfl
        · exact (mem_at 36 rfl)
        · exact (mem_at 36 rfl)
        · exact (mem_at 38 rfl)
        · exact (mem_at 38 rfl)
        · exact (mem_at 40 rfl)
        · exact (mem_at 40 rfl)
        · exact (mem_at 41 rfl)
        · exact (mem_at 41 rfl)
        · exact (mem_at 45 rfl)
        · exact (mem_at 45 rfl)
        · exact (mem_at 48 rfl)
        · exact (mem_at 48 rfl)
        · exact (mem_at 49 rfl)
        · exact (mem_at 49 rfl)
        · exact (mem_at 51 rfl)
        · exact (mem_at 51 rfl)
        · exact (mem_at 52 rfl)
        · exact (mem_at 52 rfl)
      ci := fun c hc => by
        simp only [List.cons_append, List.nil_append, List.mem_cons, List.not_mem_nil, or_false] at hc
        rcases hc with rfl | rfl | rfl | rfl | rfl | rfl | rfl | rfl | rfl | rfl | rfl | rfl | rfl | rfl | rfl | rfl | rfl | rfl | rfl | rfl | rfl | rfl | rfl | rfl | rfl | rfl | rfl | rfl | rfl | rfl | rfl | rfl | rfl | rfl | rfl | rfl | rfl | rfl | rfl | rfl | rfl | rfl | rfl | rfl | rfl | rfl | rfl | rfl | rfl | rfl | rfl | rfl | rfl
        · exact i_BadCases
        · exact i_BadCircuit
        · exact i_BadCode
        · exact i_BadDiagram
        · exact i_BadElement
        · exact i_BadFrame
        · exact i_BadGiven
        · exact i_BadHeld
        · exact i_BadLine
        · exact i_BadLot
        · exact i_BadMachine
        · exact i_BadModule
        · exact i_BadName
        · exact i_BadNames
        · exact i_BadNumber
        · exact i_BadOrder
        · exact i_BadOwn
        · exact i_BadPart
        · exact i_BadPath
        · exact i_BadPicks
        · exact i_BadPiece
        · exact i_BadProgram
        · exact i_BadReadings
        · exact i_BadRest
        · exact i_BadRow
        · exact i_BadRows
        · exact i_BadRun
        · exact i_BadSignal
        · exact i_BadSignals
        · exact i_BadStanding
        · exact i_BadStart
        · exact i_BadState
        · exact i_BadStatement
        · exact i_BadSteps
        · exact i_BadSurroundings
        · exact i_BadTable
        · exact i_BadText
        · exact i_BadWord
        · exact i_Caught
        · exact i_Lost
        · exact i_Missing
        · exact i_NotFitting
        · exact i_NotHere
        · exact i_NotPlain
        · exact i_NotProgram
        · exact i_NotSure
        · exact i_NothingDone
        · exact i_NothingUndone
        · exact i_Ring
        · exact i_TooMany
        · exact i_Unlike
        · exact i_Unsure
        · exact i_Wide
      la := Nat.le_of_ble_eq_true rfl
      lb := Nat.le_of_ble_eq_true rfl }
  exact ok_law0 F11 rfl LF y_range y_min y_len y_repr
end K02

open PySem PySem.W PyProof.Rows
set_option Elab.async false
set_option maxRecDepth 100000 in
set_option maxHeartbeats 0 in
theorem PySem.Challenge.cw_restsure_k00_errors_apart_holds : PySem.Challenge.rw_restsure_k00_errors_apart.Holds := by
  w_on; o_law; k_head; (case hw => w_witness2)
  k_fill
  refine GE.walk_tabsG (l := PySem.Challenge.rw_restsure_k00_errors_apart) (n := 63) (k := 12) (x := "script") (CX := fun _ => L2.CX0) [] rfl (by decide) rfl ⟨rfl, by decide, by decide⟩ (by decide +kernel) (fun w h Y => by first | exact PySem.W.kIn_of Y | exact PySem.W.km_in_of Y) ?F (fun _ _ _ _ _ z => z)
  case F =>
    intro w mg fa h Y KX G hmg own
    refine' K02.all_mk0 KX G hmg ?a0 ?l0 ?c0' ?k0 ?a1 ?l1 ?c1' ?k1 ?a2 ?l2 ?c2' ?k2 ?a3 ?l3 ?c3' ?k3 ?a4 ?l4 ?c4' ?k4 ?a5 ?l5 ?c5' ?k5 ?a6 ?l6 ?c6' ?k6 ?a7 ?l7 ?c7' ?k7 ?a8 ?l8 ?c8' ?k8 ?a9 ?l9 ?c9' ?k9 ?a10 ?l10 ?c10' ?k10 ?a11 ?l11 ?c11' ?k11 ?z_int ?z_len ?z_abs ?z_isinstance ?z_range ?z_min ?z_repr ?z_ValueError ?z_super ?aS ?tS ?hS ?a_BadCases ?e_BadCases ?a_BadCircuit ?e_BadCircuit ?a_BadCode ?e_BadCode ?a_BadDiagram ?e_BadDiagram ?a_BadElement ?e_BadElement ?a_BadFrame ?e_BadFrame ?a_BadGiven ?e_BadGiven ?a_BadHeld ?e_BadHeld ?a_BadLine ?e_BadLine ?a_BadLot ?e_BadLot ?a_BadMachine ?e_BadMachine ?a_BadModule ?e_BadModule ?a_BadName ?e_BadName ?a_BadNames ?e_BadNames ?a_BadNumber ?e_BadNumber ?a_BadOrder ?e_BadOrder ?a_BadOwn ?e_BadOwn ?a_BadPart ?e_BadPart ?a_BadPath ?e_BadPath ?a_BadPicks ?e_BadPicks ?a_BadPiece ?e_BadPiece ?a_BadProgram ?e_BadProgram ?a_BadReadings ?e_BadReadings ?a_BadRest ?e_BadRest ?a_BadRow ?e_BadRow ?a_BadRows ?e_BadRows ?a_BadRun ?e_BadRun ?a_BadSignal ?e_BadSignal ?a_BadSignals ?e_BadSignals ?a_BadStanding ?e_BadStanding ?a_BadStart ?e_BadStart ?a_BadState ?e_BadState ?a_BadStatement ?e_BadStatement ?a_BadSteps ?e_BadSteps ?a_BadSurroundings ?e_BadSurroundings ?a_BadTable ?e_BadTable ?a_BadText ?e_BadText ?a_BadWord ?e_BadWord ?a_Caught ?e_Caught ?a_Lost ?e_Lost ?a_Missing ?e_Missing ?a_NotFitting ?e_NotFitting ?a_NotHere ?e_NotHere ?a_NotPlain ?e_NotPlain ?a_NotProgram ?e_NotProgram ?a_NotSure ?e_NotSure ?a_NothingDone ?e_NothingDone ?a_NothingUndone ?e_NothingUndone ?a_Ring ?e_Ring ?a_TooMany ?e_TooMany ?a_Unlike ?e_Unlike ?a_Unsure ?e_Unsure ?a_Wide ?e_Wide ?p_BadCases ?p_BadCircuit ?p_BadCode ?p_BadDiagram ?p_BadElement ?p_BadFrame ?p_BadGiven ?p_BadHeld ?p_BadLine ?p_BadLot ?p_BadMachine ?p_BadModule ?p_BadName ?p_BadNames ?p_BadNumber ?p_BadOrder ?p_BadOwn ?p_BadPart ?p_BadPath ?p_BadPicks ?p_BadPiece ?p_BadProgram ?p_BadReadings ?p_BadRest ?p_BadRow ?p_BadRows ?p_BadRun ?p_BadSignal ?p_BadSignals ?p_BadStanding ?p_BadStart ?p_BadState ?p_BadStatement ?p_BadSteps ?p_BadSurroundings ?p_BadTable ?p_BadWord ?p_Lost ?p_NotHere ?p_NotPlain ?p_NotProgram ?p_NothingDone ?p_NothingUndone ?p_Unlike ?opq ?top_ ?lC_BadText ?vb_BadText ?sa_BadText ?kC_BadText ?su_BadText ?ho_BadText ?iC_BadText ?tI_BadText ?lk_BadText ?cd_BadText ?ce_BadText ?hx_BadText ?hv_BadText ?hf_BadText ?lC_Caught ?vb_Caught ?sa_Caught ?kC_Caught ?su_Caught ?ho_Caught ?iC_Caught ?tI_Caught ?lk_Caught ?cd_Caught ?ce_Caught ?hx_Caught ?hv_Caught ?hf_Caught ?lC_Missing ?vb_Missing ?sa_Missing ?kC_Missing ?su_Missing ?ho_Missing ?iC_Missing ?tI_Missing ?lk_Missing ?cd_Missing ?ce_Missing ?hx_Missing ?hv_Missing ?hf_Missing ?lC_NotFitting ?vb_NotFitting ?sa_NotFitting ?kC_NotFitting ?su_NotFitting ?ho_NotFitting ?iC_NotFitting ?tI_NotFitting ?lk_NotFitting ?cd_NotFitting ?ce_NotFitting ?hx_NotFitting ?hv_NotFitting ?hf_NotFitting ?lC_NotSure ?vb_NotSure ?sa_NotSure ?kC_NotSure ?su_NotSure ?ho_NotSure ?iC_NotSure ?tI_NotSure ?lk_NotSure ?cd_NotSure ?ce_NotSure ?hx_NotSure ?hv_NotSure ?hf_NotSure ?lC_Ring ?vb_Ring ?sa_Ring ?kC_Ring ?su_Ring ?ho_Ring ?iC_Ring ?tI_Ring ?lk_Ring ?cd_Ring ?ce_Ring ?hx_Ring ?hv_Ring ?hf_Ring ?lC_TooMany ?vb_TooMany ?sa_TooMany ?kC_TooMany ?su_TooMany ?ho_TooMany ?iC_TooMany ?tI_TooMany ?lk_TooMany ?cd_TooMany ?ce_TooMany ?hx_TooMany ?hv_TooMany ?hf_TooMany ?lC_Unsure ?vb_Unsure ?sa_Unsure ?kC_Unsure ?su_Unsure ?ho_Unsure ?iC_Unsure ?tI_Unsure ?lk_Unsure ?cd_Unsure ?ce_Unsure ?hx_Unsure ?hv_Unsure ?hf_Unsure ?lC_Wide ?vb_Wide ?sa_Wide ?kC_Wide ?su_Wide ?ho_Wide ?iC_Wide ?tI_Wide ?lk_Wide ?cd_Wide ?ce_Wide ?hx_Wide ?hv_Wide ?hf_Wide ?nd ?r1 ?r2
    (case a0 => first | k_is | decide +kernel)
    (case l0 => first | k_is | decide +kernel)
    (case c0' => first | k_is | decide +kernel)
    (case k0 => first | k_is | decide +kernel)
    (case a1 => first | k_is | decide +kernel)
    (case l1 => first | k_is | decide +kernel)
    (case c1' => first | k_is | decide +kernel)
    (case k1 => first | k_is | decide +kernel)
    (case a2 => first | k_is | decide +kernel)
    (case l2 => first | k_is | decide +kernel)
    (case c2' => first | k_is | decide +kernel)
    (case k2 => first | k_is | decide +kernel)
    (case a3 => first | k_is | decide +kernel)
    (case l3 => first | k_is | decide +kernel)
    (case c3' => first | k_is | decide +kernel)
    (case k3 => first | k_is | decide +kernel)
    (case a4 => first | k_is | decide +kernel)
    (case l4 => first | k_is | decide +kernel)
    (case c4' => first | k_is | decide +kernel)
    (case k4 => first | k_is | decide +kernel)
    (case a5 => first | k_is | decide +kernel)
    (case l5 => first | k_is | decide +kernel)
    (case c5' => first | k_is | decide +kernel)
    (case k5 => first | k_is | decide +kernel)
    (case a6 => first | k_is | decide +kernel)
    (case l6 => first | k_is | decide +kernel)
    (case c6' => first | k_is | decide +kernel)
    (case k6 => first | k_is | decide +kernel)
    (case a7 => first | k_is | decide +kernel)
    (case l7 => first | k_is | decide +kernel)
    (case c7' => first | k_is | decide +kernel)
    (case k7 => first | k_is | decide +kernel)
    (case a8 => first | k_is | decide +kernel)
    (case l8 => first | k_is | decide +kernel)
    (case c8' => first | k_is | decide +kernel)
    (case k8 => first | k_is | decide +kernel)
    (case a9 => first | k_is | decide +kernel)
    (case l9 => first | k_is | decide +kernel)
    (case c9' => first | k_is | decide +kernel)
    (case k9 => first | k_is | decide +kernel)
    (case a10 => first | k_is | decide +kernel)
    (case l10 => first | k_is | decide +kernel)
    (case c10' => first | k_is | decide +kernel)
    (case k10 => first | k_is | decide +kernel)
    (case a11 => first | k_is | decide +kernel)
    (case l11 => first | k_is | decide +kernel)
    (case c11' => first | k_is | decide +kernel)
    (case k11 => first | k_is | decide +kernel)
    (case z_int => first | k_is | decide +kernel)
    (case z_len => first | k_is | decide +kernel)
    (case z_abs => first | k_is | decide +kernel)
    (case z_isinstance => first | k_is | decide +kernel)
    (case z_range => first | k_is | decide +kernel)
    (case z_min => first | k_is | decide +kernel)
    (case z_repr => first | k_is | decide +kernel)
    (case z_ValueError => first | k_is | decide +kernel)
    (case z_super => first | k_is | decide +kernel)
    (case aS => first | k_is | decide +kernel)
    (case tS => first | k_is | decide +kernel)
    (case hS => first | kernel_rfl | rfl)
    (case a_BadCases => first | k_is | decide +kernel)
    (case e_BadCases => first | kernel_rfl | rfl)
    (case a_BadCircuit => first | k_is | decide +kernel)
    (case e_BadCircuit => first | kernel_rfl | rfl)
    (case a_BadCode => first | k_is | decide +kernel)
    (case e_BadCode => first | kernel_rfl | rfl)
    (case a_BadDiagram => first | k_is | decide +kernel)
    (case e_BadDiagram => first | kernel_rfl | rfl)
    (case a_BadElement => first | k_is | decide +kernel)
    (case e_BadElement => first | kernel_rfl | rfl)
    (case a_BadFrame => first | k_is | decide +kernel)
    (case e_BadFrame => first | kernel_rfl | rfl)
    (case a_BadGiven => first | k_is | decide +kernel)
    (case e_BadGiven => first | kernel_rfl | rfl)
    (case a_BadHeld => first | k_is | decide +kernel)
    (case e_BadHeld => first | kernel_rfl | rfl)
    (case a_BadLine => first | k_is | decide +kernel)
    (case e_BadLine => first | kernel_rfl | rfl)
    (case a_BadLot => first | k_is | decide +kernel)
    (case e_BadLot => first | kernel_rfl | rfl)
    (case a_BadMachine => first | k_is | decide +kernel)
    (case e_BadMachine => first | kernel_rfl | rfl)
    (case a_BadModule => first | k_is | decide +kernel)
    (case e_BadModule => first | kernel_rfl | rfl)
    (case a_BadName => first | k_is | decide +kernel)
    (case e_BadName => first | kernel_rfl | rfl)
    (case a_BadNames => first | k_is | decide +kernel)
    (case e_BadNames => first | kernel_rfl | rfl)
    (case a_BadNumber => first | k_is | decide +kernel)
    (case e_BadNumber => first | kernel_rfl | rfl)
    (case a_BadOrder => first | k_is | decide +kernel)
    (case e_BadOrder => first | kernel_rfl | rfl)
    (case a_BadOwn => first | k_is | decide +kernel)
    (case e_BadOwn => first | kernel_rfl | rfl)
    (case a_BadPart => first | k_is | decide +kernel)
    (case e_BadPart => first | kernel_rfl | rfl)
    (case a_BadPath => first | k_is | decide +kernel)
    (case e_BadPath => first | kernel_rfl | rfl)
    (case a_BadPicks => first | k_is | decide +kernel)
    (case e_BadPicks => first | kernel_rfl | rfl)
    (case a_BadPiece => first | k_is | decide +kernel)
    (case e_BadPiece => first | kernel_rfl | rfl)
    (case a_BadProgram => first | k_is | decide +kernel)
    (case e_BadProgram => first | kernel_rfl | rfl)
    (case a_BadReadings => first | k_is | decide +kernel)
    (case e_BadReadings => first | kernel_rfl | rfl)
    (case a_BadRest => first | k_is | decide +kernel)
    (case e_BadRest => first | kernel_rfl | rfl)
    (case a_BadRow => first | k_is | decide +kernel)
    (case e_BadRow => first | kernel_rfl | rfl)
    (case a_BadRows => first | k_is | decide +kernel)
    (case e_BadRows => first | kernel_rfl | rfl)
    (case a_BadRun => first | k_is | decide +kernel)
    (case e_BadRun => first | kernel_rfl | rfl)
    (case a_BadSignal => first | k_is | decide +kernel)
    (case e_BadSignal => first | kernel_rfl | rfl)
    (case a_BadSignals => first | k_is | decide +kernel)
    (case e_BadSignals => first | kernel_rfl | rfl)
    (case a_BadStanding => first | k_is | decide +kernel)
    (case e_BadStanding => first | kernel_rfl | rfl)
    (case a_BadStart => first | k_is | decide +kernel)
    (case e_BadStart => first | kernel_rfl | rfl)
    (case a_BadState => first | k_is | decide +kernel)
    (case e_BadState => first | kernel_rfl | rfl)
    (case a_BadStatement => first | k_is | decide +kernel)
    (case e_BadStatement => first | kernel_rfl | rfl)
    (case a_BadSteps => first | k_is | decide +kernel)
    (case e_BadSteps => first | kernel_rfl | rfl)
    (case a_BadSurroundings => first | k_is | decide +kernel)
    (case e_BadSurroundings => first | kernel_rfl | rfl)
    (case a_BadTable => first | k_is | decide +kernel)
    (case e_BadTable => first | kernel_rfl | rfl)
    (case a_BadText => first | k_is | decide +kernel)
    (case e_BadText => first | kernel_rfl | rfl)
    (case a_BadWord => first | k_is | decide +kernel)
    (case e_BadWord => first | kernel_rfl | rfl)
    (case a_Caught => first | k_is | decide +kernel)
    (case e_Caught => first | kernel_rfl | rfl)
    (case a_Lost => first | k_is | decide +kernel)
    (case e_Lost => first | kernel_rfl | rfl)
    (case a_Missing => first | k_is | decide +kernel)
    (case e_Missing => first | kernel_rfl | rfl)
    (case a_NotFitting => first | k_is | decide +kernel)
    (case e_NotFitting => first | kernel_rfl | rfl)
    (case a_NotHere => first | k_is | decide +kernel)
    (case e_NotHere => first | kernel_rfl | rfl)
    (case a_NotPlain => first | k_is | decide +kernel)
    (case e_NotPlain => first | kernel_rfl | rfl)
    (case a_NotProgram => first | k_is | decide +kernel)
    (case e_NotProgram => first | kernel_rfl | rfl)
    (case a_NotSure => first | k_is | decide +kernel)
    (case e_NotSure => first | kernel_rfl | rfl)
    (case a_NothingDone => first | k_is | decide +kernel)
    (case e_NothingDone => first | kernel_rfl | rfl)
    (case a_NothingUndone => first | k_is | decide +kernel)
    (case e_NothingUndone => first | kernel_rfl | rfl)
    (case a_Ring => first | k_is | decide +kernel)
    (case e_Ring => first | kernel_rfl | rfl)
    (case a_TooMany => first | k_is | decide +kernel)
    (case e_TooMany => first | kernel_rfl | rfl)
    (case a_Unlike => first | k_is | decide +kernel)
    (case e_Unlike => first | kernel_rfl | rfl)
    (case a_Unsure => first | k_is | decide +kernel)
    (case e_Unsure => first | kernel_rfl | rfl)
    (case a_Wide => first | k_is | decide +kernel)
    (case e_Wide => first | kernel_rfl | rfl)
    (case p_BadCases => first | kernel_rfl | rfl)
    (case p_BadCircuit => first | kernel_rfl | rfl)
    (case p_BadCode => first | kernel_rfl | rfl)
    (case p_BadDiagram => first | kernel_rfl | rfl)
    (case p_BadElement => first | kernel_rfl | rfl)
    (case p_BadFrame => first | kernel_rfl | rfl)
    (case p_BadGiven => first | kernel_rfl | rfl)
    (case p_BadHeld => first | kernel_rfl | rfl)
    (case p_BadLine => first | kernel_rfl | rfl)
    (case p_BadLot => first | kernel_rfl | rfl)
    (case p_BadMachine => first | kernel_rfl | rfl)
    (case p_BadModule => first | kernel_rfl | rfl)
    (case p_BadName => first | kernel_rfl | rfl)
    (case p_BadNames => first | kernel_rfl | rfl)
    (case p_BadNumber => first | kernel_rfl | rfl)
    (case p_BadOrder => first | kernel_rfl | rfl)
    (case p_BadOwn => first | kernel_rfl | rfl)
    (case p_BadPart => first | kernel_rfl | rfl)
    (case p_BadPath => first | kernel_rfl | rfl)
    (case p_BadPicks => first | kernel_rfl | rfl)
    (case p_BadPiece => first | kernel_rfl | rfl)
    (case p_BadProgram => first | kernel_rfl | rfl)
    (case p_BadReadings => first | kernel_rfl | rfl)
    (case p_BadRest => first | kernel_rfl | rfl)
    (case p_BadRow => first | kernel_rfl | rfl)
    (case p_BadRows => first | kernel_rfl | rfl)
    (case p_BadRun => first | kernel_rfl | rfl)
    (case p_BadSignal => first | kernel_rfl | rfl)
    (case p_BadSignals => first | kernel_rfl | rfl)
    (case p_BadStanding => first | kernel_rfl | rfl)
    (case p_BadStart => first | kernel_rfl | rfl)
    (case p_BadState => first | kernel_rfl | rfl)
    (case p_BadStatement => first | kernel_rfl | rfl)
    (case p_BadSteps => first | kernel_rfl | rfl)
    (case p_BadSurroundings => first | kernel_rfl | rfl)
    (case p_BadTable => first | kernel_rfl | rfl)
    (case p_BadWord => first | kernel_rfl | rfl)
    (case p_Lost => first | kernel_rfl | rfl)
    (case p_NotHere => first | kernel_rfl | rfl)
    (case p_NotPlain => first | kernel_rfl | rfl)
    (case p_NotProgram => first | kernel_rfl | rfl)
    (case p_NothingDone => first | kernel_rfl | rfl)
    (case p_NothingUndone => first | kernel_rfl | rfl)
    (case p_Unlike => first | kernel_rfl | rfl)
    (case opq => first | k_is | decide +kernel)
    (case top_ => first | kernel_rfl | rfl)
    (case lC_BadText => first | k_is | decide +kernel)
    (case vb_BadText => first | kernel_rfl | rfl)
    (case sa_BadText => first | k_is | decide +kernel)
    (case kC_BadText => first | k_is | decide +kernel)
    (case su_BadText => first | kernel_rfl | rfl)
    (case ho_BadText => first | k_is | decide +kernel)
    (case iC_BadText => first | k_is | decide +kernel)
    (case tI_BadText => first | k_is | decide +kernel)
    (case lk_BadText => first | k_is | decide +kernel)
    (case cd_BadText => first | k_is | decide +kernel)
    (case ce_BadText => first | k_is | decide +kernel)
    (case hx_BadText => first | k_is | decide +kernel)
    (case hv_BadText => rfl)
    (case hf_BadText => first | kernel_rfl | rfl)
    (case lC_Caught => first | k_is | decide +kernel)
    (case vb_Caught => first | kernel_rfl | rfl)
    (case sa_Caught => first | k_is | decide +kernel)
    (case kC_Caught => first | k_is | decide +kernel)
    (case su_Caught => first | kernel_rfl | rfl)
    (case ho_Caught => first | k_is | decide +kernel)
    (case iC_Caught => first | k_is | decide +kernel)
    (case tI_Caught => first | k_is | decide +kernel)
    (case lk_Caught => first | k_is | decide +kernel)
    (case cd_Caught => first | k_is | decide +kernel)
    (case ce_Caught => first | k_is | decide +kernel)
    (case hx_Caught => first | k_is | decide +kernel)
    (case hv_Caught => rfl)
    (case hf_Caught => first | kernel_rfl | rfl)
    (case lC_Missing => first | k_is | decide +kernel)
    (case vb_Missing => first | kernel_rfl | rfl)
    (case sa_Missing => first | k_is | decide +kernel)
    (case kC_Missing => first | k_is | decide +kernel)
    (case su_Missing => first | kernel_rfl | rfl)
    (case ho_Missing => first | k_is | decide +kernel)
    (case iC_Missing => first | k_is | decide +kernel)
    (case tI_Missing => first | k_is | decide +kernel)
    (case lk_Missing => first | k_is | decide +kernel)
    (case cd_Missing => first | k_is | decide +kernel)
    (case ce_Missing => first | k_is | decide +kernel)
    (case hx_Missing => first | k_is | decide +kernel)
    (case hv_Missing => rfl)
    (case hf_Missing => first | kernel_rfl | rfl)
    (case lC_NotFitting => first | k_is | decide +kernel)
    (case vb_NotFitting => first | kernel_rfl | rfl)
    (case sa_NotFitting => first | k_is | decide +kernel)
    (case kC_NotFitting => first | k_is | decide +kernel)
    (case su_NotFitting => first | kernel_rfl | rfl)
    (case ho_NotFitting => first | k_is | decide +kernel)
    (case iC_NotFitting => first | k_is | decide +kernel)
    (case tI_NotFitting => first | k_is | decide +kernel)
    (case lk_NotFitting => first | k_is | decide +kernel)
    (case cd_NotFitting => first | k_is | decide +kernel)
    (case ce_NotFitting => first | k_is | decide +kernel)
    (case hx_NotFitting => first | k_is | decide +kernel)
    (case hv_NotFitting => rfl)
    (case hf_NotFitting => first | kernel_rfl | rfl)
    (case lC_NotSure => first | k_is | decide +kernel)
    (case vb_NotSure => first | kernel_rfl | rfl)
    (case sa_NotSure => first | k_is | decide +kernel)
    (case kC_NotSure => first | k_is | decide +kernel)
    (case su_NotSure => first | kernel_rfl | rfl)
    (case ho_NotSure => first | k_is | decide +kernel)
    (case iC_NotSure => first | k_is | decide +kernel)
    (case tI_NotSure => first | k_is | decide +kernel)
    (case lk_NotSure => first | k_is | decide +kernel)
    (case cd_NotSure => first | k_is | decide +kernel)
    (case ce_NotSure => first | k_is | decide +kernel)
    (case hx_NotSure => first | k_is | decide +kernel)
    (case hv_NotSure => rfl)
    (case hf_NotSure => first | kernel_rfl | rfl)
    (case lC_Ring => first | k_is | decide +kernel)
    (case vb_Ring => first | kernel_rfl | rfl)
    (case sa_Ring => first | k_is | decide +kernel)
    (case kC_Ring => first | k_is | decide +kernel)
    (case su_Ring => first | kernel_rfl | rfl)
    (case ho_Ring => first | k_is | decide +kernel)
    (case iC_Ring => first | k_is | decide +kernel)
    (case tI_Ring => first | k_is | decide +kernel)
    (case lk_Ring => first | k_is | decide +kernel)
    (case cd_Ring => first | k_is | decide +kernel)
    (case ce_Ring => first | k_is | decide +kernel)
    (case hx_Ring => first | k_is | decide +kernel)
    (case hv_Ring => rfl)
    (case hf_Ring => first | kernel_rfl | rfl)
    (case lC_TooMany => first | k_is | decide +kernel)
    (case vb_TooMany => first | kernel_rfl | rfl)
    (case sa_TooMany => first | k_is | decide +kernel)
    (case kC_TooMany => first | k_is | decide +kernel)
    (case su_TooMany => first | kernel_rfl | rfl)
    (case ho_TooMany => first | k_is | decide +kernel)
    (case iC_TooMany => first | k_is | decide +kernel)
    (case tI_TooMany => first | k_is | decide +kernel)
    (case lk_TooMany => first | k_is | decide +kernel)
    (case cd_TooMany => first | k_is | decide +kernel)
    (case ce_TooMany => first | k_is | decide +kernel)
    (case hx_TooMany => first | k_is | decide +kernel)
    (case hv_TooMany => rfl)
    (case hf_TooMany => first | kernel_rfl | rfl)
    (case lC_Unsure => first | k_is | decide +kernel)
    (case vb_Unsure => first | kernel_rfl | rfl)
    (case sa_Unsure => first | k_is | decide +kernel)
    (case kC_Unsure => first | k_is | decide +kernel)
    (case su_Unsure => first | kernel_rfl | rfl)
    (case ho_Unsure => first | k_is | decide +kernel)
    (case iC_Unsure => first | k_is | decide +kernel)
    (case tI_Unsure => first | k_is | decide +kernel)
    (case lk_Unsure => first | k_is | decide +kernel)
    (case cd_Unsure => first | k_is | decide +kernel)
    (case ce_Unsure => first | k_is | decide +kernel)
    (case hx_Unsure => first | k_is | decide +kernel)
    (case hv_Unsure => rfl)
    (case hf_Unsure => first | kernel_rfl | rfl)
    (case lC_Wide => first | k_is | decide +kernel)
    (case vb_Wide => first | kernel_rfl | rfl)
    (case sa_Wide => first | k_is | decide +kernel)
    (case kC_Wide => first | k_is | decide +kernel)
    (case su_Wide => first | kernel_rfl | rfl)
    (case ho_Wide => first | k_is | decide +kernel)
    (case iC_Wide => first | k_is | decide +kernel)
    (case tI_Wide => first | k_is | decide +kernel)
    (case lk_Wide => first | k_is | decide +kernel)
    (case cd_Wide => first | k_is | decide +kernel)
    (case ce_Wide => first | k_is | decide +kernel)
    (case hx_Wide => first | k_is | decide +kernel)
    (case hv_Wide => rfl)
    (case hf_Wide => first | kernel_rfl | rfl)
    (case nd => decide +kernel)
    (case r1 => first | k_is | decide +kernel)
    (case r2 => first | k_is | decide +kernel)
#print axioms PySem.Challenge.cw_restsure_k00_errors_apart_holds

