import PyProof.Rows.All
import Wide.All
import OpenK.AllK
import Wide.FinOn
import HandS.ForMost
import HandS.AnyAll
import HandS.Nested
import HandS.GenList
import KE.KEqSeq
import HandS.IsInst
import HandS.Flow
import HandS.ForExc
import HandS.Lambda
import HandS.ExcIs
import KE.KDictKeyed
import KE.KDictCopyH
import KE.GoesNew
import KE.GoesMore
import KE.GoesZip
import KE.GoesEnum
import HandS.RaiseMore
import HandS.TupMul
import HandS.TupAny
import HandS.EndBits
import HandS.EndTab
import HandS.EndOwn
import PyProof.ReprRoads
import PyProof.Rows.RegFStrParts
import HandS.Walk
import HandS.SortInts
import HandS.TupSets
import KE.KSortTupG
import HandS.Deep
import HandS.Conv
import PyProof.SumWalk
import PyProof.ListOps
import PyProof.SliceList
import HandS.ExcValue
import HandS.TupLe
import PySem.Challenge.RW_restsure_k49_rings_told
set_option Elab.async false
set_option linter.all false
set_option maxRecDepth 100000
/-! all(e for x in xs), any(e for x in xs): the generator expression's own frame, its element any expression that HandS has rules for (calls too). -/
namespace GX
open PySem PySem.Spec L2
open PyProof.Rows GenW GxR NdefX

/-- only the generators differ -/
def Regen (s t : Shared) : Prop := ∃ G : Array GenState, AllBare G ∧ t = { s with gens := G }

/-- the frame of a generator expression that is walked from the around A, begun at s -/
abbrev gcx (X : Cx) (A : Around) (s : Shared) (H : Hp) (cenv : Env) (fp : List Addr) (pn : List (Addr × Obj)) : Cx :=
  { X with
    A := A.deeper cenv
    s_0 := s
    H_0 := H
    env := cenv
    outer := X.stack
    stack := cenv :: X.stack
    ex := fp
    fn := fun _ => false
    pn := pn
    xe := fun _ _ => False }

theorem over_gen {A : Around} {elt : Expr} {gs : List Comprehension} {sc : Scope} {pos : Pos} {it acc : Value} {env : Env} :
    A.over (.compLoop (.GeneratorExp elt gs sc pos) 0 it acc env) [] = A.deeper env := by
  first
    | rfl
    | (cases A; simp [Around.over, Around.deeper, marksOver, frameCount, unitsOf, envsOf, guardsOf, pushEnvs, pushGuards, Code.envs, Code.env?, Code.isFrame, Code.guards, Code.isGuard, Code.weight, Code.frames, Code.isCreation, Code.isCaller, Code.cUnits])
theorem over_start {A : Around} {elt : Expr} {gs : List Comprehension} {sc : Scope} {pos : Pos} {it acc : Value} {env : Env} :
    A.over (.compStart (.GeneratorExp elt gs sc pos) 0 it acc env) [] = A.deeper env := by
  first
    | rfl
    | (cases A; simp [Around.over, Around.deeper, marksOver, frameCount, unitsOf, envsOf, guardsOf, pushEnvs, pushGuards, Code.envs, Code.env?, Code.isFrame, Code.guards, Code.isGuard, Code.weight, Code.frames, Code.isCreation, Code.isCaller, Code.cUnits])

section
variable {X : Cx} {pins : List (Addr × Obj)} {σ : L2.St} {H : Hp} {s t : Shared}
theorem Regen.inv (r : Regen s t) (I : Inv X pins σ H s) : Inv X pins σ H t := by
  obtain ⟨G, hG, rfl⟩ := r
  exact ⟨I.ok, I.os, hG, I.base, I.loc, I.cell, I.free, I.freeC, I.pin, I.hok, I.len⟩

/-- what a generator expression's own frame is like when it is woken first -/
theorem gen_start {scope : Scope} {own : List (Str × Nat)} {fp : List Addr} {A : Around} {cenv : Env} {m : Str → Option Value} {a : Addr} {go : Obj}
    (I : Inv X pins σ H s) (ok : BlkOk X.N X.env.scope scope own) (hN : X.N.Nodup)
    (hcell : ∀ y ∈ scope.names, y.2 ≠ .cell) (hA : A.handled = none) (hfr : A.frames = some X.stack)
    (hfp : ∀ b ∈ fp, FpOk X pins H b ∧ b < s.heap.objs.size)
    (e1 : cenv.scope = scope) (e2 : cenv.locals = s.heap.objs.size) (e3 : cenv.globals = mainGlobals) (e4 : cenv.builtins = builtinsNs)
    (e5 : cenv.cells = cloFrom X.env.cells scope.names []) (e6 : cenv.frame = some s.heap.objs.size)
    (os' : t.os = s.os) (hb : AllBare t.gens) (kp : ∀ b o, s.heap.get? b = some o → t.heap.get? b = some o)
    (ns : t.heap.Ns s.heap.objs.size m) (ha : t.heap.get? a = some go) (hlt : s.heap.objs.size < a) (hd : ∀ v, go.data ≠ .cell v) :
    Inv (gcx X A s H cenv fp [(a, go)]) [] (wipe σ (own.map (·.2))) H t := by
  have hfree : ∀ y ∈ scope.names, y.2 = .free → ∃ c, X.env.cells.lookup y.1 = some c := fun y hy e => by
    rcases ok.free y hy e with k | k
    · exact I.ok.has _ (.inl k)
    · exact I.ok.has _ (.inr k)
  have back : ∀ {y : Str} {c : Addr}, cenv.cells.lookup y = some c → X.env.cells.lookup y = some c := fun {y c} e => by
    rw [e5] at e
    exact clo_cm hfree e
  have old : ∀ {y : Str} {c : Addr}, cenv.cells.lookup y = some c → c < s.heap.objs.size := fun {y c} e => by
    obtain ⟨v, z⟩ := I.cell y c (back e)
    exact z.lt
  have has : ∀ {y : Str}, scope.names.lookup y = some .free → ∃ c, cenv.cells.lookup y = some c ∧ X.env.cells.lookup y = some c := fun {y} hl => by
    have hy : (y, NameKind.free) ∈ scope.names := PySem.mem_of_lookup hl
    obtain ⟨c, hc⟩ := hfree _ hy rfl
    refine ⟨c, ?_, hc⟩
    rw [e5]
    exact clo_has hfree hy hc
  have kindIs : ∀ y : Str, cenv.kindOf y = scope.names.lookup y := fun y => by
    unfold Env.kindOf
    rw [e1]
  have aNew : H a = none := I.hok.fresh (Nat.le_of_lt hlt)
  have aFs : a ∉ frs X.stack := fun hm => by
    rcases List.mem_cons.mp (I.stkSub a hm) with z | z
    · have h1 := I.lt
      rw [← z] at h1
      exact absurd (Nat.lt_trans hlt h1) (Nat.lt_irrefl _)
    · exact I.nofs (Nat.le_of_lt hlt) z
  have okZ : (gcx X A s H cenv fp [(a, go)]).Ok := by
    refine ⟨I.ok.mod, ?_, e3, e4, Nat.le_of_eq e2.symm, fun y z c q1 q2 => I.ok.inj y z c (back q1) (back q2), fun y hy => ?_, fun y c q _ => (nomatch q), fun _ => hA,
      Around.frames_deeper hfr, .inr ⟨rfl, ?_⟩, fun b hb => ⟨?_, fun y c e z => ?_⟩, I.bs, Nat.le_trans I.ok.bsz I.sz, fun b o e hb => ?_, fun b hb z => ?_, I.stack, I.stkFree⟩
    · show cenv.scope.kind = _
      rw [e1]
      exact ok.kind
    · have hy : cenv.kindOf y = some .cell ∨ cenv.kindOf y = some .free := hy
      rw [kindIs y] at hy
      rcases hy with hy | hy
      · exact absurd rfl (hcell _ (PySem.mem_of_lookup hy))
      · obtain ⟨c, q, _⟩ := has hy
        exact ⟨c, q⟩
    · show cenv.frame = some cenv.locals
      rw [e6, e2]
    · show b ≠ cenv.locals
      rw [e2]
      exact Nat.ne_of_lt (hfp b hb).2
    · exact (hfp b hb).1.2.2.2.2.1 y c (back e) z
    · rcases (hfp b hb).1.2.2.2.1 with z | z
      · exact I.ok.noex b o e z
      · exact absurd (Nat.lt_of_lt_of_le (Heap.lt_size e) (Nat.le_trans I.ok.bsz z)) (Nat.lt_irrefl _)
    · rcases List.mem_cons.mp (I.stkSub b z) with z | z
      · exact (hfp b hb).1.2.1 z
      · exact (hfp b hb).1.2.2.1 z
  refine ⟨okZ, os', hb, Un.kept kp, ⟨m, ?_, fun i y av q1 q2 q3 => ?_⟩, fun y c e => ?_, ?_, fun y c e => I.freeC y c (back e), fun p hp => ?_, I.hok.kept kp, by rw [wipe_length]; exact I.len⟩
  · show t.heap.Ns cenv.locals m
    rw [e2]
    exact ns
  · obtain ⟨q2, hne⟩ := wipe_some q2
    have q3 : Vis cenv.scope y := q3
    rw [e1] at q3
    have hfr : scope.names.lookup y = some .free := by
      rcases q3 with q3 | q3 | q3
      · rcases ok.own _ (PySem.mem_of_lookup q3) (.inl rfl) with e' | e'
        · obtain ⟨p, hp, hpy⟩ := List.mem_map.mp e'
          have e8 := ok.ix p hp
          have e9 : p.1 = y := hpy
          rw [e9] at e8
          exact absurd (List.mem_map.mpr ⟨p, hp, nodup_ix hN e8 q1⟩) hne
        · exact absurd (List.mem_of_getElem? q1) e'
      · exact absurd rfl (hcell _ (PySem.mem_of_lookup q3))
      · exact q3
    obtain ⟨m0, hn, hl⟩ := I.loc
    have hvis : Vis X.env.scope y := (ok.free _ (PySem.mem_of_lookup hfr) rfl).elim (fun k => .inr (.inl k)) (fun k => .inr (.inr k))
    obtain ⟨w, r, q⟩ := hl i y av q1 q2 hvis
    obtain ⟨c, c1, c2⟩ := has hfr
    refine ⟨w, r, .inr ⟨.inr (by show cenv.kindOf y = _; rw [kindIs y]; exact hfr), c, c1, ?_⟩⟩
    rcases q with ⟨k, _⟩ | ⟨_, c', e', z⟩
    · have k : X.env.scope.names.lookup y = some .local := k
      rcases ok.free _ (PySem.mem_of_lookup hfr) rfl with k' | k'
      · rw [show X.env.scope.names.lookup y = _ from k'] at k
        cases k
      · rw [show X.env.scope.names.lookup y = _ from k'] at k
        cases k
    · rw [c2] at e'
      cases e'
      exact z.keeps kp
  · obtain ⟨w, z⟩ := I.cell y c (back e)
    exact ⟨w, z.keeps kp⟩
  · show H cenv.locals = none
    rw [e2]
    exact I.hok.fresh (Nat.le_refl _)
  · rcases List.mem_append.mp hp with hp | hp
    · rw [List.mem_singleton.mp hp]
      refine ⟨ha, aNew, ?_, aFs, hd⟩
      show a ≠ cenv.locals
      rw [e2]
      exact Nat.ne_of_gt hlt
    · cases hp
end

/-! ### the frame's segments -/
/-- handed out: a truth value; the consumer stops at stop -/
def gYld (Z : Cx) (τ : L2.St) (stop : Bool) (Q : VK) : Protocol := fun _ _ v s kap =>
  ∃ (c : Bool) (H : Hp), v = .bool c ∧ Inv Z [] τ H s ∧ (c = stop → Q (.bl stop) H) ∧ (c ≠ stop → ∀ t, Regen s t → kap (.send .none) t)
def gFin (Z : Cx) (τ : L2.St) (stop : Bool) (Q : VK) : Nat → Shared → Shared → Prop := fun _ _ s => ∃ H, Inv Z [] τ H s ∧ Q (.bl (!stop)) H
abbrev gEnd (Z : Cx) (τ : L2.St) (stop : Bool) (Q : VK) : GenEnd := fun n s₀ r s₁ => r = .ok .next ∧ gFin Z τ stop Q n s₀ s₁

/-- the loop as it is asked of a prover -/
def TurnsOf (J : It) (g : TG) (tt : TT) (te : TE) (vs : List Nat) (τ : L2.St) (stop : Bool) (Q : VK) (W : Nat → Nat → Hp → Prop) : Prop :=
  ∀ i m H, W i m H → (J.stop i H ∧ Q (.bl (!stop)) H) ∨ (J.go i H ∧ ∃ Nx : Hp → Prop, (∀ H', Nx H' → ∃ m', m' < m ∧ W (i + 1) m' H') ∧
    ∀ x H', J.yld i H x H' → g x τ H' fun σ2 H2 => wipe σ2 vs = τ ∧ tt σ2 H2 fun b H3 =>
      if b = true then te σ2 H3 fun y H4 => ∃ c : Bool, y = .bl c ∧ (c = stop → Q (.bl stop) H4) ∧ (c ≠ stop → Nx H4) else Nx H3)

section
variable {X : Cx} {A : Around} {s₁ : Shared} {H₁ : Hp} {cenv : Env} {fp : List Addr} {pn : List (Addr × Obj)} {tg elt iter : Expr} {ifs : List Expr} {scope : Scope} {pos : Pos} {it : Addr} {tn : Nat → Heap → Prop} {J : It} {g : TG} {tt : TT} {te : TE} {vs : List Nat} {τ : L2.St} {stop : Bool} {Q : VK} {W : Nat → Nat → Hp → Prop}
theorem seg_gx (hcalm : X.calm = true) (pg : PG (gcx X A s₁ H₁ cenv fp pn) tg g) (pt : PTs (gcx X A s₁ H₁ cenv fp pn) ifs tt) (pe : PE (gcx X A s₁ H₁ cenv fp pn) elt te)
    (T : Turn X.prog X.w X.K tg J fp it tn) (hco : cenv.scope.isCoroutine = false) (turn : TurnsOf J g tt te vs τ stop Q W) (hnp : ∀ p ∈ pn, p.1 ∉ fp) :
    ∀ (m n : Nat), m < n → ∀ (i : Nat) (s₀ s : Shared) (H : Hp), W i m H → Inv (gcx X A s₁ H₁ cenv fp pn) [] τ H s → tn i s.heap → (∀ b ∈ fp, H b = none) →
      Seg (model X.prog X.w) A (gEnd (gcx X A s₁ H₁ cenv fp pn) τ stop Q) (gYld (gcx X A s₁ H₁ cenv fp pn) τ stop Q) n s₀
        (.compLoop (.GeneratorExp elt [⟨tg, iter, ifs, 0⟩] scope pos) 0 (.ref it) .none cenv)
        ((model X.prog X.w).den (.compLoop (.GeneratorExp elt [⟨tg, iter, ifs, 0⟩] scope pos) 0 (.ref it) .none cenv)) [] s := by
  have stat : ∀ {σ' : L2.St} {H' : Hp} {s' : Shared}, Inv (gcx X A s₁ H₁ cenv fp pn) [] σ' H' s' → (∀ b ∈ fp, H' b = none) → ∀ b ∈ fp, FpOk (gcx X A s₁ H₁ cenv fp pn) [] H' b :=
    fun {σ' H' s'} I' hn b hb => ⟨hn b hb, (I'.ok.exf b hb).1, I'.ok.exfs b hb, .inl hb, fun x c e => (I'.ok.exf b hb).2 x c e, fun p hp z => by
      rcases List.mem_append.mp hp with hp | hp
      · exact hnp p hp (by rw [z]; exact hb)
      · cases hp⟩
  have noE : ∀ {α : Type} {u : Sem α} {q q' : α → Shared → Prop} {E : Value → Shared → Prop} {s' : Shared}, wpAny (model X.prog X.w) (gcx X A s₁ H₁ cenv fp pn).A u q (fun _ _ => False) s' → (∀ r s6, q r s6 → q' r s6) →
      wpAny (model X.prog X.w) (A.over (.compLoop (.GeneratorExp elt [⟨tg, iter, ifs, 0⟩] scope pos) 0 (.ref it) .none cenv) []) u q' E s' := fun {α u q q' E s'} h k => by
    rw [over_gen]
    exact wpAny_mono h k fun _ _ z => False.elim z
  intro m
  induction m using Nat.strongRecOn with
  | ind m ih =>
    intro n hmn i s₀ s H w I st hn
    show Seg _ A _ _ _ s₀ _ ((compTurn (.GeneratorExp elt [⟨tg, iter, ifs, 0⟩] scope pos) 0 (.ref it) .none cenv).onRaise (leaving cenv)) [] s
    rw [compTurn_gen, Sem.onRaise_eq_wrap]
    refine seg_bind_wrap (wpAny_standAt ?_)
    rcases turn i m H w with ⟨hs, qq⟩ | ⟨hgo, Nx, hNx, step⟩
    · refine seg_bind_wrap (noE (T.done (gcx X A s₁ H₁ cenv fp pn) rfl rfl rfl hcalm i [] s _ H (fun _ _ => False) I (stat I hn) st hs) fun r s6 ⟨hr, I6⟩ => ?_)
      subst hr
      exact seg_end (.ok .next) ⟨rfl, H, I6, qq⟩
    · refine seg_bind_wrap (noE (T.item (gcx X A s₁ H₁ cenv fp pn) rfl rfl rfl hcalm i [] s _ H (fun _ _ => False) I (stat I hn) st hgo) fun r s6 ⟨u, hr, h6⟩ => ?_)
      subst hr
      refine seg_bind_wrap (noE h6 fun _ s7 ⟨x, H7, I7, r7, y7, st7, n7⟩ => ?_)
      have I7' := I7.pinned (stat I7 n7) (T.obj _ _ st7)
      refine seg_bind_wrap (noE (pg.run _ s7 _ H7 x u _ I7' r7 (step x H7 y7)) fun _ s8 ⟨σ8, H8, I8, hw8, q8⟩ => ?_)
      refine seg_bind_wrap (noE (pt.run _ s8 σ8 H8 _ I8 q8) fun b s9 ⟨H9, I9, q9⟩ => ?_)
      -- back to the loop's own words
      have tidy : ∀ {s' : Shared} {H' : Hp}, Inv (gcx X A s₁ H₁ cenv fp pn) ([] ++ pinsAt fp s7.heap) σ8 H' s' →
          Inv (gcx X A s₁ H₁ cenv fp pn) [] τ H' s' ∧ tn (i + 1) s'.heap ∧ ∀ b ∈ fp, H' b = none := fun {s' H'} I' => by
        have pin' : ∀ b ∈ fp, ∀ o, s7.heap.get? b = some o → s'.heap.get? b = some o ∧ H' b = none := fun b hb o e =>
          let z := I'.pin (b, o) (List.mem_append_right _ (List.mem_append_right _ (mem_pinsAt hb e)))
          ⟨z.1, z.2.1⟩
        have hl : τ.length = σ8.length := by rw [← hw8, wipe_length]
        refine ⟨(I'.unpinned (pins := [])).weak hl (fun j v e => ?_), T.keep _ _ _ st7 fun b hb o e => (pin' b hb o e).1, fun b hb => ?_⟩
        · rw [← hw8] at e
          exact (wipe_some e).1
        · obtain ⟨o, e, _⟩ := T.obj _ _ st7 b hb
          exact (pin' b hb o e).2
      cases b with
      | false =>
        simp only [Bool.false_eq_true, if_false] at q9 ⊢
        obtain ⟨m', hm', w'⟩ := hNx H9 q9
        obtain ⟨J1, J2, J3⟩ := tidy I9
        exact seg_again rfl (ih m' hm' n (Nat.lt_trans hm' hmn) (i + 1) s₀ s9 H9 w' J1 J2 J3)
      | true =>
        simp only [if_true] at q9 ⊢
        have hy : ∀ v, yieldOut cenv v = yieldValue v := fun v => by simp only [yieldOut, hco, Bool.false_eq_true, if_false]
        simp only [hy]
        rw [Sem.bind_eq_wrap', Sem.bind_eq_wrap', Sem.wrap_wrap, Sem.wrap_wrap]
        refine seg_wrap (noE (pe.run _ s9 σ8 H9 _ I9 q9) fun z s10 ⟨yv, H10, I10, r10, c, ec, h1, h2⟩ => ?_)
        subst ec
        have ez : z = Value.bool c := r10
        subst ez
        obtain ⟨J1, J2, J3⟩ := tidy I10
        have pos' : ∃ n', n = n' + 1 := ⟨n - 1, by omega⟩
        obtain ⟨n', rfl⟩ := pos'
        refine seg_at (seg_yield rfl rfl rfl ⟨c, H10, rfl, J1, h1, fun hc s'' hr => ?_⟩)
        obtain ⟨m', hm', w'⟩ := hNx H10 (h2 hc)
        have hh : s''.heap = s10.heap := by
          obtain ⟨G, _, rfl⟩ := hr
          rfl
        exact seg_again rfl (ih m' hm' n' (by omega) (i + 1) s'' s'' H10 w' (hr.inv J1) (by rw [hh]; exact J2) J3)
end

/-! ### who asks: all(..), any(..) -/
section
variable {Z : Cx} {τ : L2.St} {Q : VK} {A : Around} {a : Addr} {g : Nat} {go : Obj} {R : Result → Shared → Prop}
theorem all_loop (hh : A.handled = none) (hd : A.depth < recursionLimit) (hpn : (a, go) ∈ Z.pn) (hgo : ∀ h : Heap, h.get? a = some go → h.IsGen a g)
    (hend : ∀ (b : Bool) (H : Hp) (s1 s' : Shared), Inv Z [] τ H s1 → Q (.bl b) H → s'.os = s1.os → AllBare s'.gens → (∀ x o, s1.heap.get? x = some o → s'.heap.get? x = some o) → R (.ok (.ret (.bool b))) s') :
    ∀ (n : Nat) (s : Shared) (gs : GenState), s.gens[g]? = some gs →
      gs.Goes (model Z.prog Z.w) A.in1.in1 (gEnd Z τ false Q) (gYld Z τ false Q) n (.send .none) (s.setGen g .running) → s.heap.get? a = some go → s.heap.NoLimit →
      codeAny (model Z.prog Z.w) A (.builtin "all.loop" ⟨[.ref a], []⟩) R s := by
  intro n
  induction n with
  | zero =>
    intro s gs hgs hG hga hl
    refine codeAny_builtin F.entry_all_loop ?_
    rw [Around.under_plainId F.plain_all_loop _]
    show wpAny _ A.in1 (pyNext (.ref a) >>= _) _ _ s
    refine wpAny_bind (wpAny_pyNext_genexpQ (A := A.in1) (P := gFin Z τ false Q) hh hl hd (hgo _ hga) hgs hG (fun v s₁ gs' hb hv => ?_) (fun s₁ hp h' hk => ?_))
    · obtain ⟨c, H, rfl, I, h1, h2⟩ := hv
      refine wpAny_bind (wpAny_holding (wpAny_truthy_bool ?_))
      refine wpAny_bind (wpAny_letGo ?_)
      cases c with
      | false =>
        simp only [Bool.false_eq_true, if_false]
        exact wpAny_bind (wpAny_rule (wpAny_pure (hend false H s₁ _ I (h1 rfl) rfl (allBare_setGen I.bare hb) fun _ _ e => e)))
      | true => exact False.elim (h2 (by decide) s₁ ⟨s₁.gens, I.bare, rfl⟩)
    · obtain ⟨H, I, q⟩ := hp
      exact wpAny_bind (wpAny_rule (wpAny_pure (hend true H s₁ _ I q rfl (allBare_setGen I.bare rfl) hk)))
  | succ n ih =>
    intro s gs hgs hG hga hl
    have hgl : g < s.gens.size := (Array.getElem?_eq_some_iff.mp hgs).1
    refine codeAny_builtin F.entry_all_loop ?_
    rw [Around.under_plainId F.plain_all_loop _]
    show wpAny _ A.in1 (pyNext (.ref a) >>= _) _ _ s
    refine wpAny_bind (wpAny_gsz (n := g + 1) hgl (wpAny_pyNext_genexpQ (A := A.in1) (P := gFin Z τ false Q) hh hl hd (hgo _ hga) hgs hG (fun v s₁ gs' hb hv => ?_) (fun s₁ hp h' hk => ?_)))
    · intro hsz
      obtain ⟨c, H, rfl, I, h1, h2⟩ := hv
      refine wpAny_bind (wpAny_holding (wpAny_truthy_bool ?_))
      refine wpAny_bind (wpAny_letGo ?_)
      cases c with
      | false =>
        simp only [Bool.false_eq_true, if_false]
        exact wpAny_bind (wpAny_rule (wpAny_pure (hend false H s₁ _ I (h1 rfl) rfl (allBare_setGen I.bare hb) fun _ _ e => e)))
      | true =>
        simp only [if_true]
        have hsz1 : g < s₁.gens.size := by
          have q : (s₁.setGen g gs').gens.size = s₁.gens.size := setGen_size _ _ _
          have hsz' : g + 1 ≤ (s₁.setGen g gs').gens.size := hsz
          omega
        have bare2 : AllBare (s₁.setGen g gs').gens := allBare_setGen I.bare hb
        exact wpAny_pure ⟨plainId_quiet F.plain_all_loop _, ih (s₁.setGen g gs') gs' (setGen_at hsz1) (h2 (by decide) _ ⟨_, allBare_setGen (s := s₁.setGen g gs') bare2 rfl, rfl⟩) (I.pin (a, go) (List.mem_append_left _ hpn)).1 I.nolimit⟩
    · intro _
      obtain ⟨H, I, q⟩ := hp
      exact wpAny_bind (wpAny_rule (wpAny_pure (hend true H s₁ _ I q rfl (allBare_setGen I.bare rfl) hk)))
theorem any_loop (hh : A.handled = none) (hd : A.depth < recursionLimit) (hpn : (a, go) ∈ Z.pn) (hgo : ∀ h : Heap, h.get? a = some go → h.IsGen a g)
    (hend : ∀ (b : Bool) (H : Hp) (s1 s' : Shared), Inv Z [] τ H s1 → Q (.bl b) H → s'.os = s1.os → AllBare s'.gens → (∀ x o, s1.heap.get? x = some o → s'.heap.get? x = some o) → R (.ok (.ret (.bool b))) s') :
    ∀ (n : Nat) (s : Shared) (gs : GenState), s.gens[g]? = some gs →
      gs.Goes (model Z.prog Z.w) A.in1.in1 (gEnd Z τ true Q) (gYld Z τ true Q) n (.send .none) (s.setGen g .running) → s.heap.get? a = some go → s.heap.NoLimit →
      codeAny (model Z.prog Z.w) A (.builtin "any.loop" ⟨[.ref a], []⟩) R s := by
  intro n
  induction n with
  | zero =>
    intro s gs hgs hG hga hl
    refine codeAny_builtin F.entry_any_loop ?_
    rw [Around.under_plainId F.plain_any_loop _]
    show wpAny _ A.in1 (pyNext (.ref a) >>= _) _ _ s
    refine wpAny_bind (wpAny_pyNext_genexpQ (A := A.in1) (P := gFin Z τ true Q) hh hl hd (hgo _ hga) hgs hG (fun v s₁ gs' hb hv => ?_) (fun s₁ hp h' hk => ?_))
    · obtain ⟨c, H, rfl, I, h1, h2⟩ := hv
      refine wpAny_bind (wpAny_holding (wpAny_truthy_bool ?_))
      refine wpAny_bind (wpAny_letGo ?_)
      cases c with
      | true =>
        simp only [if_true]
        exact wpAny_bind (wpAny_rule (wpAny_pure (hend true H s₁ _ I (h1 rfl) rfl (allBare_setGen I.bare hb) fun _ _ e => e)))
      | false => exact False.elim (h2 (by decide) s₁ ⟨s₁.gens, I.bare, rfl⟩)
    · obtain ⟨H, I, q⟩ := hp
      exact wpAny_bind (wpAny_rule (wpAny_pure (hend false H s₁ _ I q rfl (allBare_setGen I.bare rfl) hk)))
  | succ n ih =>
    intro s gs hgs hG hga hl
    have hgl : g < s.gens.size := (Array.getElem?_eq_some_iff.mp hgs).1
    refine codeAny_builtin F.entry_any_loop ?_
    rw [Around.under_plainId F.plain_any_loop _]
    show wpAny _ A.in1 (pyNext (.ref a) >>= _) _ _ s
    refine wpAny_bind (wpAny_gsz (n := g + 1) hgl (wpAny_pyNext_genexpQ (A := A.in1) (P := gFin Z τ true Q) hh hl hd (hgo _ hga) hgs hG (fun v s₁ gs' hb hv => ?_) (fun s₁ hp h' hk => ?_)))
    · intro hsz
      obtain ⟨c, H, rfl, I, h1, h2⟩ := hv
      refine wpAny_bind (wpAny_holding (wpAny_truthy_bool ?_))
      refine wpAny_bind (wpAny_letGo ?_)
      cases c with
      | true =>
        simp only [if_true]
        exact wpAny_bind (wpAny_rule (wpAny_pure (hend true H s₁ _ I (h1 rfl) rfl (allBare_setGen I.bare hb) fun _ _ e => e)))
      | false =>
        simp only [Bool.false_eq_true, if_false]
        have hsz1 : g < s₁.gens.size := by
          have q : (s₁.setGen g gs').gens.size = s₁.gens.size := setGen_size _ _ _
          have hsz' : g + 1 ≤ (s₁.setGen g gs').gens.size := hsz
          omega
        have bare2 : AllBare (s₁.setGen g gs').gens := allBare_setGen I.bare hb
        exact wpAny_pure ⟨plainId_quiet F.plain_any_loop _, ih (s₁.setGen g gs') gs' (setGen_at hsz1) (h2 (by decide) _ ⟨_, allBare_setGen (s := s₁.setGen g gs') bare2 rfl, rfl⟩) (I.pin (a, go) (List.mem_append_left _ hpn)).1 I.nolimit⟩
    · intro _
      obtain ⟨H, I, q⟩ := hp
      exact wpAny_bind (wpAny_rule (wpAny_pure (hend false H s₁ _ I q rfl (allBare_setGen I.bare rfl) hk)))
end

/-! ### the expression -/
/-- all(elt for tg in iter if ..) (stop := false), any(..) (stop := true): P the table of the running def's code object, which may grow -/
def tAsk (stop : Bool) (P : Addr) (wi : TI) (g : TG) (tt : TT) (te : TE) (vs : List Nat) : TE := fun σ H Q => wi σ H fun J H1 => TabG H1 P ∧ ∀ H2, Tabbed P H1 H2 →
  ∃ W : Nat → Nat → Hp → Prop, (∃ m, W 0 m H2) ∧ TurnsOf J g tt te vs (wipe σ vs) stop Q W

section
variable {X : Cx} {pins : List (Addr × Obj)} {σ : L2.St} {H : Hp} {s : Shared} {tg elt iter : Expr} {ifs : List Expr} {scope : Scope} {pos : Pos} {wi : TI} {g : TG} {tt : TT} {te : TE} {own : List (Str × Nat)} {c P : Addr} {k : Nat} {stop : Bool} {Q : VK}
/-- the generator is made; it goes when it is woken -/
theorem gen_made {Q' : Value → Shared → Prop} (hr : Room (k + 1) X.A) (TB : TabB X.base X.mg c P) (hcode : X.env.code = .ref c) (hc : X.calm = true) (hN : X.N.Nodup) (hi : PI X tg iter wi) (ok : BlkOk X.N X.env.scope scope own)
    (hcell : ∀ y ∈ scope.names, y.2 ≠ .cell) (hdot : scope.names.lookup (".0" : Str) = some NameKind.local) (hco : scope.isCoroutine = false)
    (hg : ∀ (A : Around) (s : Shared) (H : Hp) (C : Addr) (code : Value) (fp : List Addr) (pn : List (Addr × Obj)), PG (gcx X A s H (genEnv scope (cloFrom X.env.cells scope.names []) C code builtinsNs X.env) fp pn) tg g)
    (ht : ∀ (A : Around) (s : Shared) (H : Hp) (C : Addr) (code : Value) (fp : List Addr) (pn : List (Addr × Obj)), Room k (A.deeper (genEnv scope (cloFrom X.env.cells scope.names []) C code builtinsNs X.env)) → PTs (gcx X A s H (genEnv scope (cloFrom X.env.cells scope.names []) C code builtinsNs X.env) fp pn) ifs tt)
    (he : ∀ (A : Around) (s : Shared) (H : Hp) (C : Addr) (code : Value) (fp : List Addr) (pn : List (Addr × Obj)), Room k (A.deeper (genEnv scope (cloFrom X.env.cells scope.names []) C code builtinsNs X.env)) → PE (gcx X A s H (genEnv scope (cloFrom X.env.cells scope.names []) C code builtinsNs X.env) fp pn) elt te)
    (hs : ∀ v, genFold iter X.env v = pure v) (I : Inv X pins σ H s) (h : tAsk stop P wi g tt te (own.map (·.2)) σ H Q)
    (hQ : ∀ (Z : Cx) (τ : L2.St) (a : Addr) (j n : Nat) (go : Obj) (gs : GenState) (s5 : Shared), Z.prog = X.prog → Z.w = X.w → (a, go) ∈ Z.pn → (∀ h : Heap, h.get? a = some go → h.IsGen a j) → s5.gens[j]? = some gs →
      gs.Goes (model X.prog X.w) X.A.in1.in1 (gEnd Z τ stop Q) (gYld Z τ stop Q) n (.send .none) (s5.setGen j .running) → s5.heap.get? a = some go → s5.heap.NoLimit →
      (∀ (b : Bool) (H' : Hp) (s1 s' : Shared), Inv Z [] τ H' s1 → Q (.bl b) H' → s'.os = s1.os → AllBare s'.gens → (∀ x o, s1.heap.get? x = some o → s'.heap.get? x = some o) → EP X pins σ Q (.bool b) s') → Q' (.ref a) s5) :
    wpAny (model X.prog X.w) X.A (eval (.GeneratorExp elt [⟨tg, iter, ifs, 0⟩] scope pos) X.env) Q' X.xe s := by
  have hfree : ∀ y ∈ scope.names, y.2 = .free → ∃ c, X.env.cells.lookup y.1 = some c := fun y hy e => by
    rcases ok.free y hy e with q | q
    · exact I.ok.has _ (.inl q)
    · exact I.ok.has _ (.inr q)
  refine wpAny_GeneratorExp_make hco (closure_ok hfree) hcell hdot ok.kind (by have := hr.dp; omega) ?_ hs
  refine thn (hi.run pins s σ H _ I h) fun xv s1 hx => thn hx fun itv s2 h2 => ?_
  obtain ⟨it, fp, tn, J, H2, rfl, I2, T, st2, f2, ⟨ps, hP, htri⟩, hW⟩ := h2
  have hPs : s2.heap.get? P = some { cls := .none, data := .fields ps } := I2.hok P _ hP
  have cd : PySem.W.CodeHd s2.heap c P := TB.code.keeps I2.bk
  have neP : ∀ b ∈ fp, b ≠ P := fun b hb z => by
    have q := (f2 b hb).1
    rw [z, hP] at q
    cases q
  refine ⟨I2.nolimit, ?_⟩
  have cont : ∀ (code : Value) (h3 : Heap) (tk : Nat) (more : Array Value), Heap.ExtBut P s2.heap h3 → s2.heap.objs.size ≤ h3.objs.size → h3.get? P = some { cls := .none, data := .fields (ps ++ more) } → TriplesOk (ps ++ more).toList →
      wpAny (model X.prog X.w) X.A (builtinsFor X.env.globals X.env.builtins) (fun bi s₄ => ∀ h', h'.Ns s₄.heap.objs.size (fun y => if y = ".0" then some (.ref it) else none) → Heap.SameBut s₄.heap.objs.size (s₄.heap.push { cls := .type "frame", data := .dict #[] }) h' →
          Q' (.ref h'.objs.size) { s₄ with
            gens := s₄.gens.push (.fresh (.compStart (.GeneratorExp elt [⟨tg, iter, ifs, 0⟩] scope pos) 0 (.ref it) .none (genEnv scope (cloFrom X.env.cells scope.names []) s₄.heap.objs.size code bi X.env))),
            toks := s₄.toks + 1 + 1 + 1,
            heap := h'.push { cls := .type "generator", data := .fields #[.int s₄.gens.size 0, .str "<genexpr>" (s₄.toks + 1), .str (X.env.qual ++ "<genexpr>") (s₄.toks + 1 + 1)] } }) X.xe { s2 with heap := h3, toks := tk } := by
    intro code h3 tk more hx hsz hP3 htri3
    have I3 : Inv X pins σ (upd H2 P (.tbl (ps ++ more))) { s2 with heap := h3, toks := tk } := inv_tab (g' := s2.gens) (d' := s2.drawn) (t' := tk) I2 hP (fun b u hb e => hx b u hb e) hP3 I2.bare
    have hT : Tabbed P H2 (upd H2 P (.tbl (ps ++ more))) := ⟨⟨ps ++ more, upd_same, htri3⟩, fun b hb => upd_ne hb⟩
    obtain ⟨W, ⟨m0, w0⟩, turn⟩ := hW _ hT
    generalize hH3 : upd H2 P (.tbl (ps ++ more)) = H3 at I3 w0
    have n3 : ∀ b ∈ fp, H3 b = none := fun b hb => by
      rw [← hH3, upd_ne (neP b hb)]
      exact (f2 b hb).1
    generalize hs3 : ({ s2 with heap := h3, toks := tk } : Shared) = s3 at I3 ⊢
    have e3 : s3.heap = h3 := by rw [← hs3]
    have f3 : ∀ b ∈ fp, FpOk X pins H3 b ∧ b < s3.heap.objs.size := fun b hb => by
      obtain ⟨o, e, _⟩ := T.obj _ _ st2 b hb
      refine ⟨⟨n3 b hb, (f2 b hb).2⟩, ?_⟩
      rw [e3]
      exact Nat.lt_of_lt_of_le (Heap.lt_size e) hsz
    have st3 : tn 0 s3.heap := T.keep _ _ _ st2 fun b hb o e => by
      rw [e3]
      exact hx b o (neP b hb) e
    obtain ⟨bm, ob, b1, b2, b3, b4, b5, b6, b7, b8⟩ := TB.bm
    refine wpAny_builtinsFor (m := X.mg) (by rw [I3.ok.glob]; exact I3.mod.glob.keeps I3.bk) b1 b2 (I3.bk _ _ b5) b6 b7 b8 ?_
    intro h' hn' hs'
    have hsz' : h'.objs.size = s3.heap.objs.size + 1 := by rw [hs'.1, Heap.size_push]
    have keep' : ∀ b o, s3.heap.get? b = some o → h'.get? b = some o := fun b o e => hs'.extBut b o (Nat.ne_of_lt (Heap.lt_size e)) (Heap.get?_push_of_some _ e)
    generalize hgo : ({ cls := .type "generator", data := .fields #[.int s3.gens.size 0, .str "<genexpr>" (s3.toks + 1), .str (X.env.qual ++ "<genexpr>") (s3.toks + 1 + 1)] } : Obj) = go
    generalize hce : genEnv scope (cloFrom X.env.cells scope.names []) s3.heap.objs.size code builtinsNs X.env = ce
    have keep5 : ∀ b o, s3.heap.get? b = some o → (h'.push go).get? b = some o := fun b o e => Heap.get?_push_of_some _ (keep' b o e)
    have hget : (h'.push go).get? h'.objs.size = some go := Heap.get?_push_size _ (by rw [← hgo]; rfl)
    have hgd : ∀ v, go.data ≠ .cell v := fun v q => by
      rw [← hgo] at q
      cases q
    have hgen : ∀ h : Heap, h.get? h'.objs.size = some go → h.IsGen h'.objs.size s3.gens.size := fun h e => ⟨go, _, _, e, by rw [← hgo], by rw [← hgo], by rw [← hgo]⟩
    have hA : X.A.in1.in1.handled = none := hr.hd
    have hfr : X.A.in1.in1.frames = some X.stack := I3.ok.frames
    have hroom : Room k (X.A.in1.in1.deeper ce) := ⟨hr.hd, by
      have := hr.dp
      show X.A.depth + 1 + 3 * k + 5 < _
      omega, by
      have := hr.un
      show X.A.units + 1 + 1 + 3 + 16 * k + 200 < _
      omega⟩
    have start : ∀ t : Shared, t.os = s3.os → AllBare t.gens → t.heap = h'.push go → Inv (gcx X X.A.in1.in1 s3 H3 ce fp [(h'.objs.size, go)]) [] (wipe σ (own.map (·.2))) H3 t := fun t q1 q2 q3 => by
      have nsF : t.heap.Ns s3.heap.objs.size (fun y => if y = ".0" then some (.ref it) else none) := by
        rw [q3]
        exact hn'.push _
      subst hce
      exact gen_start I3 ok hN hcell hA hfr f3 rfl rfl I3.ok.glob rfl rfl rfl q1 q2 (fun b o e => by rw [q3]; exact keep5 b o e) nsF (by rw [q3]; exact hget) (by rw [hsz']; exact Nat.lt_succ_self _) hgd
    have notFp : ∀ p ∈ [(h'.objs.size, go)], p.1 ∉ fp := fun p hp hm => by
      rw [List.mem_singleton.mp hp] at hm
      have z := (f3 _ hm).2
      rw [hsz'] at z
      exact absurd (Nat.lt_of_succ_lt z) (Nat.lt_irrefl _)
    refine hQ (gcx X X.A.in1.in1 s3 H3 ce fp [(h'.objs.size, go)]) (wipe σ (own.map (·.2))) h'.objs.size s3.gens.size (m0 + 1) go _ _ rfl rfl (List.mem_singleton.mpr rfl) hgen (Array.getElem?_push_size ..) ⟨rfl, ?_⟩ hget (I3.nolimit.keeps keep5) fun b H' t1 t' I' q' qo qb qk => ?_
    · have pgZ : PG (gcx X X.A.in1.in1 s3 H3 ce fp [(h'.objs.size, go)]) tg g := by
        subst hce
        exact hg _ _ _ _ _ _ _
      have ptZ : PTs (gcx X X.A.in1.in1 s3 H3 ce fp [(h'.objs.size, go)]) ifs tt := by
        subst hce
        exact ht _ _ _ _ _ _ _ hroom
      have peZ : PE (gcx X X.A.in1.in1 s3 H3 ce fp [(h'.objs.size, go)]) elt te := by
        subst hce
        exact he _ _ _ _ _ _ _ hroom
      have hco' : ce.scope.isCoroutine = false := by
        rw [← hce]
        exact hco
      have woken : ∀ t : Shared, t.os = s3.os → AllBare t.gens → t.heap = h'.push go → Seg (model X.prog X.w) X.A.in1.in1 (gEnd (gcx X X.A.in1.in1 s3 H3 ce fp [(h'.objs.size, go)]) (wipe σ (own.map (·.2))) stop Q) (gYld (gcx X X.A.in1.in1 s3 H3 ce fp [(h'.objs.size, go)]) (wipe σ (own.map (·.2))) stop Q) (m0 + 1) t
          (.compStart (.GeneratorExp elt [⟨tg, iter, ifs, 0⟩] scope pos) 0 (.ref it) .none ce) ((model X.prog X.w).den (.compStart (.GeneratorExp elt [⟨tg, iter, ifs, 0⟩] scope pos) 0 (.ref it) .none ce)) [] t := fun t q1 q2 q3 => by
        have st5 : tn 0 t.heap := T.keep _ _ _ st3 fun b _ o e => by
          rw [q3]
          exact keep5 b o e
        have loop := seg_gx (iter := iter) (scope := scope) (pos := pos) hc pgZ ptZ peZ T hco' turn notFp m0 (m0 + 1) (Nat.lt_succ_self _) 0 t t H3 w0 (start t q1 q2 q3) st5 n3
        show Seg _ X.A.in1.in1 _ _ _ t _ ((compStart (.GeneratorExp elt [⟨tg, iter, ifs, 0⟩] scope pos) 0 (.ref it) .none ce).onRaise (leaving ce)) [] t
        unfold compStart
        rw [Sem.onRaise_eq_wrap]
        show Seg _ X.A.in1.in1 _ _ _ t _ ((ask >>= _).wrap _ _ _ _) [] t
        refine seg_bind_wrap (wpAny_askSetting ?_)
        split
        · exact seg_again rfl loop
        · first
            | exact seg_bind_wrap (wpAny_rule (seg_bind_wrap (wpAny_standAt (seg_bind_wrap (T.self _ 0 t _ _ st5 (seg_again rfl loop))))))
            | (refine seg_bind_wrap (wpAny_rule ?_)
               show Seg _ X.A.in1.in1 _ _ _ t _ ((standAt iter.pos >>= _).wrap _ _ _ _) [] t
               exact seg_bind_wrap (wpAny_standAt (seg_bind_wrap (T.self _ 0 t _ _ st5 (seg_again rfl loop)))))
      exact woken _ rfl (allBare_setGen (s := { s3 with gens := s3.gens.push _, heap := h'.push go, toks := s3.toks + 1 + 1 + 1 }) (AllBare.push I3.bare rfl) rfl) rfl
    · have hfpX : ∀ b ∈ fp, (b ∈ X.ex ∨ X.s_0.heap.objs.size ≤ b) ∧ b ≠ X.env.locals ∧ (∀ x c, X.env.cells.lookup x = some c → c ≠ b) ∧ ∀ p ∈ X.pn ++ pins, p.1 ≠ b := fun b hb =>
        ⟨(f3 b hb).1.2.2.2.1, (f3 b hb).1.2.1, (f3 b hb).1.2.2.2.2.1, (f3 b hb).1.2.2.2.2.2⟩
      have un : Un (frs X.stack) fp H3 H' s3.heap t1.heap := I'.base
      have un2 : Un (frs X.stack) fp H3 H' s3.heap t'.heap := un.trans (Un.kept qk)
      exact ⟨.bl b, H', I3.call' (ch := fp) (qo.trans I'.os) un2 (I'.hok.kept qk) qb hfpX, rfl, q'⟩
  cases hf : codeAmong pos ps.toList with
  | none =>
    refine wpAny_genexprCodeX hcode (cd.code hPs htri) (cd.tab hPs) hf fun c' h3 tk hx hge hlt hco' _ htab' _ => ?_
    obtain ⟨o1, vs, f1, tf, fl, tg', inF, tx, tt', op, _, _, _, _, _, _, _, _, _, htr, _⟩ := hco'
    exact cont _ h3 tk _ hx (Nat.le_trans hge (Nat.le_of_lt hlt)) htab'.2 htr
  | some cv =>
    refine wpAny_genexprCode_hit hcode (cd.code hPs htri) hf ?_
    exact cont cv s2.heap s2.toks #[] (Heap.ExtBut.refl _ _) (Nat.le_refl _) (by simpa using hPs) (by simpa using htri)
/-- what is asked of the generator expression's own names -/
structure GenNames (scope : Scope) : Prop where
  nocell : ∀ y ∈ scope.names, y.2 ≠ .cell
  dot : scope.names.lookup (".0" : Str) = some NameKind.local
  plain : scope.isCoroutine = false
def genNamesB (scope : Scope) : Bool := (scope.names.all fun y => decide (y.2 ≠ .cell)) && decide (scope.names.lookup (".0" : Str) = some NameKind.local) && !scope.isCoroutine
theorem genNames_by (h : genNamesB scope = true) : GenNames scope := by
  unfold genNamesB at h
  simp only [Bool.and_eq_true, List.all_eq_true, decide_eq_true_eq, Bool.not_eq_true'] at h
  exact ⟨h.1.1, h.1.2, h.2⟩
theorem pe_all {p pos' : Pos} (hr : Room (k + 1) X.A) (hl : Gl X "all") (hm : X.mg "all" = none) (TB : TabB X.base X.mg c P) (hcode : X.env.code = .ref c) (hc : X.calm = true) (hN : X.N.Nodup) (hi : PI X tg iter wi) (ok : BlkOk X.N X.env.scope scope own) (gn : GenNames scope)
    (hg : ∀ (A : Around) (s : Shared) (H : Hp) (C : Addr) (code : Value) (fp : List Addr) (pn : List (Addr × Obj)), PG (gcx X A s H (genEnv scope (cloFrom X.env.cells scope.names []) C code builtinsNs X.env) fp pn) tg g)
    (ht : ∀ (A : Around) (s : Shared) (H : Hp) (C : Addr) (code : Value) (fp : List Addr) (pn : List (Addr × Obj)), Room k (A.deeper (genEnv scope (cloFrom X.env.cells scope.names []) C code builtinsNs X.env)) → PTs (gcx X A s H (genEnv scope (cloFrom X.env.cells scope.names []) C code builtinsNs X.env) fp pn) ifs tt)
    (he : ∀ (A : Around) (s : Shared) (H : Hp) (C : Addr) (code : Value) (fp : List Addr) (pn : List (Addr × Obj)), Room k (A.deeper (genEnv scope (cloFrom X.env.cells scope.names []) C code builtinsNs X.env)) → PE (gcx X A s H (genEnv scope (cloFrom X.env.cells scope.names []) C code builtinsNs X.env) fp pn) elt te)
    (hs : ∀ v, genFold iter X.env v = pure v := by intro _; rfl) (hb : bootBuiltins "all" = some (.builtin "all") := by decide +kernel)
    (hst : starEach [.GeneratorExp elt [⟨tg, iter, ifs, 0⟩] scope pos] X.env = (false, eval (.GeneratorExp elt [⟨tg, iter, ifs, 0⟩] scope pos) X.env) :: starEach [] X.env := by rfl) :
    PE X (.Call (.Name "all" p) [.GeneratorExp elt [⟨tg, iter, ifs, 0⟩] scope pos] [] pos') (tAsk false P wi g tt te (own.map (·.2))) := by
  refine ⟨fun pins s σ H Q I h => ?_⟩
  refine wpAny_Call_Name_kw (ld_blt I hl hm hb ?_)
  refine callWith_builtin1 ?_ hst (by rfl)
  rw [hst]
  show wpAny _ _ (spliced ((false, eval (.GeneratorExp elt [⟨tg, iter, ifs, 0⟩] scope pos) X.env) :: backTo pos' (starEach [] X.env))) _ _ s
  refine Calls.spliced_cons (gen_made hr TB hcode hc hN hi ok gn.nocell gn.dot gn.plain hg ht he hs I h fun Z τ a j n go gs s5 hp hw hpn hgo hgs hG hga hlim hend => ?_)
  refine Calls.spliced_nil (call_function_tree F.kind_all F.plain_all F.entry_all (F.args_all1 _) ?_)
  unfold Builtin.«all»
  refine wpAny_bind (m := oneArg "all" _) (wpAny_pure (wpAny_bind (wpAny_pyIter_gen (hgo _ hga) ?_)))
  refine wpAny_pure ⟨plainId_quiet F.plain_all_loop _, ?_⟩
  rw [← hp, ← hw] at hG ⊢
  exact all_loop (A := X.A) hr.hd hr.depth hpn hgo hend n s5 gs hgs hG hga hlim
theorem pe_any {p pos' : Pos} (hr : Room (k + 1) X.A) (hl : Gl X "any") (hm : X.mg "any" = none) (TB : TabB X.base X.mg c P) (hcode : X.env.code = .ref c) (hc : X.calm = true) (hN : X.N.Nodup) (hi : PI X tg iter wi) (ok : BlkOk X.N X.env.scope scope own) (gn : GenNames scope)
    (hg : ∀ (A : Around) (s : Shared) (H : Hp) (C : Addr) (code : Value) (fp : List Addr) (pn : List (Addr × Obj)), PG (gcx X A s H (genEnv scope (cloFrom X.env.cells scope.names []) C code builtinsNs X.env) fp pn) tg g)
    (ht : ∀ (A : Around) (s : Shared) (H : Hp) (C : Addr) (code : Value) (fp : List Addr) (pn : List (Addr × Obj)), Room k (A.deeper (genEnv scope (cloFrom X.env.cells scope.names []) C code builtinsNs X.env)) → PTs (gcx X A s H (genEnv scope (cloFrom X.env.cells scope.names []) C code builtinsNs X.env) fp pn) ifs tt)
    (he : ∀ (A : Around) (s : Shared) (H : Hp) (C : Addr) (code : Value) (fp : List Addr) (pn : List (Addr × Obj)), Room k (A.deeper (genEnv scope (cloFrom X.env.cells scope.names []) C code builtinsNs X.env)) → PE (gcx X A s H (genEnv scope (cloFrom X.env.cells scope.names []) C code builtinsNs X.env) fp pn) elt te)
    (hs : ∀ v, genFold iter X.env v = pure v := by intro _; rfl) (hb : bootBuiltins "any" = some (.builtin "any") := by decide +kernel)
    (hst : starEach [.GeneratorExp elt [⟨tg, iter, ifs, 0⟩] scope pos] X.env = (false, eval (.GeneratorExp elt [⟨tg, iter, ifs, 0⟩] scope pos) X.env) :: starEach [] X.env := by rfl) :
    PE X (.Call (.Name "any" p) [.GeneratorExp elt [⟨tg, iter, ifs, 0⟩] scope pos] [] pos') (tAsk true P wi g tt te (own.map (·.2))) := by
  refine ⟨fun pins s σ H Q I h => ?_⟩
  refine wpAny_Call_Name_kw (ld_blt I hl hm hb ?_)
  refine callWith_builtin1 ?_ hst (by rfl)
  rw [hst]
  show wpAny _ _ (spliced ((false, eval (.GeneratorExp elt [⟨tg, iter, ifs, 0⟩] scope pos) X.env) :: backTo pos' (starEach [] X.env))) _ _ s
  refine Calls.spliced_cons (gen_made hr TB hcode hc hN hi ok gn.nocell gn.dot gn.plain hg ht he hs I h fun Z τ a j n go gs s5 hp hw hpn hgo hgs hG hga hlim hend => ?_)
  refine Calls.spliced_nil (call_function_tree F.kind_any F.plain_any F.entry_any (F.args_any1 _) ?_)
  unfold Builtin.«any»
  refine wpAny_bind (m := oneArg "any" _) (wpAny_pure (wpAny_bind (wpAny_pyIter_gen (hgo _ hga) ?_)))
  refine wpAny_pure ⟨plainId_quiet F.plain_any_loop _, ?_⟩
  rw [← hp, ← hw] at hG ⊢
  exact any_loop (A := X.A) hr.hd hr.depth hpn hgo hend n s5 gs hgs hG hga hlim
end
end GX

set_option Elab.async false
set_option linter.all false
set_option maxRecDepth 100000
/-! The law's drawing: _law_begun, _law_draw, _law_pick. -/
namespace K02
open PySem PySem.Spec L2
open PyProof.Rows
def top (i : Nat) : Stmt := PySem.Challenge.pw_restsure_k49_rings_told.main.body.getD i (.Pass ⟨0, 0, 0, 0⟩)
abbrev sBegun : Stmt := top 34 -- _law_begun
abbrev sDraw : Stmt := top 35 -- _law_draw
abbrev sPick : Stmt := top 36 -- _law_pick

/-! ### the state of the draws -/
abbrev kLarge : Key := Sum.inr ("large" : Str)
abbrev kCells : Key := Sum.inr ("cells" : Str)
abbrev kLeft : Key := Sum.inr ("left" : Str)
abbrev kTurn : Key := Sum.inr ("turn" : Str)
def stD (lg cl : Addr) (left turn : Int) : List (Key × V) := [(kLarge, .ref lg), (kCells, .ref cl), (kLeft, .int left), (kTurn, .int turn)]
theorem sne1 : ¬ ("large" : Str) = "cells" := by decide +kernel
theorem sne2 : ¬ ("large" : Str) = "left" := by decide +kernel
theorem sne3 : ¬ ("large" : Str) = "turn" := by decide +kernel
theorem sne4 : ¬ ("cells" : Str) = "left" := by decide +kernel
theorem sne5 : ¬ ("cells" : Str) = "turn" := by decide +kernel
theorem sne6 : ¬ ("left" : Str) = "turn" := by decide +kernel
theorem sne7 : ¬ ("turn" : Str) = "left" := by decide +kernel
theorem kne1 : ¬ kLarge = kCells := fun z => sne1 (Sum.inr.inj z)
theorem kne2 : ¬ kLarge = kLeft := fun z => sne2 (Sum.inr.inj z)
theorem kne3 : ¬ kLarge = kTurn := fun z => sne3 (Sum.inr.inj z)
theorem kne4 : ¬ kCells = kLeft := fun z => sne4 (Sum.inr.inj z)
theorem kne5 : ¬ kCells = kTurn := fun z => sne5 (Sum.inr.inj z)
theorem kne6 : ¬ kLeft = kTurn := fun z => sne6 (Sum.inr.inj z)
theorem st_large (lg cl : Addr) (a b : Int) : valV (stD lg cl a b) kLarge = some (.ref lg) := valV_pos rfl
theorem st_cells (lg cl : Addr) (a b : Int) : valV (stD lg cl a b) kCells = some (.ref cl) := by
  unfold stD
  rw [valV_neg kne1]
  exact valV_pos rfl
theorem st_left (lg cl : Addr) (a b : Int) : valV (stD lg cl a b) kLeft = some (.int a) := by
  unfold stD
  rw [valV_neg kne2, valV_neg kne4]
  exact valV_pos rfl
theorem st_turn (lg cl : Addr) (a b : Int) : valV (stD lg cl a b) kTurn = some (.int b) := by
  unfold stD
  rw [valV_neg kne3, valV_neg kne5, valV_neg kne6]
  exact valV_pos rfl
theorem put_left (lg cl : Addr) (a b c : Int) : putK (stD lg cl a b) kLeft (.int c) = stD lg cl c b := by
  unfold putK stD
  simp [sne2, sne4, sne7]
theorem put_turn (lg cl : Addr) (a b c : Int) : putK (stD lg cl a b) kTurn (.int c) = stD lg cl a c := by
  unfold putK stD
  simp [sne3, sne5, sne6]

theorem merge_st (lg cl : Addr) (a b : Int) : mergeK [] (stD lg cl a b) = stD lg cl a b := by
  unfold mergeK putK stD
  simp [sne1, sne2, sne3, sne4, sne5, sne6]
structure StAt (H : Hp) (st lg cl : Addr) (ls cs : List Int) (left turn : Int) (t : Nat) : Prop where
  d : H st = some (.dK (stD lg cl left turn))
  l : H lg = some (.lst (ls.map V.int))
  c : H cl = some (.lst (cs.map V.int))
  lp : ∀ x ∈ ls, 0 ≤ x
  l0 : 0 ≤ left
  t0 : 0 ≤ turn
  tt : turn ≤ t
  ll : ls.length ≤ 63
  cc : cs.length ≤ 63
  ne : lg ≠ cl
/-- the state of the draws stands at st, its lists at lg and cl; at most t turns are done -/
def StOk (H : Hp) (st lg cl : Addr) (t : Nat) : Prop := ∃ ls cs left turn, StAt H st lg cl ls cs left turn t
theorem StAt.ne1 {H : Hp} {st lg cl : Addr} {ls cs : List Int} {left turn : Int} {t : Nat} (S : StAt H st lg cl ls cs left turn t) : lg ≠ st := ne_of S.l S.d (by intro z; cases z)
theorem StAt.ne2 {H : Hp} {st lg cl : Addr} {ls cs : List Int} {left turn : Int} {t : Nat} (S : StAt H st lg cl ls cs left turn t) : cl ≠ st := ne_of S.c S.d (by intro z; cases z)
theorem StAt.keep {H H' : Hp} {st lg cl : Addr} {ls cs : List Int} {left turn : Int} {t : Nat} (S : StAt H st lg cl ls cs left turn t) (k : Same H H') : StAt H' st lg cl ls cs left turn t :=
  ⟨k _ _ S.d, k _ _ S.l, k _ _ S.c, S.lp, S.l0, S.t0, S.tt, S.ll, S.cc, S.ne⟩
theorem StOk.keep {H H' : Hp} {st lg cl : Addr} {t : Nat} (S : StOk H st lg cl t) (k : Same H H') : StOk H' st lg cl t := by
  obtain ⟨ls, cs, left, turn, S⟩ := S
  exact ⟨ls, cs, left, turn, S.keep k⟩
/-- all but the state of the draws is as it was -/
def But (st lg : Addr) (H H' : Hp) : Prop := ∀ b o, H b = some o → b ≠ st → b ≠ lg → H' b = some o
theorem But.refl (st lg : Addr) (H : Hp) : But st lg H H := fun _ _ h _ _ => h
theorem But.trans {st lg : Addr} {H H1 H2 : Hp} (a : But st lg H H1) (b : But st lg H1 H2) : But st lg H H2 := fun c o h n1 n2 => b c o (a c o h n1 n2) n1 n2
theorem But.of {st lg : Addr} {H H' : Hp} (k : Same H H') : But st lg H H' := fun c o h _ _ => k c o h
theorem same_new {H : Hp} {p : Addr} {o : HO} (h : H p = none) : Same H (upd H p o) := fun b x e => by
  rw [upd_ne (ne_of_none e h)]
  exact e
theorem but_st {st lg : Addr} {H : Hp} {o : HO} : But st lg H (upd H st o) := fun b x e n1 _ => by
  rw [upd_ne n1]
  exact e
theorem but_lg {st lg : Addr} {H : Hp} {o : HO} : But st lg H (upd H lg o) := fun b x e _ n2 => by
  rw [upd_ne n2]
  exact e

theorem StAt.gLarge {H : Hp} {st lg cl : Addr} {ls cs : List Int} {left turn : Int} {t : Nat} (S : StAt H st lg cl ls cs left turn t) : DGet H st (.str "large") (some (.ref lg)) := by
  rw [← st_large lg cl left turn]
  exact DGet.k (k := kLarge) S.d
theorem StAt.gCells {H : Hp} {st lg cl : Addr} {ls cs : List Int} {left turn : Int} {t : Nat} (S : StAt H st lg cl ls cs left turn t) : DGet H st (.str "cells") (some (.ref cl)) := by
  rw [← st_cells lg cl left turn]
  exact DGet.k (k := kCells) S.d
theorem StAt.gLeft {H : Hp} {st lg cl : Addr} {ls cs : List Int} {left turn : Int} {t : Nat} (S : StAt H st lg cl ls cs left turn t) : DGet H st (.str "left") (some (.int left)) := by
  rw [← st_left lg cl left turn]
  exact DGet.k (k := kLeft) S.d
theorem StAt.gTurn {H : Hp} {st lg cl : Addr} {ls cs : List Int} {left turn : Int} {t : Nat} (S : StAt H st lg cl ls cs left turn t) : DGet H st (.str "turn") (some (.int turn)) := by
  rw [← st_turn lg cl left turn]
  exact DGet.k (k := kTurn) S.d
theorem StAt.pLeft {H : Hp} {st lg cl : Addr} {ls cs : List Int} {left turn : Int} {t : Nat} (S : StAt H st lg cl ls cs left turn t) (v : Int) : DPut H st (.str "left") (.int v) (upd H st (.dK (stD lg cl v turn))) := by
  rw [← put_left lg cl left turn v]
  exact DPut.k (k := kLeft) S.d (small1000 (by show 4 ≤ 1000; decide))
theorem StAt.pTurn {H : Hp} {st lg cl : Addr} {ls cs : List Int} {left turn : Int} {t : Nat} (S : StAt H st lg cl ls cs left turn t) (v : Int) : DPut H st (.str "turn") (.int v) (upd H st (.dK (stD lg cl left v))) := by
  rw [← put_turn lg cl left turn v]
  exact DPut.k (k := kTurn) S.d (small1000 (by show 4 ≤ 1000; decide))
theorem StAt.setLeft {H : Hp} {st lg cl : Addr} {ls cs : List Int} {left turn : Int} {t : Nat} (S : StAt H st lg cl ls cs left turn t) {v : Int} (hv : 0 ≤ v) : StAt (upd H st (.dK (stD lg cl v turn))) st lg cl ls cs v turn t :=
  ⟨upd_same, by rw [upd_ne S.ne1]; exact S.l, by rw [upd_ne S.ne2]; exact S.c, S.lp, hv, S.t0, S.tt, S.ll, S.cc, S.ne⟩
theorem StAt.setTurn {H : Hp} {st lg cl : Addr} {ls cs : List Int} {left turn : Int} {t : Nat} (S : StAt H st lg cl ls cs left turn t) : StAt (upd H st (.dK (stD lg cl left (turn + 1)))) st lg cl ls cs left (turn + 1) (t + 1) :=
  ⟨upd_same, by rw [upd_ne S.ne1]; exact S.l, by rw [upd_ne S.ne2]; exact S.c, S.lp, S.l0, Int.le_add_one S.t0, by have := S.tt; omega, S.ll, S.cc, S.ne⟩
theorem StAt.pop {H : Hp} {st lg cl : Addr} {x : Int} {ls cs : List Int} {left turn : Int} {t : Nat} (S : StAt H st lg cl (x :: ls) cs left turn t) : StAt (upd H lg (.lst (ls.map V.int))) st lg cl ls cs left turn t :=
  ⟨by rw [upd_ne S.ne1.symm]; exact S.d, upd_same, by rw [upd_ne S.ne.symm]; exact S.c, fun y hy => S.lp y (List.mem_cons_of_mem _ hy), S.l0, S.t0, S.tt, Nat.le_of_succ_le S.ll, S.cc, S.ne⟩

theorem StAt.more {H : Hp} {st lg cl : Addr} {ls cs : List Int} {left turn : Int} {t : Nat} (S : StAt H st lg cl ls cs left turn t) : StAt H st lg cl ls cs left turn (t + 1) :=
  ⟨S.d, S.l, S.c, S.lp, S.l0, S.t0, by have := S.tt; omega, S.ll, S.cc, S.ne⟩
theorem StAt.lstL {K : PySem.W.Frag} {H : Hp} {st lg cl : Addr} {ls cs : List Int} {left turn : Int} {t : Nat} (S : StAt H st lg cl ls cs left turn t) : SqL K H lg (ls.map V.int) := .inl (.inl S.l)
theorem StAt.lstC {K : PySem.W.Frag} {H : Hp} {st lg cl : Addr} {ls cs : List Int} {left turn : Int} {t : Nat} (S : StAt H st lg cl ls cs left turn t) : SqL K H cl (cs.map V.int) := .inl (.inl S.c)

theorem seq0 (n : Nat) : seqIndex? 0 (n + 1) = some 0 := by
  unfold seqIndex?
  simp
theorem dp_ints {K : PySem.W.Frag} {H : Hp} : ∀ ns : List Int, DpAll K H (ns.map V.int) (ns.map PyData.int)
  | [] => .nil
  | n :: r => .cons (.int n) (dp_ints r)
theorem eqv_nil (ns : List Int) : PyData.eqv (.list (ns.map PyData.int)) (.list []) = ns.isEmpty := by
  cases ns with
  | nil => rfl
  | cons n r => rfl

def spDraw : Sp := fun vs H Q _ => ∃ (st lg cl : Addr) (t : Nat) (n : Int), vs = [.ref st, .int n] ∧ 0 < n ∧ n < 1073741824 ∧ t < 1000000000 ∧ StOk H st lg cl t ∧
  ∀ (k : Int) (H' : Hp), 0 ≤ k → k < n → StOk H' st lg cl (t + 1) → But st lg H H' → Q (.int k) H'

theorem small1 (z : Int) {turn : Int} {t : Nat} (t0 : 0 ≤ turn) (tb : turn ≤ t) (ht : t < 1000000000) : (z % 2147483563 + 40692 * (turn + 1) + 24681).natAbs < 2 ^ 64 := by
  have h1 : 0 ≤ z % 2147483563 := Int.emod_nonneg _ (by decide)
  have h2 : z % 2147483563 < 2147483563 := Int.emod_lt_of_pos _ (by decide)
  omega
theorem small2 (z : Int) {turn : Int} {t : Nat} (t0 : 0 ≤ turn) (tb : turn ≤ t) (ht : t < 1000000000) : (z % 2147483629 + 104917 * (turn + 1)).natAbs < 2 ^ 64 := by
  have h1 : 0 ≤ z % 2147483629 := Int.emod_nonneg _ (by decide)
  have h2 : z % 2147483629 < 2147483629 := Int.emod_lt_of_pos _ (by decide)
  omega

section
variable {P : Program} {w : World} {K : PySem.W.Frag} {mg : Str → Option Value} {base : Heap}
theorem scDraw : FnScope ["state", "size_here", "found", "turn", "cell", "mixed"] ["state", "size_here"] (defScope sDraw) := ⟨rfl, rfl, rfl, by decide +kernel, rfl, by decide +kernel, by decide +kernel⟩
theorem ok_draw {f : Addr} {fd : FuncData} (F : Fun K "_law_draw" "_law_draw" sDraw f fd) (mint : mg "int" = none) (mlen : mg "len" = none) : FnOk P w K mg base CX0 1 f fd ["state", "size_here"] spDraw := by
  refine F.ok scDraw (fun vs H Q E h => ?_) (fun cdv A outer s H vs Q E hr h => ?_)
  · obtain ⟨st, lg, cl, t, n, rfl, _⟩ := h
    rfl
  · obtain ⟨st, lg, cl, t, n, rfl, hn0, hn1, ht, S, q⟩ := h
    have hu := hu_of hr
    have hu64 := hr.units
    refine ⟨_, pss_cons (ps_while PassesOwn.never (pw_and (pt_cmpR op_eq (pe_dget hu (pv 0) pe_str (fun _ _ => rfl)) pe_int (nomark _)) (pw_and1 (pt_cmpR (op_neD hu64) (pe_dget hu (pv 0) pe_str (fun _ _ => rfl)) (pe_lst pa_nil) (nomark _)))).pt
        (pss_one (ps_dput hu (pv 0) pe_str (pe_bm PySem.F.plainAttrs_list PySem.F.slot_list_pop PySem.F.type_list_pop mt_popAt (pe_dget hu (pv 0) pe_str (fun _ _ => rfl)) (pa_cons pe_int pa_nil)) rfl)))
      (pss_cons (ps_if (pt_cmpR op_gt (pe_dget hu (pv 0) pe_str (fun _ _ => rfl)) pe_int (nomark _))
        (pss_cons (ps_set (i := 2) scDraw.nd rfl (Or.inl rfl) (pe_op op_mod (pe_callTy call_int1 (by rfl) mint (by decide +kernel) (pa_cons (pe_dget hu (pv 0) pe_str (fun _ _ => rfl)) pa_nil)) (pv 1)))
          (pss_cons (ps_dput hu (pv 0) pe_str (pe_op op_fdiv (pe_dget hu (pv 0) pe_str (fun _ _ => rfl)) (pv 1)) rfl)
            (pss_one (ps_ret (pv 2))))) pss_nil)
      (pss_cons (ps_set (i := 3) scDraw.nd rfl (Or.inl rfl) (pe_op op_add (pe_dget hu (pv 0) pe_str (fun _ _ => rfl)) pe_int))
      (pss_cons (ps_dput hu (pv 0) pe_str (pv 3) rfl)
      (pss_cons (ps_set (i := 4) scDraw.nd rfl (Or.inl rfl) (pe_ifExp (pt_cmpR (op_neD hu64) (pe_dget hu (pv 0) pe_str (fun _ _ => rfl)) (pe_lst pa_nil) (nomark _))
        (pe_ix ix_list (pe_dget hu (pv 0) pe_str (fun _ _ => rfl)) (pe_op op_mod (pe_callTy call_int1 (by rfl) mint (by decide +kernel) (pa_cons (pv 3) pa_nil)) (pe_callB call_len_seq (by rfl) mlen PySem.boot_len (pa_cons (pe_dget hu (pv 0) pe_str (fun _ _ => rfl)) pa_nil))) (fun _ _ => rfl)) pe_int))
      (pss_cons (ps_set (i := 5) scDraw.nd rfl (Or.inl rfl) (pe_op op_mod (pe_callTy call_int1 (by rfl) mint (by decide +kernel) (pa_cons (pe_op op_pow (pe_op op_add (pe_op op_add (pe_op op_mod (pe_callTy call_int1 (by rfl) mint (by decide +kernel) (pa_cons (pv 4) pa_nil)) pe_int) (pe_op op_mul pe_int (pv 3))) pe_int) pe_int) pa_nil)) pe_int))
      (pss_one (ps_ret (pe_op op_mod (pe_callTy call_int1 (by rfl) mint (by decide +kernel) (pa_cons (pe_op op_fdiv (pe_op op_mod (pe_callTy call_int1 (by rfl) mint (by decide +kernel) (pa_cons (pe_op op_pow (pe_op op_add (pv 5) (pe_op op_mul pe_int (pv 3))) pe_int) pa_nil)) pe_int) pe_int) pa_nil)) (pv 1))))))))), ?_⟩
    obtain ⟨ls0, cs, left0, turn, S0⟩ := S
    refine ⟨fun m σ H1 => σ = [some (.ref st), some (.int n), none, none, none, none] ∧ ∃ ls left, m = ls.length ∧ StAt H1 st lg cl ls cs left turn t ∧ But st lg H H1, ⟨_, rfl, ls0, left0, rfl, S0, But.refl _ _ _⟩, fun m σ H1 hW => ?_⟩
    obtain ⟨rfl, ls, left, rfl, S1, B1⟩ := hW
    refine ⟨_, rfl, st, _, rfl, S1.gLeft, rfl, _, rfl, ite2 (fun e => ?ga) (fun e => iteF ?gb)⟩
    case' ga =>
      refine ⟨_, rfl, st, _, rfl, S1.gLarge, Nat.zero_le _, fun p np => ⟨.list (ls.map PyData.int), .list [], .lst (S1.keep (same_new np)).lstL (dp_ints ls), .lst (.inl (.inl upd_same)) .nil, PySem.W.ke_shaped_ints ls, PySem.W.ke_shaped_ints [], _, rfl, ?_⟩⟩
      have S1 := S1.keep (same_new (o := .lst []) np)
      have B1 := B1.trans (But.of (same_new (o := .lst []) np))
      rcases ls with _ | ⟨x, r⟩
      case cons =>
        refine iteT ⟨fun σ' H' => σ' = [some (.ref st), some (.int n), none, none, none, none] ∧ ∃ left', StAt H' st lg cl r cs left' turn t ∧ But st lg H H', fun σ' H' ⟨e', left', S', B'⟩ => ⟨r.length, Nat.lt_succ_self _, e', r, left', rfl, S', B'⟩, ?_⟩
        have S3 := S1.pop
        exact ⟨_, rfl, st, _, rfl, S1.gLarge, .inl ⟨rfl, _, S1.lstL⟩, lg, _, 0, 0, .int x, rfl, rfl, S1.l, by decide, by decide, seq0 _, rfl, _, rfl, st, _, rfl, S3.pLeft x, rfl, x, S3.setLeft (S1.lp x (List.mem_cons_self ..)), B1.trans (but_lg.trans but_st)⟩
      refine iteF ?_
    all_goals
      -- if state['left'] > 0
      refine ⟨_, rfl, st, _, rfl, S1.gLeft, _, _, rfl, rfl, _, rfl, ite2 (fun e => ?_) (fun e => ?_)⟩
      · -- some are left
        refine ⟨_, rfl, st, _, rfl, S1.gLeft, .inl ⟨_, rfl, _, rfl, _, _, rfl, rfl, hn0, ?_⟩⟩
        refine ⟨_, rfl, st, _, rfl, S1.gLeft, _, rfl, _, _, rfl, rfl, ⟨hn0, hn1⟩, _, rfl, st, _, rfl, S1.pLeft _, _, rfl, ?_⟩
        exact q _ _ (Int.emod_nonneg _ (Int.ne_of_gt hn0)) (Int.emod_lt_of_pos _ hn0) ⟨_, _, _, _, (S1.setLeft (Int.ediv_nonneg S1.l0 (Int.le_of_lt hn0))).more⟩ (B1.trans but_st)
      · -- turn = state['turn'] + 1; state['turn'] = turn
        refine ⟨_, rfl, st, _, rfl, S1.gTurn, _, _, rfl, rfl, _, rfl, _, rfl, st, _, rfl, S1.pTurn _, ?_⟩
        have S2 := S1.setTurn
        have B2 := B1.trans (but_st (o := .dK (stD lg cl left (turn + 1))))
        refine ⟨_, rfl, st, _, rfl, S2.gCells, Nat.zero_le _, fun p2 np2 => ⟨.list (cs.map PyData.int), .list [], .lst (S2.keep (same_new np2)).lstC (dp_ints cs), .lst (.inl (.inl upd_same)) .nil, PySem.W.ke_shaped_ints cs, PySem.W.ke_shaped_ints [], _, rfl, ?_⟩⟩
        have S3 := S2.keep (same_new (o := .lst []) np2)
        have B3 := B2.trans (But.of (same_new (o := .lst []) np2))
        have tb := S1.tt
        have t0 := S1.t0
        rcases cs with _ | ⟨y, r⟩
        case' cons =>
          have hpos : (0 : Int) < ((y :: r).map V.int).length := by
            rw [List.length_map, List.length_cons]
            omega
          have i0 : 0 ≤ (turn + 1) % (((y :: r).map V.int).length : Int) := Int.emod_nonneg _ (Int.ne_of_gt hpos)
          have i1 : (turn + 1) % (((y :: r).map V.int).length : Int) < ((y :: r).map V.int).length := Int.emod_lt_of_pos _ hpos
          obtain ⟨j, hj⟩ : ∃ j : Nat, (turn + 1) % (((y :: r).map V.int).length : Int) = j := ⟨_, (Int.toNat_of_nonneg i0).symm⟩
          rw [hj] at i1
          have j1 : j < (y :: r).length := by
            rw [List.length_map] at i1
            omega
          have hat : atI ((y :: r).map V.int) ((turn + 1) % (((y :: r).map V.int).length : Int)) = some (.int ((y :: r)[j])) := by
            rw [hj]
            refine atI_nat ?_
            rw [List.getElem?_map, List.getElem?_eq_getElem j1]
            rfl
          refine iteT ⟨_, rfl, st, _, rfl, S3.gCells, _, rfl, .inl ⟨_, rfl, _, rfl, st, _, rfl, S3.gCells, cl, _, rfl, .inl S3.lstC, _, _, rfl, rfl, hpos, cl, _, _, _, rfl, rfl, S3.lstC, hat, ?_⟩⟩
        case' nil => refine iteF ?_
        all_goals
          -- mixed = ..
          refine ⟨_, rfl, .inl ⟨_, rfl, _, _, rfl, rfl, (by show (0 : Int) < 2147483563; decide), _, rfl, _, _, rfl, rfl, .inl ⟨by decide, by decide⟩, _, _, rfl, rfl, _, _, rfl, rfl, _, _, rfl, rfl, ⟨by decide, by decide, small1 _ t0 tb ht⟩, .inl ⟨_, rfl, _, _, rfl, rfl, (by show (0 : Int) < 2147483629; decide), ?_⟩⟩⟩
          -- return ..
          refine ⟨_, rfl, _, rfl, _, _, rfl, rfl, .inl ⟨by decide, by decide⟩, _, _, rfl, rfl, _, _, rfl, rfl, ⟨by decide, by decide, small2 _ t0 tb ht⟩, .inl ⟨_, rfl, _, _, rfl, rfl, (by show (0 : Int) < 2147483579; decide), _, _, rfl, rfl, ⟨by decide, by decide⟩, .inl ⟨_, rfl, _, rfl, _, _, rfl, rfl, hn0, ?_⟩⟩⟩
          exact q _ _ (Int.emod_nonneg _ (Int.ne_of_gt hn0)) (Int.emod_lt_of_pos _ hn0) ⟨_, _, _, _, S3⟩ B3
/-! ### _law_begun -/
def absI (z : Int) : Int := if z < 0 then -z else z
theorem absI_nonneg (z : Int) : 0 ≤ absI z := by
  unfold absI
  split <;> omega
def big (cs : List Int) : List Int := (cs.filter fun c => decide (10 ^ 18 ≤ c)).map fun c => c - 10 ^ 18
theorem big_nonneg (cs : List Int) : ∀ x ∈ big cs, 0 ≤ x := fun x hx => by
  obtain ⟨y, hy, rfl⟩ := List.mem_map.mp hx
  have h := of_decide_eq_true (List.mem_filter.mp hy).2
  omega
theorem big_len (cs : List Int) : (big cs).length ≤ cs.length := by
  unfold big
  rw [List.length_map]
  exact List.length_filter_le _ _
theorem big_snoc (cs : List Int) (c : Int) : big (cs ++ [c]) = if (10 ^ 18 ≤ c) then big cs ++ [c - 10 ^ 18] else big cs := by
  unfold big
  rw [List.filter_append, List.map_append]
  by_cases h : (10 ^ 18 : Int) ≤ c
  · rw [if_pos h, List.filter_cons_of_pos (by simpa using h)]
    rfl
  · rw [if_neg h, List.filter_cons_of_neg (by simpa using h)]
    simp
theorem take_snoc {α : Type} {xs : List α} {i : Nat} {x : α} (h : xs[i]? = some x) : xs.take (i + 1) = xs.take i ++ [x] := by
  rw [List.take_add_one, h]
  rfl
def spBegun (K : PySem.W.Frag) : Sp := fun vs H Q _ => ∃ (a : Addr) (ns : List Int), vs = [.ref a] ∧ SqL K H a (ns.map V.int) ∧ ns.length ≤ 63 ∧
  ∀ (st lg cl : Addr) (H' : Hp), StOk H' st lg cl 0 → Same H H' → H st = none → H lg = none → H cl = none → Q (.ref st) H'
theorem scBegun : FnScope ["script", "cells_here", "large", "cell"] ["script"] (defScope sBegun) := ⟨rfl, rfl, rfl, by decide +kernel, rfl, by decide +kernel, by decide +kernel⟩
theorem ok_begun {f : Addr} {fd : FuncData} (F : Fun K "_law_begun" "_law_begun" sBegun f fd) (mabs : mg "abs" = none) : FnOk P w K mg base CX0 1 f fd ["script"] (spBegun K) := by
  refine F.ok scBegun (fun vs H Q E h => ?_) (fun cdv A outer s H vs Q E hr h => ?_)
  · obtain ⟨a, ns, rfl, _⟩ := h
    rfl
  · obtain ⟨a, ns, rfl, hS, hl, q⟩ := h
    refine ⟨_, pss_cons (ps_setLc (i := 1) (own := [("cell", 3)]) (g := gName 3) (tt := tYes) rfl scBegun.nd rfl rfl (sw_true rfl rfl rfl (by decide +kernel)) (pi_list (pv 0)) (blkOk_by (N := ["script", "cells_here", "large", "cell"]) (sc := defScope sBegun) (by decide +kernel))
        (fun _ _ _ _ _ => pg_name (i := 3) scBegun.nd rfl (Or.inl rfl)) (fun _ _ _ _ _ => pts_nil) (fun _ _ _ _ _ => pe_callB call_abs (by rfl) mabs (by decide +kernel) (pa_cons (pv 3) pa_nil)))
      (pss_cons (ps_setLc (i := 2) (own := [("cell", 3)]) (g := gName 3) rfl scBegun.nd rfl rfl (sw_true rfl rfl rfl (by decide +kernel)) (pi_list (pv 1)) (blkOk_by (N := ["script", "cells_here", "large", "cell"]) (sc := defScope sBegun) (by decide +kernel))
        (fun _ _ _ _ _ => pg_name (i := 3) scBegun.nd rfl (Or.inl rfl)) (fun _ _ _ _ _ => pts_one (pt_cmpR op_ge (pv 3) (pe_op op_pow pe_int pe_int) (nomark _))) (fun _ _ _ _ _ => pe_op op_sub (pv 3) (pe_op op_pow pe_int pe_int)))
      (pss_one (ps_ret (pe_disp (pps_cons pe_str (pv 2) (pps_cons pe_str (pv 1) (pps_cons pe_str pe_int (pps_cons pe_str pe_int pps_nil)))) (by rfl) (by rfl) (fun z => by cases z) (by decide))))), ?_⟩
    refine ⟨_, rfl, a, rfl, ⟨_, hS⟩, fun D nD => lc_list (K := K) (a := a) (xs := ns.map V.int) (fun i H1 => Same H H1 ∧ H1 D = some (.lst (((ns.take i).map absI).map V.int))) ⟨same_new nD, upd_same⟩ (fun i H1 _ h1 => h1.1.seq hS) (fun i x H1 hi ⟨s1, e1⟩ => ?_) (fun H1 ⟨s1, e1⟩ => ?_)⟩
    · rw [List.getElem?_map] at hi
      obtain ⟨z, hz, rfl⟩ := Option.map_eq_some_iff.mp hi
      have hlt : i < ns.length := (List.getElem?_eq_some_iff.mp hz).1
      refine ⟨rfl, _, rfl, z, rfl, _, e1, ?_, fun b o e => ?_, ?_⟩
      · rw [List.length_map, List.length_map, List.length_take]
        exact small1000 (by omega)
      · rw [upd_ne (ne_of_none e nD)]
        exact s1 b o e
      · rw [upd_same, take_snoc hz, List.map_append, List.map_append]
        rfl
    · have e1' : H1 D = some (.lst ((ns.map absI).map V.int)) := by
        rw [List.length_map, List.take_length] at e1
        exact e1
      clear e1
      have hS1 : SqL K H1 D ((ns.map absI).map V.int) := .inl (.inl e1')
      refine ⟨_, rfl, D, rfl, ⟨_, hS1⟩, fun D2 nD2 => lc_list (K := K) (a := D) (xs := (ns.map absI).map V.int) (fun i H2 => Same H1 H2 ∧ H2 D2 = some (.lst ((big ((ns.map absI).take i)).map V.int))) ⟨same_new nD2, upd_same⟩ (fun i H2 _ h2 => h2.1.seq hS1) (fun i x H2 hi ⟨s2, e2⟩ => ?_) (fun H2 ⟨s2, e2⟩ => ?_)⟩
      · rw [List.getElem?_map] at hi
        obtain ⟨z, hz, rfl⟩ := Option.map_eq_some_iff.mp hi
        have hlen : ((big ((ns.map absI).take i)).map V.int).length < sizeLine := by
          have h1 := big_len ((ns.map absI).take i)
          rw [List.length_take, List.length_map] at h1
          rw [List.length_map]
          exact small1000 (by omega)
        refine ⟨rfl, _, rfl, _, _, rfl, rfl, ⟨by decide, by decide, by decide⟩, _, _, rfl, rfl, _, rfl, ite2 (fun hc => ?_) (fun hc => ?_)⟩
        · have hc : (10 ^ 18 : Int) ≤ z := of_decide_eq_true hc
          refine ⟨_, rfl, _, _, rfl, rfl, ⟨by decide, by decide, by decide⟩, _, _, rfl, rfl, _, e2, hlen, fun b o e => ?_, ?_⟩
          · rw [upd_ne (ne_of_none e nD2)]
            exact s2 b o e
          · rw [upd_same, take_snoc hz, big_snoc, if_pos hc, List.map_append]
            rfl
        · have hc : ¬ (10 ^ 18 : Int) ≤ z := fun z' => hc (decide_eq_true z')
          refine ⟨s2, ?_⟩
          rw [take_snoc hz, big_snoc, if_neg hc]
          exact e2
      · have e2' : H2 D2 = some (.lst ((big (ns.map absI)).map V.int)) := by
          rw [List.length_map, List.take_length] at e2
          exact e2
        have e1'' : H2 D = some (.lst ((ns.map absI).map V.int)) := s2 _ _ e1'
        intro p np
        refine ⟨_, rfl, _, rfl, upd_same, stD D2 D 0 0, rfl, (by show 4 ≤ 15; decide), ?_⟩
        rw [merge_st]
        have n1 : D ≠ D2 := fun z => by
          rw [z, nD2] at e1'
          cases e1'
        have up : upd (upd H2 p (HO.dK [])) p (.dK (stD D2 D 0 0)) = upd H2 p (.dK (stD D2 D 0 0)) := by
          funext b
          by_cases hb : b = p
          · rw [hb, upd_same, upd_same]
          · rw [upd_ne hb, upd_ne hb, upd_ne hb]
        rw [up]
        refine q p D2 D _ ⟨big (ns.map absI), ns.map absI, 0, 0, upd_same, ?_, ?_, big_nonneg _, Int.le_refl _, Int.le_refl _, Int.le_refl _, ?_, ?_, n1.symm⟩ (fun b o e => same_new np _ _ (s2 _ _ (s1 _ _ e))) (s1.free (s2.free np)) (s1.free nD2) nD
        · rw [upd_ne (ne_of_none e2' np)]
          exact e2'
        · rw [upd_ne (ne_of_none e1'' np)]
          exact e1''
        · have h1 := big_len (ns.map absI)
          rw [List.length_map] at h1
          omega
        · rw [List.length_map]
          exact hl

/-! ### _law_pick -/
def spPick (K : PySem.W.Frag) : Sp := fun vs H Q _ => ∃ (st lg cl a : Addr) (t : Nat) (xs : List V), vs = [.ref st, .ref a] ∧ 0 < xs.length ∧ xs.length ≤ 1000 ∧ a ≠ st ∧ a ≠ lg ∧ SqL K H a xs ∧ t < 1000000000 ∧ StOk H st lg cl t ∧
  ∀ (x : V) (H' : Hp), x ∈ xs → StOk H' st lg cl (t + 1) → But st lg H H' → Q x H'
theorem But.seq {st lg a : Addr} {H H' : Hp} {xs : List V} (k : But st lg H H') (n1 : a ≠ st) (n2 : a ≠ lg) (h : SqL K H a xs) : SqL K H' a xs := by
  rcases h with (h | ⟨o, h⟩) | h
  · exact .inl (.inl (k _ _ h n1 n2))
  · exact .inl (.inr ⟨o, k _ _ h n1 n2⟩)
  · exact .inr h
theorem scPick : FnScope ["state", "several"] ["state", "several"] (defScope sPick) := ⟨rfl, rfl, rfl, by decide +kernel, rfl, by decide +kernel, by decide +kernel⟩
theorem ok_pick {f fD : Addr} {fd fdD : FuncData} (F : Fun K "_law_pick" "_law_pick" sPick f fd) (mlen : mg "len" = none) (GD : FnOk P w K mg base CX0 1 fD fdD ["state", "size_here"] spDraw) (kD : PySem.W.keepIn K (.ref fD) = true) (bD : Binds K fdD ["state", "size_here"] []) (mD : mg "_law_draw" = some (.ref fD)) :
    FnOk P w K mg base CX0 2 f fd ["state", "several"] (spPick K) := by
  refine F.ok scPick (fun vs H Q E h => ?_) (fun cdv A outer s H vs Q E hr h => ?_)
  · obtain ⟨st, lg, cl, a, t, xs, rfl, _⟩ := h
    rfl
  · obtain ⟨st, lg, cl, a, t, xs, rfl, h0, h1, n1, n2, hS, ht, S, q⟩ := h
    refine ⟨_, pss_one (ps_ret (pe_ix ix_list (pv 1) (pe_call GD hr (by rfl) mD kD bD .nil pass0 (pa_cons (pv 0) (pa_cons (pe_callB call_len_seq (by rfl) mlen PySem.boot_len (pa_cons (pv 1) pa_nil)) pa_nil))) (fun _ _ => rfl))), ?_⟩
    refine ⟨_, rfl, _, rfl, _, rfl, a, xs, rfl, .inl hS, st, lg, cl, t, _, rfl, by omega, by omega, ht, S, fun k H' k0 k1 S' B' => ?_⟩
    obtain ⟨j, rfl⟩ : ∃ j : Nat, k = j := ⟨k.toNat, (Int.toNat_of_nonneg k0).symm⟩
    have j1 : j < xs.length := by omega
    exact ⟨a, xs, _, xs[j], rfl, rfl, B'.seq n1 n2 hS, atI_nat (List.getElem?_eq_getElem j1), q _ _ (List.getElem_mem j1) S' B'⟩
end
end K02

set_option Elab.async false
set_option linter.all false
set_option maxRecDepth 100000
/-! Kinds of values; defs with a code object of their own. -/
namespace K02
open PySem PySem.Spec L2
open PyProof.Rows GenW GxR
open LamX (ExtN)

/-! ### kinds of values -/
def kindsL : List String := ["NoneType", "bool", "int", "str", "list", "tuple", "dict"]
def kitR (t u : String) : Bool := decide (t = u) || (decide (t = "bool") && decide (u = "int"))
theorem kit_all : (kindsL.all fun t => ["int", "bool", "list", "tuple"].all fun u => decide (kitB t u = some (kitR t u))) = true := by decide +kernel
theorem kit_of1 {K : PySem.W.Frag} {t u : String} (ht : t ∈ kindsL) (hu : u ∈ ["int", "bool", "list", "tuple"]) : PySem.W.kitOne K (.type t) (.type u) = some (kitR t u) := by
  have h1 := List.all_eq_true.mp kit_all t ht
  exact kit_ty (of_decide_eq_true (List.all_eq_true.mp h1 u hu))
/-- x is of the kind t -/
structure Ty1 (K : PySem.W.Frag) (H : Hp) (x : V) (t : String) : Prop where
  ty : TyX K H x (.type t)
  mem : t ∈ kindsL
def bel (x : V) (l : Int) : Bool := match x with
  | .int i => decide (0 ≤ i) && decide (i < l)
  | _ => false
theorem tyInt {K : PySem.W.Frag} {H : Hp} {x : V} {tv : Value} (h : TyX K H x tv) (e : tv = .type "int") : ∃ i, x = .int i := by
  cases h with
  | base b =>
    cases b <;> first
      | exact ⟨_, rfl⟩
      | exact absurd (Value.type.inj e) (by decide)
      | cases e
  | byt => exact absurd (Value.type.inj e) (by decide)
  | set => exact absurd (Value.type.inj e) (by decide)
  | kList => exact absurd (Value.type.inj e) (by decide)
  | kTuple => exact absurd (Value.type.inj e) (by decide)
  | kDict => exact absurd (Value.type.inj e) (by decide)
  | fTuple => exact absurd (Value.type.inj e) (by decide)
  | fDict => exact absurd (Value.type.inj e) (by decide)
theorem Ty1.int {K : PySem.W.Frag} {H : Hp} {x : V} (h : Ty1 K H x "int") : ∃ i, x = .int i := tyInt h.ty rfl
theorem Ty1.notInt {K : PySem.W.Frag} {H : Hp} {x : V} {t : String} (h : Ty1 K H x t) (n : t ≠ "int") (l : Int) : bel x l = false := by
  obtain ⟨h, _⟩ := h
  cases x with
  | int i =>
    cases h with
    | base b =>
      cases b
      exact absurd rfl n
  | _ => rfl
theorem Ty1.ext {K : PySem.W.Frag} {H H' : Hp} {x : V} {t : String} (h : Ty1 K H x t) (e : ExtN H H') : Ty1 K H' x t := by
  obtain ⟨h, m⟩ := h
  refine ⟨?_, m⟩
  cases h with
  | base b =>
    refine .base ?_
    cases b with
    | non => exact .non
    | bl b => exact .bl b
    | int i => exact .int i
    | str z => exact .str z
    | flt z => exact .flt z
    | lst q => exact .lst (e _ _ q fun ps z => by cases z)
    | frz q => exact .frz (e _ _ q fun ps z => by cases z)
    | tup q => exact .tup (e _ _ q fun ps z => by cases z)
    | dK q => exact .dK (e _ _ q fun ps z => by cases z)
    | dT q => exact .dT (e _ _ q fun ps z => by cases z)
  | byt b => exact .byt b
  | set q => exact .set (e _ _ q fun ps z => by cases z)
  | kList q c => exact .kList q c
  | kTuple q c => exact .kTuple q c
  | kDict q c => exact .kDict q c
  | fTuple q => exact .fTuple (e _ _ q fun ps z => by cases z)
  | fDict q => exact .fDict (e _ _ q fun ps z => by cases z)
theorem extN_seqT {K : PySem.W.Frag} {H H' : Hp} {a : Addr} {xs : List V} (e : ExtN H H') (h : SqT K H a xs) : SqT K H' a xs := by
  rcases h with (h | ⟨o, h⟩) | h
  · exact .inl (.inl (e _ _ h fun ps z => by cases z))
  · exact .inl (.inr ⟨o, e _ _ h fun ps z => by cases z⟩)
  · exact .inr h
theorem extN_seqL {K : PySem.W.Frag} {H H' : Hp} {a : Addr} {xs : List V} (e : ExtN H H') (h : SqL K H a xs) : SqL K H' a xs := by
  rcases h with (h | ⟨o, h⟩) | h
  · exact .inl (.inl (e _ _ h fun ps z => by cases z))
  · exact .inl (.inr ⟨o, e _ _ h fun ps z => by cases z⟩)
  · exact .inr h
theorem extN_same {H H' : Hp} (k : Same H H') : ExtN H H' := fun b o e _ => k b o e
theorem extN_tabbed {H H' : Hp} {P : Addr} (k : Tabbed P H H') (t : TabG H P) : ExtN H H' := fun b o e n => by
  by_cases hb : b = P
  · obtain ⟨ps, q, _⟩ := t
    rw [hb, q] at e
    exact absurd (Option.some.inj e).symm (n ps)
  · rw [k.2 b hb]
    exact e

/-! ### what stands but the tables of code objects, which may grow -/
def TabsG (TT : List Addr) (H : Hp) : Prop := ∀ P ∈ TT, TabG H P
structure Ex (TT : List Addr) (H H' : Hp) : Prop where
  keep : ∀ b o, b ∉ TT → H b = some o → H' b = some o
  tabs : TabsG TT H → TabsG TT H'
theorem Ex.refl (TT : List Addr) (H : Hp) : Ex TT H H := ⟨fun _ _ _ e => e, fun t => t⟩
theorem Ex.trans {TT : List Addr} {H H1 H2 : Hp} (a : Ex TT H H1) (b : Ex TT H1 H2) : Ex TT H H2 := ⟨fun c o n e => b.keep c o n (a.keep c o n e), fun t => b.tabs (a.tabs t)⟩
theorem Ex.same {TT : List Addr} {H H' : Hp} (k : Same H H') : Ex TT H H' := ⟨fun b o _ e => k b o e, fun t P hP => by
  obtain ⟨ps, q, r⟩ := t P hP
  exact ⟨ps, k _ _ q, r⟩⟩
theorem Ex.extN {TT : List Addr} {H H' : Hp} (x : Ex TT H H') (t : TabsG TT H) : ExtN H H' := fun b o e n => by
  by_cases hb : b ∈ TT
  · obtain ⟨ps, q, _⟩ := t b hb
    rw [q] at e
    exact absurd (Option.some.inj e).symm (n ps)
  · exact x.keep b o hb e
theorem Ex.tabbed {TT : List Addr} {H H' : Hp} {P : Addr} (hP : P ∈ TT) (k : Tabbed P H H') : Ex TT H H' := ⟨fun b o n e => by
  rw [k.2 b fun z => n (by rw [z]; exact hP)]
  exact e, fun t Q hQ => by
  by_cases hb : Q = P
  · rw [hb]
    exact k.1
  · obtain ⟨ps, q, r⟩ := t Q hQ
    exact ⟨ps, by rw [k.2 Q hb]; exact q, r⟩⟩

section
variable {P : Program} {w : World} {K : PySem.W.Frag} {mg : Str → Option Value} {base : Heap}
/-- a def that makes generator expressions: its code object stands at c -/
theorem okC {x qual : Str} {st : Stmt} {f c : Addr} {fd : FuncData} {N ps : List Str} {k : Nat} {sp : Sp} (F : Fun K x qual st f fd) (hc : fd.code = .ref c) (S : FnScope N ps (defScope st)) (len : ∀ vs H Q E, sp vs H Q E → vs.length = ps.length)
    (hbody : ∀ (A : Around) (outer : List Env) (s : Shared) (H : Hp) (vs : List V) (Q : VK) (E : XK), Room k (A.deeper (envOfC qual (defScope st) s.heap.objs.size f (.ref c))) → sp vs H Q E →
      ∃ t, PSs (cxOf CX0 P w K mg base N qual (defScope st) f (.ref c) A outer s H E).nox (defBody st) t ∧ t { nx := fun _ H' => Q .non H', rt := Q } (start N vs) H) : FnOk P w K mg base CX0 (k + 1) f fd ps sp := by
  obtain ⟨oc, od, kV, doc, pm, an, cdv, ct, osl, rfl, lk, hcd⟩ := F.ex
  have e : cdv = .ref c := hc
  subst e
  refine fn_of lk hcd S len fun A outer s H vs Q E hr hsp => ?_
  obtain ⟨t, h, q⟩ := hbody A outer s H vs Q E hr hsp
  exact ⟨t, h.nox, q⟩

end
def rdB (x : V) : Bool := decide (x = .non) || bel x 2
/-- where x is a tuple, xs are its items -/
def TupV (K : PySem.W.Frag) (H : Hp) (x : V) (t : String) (xs : List V) : Prop := t = "tuple" → ∃ a, x = .ref a ∧ SqT K H a xs
theorem TupV.ext {K : PySem.W.Frag} {H H' : Hp} {x : V} {t : String} {xs : List V} (h : TupV K H x t xs) (e : ExtN H H') : TupV K H' x t xs := fun ht => by
  obtain ⟨a, q, s⟩ := h ht
  exact ⟨a, q, extN_seqT e s⟩
theorem rep_one {α : Type} (x : α) (n : Nat) : (List.replicate n [x]).flatten = List.replicate n x := by
  induction n with
  | zero => rfl
  | succ n ih =>
    rw [List.replicate_succ, List.flatten_cons, ih, List.replicate_succ]
    rfl
end K02

set_option Elab.async false
set_option linter.all false
set_option maxRecDepth 100000
/-! What counts as a number, a bit, a reading, a tuple of bits. -/
namespace K02
open PySem PySem.Spec L2
open PyProof.Rows GenW GxR
open LamX (ExtN)
abbrev sIsNumber : Stmt := top 4 -- is_number
abbrev sIsBelow : Stmt := top 5 -- is_below
abbrev sIsBit : Stmt := top 6 -- is_bit
abbrev sIsTupleOf : Stmt := top 7 -- is_tuple_of
abbrev sIsBits : Stmt := top 8 -- is_bits

section
variable {P : Program} {w : World} {K : PySem.W.Frag} {mg : Str → Option Value} {base : Heap}
def spNumber (K : PySem.W.Frag) : Sp := fun vs H Q _ => ∃ (x : V) (t : String), vs = [x] ∧ Ty1 K H x t ∧ Q (.bl (decide (t = "int"))) H
theorem scNumber : FnScope ["thing"] ["thing"] (defScope sIsNumber) := ⟨rfl, rfl, rfl, by decide +kernel, rfl, by decide +kernel, by decide +kernel⟩
theorem ok_number {f : Addr} {fd : FuncData} (F : Fun K "is_number" "is_number" sIsNumber f fd) (mi : mg "isinstance" = none) (mint : mg "int" = none) (mbool : mg "bool" = none) : FnOk P w K mg base CX0 1 f fd ["thing"] (spNumber K) := by
  refine F.ok scNumber (fun vs H Q E h => ?_) (fun cdv A outer s H vs Q E hr h => ?_)
  · obtain ⟨x, t, rfl, _⟩ := h
    rfl
  · obtain ⟨x, t, rfl, ht, q⟩ := h
    refine ⟨_, pss_one (ps_ret (pe_and (pe_callB call_isi (by rfl) mi (by decide +kernel) (pa_cons (pv 0) (pa_cons (pe_bltn (v := .ty "int") (u := .type "int") (by rfl) mint (by decide +kernel) rfl) pa_nil)))
      (pe_one (pe_not (pe_callB call_isi (by rfl) mi (by decide +kernel) (pa_cons (pv 0) (pa_cons (pe_bltn (v := .ty "bool") (u := .type "bool") (by rfl) mbool (by decide +kernel) rfl) pa_nil))))))), ?_⟩
    refine ⟨_, rfl, x, .ty "int", _, _, _, rfl, .ty "int", ht.ty, kit_of1 ht.mem (by decide), _, rfl, ?_⟩
    by_cases h1 : t = "int"
    · subst h1
      exact ⟨_, rfl, x, .ty "bool", _, _, _, rfl, .ty "bool", ht.ty, kit_of1 ht.mem (by decide), _, rfl, q⟩
    · by_cases h2 : t = "bool"
      · subst h2
        exact ⟨_, rfl, x, .ty "bool", _, _, _, rfl, .ty "bool", ht.ty, kit_of1 ht.mem (by decide), _, rfl, q⟩
      · have e : kitR t "int" = false := by
          unfold kitR
          rw [decide_eq_false h1, decide_eq_false h2]
          rfl
        rw [e]
        rw [decide_eq_false h1] at q
        exact iteF q

def spBelow (K : PySem.W.Frag) : Sp := fun vs H Q _ => ∃ (x : V) (t : String) (l : Int), vs = [x, .int l] ∧ Ty1 K H x t ∧ Q (.bl (bel x l)) H
theorem scBelow : FnScope ["thing", "limit"] ["thing", "limit"] (defScope sIsBelow) := ⟨rfl, rfl, rfl, by decide +kernel, rfl, by decide +kernel, by decide +kernel⟩
theorem ok_below {f fN : Addr} {fd fdN : FuncData} (F : Fun K "is_below" "is_below" sIsBelow f fd) (GN : FnOk P w K mg base CX0 1 fN fdN ["thing"] (spNumber K)) (kN : PySem.W.keepIn K (.ref fN) = true) (bN : Binds K fdN ["thing"] []) (mN : mg "is_number" = some (.ref fN)) :
    FnOk P w K mg base CX0 2 f fd ["thing", "limit"] (spBelow K) := by
  refine F.ok scBelow (fun vs H Q E h => ?_) (fun cdv A outer s H vs Q E hr h => ?_)
  · obtain ⟨x, t, l, rfl, _⟩ := h
    rfl
  · obtain ⟨x, t, l, rfl, ht, q⟩ := h
    refine ⟨_, pss_one (ps_ret (pe_and (pe_call GN hr (by rfl) mN kN bN .nil pass0 (pa_cons (pv 0) pa_nil)) (pe_one (pe_chain op_le op_lt pe_int (pv 0) (pv 1))))), ?_⟩
    refine ⟨_, rfl, x, t, rfl, ht, _, rfl, ?_⟩
    by_cases h1 : t = "int"
    · subst h1
      obtain ⟨i, rfl⟩ := ht.int
      refine ⟨_, rfl, _, _, rfl, rfl, _, rfl, ite2 (fun hc => ?_) (fun hc => ?_)⟩
      · refine ⟨_, rfl, _, _, rfl, rfl, ?_⟩
        have e : bel (.int i) l = decide (i < l) := by
          show (decide (0 ≤ i) && decide (i < l)) = _
          rw [hc]
          rfl
        rw [e] at q
        exact q
      · have e : bel (.int i) l = false := by
          show (decide (0 ≤ i) && decide (i < l)) = _
          rw [Bool.not_eq_true] at hc
          rw [hc]
          rfl
        rw [e] at q
        exact q
    · rw [ht.notInt h1] at q
      rw [decide_eq_false h1]
      exact iteF q

def spBit (K : PySem.W.Frag) : Sp := fun vs H Q _ => ∃ (x : V) (t : String), vs = [x] ∧ Ty1 K H x t ∧ Q (.bl (bel x 2)) H
theorem scBit : FnScope ["thing"] ["thing"] (defScope sIsBit) := ⟨rfl, rfl, rfl, by decide +kernel, rfl, by decide +kernel, by decide +kernel⟩
theorem ok_bit {f fB : Addr} {fd fdB : FuncData} (F : Fun K "is_bit" "is_bit" sIsBit f fd) (GB : FnOk P w K mg base CX0 2 fB fdB ["thing", "limit"] (spBelow K)) (kB : PySem.W.keepIn K (.ref fB) = true) (bB : Binds K fdB ["thing", "limit"] []) (mB : mg "is_below" = some (.ref fB)) :
    FnOk P w K mg base CX0 3 f fd ["thing"] (spBit K) := by
  refine F.ok scBit (fun vs H Q E h => ?_) (fun cdv A outer s H vs Q E hr h => ?_)
  · obtain ⟨x, t, rfl, _⟩ := h
    rfl
  · obtain ⟨x, t, rfl, ht, q⟩ := h
    refine ⟨_, pss_one (ps_ret (pe_call GB hr (by rfl) mB kB bB .nil pass0 (pa_cons (pv 0) (pa_cons pe_int pa_nil)))), ?_⟩
    exact ⟨_, rfl, x, t, 2, rfl, ht, q⟩

def spTupleOf (K : PySem.W.Frag) : Sp := fun vs H Q _ => ∃ (x : V) (t : String) (xs : List V) (n : Int), vs = [x, .int n] ∧ Ty1 K H x t ∧ TupV K H x t xs ∧ Q (.bl (decide (t = "tuple") && decide ((xs.length : Int) = n))) H
theorem scTupleOf : FnScope ["thing", "many"] ["thing", "many"] (defScope sIsTupleOf) := ⟨rfl, rfl, rfl, by decide +kernel, rfl, by decide +kernel, by decide +kernel⟩
theorem ok_tupleOf {f : Addr} {fd : FuncData} (F : Fun K "is_tuple_of" "is_tuple_of" sIsTupleOf f fd) (mi : mg "isinstance" = none) (mtuple : mg "tuple" = none) (mlen : mg "len" = none) : FnOk P w K mg base CX0 1 f fd ["thing", "many"] (spTupleOf K) := by
  refine F.ok scTupleOf (fun vs H Q E h => ?_) (fun cdv A outer s H vs Q E hr h => ?_)
  · obtain ⟨x, t, xs, n, rfl, _⟩ := h
    rfl
  · obtain ⟨x, t, xs, n, rfl, ht, hx, q⟩ := h
    refine ⟨_, pss_one (ps_ret (pe_and (pe_callB call_isi (by rfl) mi (by decide +kernel) (pa_cons (pv 0) (pa_cons (pe_bltn (v := .ty "tuple") (u := .type "tuple") (by rfl) mtuple (by decide +kernel) rfl) pa_nil)))
      (pe_one (pe_cmpR op_eq (pe_callB call_len_seq (by rfl) mlen PySem.boot_len (pa_cons (pv 0) pa_nil)) (pv 1) (nomark _))))), ?_⟩
    refine ⟨_, rfl, x, .ty "tuple", _, _, _, rfl, .ty "tuple", ht.ty, kit_of1 ht.mem (by decide), _, rfl, ?_⟩
    by_cases h1 : t = "tuple"
    · obtain ⟨a, rfl, hS⟩ := hx h1
      subst h1
      refine ⟨_, rfl, a, xs, rfl, .inr hS, _, rfl, rfl, ?_⟩
      have e : decide (V.int (xs.length : Int) = V.int n) = decide ((xs.length : Int) = n) := by
        by_cases h2 : (xs.length : Int) = n
        · rw [h2, decide_eq_true rfl, decide_eq_true rfl]
        · rw [decide_eq_false h2, decide_eq_false fun z => h2 (V.int.inj z)]
      rw [e]
      exact q
    · have e : kitR t "tuple" = false := by
        unfold kitR
        rw [decide_eq_false h1]
        simp
      rw [e]
      rw [decide_eq_false h1] at q
      exact iteF q

def spBits (K : PySem.W.Frag) (TT : List Addr) : Sp := fun vs H Q _ => ∃ (x : V) (t : String) (xs : List V) (n : Int), vs = [x, .int n] ∧ Ty1 K H x t ∧ TupV K H x t xs ∧ (t = "tuple" → ∀ y ∈ xs, ∃ ty, Ty1 K H y ty) ∧ TabsG TT H ∧
  ∀ H', Ex TT H H' → Q (.bl (decide (t = "tuple") && decide ((xs.length : Int) = n) && xs.all fun y => bel y 2)) H'
theorem scBits : FnScope ["thing", "many", "item"] ["thing", "many"] (defScope sIsBits) := ⟨rfl, rfl, rfl, by decide +kernel, rfl, by decide +kernel, by decide +kernel⟩
theorem ok_bits {TT : List Addr} {f fT fB c T : Addr} {fd fdT fdB : FuncData} (F : Fun K "is_bits" "is_bits" sIsBits f fd) (hc : fd.code = .ref c) (TB : TabB base mg c T) (hTT : T ∈ TT) (mall : mg "all" = none)
    (GT : FnOk P w K mg base CX0 1 fT fdT ["thing", "many"] (spTupleOf K)) (kT : PySem.W.keepIn K (.ref fT) = true) (bT : Binds K fdT ["thing", "many"] []) (mT : mg "is_tuple_of" = some (.ref fT))
    (GB : FnOk P w K mg base CX0 3 fB fdB ["thing"] (spBit K)) (kB : PySem.W.keepIn K (.ref fB) = true) (bB : Binds K fdB ["thing"] []) (mB : mg "is_bit" = some (.ref fB)) :
    FnOk P w K mg base CX0 5 f fd ["thing", "many"] (spBits K TT) := by
  refine okC F hc scBits (fun vs H Q E h => ?_) (fun A outer s H vs Q E hr h => ?_)
  · obtain ⟨x, t, xs, n, rfl, _⟩ := h
    rfl
  · obtain ⟨x, t, xs, n, rfl, ht, hx, hys, hT, q⟩ := h
    refine ⟨_, pss_one (ps_ret (pe_and (pe_call GT (hr.mono (by decide)) (by rfl) mT kT bT .nil pass0 (pa_cons (pv 0) (pa_cons (pv 1) pa_nil)))
      (pe_one (GX.pe_all (own := [("item", 2)]) (k := 3) hr (by rfl) mall TB rfl rfl scBits.nd (pi_tup (pv 0)) (blkOk_by (N := ["thing", "many", "item"]) (sc := defScope sIsBits) (by decide +kernel)) (GX.genNames_by (by decide +kernel))
        (fun _ _ _ _ _ _ _ => pg_name (i := 2) scBits.nd rfl (Or.inl rfl)) (fun _ _ _ _ _ _ _ _ => pts_nil) (fun _ _ _ _ _ _ _ hr2 => pe_call GB hr2 (by rfl) mB kB bB .nil pass0 (pa_cons (pv 2) pa_nil)))))), ?_⟩
    refine ⟨_, rfl, _, rfl, x, t, xs, n, rfl, ht, hx, _, rfl, ite2 (fun hb => ?_) (fun hb => ?_)⟩
    · obtain ⟨h1, h2⟩ := (Bool.and_eq_true _ _).mp hb
      have h1 := of_decide_eq_true h1
      obtain ⟨a, rfl, hS⟩ := hx h1
      subst h1
      have q2 : ∀ H', Ex TT H H' → Q (.bl (xs.all fun y => bel y 2)) H' := fun H' e1 => by
        have z := q H' e1
        rw [h2] at z
        exact z
      have hys := hys rfl
      refine ⟨_, rfl, a, rfl, ⟨_, hS⟩, hT T hTT, fun H2 hT2 => ⟨fun i m H3 => m + i = xs.length ∧ Ex TT H H3 ∧ ((xs.take i).all fun y => bel y 2) = true, ⟨xs.length, rfl, Ex.tabbed hTT hT2, rfl⟩, fun i m H3 hW => ?_⟩⟩
      obtain ⟨em, x3, ha⟩ := hW
      have e3 := x3.extN hT
      by_cases hi : i < xs.length
      · refine .inr ⟨⟨xs, xs[i], extN_seqT e3 hS, List.getElem?_eq_getElem hi⟩, fun H4 => Ex TT H H4 ∧ ((xs.take (i + 1)).all fun y => bel y 2) = true, fun H4 ⟨x4, a4⟩ => ⟨m - 1, by omega, by omega, x4, a4⟩, fun y H4 hy => ?_⟩
        obtain ⟨rfl, hy⟩ := hy
        have ey := hy _ (extN_seqT e3 hS)
        obtain ⟨ty, hty⟩ := hys y (List.mem_of_getElem? ey)
        refine ⟨rfl, _, rfl, y, ty, rfl, hty.ext e3, _, rfl, fun hc => ?_, fun hc => ⟨x3, ?_⟩⟩
        · have z := q2 H4 x3
          have e : (xs.all fun y => bel y 2) = false := by
            rw [Bool.eq_false_iff]
            intro z
            have z2 := List.all_eq_true.mp z y (List.mem_of_getElem? ey)
            rw [z2] at hc
            cases hc
          rw [e] at z
          exact z
        · rw [take_snoc ey, List.all_append, ha]
          simpa using hc
      · refine .inl ⟨⟨xs, extN_seqT e3 hS, by omega⟩, ?_⟩
        have z := q2 H3 x3
        rw [List.take_of_length_le (by omega)] at ha
        rw [ha] at z
        exact z
    · rw [Bool.not_eq_true] at hb
      have z := q H (Ex.refl TT H)
      rw [hb] at z
      exact z
end
end K02

set_option Elab.async false
set_option linter.all false
set_option maxRecDepth 100000
/-! The reading of a gate by the program's own sums of places. -/
namespace K02
open PySem PySem.Spec L2
open PyProof.Rows GenW GxR
open LamX (ExtN)

/-! ### a list or a tuple is walked -/
def SeqJ (K : PySem.W.Frag) (H : Hp) (a : Addr) (xs : List V) (J : It) : Prop := (J = Itl K a ∧ SqL K H a xs) ∨ (J = Itt K a ∧ SqT K H a xs)
def iSeq (K : PySem.W.Frag) (tl : TE) : TI := fun σ H R => tl σ H fun x H1 => ∃ (a : Addr) (xs : List V) (J : It), x = .ref a ∧ SeqJ K H1 a xs J ∧ R J H1
theorem pi_seq {X : Cx} {tg l : Expr} {tl : TE} (hl : PE X l tl) : PI X tg l (iSeq X.K tl) := by
  refine ⟨fun pins s σ H R I h => thn (hl.run pins s σ H _ I h) fun v s1 ⟨x, H1, I1, r1, a, xs, J, ex, hJ, q⟩ => ?_⟩
  subst ex
  cases r1
  have fp : ∀ b ∈ [s1.heap.objs.size], FpOk X pins H1 b := fun b hb => by
    rw [List.mem_singleton.mp hb]
    exact I1.fpOk (Nat.le_refl _) (I1.hok.fresh (Nat.le_refl _))
  rcases hJ with ⟨rfl, hq⟩ | ⟨rfl, hq⟩
  · obtain ⟨its, rv, p, hz⟩ := I1.list hq
    exact wpAny_pyIter_list p.isList ⟨_, [s1.heap.objs.size], _, _, H1, rfl, I1.kept (t' := s1.toks) (fun b o e => Heap.get?_push_of_some _ e), turn_list a _, ⟨_, Heap.get?_push_size _ rfl, rfl, rfl⟩, fp, q⟩
  · obtain ⟨its, rv, p, hz⟩ := I1.tuple hq
    exact wpAny_pyIter_tuple (show s1.heap.IsTuple a its.toArray from p) ⟨_, [s1.heap.objs.size], _, _, H1, rfl, I1.kept (t' := s1.toks) (fun b o e => Heap.get?_push_of_some _ e), turn_tuple a _, ⟨_, Heap.get?_push_size _ rfl, rfl, rfl⟩, fp, q⟩
theorem SeqJ.ext {K : PySem.W.Frag} {H H' : Hp} {a : Addr} {xs : List V} {J : It} (h : SeqJ K H a xs J) (e : ExtN H H') : SeqJ K H' a xs J := by
  rcases h with ⟨e1, h⟩ | ⟨e1, h⟩
  · exact .inl ⟨e1, extN_seqL e h⟩
  · exact .inr ⟨e1, extN_seqT e h⟩
theorem for_seq {K : PySem.W.Frag} {a : Addr} {xs : List V} {J : It} {g : TG} {tb : TS} {D : Ends} {σ : L2.St} {H : Hp} (Pv : Nat → L2.St → Hp → Prop) (hJ : SeqJ K H a xs J) (h0 : Pv 0 σ H)
    (hl : ∀ i σ' H', i ≤ xs.length → Pv i σ' H' → SeqJ K H' a xs J)
    (hs : ∀ i x σ H, xs[i]? = some x → Pv i σ H → g x σ H fun σ2 H2 => tb { D with nx := Pv (i + 1), ct := Pv (i + 1), bk := D.nx } σ2 H2) (hd : ∀ σ H, Pv xs.length σ H → D.nx σ H) :
    ∃ W : Nat → Nat → L2.St → Hp → Prop, (∃ m, W 0 m σ H) ∧ ∀ i m σ H, W i m σ H →
      (J.stop i H ∧ D.nx σ H) ∨ (J.go i H ∧ ∃ N : L2.St → Hp → Prop, (∀ σ' H', N σ' H' → ∃ m', m' < m ∧ W (i + 1) m' σ' H') ∧ ∀ x H', J.yld i H x H' → g x σ H' fun σ2 H2 => tb { D with nx := N, ct := N, bk := D.nx } σ2 H2) := by
  refine ⟨fun i m σ H => m + i = xs.length ∧ Pv i σ H, ⟨xs.length, rfl, h0⟩, ?_⟩
  rintro i m σ1 H1 ⟨em, p⟩
  have hJ1 := hl i σ1 H1 (by omega) p
  by_cases hi : i < xs.length
  · have step : ∀ x, xs[i]? = some x → g x σ1 H1 fun σ2 H2 => tb { D with nx := Pv (i + 1), ct := Pv (i + 1), bk := D.nx } σ2 H2 := fun x hx => hs i x σ1 H1 hx p
    have nxt : ∀ σ' H', Pv (i + 1) σ' H' → ∃ m', m' < m ∧ m' + (i + 1) = xs.length ∧ Pv (i + 1) σ' H' := fun σ' H' p' => ⟨m - 1, by omega, by omega, p'⟩
    rcases hJ1 with ⟨rfl, hq⟩ | ⟨rfl, hq⟩
    · exact .inr ⟨⟨xs, xs[i], hq, List.getElem?_eq_getElem hi⟩, Pv (i + 1), nxt, fun x H' ⟨e, y⟩ => by subst e; exact step x (y xs hq)⟩
    · exact .inr ⟨⟨xs, xs[i], hq, List.getElem?_eq_getElem hi⟩, Pv (i + 1), nxt, fun x H' ⟨e, y⟩ => by subst e; exact step x (y xs hq)⟩
  · have ei : i = xs.length := by omega
    subst ei
    rcases hJ1 with ⟨rfl, hq⟩ | ⟨rfl, hq⟩
    · exact .inl ⟨⟨xs, hq, Nat.le_refl _⟩, hd σ1 H1 p⟩
    · exact .inl ⟨⟨xs, hq, Nat.le_refl _⟩, hd σ1 H1 p⟩

/-! ### the mathematics -/
def bitZ (b : Bool) : Int := if b then 1 else 0
def bitV (b : Bool) : V := .int (bitZ b)
def rdV : Option Bool → V
  | none => .non
  | some b => bitV b
theorem bitZ_inj {a b : Bool} (h : bitZ a = bitZ b) : a = b := by
  cases a <;> cases b <;> first | rfl | (exact absurd h (by decide))
/-- bits in the place of all None -/
inductive Comp : List (Option Bool) → List Bool → Prop
  | nil : Comp [] []
  | free {r : List (Option Bool)} {bs : List Bool} (b : Bool) : Comp r bs → Comp (none :: r) (b :: bs)
  | told {r : List (Option Bool)} {bs : List Bool} (b : Bool) : Comp r bs → Comp (some b :: r) (b :: bs)
def idx : List Bool → Nat
  | [] => 0
  | b :: r => (if b then 1 else 0) + 2 * idx r
theorem Comp.length {rs : List (Option Bool)} {bs : List Bool} (h : Comp rs bs) : bs.length = rs.length := by
  induction h with
  | nil => rfl
  | free b _ ih => simp [ih]
  | told b _ ih => simp [ih]
theorem idx_lt (bs : List Bool) : idx bs < 2 ^ bs.length := by
  induction bs with
  | nil => decide
  | cons b r ih =>
    have : 2 ^ (b :: r).length = 2 * 2 ^ r.length := by rw [List.length_cons, Nat.pow_succ, Nat.mul_comm]
    unfold idx
    split <;> omega
/-- what one source does to the places -/
def stp (x : Nat × List Nat) (r : Option Bool) : Nat × List Nat := (2 * x.1, match r with
  | none => x.2 ++ x.2.map (· + x.1)
  | some true => x.2.map (· + x.1)
  | some false => x.2)
def plc (rs : List (Option Bool)) : Nat × List Nat := rs.foldl stp (1, [0])
theorem plc_gen (rs : List (Option Bool)) : ∀ (w : Nat) (ps : List Nat), (rs.foldl stp (w, ps)).1 = w * 2 ^ rs.length ∧ ∀ p, p ∈ (rs.foldl stp (w, ps)).2 ↔ ∃ q ∈ ps, ∃ bs, Comp rs bs ∧ p = q + w * idx bs := by
  induction rs with
  | nil =>
    intro w ps
    refine ⟨by simp, fun p => ⟨fun h => ⟨p, h, [], .nil, by simp [idx]⟩, fun ⟨q, hq, bs, hc, e⟩ => ?_⟩⟩
    cases hc
    simp [idx] at e
    rw [e]
    exact hq
  | cons r rs ih =>
    intro w ps
    obtain ⟨h1, h2⟩ := ih (2 * w) (stp (w, ps) r).2
    have e0 : (r :: rs).foldl stp (w, ps) = rs.foldl stp (2 * w, (stp (w, ps) r).2) := rfl
    rw [e0]
    refine ⟨by rw [h1, List.length_cons, Nat.pow_succ, Nat.mul_comm 2 w, Nat.mul_assoc, Nat.mul_comm 2], fun p => ?_⟩
    rw [h2 p]
    have a0 : ∀ k : Nat, w * (0 + 2 * k) = 2 * w * k := fun k => by
      rw [Nat.zero_add, ← Nat.mul_assoc, Nat.mul_comm w 2]
    have a1 : ∀ k : Nat, w * (1 + 2 * k) = w + 2 * w * k := fun k => by
      rw [Nat.mul_add, ← Nat.mul_assoc, Nat.mul_comm w 2, Nat.mul_one]
    have i0 : ∀ bs : List Bool, w * idx (false :: bs) = 2 * w * idx bs := fun bs => a0 _
    have i1 : ∀ bs : List Bool, w * idx (true :: bs) = w + 2 * w * idx bs := fun bs => a1 _
    constructor
    · rintro ⟨q, hq, bs, hc, e⟩
      rcases r with _ | _ | _
      · rcases List.mem_append.mp hq with hq | hq
        · exact ⟨q, hq, false :: bs, .free _ hc, by rw [i0, e]⟩
        · obtain ⟨q', hq', rfl⟩ := List.mem_map.mp hq
          exact ⟨q', hq', true :: bs, .free _ hc, by rw [i1, e]; exact Nat.add_assoc ..⟩
      · exact ⟨q, hq, false :: bs, .told _ hc, by rw [i0, e]⟩
      · obtain ⟨q', hq', rfl⟩ := List.mem_map.mp hq
        exact ⟨q', hq', true :: bs, .told _ hc, by rw [i1, e]; exact Nat.add_assoc ..⟩
    · rintro ⟨q, hq, bs, hc, e⟩
      cases hc with
      | @free _ bs b hc =>
        cases b with
        | false => exact ⟨q, List.mem_append_left _ hq, bs, hc, by rw [i0] at e; exact e⟩
        | true => exact ⟨q + w, List.mem_append_right _ (List.mem_map.mpr ⟨q, hq, rfl⟩), bs, hc, by rw [i1] at e; rw [e]; exact (Nat.add_assoc ..).symm⟩
      | @told _ bs b hc =>
        cases b with
        | false => exact ⟨q, hq, bs, hc, by rw [i0] at e; exact e⟩
        | true => exact ⟨q + w, List.mem_map.mpr ⟨q, hq, rfl⟩, bs, hc, by rw [i1] at e; rw [e]; exact (Nat.add_assoc ..).symm⟩
theorem plc_fst (rs : List (Option Bool)) : (plc rs).1 = 2 ^ rs.length := by
  have h := (plc_gen rs 1 [0]).1
  rw [Nat.one_mul] at h
  exact h
theorem plc_mem (rs : List (Option Bool)) (p : Nat) : p ∈ (plc rs).2 ↔ ∃ bs, Comp rs bs ∧ idx bs = p := by
  have h := (plc_gen rs 1 [0]).2 p
  unfold plc
  rw [h]
  constructor
  · rintro ⟨q, hq, bs, hc, e⟩
    rw [List.mem_singleton.mp hq] at e
    exact ⟨bs, hc, by omega⟩
  · rintro ⟨bs, hc, e⟩
    exact ⟨0, List.mem_singleton.mpr rfl, bs, hc, by omega⟩
theorem plc_lt {rs : List (Option Bool)} {p : Nat} (h : p ∈ (plc rs).2) : p < 2 ^ rs.length := by
  obtain ⟨bs, hc, rfl⟩ := (plc_mem rs p).mp h
  rw [← hc.length]
  exact idx_lt bs
theorem plc_len (rs : List (Option Bool)) : (plc rs).2.length ≤ 2 ^ rs.length ∧ 0 < (plc rs).2.length := by
  have gen : ∀ (l : List (Option Bool)) (x : Nat × List Nat), (l.foldl stp x).2.length ≤ x.2.length * 2 ^ l.length ∧ (0 < x.2.length → 0 < (l.foldl stp x).2.length) := by
    intro l
    induction l with
    | nil => intro x; simp
    | cons r l ih =>
      intro x
      have h := ih (stp x r)
      have e : (stp x r).2.length ≤ 2 * x.2.length ∧ (0 < x.2.length → 0 < (stp x r).2.length) := by
        rcases r with _ | _ | _
        · simp only [stp, List.length_append, List.length_map]
          omega
        · simp only [stp]
          omega
        · simp only [stp, List.length_map]
          omega
      refine ⟨?_, fun h0 => h.2 (e.2 h0)⟩
      show (l.foldl stp (stp x r)).2.length ≤ _
      rw [List.length_cons, Nat.pow_succ, Nat.mul_comm (2 ^ l.length) 2, ← Nat.mul_assoc, Nat.mul_comm x.2.length 2]
      exact Nat.le_trans h.1 (Nat.mul_le_mul_right _ e.1)
  have h := gen rs (1, [0])
  refine ⟨by simpa [plc] using h.1, h.2 (by decide)⟩
theorem plc_snoc (rs : List (Option Bool)) (r : Option Bool) : plc (rs ++ [r]) = stp (plc rs) r := by
  unfold plc
  rw [List.foldl_append]
  rfl
/-- the one bit that all have -/
def one (l : List Bool) : Option Bool := match l with
  | [] => none
  | b :: r => if r.all (fun x => x == b) then some b else none
theorem one_some {l : List Bool} {b : Bool} : one l = some b ↔ l ≠ [] ∧ ∀ x ∈ l, x = b := by
  cases l with
  | nil => simp [one]
  | cons a r =>
    have e : one (a :: r) = if (r.all fun x => x == a) = true then some a else none := rfl
    rw [e]
    by_cases hall : (r.all fun x => x == a) = true
    · rw [if_pos hall]
      have h2 : ∀ x ∈ r, x = a := fun x hx => by simpa using List.all_eq_true.mp hall x hx
      constructor
      · intro h
        have h : a = b := Option.some.inj h
        subst h
        refine ⟨by simp, fun x hx => ?_⟩
        rcases List.mem_cons.mp hx with hx | hx
        · exact hx
        · exact h2 x hx
      · rintro ⟨_, h⟩
        rw [h a (List.mem_cons_self ..)]
    · rw [if_neg hall]
      constructor
      · intro h
        cases h
      · rintro ⟨_, h⟩
        refine absurd (List.all_eq_true.mpr fun x hx => ?_) hall
        rw [h a (List.mem_cons_self ..), h x (List.mem_cons_of_mem _ hx)]
        simp
theorem one_congr {l m : List Bool} (h : ∀ b, b ∈ l ↔ b ∈ m) : one l = one m := by
  have ne : l ≠ [] ↔ m ≠ [] := by
    constructor
    · intro hl hm
      obtain ⟨x, r, rfl⟩ := List.exists_cons_of_ne_nil hl
      have z := (h x).mp (List.mem_cons_self ..)
      rw [hm] at z
      cases z
    · intro hm hl
      obtain ⟨x, r, rfl⟩ := List.exists_cons_of_ne_nil hm
      have z := (h x).mpr (List.mem_cons_self ..)
      rw [hl] at z
      cases z
  have key : ∀ b, one l = some b ↔ one m = some b := fun b => by
    rw [one_some, one_some, ne]
    exact and_congr_right fun _ => ⟨fun q x hx => q x ((h x).mpr hx), fun q x hx => q x ((h x).mp hx)⟩
  cases e : one l with
  | some b => rw [(key b).mp e]
  | none =>
    cases e2 : one m with
    | none => rfl
    | some b =>
      rw [(key b).mpr e2] at e
      cases e
/-- what a gate with this table reads -/
def gateR (tb : List Bool) (rs : List (Option Bool)) : Option Bool := one ((plc rs).2.map fun p => tb.getD p false)
theorem minmax_one {l : List Bool} {lo hi : Int} (h1 : lo ∈ l.map bitZ) (h2 : ∀ y, y ∈ l.map bitZ → lo ≤ y) (h3 : hi ∈ l.map bitZ) (h4 : ∀ y, y ∈ l.map bitZ → y ≤ hi) :
    (lo = hi → ∃ b r, l = b :: r ∧ one l = some b) ∧ (lo ≠ hi → one l = none) := by
  constructor
  · intro e
    obtain ⟨b, hb, eb⟩ := List.mem_map.mp h1
    have all : ∀ x ∈ l, bitZ x = lo := fun x hx => by
      have q1 := h2 _ (List.mem_map.mpr ⟨x, hx, rfl⟩)
      have q2 := h4 _ (List.mem_map.mpr ⟨x, hx, rfl⟩)
      omega
    cases l with
    | nil => cases hb
    | cons a r =>
      refine ⟨a, r, rfl, one_some.mpr ⟨by simp, fun x hx => bitZ_inj ((all x hx).trans (all a (List.mem_cons_self ..)).symm)⟩⟩
  · intro e
    cases q : one l with
    | none => rfl
    | some b =>
      obtain ⟨_, hall⟩ := one_some.mp q
      obtain ⟨x, hx, ex⟩ := List.mem_map.mp h1
      obtain ⟨y, hy, ey⟩ := List.mem_map.mp h3
      rw [hall x hx] at ex
      rw [hall y hy] at ey
      exact absurd (ex.symm.trans ey) e
def natV (ps : List Nat) : List V := ps.map fun p : Nat => V.int (Int.ofNat p)
theorem natV_len (ps : List Nat) : (natV ps).length = ps.length := List.length_map ..
theorem natV_get {ps : List Nat} {i : Nat} {x : V} (h : (natV ps)[i]? = some x) : ∃ p : Nat, ps[i]? = some p ∧ x = .int (p : Int) := by
  unfold natV at h
  rw [List.getElem?_map] at h
  obtain ⟨p, hp, e⟩ := Option.map_eq_some_iff.mp h
  exact ⟨p, hp, e.symm⟩
theorem pw2 (i : Nat) : ((2 ^ i : Nat) : Int) * 2 = ((2 ^ (i + 1) : Nat) : Int) := by
  rw [Nat.pow_succ, Int.natCast_mul]
  rfl
theorem pow16 {n : Nat} (h : n ≤ 4) : 2 ^ n ≤ 16 := Nat.pow_le_pow_right (by decide) h
theorem natV_app (a b : List Nat) : natV (a ++ b) = natV a ++ natV b := List.map_append ..
theorem get_snoc {α : Type} {xs : List α} {i : Nat} {x : α} (h : xs[i]? = some x) : xs.take (i + 1) = xs.take i ++ [x] := take_snoc h

end K02

set_option Elab.async false
set_option linter.all false
set_option maxRecDepth 100000
set_option maxHeartbeats 1000000
/-! Circuits, as they stand: sources, registers. -/
namespace K02
open PySem PySem.Spec L2
open PyProof.Rows GenW GxR
open LamX (ExtN)
abbrev sUpTo : Stmt := top 20 -- is_tuple_up_to
abbrev sIsSource : Stmt := top 21 -- is_source
abbrev sIsRegister : Stmt := top 22 -- is_register
/-- a source -/
inductive Src
  | inp (i : Nat)
  | reg (i : Nat)
  | gate (i : Nat)
  | bit (b : Bool)
def Src.kind : Src → Str
  | .inp _ => "in"
  | .reg _ => "reg"
  | .gate _ => "gate"
  | .bit _ => "bit"
def Src.at_ : Src → Int
  | .inp i => i
  | .reg i => i
  | .gate i => i
  | .bit b => bitZ b
def Src.ok (ni nr ng : Nat) : Src → Prop
  | .inp i => i < ni
  | .reg i => i < nr
  | .gate i => i < ng
  | .bit _ => True
/-- y is the source s -/
def SrcAt (H : Hp) (y : V) (s : Src) : Prop := ∃ t, y = .ref t ∧ H t = some (.tup [.str s.kind, .int s.at_])
theorem SrcAt.ext {H H' : Hp} {y : V} {s : Src} (h : SrcAt H y s) (e : ExtN H H') : SrcAt H' y s := by
  obtain ⟨t, a, b⟩ := h
  exact ⟨t, a, e _ _ b fun _ z => by cases z⟩
section
variable {P : Program} {w : World} {K : PySem.W.Frag} {mg : Str → Option Value} {base : Heap}
theorem tyT {H : Hp} {a : Addr} {xs : List V} (h : H a = some (.tup xs)) : Ty1 K H (.ref a) "tuple" := ⟨.base (.tup h), by decide⟩
theorem tyI {H : Hp} (i : Int) : Ty1 K H (.int i) "int" := ⟨.base (.int i), by decide⟩
theorem bel_nat {i l : Nat} (h : i < l) : bel (.int (i : Int)) (l : Int) = true := by
  show (decide ((0 : Int) ≤ i) && decide ((i : Int) < l)) = true
  rw [decide_eq_true (Int.natCast_nonneg i), decide_eq_true (Int.ofNat_lt.mpr h)]
  rfl
def spUpTo (K : PySem.W.Frag) : Sp := fun vs H Q _ => ∃ (x : V) (t : String) (xs : List V) (n : Int), vs = [x, .int n] ∧ Ty1 K H x t ∧ TupV K H x t xs ∧ Q (.bl (decide (t = "tuple") && decide ((xs.length : Int) ≤ n))) H
theorem scUpTo : FnScope ["thing", "most"] ["thing", "most"] (defScope sUpTo) := ⟨rfl, rfl, rfl, by decide +kernel, rfl, by decide +kernel, by decide +kernel⟩
theorem ok_upTo {f : Addr} {fd : FuncData} (F : Fun K "is_tuple_up_to" "is_tuple_up_to" sUpTo f fd) (mi : mg "isinstance" = none) (mtuple : mg "tuple" = none) (mlen : mg "len" = none) : FnOk P w K mg base CX0 1 f fd ["thing", "most"] (spUpTo K) := by
  refine F.ok scUpTo (fun vs H Q E h => ?_) (fun cdv A outer s H vs Q E hr h => ?_)
  · obtain ⟨x, t, xs, n, rfl, _⟩ := h
    rfl
  · obtain ⟨x, t, xs, n, rfl, ht, hx, q⟩ := h
    refine ⟨_, pss_one (ps_ret (pe_and (pe_callB call_isi (by rfl) mi (by decide +kernel) (pa_cons (pv 0) (pa_cons (pe_bltn (v := .ty "tuple") (u := .type "tuple") (by rfl) mtuple (by decide +kernel) rfl) pa_nil)))
      (pe_one (pe_cmpR op_le (pe_callB call_len_seq (by rfl) mlen PySem.boot_len (pa_cons (pv 0) pa_nil)) (pv 1) (nomark _))))), ?_⟩
    refine ⟨_, rfl, x, .ty "tuple", _, _, _, rfl, .ty "tuple", ht.ty, kit_of1 ht.mem (by decide), _, rfl, ?_⟩
    by_cases h1 : t = "tuple"
    · obtain ⟨a, rfl, hS⟩ := hx h1
      subst h1
      exact ⟨_, rfl, a, xs, rfl, .inr hS, _, rfl, _, _, rfl, rfl, q⟩
    · have e : kitR t "tuple" = false := by
        unfold kitR
        rw [decide_eq_false h1]
        simp
      rw [e]
      rw [decide_eq_false h1] at q
      exact iteF q
def spSource : Sp := fun vs H Q _ => ∃ (y : V) (z : Addr) (s : Src) (ni nr ng : Nat), vs = [y, .ref z] ∧ SrcAt H y s ∧ H z = some (.tup [.int ni, .int nr, .int ng]) ∧ s.ok ni nr ng ∧ Q (.bl true) H
theorem scSource : FnScope ["thing", "sizes", "kind", "at"] ["thing", "sizes"] (defScope sIsSource) := ⟨rfl, rfl, rfl, by decide +kernel, rfl, by decide +kernel, by decide +kernel⟩
theorem ok_source {f fT fB f1 : Addr} {fd fdT fdB fd1 : FuncData} (F : Fun K "is_source" "is_source" sIsSource f fd)
    (GT : FnOk P w K mg base CX0 1 fT fdT ["thing", "many"] (spTupleOf K)) (kT : PySem.W.keepIn K (.ref fT) = true) (bT : Binds K fdT ["thing", "many"] []) (mT : mg "is_tuple_of" = some (.ref fT))
    (GB : FnOk P w K mg base CX0 2 fB fdB ["thing", "limit"] (spBelow K)) (kB : PySem.W.keepIn K (.ref fB) = true) (bB : Binds K fdB ["thing", "limit"] []) (mB : mg "is_below" = some (.ref fB))
    (G1 : FnOk P w K mg base CX0 3 f1 fd1 ["thing"] (spBit K)) (k1 : PySem.W.keepIn K (.ref f1) = true) (b1 : Binds K fd1 ["thing"] []) (m1 : mg "is_bit" = some (.ref f1)) : FnOk P w K mg base CX0 4 f fd ["thing", "sizes"] spSource := by
  refine F.ok scSource (fun vs H Q E h => ?_) (fun cdv A outer s H vs Q E hr h => ?_)
  · obtain ⟨y, z, s, ni, nr, ng, rfl, _⟩ := h
    rfl
  · obtain ⟨y, z, sr, ni, nr, ng, rfl, ⟨t, rfl, et⟩, ez, ok, q⟩ := h
    refine ⟨_, pss_cons (ps_if (pt_not (pt_val (pe_call GT (hr.mono (by decide)) (by rfl) mT kT bT .nil pass0 (pa_cons (pv 0) (pa_cons pe_int pa_nil))))) (pss_one (ps_ret pe_bl)) pss_nil)
      (pss_cons (ps_asg (pv 0) (pg_tup rfl (pgs_cons (pg_name (i := 2) scSource.nd rfl (Or.inl rfl)) (pgs_cons (pg_name (i := 3) scSource.nd rfl (Or.inl rfl)) pgs_nil))))
      (pss_cons (ps_if (pt_cmpR op_eq (pv 2) pe_str (nomark _)) (pss_one (ps_ret (pe_call GB (hr.mono (by decide)) (by rfl) mB kB bB .nil pass0 (pa_cons (pv 3) (pa_cons (pe_ix (r := rIxT K) ix_tup (pv 1) pe_int (fun _ _ => rfl)) pa_nil))))) pss_nil)
      (pss_cons (ps_if (pt_cmpR op_eq (pv 2) pe_str (nomark _)) (pss_one (ps_ret (pe_call GB (hr.mono (by decide)) (by rfl) mB kB bB .nil pass0 (pa_cons (pv 3) (pa_cons (pe_ix (r := rIxT K) ix_tup (pv 1) pe_int (fun _ _ => rfl)) pa_nil))))) pss_nil)
      (pss_cons (ps_if (pt_cmpR op_eq (pv 2) pe_str (nomark _)) (pss_one (ps_ret (pe_call GB (hr.mono (by decide)) (by rfl) mB kB bB .nil pass0 (pa_cons (pv 3) (pa_cons (pe_ix (r := rIxT K) ix_tup (pv 1) pe_int (fun _ _ => rfl)) pa_nil))))) pss_nil)
      (pss_one (ps_ret (pe_and (pe_cmpR op_eq (pv 2) pe_str (nomark _)) (pe_one (pe_call G1 hr (by rfl) m1 k1 b1 .nil pass0 (pa_cons (pv 3) pa_nil)))))))))), ?_⟩
    refine ⟨_, rfl, .ref t, "tuple", [.str sr.kind, .int sr.at_], 2, rfl, tyT et, fun _ => ⟨t, rfl, .inl (.inl et)⟩, _, rfl, ?_⟩
    refine iteF ⟨_, rfl, t, _, rfl, .inl (.inl et), rfl, _, _, rfl, _, _, rfl, rfl, ?_⟩
    have same_ : ∀ a : Str, decide (V.str a = V.str a) = true := fun a => decide_eq_true rfl
    have other : ∀ a b : Str, ¬ a = b → decide (V.str a = V.str b) = false := fun a b h => decide_eq_false fun z => h (V.str.inj z)
    cases sr with
    | inp i =>
      refine ⟨_, rfl, rfl, _, rfl, ?_⟩
      show (if decide (V.str ("in" : Str) = V.str "in") = true then _ else _)
      rw [same_]
      refine iteT ⟨_, rfl, _, rfl, z, _, 0, .int ni, rfl, rfl, .inl (.inl ez), rfl, .int (i : Int), "int", (ni : Int), rfl, tyI _, ?_⟩
      rw [bel_nat ok]
      exact q
    | reg i =>
      refine ⟨_, rfl, rfl, _, rfl, ?_⟩
      show (if decide (V.str ("reg" : Str) = V.str "in") = true then _ else _)
      rw [other _ _ (by decide +kernel)]
      refine iteF ⟨_, rfl, rfl, _, rfl, ?_⟩
      show (if decide (V.str ("reg" : Str) = V.str "reg") = true then _ else _)
      rw [same_]
      refine iteT ⟨_, rfl, _, rfl, z, _, 1, .int nr, rfl, rfl, .inl (.inl ez), rfl, .int (i : Int), "int", (nr : Int), rfl, tyI _, ?_⟩
      rw [bel_nat ok]
      exact q
    | gate i =>
      refine ⟨_, rfl, rfl, _, rfl, ?_⟩
      show (if decide (V.str ("gate" : Str) = V.str "in") = true then _ else _)
      rw [other _ _ (by decide +kernel)]
      refine iteF ⟨_, rfl, rfl, _, rfl, ?_⟩
      show (if decide (V.str ("gate" : Str) = V.str "reg") = true then _ else _)
      rw [other _ _ (by decide +kernel)]
      refine iteF ⟨_, rfl, rfl, _, rfl, ?_⟩
      show (if decide (V.str ("gate" : Str) = V.str "gate") = true then _ else _)
      rw [same_]
      refine iteT ⟨_, rfl, _, rfl, z, _, 2, .int ng, rfl, rfl, .inl (.inl ez), rfl, .int (i : Int), "int", (ng : Int), rfl, tyI _, ?_⟩
      rw [bel_nat ok]
      exact q
    | bit b =>
      refine ⟨_, rfl, rfl, _, rfl, ?_⟩
      show (if decide (V.str ("bit" : Str) = V.str "in") = true then _ else _)
      rw [other _ _ (by decide +kernel)]
      refine iteF ⟨_, rfl, rfl, _, rfl, ?_⟩
      show (if decide (V.str ("bit" : Str) = V.str "reg") = true then _ else _)
      rw [other _ _ (by decide +kernel)]
      refine iteF ⟨_, rfl, rfl, _, rfl, ?_⟩
      show (if decide (V.str ("bit" : Str) = V.str "gate") = true then _ else _)
      rw [other _ _ (by decide +kernel)]
      refine iteF ⟨_, rfl, rfl, _, rfl, ?_⟩
      show (if decide (V.str ("bit" : Str) = V.str "bit") = true then _ else _)
      rw [same_]
      refine iteT ⟨_, rfl, .int (bitZ b), "int", rfl, tyI _, ?_⟩
      have e : bel (.int (bitZ b)) 2 = true := by cases b <;> decide
      rw [e]
      exact q
/-- y is a register: its bit at the beginning, its source -/
def RegAt (H : Hp) (y : V) (r : Bool × Src) : Prop := ∃ t v, y = .ref t ∧ H t = some (.tup [bitV r.1, v]) ∧ SrcAt H v r.2
theorem RegAt.ext {H H' : Hp} {y : V} {r : Bool × Src} (h : RegAt H y r) (e : ExtN H H') : RegAt H' y r := by
  obtain ⟨t, v, a, b, c⟩ := h
  exact ⟨t, v, a, e _ _ b (fun _ z => by cases z), c.ext e⟩
theorem SrcAt.ty {H : Hp} {y : V} {s : Src} (h : SrcAt H y s) : Ty1 K H y "tuple" := by
  obtain ⟨t, rfl, e⟩ := h
  exact tyT e
def spRegister : Sp := fun vs H Q _ => ∃ (y : V) (z : Addr) (r : Bool × Src) (ni nr ng : Nat), vs = [y, .ref z] ∧ RegAt H y r ∧ H z = some (.tup [.int ni, .int nr, .int ng]) ∧ r.2.ok ni nr ng ∧ Q (.bl true) H
theorem scRegister : FnScope ["thing", "sizes"] ["thing", "sizes"] (defScope sIsRegister) := ⟨rfl, rfl, rfl, by decide +kernel, rfl, by decide +kernel, by decide +kernel⟩
theorem ok_register {f fT fS f1 : Addr} {fd fdT fdS fd1 : FuncData} (F : Fun K "is_register" "is_register" sIsRegister f fd)
    (GT : FnOk P w K mg base CX0 1 fT fdT ["thing", "many"] (spTupleOf K)) (kT : PySem.W.keepIn K (.ref fT) = true) (bT : Binds K fdT ["thing", "many"] []) (mT : mg "is_tuple_of" = some (.ref fT))
    (GS : FnOk P w K mg base CX0 4 fS fdS ["thing", "sizes"] spSource) (kS : PySem.W.keepIn K (.ref fS) = true) (bS : Binds K fdS ["thing", "sizes"] []) (mS : mg "is_source" = some (.ref fS))
    (G1 : FnOk P w K mg base CX0 3 f1 fd1 ["thing"] (spBit K)) (k1 : PySem.W.keepIn K (.ref f1) = true) (b1 : Binds K fd1 ["thing"] []) (m1 : mg "is_bit" = some (.ref f1)) : FnOk P w K mg base CX0 5 f fd ["thing", "sizes"] spRegister := by
  refine F.ok scRegister (fun vs H Q E h => ?_) (fun cdv A outer s H vs Q E hr h => ?_)
  · obtain ⟨y, z, r, ni, nr, ng, rfl, _⟩ := h
    rfl
  · obtain ⟨y, z, r, ni, nr, ng, rfl, ⟨t, v, rfl, et, hv⟩, ez, ok, q⟩ := h
    refine ⟨_, pss_one (ps_ret (pe_and (pe_call GT (hr.mono (by decide)) (by rfl) mT kT bT .nil pass0 (pa_cons (pv 0) (pa_cons pe_int pa_nil)))
      (pe_and (pe_call G1 (hr.mono (by decide)) (by rfl) m1 k1 b1 .nil pass0 (pa_cons (pe_ix (r := rIxT K) ix_tup (pv 0) pe_int (fun _ _ => rfl)) pa_nil))
        (pe_one (pe_call GS hr (by rfl) mS kS bS .nil pass0 (pa_cons (pe_ix (r := rIxT K) ix_tup (pv 0) pe_int (fun _ _ => rfl)) (pa_cons (pv 1) pa_nil))))))), ?_⟩
    refine ⟨_, rfl, .ref t, "tuple", [bitV r.1, v], 2, rfl, tyT et, fun _ => ⟨t, rfl, .inl (.inl et)⟩, _, rfl, ?_⟩
    refine iteT ⟨_, rfl, t, _, 0, bitV r.1, rfl, rfl, .inl (.inl et), rfl, bitV r.1, "int", rfl, tyI _, _, rfl, ?_⟩
    have e : bel (bitV r.1) 2 = true := by cases r.1 <;> decide
    rw [e]
    exact iteT ⟨_, rfl, t, _, 1, v, rfl, rfl, .inl (.inl et), rfl, _, rfl, v, z, r.2, ni, nr, ng, rfl, hv, ez, ok, q⟩
end
end K02

set_option Elab.async false
set_option linter.all false
set_option maxRecDepth 100000
set_option maxHeartbeats 1000000
/-! Circuits, as they stand: gates. -/
namespace K02
open PySem PySem.Spec L2
open PyProof.Rows GenW GxR
open LamX (ExtN)
abbrev sIsGate : Stmt := top 23 -- is_gate
/-- the items of vs are the things of xs -/
def AllAt {α : Type} (R : Hp → V → α → Prop) (H : Hp) (vs : List V) (xs : List α) : Prop := Paired (R H) vs xs
theorem all_get {α : Type} {R : V → α → Prop} {vs : List V} {xs : List α} (h : Paired R vs xs) : ∀ {i : Nat} {v : V}, vs[i]? = some v → ∃ x, xs[i]? = some x ∧ R v x := by
  induction h with
  | nil => intro i v hv; simp at hv
  | cons r t ih =>
    intro i v hv
    cases i with
    | zero =>
      cases hv
      exact ⟨_, rfl, r⟩
    | succ i => exact ih hv
theorem all_ext {α : Type} {R : Hp → V → α → Prop} {H H' : Hp} (hR : ∀ v x, R H v x → R H' v x) {vs : List V} {xs : List α} (h : AllAt R H vs xs) : AllAt R H' vs xs := by
  unfold AllAt at h ⊢
  induction h with
  | nil => exact .nil
  | cons r t ih => exact .cons (hR _ _ r) ih
abbrev Gate : Type := List Src × List Bool
def GateAt (H : Hp) (y : V) (g : Gate) : Prop := ∃ t a b vs, y = .ref t ∧ H t = some (.tup [.ref a, .ref b]) ∧ H a = some (.tup vs) ∧ AllAt SrcAt H vs g.1 ∧ H b = some (.tup (g.2.map bitV))
theorem GateAt.ext {H H' : Hp} {y : V} {g : Gate} (h : GateAt H y g) (e : ExtN H H') : GateAt H' y g := by
  obtain ⟨t, a, b, vs, h1, h2, h3, h4, h5⟩ := h
  exact ⟨t, a, b, vs, h1, e _ _ h2 (fun _ z => by cases z), e _ _ h3 (fun _ z => by cases z), all_ext (fun v x r => r.ext e) h4, e _ _ h5 (fun _ z => by cases z)⟩
def Gate.ok (ni nr ng : Nat) (g : Gate) : Prop := g.1.length ≤ 4 ∧ g.2.length = 2 ^ g.1.length ∧ ∀ s ∈ g.1, s.ok ni nr ng
section
variable {P : Program} {w : World} {K : PySem.W.Frag} {mg : Str → Option Value} {base : Heap}
def spGateT (TT : List Addr) : Sp := fun vs H Q _ => ∃ (y : V) (z : Addr) (g : Gate) (ni nr ng : Nat), vs = [y, .ref z] ∧ GateAt H y g ∧ H z = some (.tup [.int ni, .int nr, .int ng]) ∧ g.ok ni nr ng ∧ TabsG TT H ∧ ∀ H', Ex TT H H' → Q (.bl true) H'
theorem scGateT : FnScope ["thing", "sizes", "sources", "table", "item"] ["thing", "sizes"] (defScope sIsGate) := ⟨rfl, rfl, rfl, by decide +kernel, rfl, by decide +kernel, by decide +kernel⟩
theorem ok_gateT {TT : List Addr} {f fT fU fB fS c T : Addr} {fd fdT fdU fdB fdS : FuncData} {tk : Tok} (F : Fun K "is_gate" "is_gate" sIsGate f fd) (hc : fd.code = .ref c) (TB : TabB base mg c T) (hTT : T ∈ TT) (mall : mg "all" = none) (mlen : mg "len" = none) (m4 : mg "MOST_SOURCES" = some (.int 4 tk))
    (GT : FnOk P w K mg base CX0 1 fT fdT ["thing", "many"] (spTupleOf K)) (kT : PySem.W.keepIn K (.ref fT) = true) (bT : Binds K fdT ["thing", "many"] []) (mT : mg "is_tuple_of" = some (.ref fT))
    (GU : FnOk P w K mg base CX0 1 fU fdU ["thing", "most"] (spUpTo K)) (kU : PySem.W.keepIn K (.ref fU) = true) (bU : Binds K fdU ["thing", "most"] []) (mU : mg "is_tuple_up_to" = some (.ref fU))
    (GB : FnOk P w K mg base CX0 5 fB fdB ["thing", "many"] (spBits K TT)) (kB : PySem.W.keepIn K (.ref fB) = true) (bB : Binds K fdB ["thing", "many"] []) (mB : mg "is_bits" = some (.ref fB))
    (GS : FnOk P w K mg base CX0 4 fS fdS ["thing", "sizes"] spSource) (kS : PySem.W.keepIn K (.ref fS) = true) (bS : Binds K fdS ["thing", "sizes"] []) (mS : mg "is_source" = some (.ref fS)) : FnOk P w K mg base CX0 6 f fd ["thing", "sizes"] (spGateT TT) := by
  refine okC F hc scGateT (fun vs H Q E h => ?_) (fun A outer s H vs Q E hr h => ?_)
  · obtain ⟨y, z, g, ni, nr, ng, rfl, _⟩ := h
    rfl
  · obtain ⟨y, z, g, ni, nr, ng, rfl, ⟨t, a, b, vs, rfl, et, ea, hv, eb⟩, ez, ok, hT, q⟩ := h
    refine ⟨_, pss_cons (ps_if (pt_not (pt_val (pe_call GT (hr.mono (by decide)) (by rfl) mT kT bT .nil pass0 (pa_cons (pv 0) (pa_cons pe_int pa_nil))))) (pss_one (ps_ret pe_bl)) pss_nil)
      (pss_cons (ps_asg (pv 0) (pg_tup rfl (pgs_cons (pg_name (i := 2) scGateT.nd rfl (Or.inl rfl)) (pgs_cons (pg_name (i := 3) scGateT.nd rfl (Or.inl rfl)) pgs_nil))))
      (pss_cons (ps_if (pt_not (pt_val (pe_call GU (hr.mono (by decide)) (by rfl) mU kU bU .nil pass0 (pa_cons (pv 2) (pa_cons (pe_glob (v := .int 4) (by rfl) m4 ⟨_, rfl⟩) pa_nil))))) (pss_one (ps_ret pe_bl)) pss_nil)
      (pss_one (ps_ret (pe_and (pe_call GB hr (by rfl) mB kB bB .nil pass0 (pa_cons (pv 3) (pa_cons (pe_op op_shl pe_int (pe_callB call_len_seq (by rfl) mlen PySem.boot_len (pa_cons (pv 2) pa_nil))) pa_nil)))
        (pe_one (GX.pe_all (own := [("item", 4)]) (k := 4) hr (by rfl) mall TB rfl rfl scGateT.nd (pi_tup (pv 2)) (blkOk_by (N := ["thing", "sizes", "sources", "table", "item"]) (sc := defScope sIsGate) (by decide +kernel)) (GX.genNames_by (by decide +kernel))
          (fun _ _ _ _ _ _ _ => pg_name (i := 4) scGateT.nd rfl (Or.inl rfl)) (fun _ _ _ _ _ _ _ _ => pts_nil) (fun _ _ _ _ _ _ _ hr2 => pe_call GS hr2 (by rfl) mS kS bS .nil pass0 (pa_cons (pv 4) (pa_cons (pv 1) pa_nil)))))))))), ?_⟩
    refine ⟨_, rfl, .ref t, "tuple", [.ref a, .ref b], 2, rfl, tyT et, fun _ => ⟨t, rfl, .inl (.inl et)⟩, _, rfl, ?_⟩
    refine iteF ⟨_, rfl, t, _, rfl, .inl (.inl et), rfl, _, _, rfl, _, _, rfl, rfl, ?_⟩
    obtain ⟨ok1, ok2, ok3⟩ := ok
    have lv : vs.length = g.1.length := Paired.length hv
    have l4 : vs.length ≤ 4 := by omega
    have e1 : (decide (("tuple" : String) = "tuple") && decide ((vs.length : Int) ≤ 4)) = true := by
      rw [decide_eq_true rfl, decide_eq_true (show (vs.length : Int) ≤ 4 by omega)]
      rfl
    refine ⟨_, rfl, .ref a, "tuple", vs, 4, rfl, tyT ea, fun _ => ⟨a, rfl, .inl (.inl ea)⟩, _, rfl, ?_⟩
    rw [e1]
    refine iteF ⟨_, rfl, _, rfl, a, vs, rfl, .inr (.inl (.inl ea)), _, _, rfl, rfl, ⟨by omega, by omega, by decide⟩, .ref b, "tuple", g.2.map bitV, _, rfl, tyT eb, fun _ => ⟨b, rfl, .inl (.inl eb)⟩, fun _ y hy => ?_, hT, fun H1 x1 => ?_⟩
    · obtain ⟨bb, _, rfl⟩ := List.mem_map.mp hy
      exact ⟨_, tyI _⟩
    · have hb : (g.2.map bitV).all (fun y => bel y 2) = true := List.all_eq_true.mpr fun y hy => by
        obtain ⟨bb, _, rfl⟩ := List.mem_map.mp hy
        cases bb <;> decide
      have hn : ((g.2.map bitV).length : Int) = 1 * 2 ^ ((vs.length : Int)).toNat := by
        rw [List.length_map, ok2, Int.toNat_natCast, lv, Int.one_mul]
        exact Int.natCast_pow 2 _
      have e2 : (decide (("tuple" : String) = "tuple") && decide (((g.2.map bitV).length : Int) = 1 * 2 ^ ((vs.length : Int)).toNat) && (g.2.map bitV).all fun y => bel y 2) = true := by
        rw [hb, decide_eq_true rfl, decide_eq_true hn]
        rfl
      refine ⟨_, rfl, ?_⟩
      rw [e2]
      have hT1 := x1.tabs hT
      have n1 := x1.extN hT
      have ea1 := n1 _ _ ea (fun _ z => by cases z)
      refine iteT ⟨_, rfl, a, rfl, ⟨_, .inl (.inl ea1)⟩, hT1 T hTT, fun H2 hT2 => ⟨fun i m H3 => m + i = vs.length ∧ Ex TT H1 H3, ⟨vs.length, rfl, Ex.tabbed hTT hT2⟩, fun i m H3 hW => ?_⟩⟩
      obtain ⟨em, x3⟩ := hW
      have n3 := x3.extN hT1
      have ea3 := n3 _ _ ea1 (fun _ z => by cases z)
      have sq3 : SqT K H3 a vs := .inl (.inl ea3)
      by_cases hi : i < vs.length
      · refine .inr ⟨⟨vs, vs[i], sq3, List.getElem?_eq_getElem hi⟩, fun H4 => Ex TT H1 H4, fun H4 x4 => ⟨m - 1, by omega, by omega, x4⟩, fun y H4 hy => ?_⟩
        obtain ⟨rfl, hy⟩ := hy
        have ey := hy _ sq3
        obtain ⟨sr, hsr, hs⟩ := all_get hv ey
        have ez4 := n3 _ _ (n1 _ _ ez (fun _ z => by cases z)) (fun _ z => by cases z)
        refine ⟨rfl, _, rfl, _, rfl, y, z, sr, ni, nr, ng, rfl, (hs.ext n1).ext n3, ez4, ok3 sr (List.mem_of_getElem? hsr), _, rfl, ?_⟩
        exact ⟨(fun hc => by cases hc), (fun hc => x3)⟩
      · exact .inl ⟨⟨vs, sq3, by omega⟩, q H3 (x1.trans x3)⟩
end
end K02

set_option Elab.async false
set_option linter.all false
set_option maxRecDepth 100000
set_option maxHeartbeats 2000000
/-! Circuits, as they stand: is_circuit. -/
namespace K02
open PySem PySem.Spec L2
open PyProof.Rows GenW GxR
open LamX (ExtN)
abbrev sIsCircuit : Stmt := top 24 -- is_circuit
abbrev sCheckCircuit : Stmt := top 25 -- check_circuit
structure Circ where
  ni : Nat
  regs : List (Bool × Src)
  gates : List Gate
  outs : List Src
def CircAt (H : Hp) (y : V) (C : Circ) : Prop := ∃ t ra ga oa rs gs os, y = .ref t ∧ H t = some (.tup [.int C.ni, .ref ra, .ref ga, .ref oa]) ∧ H ra = some (.tup rs) ∧ H ga = some (.tup gs) ∧ H oa = some (.tup os) ∧ AllAt RegAt H rs C.regs ∧ AllAt GateAt H gs C.gates ∧ AllAt SrcAt H os C.outs
theorem CircAt.ext {H H' : Hp} {y : V} {C : Circ} (h : CircAt H y C) (e : ExtN H H') : CircAt H' y C := by
  obtain ⟨t, ra, ga, oa, rs, gs, os, h1, h2, h3, h4, h5, h6, h7, h8⟩ := h
  exact ⟨t, ra, ga, oa, rs, gs, os, h1, e _ _ h2 (fun _ z => by cases z), e _ _ h3 (fun _ z => by cases z), e _ _ h4 (fun _ z => by cases z), e _ _ h5 (fun _ z => by cases z), all_ext (fun v x r => r.ext e) h6, all_ext (fun v x r => r.ext e) h7, all_ext (fun v x r => r.ext e) h8⟩
structure Circ.ok (C : Circ) : Prop where
  ni : C.ni ≤ 8
  nr : C.regs.length ≤ 60
  ng : C.gates.length ≤ 2000
  no : C.outs.length ≤ 60
  regs : ∀ r ∈ C.regs, r.2.ok C.ni C.regs.length C.gates.length
  gates : ∀ g ∈ C.gates, g.ok C.ni C.regs.length C.gates.length
  outs : ∀ s ∈ C.outs, s.ok C.ni C.regs.length C.gates.length
section
variable {P : Program} {w : World} {K : PySem.W.Frag} {mg : Str → Option Value} {base : Heap}
/-- not a tuple of four -/
def Odd4 (K : PySem.W.Frag) (H : Hp) (y : V) : Prop := ∃ t xs, Ty1 K H y t ∧ TupV K H y t xs ∧ (decide (t = "tuple") && decide ((xs.length : Int) = 4)) = false
def spCircuitT (K : PySem.W.Frag) (TT : List Addr) : Sp := fun vs H Q _ => ∃ (y : V), vs = [y] ∧ ((∃ C : Circ, CircAt H y C ∧ C.ok ∧ TabsG TT H ∧ ∀ H', Ex TT H H' → Q (.bl true) H') ∨ (Odd4 K H y ∧ Q (.bl false) H))
theorem scCircuitT : FnScope ["thing", "inputs", "registers", "gates", "outputs", "sizes", "item"] ["thing"] (defScope sIsCircuit) := ⟨rfl, rfl, rfl, by decide +kernel, rfl, by decide +kernel, by decide +kernel⟩
theorem ok_circuitT {TT : List Addr} {f fT fU fL fG fR fS c T : Addr} {fd fdT fdU fdL fdG fdR fdS : FuncData} {tk1 tk2 tk3 tk4 : Tok} (F : Fun K "is_circuit" "is_circuit" sIsCircuit f fd) (hc : fd.code = .ref c) (TB : TabB base mg c T) (hTT : T ∈ TT) (mall : mg "all" = none) (mlen : mg "len" = none)
    (m1 : mg "MOST_INPUTS" = some (.int 8 tk1)) (m2 : mg "MOST_REGISTERS" = some (.int 60 tk2)) (m3 : mg "MOST_GATES" = some (.int 2000 tk3)) (m4 : mg "MOST_OUTPUTS" = some (.int 60 tk4))
    (GT : FnOk P w K mg base CX0 1 fT fdT ["thing", "many"] (spTupleOf K)) (kT : PySem.W.keepIn K (.ref fT) = true) (bT : Binds K fdT ["thing", "many"] []) (mT : mg "is_tuple_of" = some (.ref fT))
    (GU : FnOk P w K mg base CX0 1 fU fdU ["thing", "most"] (spUpTo K)) (kU : PySem.W.keepIn K (.ref fU) = true) (bU : Binds K fdU ["thing", "most"] []) (mU : mg "is_tuple_up_to" = some (.ref fU))
    (GL : FnOk P w K mg base CX0 2 fL fdL ["thing", "limit"] (spBelow K)) (kL : PySem.W.keepIn K (.ref fL) = true) (bL : Binds K fdL ["thing", "limit"] []) (mL : mg "is_below" = some (.ref fL))
    (GR : FnOk P w K mg base CX0 5 fR fdR ["thing", "sizes"] spRegister) (kR : PySem.W.keepIn K (.ref fR) = true) (bR : Binds K fdR ["thing", "sizes"] []) (mR : mg "is_register" = some (.ref fR))
    (GG : FnOk P w K mg base CX0 6 fG fdG ["thing", "sizes"] (spGateT TT)) (kG : PySem.W.keepIn K (.ref fG) = true) (bG : Binds K fdG ["thing", "sizes"] []) (mG : mg "is_gate" = some (.ref fG))
    (GS : FnOk P w K mg base CX0 4 fS fdS ["thing", "sizes"] spSource) (kS : PySem.W.keepIn K (.ref fS) = true) (bS : Binds K fdS ["thing", "sizes"] []) (mS : mg "is_source" = some (.ref fS)) : FnOk P w K mg base CX0 8 f fd ["thing"] (spCircuitT K TT) := by
  refine okC F hc scCircuitT (fun vs H Q E h => ?_) (fun A outer s H vs Q E hr h => ?_)
  · obtain ⟨y, rfl, _⟩ := h
    rfl
  · obtain ⟨y, rfl, h⟩ := h
    refine ⟨_, pss_cons (ps_if (pt_not (pt_val (pe_call GT (hr.mono (by decide)) (by rfl) mT kT bT .nil pass0 (pa_cons (pv 0) (pa_cons pe_int pa_nil))))) (pss_one (ps_ret pe_bl)) pss_nil)
      (pss_cons (ps_asg (pv 0) (pg_tup rfl (pgs_cons (pg_name (i := 1) scCircuitT.nd rfl (Or.inl rfl)) (pgs_cons (pg_name (i := 2) scCircuitT.nd rfl (Or.inl rfl)) (pgs_cons (pg_name (i := 3) scCircuitT.nd rfl (Or.inl rfl)) (pgs_cons (pg_name (i := 4) scCircuitT.nd rfl (Or.inl rfl)) pgs_nil))))))
      (pss_cons (ps_if (pw_or (pt_not (pt_val (pe_call GL (hr.mono (by decide)) (by rfl) mL kL bL .nil pass0 (pa_cons (pv 1) (pa_cons (pe_op op_add (pe_glob (v := .int 8) (by rfl) m1 ⟨_, rfl⟩) pe_int) pa_nil)))))
          (pw_or1 (pt_not (pt_val (pe_call GU (hr.mono (by decide)) (by rfl) mU kU bU .nil pass0 (pa_cons (pv 2) (pa_cons (pe_glob (v := .int 60) (by rfl) m2 ⟨_, rfl⟩) pa_nil))))))).pt (pss_one (ps_ret pe_bl)) pss_nil)
      (pss_cons (ps_if (pw_or (pt_not (pt_val (pe_call GU (hr.mono (by decide)) (by rfl) mU kU bU .nil pass0 (pa_cons (pv 3) (pa_cons (pe_glob (v := .int 2000) (by rfl) m3 ⟨_, rfl⟩) pa_nil)))))
          (pw_or1 (pt_not (pt_val (pe_call GU (hr.mono (by decide)) (by rfl) mU kU bU .nil pass0 (pa_cons (pv 4) (pa_cons (pe_glob (v := .int 60) (by rfl) m4 ⟨_, rfl⟩) pa_nil))))))).pt (pss_one (ps_ret pe_bl)) pss_nil)
      (pss_cons (ps_set (i := 5) scCircuitT.nd rfl (Or.inr rfl) (pe_tup (pa_cons (pv 1) (pa_cons (pe_callB call_len_seq (by rfl) mlen PySem.boot_len (pa_cons (pv 2) pa_nil)) (pa_cons (pe_callB call_len_seq (by rfl) mlen PySem.boot_len (pa_cons (pv 3) pa_nil)) pa_nil)))))
      (pss_cons (ps_if (pt_not (pt_val (GX.pe_all (own := [("item", 6)]) (k := 5) (hr.mono (by decide)) (by rfl) mall TB rfl rfl scCircuitT.nd (pi_tup (pv 2)) (blkOk_by (N := ["thing", "inputs", "registers", "gates", "outputs", "sizes", "item"]) (sc := defScope sIsCircuit) (by decide +kernel)) (GX.genNames_by (by decide +kernel))
          (fun _ _ _ _ _ _ _ => pg_name (i := 6) scCircuitT.nd rfl (Or.inl rfl)) (fun _ _ _ _ _ _ _ _ => pts_nil) (fun _ _ _ _ _ _ _ hr2 => pe_call GR hr2 (by rfl) mR kR bR .nil pass0 (pa_cons (pv 6) (pa_cons (pv 5) pa_nil)))))) (pss_one (ps_ret pe_bl)) pss_nil)
      (pss_cons (ps_if (pt_not (pt_val (GX.pe_all (own := [("item", 6)]) (k := 6) hr (by rfl) mall TB rfl rfl scCircuitT.nd (pi_tup (pv 3)) (blkOk_by (N := ["thing", "inputs", "registers", "gates", "outputs", "sizes", "item"]) (sc := defScope sIsCircuit) (by decide +kernel)) (GX.genNames_by (by decide +kernel))
          (fun _ _ _ _ _ _ _ => pg_name (i := 6) scCircuitT.nd rfl (Or.inl rfl)) (fun _ _ _ _ _ _ _ _ => pts_nil) (fun _ _ _ _ _ _ _ hr2 => pe_call GG hr2 (by rfl) mG kG bG .nil pass0 (pa_cons (pv 6) (pa_cons (pv 5) pa_nil)))))) (pss_one (ps_ret pe_bl)) pss_nil)
      (pss_one (ps_ret (GX.pe_all (own := [("item", 6)]) (k := 4) (hr.mono (by decide)) (by rfl) mall TB rfl rfl scCircuitT.nd (pi_tup (pv 4)) (blkOk_by (N := ["thing", "inputs", "registers", "gates", "outputs", "sizes", "item"]) (sc := defScope sIsCircuit) (by decide +kernel)) (GX.genNames_by (by decide +kernel))
          (fun _ _ _ _ _ _ _ => pg_name (i := 6) scCircuitT.nd rfl (Or.inl rfl)) (fun _ _ _ _ _ _ _ _ => pts_nil) (fun _ _ _ _ _ _ _ hr2 => pe_call GS hr2 (by rfl) mS kS bS .nil pass0 (pa_cons (pv 6) (pa_cons (pv 5) pa_nil)))))))))))), ?_⟩
    rcases h with ⟨C, ⟨t, ra, ga, oa, rs, gs, os, rfl, et, er, eg, eo, hrs, hgs, hos⟩, ok, hT, q⟩ | ⟨⟨ty, xs, ht, hx, no⟩, q⟩
    case inr =>
      refine ⟨_, rfl, y, ty, xs, 4, rfl, ht, hx, _, rfl, ?_⟩
      rw [no]
      exact iteT q
    refine ⟨_, rfl, .ref t, "tuple", [.int C.ni, .ref ra, .ref ga, .ref oa], 4, rfl, tyT et, fun _ => ⟨t, rfl, .inl (.inl et)⟩, _, rfl, ?_⟩
    refine iteF ⟨_, rfl, t, _, rfl, .inl (.inl et), rfl, _, _, rfl, _, _, rfl, _, _, rfl, _, _, rfl, rfl, ?_⟩
    have lr : rs.length = C.regs.length := Paired.length hrs
    have lg : gs.length = C.gates.length := Paired.length hgs
    have lo : os.length = C.outs.length := Paired.length hos
    have k1 := ok.ni
    have k2 := ok.nr
    have k3 := ok.ng
    have k4 := ok.no
    have u1 : (decide (("tuple" : String) = "tuple") && decide ((rs.length : Int) ≤ 60)) = true := by
      rw [decide_eq_true rfl, decide_eq_true (show (rs.length : Int) ≤ 60 by omega)]
      rfl
    have u2 : (decide (("tuple" : String) = "tuple") && decide ((gs.length : Int) ≤ 2000)) = true := by
      rw [decide_eq_true rfl, decide_eq_true (show (gs.length : Int) ≤ 2000 by omega)]
      rfl
    have u3 : (decide (("tuple" : String) = "tuple") && decide ((os.length : Int) ≤ 60)) = true := by
      rw [decide_eq_true rfl, decide_eq_true (show (os.length : Int) ≤ 60 by omega)]
      rfl
    have ub : bel (.int (C.ni : Int)) 9 = true := bel_nat (l := 9) (show C.ni < 9 by omega)
    refine ⟨_, rfl, _, _, rfl, rfl, .int C.ni, "int", 9, rfl, tyI _, _, rfl, ?_⟩
    rw [ub]
    refine iteF ⟨_, rfl, .ref ra, "tuple", rs, 60, rfl, tyT er, fun _ => ⟨ra, rfl, .inl (.inl er)⟩, _, rfl, ?_⟩
    rw [u1]
    refine iteF ⟨_, rfl, .ref ga, "tuple", gs, 2000, rfl, tyT eg, fun _ => ⟨ga, rfl, .inl (.inl eg)⟩, _, rfl, ?_⟩
    rw [u2]
    refine iteF ⟨_, rfl, .ref oa, "tuple", os, 60, rfl, tyT eo, fun _ => ⟨oa, rfl, .inl (.inl eo)⟩, _, rfl, ?_⟩
    rw [u3]
    refine iteF ⟨_, rfl, _, rfl, ra, rs, rfl, .inr (.inl (.inl er)), _, rfl, ga, gs, rfl, .inr (.inl (.inl eg)), (show 3 ≤ sizeLine by decide +kernel), fun z nz => ?_⟩
    have xz : Ex TT H (L2.upd H z (.tup [.int C.ni, .int rs.length, .int gs.length])) := Ex.same (same_new nz)
    have ez : (L2.upd H z (.tup [.int C.ni, .int rs.length, .int gs.length])) z = some (.tup [.int C.ni, .int C.regs.length, .int C.gates.length]) := by
      rw [upd_same, lr, lg]
    revert xz ez
    generalize (L2.upd H z (.tup [.int C.ni, .int rs.length, .int gs.length])) = Hz
    intro xz ez
    have hTz := xz.tabs hT
    have nz1 := xz.extN hT
    have erz := nz1 _ _ er (fun _ z => by cases z)
    have egz := nz1 _ _ eg (fun _ z => by cases z)
    have eoz := nz1 _ _ eo (fun _ z => by cases z)
    have hrz : AllAt RegAt Hz rs C.regs := all_ext (fun v x r => r.ext nz1) hrs
    have hgz : AllAt GateAt Hz gs C.gates := all_ext (fun v x r => r.ext nz1) hgs
    have hoz : AllAt SrcAt Hz os C.outs := all_ext (fun v x r => r.ext nz1) hos
    refine ⟨_, rfl, ra, rfl, ⟨_, .inl (.inl erz)⟩, hTz T hTT, fun H2 hT2 => ⟨fun i m H3 => m + i = rs.length ∧ Ex TT Hz H3, ⟨rs.length, rfl, Ex.tabbed hTT hT2⟩, fun i m H3 hW => ?_⟩⟩
    · obtain ⟨em, x3⟩ := hW
      have n3 := x3.extN hTz
      have er3 := n3 _ _ erz (fun _ z => by cases z)
      have sq3 : SqT K H3 ra rs := .inl (.inl er3)
      by_cases hi : i < rs.length
      · refine .inr ⟨⟨rs, rs[i], sq3, List.getElem?_eq_getElem hi⟩, fun H4 => Ex TT Hz H4, fun H4 x4 => ⟨m - 1, by omega, by omega, x4⟩, fun y H4 hy => ?_⟩
        obtain ⟨rfl, hy⟩ := hy
        have ey := hy _ sq3
        obtain ⟨r, hr1, hs⟩ := all_get hrz ey
        refine ⟨rfl, _, rfl, _, rfl, y, z, r, C.ni, C.regs.length, C.gates.length, rfl, hs.ext n3, n3 _ _ ez (fun _ z => by cases z), ok.regs r (List.mem_of_getElem? hr1), _, rfl, ?_⟩
        exact ⟨(fun hc => by cases hc), (fun hc => x3)⟩
      · refine .inl ⟨⟨rs, sq3, by omega⟩, _, rfl, ?_⟩
        refine iteF ?_
        have hT3 := x3.tabs hTz
        have eg3 := n3 _ _ egz (fun _ z => by cases z)
        have hg3 : AllAt GateAt H3 gs C.gates := all_ext (fun v x r => r.ext n3) hgz
        have xa := xz.trans x3
        have na := xa.extN hT
        have ez3 := n3 _ _ ez (fun _ z => by cases z)
        refine ⟨_, rfl, ga, rfl, ⟨_, .inl (.inl eg3)⟩, hT3 T hTT, fun H5 hT5 => ⟨fun i m H6 => m + i = gs.length ∧ Ex TT H3 H6, ⟨gs.length, rfl, Ex.tabbed hTT hT5⟩, fun i m H6 hW => ?_⟩⟩
        obtain ⟨em, x6⟩ := hW
        have n6 := x6.extN hT3
        have eg6 := n6 _ _ eg3 (fun _ z => by cases z)
        have sq6 : SqT K H6 ga gs := .inl (.inl eg6)
        by_cases hi : i < gs.length
        · refine .inr ⟨⟨gs, gs[i], sq6, List.getElem?_eq_getElem hi⟩, fun H7 => Ex TT H3 H7, fun H7 x7 => ⟨m - 1, by omega, by omega, x7⟩, fun y H7 hy => ?_⟩
          obtain ⟨rfl, hy⟩ := hy
          have ey := hy _ sq6
          obtain ⟨g, hg1, hs⟩ := all_get hg3 ey
          refine ⟨rfl, _, rfl, _, rfl, y, z, g, C.ni, C.regs.length, C.gates.length, rfl, hs.ext n6, n6 _ _ ez3 (fun _ z => by cases z), ok.gates g (List.mem_of_getElem? hg1), x6.tabs hT3, fun H8 x8 => ⟨_, rfl, ?_⟩⟩
          exact ⟨(fun hc => by cases hc), (fun hc => x6.trans x8)⟩
        · refine .inl ⟨⟨gs, sq6, by omega⟩, _, rfl, ?_⟩
          refine iteF ?_
          have hT6 := x6.tabs hT3
          have xb := xa.trans x6
          have nb := xb.extN hT
          have eo6 := nb _ _ eo (fun _ z => by cases z)
          have ho6 : AllAt SrcAt H6 os C.outs := all_ext (fun v x r => r.ext nb) hos
          have ez6 := n6 _ _ ez3 (fun _ z => by cases z)
          refine ⟨_, rfl, oa, rfl, ⟨_, .inl (.inl eo6)⟩, hT6 T hTT, fun H9 hT9 => ⟨fun i m H6' => m + i = os.length ∧ Ex TT H6 H6', ⟨os.length, rfl, Ex.tabbed hTT hT9⟩, fun i m Ha hW => ?_⟩⟩
          obtain ⟨em, xc⟩ := hW
          have nc := xc.extN hT6
          have eo9 := nc _ _ eo6 (fun _ z => by cases z)
          have sq9 : SqT K Ha oa os := .inl (.inl eo9)
          by_cases hi : i < os.length
          · refine .inr ⟨⟨os, os[i], sq9, List.getElem?_eq_getElem hi⟩, fun Hb => Ex TT H6 Hb, fun Hb x7 => ⟨m - 1, by omega, by omega, x7⟩, fun y Hb hy => ?_⟩
            obtain ⟨rfl, hy⟩ := hy
            have ey := hy _ sq9
            obtain ⟨sr, hg1, hs⟩ := all_get ho6 ey
            refine ⟨rfl, _, rfl, _, rfl, y, z, sr, C.ni, C.regs.length, C.gates.length, rfl, hs.ext nc, nc _ _ ez6 (fun _ z => by cases z), ok.outs sr (List.mem_of_getElem? hg1), _, rfl, ?_⟩
            exact ⟨(fun hc => by cases hc), (fun hc => xc)⟩
          · exact .inl ⟨⟨os, sq9, by omega⟩, q Ha (xb.trans xc)⟩
end
end K02

set_option Elab.async false
set_option linter.all false
set_option maxRecDepth 100000
set_option maxHeartbeats 2000000
/-! Cases: check_circuit, is_readings, check_case. -/
namespace K02
open PySem PySem.Spec L2
open PyProof.Rows GenW GxR
open LamX (ExtN)
section
variable {P : Program} {w : World} {K : PySem.W.Frag} {mg : Str → Option Value} {base : Heap}
/-- as okC, for a def that may raise -/
theorem okCX {x qual : Str} {st : Stmt} {f c : Addr} {fd : FuncData} {N ps : List Str} {k : Nat} {sp : Sp} (F : Fun K x qual st f fd) (hc : fd.code = .ref c) (S : FnScope N ps (defScope st)) (len : ∀ vs H Q E, sp vs H Q E → vs.length = ps.length)
    (hbody : ∀ (A : Around) (outer : List Env) (s : Shared) (H : Hp) (vs : List V) (Q : VK) (E : XK), Room k (A.deeper (envOfC qual (defScope st) s.heap.objs.size f (.ref c))) → sp vs H Q E →
      ∃ t, PSs (cxOf (L2.CX P w) P w K mg base N qual (defScope st) f (.ref c) A outer s H E) (defBody st) t ∧ t { nx := fun _ H' => Q .non H', rt := Q } (start N vs) H) : FnOk P w K mg base (L2.CX P w) (k + 1) f fd ps sp := by
  obtain ⟨oc, od, kV, doc, pm, an, cdv, ct, osl, rfl, lk, hcd⟩ := F.ex
  have e : cdv = .ref c := hc
  subst e
  exact fn_of lk hcd S len fun A outer s H vs Q E hr hsp => hbody A outer s H vs Q E hr hsp

def spCheckC (K : PySem.W.Frag) (TT : List Addr) (CC : Addr) : Sp := fun vs H Q E => ∃ (y : V), vs = [y] ∧ ((∃ C : Circ, CircAt H y C ∧ C.ok ∧ TabsG TT H ∧ ∀ H', Ex TT H H' → Q .non H') ∨ (Odd4 K H y ∧ E (.ref CC) none H))
theorem scCheckC : FnScope ["circuit"] ["circuit"] (defScope sCheckCircuit) := ⟨rfl, rfl, rfl, by decide +kernel, rfl, by decide +kernel, by decide +kernel⟩
theorem ok_checkC {TT : List Addr} {f fC c CC : Addr} {fd fdC : FuncData} (F : Fun K "check_circuit" "check_circuit" sCheckCircuit f fd) (hc : fd.code = .ref c)
    (xC : PySem.W.excIn K CC [.type "ValueError", .type "Exception", .type "BaseException", .type "object"] "ValueError.__new__" = true) (gC : mg "BadCircuit" = some (.ref CC)) (kCC : PySem.W.keepIn K (.ref CC) = true) (bCC : PySem.W.subIn K (.ref CC) (.type "BaseException") = some true) (tCC : PySem.W.typeIn K (.ref CC) = some (.type "type"))
    (GC : FnOk P w K mg base CX0 8 fC fdC ["thing"] (spCircuitT K TT)) (kC : PySem.W.keepIn K (.ref fC) = true) (bC : Binds K fdC ["thing"] []) (mC : mg "is_circuit" = some (.ref fC)) :
    FnOk P w K mg base (L2.CX P w) 9 f fd ["circuit"] (spCheckC K TT CC) := by
  refine okCX F hc scCheckC (fun vs H Q E h => ?_) (fun A outer s H vs Q E hr h => ?_)
  · obtain ⟨y, rfl, _⟩ := h
    rfl
  · obtain ⟨y, rfl, h⟩ := h
    refine ⟨_, pss_one (ps_if (pt_not (pt_val (pe_call GC hr (by rfl) mC kC bC .nil pass0 (pa_cons (pv 0) pa_nil))))
        (pss_one (ps_raise rfl (takes_of rfl rfl rfl rfl) (pmk_own PySem.F.excBase_ValueError xC gC kCC (raises_own bCC tCC) (by rfl)))) pss_nil), ?_⟩
    rcases h with ⟨C, hC, ok, hT, q⟩ | ⟨o, q⟩
    · exact ⟨_, rfl, y, rfl, .inl ⟨C, hC, ok, hT, fun H' x => ⟨_, rfl, iteF (q H' x)⟩⟩⟩
    · exact ⟨_, rfl, y, rfl, .inr ⟨o, _, rfl, iteT q⟩⟩
end
end K02

set_option Elab.async false
set_option linter.all false
set_option maxRecDepth 100000
set_option maxHeartbeats 2000000
/-! A caught exception that is still known behind its try; a lambda handed to a def, with the other tables kept. -/
namespace CE
open PySem PySem.Spec L2
open PyProof.Rows

/-- an exception of the class cls stands at a -/
def CauO (cls : Value) (d : Option Addr) (a : Addr) : HO := .ext fun h => ∃ (oe : Obj) (vs : Array Value), h.get? a = some oe ∧ Zc cls d oe ∧ oe.data = .fields vs

section
variable {X : Cx} {pins : List (Addr × Obj)} {σ : L2.St} {H : Hp} {s : Shared}
theorem told {a : Addr} {oe : Obj} {cls : Value} {d : Option Addr} {vs : Array Value} (I : Inv X pins σ H s) (e : s.heap.get? a = some oe) (z : Zc cls d oe) (hd : oe.data = .fields vs) (na : H a = none)
    (n0 : X.s_0.heap.get? a = none) (nl : a ≠ X.env.locals) (np : ∀ p ∈ X.pn ++ pins, p.1 ≠ a) : Inv X pins σ (upd H a (CauO cls d a)) s where
  ok := I.ok
  os := I.os
  bare := I.bare
  base := by
    have U := I.base
    refine ⟨U.keep, U.slot, fun b o q n x => ?_, U.there, fun b xs q => ?_, fun b o u q => ?_, fun b ps q => ?_⟩
    · have hb : b ≠ a := fun w => by
        rw [w, n0] at q
        cases q
      rw [upd_ne hb]
      exact U.free b o q n x
    · have q' := U.tups b xs q
      rw [upd_ne (ne_of_none q' na)]
      exact q'
    · have q' := U.frzs b o u q
      rw [upd_ne (ne_of_none q' na)]
      exact q'
    · obtain ⟨m, q'⟩ := U.tbls b ps q
      refine ⟨m, ?_⟩
      rw [upd_ne (ne_of_none q' na)]
      exact q'
  loc := I.loc
  cell := I.cell
  free := by
    rw [upd_ne (Ne.symm nl)]
    exact I.free
  freeC := fun x c hc => by
    have n : c ≠ a := fun w => by
      obtain ⟨v, o', e1, e2⟩ := I.cell x c hc
      rw [w, e] at e1
      cases e1
      rw [hd] at e2
      cases e2
    rw [upd_ne n]
    exact I.freeC x c hc
  pin := fun p hp => by
    obtain ⟨p1, p2, p3⟩ := I.pin p hp
    refine ⟨p1, ?_, p3⟩
    rw [upd_ne (np p hp)]
    exact p2
  hok := fun b u q => by
    by_cases hb : b = a
    · rw [hb, upd_same] at q
      cases q
      rw [hb]
      exact ⟨⟨oe, vs, e, z, hd⟩, ⟨oe, e⟩, fun _ _ ⟨o, v, g, r⟩ k => ⟨o, v, k o g, r⟩⟩
    · rw [upd_ne hb] at q
      exact (I.hok b u q).stay (fun _ _ _ g => g) (fun c g => by rw [upd_ne (ne_of_none g na)]; exact g) fun c xs g => by rw [upd_ne (ne_of_none g na)]; exact g
  len := I.len
end
/-- what a try with one clause `except c as n` asks; behind its suite the caught error is known -/
def wKept (K : PySem.W.Frag) (c : Value) (i : Nat) (ts : Addr → Value → Option Addr → TS) (Wout : WX) (D : Ends) : WX := fun cls d σ H => ∃ b, PySem.W.exmOne K cls c = some b ∧
  (b = true → ∀ a, H a = none → ts a cls d { nx := fun σ' H' => D.nx (σ'.set i none) (upd H' a (CauO cls d a)), rt := fun _ _ => False, bk := fun _ _ => False, ct := fun _ _ => False } (σ.set i (some (.ref a))) H) ∧ (b = false → Wout cls d σ H)

section
variable {X : Cx} {body : List Stmt} {x n : Str} {c : Value} {i : Nat} {b₀ : Stmt} {suite : List Stmt} {Wout : WX} {tb : WX → TS} {ts : Addr → Value → Option Addr → TS} {np pos pos' : Pos}
theorem ps_try_kept (hs : X.stack = X.env :: X.outer) (hf : X.env.frame = some X.env.locals) (hex : X.ex = []) (hN : X.N.Nodup) (hi : X.N[i]? = some n) (hln : X.env.kindOf n = some .local) (hc : Names X x c) (tk : Takes X Wout)
    (hb : ∀ (W : WX) (pn : List (Addr × Obj)) (xe : Value → Shared → Prop), Takes (X.tr pn xe) W → PassesOwn (model X.prog X.w) X.A X.env xe → PSs (X.tr pn xe) body (tb W))
    (hsu : ∀ (a : Addr) (oe : Obj) (cls : Value) (d : Option Addr) (pn : List (Addr × Obj)), PSs (X.suite a ((a, oe) :: pn)) (b₀ :: suite) (ts a cls d)) :
    PS X (.Try body [.ExceptHandler (some (.Name x np)) (some n) (b₀ :: suite) pos'] [] [] pos) (fun D σ H => tb (wKept X.K c i ts Wout D) D σ H) := by
  constructor
  intro pins s σ H D I h
  have ok := I.ok
  have fr : X.A.frames = some (X.env :: X.outer) := ok.frames.trans (by rw [hs])
  have lc : Loc X.env.scope n := .inl hln
  apply wpAny_Try_except
  have hb' := hb (wKept X.K c i ts Wout D) (X.pn ++ pins) (fun e s₁ => wpAny (model X.prog X.w) X.A (noteFrame e X.env) (fun _ s₂ => wpAny (model X.prog X.w) X.A (setFlight e none) (fun _ s₃ =>
    wpAny (model X.prog X.w) X.A (handleBy e X.env [.ExceptHandler (some (.Name x np)) (some n) (b₀ :: suite) pos']) (SP X pins D) X.xe s₃) X.xe s₂) X.xe s₁)
  refine wpAny_mono ((hb' ?caught PassesOwn.looking).run [] s σ H D (I.toTry _) h) ?through fun e s1 he => he
  case through =>
    intro f s1 sp
    cases f with
    | next => exact sp.elim fun σ1 z => z.elim fun H1 z => wpAny_execs_nil ⟨σ1, H1, z.1.ofTry ok, z.2⟩
    | brk => exact sp.elim fun σ1 z => z.elim fun H1 z => ⟨σ1, H1, z.1.ofTry ok, z.2⟩
    | cont => exact sp.elim fun σ1 z => z.elim fun H1 z => ⟨σ1, H1, z.1.ofTry ok, z.2⟩
    | ret u => exact sp.elim fun v z => z.elim fun σ1 z => z.elim fun H1 z => ⟨v, σ1, H1, z.1.ofTry ok, z.2.1, z.2.2⟩
  case caught =>
    rintro u s' ⟨a, B, sI, pins', σ1, H1, cls, d, rfl, J', nb, up, sky, na, os, ag, b, hb1, yes, no⟩
    have J : Inv X pins σ1 H1 sI := J'.ofTry ok
    have sky1 : Sky B (X.env :: X.outer) a (Zc cls d) X.env.locals s'.heap := hs ▸ sky
    show wpAny (model X.prog X.w) X.A (noteFrame (.ref a) X.env) _ _ _
    refine Sky.land Zc.steady fr hf sky1 fun h3 fl up3 => ?_
    obtain ⟨o3, v3, g3, z3, d3⟩ := fl.there
    have J3 : Inv X pins σ1 H1 { s' with heap := h3 } := J.landed nb fl.1 (up.trans up3) os ag
    have out : a ∉ frs (X.env :: X.outer) := fun hm => by
      obtain ⟨_, o', e', nf⟩ := fl.2.2.1.mem hm
      rw [g3] at e'
      cases e'
      exact nf _ d3
    have nl : a ≠ X.env.locals := fun w => out (List.mem_filterMap.mpr ⟨X.env, List.mem_cons_self, by rw [hf, w]⟩)
    have nfs : a ∉ X.fs := fun hm => by
      obtain ⟨e, m, q⟩ := List.mem_filterMap.mp hm
      exact out (List.mem_filterMap.mpr ⟨e, List.mem_cons_of_mem _ m, q⟩)
    have none_ : sI.heap.get? a = none := by
      cases q : sI.heap.get? a with
      | none => rfl
      | some o =>
        have z := nb a o q (by rw [hs]; exact out)
        rw [fl.2.1] at z
        cases z
    have none0 : X.s_0.heap.get? a = none := by
      cases q : X.s_0.heap.get? a with
      | none => rfl
      | some o =>
        obtain ⟨o', z⟩ := J.base.there a o q (by rw [hex]; exact List.not_mem_nil)
        rw [none_] at z
        cases z
    have pn_ : ∀ p ∈ X.pn ++ pins, p.1 ≠ a := fun p hp w => by
      have z := (J.pin p hp).1
      rw [w, none_] at z
      cases z
    have S3 := J3.suite g3 d3 na nl nfs
    have lt : PySem.W.Looks (model X.prog X.w) h3 (typeOf (.ref a)) cls := fun _ _ _ _ k q => wpAny_typeOf_ref (k _ _ g3) (z3.1 ▸ q)
    have lm := PySem.W.exm_one (M := model X.prog X.w) J3.kIn lt hb1
    have ask : ∀ {Q : Value → Shared → Prop} {E : Value → Shared → Prop}, Q c { s' with heap := h3 } → wpAny (model X.prog X.w) (X.A.mark (some (.ref a))) (eval (.Name x np) X.env) Q E { s' with heap := h3 } := by
      intro Q E q
      rcases hc with ⟨hg, hdb, hm | ⟨hm, hv, hnn⟩⟩
      · exact ld_glob (X := X.suite a _) S3 hg hm q hdb
      · exact ld_blt (X := X.suite a _) S3 hg hm hv q hnn hdb
    refine wpAny_handleBy_cons (codeAny_handlers_test (ask (lm.here ?_))) (by intro q; cases q)
    cases b with
    | true =>
      refine codeAny_handlers_suite_as (HandSPX.lands_againZ fl fun h4 fl4 up4 => ?_)
      obtain ⟨o4, v4, g4, z4, d4⟩ := fl4.there
      have J4 : Inv X pins σ1 H1 { s' with heap := h4 } := J.landed nb fl4.1 ((up.trans up3).trans up4) os ag
      have S4 := J4.suite g4 d4 na nl nfs
      refine store_ok (X := X.suite a ((a, o4) :: (X.pn ++ pins))) (v := .ref a) S4 hN hi lc rfl (fun s5 S5 => ?_) (.inr hln)
      refine wpAny_mono ((hsu a o4 cls d (X.pn ++ pins)).run [] s5 _ H1 _ S5 (yes rfl a na)) (fun f s6 sp => ?_) (fun _ _ w => w.elim)
      cases f with
      | next =>
        obtain ⟨σ6, H6, S6, q6⟩ := sp
        have p6 := S6.pin (a, o4) (List.mem_append_left _ List.mem_cons_self)
        have K6 := told (S6.unsuite ok) p6.1 z4 d4 p6.2.1 none0 nl pn_
        exact gone_ok K6 hN hi hln fun s7 J7 => ⟨_, _, J7, q6⟩
      | brk => exact sp.elim fun _ z => z.elim fun _ z => z.2.elim
      | cont => exact sp.elim fun _ z => z.elim fun _ z => z.2.elim
      | ret u => exact sp.elim fun _ z => z.elim fun _ z => z.elim fun _ z => z.2.2.elim
    | false =>
      show wpAny _ X.A (handleBy (.ref a) X.env []) _ _ _
      apply wpAny_handleBy_nil
      obtain ⟨_, _, _, oe, vs, T, oT, ts', he, _, hd, h1, _⟩ := id fl
      unfold PySem.passOn
      refine wpAny_bind (wpAny_field he hd h1 ?_)
      rw [if_neg (show ¬ ((Value.ref T == Value.none) = true) from by simp)]
      have fin : wpAny (model X.prog X.w) X.A (setFlight (.ref a) X.env.frame) (fun _ s4 => wpAny (model X.prog X.w) X.A (throw (.ref a) : Sem Flow) (SP X pins D) X.xe s4) X.xe { s' with heap := h3 } := by
        rw [hf]
        exact HandSPX.setFlight_upZ fl fun h4 hh4 up4 => wpAny_throw (tk _ _ ⟨a, B, sI, pins, σ1, H1, cls, d, rfl, J, nb, (up.trans up3).trans up4, .inr (.inr (by rw [hs]; exact hh4)), na, os, ag, no rfl⟩)
      first
        | exact wpAny_bind (wpAny_pure (wpAny_bind fin))
        | exact wpAny_bind fin
end

/-! ### isinstance of it -/
def rIsCau (K : PySem.W.Frag) (D : Addr) : List V → Hp → VK → Prop := fun xs H Q => ∃ (a : Addr) (c : V) (cv : Value) (b : Bool), xs = [.ref a, c] ∧ H a = some (CauO (.ref D) none a) ∧ (∀ u, RelV c u → u = cv) ∧ PySem.W.kitOne K (.ref D) cv = some b ∧ Q (.bl b) H
theorem call_isCau {X : Cx} {D : Addr} (C : ExcC X.K D) : CallR X (.builtin "isinstance") (rIsCau X.K D) := by
  intro pins s σ H xs us Q I r h
  obtain ⟨a, c, cv, b, rfl, hH, hcv, e, q⟩ := h
  rcases r with _ | ⟨rx, _ | ⟨rt, r0⟩⟩
  cases r0
  cases rx
  cases hcv _ rt
  obtain ⟨oe, vs, g, z, hd⟩ := (I.hok a _ hH).1
  have J : PySem.W.InstAt s.heap a oe D none := by
    rcases oe with ⟨oc, od, oda, osl⟩
    obtain ⟨h1, h2⟩ := z
    dsimp only at h1 h2 hd
    subst h1
    subst h2
    subst hd
    exact ⟨g, rfl, rfl, trivial⟩
  exact PySem.W.kia_one (PySem.W.handS_kitx_exc C.hg C.hk C.hs C.hd C.ha C.hn C.ht C.hm) I.kIn J e (fun z => nomatch z) fun tk => ⟨.bl b, H, I.kept (t' := tk) fun _ _ z => z, rfl, q⟩
end CE

set_option Elab.async false
set_option linter.all false
set_option maxRecDepth 100000
set_option maxHeartbeats 2000000
/-! What a def makes of a lambda whose error it catches. -/
namespace K02
open PySem PySem.Spec L2
open PyProof.Rows GenW GxR LamX CE
theorem takes_len {X : Cx} {W : WX} (t : Takes X W) : Takes X (fun cls d σ H => σ.length = X.N.length → W cls d σ H) := fun u s' ⟨a, B, sI, pins, σ, H, cls, d, e, I, nb, up, sky, na, os, ag, w⟩ =>
  t u s' ⟨a, B, sI, pins, σ, H, cls, d, e, I, nb, up, sky, na, os, ag, w I.len⟩
/-- what _law_caught makes of the lambda: the error that it raises is given back, or None -/
def TCau (K : PySem.W.Frag) (CS : Addr) : (XK → Hp → VK → Prop) → Hp → VK → Prop := fun tl H Q =>
  tl (fun cls d H' => ∃ b, PySem.W.exmOne K cls (.ref CS) = some b ∧ (b = true → ∀ a, H' a = none → Q (.ref a) (upd H' a (CauO cls d a))) ∧ (b = false → False)) H fun _ H' => Q .non H'
theorem three {σ : L2.St} (h : σ.length = 3) : ∃ a b c, σ = [a, b, c] := by
  rcases σ with _ | ⟨a, _ | ⟨b, _ | ⟨c, _ | ⟨d, r⟩⟩⟩⟩
  all_goals first
    | exact ⟨_, _, _, rfl⟩
    | exact absurd h (by simp)
end K02

set_option Elab.async false
set_option linter.all false
set_option maxRecDepth 100000
set_option maxHeartbeats 2000000
/-! A lambda handed to a def, all tables but the maker's own kept as they are. -/
namespace CE
open PySem PySem.Spec L2
open PyProof.Rows LamX
/-- all but P's table is as it was -/
def ButP (P : Addr) (H H' : Hp) : Prop := ∀ b o, b ≠ P → H b = some o → H' b = some o
def lamN (X : Cx) : Str := X.env.qual ++ "<lambda>"
section
variable {X : Cx} {pins : List (Addr × Obj)} {σ : L2.St} {H : Hp} {s : Shared}
theorem lam_mk {c P : Addr} {ps : Arguments} {body : Expr} {sc : Scope} {pos : Pos} {E Q : Value → Shared → Prop} (I : Inv X pins σ H s) (TB : TabB X.base X.mg c P) (hcode : X.env.code = .ref c) (hT : TabS H P (lamN X))
    (hdef : defaultsOf ps X.env = ([], [])) (hfree : ∀ y ∈ sc.names, y.2 = .free → ∃ c, X.env.cells.lookup y.1 = some c)
    (h : ∀ (f c' : Addr) (pm ctv : Value) (H1 : Hp) (s' : Shared), Inv X pins σ H1 s' → ButP P H H1 → TabS H1 P (lamN X) → s'.heap.get? f = some (PySem.W.kla_obj "<lambda>" (lamN X) ps body sc (cloFrom X.env.cells sc.names []) pm c' ctv) →
      H1 f = none → f ∉ frs X.stack → H1 c' = some (CodeO c' (lamN X)) → Q (.ref f) s') : wpAny (model X.prog X.w) X.A (eval (.Lambda ps body sc pos) X.env) Q E s := by
  obtain ⟨tb, tP, tt, tc⟩ := hT
  have inP : s.heap.get? P = some { cls := .none, data := .fields tb } := I.hok P _ tP
  have far : ∀ f, s.heap.objs.size ≤ f → f ∉ frs X.stack := by
    intro f hf z
    rcases List.mem_cons.mp (I.stkSub _ z) with e | e
    · have lt := I.lt
      rw [← e] at lt
      exact Nat.not_le_of_lt lt hf
    · exact I.nofs hf e
  apply PySem.W.kla_eval hdef
  rcases hc : codeAmong pos tb.toList with _ | cv
  · refine PySem.W.kla_makeFunction (mg := X.mg) (c := c) (P := P) (ps := tb) (closure_ok hfree) I.ok.glob (I.mod.glob.keeps I.bk) hcode (TB.code.keeps I.bk) inP tt hc TB.gP (TB.bm.keeps I.bk) ?_
    intro c' ctv h' tk hx hge hlt hrec htb
    obtain ⟨c2, oc, vs, t, ec, hoc, hd, hv⟩ := hrec
    cases ec
    have grow : s.heap.objs.size ≤ h'.objs.size := Nat.le_trans hge (Nat.le_of_lt hlt)
    have fresh : H c' = none := I.hok.fresh hge
    have nP : P ≠ c' := ne_of_none tP fresh
    have J := inv_table (t' := tk) (more := #[rawInt pos.line, rawInt pos.col, .ref c']) (h' := h'.push (PySem.W.kla_obj "<lambda>" (lamN X) ps body sc (cloFrom X.env.cells sc.names []) ((X.mg "__name__").getD .none) c' ctv)) I tP
      (fun b o hb e => Heap.get?_push_of_some _ (hx b o hb e)) (Heap.get?_push_of_some _ htb) hge ⟨oc, vs, t, Heap.get?_push_of_some _ hoc, hd, hv⟩
    refine h h'.objs.size c' _ ctv _ _ J (fun b o hb e => ?_) ⟨tb ++ #[rawInt pos.line, rawInt pos.col, .ref c'], ?_, ?_, fun p' cv hcv => ?_⟩ (Heap.get?_push_size _ rfl) ?_ (far _ grow) upd_same
    · rw [upd_ne (ne_of_none e fresh), upd_ne hb]
      exact e
    · rw [upd_ne nP, upd_same]
    · rw [Array.toList_append]
      exact PySem.TriplesOk_snoc _ _ _ _ tt
    · rw [Array.toList_append] at hcv
      rcases among_app _ tt hcv with z | z
      · obtain ⟨c0, e1, e2⟩ := tc p' cv z
        refine ⟨c0, e1, ?_⟩
        rw [upd_ne (ne_of_none e2 fresh), upd_ne (fun w => by rw [w, tP] at e2; exact codeO_ne _ (Option.some.inj e2).symm)]
        exact e2
      · exact ⟨c', z, upd_same⟩
    · have pLt := Heap.lt_size inP
      rw [upd_ne (Nat.ne_of_gt hlt), upd_ne (Nat.ne_of_gt (Nat.lt_of_lt_of_le pLt grow))]
      exact I.hok.fresh grow
  · obtain ⟨c', rfl, hco⟩ := tc pos cv hc
    refine PySem.W.kla_makeFunctionHit (mg := X.mg) (c := c) (P := P) (ps := tb) (closure_ok hfree) I.ok.glob (I.mod.glob.keeps I.bk) hcode (TB.code.keeps I.bk) inP tt hc (TB.bm.keeps I.bk) fun ctv h' tk hx hsz => ?_
    exact h h'.objs.size c' ((X.mg "__name__").getD .none) ctv H _ (I.kept (t' := tk) (h' := h'.push _) fun b o e => Heap.get?_push_of_some _ (hx b o e)) (fun _ _ _ e => e) ⟨tb, tP, tt, tc⟩ (Heap.get?_push_size _ rfl) (I.hok.fresh hsz) (far _ hsz) hco
end
def tLamP (P : Addr) (q : Str) (TT : (XK → Hp → VK → Prop) → Hp → VK → Prop) (t : XK → TE) : TE := fun σ H Q => TabS H P q ∧ ∀ H1, ButP P H H1 → TabS H1 P q → TT (fun E H' Q' => t E σ H' Q') H1 Q
section
variable {X : Cx}
/-- x(lambda: body), x a def of one parameter -/
theorem pe_lamP {TT : (XK → Hp → VK → Prop) → Hp → VK → Prop} {x a : Str} {g c P : Addr} {k : Nat} {pg : Arguments} {bg : List Stmt} {sg : Scope} {dV kV doc pm cdv ct oc : Value} {an od : Option Addr} {osl : Array (Option Value)} {Ng : List Str}
    {ps : Arguments} {body : Expr} {sc : Scope} {t : XK → TE} {p lpos pos : Pos} (hg : Gl X x) (hm : X.mg x = some (.ref g)) (hk : PySem.W.keepIn X.K (.ref g) = true) (lk : X.K.lookup g = some ⟨oc, od, .func (PySem.W.fnOf x x pg bg sg dV kV doc pm an cdv ct), osl⟩)
    (hcg : PySem.W.codeIn X.K cdv x = true) (hb : L2.Binds X.K (PySem.W.fnOf x x pg bg sg dV kV doc pm an cdv ct) [a] []) (Sg : FnScope Ng [a] sg) (hNg : Ng[0]? = some a) (hva : Vis sg a) (hG : GivesTo X Ng x sg g cdv bg a (lamN X) TT)
    (TB : TabB X.base X.mg c P) (hcode : X.env.code = .ref c) (hr : Room (k + 2) X.A) (L : LamS X.env.scope sc) (hdef : defaultsOf ps X.env = ([], [])) (hbind : ∀ (q : Str) (cl : List (Str × Addr)) (pm cv ctv : Value), bindArgs (PySem.W.kla_fn "<lambda>" q ps body sc cl pm cv ctv) ⟨[], []⟩ = pure [])
    (hbody : ∀ (A : Around) (outer : List Env) (s : Shared) (H : Hp) (E : XK) (f c' : Addr), Room k (A.deeper (lamEnv X sc s.heap.objs.size f c')) → PE (lamCx X A outer s H E sc f c') body (t E))
    (hdb : (x == ("__debug__" : Str)) = false := by decide) (hd : (a == ("__debug__" : Str)) = false := by decide) (hcd : (a == ("__classdict__" : Str)) = false := by decide) : PE X (.Call (.Name x p) [.Lambda ps body sc lpos] [] pos) (tLamP P (lamN X) TT t) := by
  constructor
  rintro pins s σ H Q I ⟨hT, h⟩
  refine wpAny_Call_Name_kw (ld_glob I hg hm ?_ hdb)
  refine PySem.W.callWith_K (h₀ := X.base) I.ok.mod.kin hk ?_ (by rfl) (by rfl)
  show wpAny _ _ (spliced ((false, eval (.Lambda ps body sc lpos) X.env) :: backTo pos (starEach [] X.env))) _ _ s
  apply Calls.spliced_cons
  refine lam_mk I TB hcode hT hdef (L.has I.ok) fun f c' pm' ctv H1 s' I1 eN T1 hf hfn hfr hco => Calls.spliced_nil ⟨I1.kIn, ?_⟩
  have run : codeAny (model X.prog X.w) X.A (.call (.ref g) ⟨[.ref f], []⟩) (CR C8.CX0 X.stack X.prog X.w H1 s' Q C8.E0) s' :=
    run_ofS (N := Ng) (ps := [a]) (us := [.ref f]) (vs := [.ref f]) lk hcg Sg hr I1.env0 (hb s' [.ref f] I1.kIn rfl) (.cons rfl .nil) rfl fun hr' => by
      obtain ⟨t', ht', hq'⟩ := hG f c' s' H1 Q (fun E H' Q' => t E σ H' Q') (fun W pn xe E p1 p2 tk hW => pe_act (i := 0) I1 L hf hfn hfr (hbind _ _ _ _ _) tk hW hr' (fun A outer s H hr2 => hbody A outer s H E f c' hr2) hNg hva hd hcd) hco (h H1 eN T1)
      exact ⟨t', ht'.nox, hq'⟩
  refine wpAny_call (codeAny_mono run fun r s2 hq => ?_)
  rcases r with e | fl
  · exact False.elim hq
  · cases fl with
    | ret u => exact I1.after hq
    | _ => exact False.elim hq
end
end CE

set_option Elab.async false
set_option linter.all false
set_option maxRecDepth 100000
set_option maxHeartbeats 2000000
/-! A dict whose keys are tuples of numbers, texts and None: stored into, asked, walked. -/
namespace TK
open PySem PySem.Spec L2
open PyProof.Rows
def leafV : Leaf → V
  | .none => .non
  | .num i => .int i
  | .text z => .str z
theorem leafV_inj {a b : Leaf} (h : leafV a = leafV b) : a = b := by
  cases a <;> cases b <;> first
    | rfl
    | (cases h; rfl)
    | cases h
abbrev Ent := List Leaf × Addr × V
abbrev kd (P : Program) (w : World) : HeapKind P w (List Leaf) := tupleKind (leafKind P w)
def TkO (d : Addr) (es : Array DictEntry) (ep : Nat) : HO := .ext fun h => ∃ o, h.get? d = some o ∧ o.ExactDict ∧ o.data = .dict es ep
abbrev EntR : Ent → List Leaf × Addr × Value → Prop := fun p q => p.1 = q.1 ∧ p.2.1 = q.2.1 ∧ RelV p.2.2 q.2.2
def TkD (P : Program) (w : World) (xs : List Ent) (es : Array DictEntry) : Prop := ∃ ys, es.toList = ys.map (entryOfKey (kd P w)) ∧ Paired EntR xs ys
structure TkAt (P : Program) (w : World) (H : Hp) (d : Addr) (xs : List Ent) (es : Array DictEntry) (ep : Nat) : Prop where
  at_ : H d = some (TkO d es ep)
  dat : TkD P w xs es
  keys : ∀ x ∈ xs, H x.2.1 = some (.tup (x.1.map leafV))
  nd : (xs.map (·.1)).Nodup
  low : (d == sysModules) = false
theorem TkAt.mono {P : Program} {w : World} {H H' : Hp} {d : Addr} {xs : List Ent} {es : Array DictEntry} {ep : Nat} (T : TkAt P w H d xs es ep) (k : ∀ b o, H b = some o → (∀ ps, o ≠ .tbl ps) → H' b = some o) : TkAt P w H' d xs es ep :=
  ⟨k _ _ T.at_ (fun ps z => by unfold TkO at z; cases z), T.dat, fun x hx => k _ _ (T.keys x hx) (fun ps z => by cases z), T.nd, T.low⟩

theorem leaf_is {P : Program} {w : World} {k : Leaf} {u : Value} (h : RelV (leafV k) u) : (leafKind P w).is k u = true := by
  cases k with
  | none =>
    cases h
    rfl
  | num i =>
    obtain ⟨t, rfl⟩ := h
    show decide (i = i) = true
    exact decide_eq_true rfl
  | text z =>
    obtain ⟨t, rfl⟩ := h
    show (Value.str z t).isStrOf z = true
    simp [Value.isStrOf]
theorem leaves_are {P : Program} {w : World} : ∀ {ks : List Leaf} {us : List Value}, Vals (ks.map leafV) us → ItemsAre (leafKind P w) ks us
  | [], _, r => by
    cases r
    exact .nil
  | k :: ks, _, r => by
    cases r with
    | cons h t => exact .cons (leaf_is h) (leaves_are t)
theorem is_key {P : Program} {w : World} {H : Hp} {h : Heap} {a : Addr} {ks : List Leaf} (ok : HOk P w H h) (e : H a = some (.tup (ks.map leafV))) : (kd P w).is h ks a := by
  obtain ⟨_, its, r, o, g1, g2, n, g3⟩ := (show ObjOk P w H h a (.tup (ks.map leafV)) from ok a _ e)
  refine ⟨o, its.toArray, n, g1, g2, g3, ?_⟩
  rw [List.toList_toArray]
  exact leaves_are r
theorem ents_of {xs : List Ent} {ys : List (List Leaf × Addr × Value)} (r : Paired EntR xs ys) : ys.map (·.1) = xs.map (·.1) := by
  induction r with
  | nil => rfl
  | cons h t ih => rw [List.map_cons, List.map_cons, ih, h.1]
theorem mem_of {xs : List Ent} {ys : List (List Leaf × Addr × Value)} (r : Paired EntR xs ys) : ∀ y ∈ ys, ∃ x ∈ xs, EntR x y := by
  induction r with
  | nil => intro y hy; cases hy
  | @cons p q ps qs h t ih =>
    intro y hy
    rcases List.mem_cons.mp hy with e | hy
    · exact ⟨p, List.mem_cons_self, by rw [e]; exact h⟩
    · obtain ⟨x, hx, z⟩ := ih y hy
      exact ⟨x, List.mem_cons_of_mem _ hx, z⟩
theorem get_of {xs : List Ent} {ys : List (List Leaf × Addr × Value)} (r : Paired EntR xs ys) : ∀ {i : Nat} {x : Ent}, xs[i]? = some x → ∃ y, ys[i]? = some y ∧ EntR x y := by
  induction r with
  | nil => intro i x h; simp at h
  | @cons p q ps qs h t ih =>
    intro i x hx
    cases i with
    | zero =>
      cases hx
      exact ⟨q, rfl, h⟩
    | succ i => exact ih hx
theorem snoc_of {xs : List Ent} {ys : List (List Leaf × Addr × Value)} {p : Ent} {q : List Leaf × Addr × Value} (r : Paired EntR xs ys) (h : EntR p q) : Paired EntR (xs ++ [p]) (ys ++ [q]) := by
  induction r with
  | nil => exact .cons h .nil
  | cons h' t ih => exact .cons h' ih

section
variable {X : Cx} {pins : List (Addr × Obj)} {σ : L2.St} {H : Hp} {s : Shared} {d b : Addr} {k : List Leaf} {xs : List Ent} {es : Array DictEntry} {ep : Nat}
theorem TkAt.of (I : Inv X pins σ H s) (T : TkAt X.prog X.w H d xs es ep) : ∃ ys, Paired EntR xs ys ∧ s.heap.DictOfH (kd X.prog X.w) d ys ∧ es.toList = ys.map (entryOfKey (kd X.prog X.w)) := by
  obtain ⟨o, e1, e2, e3⟩ := (I.hok d _ T.at_).1
  obtain ⟨ys, h1, h2⟩ := T.dat
  refine ⟨ys, h2, ⟨o, es, ep, e1, e2, e3, h1, fun y hy => ?_, ?_⟩, h1⟩
  · obtain ⟨x, hx, e, e', _⟩ := mem_of h2 y hy
    rw [← e, ← e']
    exact is_key I.hok (T.keys x hx)
  · rw [ents_of h2]
    exact T.nd
/-- d[k], k a key -/
def rTk (P : Program) (w : World) : R2 := fun x y H Q => ∃ (d b : Addr) (xs : List Ent) (es : Array DictEntry) (ep : Nat) (k : List Leaf) (a : Addr) (v : V), x = .ref d ∧ y = .ref b ∧ TkAt P w H d xs es ep ∧ H b = some (.tup (k.map leafV)) ∧ (k, a, v) ∈ xs ∧ Q v H
theorem ix_tk (hu : X.A.units + 1 < cLine) : IxR X (rTk X.prog X.w) := by
  intro value slice pins s σ H x y v u Q I rx ry h hs
  obtain ⟨d, b, xs, es, ep, k, a, v0, rfl, rfl, T, hb, hk, q⟩ := h
  cases rx
  cases ry
  obtain ⟨ys, rel, D, _⟩ := T.of I
  obtain ⟨i, hi⟩ := List.getElem?_of_mem hk
  obtain ⟨⟨k', a', u'⟩, hy, e1, e2, e3⟩ := get_of rel hi
  cases e1
  have hat := atKey_of_get (by rw [ents_of rel]; exact T.nd) hy
  exact tail_any D.typeIs slot_dict_getitem.lookup (wpAny_getItem_heap (tupleKind_room_in1 hu) (is_key I.hok hb) D hat ⟨v0, H, I.tok _, e3, q⟩) hs

/-- d[k] = v, k no key before -/
def sTkPut (P : Program) (w : World) (td ty tv : TE) : TS := fun D σ H => tv σ H fun v H1 => td σ H1 fun x H2 => ty σ H2 fun y H3 => ∃ (d b : Addr) (xs : List Ent) (k : List Leaf), x = .ref d ∧ y = .ref b ∧
  ((H3 d = some (.dT []) ∧ xs = []) ∨ ∃ es ep, TkAt P w H3 d xs es ep) ∧ H3 b = some (.tup (k.map leafV)) ∧ k ∉ xs.map (·.1) ∧ xs.length ≤ 1000 ∧ ∀ es ep, TkAt P w (upd H3 d (TkO d es ep)) d (xs ++ [(k, b, v)]) es ep → D.nx σ (upd H3 d (TkO d es ep))
theorem ps_tkput {o i value : Expr} {pos pos' : Pos} {td ty tv : TE} (hu : X.A.units + 1 < cLine) (ho : PE X o td) (hi : PE X i ty) (hv : PE X value tv) (hs : swapsWith value (some (.Subscript o i pos')) pos.line X.env = pure false := by rfl) :
    PS X (.Assign [.Subscript o i pos'] value pos) (sTkPut X.prog X.w td ty tv) := by
  constructor
  intro pins s σ H D I h
  refine wpAny_Assign_Subscript (thn (hv.run pins s σ H _ I h) fun r s1 ⟨v, H1, I1, rv, q1⟩ => thn (ho.run pins s1 σ H1 _ I1 q1) fun u s2 ⟨x, H2, I2, rx, q2⟩ => thn (hi.run pins s2 σ H2 _ I2 q2) fun iv s3 ⟨y, H3, I3, ry, d, b, xs, k, ex, ey, hd, hb, hk, hl, q3⟩ => ?_) hs
  subst ex
  subst ey
  cases rx
  cases ry
  have nbd : ∀ c xs', H3 c = some (.tup xs') → c ≠ d := fun c xs' e z => by
    rw [z] at e
    rcases hd with ⟨e', _⟩ | ⟨es, ep, T⟩
    · rw [e'] at e
      cases e
    · have e' := T.at_
      rw [e] at e'
      unfold TkO at e'
      cases e'
  have start : ∃ ys, Paired EntR xs ys ∧ s3.heap.DictOfH (kd X.prog X.w) d ys ∧ (d == sysModules) = false ∧ (xs.map (·.1)).Nodup ∧ (∀ x ∈ xs, H3 x.2.1 = some (.tup (x.1.map leafV))) ∧ Mut (H3 d) := by
    rcases hd with ⟨e', rfl⟩ | ⟨es, ep, T⟩
    · obtain ⟨_, hlow, ys0, r0, o, es0, ep0, g1, g2, g3, g4, g5, g6⟩ := dt_of I3.hok e'
      cases r0
      refine ⟨[], .nil, ⟨o, es0, ep0, g1, g2, g3, g4, (fun y hy => by cases hy), List.nodup_nil⟩, hlow, List.nodup_nil, (fun x hx => by cases hx), ?_⟩
      rw [e']
      trivial
    · obtain ⟨ys, r, D, _⟩ := T.of I3
      refine ⟨ys, r, D, T.low, T.nd, T.keys, ?_⟩
      rw [T.at_]
      trivial
  obtain ⟨ys, rel, DD, hlow, hnd, hks, hmut⟩ := start
  have hno : atKey ys k = none := by
    cases q : atKey ys k with
    | none => rfl
    | some p =>
      unfold atKey at q
      obtain ⟨y, hy, _⟩ := Option.map_eq_some_iff.mp q
      have e : y.1 = k := by
        have z := List.find?_some hy
        exact of_decide_eq_true z
      exact absurd (List.mem_map.mpr ⟨y, List.mem_of_find?_eq_some hy, e⟩) (by rw [ents_of rel]; exact hk)
  have hlen : ys.length ≤ sizeLine := by
    rw [← Paired.length rel]
    have : (1000 : Nat) ≤ sizeLine := by rw [sizeLine_eq]; decide
    omega
  refine wpAny_setItem_heap (tupleKind_room_in1 hu) (is_key I3.hok hb) DD (fun h' DD' sb => ?_) hlen
  rw [storedH_new hno] at DD'
  obtain ⟨o, es, ep, g1, g2, g3, g4, g5, g6⟩ := DD'
  have J := d_write (t' := s3.toks + (kd X.prog X.w).draws k) (ob := TkO d es ep) I3 hmut sb ⟨o, g1⟩ ⟨⟨o, g1, g2, g3⟩, ⟨o, g1⟩, fun h1 h2 ⟨o', f1, f2⟩ st => ⟨o', st _ f1, f2⟩⟩
  refine ⟨σ, _, J, q3 es ep ⟨upd_same, ⟨_, g4, snoc_of rel ⟨rfl, rfl, rv⟩⟩, fun x hx => ?_, ?_, hlow⟩⟩
  · have hx' : H3 x.2.1 = some (.tup (x.1.map leafV)) := by
      rcases List.mem_append.mp hx with hx | hx
      · exact hks x hx
      · rw [List.mem_singleton.mp hx]
        exact hb
    rw [upd_ne (nbd _ _ hx')]
    exact hx'
  · rw [List.map_append]
    exact List.nodup_append.mpr ⟨hnd, by simp, fun a ha b hb z => by
      have e := List.mem_singleton.mp hb
      rw [z, e] at ha
      exact hk ha⟩

/-! ### for k in d -/
def ItTk (P : Program) (w : World) (d : Addr) (xs : List Ent) (es : Array DictEntry) (ep : Nat) : It where
  go := fun i H => TkAt P w H d xs es ep ∧ i < xs.length
  yld := fun i H x H' => H' = H ∧ ∃ k b v, xs[i]? = some (k, b, v) ∧ x = .ref b ∧ H b = some (.tup (k.map leafV))
  stop := fun i H => TkAt P w H d xs es ep ∧ xs.length ≤ i
theorem turn_tk {tg : Expr} (it : Addr) : Turn X.prog X.w X.K tg (ItTk X.prog X.w d xs es ep) [it] it (fun i h => h.IsKeyIter it d i xs.length ep) where
  mem := List.mem_singleton.mpr rfl
  obj := fun i h st b hb => by
    rw [List.mem_singleton.mp hb]
    obtain ⟨oi, e, c, dd⟩ := st
    refine ⟨oi, e, fun v z => ?_⟩
    rw [dd] at z
    cases z
  keep := fun i h h' st k => st.at fun oi e => k it (List.mem_singleton.mpr rfl) oi e
  item := by
    intro Y hP hw hK hc i pins s σ H E I hf st hg
    obtain ⟨T, hi⟩ := hg
    obtain ⟨f0, f1, f2, f3, f4, f5⟩ := hf it (List.mem_singleton.mpr rfl)
    rw [← hP, ← hw] at T ⊢
    obtain ⟨ys, rel, _, hes⟩ := T.of I
    obtain ⟨o, e1, e2, e3⟩ := (I.hok d _ T.at_).1
    obtain ⟨⟨k', a', u'⟩, hy, g1, g2, g3⟩ := get_of rel (List.getElem?_eq_getElem hi)
    have hsz : es.size = xs.length := by
      rw [← Array.length_toList, hes, List.length_map, Paired.length rel]
    have hen : es[i]? = some (entryOfKey (kd Y.prog Y.w) (k', a', u')) := by
      rw [← Array.getElem?_toList, hes, List.getElem?_map, hy]
      rfl
    refine next_key_item st e1 e3 hsz hen fun h' st' sb => ?_
    have I1 : Inv Y pins σ H { s with heap := h' } := I.turned (t' := s.toks) (fun b ob hb e => (sb.2 b hb).trans e) f0 f1 f3 f4 f5
    obtain ⟨oi, e, c, dd⟩ := id st'
    refine ⟨_, rfl, go_of (s := { s with heap := h' }) e c dd (by decide) ⟨.ref a', H, I1, rfl, ⟨rfl, _, _, _, List.getElem?_eq_getElem hi, ?_, ?_⟩, st', fun b hb => (hf b hb).1⟩⟩
    · exact congrArg V.ref g2.symm
    · exact T.keys _ (List.getElem_mem hi)
  done := by
    intro Y hP hw hK hc i pins s σ H E I hf st hg
    obtain ⟨T, hi⟩ := hg
    obtain ⟨f0, f1, f2, f3, f4, f5⟩ := hf it (List.mem_singleton.mpr rfl)
    rw [← hP, ← hw] at T ⊢
    obtain ⟨ys, rel, _, hes⟩ := T.of I
    obtain ⟨o, e1, e2, e3⟩ := (I.hok d _ T.at_).1
    have hsz : es.size = xs.length := by
      rw [← Array.length_toList, hes, List.length_map, Paired.length rel]
    exact next_key_end (I.ok.hd hc) st e1 e3 hsz hi fun h' eb => ⟨rfl, I.turned (t' := s.toks) (fun b ob hb e => eb b ob hb e) f0 f1 f3 f4 f5⟩
  self := fun A i s Q E st h => by
    refine wpAny_pyIter_slot st.typeIs F.slot_dict_keyiterator_iter (wpAny_call_entry F.slot_dict_keyiterator_iter st.typeIs F.entry_dict_keyiterator_iter (show wpAny _ _ (ret (.ref it)) _ _ s from ?_) (F.args_dict_keyiterator_iter_1 _))
    exact wpAny_pure ⟨_, rfl, "dict_keyiterator", _, st.typeIs, F.slot_dict_keyiterator_next.lookup, h⟩
def iTk (P : Program) (w : World) (td : TE) : TI := fun σ H R => td σ H fun x H1 => ∃ (d : Addr) (xs : List Ent) (es : Array DictEntry) (ep : Nat), x = .ref d ∧ TkAt P w H1 d xs es ep ∧ R (ItTk P w d xs es ep) H1
theorem pi_tk {tg e : Expr} {td : TE} (he : PE X e td) : PI X tg e (iTk X.prog X.w td) := by
  constructor
  intro pins s σ H R I h
  refine thn (he.run pins s σ H _ I h) fun u s1 ⟨x, H1, I1, rx, d, xs, es, ep, ex, T, q⟩ => ?_
  subst ex
  cases rx
  obtain ⟨ys, rel, _, hes⟩ := T.of I1
  obtain ⟨o, e1, e2, e3⟩ := (I1.hok d _ T.at_).1
  have hsz : es.size = xs.length := by
    rw [← Array.length_toList, hes, List.length_map, Paired.length rel]
  refine iter_keys T.low e1 e2 e3 (pi_one (tk := s1.toks) I1 _ (turn_tk _) ⟨_, Heap.get?_push_size _ rfl, rfl, ?_⟩ q)
  rw [hsz] <;> rfl
end
end TK

set_option Elab.async false
set_option linter.all false
set_option maxRecDepth 100000
set_option maxHeartbeats 2000000
/-! enumerate of a tuple, zip of a list and a tuple, over the hand layer. -/
namespace EZ
open PySem PySem.Spec L2
open PyProof.Rows

/-! ### what hands out new pairs, by PyProof.WalksT -/
theorem turn_of {P : Program} {w : World} {K : PySem.W.Frag} {elts : List Expr} {kk : Nat} {tpos : Pos} {J : It} {it : Addr} {fp : List Addr} {tn : Nat → Heap → Prop} (mem : it ∈ fp)
    (obj : ∀ i h, tn i h → ∀ b ∈ fp, ∃ o, h.get? b = some o ∧ ∀ v : Option Value, o.data ≠ .cell v) (keep : ∀ i h h', tn i h → (∀ b ∈ fp, ∀ o, h.get? b = some o → h'.get? b = some o) → tn i h')
    (self : ∀ (A : Around) (i : Nat) (s : Shared) (Q E : Value → Shared → Prop), tn i s.heap → Q (.ref it) s → wpAny (model P w) A (pyIter (.ref it)) Q E s)
    (go : ∀ (X : Cx) (i : Nat) (pins : List (Addr × Obj)) (s : Shared) (σ : L2.St) (H : Hp), X.prog = P → X.w = w → X.K = K → X.A.handled = none → Inv X pins σ H s → tn i s.heap → J.go i H →
      ∃ (fpW wr : List Addr) (n : Nat) (Pt : Nat → Array Value → Prop) (St : Nat → Heap → Prop) (Mid : Nat → Addr → Heap → Prop), WalksT P w X.A it fpW wr n Pt St Mid ∧ i < n ∧ St i s.heap ∧ (∀ b ∈ wr, b ∈ fp) ∧ (∀ h, St (i + 1) h → tn (i + 1) h) ∧
        ∀ vals, Pt i vals → ∃ ys, Vals ys vals.toList ∧ ys.length ≤ 15 ∧ ∀ T, H T = none → J.yld i H (.ref T) (upd H T (.tup ys)))
    (stop : ∀ (X : Cx) (i : Nat) (pins : List (Addr × Obj)) (s : Shared) (σ : L2.St) (H : Hp), X.prog = P → X.w = w → X.K = K → X.A.handled = none → Inv X pins σ H s → tn i s.heap → J.stop i H →
      ∃ (fpW wr : List Addr) (n : Nat) (Pt : Nat → Array Value → Prop) (St : Nat → Heap → Prop) (Mid : Nat → Addr → Heap → Prop), WalksT P w X.A it fpW wr n Pt St Mid ∧ St n s.heap ∧ ∀ b ∈ wr, b ∈ fp) :
    Turn P w K (.Tuple elts kk tpos) J fp it tn where
  mem := mem
  obj := obj
  keep := keep
  self := self
  item := by
    intro X hP hw hK hc i pins s σ H E I hf st hg
    obtain ⟨fpW, wr, n, Pt, St, Mid, W, hi, hst, hwr, nxt, hy⟩ := go X i pins s σ H hP hw hK (I.ok.hd hc) I st hg
    refine W.item i s _ _ hi hst fun T vals h' tk hp hnew hT hm hk => ⟨_, rfl, W.go _ _ _ i T { s with heap := h', toks := tk } _ _ hm fun h2 st2 hk2 => ?_⟩
    obtain ⟨ys, rv, hl, hyl⟩ := hy vals hp
    have nT : H T = none := I.hok.fresh hnew
    have hT2 : h2.IsTuple T vals := hT.at fun o e => hk2 T o (W.apart i T h' hm) e
    have new : ObjOk X.prog X.w (upd H T (.tup ys)) h2 T (.tup ys) := by
      refine ⟨Nat.le_trans hl (by rw [sizeLine_eq]; decide), vals.toList, rv, ?_⟩
      exact hT2
    have I1 := I.turnedNew (t' := tk) (ch := fp) (fun b o hb q => hk2 b o (fun z => hb (hwr b z)) (hk b o (fun z => hb (hwr b z)) q)) hf hnew new
    refine ⟨.ref T, _, I1, rfl, hyl T nT, nxt _ st2, fun b hb => ?_⟩
    obtain ⟨ob, e, _⟩ := obj i _ st b hb
    have ne : b ≠ T := fun z => by
      have lt := Heap.lt_size e
      rw [z] at lt
      exact Nat.not_le_of_lt lt hnew
    rw [upd_ne ne]
    exact (hf b hb).1
  done := by
    intro X hP hw hK hc i pins s σ H E I hf st hg
    obtain ⟨fpW, wr, n, Pt, St, Mid, W, hst, hwr⟩ := stop X i pins s σ H hP hw hK (I.ok.hd hc) I st hg
    exact W.done s _ _ hst fun h' tk hk => ⟨rfl, I.turnedL (t' := tk) (ch := fp) (fun b o hb q => hk b o (fun z => hb (hwr b z)) q) hf⟩

/-! ### enumerate(t) -/
theorem meets_enum1 {v : Value} {o : Obj} {H : Heap → Prop} (B : Begins v o H) :
    Meets (Builtin.«enumerate.__new__» ⟨[.type "enumerate", v], []⟩) (fun _ R s => H s.heap ∧ R (.ok (.ret (.ref (s.heap.push o).objs.size))) { s with heap := (s.heap.push o).push { cls := .type "enumerate", data := .fields #[.none, .bool false, .ref s.heap.objs.size, rawInt 0, .none, .none] } }) :=
  .of_wp fun prog w A R s h => by
    obtain ⟨hp, g, d, tk, os⟩ := s
    obtain ⟨h1, h⟩ := h
    have hsub := sub_enumerate
    have q1 : ∀ {A' : Around} {E Q : Value → Shared → Prop}, Q (.ref hp.objs.size) ⟨hp.push o, g, d, tk, os⟩ → wpAny (model prog w) A' (pyIter v) Q E ⟨hp, g, d, tk, os⟩ := fun q => B.iter prog w _ _ ⟨hp, g, d, tk, os⟩ _ h1 q
    wp_walk using q1
    refine wpAny_stack_any fun st => wpAny_pure ?_
    split
    · rename_i c _ _ _ _ _
      cases (c == Value.type "enumerate") <;> (wp_walk using q1; exact ⟨_, rfl, h⟩)
    · wp_walk using q1
      exact ⟨_, rfl, h⟩
section
variable {prog : Program} {w : World} {A : Around} {E : Value → Shared → Prop} {s : Shared}
theorem call_enum1 {v : Value} {o : Obj} {H : Heap → Prop} {Q : Value → Shared → Prop} (B : Begins v o H) (h1 : H s.heap)
    (h : ∀ h', IsEnum h' (s.heap.objs.size + 1) s.heap.objs.size 0 .none → h'.get? s.heap.objs.size = some o → (∀ b o, s.heap.get? b = some o → h'.get? b = some o) → Q (.ref (s.heap.objs.size + 1)) { s with heap := h' }) :
    wpAny (model prog w) A (call (.type "enumerate") [v]) Q E s := by
  refine callType_new F.called_enumerate (by decide) (F.typeCall_enumerate_1 _) (F.newCall_enumerate_1 _) (fun obj => F.args_object_init_2 obj _) F.entry_enumerate_new (meets_enum1 B) ⟨h1, ?_⟩
  have hz : (s.heap.push o).objs.size = s.heap.objs.size + 1 := Heap.size_push ..
  have he := Heap.get?_push_size (s.heap.push o) (o := { cls := .type "enumerate", data := .fields #[.none, .bool false, .ref s.heap.objs.size, rawInt 0, .none, .none] }) rfl
  rw [hz] at he
  show _ ∧ _
  rw [hz]
  exact ⟨⟨_, he, rfl⟩, h _ he (Heap.get?_push_of_some _ (Heap.get?_push_size _ B.free)) fun b o x => Heap.get?_push_of_some _ (Heap.get?_push_of_some _ x)⟩
end
def IteT (K : PySem.W.Frag) (a : Addr) (xs : List V) : It :=
  ⟨fun i H => SqT K H a xs ∧ i < xs.length, fun i H v H' => ∃ T x, v = .ref T ∧ H T = none ∧ H' = upd H T (.tup [.int (i : Nat), x]) ∧ xs[i]? = some x, fun i H => SqT K H a xs ∧ i = xs.length⟩
theorem vals_at {xs : List V} {us : List Value} (r : Vals xs us) {i : Nat} {u : Value} (h : us[i]? = some u) : ∃ x, xs[i]? = some x ∧ RelV x u := by
  induction r generalizing i with
  | nil => simp at h
  | cons a t ih =>
    cases i with
    | zero =>
      cases h
      exact ⟨_, rfl, a⟩
    | succ i => exact ih h
theorem turn_enumT {P : Program} {w : World} {K : PySem.W.Frag} {elts : List Expr} {kk : Nat} {tpos : Pos} {a e it : Addr} {xs : List V} :
    Turn P w K (.Tuple elts kk tpos) (IteT K a xs) [e, it] e (fun i h => (∃ old, IsEnum h e it ((i : Nat) : Int) old) ∧ h.IsTupleIter it a i ∧ e ≠ it) := by
  have walk : ∀ (X : Cx) (pins : List (Addr × Obj)) (s : Shared) (σ : L2.St) (H : Hp) (i : Nat), X.prog = P → X.w = w → X.K = K → X.A.handled = none → Inv X pins σ H s → SqT K H a xs → ((∃ old, IsEnum s.heap e it ((i : Nat) : Int) old) ∧ s.heap.IsTupleIter it a i ∧ e ≠ it) →
      ∃ its : List Value, Vals xs its ∧ s.heap.IsTuple a its.toArray ∧ e ≠ a ∧ it ≠ a ∧ Draws P w X.A.in1 it [it, a] its.toArray.size (fun i v => its.toArray[i]? = some v) (fun i h => h.IsTupleIter it a i ∧ h.IsTuple a its.toArray) := by
    intro X pins s σ H i hP hw hK hh I hq st
    subst hP
    subst hw
    subst hK
    obtain ⟨⟨old, he⟩, hi, hne⟩ := st
    obtain ⟨its, rv, p, _⟩ := I.tuple hq
    have pa : s.heap.IsTuple a its.toArray := p
    obtain ⟨o1, g1, c1, _⟩ := id pa
    obtain ⟨o2, g2, c2, _⟩ := id hi
    have n1 : e ≠ a := fun z => by
      rw [z] at he
      have w := Option.some.inj (he.symm.trans g1)
      rw [← w] at c1
      have c1' : Value.type "enumerate" = Value.type "tuple" := c1
      injection c1' with c2'
      exact absurd c2' (by decide)
    have n2 : it ≠ a := fun z => by
      rw [z, g1] at g2
      cases g2
      rw [c1] at c2
      exact absurd c2 (by decide)
    have hh1 : X.A.in1.handled = none := hh
    exact ⟨its, rv, pa, n1, n2, Draws.tuple hh1 it a n2.symm _⟩
  refine turn_of (List.mem_cons_self ..) (fun i h st b hb => ?_) (fun i h h' st k => ?_) (fun A i s Q E st h => ?_) (fun X i pins s σ H hP hw hK hh I st hg => ?_) (fun X i pins s σ H hP hw hK hh I st hg => ?_)
  · obtain ⟨⟨old, he⟩, ⟨o, ho, hc, hd⟩, _⟩ := st
    rcases List.mem_cons.mp hb with z | z
    · rw [z]
      exact ⟨_, he, fun v q => nomatch q⟩
    · rw [List.mem_singleton.mp z]
      refine ⟨o, ho, fun v q => ?_⟩
      rw [hd] at q
      cases q
  · obtain ⟨⟨old, he⟩, hi, hne⟩ := st
    exact ⟨⟨old, k e (List.mem_cons_self ..) _ he⟩, hi.at fun o q => k it (List.mem_cons_of_mem _ (List.mem_cons_self ..)) o q, hne⟩
  · obtain ⟨⟨old, he⟩, _⟩ := st
    exact wpAny_pyIter_enum he h
  · obtain ⟨hq, hi⟩ := hg
    obtain ⟨its, rv, pa, n1, n2, D⟩ := walk X pins s σ H i hP hw hK hh I hq st
    have hl := rv.length
    refine ⟨_, _, _, _, _, _, WalksT.enumFrom 0 D e st.2.2 (fun z => ?_) (List.mem_cons_self ..), by simpa using by omega, ⟨by simpa using st.1, st.2.1, pa⟩, fun b hb => hb, fun h z => ⟨by simpa using z.1, z.2.1, st.2.2⟩, fun vals ⟨t, u, hu, ev⟩ => ?_⟩
    · rcases List.mem_cons.mp z with z | z
      · exact st.2.2 z
      · exact n1 (List.mem_singleton.mp z)
    · obtain ⟨x, hx, rx⟩ := vals_at rv (by simpa using hu)
      refine ⟨[.int (i : Nat), x], ?_, (by show 2 ≤ 15; decide), fun T nT => ⟨T, x, rfl, nT, rfl, hx⟩⟩
      rw [ev]
      exact .cons ⟨t, by simp⟩ (.cons rx .nil)
  · obtain ⟨hq, hi⟩ := hg
    obtain ⟨its, rv, pa, n1, n2, D⟩ := walk X pins s σ H i hP hw hK hh I hq st
    have hl := rv.length
    refine ⟨_, _, _, _, _, _, WalksT.enumFrom 0 D e st.2.2 (fun z => ?_) (List.mem_cons_self ..), ?_, fun b hb => hb⟩
    · rcases List.mem_cons.mp z with z | z
      · exact st.2.2 z
      · exact n1 (List.mem_singleton.mp z)
    · have hn : its.toArray.size = i := by
        rw [List.size_toArray, ← hl, hi]
      rw [hn]
      exact ⟨by simpa using st.1, st.2.1, pa⟩
def iEnumT (K : PySem.W.Frag) (ta : TA) : TI := fun σ H R => ta σ H fun vs H1 => ∃ a xs, vs = [.ref a] ∧ SqT K H1 a xs ∧ R (IteT K a xs) H1
theorem pi_enumT {X : Cx} {e : Expr} {ta : TA} {p pos tpos : Pos} {elts : List Expr} {kk : Nat} (hg : Gl X "enumerate") (hm : X.mg "enumerate" = none) (ha : PA X [e] ta) (hs : starEach [e] X.env = [(false, eval e X.env)] := by rfl) :
    PI X (.Tuple elts kk tpos) (.Call (.Name "enumerate" p) [e] [] pos) (iEnumT X.K ta) := by
  constructor
  intro pins s σ H R I h
  refine Call_ (ld_blt I hg hm boot_enumerate (PyProof.Rows.callWith_type1 (thn (ha.run pos pins s σ H _ I h) fun us s1 ⟨vs, H1, I1, r1, a, xs, ex, hq, q⟩ => ?_) hs rfl))
  subst ex
  rcases r1 with _ | ⟨r, r0⟩
  cases r0
  cases r
  obtain ⟨its, rv, pa, _⟩ := I1.tuple hq
  refine call_enum1 (begins_tuple a its.toArray) (show s1.heap.IsTuple a its.toArray from pa) fun h' he hit hk => wpAny_pyIter_enum he ?_
  refine ⟨s1.heap.objs.size + 1, [s1.heap.objs.size + 1, s1.heap.objs.size], _, _, H1, rfl, I1.kept (t' := s1.toks) hk, turn_enumT, ⟨⟨.none, he⟩, ⟨_, hit, rfl, rfl⟩, Nat.succ_ne_self _⟩, fun b hb => ?_, q⟩
  have hle : s1.heap.objs.size ≤ b := by
    rcases List.mem_cons.mp hb with z | z
    · rw [z]
      exact Nat.le_succ _
    · rw [List.mem_singleton.mp z]
      exact Nat.le_refl _
  exact I1.fpOk hle (I1.hok.fresh hle)

/-! ### zip(l, t) -/
def ItzLT (K : PySem.W.Frag) (a b : Addr) (xs ys : List V) : It :=
  ⟨fun i H => SqL K H a xs ∧ SqT K H b ys ∧ i < xs.length, fun i H v H' => ∃ T x y, v = .ref T ∧ H T = none ∧ H' = upd H T (.tup [x, y]) ∧ xs[i]? = some x ∧ ys[i]? = some y, fun i H => SqL K H a xs ∧ SqT K H b ys ∧ i = xs.length⟩
theorem turn_zipLT {P : Program} {w : World} {K : PySem.W.Frag} {elts : List Expr} {kk : Nat} {tpos : Pos} {a b z TI TO i1 i2 : Addr} {xs ys : List V} (hlen : xs.length = ys.length) (S : ZipSep2 z TI TO i1 i2 [i1, a] [i2, b]) (na : a ≠ i1) (nb : b ≠ i2) :
    Turn P w K (.Tuple elts kk tpos) (ItzLT K a b xs ys) [z, TI, TO, i1, i2] z (fun i h => IsZip h z TI TO .none ∧ IsTupOf2 h TI (.ref i1) (.ref i2) ∧ (∃ x y, IsTupOf2 h TO x y) ∧ h.IsListIter i1 a i ∧ h.IsTupleIter i2 b i) := by
  have lists : ∀ (X : Cx) (pins : List (Addr × Obj)) (s : Shared) (σ : L2.St) (H : Hp), X.K = K → X.prog = P → X.w = w → X.A.handled = none → Inv X pins σ H s → SqL K H a xs → SqT K H b ys →
      ∃ us vs : List Value, Vals xs us ∧ Vals ys vs ∧ s.heap.IsList a us.toArray ∧ s.heap.IsTuple b vs.toArray ∧ us.length = xs.length ∧ vs.length = xs.length ∧
        WalksT P w X.A z (z :: TI :: TO :: ([i1, a] ++ [i2, b])) [z, TO, i1, i2] (min us.toArray.size vs.toArray.size) (fun i vals => ∃ x1 x2, us.toArray[i]? = some x1 ∧ vs.toArray[i]? = some x2 ∧ vals = #[x1, x2])
          (fun i h => IsZip h z TI TO .none ∧ IsTupOf2 h TI (.ref i1) (.ref i2) ∧ (∃ a1 a2, IsTupOf2 h TO a1 a2) ∧ (h.IsListIter i1 a i ∧ h.IsList a us.toArray) ∧ h.IsTupleIter i2 b i ∧ h.IsTuple b vs.toArray)
          (fun i T h => IsZip h z TI TO (rawInt T) ∧ IsTupOf2 h TI (.ref i1) (.ref i2) ∧ (∃ a1 a2, IsTupOf2 h TO a1 a2) ∧ (h.IsListIter i1 a (i + 1) ∧ h.IsList a us.toArray) ∧ (h.IsTupleIter i2 b (i + 1) ∧ h.IsTuple b vs.toArray) ∧ T ≠ z ∧ T ≠ TO ∧ T ≠ i1 ∧ T ≠ i2) := by
    intro X pins s σ H hK hP hw hh I h1 h2
    subst hK
    subst hP
    subst hw
    obtain ⟨us, ru, pu, _⟩ := I.list h1
    obtain ⟨vs, rv, pv, _⟩ := I.tuple h2
    have hh1 : X.A.in1.handled = none := hh
    exact ⟨us, vs, ru, rv, pu.isList, pv, ru.length.symm, by rw [← rv.length, hlen], WalksT.zipD2 S (Draws.list hh1 i1 a na _) (Draws.tuple hh1 i2 b nb _)⟩
  have sub5 : ∀ c ∈ [z, TO, i1, i2], c ∈ [z, TI, TO, i1, i2] := fun c hc => by
    simp only [List.mem_cons, List.not_mem_nil, or_false] at hc ⊢
    rcases hc with e | e | e | e
    · exact .inl e
    · exact .inr (.inr (.inl e))
    · exact .inr (.inr (.inr (.inl e)))
    · exact .inr (.inr (.inr (.inr e)))
  refine turn_of (List.mem_cons_self ..) (fun i h st c hc => ?_) (fun i h h' st k => ?_) (fun A i s Q E st h => wpAny_pyIter_zip st.1 h) (fun X i pins s σ H hP hw hK hh I st hg => ?_) (fun X i pins s σ H hP hw hK hh I st hg => ?_)
  · obtain ⟨hz, hTI, ⟨x, y, hTO⟩, ⟨o1, e1, _, d1⟩, ⟨o2, e2, _, d2⟩⟩ := st
    simp only [List.mem_cons, List.not_mem_nil, or_false] at hc
    rcases hc with q | q | q | q | q
    all_goals rw [q]
    · exact ⟨_, hz, fun v q => nomatch q⟩
    · exact ⟨_, hTI, fun v q => nomatch q⟩
    · exact ⟨_, hTO, fun v q => nomatch q⟩
    · exact ⟨o1, e1, fun v q => by rw [d1] at q; cases q⟩
    · exact ⟨o2, e2, fun v q => by rw [d2] at q; cases q⟩
  · obtain ⟨hz, hTI, ⟨x, y, hTO⟩, h1, h2⟩ := st
    have m : ∀ c, c = z ∨ c = TI ∨ c = TO ∨ c = i1 ∨ c = i2 → ∀ o, h.get? c = some o → h'.get? c = some o := fun c hc => k c (by simpa using hc)
    exact ⟨m z (.inl rfl) _ hz, m TI (.inr (.inl rfl)) _ hTI, ⟨x, y, m TO (.inr (.inr (.inl rfl))) _ hTO⟩, h1.at fun o q => m i1 (.inr (.inr (.inr (.inl rfl)))) o q, h2.at fun o q => m i2 (.inr (.inr (.inr (.inr rfl)))) o q⟩
  · obtain ⟨h1, h2, hi⟩ := hg
    obtain ⟨us, vs, ru, rv, pu, pv, lu, lv, W⟩ := lists X pins s σ H hK hP hw hh I h1 h2
    refine ⟨_, _, _, _, _, _, W, ?_, ⟨st.1, st.2.1, st.2.2.1, ⟨st.2.2.2.1, pu⟩, st.2.2.2.2, pv⟩, sub5, fun h z => ⟨z.1, z.2.1, z.2.2.1, z.2.2.2.1.1, z.2.2.2.2.1⟩, fun vals ⟨u1, u2, g1, g2, ev⟩ => ?_⟩
    · rw [List.size_toArray, List.size_toArray, lu, lv, Nat.min_self]
      exact hi
    · obtain ⟨x, hx, rx⟩ := vals_at ru (by simpa using g1)
      obtain ⟨y, hy, ry⟩ := vals_at rv (by simpa using g2)
      refine ⟨[x, y], ?_, (by show 2 ≤ 15; decide), fun T nT => ⟨T, x, y, rfl, nT, rfl, hx, hy⟩⟩
      rw [ev]
      exact .cons rx (.cons ry .nil)
  · obtain ⟨h1, h2, hi⟩ := hg
    obtain ⟨us, vs, ru, rv, pu, pv, lu, lv, W⟩ := lists X pins s σ H hK hP hw hh I h1 h2
    refine ⟨_, _, _, _, _, _, W, ?_, sub5⟩
    have hn : min us.toArray.size vs.toArray.size = i := by
      rw [List.size_toArray, List.size_toArray, lu, lv, Nat.min_self, hi]
    rw [hn]
    exact ⟨st.1, st.2.1, st.2.2.1, ⟨st.2.2.2.1, pu⟩, st.2.2.2.2, pv⟩
def iZipLT (K : PySem.W.Frag) (ta : TA) : TI := fun σ H R => ta σ H fun vs H1 => ∃ a b xs ys, vs = [.ref a, .ref b] ∧ SqL K H1 a xs ∧ SqT K H1 b ys ∧ xs.length = ys.length ∧ R (ItzLT K a b xs ys) H1
theorem pi_zipLT {X : Cx} {e e2 : Expr} {ta : TA} {p pos tpos : Pos} {elts : List Expr} {kk : Nat} (hg : Gl X "zip") (hm : X.mg "zip" = none) (ha : PA X [e, e2] ta) (hs : starEach [e, e2] X.env = (false, eval e X.env) :: starEach [e2] X.env := by rfl)
    (hpl : (backTo pos (starEach [e2] X.env)).any (·.1) = false := by rfl) : PI X (.Tuple elts kk tpos) (.Call (.Name "zip" p) [e, e2] [] pos) (iZipLT X.K ta) := by
  constructor
  intro pins s σ H R I h
  refine Call_ (ld_blt I hg hm PyProof.Rows.boot_zip (PyProof.Rows.callWith_type1 (thn (ha.run pos pins s σ H _ I h) fun us s1 ⟨vs, H1, I1, r1, a, b, xs, ys, ex, h1, h2, hl, q⟩ => ?_) hs hpl))
  subst ex
  rcases r1 with _ | ⟨ra, _ | ⟨rb, r0⟩⟩
  cases r0
  cases ra
  cases rb
  obtain ⟨us, ru, pu, _⟩ := I1.list h1
  obtain ⟨vs, rv, pv, _⟩ := I1.tuple h2
  have pv' : s1.heap.IsTuple b vs.toArray := pv
  have la : a < s1.heap.objs.size := pu.isList.elim fun o z => Heap.lt_size z.1
  have lb : b < s1.heap.objs.size := pv'.elim fun o z => Heap.lt_size z.1
  refine zip_begins2 (begins_list a us.toArray) (begins_tuple b vs.toArray) pu.isList pv' fun h' hz hTI hTO e1 e2 hsz hk => wpAny_pyIter_zip hz ?_
  have S : ZipSep2 (s1.heap.objs.size + 4) (s1.heap.objs.size + 2) (s1.heap.objs.size + 3) s1.heap.objs.size (s1.heap.objs.size + 1) [s1.heap.objs.size, a] [s1.heap.objs.size + 1, b] :=
    zip_sep2 (N := s1.heap.objs.size) (fun c hc => by rw [List.mem_singleton.mp hc]; exact la) (fun c hc => by rw [List.mem_singleton.mp hc]; exact lb)
  refine ⟨s1.heap.objs.size + 4, [s1.heap.objs.size + 4, s1.heap.objs.size + 2, s1.heap.objs.size + 3, s1.heap.objs.size, s1.heap.objs.size + 1], _, _, H1, rfl, I1.kept (t' := s1.toks) hk, turn_zipLT hl S (Nat.ne_of_lt la) (Nat.ne_of_lt (Nat.lt_succ_of_lt lb)),
    ⟨hz, hTI, ⟨_, _, hTO⟩, ⟨_, e1, rfl, rfl⟩, ⟨_, e2, rfl, rfl⟩⟩, fun c hc => ?_, q⟩
  have hle : s1.heap.objs.size ≤ c := by
    simp only [List.mem_cons, List.not_mem_nil, or_false] at hc
    rcases hc with q | q | q | q | q <;> rw [q] <;> first
      | exact Nat.le_add_right _ _
      | exact Nat.le_refl _
  exact I1.fpOk hle (I1.hok.fresh hle)
end EZ

set_option Elab.async false
set_option linter.all false
set_option maxRecDepth 100000
set_option maxHeartbeats 1000000
/-! Rules that the law's own text wants. -/
namespace K02
open PySem PySem.Spec L2
open PyProof.Rows GenW GxR EZ
open LamX (ExtN)
/-- repr of a reading -/
def rdS : Option Bool → Str
  | none => "None"
  | some b => toString (bitZ b)
theorem call_reprR {X : Cx} : CallR X (.builtin "repr") (fun xs H Q => ∃ r : Option Bool, xs = [rdV r] ∧ Q (.str (rdS r)) H) := by
  intro pins s σ H xs us Q I r h
  obtain ⟨o, rfl, q⟩ := h
  cases o with
  | none =>
    rcases r with _ | ⟨ra, r0⟩
    cases r0
    cases ra
    exact PySem.P.repr_of_none ⟨.str _, H, I.tok _, ⟨_, rfl⟩, q⟩
  | some b =>
    rcases r with _ | ⟨ra, r0⟩
    cases r0
    obtain ⟨t, rfl⟩ := ra
    exact PySem.P.repr_of_int (by cases b <;> decide) ⟨.str _, H, I.tok _, ⟨_, rfl⟩, q⟩
/-- f(k = v, ..) -/
theorem pe_callK0 {X : Cx} {CX : CXT} {k : Nat} {f : Addr} {fd : FuncData} {ps ks : List Str} {sp : Sp} {g : List Value → List Value → List Value} {gV : List V → List V → List V} {E : XK} {x : Str} {p pos : Pos} {kws : List Keyword} {tk : TA} (F : FnOk X.prog X.w X.K X.mg X.base CX k f fd ps sp) (hr : Room k X.A) (hg : Gl X x)
    (hm : X.mg x = some (.ref f)) (hk : PySem.W.keepIn X.K (.ref f) = true) (hb : KBinds X.K fd ps ks g gV) (hx : Passes CX X E) (hkw : PK X kws tk) (hall : (backToKw pos (keywordEach kws X.env)).all (·.1.isSome) = true := by rfl)
    (hks : (backToKw pos (keywordEach kws X.env)).filterMap (·.1) = ks := by rfl) (hdb : (x == ("__debug__" : Str)) = false := by decide) (hpl : ((backTo pos (starEach [] X.env)).any (·.1) || (backToKw pos (keywordEach kws X.env)).any (·.1.isNone)) = false := by rfl) :
    PE X (.Call (.Name x p) [] kws pos) (tCallK sp gV E tNil tk) := by
  constructor
  intro pins s σ H Q I h
  refine wpAny_Call_Name_kw (ld_glob I hg hm (PySem.W.callWith_KW0 (h₀ := X.base) I.ok.mod.kin hk hall (thn (hkw.run pos pins s σ H _ I h) fun ws s2 ⟨zs, H2, I2, rz, q2⟩ => ⟨I2.kIn, ?_⟩) hpl) hdb)
  rw [hks]
  exact run_fnk F hr hb hx I2 .nil rz q2
/-- no error leaves a call that has none -/
theorem passNone {X : Cx} : Passes (L2.CX X.prog X.w) X fun _ _ _ => False := fun _ _ _ _ _ _ _ c => by
  obtain ⟨_, _, _, _, _, _, _, _, _, _, _, _, z⟩ := c
  exact z.elim
end K02

set_option Elab.async false
set_option linter.all false
set_option maxRecDepth 100000
set_option maxHeartbeats 4000000
namespace TM
open PySem PySem.Spec PySem.Calls PyProof.Rows L2
theorem tuple_mul1 (l : Addr) (items : Array Value) (n : Nat) (dd : Option Addr) (sl : Array (Option Value)) (u : Tok) :
    Meets (Builtin.«tuple.__mul__» ⟨[.ref l, .int 1 u], []⟩) (fun _ R s => s.heap.get? l = some { cls := .type "tuple", dict := dd, data := .seq items n, slots := sl } ∧ R (.ok (.ret (.ref l))) s) :=
  .of_wp fun prog w A R s h => by
    obtain ⟨hp, g, d, tk, os⟩ := s
    obtain ⟨hl, h⟩ := h
    have f1 := AutoSeq1.idx_int
    wp_walk using wpAny_loadPart' hl
    exact ⟨_, rfl, h⟩
/-- t * k, k at least 1 (t * 1 is t itself) -/
def rRepA (K : PySem.W.Frag) : R2 := fun x y H Q => ∃ l k xs, x = .ref l ∧ y = .int k ∧ SqT K H l xs ∧ xs ≠ [] ∧ 1 ≤ k ∧ k ≤ 1000 ∧ xs.length ≤ 1000 ∧ (k = 1 → Q (.ref l) H) ∧ (2 ≤ k → ∀ p, H p = none → Q (.ref p) (upd H p (.tup (List.replicate k.toNat xs).flatten)))
theorem op_repA {X : Cx} : OpR X (binaryOp .Mult) (rRepA X.K) := by
  intro pins s σ H x y v u Q I rx ry h
  obtain ⟨l, k, xs, rfl, rfl, hT, hne, h1, h2, hz, q1, q2⟩ := h
  by_cases hk : k = 1
  · subst hk
    cases rx
    obtain ⟨t, rfl⟩ := ry
    obtain ⟨its, r, ⟨⟨cls, dd, data, sl⟩, ho, hc, n, hd⟩, hs⟩ := I.tuple hT
    simp only at hc hd
    subst hc
    subst hd
    exact wpAny_binaryOp_repeat_ref (T := "tuple") (U := "int") (by decide) ⟨_, ho, rfl⟩ (fun s' => typeIs_int s' 1 t) noFill_tuple_mul F.fills_int_mul F.slot_int_rmul repeat_tuple F.slot_int_index.lookup
      (call_meets F.slot_int_rmul (typeIs_int s 1 t) F.entry_int_rmul (F.args_int_rmul_2 _ _) (int_rmul_tuple 1 t l its.toArray n dd sl)
        ⟨ho, rfl, ⟨_, ho, rfl⟩, call_meets F.slot_tuple_mul ⟨_, ho, rfl⟩ F.entry_tuple_mul (F.args_tuple_mul_2 _ _) (tuple_mul1 l its.toArray n dd sl t) ⟨ho, ⟨.ref l, H, I, rfl, q1 rfl⟩⟩⟩)
  · exact op_repT pins s σ H (.ref l) (.int k) v u Q I rx ry ⟨l, k, xs, rfl, rfl, hT, hne, by omega, h2, hz, q2 (by omega)⟩
end TM

set_option Elab.async false
set_option linter.all false
set_option maxRecDepth 100000
set_option maxHeartbeats 1000000
/-! Kinds of values that stand in a heap. -/
namespace K02
open PySem PySem.Spec L2
open PyProof.Rows GenW GxR EZ TK
open LamX (ExtN)
def atomV : V → Bool
  | .non => true
  | .bl _ => true
  | .int _ => true
  | .str _ => true
  | _ => false
/-! ### types -/
section
variable {K : PySem.W.Frag} {H : Hp}
theorem ty_non : Ty1 K H .non "NoneType" := ⟨.base .non, by decide⟩
theorem ty_int (i : Int) : Ty1 K H (.int i) "int" := ⟨.base (.int i), by decide⟩
theorem ty_bl (b : Bool) : Ty1 K H (.bl b) "bool" := ⟨.base (.bl b), by decide⟩
theorem ty_str (z : Str) : Ty1 K H (.str z) "str" := ⟨.base (.str z), by decide⟩
theorem ty_tup {a : Addr} {xs : List V} (h : H a = some (.tup xs)) : Ty1 K H (.ref a) "tuple" := ⟨.base (.tup h), by decide⟩
theorem ty_lst {a : Addr} {xs : List V} (h : H a = some (.lst xs)) : Ty1 K H (.ref a) "list" := ⟨.base (.lst h), by decide⟩
theorem ty_dT {a : Addr} {xs : List (List L2.Key × V)} (h : H a = some (.dT xs)) : Ty1 K H (.ref a) "dict" := ⟨.base (.dT h), by decide⟩
theorem ty_rd (r : Option Bool) : ∃ t, Ty1 K H (rdV r) t := by
  cases r with
  | none => exact ⟨_, ty_non⟩
  | some b => exact ⟨_, ty_int _⟩
theorem bel_bitV (b : Bool) : bel (bitV b) 2 = true := by cases b <;> decide
theorem rdB_rdV (r : Option Bool) : rdB (rdV r) = true := by
  cases r with
  | none => rfl
  | some b => cases b <;> decide
variable {H' : Hp}
theorem atom_ty {y : V} (h : atomV y = true) : ∃ t, Ty1 K H y t := by
  cases y with
  | non => exact ⟨_, ty_non⟩
  | bl b => exact ⟨_, ty_bl b⟩
  | int i => exact ⟨_, ty_int i⟩
  | str z => exact ⟨_, ty_str z⟩
  | _ => cases h
theorem rep_all {α : Type} (f : α → Bool) (x : α) (n : Nat) (h : f x = true) : (List.replicate n x).all f = true := List.all_eq_true.mpr fun y hy => by
  rw [List.eq_of_mem_replicate hy]
  exact h
theorem rep_bad {α : Type} (f : α → Bool) (x : α) {n : Nat} (h : f x = false) (hn : 0 < n) : (List.replicate n x).all f = false := by
  cases n with
  | zero => cases hn
  | succ n =>
    rw [List.replicate_succ, List.all_cons, h]
    rfl
theorem repA_to {x : Addr} {v : V} {k : Int} {Q : VK} (hx : H x = some (.tup [v])) (h1 : 1 ≤ k) (h2 : k ≤ 1000) (q : ∀ p H', Same H H' → H' p = some (.tup (List.replicate k.toNat v)) → Q (.ref p) H') : TM.rRepA K (.ref x) (.int k) H Q := by
  refine ⟨x, k, [v], rfl, rfl, .inl (.inl hx), by simp, h1, h2, (by show 1 ≤ 1000; decide), fun z => ?_, fun _ p np => q p _ (same_new np) ?_⟩
  · refine q x H (fun _ _ e => e) ?_
    rw [z]
    exact hx
  · rw [upd_same, rep_one]
end
end K02

set_option Elab.async false
set_option linter.all false
set_option maxRecDepth 100000
set_option maxHeartbeats 1000000
/-! What stands between the turns of a law: the state of the draws, the tables. -/
namespace K02
open PySem PySem.Spec L2
open PyProof.Rows GenW GxR EZ TK CE LamX
theorem catA_to {K : PySem.W.Frag} {H : Hp} {x y : Addr} {xs ys : List V} {Q : VK} (hx : H x = some (.tup xs)) (hy : H y = some (.tup ys)) (hl : xs.length + ys.length ≤ 1000) (q : ∀ p H', Same H H' → H' p = some (.tup (xs ++ ys)) → Q (.ref p) H') : rCatA K (.ref x) (.ref y) H Q := by
  refine ⟨x, y, xs, ys, rfl, rfl, .inl (.inl hx), .inl (.inl hy), Nat.le_of_lt (small1000 hl), fun z => ?_, fun _ z => ?_, fun _ _ p np => q p _ (same_new np) upd_same⟩
  · refine q y H (fun _ _ e => e) ?_
    rw [z]
    exact hy
  · refine q x H (fun _ _ e => e) ?_
    rw [z, List.append_nil]
    exact hx
/-- the name of the law's lambdas -/
abbrev lawQ : Str := ("law" ++ ".<locals>.") ++ "<lambda>"
/-- the heap without what the draws write -/
def hid (st lg : Addr) (H : Hp) : Hp := fun b => if b = st ∨ b = lg then none else H b
theorem hid_at {st lg b : Addr} {H : Hp} (n1 : b ≠ st) (n2 : b ≠ lg) : hid st lg H b = H b := by
  unfold hid
  rw [if_neg (by rintro (z | z); exact n1 z; exact n2 z)]
theorem hid_tup {st lg cl b : Addr} {H : Hp} {t : Nat} {xs : List V} (S : StOk H st lg cl t) (e : H b = some (.tup xs)) : hid st lg H b = some (.tup xs) := by
  obtain ⟨ls, cs, left, turn, S⟩ := S
  rw [hid_at (fun z => by rw [z, S.d] at e; cases e) (fun z => by rw [z, S.l] at e; cases e)]
  exact e
theorem hid_ext {st lg : Addr} {H H' : Hp} (U : But st lg H H') : ExtN (hid st lg H) H' := fun b o e _ => by
  unfold hid at e
  by_cases h : b = st ∨ b = lg
  · rw [if_pos h] at e
    cases e
  · rw [if_neg h] at e
    exact U b o e (fun z => h (.inl z)) (fun z => h (.inr z))
/-- what stands between the turns -/
structure Between (st lg cl Pl : Addr) (TT : List Addr) (H : Hp) (t : Nat) : Prop where
  s : StOk H st lg cl t
  tt : TabsG TT H
  tl : LamX.TabS H Pl lawQ
theorem Between.same {st lg cl Pl : Addr} {TT : List Addr} {H H' : Hp} {t : Nat} (B : Between st lg cl Pl TT H t) (k : Same H H') : Between st lg cl Pl TT H' t := ⟨B.s.keep k, (Ex.same k).tabs B.tt, B.tl.ext k⟩
theorem codeO_st {c : Addr} {q : Str} : (∀ kvs, CodeO c q ≠ .dK kvs) ∧ ∀ xs, CodeO c q ≠ .lst xs := by
  unfold CodeO
  exact ⟨fun _ z => (by cases z), fun _ z => (by cases z)⟩
theorem But.keepO {st lg cl : Addr} {H H' : Hp} {t : Nat} {b : Addr} {o : HO} (U : But st lg H H') (S : StOk H st lg cl t) (e : H b = some o) (n1 : ∀ kvs, o ≠ .dK kvs) (n2 : ∀ xs, o ≠ .lst xs) : H' b = some o := by
  obtain ⟨ls, cs, left, turn, S⟩ := S
  refine U b o e (fun z => ?_) (fun z => ?_)
  · rw [z, S.d] at e
    exact n1 _ (Option.some.inj e).symm
  · rw [z, S.l] at e
    exact n2 _ (Option.some.inj e).symm
theorem Between.but {st lg cl Pl : Addr} {TT : List Addr} {H H' : Hp} {t t' : Nat} (B : Between st lg cl Pl TT H t) (S' : StOk H' st lg cl t') (U : But st lg H H') : Between st lg cl Pl TT H' t' := by
  refine ⟨S', fun P hP => ?_, ?_⟩
  · obtain ⟨ps, e, r⟩ := B.tt P hP
    exact ⟨ps, U.keepO B.s e (fun _ z => by cases z) (fun _ z => by cases z), r⟩
  · obtain ⟨ps, e, r, ce⟩ := B.tl
    refine ⟨ps, U.keepO B.s e (fun _ z => by cases z) (fun _ z => by cases z), r, fun pos cv h => ?_⟩
    obtain ⟨c, e1, e2⟩ := ce pos cv h
    exact ⟨c, e1, U.keepO B.s e2 codeO_st.1 codeO_st.2⟩
/-- all but d and the tables TT is as it was -/
def FR (d : Addr) (TT : List Addr) (H H' : Hp) : Prop := ∀ b o, b ≠ d → b ∉ TT → H b = some o → H' b = some o
theorem FR.refl (d : Addr) (TT : List Addr) (H : Hp) : FR d TT H H := fun _ _ _ _ e => e
theorem FR.same {d : Addr} {TT : List Addr} {H H1 H2 : Hp} (a : FR d TT H H1) (k : Same H1 H2) : FR d TT H H2 := fun b o n m e => k _ _ (a b o n m e)
theorem FR.ex {d : Addr} {TT : List Addr} {H H1 H2 : Hp} (a : FR d TT H H1) (k : Ex TT H1 H2) : FR d TT H H2 := fun b o n m e => k.keep _ _ m (a b o n m e)
theorem FR.upd {d : Addr} {TT : List Addr} {H H1 : Hp} {o : HO} (a : FR d TT H H1) : FR d TT H (upd H1 d o) := fun b x n m e => by
  rw [upd_ne n]
  exact a b x n m e
theorem notTT {TT : List Addr} {H : Hp} (t : TabsG TT H) {b : Addr} {o : HO} (e : H b = some o) (n : ∀ ps, o ≠ .tbl ps) : b ∉ TT := fun z => by
  obtain ⟨ps, g, _⟩ := t b z
  rw [g] at e
  exact n ps (Option.some.inj e).symm
theorem Between.fr {st lg cl Pl d : Addr} {TT : List Addr} {H0 H H' : Hp} {t : Nat} (B : Between st lg cl Pl TT H t) (hPT : Pl ∉ TT) (k0 : ∀ b o, H0 b = some o → H b = some o) (B0 : Between st lg cl Pl TT H0 t) (nd : H0 d = none) (F : FR d TT H H') (T : TabsG TT H') : Between st lg cl Pl TT H' t := by
  have key : ∀ b o, H0 b = some o → (∀ ps, o ≠ .tbl ps) → H' b = some o := fun b o e n => F b o (fun z => by rw [z, nd] at e; cases e) (notTT B0.tt e n) (k0 _ _ e)
  refine ⟨?_, T, ?_⟩
  · obtain ⟨ls, cs, left, turn, S⟩ := B0.s
    exact ⟨ls, cs, left, turn, key _ _ S.d (fun _ z => by cases z), key _ _ S.l (fun _ z => by cases z), key _ _ S.c (fun _ z => by cases z), S.lp, S.l0, S.t0, S.tt, S.ll, S.cc, S.ne⟩
  · obtain ⟨ps, e, r, ce⟩ := B0.tl
    refine ⟨ps, F Pl _ (fun z => by rw [z, nd] at e; cases e) hPT (k0 _ _ e), r, fun pos cv h => ?_⟩
    obtain ⟨c, e1, e2⟩ := ce pos cv h
    exact ⟨c, e1, key _ _ e2 (fun ps => codeO_ne ps)⟩
theorem Between.lam {st lg cl Pl ad : Addr} {TT : List Addr} {H H3 H4 : Hp} {t : Nat} {o : HO} (B : Between st lg cl Pl TT H t) (hPT : Pl ∉ TT) (bp : ButP Pl H H3) (T3 : LamX.TabS H3 Pl lawQ) :
    TabsG TT H3 ∧ ExtN H H3 ∧ (Ex TT H3 H4 → H4 ad = none → Between st lg cl Pl TT (upd H4 ad o) t ∧ ExtN H (upd H4 ad o)) := by
  obtain ⟨ps, e, r, ce⟩ := B.tl
  have x3 : ExtN H H3 := fun b o' h n => bp b o' (fun z => by rw [z, e] at h; exact n _ (Option.some.inj h).symm) h
  have t3 : TabsG TT H3 := fun P hP => by
    obtain ⟨ps', e', r'⟩ := B.tt P hP
    exact ⟨ps', bp P _ (fun z => hPT (z ▸ hP)) e', r'⟩
  refine ⟨t3, x3, fun x4 nad => ?_⟩
  have x5 : ExtN H (upd H4 ad o) := fun b o' h n => by
    have z := x4.extN t3 b o' (x3 b o' h n) n
    rw [upd_ne (ne_of_none z nad)]
    exact z
  refine ⟨⟨?_, fun P hP => ?_, ?_⟩, x5⟩
  · obtain ⟨ls, cs, left, turn, S⟩ := B.s
    exact ⟨ls, cs, left, turn, x5 _ _ S.d (fun _ z => by cases z), x5 _ _ S.l (fun _ z => by cases z), x5 _ _ S.c (fun _ z => by cases z), S.lp, S.l0, S.t0, S.tt, S.ll, S.cc, S.ne⟩
  · obtain ⟨ps', e', r'⟩ := x4.tabs t3 P hP
    exact ⟨ps', by rw [upd_ne (ne_of_none e' nad)]; exact e', r'⟩
  · obtain ⟨ps3, e3, r3, ce3⟩ := T3
    have k := x4.keep _ _ hPT e3
    refine ⟨ps3, by rw [upd_ne (ne_of_none k nad)]; exact k, r3, fun pos cv h => ?_⟩
    obtain ⟨c, e1, e2⟩ := ce3 pos cv h
    have z := x4.extN t3 c _ e2 (fun ps => codeO_ne ps)
    exact ⟨c, e1, by rw [upd_ne (ne_of_none z nad)]; exact z⟩
end K02

set_option Elab.async false
set_option linter.all false
set_option maxRecDepth 100000
set_option maxHeartbeats 2000000
/-! What a def of the law keeps; a def at its name. -/
namespace K02
open PySem PySem.Spec L2
open PyProof.Rows GenW GxR EZ TK CE LamX
theorem paired_snoc {α β : Type} {R : α → β → Prop} {a : α} {b : β} : ∀ {xs : List α} {ys : List β}, Paired R xs ys → R a b → Paired R (xs ++ [a]) (ys ++ [b])
  | _, _, .nil, r => .cons r .nil
  | _, _, .cons h t, r => .cons h (paired_snoc t r)
theorem paired_imp {α β : Type} {R S : α → β → Prop} (f : ∀ a b, R a b → S a b) : ∀ {xs : List α} {ys : List β}, Paired R xs ys → Paired S xs ys
  | _, _, .nil => .nil
  | _, _, .cons h t => .cons (f _ _ h) (paired_imp f t)
theorem StOk.up {H : Hp} {st lg cl : Addr} {t t' : Nat} (S : StOk H st lg cl t) (h : t ≤ t') : StOk H st lg cl t' := by
  obtain ⟨ls, cs, left, turn, S⟩ := S
  exact ⟨ls, cs, left, turn, S.d, S.l, S.c, S.lp, S.l0, S.t0, by have := S.tt; omega, S.ll, S.cc, S.ne⟩
theorem But.st_new {st lg cl p : Addr} {H : Hp} {o : HO} {t : Nat} (S : StOk H st lg cl t) (np : H p = none) : p ≠ st ∧ p ≠ lg := by
  obtain ⟨ls, cs, left, turn, S⟩ := S
  exact ⟨ne_of_none S.d np |>.symm, ne_of_none S.l np |>.symm⟩
theorem But.free {st lg cl p : Addr} {H H' : Hp} {t : Nat} (B : But st lg H H') (S : StOk H' st lg cl t) (np : H' p = none) : H p = none := by
  have n := But.st_new (o := .tup []) S np
  cases e : H p with
  | none => rfl
  | some o =>
    have z := B p o e n.1 n.2
    rw [np] at z
    cases z
theorem StOk.upd {st lg cl p : Addr} {H : Hp} {o : HO} {t : Nat} (S : StOk H st lg cl t) (n1 : p ≠ st) (n2 : p ≠ lg) (n3 : p ≠ cl) : StOk (upd H p o) st lg cl t := by
  obtain ⟨ls, cs, left, turn, S⟩ := S
  exact ⟨ls, cs, left, turn, by rw [upd_ne n1.symm]; exact S.d, by rw [upd_ne n2.symm]; exact S.l, by rw [upd_ne n3.symm]; exact S.c, S.lp, S.l0, S.t0, S.tt, S.ll, S.cc, S.ne⟩
theorem StOk.cl_ne {st lg cl p : Addr} {H : Hp} {t : Nat} (S : StOk H st lg cl t) (np : H p = none) : p ≠ cl := by
  obtain ⟨ls, cs, left, turn, S⟩ := S
  exact (ne_of_none S.c np).symm
theorem bits01 {k : Int} (h0 : 0 ≤ k) (h1 : k < 2) : ∃ b, V.int k = bitV b := by
  by_cases h : k = 1
  · exact ⟨true, by rw [h]; rfl⟩
  · exact ⟨false, by rw [show k = 0 by omega]; rfl⟩
/-- all tuples stay -/
def TupKeep (H H' : Hp) : Prop := ∀ t xs, H t = some (.tup xs) → H' t = some (.tup xs)
theorem TupKeep.of {H H' : Hp} (s : Same H H') : TupKeep H H' := fun _ _ e => s _ _ e
theorem TupKeep.upd {H : Hp} {a : Addr} {o o' : HO} (e : H a = some o) (n : ∀ xs, o ≠ .tup xs) : TupKeep H (L2.upd H a o') := fun t xs z => by
  rw [upd_ne fun q => by
    rw [q, e] at z
    exact n _ (Option.some.inj z)]
  exact z
theorem TupKeep.trans {H H1 H2 : Hp} (a : TupKeep H H1) (b : TupKeep H1 H2) : TupKeep H H2 := fun t xs e => b t xs (a t xs e)
theorem But.tup {st lg cl : Addr} {H H' : Hp} {t : Nat} (U : But st lg H H') (S : StOk H st lg cl t) : TupKeep H H' := fun _ _ e => U.keepO S e (fun _ z => by cases z) (fun _ z => by cases z)
theorem StOk.there {H : Hp} {st lg cl : Addr} {t : Nat} (S : StOk H st lg cl t) : H st ≠ none ∧ H lg ≠ none := by
  obtain ⟨ls, cs, left, turn, S⟩ := S
  refine ⟨fun z => ?_, fun z => ?_⟩
  · have := S.d
    rw [z] at this
    cases this
  · have := S.l
    rw [z] at this
    cases this
theorem StOk.keepC {st lg cl ra : Addr} {H H' : Hp} {t : Nat} (S : StOk H st lg cl t) (k : ∀ b o, b ≠ ra → H b = some o → H' b = some o) (n1 : ra ≠ st) (n2 : ra ≠ lg) (n3 : ra ≠ cl) : StOk H' st lg cl t := by
  obtain ⟨ls, cs, left, turn, S⟩ := S
  exact ⟨ls, cs, left, turn, k _ _ n1.symm S.d, k _ _ n2.symm S.l, k _ _ n3.symm S.c, S.lp, S.l0, S.t0, S.tt, S.ll, S.cc, S.ne⟩
/-- a def that stands at its name and keeps its promise -/
def Cal (P : Program) (w : World) (K : PySem.W.Frag) (mg : Str → Option Value) (base : Heap) (CX : CXT) (k : Nat) (x : Str) (ps : List Str) (sp : Sp) : Prop :=
  ∃ f fd, FnOk P w K mg base CX k f fd ps sp ∧ PySem.W.keepIn K (.ref f) = true ∧ Binds K fd ps [] ∧ mg x = some (.ref f)
end K02

set_option Elab.async false
set_option linter.all false
set_option maxRecDepth 100000
set_option maxHeartbeats 2000000
/-! Data that is compared and shown. -/
namespace K02
open PySem PySem.Spec L2
open PyProof.Rows GenW GxR EZ TK
open LamX (ExtN)
/-- a leaf -/
def leafD : PyData → Bool
  | .none => true
  | .bool _ => true
  | .int _ => true
  | _ => false
theorem leaf_lay {d : PyData} (h : leafD d = true) : d.canLay0 = true ∧ d.depth = 0 := by
  cases d <;> first | exact ⟨rfl, rfl⟩ | cases h
theorem leaf_layAll : ∀ {ds : List PyData}, ds.all leafD = true → PyData.canLayAll0 ds = true ∧ PyData.depthAll ds = 0
  | [], _ => ⟨rfl, rfl⟩
  | d :: r, h => by
    rw [List.all_cons, Bool.and_eq_true] at h
    obtain ⟨a, b⟩ := leaf_lay h.1
    obtain ⟨c, e⟩ := leaf_layAll h.2
    refine ⟨?_, ?_⟩
    · simp [PyData.canLayAll0, a, c]
    · simp [PyData.depthAll, b, e]
/-- laid out no deeper than n -/
def LayN (n : Nat) (d : PyData) : Prop := d.canLay0 = true ∧ d.depth ≤ n
def LayAllN (n : Nat) (ds : List PyData) : Prop := PyData.canLayAll0 ds = true ∧ PyData.depthAll ds ≤ n
theorem layAll_of {n : Nat} : ∀ {ds : List PyData}, (∀ d ∈ ds, LayN n d) → LayAllN n ds
  | [], _ => ⟨rfl, Nat.zero_le _⟩
  | d :: r, h => by
    obtain ⟨a, b⟩ := h d List.mem_cons_self
    obtain ⟨c, e⟩ := layAll_of fun x hx => h x (List.mem_cons_of_mem _ hx)
    refine ⟨?_, ?_⟩
    · simp [PyData.canLayAll0, a, c]
    · simp only [PyData.depthAll]
      omega
theorem layN_leaf {d : PyData} (h : leafD d = true) : LayN 0 d := ⟨(leaf_lay h).1, Nat.le_of_eq (leaf_lay h).2⟩
theorem layN_mono {n m : Nat} {d : PyData} (h : LayN n d) (l : n ≤ m) : LayN m d := ⟨h.1, Nat.le_trans h.2 l⟩
theorem layN_list {n : Nat} {ds : List PyData} (h : ∀ d ∈ ds, LayN n d) : LayN (n + 1) (.list ds) := by
  obtain ⟨a, b⟩ := layAll_of h
  refine ⟨?_, ?_⟩
  · simp [PyData.canLay0, a]
  · simp only [PyData.depth]
    omega
theorem layN_tuple {n : Nat} {ds : List PyData} (h : ∀ d ∈ ds, LayN n d) : LayN (n + 1) (.tuple ds) := by
  obtain ⟨a, b⟩ := layAll_of h
  refine ⟨?_, ?_⟩
  · simp [PyData.canLay0, a]
  · simp only [PyData.depth]
    omega
theorem layN_shaped {n : Nat} {d : PyData} (h : LayN n d) (l : n ≤ 64) : SeqAt.shaped d = true := by
  unfold SeqAt.shaped
  rw [h.1, decide_eq_true (Nat.le_trans h.2 l)]
  rfl
theorem eqv_nilL (ds : List PyData) : PyData.eqv (.list ds) (.list []) = ds.isEmpty := by
  cases ds <;> rfl
end K02

set_option Elab.async false
set_option linter.all false
set_option maxRecDepth 100000
set_option maxHeartbeats 2000000
/-! The end: the tables of the defs that hold generator expressions or lambdas. -/
namespace EN
open PySem PySem.Spec PyProof.Rows L2 LamX
theorem walk_tabs {l : PySem.W.OpenLaw} {n k : Nat} {q : Program} {loose : List Str} {XP : (Str → Option Value) → Heap → Prop} {YP : World → Heap → Prop} {d : DefRec} {K : Params → PySem.W.Frag} {CX : World → CXT} {x : Str} (names : List Str)
    (hn : l.most = some n) (hn2 : n ≤ sizeLine) (hdf : d.params.defaults = []) (hr : Room k callerA) (hrec : (names.all fun y => (recsOf q).any fun e => e.name == y) = true) (hY : ∀ (w : World) (h : Heap), YP w h → (K w.params).In h)
    (F : ∀ (w : World) (mg : Str → Option Value) (fa : Addr) (h : Heap), YP w h → (K w.params).In h → h.Ns mainGlobals mg → mg d.name = some (.ref fa) → (∀ y ∈ names, ∀ f, mg y = some (.ref f) → OwnTab (K w.params) f h) → LawAtS l w (K w.params) (CX w) k n x mg fa h)
    (hCX : ∀ (w : World) (H : Hp) (s : Shared) (e : Value) (s' : Shared), CX w [] H s (fun _ _ _ => False) e s' → False) : PySem.W.WalkO q loose XP YP l.row.toRowW d [] (fun f vs => PySem.call f vs) := by
  refine Att.attach_callB hn hdf fun w s₀ s₁ mg mb fa o pm cd doc a vs ns G Y ho hd hcd hmg hobj hints hlen hbits hg => ?_
  have KX := hY w _ Y
  have own : ∀ y ∈ names, ∀ f, mg y = some (.ref f) → OwnTab (K w.params) f s₁.heap := by
    intro y hy f hf c P o1 fd1 e dd vs1 sl k1 k2 k3 k4 k5
    obtain ⟨dL, hm, hn1⟩ := List.any_eq_true.mp (List.all_eq_true.mp hrec y hy)
    obtain ⟨a', o', fd', c', P', h1, h2, h3, h4, _, ⟨oc, vc, e1, _, e3, e4⟩, hP⟩ := G.T.tab dL hm
    rw [beq_iff_eq.mp hn1, hf] at h1
    cases h1
    rw [KX _ _ k1] at h2
    cases h2
    rw [k2] at h3
    cases h3
    rw [k3] at h4
    cases h4
    rw [KX _ _ k4] at e1
    cases e1
    cases e3
    rw [k5] at e4
    cases e4
    exact hP
  obtain ⟨fd, cs, sp, hT, nT, C, hb, hsp, hF⟩ := F w mg fa _ Y KX G.T.g hmg own
  exact law_callTs KX G.T.g G.T.b G.T.builtins G.T.nolimit hg hT nT C G.T.bmain hobj hints (Nat.le_trans hlen hn2) hr hF hb (fun H hH hS => hsp H a ns hlen hbits hH hS) fun H e s' => hCX w H s₁ e s'
end EN

set_option Elab.async false
set_option linter.all false
set_option maxRecDepth 100000
set_option maxHeartbeats 1000000
/-! repr of data (numbers, bools, texts, None, lists and tuples of these), where no repr is under way. -/
namespace RP
open PySem PySem.Spec L2
open PyProof.Rows
def rRepr (K : PySem.W.Frag) : List V → Hp → VK → Prop := fun xs H Q => ∃ (x : V) (d : PyData), xs = [x] ∧ Dp K H x d ∧ d.showable = true ∧ d.hasDict = false ∧ d.depth ≤ 60 ∧ d.shown.length ≤ sizeLine ∧ (∀ i, d = .int i → i.natAbs.log2 < 1920) ∧ Q (.str d.shown) H
theorem call_reprD {X : Cx} (hg : X.A.guards = some []) (hu : X.A.units + 64 < cLine) : CallR X (.builtin "repr") (rRepr X.K) := by
  intro pins s σ H xs us Q I r h
  obtain ⟨x, d, rfl, hd, hs, hdi, hdp, hl, hi, q⟩ := h
  rcases r with _ | ⟨rx, r0⟩
  cases r0
  cases hd with
  | non =>
    cases rx
    exact PySem.P.repr_of_none ⟨.str _, H, I.tok _, ⟨_, rfl⟩, q⟩
  | bl b =>
    cases rx
    refine PySem.P.repr_of_bool ⟨.str _, H, I.tok _, ⟨_, rfl⟩, ?_⟩
    cases b <;> exact q
  | int i =>
    obtain ⟨t, rfl⟩ := rx
    exact PySem.P.repr_of_int (hi i rfl) ⟨.str _, H, I.tok _, ⟨_, rfl⟩, q⟩
  | str z =>
    obtain ⟨t, rfl⟩ := rx
    exact PySem.P.repr_of_str ⟨.str _, H, I.tok _, ⟨_, rfl⟩, q⟩ hl
  | lst h1 h2 =>
    cases rx
    obtain ⟨as, rd⟩ := Dp.reads I _ _ _ (.lst h1 h2) rfl
    exact repr_of_reads' rd hs (fun z => by rw [hdi] at z; cases z) hg (by omega) (fun _ _ e => e) (fun h' u tk hk => ⟨.str _, H, I.kept (t' := tk) hk, ⟨_, rfl⟩, q⟩) hl
  | tup h1 h2 =>
    cases rx
    obtain ⟨as, rd⟩ := Dp.reads I _ _ _ (.tup h1 h2) rfl
    exact repr_of_reads' rd hs (fun z => by rw [hdi] at z; cases z) hg (by omega) (fun _ _ e => e) (fun h' u tk hk => ⟨.str _, H, I.kept (t' := tk) hk, ⟨_, rfl⟩, q⟩) hl
end RP

set_option Elab.async false
set_option linter.all false
set_option maxRecDepth 100000
set_option maxHeartbeats 2000000
/-! The end for a law that asks repr of lists or tuples: the law's call is the outermost, so no repr is under way. -/
namespace GE
open PySem PySem.Spec PyProof.Rows L2 LamX
/-- a def keeps its promise where no repr is under way -/
structure FnG (P : Program) (w : World) (K : PySem.W.Frag) (mg : Str → Option Value) (base : Heap) (CX : CXT) (k : Nat) (f : Addr) (fd : FuncData) (ps : List Str) (sp : Sp) : Prop where
  run : ∀ (A : Around) (outer : List Env) (s : Shared) (H : Hp) (args : Args) (us : List Value) (vs : List V) (Q : VK) (E : XK), A.guards = some [] → Room k A → Env0 P w K mg base A outer s H → BindsTo s fd args (ps.zip us) → Vals vs us → sp vs H Q E →
    codeAny (model P w) A (.call (.ref f) args) (CR CX outer P w H s Q E) s
/-- the abstract heap at the law's call: the tables are empty, the script stands at a -/
def startH (K : PySem.W.Frag) (T : List Addr) (a : Addr) (vs : List Value) (ns : List Int) : Hp := fun b =>
  if b ∈ T then some (.tbl #[]) else if b = a ∧ (K.lookup a).isNone = true then some (.frz { cls := .type "list", data := .seq vs.toArray } (.lst (ns.map V.int))) else none
section
variable {K : PySem.W.Frag} {T : List Addr} {a b : Addr} {vs : List Value} {ns : List Int}
theorem start_tab (h : b ∈ T) : startH K T a vs ns b = some (.tbl #[]) := if_pos h
theorem start_a (h : a ∉ T) (n : K.lookup a = none) : startH K T a vs ns a = some (.frz { cls := .type "list", data := .seq vs.toArray } (.lst (ns.map V.int))) := by
  unfold startH
  rw [if_neg h, if_pos ⟨rfl, by rw [n]; rfl⟩]
theorem start_none (h : b ∉ T) (h2 : ¬ (b = a ∧ (K.lookup a).isNone = true)) : startH K T a vs ns b = none := by
  unfold startH
  rw [if_neg h, if_neg h2]
/-- what may be tracked -/
theorem start_cases (b : Addr) : startH K T a vs ns b = none ∨ (b ∈ T ∧ startH K T a vs ns b = some (.tbl #[])) ∨ (b ∉ T ∧ b = a ∧ K.lookup a = none ∧ startH K T a vs ns b = some (.frz { cls := .type "list", data := .seq vs.toArray } (.lst (ns.map V.int)))) := by
  by_cases h : b ∈ T
  · exact .inr (.inl ⟨h, start_tab h⟩)
  · by_cases h2 : b = a ∧ (K.lookup a).isNone = true
    · obtain ⟨rfl, h3⟩ := h2
      have n : K.lookup b = none := Option.isNone_iff_eq_none.mp h3
      exact .inr (.inr ⟨h, rfl, n, start_a h n⟩)
    · exact .inl (start_none h h2)
end
/-- the law's call, its promise kept where no repr is under way -/
theorem end_call {P : Program} {w : World} {K : PySem.W.Frag} {mg mb : Str → Option Value} {CX : CXT} {k : Nat} {fa a : Addr} {cs : List (Addr × Addr)} {fd : FuncData} {x : Str} {sp : Sp} {s₁ : Shared} {vs : List Value} {ns : List Int} (KX : K.In s₁.heap) (hns : s₁.heap.Ns mainGlobals mg) (hb : s₁.heap.Ns builtinsNs mb)
    (hbb : ∀ x : Str, x ≠ "__name__" → mb x = bootBuiltins x) (hlim : s₁.heap.NoLimit) (hg : s₁.gens = #[]) (hT : ∀ p ∈ cs, s₁.heap.get? p.2 = some { cls := .none, data := .fields #[] }) (nT : ∀ p ∈ cs, K.lookup p.2 = none) (C : ∀ p ∈ cs, PySem.W.CodeHd s₁.heap p.1 p.2)
    (hbm : ∃ (bm : Addr) (ob : Obj), mg "__builtins__" = some (.ref bm) ∧ bm ≠ builtinsNs ∧ s₁.heap.get? bm = some ob ∧ ob.cls = .type "module" ∧ ob.dict = some builtinsNs ∧ ob.data = .plain) (ha : s₁.heap.get? a = some { cls := .type "list", data := .seq vs.toArray }) (hi : IntsAre vs ns) (hl : ns.length ≤ sizeLine) (hr : Room k callerA)
    (F : ∀ base : Heap, K.In base → base.Ns mainGlobals mg → (∀ p ∈ cs, TabB base mg p.1 p.2) → FnG P w K mg base CX k fa fd [x] sp) (hbind : ∀ (s : Shared) (u : Value), BindsTo s fd ⟨[u], []⟩ [(x, u)])
    (hsp : ∀ H : Hp, (∀ p ∈ cs, H p.2 = some (.tbl #[])) → SqL K H a (ns.map V.int) → sp [.ref a] H (fun v _ => v = .bl true) fun _ _ _ => False) (hCX : ∀ H e s', CX [] H s₁ (fun _ _ _ => False) e s' → False) :
    codeAny (model P w) callerA (.call (.ref fa) ⟨[.ref a], []⟩) (fun r s' => r = .ok (.ret (.bool true)) ∧ OldK s₁.heap s'.heap ∧ s'.os = s₁.os ∧ AllBare s'.gens) s₁ := by
  obtain ⟨T, hTd⟩ : ∃ T, T = cs.map (·.2) := ⟨_, rfl⟩
  have inT : ∀ p ∈ cs, p.2 ∈ T := fun p hp => by
    rw [hTd]
    exact List.mem_map.mpr ⟨p, hp, rfl⟩
  have ofT : ∀ b ∈ T, ∃ p ∈ cs, p.2 = b := fun b hb => by
    rw [hTd] at hb
    exact List.mem_map.mp hb
  have tabs : ∀ b ∈ T, s₁.heap.get? b = some { cls := .none, data := .fields #[] } ∧ K.lookup b = none := fun b hb => by
    obtain ⟨p, hp, rfl⟩ := ofT b hb
    exact ⟨hT p hp, nT p hp⟩
  have aT : a ∉ T := fun z => by
    have q := (tabs a z).1
    rw [ha] at q
    cases q
  obtain ⟨H, hH⟩ : ∃ H, H = startH K T a vs ns := ⟨_, rfl⟩
  have cases_ : ∀ b, H b = none ∨ (b ∈ T ∧ H b = some (.tbl #[])) ∨ (b ∉ T ∧ b = a ∧ K.lookup a = none ∧ H b = some (.frz { cls := .type "list", data := .seq vs.toArray } (.lst (ns.map V.int)))) := fun b => by
    rw [hH]
    exact start_cases b
  have rel : Vals (ns.map V.int) vs := vals_ints hi
  have len : vs.length = ns.length := hi.length
  -- an object that is neither the script's list nor an empty table is not tracked
  have free_ : ∀ {b : Addr} {o : Obj}, s₁.heap.get? b = some o → (∀ us n, o.data ≠ .seq us n) → o.data ≠ .fields #[] → H b = none := fun {b o} e n1 n2 => by
    rcases cases_ b with z | ⟨z, _⟩ | ⟨_, z, _⟩
    · exact z
    · rw [(tabs b z).1] at e
      cases e
      exact absurd rfl n2
    · rw [z, ha] at e
      cases e
      exact absurd rfl (n1 _ _)
  have dict_ : ∀ {b : Addr} {o : Obj} {es : Array DictEntry} {ep : Nat}, s₁.heap.get? b = some o → o.data = .dict es ep → H b = none := fun e d => free_ e (fun _ _ z => by rw [d] at z; cases z) (fun z => by rw [d] at z; cases z)
  have ns_ : ∀ {b : Addr} {m : Str → Option Value}, s₁.heap.Ns b m → (hidT s₁.heap H).Ns b m := fun {b m} z => by
    obtain ⟨o, es, ep, e, d, r⟩ := z
    exact ⟨o, es, ep, hidT_get e (dict_ e d), d, r⟩
  have inK : K.In (hidT s₁.heap H) := fun b o e => by
    refine hidT_get (KX b o e) ?_
    rcases cases_ b with z | ⟨z, _⟩ | ⟨_, z, z2, _⟩
    · exact z
    · rw [(tabs b z).2] at e
      cases e
    · rw [z, z2] at e
      cases e
  have md : L2.Mod K mg (hidT s₁.heap H) := by
    obtain ⟨mc, l1, l2⟩ := hlim
    exact ⟨inK, ns_ hns, ⟨mb, ns_ hb, hbb⟩, ⟨mc, ns_ l1, l2⟩⟩
  have TB : ∀ p ∈ cs, TabB (hidT s₁.heap H) mg p.1 p.2 := fun p hp => by
    obtain ⟨oG, esG, epG, eG, dG, _⟩ := id hns
    constructor
    · obtain ⟨o, us, fl, tf, fs, tg, inF, tx, tt, e1, r1, r2, r3, rest⟩ := C p hp
      refine ⟨o, us, fl, tf, fs, tg, inF, tx, tt, hidT_get e1 (free_ e1 (fun _ _ z => by rw [r2] at z; cases z) fun z => ?_), r1, r2, r3, rest⟩
      rw [r2] at z
      cases z
      simp at r3
    · obtain ⟨bm, ob, b1, b2, b3, b4, b5, b6⟩ := hbm
      refine ⟨bm, ob, b1, b2, fun z => ?_, fun z => ?_, hidT_get b3 (free_ b3 (fun _ _ z => by rw [b6] at z; cases z) (fun z => by rw [b6] at z; cases z)), b4, b5, b6⟩
      · rw [z, eG] at b3
        cases b3
        rw [dG] at b6
        cases b6
      · rw [z, hT p hp] at b3
        cases b3
        cases b6
    · intro z
      rw [z, hT p hp] at eG
      cases eG
      cases dG
  have ok : HOk P w H s₁.heap := fun b u e => by
    rcases cases_ b with z | ⟨z, z2⟩ | ⟨_, z, _, z2⟩
    · rw [z] at e
      cases e
    · rw [z2] at e
      cases e
      exact (tabs b z).1
    · rw [z2] at e
      cases e
      rw [z]
      exact ⟨ha, by rw [List.length_map]; exact hl, vs, _, rel, ha⟩
  have sq : SqL K H a (ns.map V.int) := by
    cases hk : K.lookup a with
    | none => exact .inl (.inr ⟨_, by rw [hH]; exact start_a aT hk⟩)
    | some o =>
      have e := KX a o hk
      rw [ha] at e
      cases e
      exact .inr ⟨_, vs.toArray, _, hk, rfl, rfl, rfl, by rw [List.size_toArray, len]; exact hl, by simpa using rel⟩
  have start : ∀ p ∈ cs, H p.2 = some (.tbl #[]) := fun p hp => by
    rw [hH]
    exact start_tab (inT p hp)
  have env : Env0 P w K mg (hidT s₁.heap H) callerA [] s₁ H := ⟨rfl, md, fun b o e => of_hidT e, Nat.le_of_eq (hidT_size _ _), trivial, fun b hb => (nomatch hb), ok, .of_eq hg⟩
  refine codeAny_mono ((F _ inK (ns_ hns) TB).run callerA [] s₁ H ⟨[.ref a], []⟩ [.ref a] [.ref a] _ _ rfl hr env (hbind s₁ (.ref a)) (.cons rfl .nil) (hsp H start sq)) fun r s' h => ?_
  rcases r with e | fl
  · exact (hCX H e s' h).elim
  · cases fl with
    | ret u =>
      obtain ⟨v, H', os, bare, un, ok', r', q⟩ := h
      cases q
      cases r'
      have kept : ∀ b o, b ∉ T → s₁.heap.get? b = some o → s'.heap.get? b = some o := fun b o nb e => by
        rcases cases_ b with z | ⟨z, _⟩ | ⟨_, _, _, z⟩
        · exact un.keep b o e z (fun z => nomatch z) (fun z => nomatch z)
        · exact absurd z nb
        · have g1 := (ok b _ z).1
          have g2 := (ok' b _ (un.frzs b _ _ z)).1
          rw [e] at g1
          cases g1
          exact g2
      have more : ∀ p ∈ cs, ∃ us : Array Value, s'.heap.get? p.2 = some { cls := .none, data := .fields us } := fun p hp => by
        obtain ⟨us, z⟩ := un.tbls p.2 #[] (start p hp)
        exact ⟨_, ok' p.2 _ z⟩
      refine ⟨rfl, ⟨fun b o e => ?_, fun b o e => ?_⟩, os, bare⟩
      · by_cases hb : b ∈ T
        · obtain ⟨p, hp, rfl⟩ := ofT b hb
          obtain ⟨us, hm⟩ := more p hp
          rw [hT p hp] at e
          cases e
          exact .inr (.inl ⟨((C p hp).tab (hT p hp)).isCodeTable, rfl, #[], us, rfl, by rw [Array.empty_append]; exact hm⟩)
        · exact .inl (kept b o hb e)
      · by_cases hb : b ∈ T
        · obtain ⟨p, hp, rfl⟩ := ofT b hb
          obtain ⟨us, hm⟩ := more p hp
          exact ⟨_, hm⟩
        · exact ⟨o, kept b o hb e⟩
    | _ => exact False.elim h
end GE

set_option Elab.async false
set_option linter.all false
set_option maxRecDepth 100000
set_option maxHeartbeats 2000000
/-! Defs where no repr is under way: how they are shown, and the end of a row with them. -/
namespace GE
open PySem PySem.Spec PyProof.Rows L2 LamX
section
variable {P : Program} {w : World} {K : PySem.W.Frag} {mg : Str → Option Value} {base : Heap}
theorem okG {CX : CXT} {x qual : Str} {st : Stmt} {f c : Addr} {fd : FuncData} {N ps : List Str} {k : Nat} {sp : Sp} (F : Fun K x qual st f fd) (hc : fd.code = .ref c) (S : FnScope N ps (defScope st)) (len : ∀ vs H Q E, sp vs H Q E → vs.length = ps.length)
    (hbody : ∀ (A : Around) (outer : List Env) (s : Shared) (H : Hp) (vs : List V) (Q : VK) (E : XK), (A.deeper (envOfC qual (defScope st) s.heap.objs.size f (.ref c))).guards = some [] → Room k (A.deeper (envOfC qual (defScope st) s.heap.objs.size f (.ref c))) → sp vs H Q E →
      ∃ t, PSs (cxOf CX P w K mg base N qual (defScope st) f (.ref c) A outer s H E) (defBody st) t ∧ t { nx := fun _ H' => Q .non H', rt := Q } (start N vs) H) : FnG P w K mg base CX (k + 1) f fd ps sp := by
  obtain ⟨oc, od, kV, doc, pm, an, cdv, ct, osl, rfl, lk, hcd⟩ := F.ex
  have e : cdv = .ref c := hc
  subst e
  exact ⟨fun A outer s H args us vs Q E hg hr e0 hb r hsp => run_ofS (N := N) lk hcd S hr e0 hb r (len _ _ _ _ hsp) fun hr' => hbody A outer s H vs Q E hg hr' hsp⟩
end
/-- as LawAtS, where no repr is under way -/
def LawAtG (l : PySem.W.OpenLaw) (w : World) (K : PySem.W.Frag) (CX : CXT) (k n : Nat) (x : Str) (mg : Str → Option Value) (fa : Addr) (h : Heap) : Prop :=
  ∃ (fd : FuncData) (cs : List (Addr × Addr)) (sp : Sp), (∀ p ∈ cs, h.get? p.2 = some { cls := .none, data := .fields #[] }) ∧ (∀ p ∈ cs, K.lookup p.2 = none) ∧ (∀ p ∈ cs, PySem.W.CodeHd h p.1 p.2) ∧ (∀ (s : Shared) (u : Value), BindsTo s fd ⟨[u], []⟩ [(x, u)]) ∧
    (∀ (H : Hp) (a : Addr) (ns : List Int), ns.length ≤ n → (∀ z ∈ ns, Builtin.Int.intBits z ≤ 1048576) → (∀ p ∈ cs, H p.2 = some (.tbl #[])) → SqL K H a (ns.map V.int) → sp [.ref a] H (fun v _ => v = .bl true) fun _ _ _ => False) ∧
    ∀ base : Heap, K.In base → base.Ns mainGlobals mg → (∀ p ∈ cs, TabB base mg p.1 p.2) → FnG l.prog w K mg base CX k fa fd [x] sp
theorem walk_tabsG {l : PySem.W.OpenLaw} {n k : Nat} {q : Program} {loose : List Str} {XP : (Str → Option Value) → Heap → Prop} {YP : World → Heap → Prop} {d : DefRec} {K : Params → PySem.W.Frag} {CX : World → CXT} {x : Str} (names : List Str) (hn : l.most = some n) (hn2 : n ≤ sizeLine) (hdf : d.params.defaults = []) (hr : Room k callerA)
    (hrec : (names.all fun y => (recsOf q).any fun e => e.name == y) = true) (hY : ∀ (w : World) (h : Heap), YP w h → (K w.params).In h)
    (F : ∀ (w : World) (mg : Str → Option Value) (fa : Addr) (h : Heap), YP w h → (K w.params).In h → h.Ns mainGlobals mg → mg d.name = some (.ref fa) → (∀ y ∈ names, ∀ f, mg y = some (.ref f) → OwnTab (K w.params) f h) → LawAtG l w (K w.params) (CX w) k n x mg fa h)
    (hCX : ∀ (w : World) (H : Hp) (s : Shared) (e : Value) (s' : Shared), CX w [] H s (fun _ _ _ => False) e s' → False) : PySem.W.WalkO q loose XP YP l.row.toRowW d [] (fun f vs => PySem.call f vs) := by
  refine Att.attach_callB hn hdf fun w s₀ s₁ mg mb fa o pm cd doc a vs ns G Y ho hd hcd hmg hobj hints hlen hbits hg => ?_
  have KX := hY w _ Y
  have own : ∀ y ∈ names, ∀ f, mg y = some (.ref f) → OwnTab (K w.params) f s₁.heap := by
    intro y hy f hf c P o1 fd1 e dd vs1 sl k1 k2 k3 k4 k5
    obtain ⟨dL, hm, hn1⟩ := List.any_eq_true.mp (List.all_eq_true.mp hrec y hy)
    obtain ⟨a', o', fd', c', P', h1, h2, h3, h4, _, ⟨oc, vc, e1, _, e3, e4⟩, hP⟩ := G.T.tab dL hm
    rw [beq_iff_eq.mp hn1, hf] at h1
    cases h1
    rw [KX _ _ k1] at h2
    cases h2
    rw [k2] at h3
    cases h3
    rw [k3] at h4
    cases h4
    rw [KX _ _ k4] at e1
    cases e1
    cases e3
    rw [k5] at e4
    cases e4
    exact hP
  obtain ⟨fd, cs, sp, hT, nT, C, hb, hsp, hF⟩ := F w mg fa _ Y KX G.T.g hmg own
  exact end_call KX G.T.g G.T.b G.T.builtins G.T.nolimit hg hT nT C G.T.bmain hobj hints (Nat.le_trans hlen hn2) hr hF hb (fun H hH hS => hsp H a ns hlen hbits hH hS) fun H e s' => hCX w H s₁ e s'
end GE

set_option Elab.async false
set_option linter.all false
set_option maxRecDepth 100000
set_option maxHeartbeats 2000000
/-! repr of data; what stands between the turns, behind a def that keeps the tables. -/
namespace K02
open PySem PySem.Spec L2
open PyProof.Rows GenW GxR EZ TK CE LamX
/-- what repr asks of data -/
def GoodD (d : PyData) : Prop := d.canLay0 = true ∧ d.showable = true ∧ d.hasDict = false ∧ d.intsShort 13 = true
def GoodAll (ds : List PyData) : Prop := PyData.canLayAll0 ds = true ∧ PyData.showableAll ds = true ∧ PyData.hasDictAll ds = false ∧ PyData.intsShortAll 13 ds = true
theorem good_all : ∀ {ds : List PyData}, (∀ d ∈ ds, GoodD d) → GoodAll ds
  | [], _ => ⟨rfl, rfl, rfl, rfl⟩
  | d :: r, h => by
    obtain ⟨a1, a2, a3, a4⟩ := h d List.mem_cons_self
    obtain ⟨b1, b2, b3, b4⟩ := good_all fun x hx => h x (List.mem_cons_of_mem _ hx)
    refine ⟨?_, ?_, ?_, ?_⟩
    · simp [PyData.canLayAll0, a1, b1]
    · simp [PyData.showableAll, a2, b2]
    · simp [PyData.hasDictAll, a3, b3]
    · simp [PyData.intsShortAll, a4, b4]
theorem good_tup {ds : List PyData} (h : ∀ d ∈ ds, GoodD d) : GoodD (.tuple ds) := by
  obtain ⟨a, b, c, e⟩ := good_all h
  exact ⟨by simp [PyData.canLay0, a], by simp [PyData.showable, b], by simp [PyData.hasDict, c], by simp [PyData.intsShort, e]⟩
theorem good_lst {ds : List PyData} (h : ∀ d ∈ ds, GoodD d) : GoodD (.list ds) := by
  obtain ⟨a, b, c, e⟩ := good_all h
  exact ⟨by simp [PyData.canLay0, a], by simp [PyData.showable, b], by simp [PyData.hasDict, c], by simp [PyData.intsShort, e]⟩
theorem short01 (b : Bool) : (PyData.int (bitZ b)).intsShort 13 = true := by
  cases b <;> decide +kernel
theorem good_bl (b : Bool) : GoodD (.bool b) := ⟨rfl, rfl, rfl, rfl⟩
theorem repr_to {K : PySem.W.Frag} {H : Hp} {x : V} {d : PyData} {Q : VK} (hd : Dp K H x d) (g : GoodD d) (dp : d.depth ≤ 60) (wt : d.weight ≤ 2 ^ 20) (ni : ∀ i, d ≠ .int i) (q : Q (.str d.shown) H) : RP.rRepr K [x] H Q := by
  refine ⟨x, d, rfl, hd, g.2.1, g.2.2.1, dp, ?_, fun i e => absurd e (ni i), q⟩
  have hl : d.layable0 = true := by
    unfold PyData.layable0
    rw [g.1, decide_eq_true (show d.depth ≤ 64 by omega), decide_eq_true wt]
    rfl
  have z := PyProof.Rows.shown_le13 hl g.2.2.2
  rw [sizeLine_eq]
  omega
theorem Between.ex {st lg cl Pl : Addr} {TT : List Addr} {H H' : Hp} {t : Nat} (B : Between st lg cl Pl TT H t) (hPT : Pl ∉ TT) (x : Ex TT H H') : Between st lg cl Pl TT H' t := by
  have n := x.extN B.tt
  refine ⟨?_, x.tabs B.tt, ?_⟩
  · obtain ⟨ls, cs, left, turn, S⟩ := B.s
    exact ⟨ls, cs, left, turn, n _ _ S.d (fun _ z => by cases z), n _ _ S.l (fun _ z => by cases z), n _ _ S.c (fun _ z => by cases z), S.lp, S.l0, S.t0, S.tt, S.ll, S.cc, S.ne⟩
  · obtain ⟨ps, e, r, ce⟩ := B.tl
    refine ⟨ps, x.keep _ _ hPT e, r, fun pos cv h => ?_⟩
    obtain ⟨c, e1, e2⟩ := ce pos cv h
    exact ⟨c, e1, n _ _ e2 (fun ps => codeO_ne ps)⟩
section
variable {P : Program} {w : World} {K : PySem.W.Frag} {mg : Str → Option Value} {base : Heap}
theorem okGN {x qual : Str} {st : Stmt} {f c : Addr} {fd : FuncData} {N ps : List Str} {k : Nat} {sp : Sp} (F : Fun K x qual st f fd) (hc : fd.code = .ref c) (S : FnScope N ps (defScope st)) (len : ∀ vs H Q E, sp vs H Q E → vs.length = ps.length)
    (hbody : ∀ (A : Around) (outer : List Env) (s : Shared) (H : Hp) (vs : List V) (Q : VK) (E : XK), (A.deeper (envOfC qual (defScope st) s.heap.objs.size f (.ref c))).guards = some [] → Room k (A.deeper (envOfC qual (defScope st) s.heap.objs.size f (.ref c))) → sp vs H Q E →
      ∃ t, PSs (cxOf CX0 P w K mg base N qual (defScope st) f (.ref c) A outer s H E).nox (defBody st) t ∧ t { nx := fun _ H' => Q .non H', rt := Q } (start N vs) H) : GE.FnG P w K mg base CX0 (k + 1) f fd ps sp :=
  GE.okG F hc S len fun A outer s H vs Q E hg hr hsp => by
    obtain ⟨t, h, q⟩ := hbody A outer s H vs Q E hg hr hsp
    exact ⟨t, h.nox, q⟩
end
end K02

set_option Elab.async false
set_option linter.all false
set_option maxRecDepth 100000
set_option maxHeartbeats 2000000
/-! Values as they are looked at: what is known of each is its kind, and of a tuple its items; is_source, is_register, is_gate of any such value. -/
namespace K02
open PySem PySem.Spec L2
open PyProof.Rows GenW GxR EZ TK
open LamX (ExtN)
mutual
/-- the value at which one looks; lists and dicts are not looked into -/
inductive Vw (H : Hp) : V → PyData → Prop
  | non : Vw H .non .none
  | bl (b : Bool) : Vw H (.bl b) (.bool b)
  | int (i : Int) : Vw H (.int i) (.int i)
  | str (x : Str) : Vw H (.str x) (.str x)
  | lst {a : Addr} {xs : List V} : H a = some (.lst xs) → Vw H (.ref a) (.list [])
  | dic {a : Addr} : H a = some (.dT []) → Vw H (.ref a) (.dict [])
  | tup {a : Addr} {xs : List V} {ds : List PyData} : H a = some (.tup xs) → VwAll H xs ds → Vw H (.ref a) (.tuple ds)
inductive VwAll (H : Hp) : List V → List PyData → Prop
  | nil : VwAll H [] []
  | cons {v : V} {vs : List V} {d : PyData} {ds : List PyData} : Vw H v d → VwAll H vs ds → VwAll H (v :: vs) (d :: ds)
end
mutual
theorem Vw.map {H H' : Hp} (e : ∀ t o, H t = some o → (∀ ps, o ≠ .tbl ps) → H' t = some o) : ∀ (d : PyData) (v : V), Vw H v d → Vw H' v d
  | _, _, .non => .non
  | _, _, .bl b => .bl b
  | _, _, .int b => .int b
  | _, _, .str b => .str b
  | _, _, .lst h => .lst (e _ _ h fun _ z => by cases z)
  | _, _, .dic h => .dic (e _ _ h fun _ z => by cases z)
  | _, _, .tup h t => .tup (e _ _ h fun _ z => by cases z) (VwAll.map e _ _ t)
theorem VwAll.map {H H' : Hp} (e : ∀ t o, H t = some o → (∀ ps, o ≠ .tbl ps) → H' t = some o) : ∀ (ds : List PyData) (vs : List V), VwAll H vs ds → VwAll H' vs ds
  | _, _, .nil => .nil
  | _, _, .cons h t => .cons (Vw.map e _ _ h) (VwAll.map e _ _ t)
end
theorem Vw.ext {H H' : Hp} {d : PyData} {v : V} (h : Vw H v d) (e : ExtN H H') : Vw H' v d := Vw.map e _ _ h
theorem VwAll.ext {H H' : Hp} {d : List PyData} {v : List V} (h : VwAll H v d) (e : ExtN H H') : VwAll H' v d := VwAll.map e _ _ h
theorem VwAll.length {H : Hp} : ∀ {vs : List V} {ds : List PyData}, VwAll H vs ds → vs.length = ds.length
  | _, _, .nil => rfl
  | _, _, .cons _ t => by rw [List.length_cons, List.length_cons, t.length]
theorem VwAll.get {H : Hp} : ∀ {vs : List V} {ds : List PyData}, VwAll H vs ds → ∀ {i : Nat} {v : V}, vs[i]? = some v → ∃ d, ds[i]? = some d ∧ Vw H v d
  | _, _, .nil, i, v, e => by simp at e
  | _, _, .cons h t, i, v, e => by
    cases i with
    | zero =>
      cases e
      exact ⟨_, rfl, h⟩
    | succ i => exact t.get (by simpa using e)
def tyD : PyData → String
  | .none => "NoneType"
  | .bool _ => "bool"
  | .int _ => "int"
  | .str _ => "str"
  | .list _ => "list"
  | .tuple _ => "tuple"
  | .dict _ => "dict"
def itD : PyData → List PyData
  | .tuple ds => ds
  | _ => []
/-- a number from 0 on, below l -/
def belD (d : PyData) (l : Int) : Bool := match d with
  | .int i => decide (0 ≤ i) && decide (i < l)
  | _ => false
section
variable {K : PySem.W.Frag} {H : Hp}
theorem Vw.ty {v : V} {d : PyData} (h : Vw H v d) : Ty1 K H v (tyD d) := by
  cases h with
  | non => exact ty_non
  | bl b => exact ty_bl b
  | int i => exact ty_int i
  | str z => exact ty_str z
  | lst e => exact ty_lst e
  | dic e => exact ty_dT e
  | tup e _ => exact ty_tup e
theorem Vw.items {v : V} {d : PyData} (h : Vw H v d) : ∃ xs, TupV K H v (tyD d) xs ∧ VwAll H xs (itD d) := by
  cases h with
  | tup e t => exact ⟨_, fun _ => ⟨_, rfl, .inl (.inl e)⟩, t⟩
  | _ => exact ⟨[], fun z => absurd z (by simp [tyD]), .nil⟩
theorem Vw.bel {v : V} {d : PyData} (h : Vw H v d) (l : Int) : bel v l = belD d l := by
  cases h <;> rfl
theorem VwAll.tys {vs : List V} {ds : List PyData} (h : VwAll H vs ds) : ∀ y ∈ vs, ∃ ty, Ty1 K H y ty := fun y hy => by
  obtain ⟨i, hi⟩ := List.mem_iff_getElem?.mp hy
  obtain ⟨d, _, hd⟩ := h.get hi
  exact ⟨_, hd.ty⟩
theorem VwAll.bels : ∀ {vs : List V} {ds : List PyData}, VwAll H vs ds → ∀ l : Int, (vs.all fun y => K02.bel y l) = ds.all fun d => belD d l
  | _, _, .nil, l => rfl
  | _, _, .cons h t, l => by rw [List.all_cons, List.all_cons, h.bel, t.bels]
/-- a tuple of two, or not -/
theorem Vw.two {v : V} {d : PyData} (h : Vw H v d) : (∃ a x1 x2 d1 d2, v = .ref a ∧ H a = some (.tup [x1, x2]) ∧ d = .tuple [d1, d2] ∧ Vw H x1 d1 ∧ Vw H x2 d2) ∨
    (∃ xs, TupV K H v (tyD d) xs ∧ VwAll H xs (itD d) ∧ (decide (tyD d = "tuple") && decide ((xs.length : Int) = 2)) = false ∧ ∀ d1 d2, d ≠ .tuple [d1, d2]) := by
  have z := h
  cases h with
  | tup e t =>
    rename_i a xs ds
    cases t with
    | nil => exact .inr ⟨[], fun _ => ⟨_, rfl, .inl (.inl e)⟩, .nil, rfl, fun _ _ q => by cases q⟩
    | cons h1 t =>
      cases t with
      | nil => exact .inr ⟨_, fun _ => ⟨_, rfl, .inl (.inl e)⟩, .cons h1 .nil, rfl, fun _ _ q => by cases q⟩
      | cons h2 t =>
        cases t with
        | nil => exact .inl ⟨_, _, _, _, _, rfl, e, rfl, h1, h2⟩
        | cons h3 t =>
          refine .inr ⟨_, fun _ => ⟨_, rfl, .inl (.inl e)⟩, .cons h1 (.cons h2 (.cons h3 t)), ?_, fun _ _ q => by cases q⟩
          rw [Bool.and_eq_false_iff]
          right
          refine decide_eq_false ?_
          simp only [List.length_cons]
          omega
  | _ => exact .inr ⟨[], fun q => absurd q (by simp [tyD]), .nil, rfl, fun _ _ q => by cases q⟩
end
/-- where it is a pair, its first item is a text -/
def SrcK (d : PyData) : Prop := ∀ k a, d = .tuple [k, a] → ∃ z, k = .str z
def sorD (ni nr ng : Nat) : PyData → Bool
  | .tuple [.str k, a] => if k = "in" then belD a ni else if k = "reg" then belD a nr else if k = "gate" then belD a ng else decide (k = "bit") && belD a 2
  | _ => false
theorem sorD_no {ni nr ng : Nat} {d : PyData} (h : ∀ d1 d2, d ≠ .tuple [d1, d2]) : sorD ni nr ng d = false := by
  unfold sorD
  split
  · exact absurd rfl (h _ _)
  · rfl
def regiD (ni nr ng : Nat) : PyData → Bool
  | .tuple [b, s] => belD b 2 && sorD ni nr ng s
  | _ => false
theorem regiD_no {ni nr ng : Nat} {d : PyData} (h : ∀ d1 d2, d ≠ .tuple [d1, d2]) : regiD ni nr ng d = false := by
  unfold regiD
  split
  · exact absurd rfl (h _ _)
  · rfl
def RegK (d : PyData) : Prop := ∀ b s, d = .tuple [b, s] → SrcK s
def bitsD (d : PyData) (n : Nat) : Bool := decide (tyD d = "tuple") && decide ((itD d).length = n) && (itD d).all fun x => belD x 2
def gateD (ni nr ng : Nat) : PyData → Bool
  | .tuple [ss, t] => decide (tyD ss = "tuple") && decide ((itD ss).length ≤ 4) && (bitsD t (2 ^ (itD ss).length) && (itD ss).all (sorD ni nr ng))
  | _ => false
theorem gateD_no {ni nr ng : Nat} {d : PyData} (h : ∀ d1 d2, d ≠ .tuple [d1, d2]) : gateD ni nr ng d = false := by
  unfold gateD
  split
  · exact absurd rfl (h _ _)
  · rfl
/-- its sources have texts at first -/
def GateK (d : PyData) : Prop := ∀ ss t, d = .tuple [ss, t] → ∀ s ∈ itD ss, SrcK s
section
variable {P : Program} {w : World} {K : PySem.W.Frag} {mg : Str → Option Value} {base : Heap}
def spSourceD : Sp := fun vs H Q _ => ∃ (y : V) (d : PyData) (z : Addr) (ni nr ng : Nat), vs = [y, .ref z] ∧ Vw H y d ∧ SrcK d ∧ H z = some (.tup [.int ni, .int nr, .int ng]) ∧ Q (.bl (sorD ni nr ng d)) H
theorem ok_sourceD {f fT fB f1 : Addr} {fd fdT fdB fd1 : FuncData} (F : Fun K "is_source" "is_source" sIsSource f fd)
    (GT : FnOk P w K mg base CX0 1 fT fdT ["thing", "many"] (spTupleOf K)) (kT : PySem.W.keepIn K (.ref fT) = true) (bT : Binds K fdT ["thing", "many"] []) (mT : mg "is_tuple_of" = some (.ref fT))
    (GB : FnOk P w K mg base CX0 2 fB fdB ["thing", "limit"] (spBelow K)) (kB : PySem.W.keepIn K (.ref fB) = true) (bB : Binds K fdB ["thing", "limit"] []) (mB : mg "is_below" = some (.ref fB))
    (G1 : FnOk P w K mg base CX0 3 f1 fd1 ["thing"] (spBit K)) (k1 : PySem.W.keepIn K (.ref f1) = true) (b1 : Binds K fd1 ["thing"] []) (m1 : mg "is_bit" = some (.ref f1)) : FnOk P w K mg base CX0 4 f fd ["thing", "sizes"] spSourceD := by
  refine F.ok scSource (fun vs H Q E h => ?_) (fun cdv A outer s H vs Q E hr h => ?_)
  · obtain ⟨y, d, z, ni, nr, ng, rfl, _⟩ := h
    rfl
  · obtain ⟨y, d, z, ni, nr, ng, rfl, hy, hk, ez, q⟩ := h
    refine ⟨_, pss_cons (ps_if (pt_not (pt_val (pe_call GT (hr.mono (by decide)) (by rfl) mT kT bT .nil pass0 (pa_cons (pv 0) (pa_cons pe_int pa_nil))))) (pss_one (ps_ret pe_bl)) pss_nil)
      (pss_cons (ps_asg (pv 0) (pg_tup rfl (pgs_cons (pg_name (i := 2) scSource.nd rfl (Or.inl rfl)) (pgs_cons (pg_name (i := 3) scSource.nd rfl (Or.inl rfl)) pgs_nil))))
      (pss_cons (ps_if (pt_cmpR op_eq (pv 2) pe_str (nomark _)) (pss_one (ps_ret (pe_call GB (hr.mono (by decide)) (by rfl) mB kB bB .nil pass0 (pa_cons (pv 3) (pa_cons (pe_ix (r := rIxT K) ix_tup (pv 1) pe_int (fun _ _ => rfl)) pa_nil))))) pss_nil)
      (pss_cons (ps_if (pt_cmpR op_eq (pv 2) pe_str (nomark _)) (pss_one (ps_ret (pe_call GB (hr.mono (by decide)) (by rfl) mB kB bB .nil pass0 (pa_cons (pv 3) (pa_cons (pe_ix (r := rIxT K) ix_tup (pv 1) pe_int (fun _ _ => rfl)) pa_nil))))) pss_nil)
      (pss_cons (ps_if (pt_cmpR op_eq (pv 2) pe_str (nomark _)) (pss_one (ps_ret (pe_call GB (hr.mono (by decide)) (by rfl) mB kB bB .nil pass0 (pa_cons (pv 3) (pa_cons (pe_ix (r := rIxT K) ix_tup (pv 1) pe_int (fun _ _ => rfl)) pa_nil))))) pss_nil)
      (pss_one (ps_ret (pe_and (pe_cmpR op_eq (pv 2) pe_str (nomark _)) (pe_one (pe_call G1 hr (by rfl) m1 k1 b1 .nil pass0 (pa_cons (pv 3) pa_nil)))))))))), ?_⟩
    rcases hy.two (K := K) with ⟨t, x1, x2, d1, d2, rfl, et, rfl, h1, h2⟩ | ⟨xs, hx, _, no, nd⟩
    case inr =>
      refine ⟨_, rfl, y, tyD d, xs, 2, rfl, hy.ty, hx, _, rfl, ?_⟩
      rw [no]
      rw [sorD_no nd] at q
      exact iteT q
    obtain ⟨kz, rfl⟩ := hk _ _ rfl
    cases h1
    refine ⟨_, rfl, .ref t, "tuple", [.str kz, x2], 2, rfl, tyT et, fun _ => ⟨t, rfl, .inl (.inl et)⟩, _, rfl, ?_⟩
    refine iteF ⟨_, rfl, t, _, rfl, .inl (.inl et), rfl, _, _, rfl, _, _, rfl, rfl, ?_⟩
    have same_ : ∀ a b : Str, a = b → decide (V.str a = V.str b) = true := fun a b h => decide_eq_true (by rw [h])
    have other : ∀ a b : Str, ¬ a = b → decide (V.str a = V.str b) = false := fun a b h => decide_eq_false fun z => h (V.str.inj z)
    have q : Q (.bl (if kz = "in" then belD d2 ni else if kz = "reg" then belD d2 nr else if kz = "gate" then belD d2 ng else decide (kz = "bit") && belD d2 2)) H := q
    refine ⟨_, rfl, rfl, _, rfl, ?_⟩
    show (if decide (V.str kz = V.str "in") = true then _ else _)
    by_cases c1 : kz = "in"
    · rw [same_ _ _ c1]
      rw [if_pos c1, ← h2.bel] at q
      exact iteT ⟨_, rfl, _, rfl, z, _, 0, .int ni, rfl, rfl, .inl (.inl ez), rfl, x2, tyD d2, (ni : Int), rfl, h2.ty, q⟩
    rw [other _ _ c1]
    rw [if_neg c1] at q
    refine iteF ⟨_, rfl, rfl, _, rfl, ?_⟩
    show (if decide (V.str kz = V.str "reg") = true then _ else _)
    by_cases c2 : kz = "reg"
    · rw [same_ _ _ c2]
      rw [if_pos c2, ← h2.bel] at q
      exact iteT ⟨_, rfl, _, rfl, z, _, 1, .int nr, rfl, rfl, .inl (.inl ez), rfl, x2, tyD d2, (nr : Int), rfl, h2.ty, q⟩
    rw [other _ _ c2]
    rw [if_neg c2] at q
    refine iteF ⟨_, rfl, rfl, _, rfl, ?_⟩
    show (if decide (V.str kz = V.str "gate") = true then _ else _)
    by_cases c3 : kz = "gate"
    · rw [same_ _ _ c3]
      rw [if_pos c3, ← h2.bel] at q
      exact iteT ⟨_, rfl, _, rfl, z, _, 2, .int ng, rfl, rfl, .inl (.inl ez), rfl, x2, tyD d2, (ng : Int), rfl, h2.ty, q⟩
    rw [other _ _ c3]
    rw [if_neg c3] at q
    refine iteF ⟨_, rfl, rfl, _, rfl, ?_⟩
    show (if decide (V.str kz = V.str "bit") = true then _ else _)
    by_cases c4 : kz = "bit"
    · rw [same_ _ _ c4]
      rw [decide_eq_true c4, Bool.true_and, ← h2.bel] at q
      exact iteT ⟨_, rfl, x2, tyD d2, rfl, h2.ty, q⟩
    · rw [other _ _ c4]
      rw [decide_eq_false c4, Bool.false_and] at q
      exact iteF q
def spRegisterD : Sp := fun vs H Q _ => ∃ (y : V) (d : PyData) (z : Addr) (ni nr ng : Nat), vs = [y, .ref z] ∧ Vw H y d ∧ RegK d ∧ H z = some (.tup [.int ni, .int nr, .int ng]) ∧ Q (.bl (regiD ni nr ng d)) H
theorem ok_registerD {f fT fS f1 : Addr} {fd fdT fdS fd1 : FuncData} (F : Fun K "is_register" "is_register" sIsRegister f fd)
    (GT : FnOk P w K mg base CX0 1 fT fdT ["thing", "many"] (spTupleOf K)) (kT : PySem.W.keepIn K (.ref fT) = true) (bT : Binds K fdT ["thing", "many"] []) (mT : mg "is_tuple_of" = some (.ref fT))
    (GS : FnOk P w K mg base CX0 4 fS fdS ["thing", "sizes"] spSourceD) (kS : PySem.W.keepIn K (.ref fS) = true) (bS : Binds K fdS ["thing", "sizes"] []) (mS : mg "is_source" = some (.ref fS))
    (G1 : FnOk P w K mg base CX0 3 f1 fd1 ["thing"] (spBit K)) (k1 : PySem.W.keepIn K (.ref f1) = true) (b1 : Binds K fd1 ["thing"] []) (m1 : mg "is_bit" = some (.ref f1)) : FnOk P w K mg base CX0 5 f fd ["thing", "sizes"] spRegisterD := by
  refine F.ok scRegister (fun vs H Q E h => ?_) (fun cdv A outer s H vs Q E hr h => ?_)
  · obtain ⟨y, d, z, ni, nr, ng, rfl, _⟩ := h
    rfl
  · obtain ⟨y, d, z, ni, nr, ng, rfl, hy, hk, ez, q⟩ := h
    refine ⟨_, pss_one (ps_ret (pe_and (pe_call GT (hr.mono (by decide)) (by rfl) mT kT bT .nil pass0 (pa_cons (pv 0) (pa_cons pe_int pa_nil)))
      (pe_and (pe_call G1 (hr.mono (by decide)) (by rfl) m1 k1 b1 .nil pass0 (pa_cons (pe_ix (r := rIxT K) ix_tup (pv 0) pe_int (fun _ _ => rfl)) pa_nil))
        (pe_one (pe_call GS hr (by rfl) mS kS bS .nil pass0 (pa_cons (pe_ix (r := rIxT K) ix_tup (pv 0) pe_int (fun _ _ => rfl)) (pa_cons (pv 1) pa_nil))))))), ?_⟩
    rcases hy.two (K := K) with ⟨t, x1, x2, d1, d2, rfl, et, rfl, h1, h2⟩ | ⟨xs, hx, _, no, nd⟩
    case inr =>
      refine ⟨_, rfl, y, tyD d, xs, 2, rfl, hy.ty, hx, _, rfl, ?_⟩
      rw [no]
      rw [regiD_no nd] at q
      exact iteF q
    refine ⟨_, rfl, .ref t, "tuple", [x1, x2], 2, rfl, tyT et, fun _ => ⟨t, rfl, .inl (.inl et)⟩, _, rfl, ?_⟩
    have q : Q (.bl (belD d1 2 && sorD ni nr ng d2)) H := q
    refine iteT ⟨_, rfl, t, _, 0, x1, rfl, rfl, .inl (.inl et), rfl, x1, tyD d1, rfl, h1.ty, _, rfl, ?_⟩
    rw [← h1.bel] at q
    cases hb : bel x1 2 with
    | false =>
      rw [hb] at q
      exact iteF q
    | true =>
      rw [hb, Bool.true_and] at q
      exact iteT ⟨_, rfl, t, _, 1, x2, rfl, rfl, .inl (.inl et), rfl, _, rfl, x2, d2, z, ni, nr, ng, rfl, h2, hk _ _ rfl, ez, q⟩
def spGateD (TT : List Addr) : Sp := fun vs H Q _ => ∃ (y : V) (d : PyData) (z : Addr) (ni nr ng : Nat), vs = [y, .ref z] ∧ Vw H y d ∧ GateK d ∧ H z = some (.tup [.int ni, .int nr, .int ng]) ∧ TabsG TT H ∧ ∀ H', Ex TT H H' → Q (.bl (gateD ni nr ng d)) H'
theorem ok_gateD {TT : List Addr} {f fT fU fB fS c T : Addr} {fd fdT fdU fdB fdS : FuncData} {tk : Tok} (F : Fun K "is_gate" "is_gate" sIsGate f fd) (hc : fd.code = .ref c) (TB : TabB base mg c T) (hTT : T ∈ TT) (mall : mg "all" = none) (mlen : mg "len" = none) (m4 : mg "MOST_SOURCES" = some (.int 4 tk))
    (GT : FnOk P w K mg base CX0 1 fT fdT ["thing", "many"] (spTupleOf K)) (kT : PySem.W.keepIn K (.ref fT) = true) (bT : Binds K fdT ["thing", "many"] []) (mT : mg "is_tuple_of" = some (.ref fT))
    (GU : FnOk P w K mg base CX0 1 fU fdU ["thing", "most"] (spUpTo K)) (kU : PySem.W.keepIn K (.ref fU) = true) (bU : Binds K fdU ["thing", "most"] []) (mU : mg "is_tuple_up_to" = some (.ref fU))
    (GB : FnOk P w K mg base CX0 5 fB fdB ["thing", "many"] (spBits K TT)) (kB : PySem.W.keepIn K (.ref fB) = true) (bB : Binds K fdB ["thing", "many"] []) (mB : mg "is_bits" = some (.ref fB))
    (GS : FnOk P w K mg base CX0 4 fS fdS ["thing", "sizes"] spSourceD) (kS : PySem.W.keepIn K (.ref fS) = true) (bS : Binds K fdS ["thing", "sizes"] []) (mS : mg "is_source" = some (.ref fS)) : FnOk P w K mg base CX0 6 f fd ["thing", "sizes"] (spGateD TT) := by
  refine okC F hc scGateT (fun vs H Q E h => ?_) (fun A outer s H vs Q E hr h => ?_)
  · obtain ⟨y, d, z, ni, nr, ng, rfl, _⟩ := h
    rfl
  · obtain ⟨y, d, z, ni, nr, ng, rfl, hy, hk, ez, hT, q⟩ := h
    refine ⟨_, pss_cons (ps_if (pt_not (pt_val (pe_call GT (hr.mono (by decide)) (by rfl) mT kT bT .nil pass0 (pa_cons (pv 0) (pa_cons pe_int pa_nil))))) (pss_one (ps_ret pe_bl)) pss_nil)
      (pss_cons (ps_asg (pv 0) (pg_tup rfl (pgs_cons (pg_name (i := 2) scGateT.nd rfl (Or.inl rfl)) (pgs_cons (pg_name (i := 3) scGateT.nd rfl (Or.inl rfl)) pgs_nil))))
      (pss_cons (ps_if (pt_not (pt_val (pe_call GU (hr.mono (by decide)) (by rfl) mU kU bU .nil pass0 (pa_cons (pv 2) (pa_cons (pe_glob (v := .int 4) (by rfl) m4 ⟨_, rfl⟩) pa_nil))))) (pss_one (ps_ret pe_bl)) pss_nil)
      (pss_one (ps_ret (pe_and (pe_call GB hr (by rfl) mB kB bB .nil pass0 (pa_cons (pv 3) (pa_cons (pe_op op_shl pe_int (pe_callB call_len_seq (by rfl) mlen PySem.boot_len (pa_cons (pv 2) pa_nil))) pa_nil)))
        (pe_one (GX.pe_all (own := [("item", 4)]) (k := 4) hr (by rfl) mall TB rfl rfl scGateT.nd (pi_tup (pv 2)) (blkOk_by (N := ["thing", "sizes", "sources", "table", "item"]) (sc := defScope sIsGate) (by decide +kernel)) (GX.genNames_by (by decide +kernel))
          (fun _ _ _ _ _ _ _ => pg_name (i := 4) scGateT.nd rfl (Or.inl rfl)) (fun _ _ _ _ _ _ _ _ => pts_nil) (fun _ _ _ _ _ _ _ hr2 => pe_call GS hr2 (by rfl) mS kS bS .nil pass0 (pa_cons (pv 4) (pa_cons (pv 1) pa_nil)))))))))), ?_⟩
    rcases hy.two (K := K) with ⟨t, x1, x2, d1, d2, rfl, et, rfl, h1, h2⟩ | ⟨xs, hx, _, no, nd⟩
    case inr =>
      refine ⟨_, rfl, y, tyD d, xs, 2, rfl, hy.ty, hx, _, rfl, ?_⟩
      rw [no]
      have q := q H (Ex.refl TT H)
      rw [gateD_no nd] at q
      exact iteT q
    refine ⟨_, rfl, .ref t, "tuple", [x1, x2], 2, rfl, tyT et, fun _ => ⟨t, rfl, .inl (.inl et)⟩, _, rfl, ?_⟩
    refine iteF ⟨_, rfl, t, _, rfl, .inl (.inl et), rfl, _, _, rfl, _, _, rfl, rfl, ?_⟩
    have q : ∀ H', Ex TT H H' → Q (.bl (decide (tyD d1 = "tuple") && decide ((itD d1).length ≤ 4) && (bitsD d2 (2 ^ (itD d1).length) && (itD d1).all (sorD ni nr ng)))) H' := q
    obtain ⟨vs, hv, av⟩ := h1.items (K := K)
    have lv := av.length
    refine ⟨_, rfl, x1, tyD d1, vs, 4, rfl, h1.ty, hv, _, rfl, ?_⟩
    have e0 : decide ((vs.length : Int) ≤ 4) = decide ((itD d1).length ≤ 4) := decide_eq_decide.mpr (by omega)
    rw [e0]
    cases hb : (decide (tyD d1 = "tuple") && decide ((itD d1).length ≤ 4)) with
    | false =>
      have q := q H (Ex.refl TT H)
      rw [hb] at q
      exact iteT q
    | true =>
    rw [hb] at q
    obtain ⟨c1, c2⟩ := (Bool.and_eq_true _ _).mp hb
    have c1 := of_decide_eq_true c1
    have c2 := of_decide_eq_true c2
    obtain ⟨a, rfl, hS⟩ := hv c1
    obtain ⟨bs, hbv, abv⟩ := h2.items (K := K)
    have lb := abv.length
    refine iteF ⟨_, rfl, _, rfl, a, vs, rfl, .inr hS, _, _, rfl, rfl, ⟨by omega, by omega, by decide⟩, x2, tyD d2, bs, _, rfl, h2.ty, hbv, fun _ => abv.tys, hT, fun H1 x1' => ⟨_, rfl, ?_⟩⟩
    have eb : (decide (tyD d2 = "tuple") && decide ((bs.length : Int) = 1 * 2 ^ ((vs.length : Int)).toNat) && bs.all fun y => K02.bel y 2) = bitsD d2 (2 ^ (itD d1).length) := by
      unfold bitsD
      have e3 : decide ((bs.length : Int) = 1 * 2 ^ ((vs.length : Int)).toNat) = decide ((itD d2).length = 2 ^ (itD d1).length) := by
        refine decide_eq_decide.mpr ?_
        have z : (1 * 2 ^ ((vs.length : Int)).toNat : Int) = ((2 ^ (itD d1).length : Nat) : Int) := by
          rw [Int.toNat_natCast, lv, Int.one_mul]
          exact (Int.natCast_pow 2 _).symm
        rw [z]
        omega
      rw [e3, abv.bels]
    rw [eb]
    have hT1 := x1'.tabs hT
    have n1 := x1'.extN hT
    cases hb2 : bitsD d2 (2 ^ (itD d1).length) with
    | false =>
      have q := q H1 x1'
      rw [hb2] at q
      exact iteF q
    | true =>
    have hks := hk _ _ rfl
    rw [hb2] at q
    have q : ∀ H', Ex TT H H' → Q (.bl ((itD d1).all (sorD ni nr ng))) H' := q
    have hS1 := extN_seqT n1 hS
    have av1 := av.ext n1
    refine iteT ⟨_, rfl, a, rfl, ⟨_, hS1⟩, hT1 T hTT, fun H2 hT2 => ⟨fun i m H3 => m + i = vs.length ∧ Ex TT H1 H3 ∧ ((itD d1).take i).all (sorD ni nr ng) = true, ⟨vs.length, rfl, Ex.tabbed hTT hT2, rfl⟩, fun i m H3 hW => ?_⟩⟩
    obtain ⟨em, x3, ha⟩ := hW
    have n3 := x3.extN hT1
    have sq3 := extN_seqT n3 hS1
    by_cases hi : i < vs.length
    · refine .inr ⟨⟨vs, vs[i], sq3, List.getElem?_eq_getElem hi⟩, fun H4 => Ex TT H1 H4 ∧ ((itD d1).take (i + 1)).all (sorD ni nr ng) = true, fun H4 ⟨x4, a4⟩ => ⟨m - 1, by omega, by omega, x4, a4⟩, fun y H4 hy => ?_⟩
      obtain ⟨rfl, hy⟩ := hy
      have ey := hy _ sq3
      obtain ⟨ds, hds, hs⟩ := av1.get ey
      have ez4 := n3 _ _ (n1 _ _ ez (fun _ z => by cases z)) (fun _ z => by cases z)
      refine ⟨rfl, _, rfl, _, rfl, y, ds, z, ni, nr, ng, rfl, hs.ext n3, hks _ (List.mem_of_getElem? hds), ez4, _, rfl, fun hc => ?_, fun hc => ⟨x3, ?_⟩⟩
      · have z := q _ (x1'.trans x3)
        have e : (itD d1).all (sorD ni nr ng) = false := by
          rw [Bool.eq_false_iff]
          intro z
          rw [List.all_eq_true.mp z _ (List.mem_of_getElem? hds)] at hc
          cases hc
        rw [e] at z
        exact z
      · rw [take_snoc hds, List.all_append, ha]
        simpa using hc
    · refine .inl ⟨⟨vs, sq3, by omega⟩, ?_⟩
      have z := q H3 (x1'.trans x3)
      rw [List.take_of_length_le (by omega)] at ha
      rw [ha] at z
      exact z
end
end K02

set_option Elab.async false
set_option linter.all false
set_option maxRecDepth 100000
set_option maxHeartbeats 4000000
/-! is_circuit of any value. -/
namespace K02
open PySem PySem.Spec L2
open PyProof.Rows GenW GxR EZ TK
open LamX (ExtN)
def natD : PyData → Nat
  | .int i => i.toNat
  | _ => 0
def upD (d : PyData) (n : Nat) : Bool := decide (tyD d = "tuple") && decide ((itD d).length ≤ n)
def circD : PyData → Bool
  | .tuple [i, r, g, o] => (belD i 9 && upD r 60) && (upD g 2000 && upD o 60) && ((itD r).all (regiD (natD i) (itD r).length (itD g).length) && ((itD g).all (gateD (natD i) (itD r).length (itD g).length) && (itD o).all (sorD (natD i) (itD r).length (itD g).length)))
  | _ => false
theorem circD_no {d : PyData} (h : ∀ d1 d2 d3 d4, d ≠ .tuple [d1, d2, d3, d4]) : circD d = false := by
  unfold circD
  split
  · exact absurd rfl (h _ _ _ _)
  · rfl
def CircK (d : PyData) : Prop := ∀ i r g o, d = .tuple [i, r, g, o] → (∀ x ∈ itD r, RegK x) ∧ (∀ x ∈ itD g, GateK x) ∧ (∀ x ∈ itD o, SrcK x)
theorem Vw.four {K : PySem.W.Frag} {H : Hp} {v : V} {d : PyData} (h : Vw H v d) : (∃ a x1 x2 x3 x4 d1 d2 d3 d4, v = .ref a ∧ H a = some (.tup [x1, x2, x3, x4]) ∧ d = .tuple [d1, d2, d3, d4] ∧ Vw H x1 d1 ∧ Vw H x2 d2 ∧ Vw H x3 d3 ∧ Vw H x4 d4) ∨
    (∃ xs, TupV K H v (tyD d) xs ∧ (decide (tyD d = "tuple") && decide ((xs.length : Int) = 4)) = false ∧ ∀ d1 d2 d3 d4, d ≠ .tuple [d1, d2, d3, d4]) := by
  cases h with
  | tup e t =>
    rename_i a xs ds
    cases t with
    | nil => exact .inr ⟨[], fun _ => ⟨_, rfl, .inl (.inl e)⟩, rfl, fun _ _ _ _ q => by cases q⟩
    | cons h1 t =>
      cases t with
      | nil => exact .inr ⟨_, fun _ => ⟨_, rfl, .inl (.inl e)⟩, rfl, fun _ _ _ _ q => by cases q⟩
      | cons h2 t =>
        cases t with
        | nil => exact .inr ⟨_, fun _ => ⟨_, rfl, .inl (.inl e)⟩, rfl, fun _ _ _ _ q => by cases q⟩
        | cons h3 t =>
          cases t with
          | nil => exact .inr ⟨_, fun _ => ⟨_, rfl, .inl (.inl e)⟩, rfl, fun _ _ _ _ q => by cases q⟩
          | cons h4 t =>
            cases t with
            | nil => exact .inl ⟨_, _, _, _, _, _, _, _, _, rfl, e, rfl, h1, h2, h3, h4⟩
            | cons h5 t =>
              refine .inr ⟨_, fun _ => ⟨_, rfl, .inl (.inl e)⟩, ?_, fun _ _ _ _ q => by cases q⟩
              rw [Bool.and_eq_false_iff]
              right
              refine decide_eq_false ?_
              simp only [List.length_cons]
              omega
  | _ => exact .inr ⟨[], fun q => absurd q (by simp [tyD]), rfl, fun _ _ _ _ q => by cases q⟩
section
variable {P : Program} {w : World} {K : PySem.W.Frag} {mg : Str → Option Value} {base : Heap}
def spCircuitD (TT : List Addr) : Sp := fun vs H Q _ => ∃ (y : V) (d : PyData), vs = [y] ∧ Vw H y d ∧ CircK d ∧ TabsG TT H ∧ ∀ H', Ex TT H H' → Q (.bl (circD d)) H'
theorem all_no {α : Type} {f : α → Bool} {l : List α} {x : α} {i : Nat} (h : l[i]? = some x) (hc : f x = false) : l.all f = false := by
  rw [Bool.eq_false_iff]
  intro z
  rw [List.all_eq_true.mp z _ (List.mem_of_getElem? h)] at hc
  cases hc
theorem ok_circuitD {TT : List Addr} {f fT fU fL fG fR fS c T : Addr} {fd fdT fdU fdL fdG fdR fdS : FuncData} {tk1 tk2 tk3 tk4 : Tok} (F : Fun K "is_circuit" "is_circuit" sIsCircuit f fd) (hc : fd.code = .ref c) (TB : TabB base mg c T) (hTT : T ∈ TT) (mall : mg "all" = none) (mlen : mg "len" = none)
    (m1 : mg "MOST_INPUTS" = some (.int 8 tk1)) (m2 : mg "MOST_REGISTERS" = some (.int 60 tk2)) (m3 : mg "MOST_GATES" = some (.int 2000 tk3)) (m4 : mg "MOST_OUTPUTS" = some (.int 60 tk4))
    (GT : FnOk P w K mg base CX0 1 fT fdT ["thing", "many"] (spTupleOf K)) (kT : PySem.W.keepIn K (.ref fT) = true) (bT : Binds K fdT ["thing", "many"] []) (mT : mg "is_tuple_of" = some (.ref fT))
    (GU : FnOk P w K mg base CX0 1 fU fdU ["thing", "most"] (spUpTo K)) (kU : PySem.W.keepIn K (.ref fU) = true) (bU : Binds K fdU ["thing", "most"] []) (mU : mg "is_tuple_up_to" = some (.ref fU))
    (GL : FnOk P w K mg base CX0 2 fL fdL ["thing", "limit"] (spBelow K)) (kL : PySem.W.keepIn K (.ref fL) = true) (bL : Binds K fdL ["thing", "limit"] []) (mL : mg "is_below" = some (.ref fL))
    (GR : FnOk P w K mg base CX0 5 fR fdR ["thing", "sizes"] spRegisterD) (kR : PySem.W.keepIn K (.ref fR) = true) (bR : Binds K fdR ["thing", "sizes"] []) (mR : mg "is_register" = some (.ref fR))
    (GG : FnOk P w K mg base CX0 6 fG fdG ["thing", "sizes"] (spGateD TT)) (kG : PySem.W.keepIn K (.ref fG) = true) (bG : Binds K fdG ["thing", "sizes"] []) (mG : mg "is_gate" = some (.ref fG))
    (GS : FnOk P w K mg base CX0 4 fS fdS ["thing", "sizes"] spSourceD) (kS : PySem.W.keepIn K (.ref fS) = true) (bS : Binds K fdS ["thing", "sizes"] []) (mS : mg "is_source" = some (.ref fS)) : FnOk P w K mg base CX0 8 f fd ["thing"] (spCircuitD TT) := by
  refine okC F hc scCircuitT (fun vs H Q E h => ?_) (fun A outer s H vs Q E hr h => ?_)
  · obtain ⟨y, d, rfl, _⟩ := h
    rfl
  · obtain ⟨y, d, rfl, hy, hk, hT, q⟩ := h
    refine ⟨_, pss_cons (ps_if (pt_not (pt_val (pe_call GT (hr.mono (by decide)) (by rfl) mT kT bT .nil pass0 (pa_cons (pv 0) (pa_cons pe_int pa_nil))))) (pss_one (ps_ret pe_bl)) pss_nil)
      (pss_cons (ps_asg (pv 0) (pg_tup rfl (pgs_cons (pg_name (i := 1) scCircuitT.nd rfl (Or.inl rfl)) (pgs_cons (pg_name (i := 2) scCircuitT.nd rfl (Or.inl rfl)) (pgs_cons (pg_name (i := 3) scCircuitT.nd rfl (Or.inl rfl)) (pgs_cons (pg_name (i := 4) scCircuitT.nd rfl (Or.inl rfl)) pgs_nil))))))
      (pss_cons (ps_if (pw_or (pt_not (pt_val (pe_call GL (hr.mono (by decide)) (by rfl) mL kL bL .nil pass0 (pa_cons (pv 1) (pa_cons (pe_op op_add (pe_glob (v := .int 8) (by rfl) m1 ⟨_, rfl⟩) pe_int) pa_nil)))))
          (pw_or1 (pt_not (pt_val (pe_call GU (hr.mono (by decide)) (by rfl) mU kU bU .nil pass0 (pa_cons (pv 2) (pa_cons (pe_glob (v := .int 60) (by rfl) m2 ⟨_, rfl⟩) pa_nil))))))).pt (pss_one (ps_ret pe_bl)) pss_nil)
      (pss_cons (ps_if (pw_or (pt_not (pt_val (pe_call GU (hr.mono (by decide)) (by rfl) mU kU bU .nil pass0 (pa_cons (pv 3) (pa_cons (pe_glob (v := .int 2000) (by rfl) m3 ⟨_, rfl⟩) pa_nil)))))
          (pw_or1 (pt_not (pt_val (pe_call GU (hr.mono (by decide)) (by rfl) mU kU bU .nil pass0 (pa_cons (pv 4) (pa_cons (pe_glob (v := .int 60) (by rfl) m4 ⟨_, rfl⟩) pa_nil))))))).pt (pss_one (ps_ret pe_bl)) pss_nil)
      (pss_cons (ps_set (i := 5) scCircuitT.nd rfl (Or.inr rfl) (pe_tup (pa_cons (pv 1) (pa_cons (pe_callB call_len_seq (by rfl) mlen PySem.boot_len (pa_cons (pv 2) pa_nil)) (pa_cons (pe_callB call_len_seq (by rfl) mlen PySem.boot_len (pa_cons (pv 3) pa_nil)) pa_nil)))))
      (pss_cons (ps_if (pt_not (pt_val (GX.pe_all (own := [("item", 6)]) (k := 5) (hr.mono (by decide)) (by rfl) mall TB rfl rfl scCircuitT.nd (pi_tup (pv 2)) (blkOk_by (N := ["thing", "inputs", "registers", "gates", "outputs", "sizes", "item"]) (sc := defScope sIsCircuit) (by decide +kernel)) (GX.genNames_by (by decide +kernel))
          (fun _ _ _ _ _ _ _ => pg_name (i := 6) scCircuitT.nd rfl (Or.inl rfl)) (fun _ _ _ _ _ _ _ _ => pts_nil) (fun _ _ _ _ _ _ _ hr2 => pe_call GR hr2 (by rfl) mR kR bR .nil pass0 (pa_cons (pv 6) (pa_cons (pv 5) pa_nil)))))) (pss_one (ps_ret pe_bl)) pss_nil)
      (pss_cons (ps_if (pt_not (pt_val (GX.pe_all (own := [("item", 6)]) (k := 6) hr (by rfl) mall TB rfl rfl scCircuitT.nd (pi_tup (pv 3)) (blkOk_by (N := ["thing", "inputs", "registers", "gates", "outputs", "sizes", "item"]) (sc := defScope sIsCircuit) (by decide +kernel)) (GX.genNames_by (by decide +kernel))
          (fun _ _ _ _ _ _ _ => pg_name (i := 6) scCircuitT.nd rfl (Or.inl rfl)) (fun _ _ _ _ _ _ _ _ => pts_nil) (fun _ _ _ _ _ _ _ hr2 => pe_call GG hr2 (by rfl) mG kG bG .nil pass0 (pa_cons (pv 6) (pa_cons (pv 5) pa_nil)))))) (pss_one (ps_ret pe_bl)) pss_nil)
      (pss_one (ps_ret (GX.pe_all (own := [("item", 6)]) (k := 4) (hr.mono (by decide)) (by rfl) mall TB rfl rfl scCircuitT.nd (pi_tup (pv 4)) (blkOk_by (N := ["thing", "inputs", "registers", "gates", "outputs", "sizes", "item"]) (sc := defScope sIsCircuit) (by decide +kernel)) (GX.genNames_by (by decide +kernel))
          (fun _ _ _ _ _ _ _ => pg_name (i := 6) scCircuitT.nd rfl (Or.inl rfl)) (fun _ _ _ _ _ _ _ _ => pts_nil) (fun _ _ _ _ _ _ _ hr2 => pe_call GS hr2 (by rfl) mS kS bS .nil pass0 (pa_cons (pv 6) (pa_cons (pv 5) pa_nil)))))))))))), ?_⟩
    rcases hy.four (K := K) with ⟨t, x1, x2, x3, x4, d1, d2, d3, d4, rfl, et, rfl, h1, h2, h3, h4⟩ | ⟨xs, hx, no, nd⟩
    case inr =>
      refine ⟨_, rfl, y, tyD d, xs, 4, rfl, hy.ty, hx, _, rfl, ?_⟩
      have q := q H (Ex.refl TT H)
      rw [circD_no nd] at q
      rw [no]
      exact iteT q
    obtain ⟨kr, kg, ks⟩ := hk _ _ _ _ rfl
    have q : ∀ H', Ex TT H H' → Q (.bl ((belD d1 9 && upD d2 60) && (upD d3 2000 && upD d4 60) && ((itD d2).all (regiD (natD d1) (itD d2).length (itD d3).length) && ((itD d3).all (gateD (natD d1) (itD d2).length (itD d3).length) && (itD d4).all (sorD (natD d1) (itD d2).length (itD d3).length))))) H' := q
    refine ⟨_, rfl, .ref t, "tuple", [x1, x2, x3, x4], 4, rfl, tyT et, fun _ => ⟨t, rfl, .inl (.inl et)⟩, _, rfl, ?_⟩
    refine iteF ⟨_, rfl, t, _, rfl, .inl (.inl et), rfl, _, _, rfl, _, _, rfl, _, _, rfl, _, _, rfl, rfl, ?_⟩
    obtain ⟨rs, hrs, ars⟩ := h2.items (K := K)
    obtain ⟨gs, hgs, ags⟩ := h3.items (K := K)
    obtain ⟨os, hos, aos⟩ := h4.items (K := K)
    have lr := ars.length
    have lg := ags.length
    have lo := aos.length
    have fin : ∀ {b : Bool}, ((belD d1 9 && upD d2 60) && (upD d3 2000 && upD d4 60)) = b → b = false → Q (.bl false) H := fun e1 e2 => by
      have q := q H (Ex.refl TT H)
      rw [e1, e2] at q
      exact q
    have u2 : (decide (tyD d2 = "tuple") && decide ((rs.length : Int) ≤ 60)) = upD d2 60 := by
      unfold upD
      rw [show decide ((rs.length : Int) ≤ 60) = decide ((itD d2).length ≤ 60) from decide_eq_decide.mpr (by omega)]
    have u3 : (decide (tyD d3 = "tuple") && decide ((gs.length : Int) ≤ 2000)) = upD d3 2000 := by
      unfold upD
      rw [show decide ((gs.length : Int) ≤ 2000) = decide ((itD d3).length ≤ 2000) from decide_eq_decide.mpr (by omega)]
    have u4 : (decide (tyD d4 = "tuple") && decide ((os.length : Int) ≤ 60)) = upD d4 60 := by
      unfold upD
      rw [show decide ((os.length : Int) ≤ 60) = decide ((itD d4).length ≤ 60) from decide_eq_decide.mpr (by omega)]
    refine ⟨_, rfl, _, _, rfl, rfl, x1, tyD d1, 9, rfl, h1.ty, _, rfl, ?_⟩
    rw [h1.bel]
    cases b1 : belD d1 9 with
    | false => exact iteT (fin rfl (by rw [b1]; rfl))
    | true =>
    refine iteF ⟨_, rfl, x2, tyD d2, rs, 60, rfl, h2.ty, hrs, _, rfl, ?_⟩
    rw [u2]
    cases b2 : upD d2 60 with
    | false => exact iteT (fin rfl (by rw [b2, Bool.and_false]; rfl))
    | true =>
    refine iteF ⟨_, rfl, x3, tyD d3, gs, 2000, rfl, h3.ty, hgs, _, rfl, ?_⟩
    rw [u3]
    cases b3 : upD d3 2000 with
    | false => exact iteT (fin rfl (by rw [b3, Bool.false_and, Bool.and_false]))
    | true =>
    refine iteF ⟨_, rfl, x4, tyD d4, os, 60, rfl, h4.ty, hos, _, rfl, ?_⟩
    rw [u4]
    cases b4 : upD d4 60 with
    | false => exact iteT (fin rfl (by rw [b4, Bool.and_false, Bool.and_false]))
    | true =>
    rw [b1, b2, b3, b4] at q
    obtain ⟨ra, rfl, sr⟩ := hrs (of_decide_eq_true ((Bool.and_eq_true _ _).mp b2).1)
    obtain ⟨ga, rfl, sg⟩ := hgs (of_decide_eq_true ((Bool.and_eq_true _ _).mp b3).1)
    obtain ⟨oa, rfl, so⟩ := hos (of_decide_eq_true ((Bool.and_eq_true _ _).mp b4).1)
    obtain ⟨n, rfl⟩ : ∃ n : Nat, d1 = .int n := by
      cases d1 with
      | int i =>
        have b1 : (decide (0 ≤ i) && decide (i < 9)) = true := b1
        simp only [Bool.and_eq_true, decide_eq_true_eq] at b1
        exact ⟨i.toNat, by rw [Int.toNat_of_nonneg b1.1]⟩
      | _ => cases b1
    cases h1
    have en : natD (.int (n : Int)) = n := Int.toNat_natCast n
    rw [en] at q
    generalize hnr : (itD d2).length = nr at q
    generalize hng : (itD d3).length = ng at q
    have q : ∀ H', Ex TT H H' → Q (.bl ((itD d2).all (regiD n nr ng) && ((itD d3).all (gateD n nr ng) && (itD d4).all (sorD n nr ng)))) H' := q
    refine iteF ⟨_, rfl, _, rfl, ra, rs, rfl, .inr sr, _, rfl, ga, gs, rfl, .inr sg, (show 3 ≤ sizeLine by decide +kernel), fun z nz => ?_⟩
    have xz : Ex TT H (L2.upd H z (.tup [.int n, .int rs.length, .int gs.length])) := Ex.same (same_new nz)
    have ez : (L2.upd H z (.tup [.int n, .int rs.length, .int gs.length])) z = some (.tup [.int n, .int nr, .int ng]) := by
      rw [upd_same, lr, lg, hnr, hng]
    revert xz ez
    generalize (L2.upd H z (.tup [.int n, .int rs.length, .int gs.length])) = Hz
    intro xz ez
    have hTz := xz.tabs hT
    have nz1 := xz.extN hT
    have srz := extN_seqT nz1 sr
    have sgz := extN_seqT nz1 sg
    have soz := extN_seqT nz1 so
    have arz := ars.ext nz1
    have agz := ags.ext nz1
    have aoz := aos.ext nz1
    refine ⟨_, rfl, ra, rfl, ⟨_, srz⟩, hTz T hTT, fun H2 hT2 => ⟨fun i m H3 => m + i = rs.length ∧ Ex TT Hz H3 ∧ ((itD d2).take i).all (regiD n nr ng) = true, ⟨rs.length, rfl, Ex.tabbed hTT hT2, rfl⟩, fun i m H3 hW => ?_⟩⟩
    obtain ⟨em, x3, ha⟩ := hW
    have n3 := x3.extN hTz
    have sq3 := extN_seqT n3 srz
    by_cases hi : i < rs.length
    · refine .inr ⟨⟨rs, rs[i], sq3, List.getElem?_eq_getElem hi⟩, fun H4 => Ex TT Hz H4 ∧ ((itD d2).take (i + 1)).all (regiD n nr ng) = true, fun H4 ⟨x4, a4⟩ => ⟨m - 1, by omega, by omega, x4, a4⟩, fun y H4 hy => ?_⟩
      obtain ⟨rfl, hy⟩ := hy
      have ey := hy _ sq3
      obtain ⟨r, hr1, hs⟩ := arz.get ey
      refine ⟨rfl, _, rfl, _, rfl, y, r, z, n, nr, ng, rfl, hs.ext n3, kr _ (List.mem_of_getElem? hr1), n3 _ _ ez (fun _ z => by cases z), _, rfl, fun hc => ?_, fun hc => ⟨x3, ?_⟩⟩
      · have z := q H4 (xz.trans x3)
        rw [all_no hr1 hc] at z
        exact ⟨_, rfl, iteT z⟩
      · rw [take_snoc hr1, List.all_append, ha]
        simpa using hc
    · refine .inl ⟨⟨rs, sq3, by omega⟩, _, rfl, ?_⟩
      rw [List.take_of_length_le (by omega)] at ha
      refine iteF ?_
      rw [ha] at q
      have q : ∀ H', Ex TT H H' → Q (.bl ((itD d3).all (gateD n nr ng) && (itD d4).all (sorD n nr ng))) H' := q
      have hT3 := x3.tabs hTz
      have sg3 := extN_seqT n3 sgz
      have ag3 := agz.ext n3
      have xa := xz.trans x3
      have ez3 := n3 _ _ ez (fun _ z => by cases z)
      refine ⟨_, rfl, ga, rfl, ⟨_, sg3⟩, hT3 T hTT, fun H5 hT5 => ⟨fun i m H6 => m + i = gs.length ∧ Ex TT H3 H6 ∧ ((itD d3).take i).all (gateD n nr ng) = true, ⟨gs.length, rfl, Ex.tabbed hTT hT5, rfl⟩, fun i m H6 hW => ?_⟩⟩
      obtain ⟨em, x6, ha6⟩ := hW
      have n6 := x6.extN hT3
      have sq6 := extN_seqT n6 sg3
      by_cases hi : i < gs.length
      · refine .inr ⟨⟨gs, gs[i], sq6, List.getElem?_eq_getElem hi⟩, fun H7 => Ex TT H3 H7 ∧ ((itD d3).take (i + 1)).all (gateD n nr ng) = true, fun H7 ⟨x7, a7⟩ => ⟨m - 1, by omega, by omega, x7, a7⟩, fun y H7 hy => ?_⟩
        obtain ⟨rfl, hy⟩ := hy
        have ey := hy _ sq6
        obtain ⟨g, hg1, hs⟩ := ag3.get ey
        refine ⟨rfl, _, rfl, _, rfl, y, g, z, n, nr, ng, rfl, hs.ext n6, kg _ (List.mem_of_getElem? hg1), n6 _ _ ez3 (fun _ z => by cases z), x6.tabs hT3, fun H8 x8 => ⟨_, rfl, fun hc => ?_, fun hc => ⟨x6.trans x8, ?_⟩⟩⟩
        · have z := q H8 ((xa.trans x6).trans x8)
          rw [all_no hg1 hc] at z
          exact ⟨_, rfl, iteT z⟩
        · rw [take_snoc hg1, List.all_append, ha6]
          simpa using hc
      · refine .inl ⟨⟨gs, sq6, by omega⟩, _, rfl, ?_⟩
        rw [List.take_of_length_le (by omega)] at ha6
        refine iteF ?_
        rw [ha6] at q
        have q : ∀ H', Ex TT H H' → Q (.bl ((itD d4).all (sorD n nr ng))) H' := q
        have hT6 := x6.tabs hT3
        have xb := xa.trans x6
        have so6 := extN_seqT n6 (extN_seqT n3 soz)
        have ao6 := (aoz.ext n3).ext n6
        have ez6 := n6 _ _ ez3 (fun _ z => by cases z)
        refine ⟨_, rfl, oa, rfl, ⟨_, so6⟩, hT6 T hTT, fun H9 hT9 => ⟨fun i m H6' => m + i = os.length ∧ Ex TT H6 H6' ∧ ((itD d4).take i).all (sorD n nr ng) = true, ⟨os.length, rfl, Ex.tabbed hTT hT9, rfl⟩, fun i m Ha hW => ?_⟩⟩
        obtain ⟨em, xc, hac⟩ := hW
        have nc := xc.extN hT6
        have sqc := extN_seqT nc so6
        by_cases hi : i < os.length
        · refine .inr ⟨⟨os, os[i], sqc, List.getElem?_eq_getElem hi⟩, fun H7 => Ex TT H6 H7 ∧ ((itD d4).take (i + 1)).all (sorD n nr ng) = true, fun H7 ⟨x7, a7⟩ => ⟨m - 1, by omega, by omega, x7, a7⟩, fun y H7 hy => ?_⟩
          obtain ⟨rfl, hy⟩ := hy
          have ey := hy _ sqc
          obtain ⟨o, ho1, hs⟩ := ao6.get ey
          refine ⟨rfl, _, rfl, _, rfl, y, o, z, n, nr, ng, rfl, hs.ext nc, ks _ (List.mem_of_getElem? ho1), nc _ _ ez6 (fun _ z => by cases z), _, rfl, fun hc => ?_, fun hc => ⟨xc, ?_⟩⟩
          · have z := q H7 (xb.trans xc)
            rw [all_no ho1 hc] at z
            exact z
          · rw [take_snoc ho1, List.all_append, hac]
            simpa using hc
        · refine .inl ⟨⟨os, sqc, by omega⟩, ?_⟩
          have z := q Ha (xb.trans xc)
          rw [List.take_of_length_le (by omega)] at hac
          rw [hac] at z
          exact z
end
end K02

set_option Elab.async false
set_option linter.all false
set_option maxRecDepth 100000
set_option maxHeartbeats 2000000
/-! check_circuit of any value. -/
namespace K02
open PySem PySem.Spec L2
open PyProof.Rows GenW GxR EZ TK
open LamX (ExtN)
theorem tyD_tup {d : PyData} (h : tyD d = "tuple") : ∃ ds, d = .tuple ds := by
  cases d with
  | tuple ds => exact ⟨ds, rfl⟩
  | _ => exact absurd h (by simp [tyD])
theorem belD_nat {d : PyData} {l : Int} (h : belD d l = true) : ∃ n : Nat, d = .int (n : Int) ∧ (n : Int) < l := by
  cases d with
  | int i =>
    have h : (decide (0 ≤ i) && decide (i < l)) = true := h
    simp only [Bool.and_eq_true, decide_eq_true_eq] at h
    exact ⟨i.toNat, by rw [Int.toNat_of_nonneg h.1], by omega⟩
  | _ => cases h
theorem circD_ex {d : PyData} (h : circD d = true) : ∃ (n : Nat) (rs gs os : List PyData), d = .tuple [.int (n : Int), .tuple rs, .tuple gs, .tuple os] ∧ n ≤ 8 ∧ rs.length ≤ 60 ∧ gs.length ≤ 2000 ∧ os.length ≤ 60 := by
  unfold circD at h
  split at h
  · rename_i i r g o
    simp only [Bool.and_eq_true] at h
    obtain ⟨⟨⟨h1, h2⟩, h3, h4⟩, _⟩ := h
    obtain ⟨n, rfl, hn⟩ := belD_nat h1
    unfold upD at h2 h3 h4
    simp only [Bool.and_eq_true, decide_eq_true_eq] at h2 h3 h4
    obtain ⟨rs, rfl⟩ := tyD_tup h2.1
    obtain ⟨gs, rfl⟩ := tyD_tup h3.1
    obtain ⟨os, rfl⟩ := tyD_tup h4.1
    exact ⟨n, rs, gs, os, rfl, by omega, h2.2, h3.2, h4.2⟩
  · cases h
def atD (d : PyData) (i : Nat) : PyData := (itD d).getD i .none
section
variable {P : Program} {w : World} {K : PySem.W.Frag} {mg : Str → Option Value} {base : Heap}
def spCheckCD (TT : List Addr) (CC : Addr) : Sp := fun vs H Q E => ∃ (y : V) (d : PyData), vs = [y] ∧ Vw H y d ∧ CircK d ∧ TabsG TT H ∧ ∀ H', Ex TT H H' → (circD d = true → Q .non H') ∧ (circD d = false → E (.ref CC) none H')
theorem ok_checkCD {TT : List Addr} {f fC c CC : Addr} {fd fdC : FuncData} (F : Fun K "check_circuit" "check_circuit" sCheckCircuit f fd) (hc : fd.code = .ref c)
    (xC : PySem.W.excIn K CC [.type "ValueError", .type "Exception", .type "BaseException", .type "object"] "ValueError.__new__" = true) (gC : mg "BadCircuit" = some (.ref CC)) (kCC : PySem.W.keepIn K (.ref CC) = true) (bCC : PySem.W.subIn K (.ref CC) (.type "BaseException") = some true) (tCC : PySem.W.typeIn K (.ref CC) = some (.type "type"))
    (GC : FnOk P w K mg base CX0 8 fC fdC ["thing"] (spCircuitD TT)) (kC : PySem.W.keepIn K (.ref fC) = true) (bC : Binds K fdC ["thing"] []) (mC : mg "is_circuit" = some (.ref fC)) :
    FnOk P w K mg base (L2.CX P w) 9 f fd ["circuit"] (spCheckCD TT CC) := by
  refine okCX F hc scCheckC (fun vs H Q E h => ?_) (fun A outer s H vs Q E hr h => ?_)
  · obtain ⟨y, d, rfl, _⟩ := h
    rfl
  · obtain ⟨y, d, rfl, hy, hk, hT, q⟩ := h
    refine ⟨_, pss_one (ps_if (pt_not (pt_val (pe_call GC hr (by rfl) mC kC bC .nil pass0 (pa_cons (pv 0) pa_nil))))
        (pss_one (ps_raise rfl (takes_of rfl rfl rfl rfl) (pmk_own PySem.F.excBase_ValueError xC gC kCC (raises_own bCC tCC) (by rfl)))) pss_nil), ?_⟩
    refine ⟨_, rfl, y, d, rfl, hy, hk, hT, fun H' x => ⟨_, rfl, ?_⟩⟩
    cases hb : circD d with
    | true => exact iteF ((q H' x).1 hb)
    | false => exact iteT ((q H' x).2 hb)
end
end K02

set_option Elab.async false
set_option linter.all false
set_option maxRecDepth 100000
set_option maxHeartbeats 4000000
/-! The law's drawn sources and circuits. -/
namespace K02
open PySem PySem.Spec L2
open PyProof.Rows GenW GxR EZ TK
open LamX (ExtN)
abbrev sSomeSource : Stmt := top 39 -- _law_some_source
/-- a statement behind which ways come together -/
theorem ps_join {X : Cx} {st : Stmt} {t : TS} (h : PS X st t) : PS X st (fun D σ H => ∃ Pv : L2.St → Hp → Prop, t { D with nx := Pv } σ H ∧ ∀ σ' H', Pv σ' H' → D.nx σ' H') := by
  refine ⟨fun pins s σ H D I ⟨Pv, a, b⟩ => wpAny_mono (h.run pins s σ H _ I a) (fun f s' sp => ?_) fun _ _ x => x⟩
  cases f with
  | next =>
    obtain ⟨σ', H', I', q⟩ := sp
    exact ⟨σ', H', I', b _ _ q⟩
  | brk => exact sp
  | cont => exact sp
  | ret u => exact sp
theorem pe_join {X : Cx} {e : Expr} {t : TE} (h : PE X e t) : PE X e (fun σ H Q => ∃ R : VK, t σ H R ∧ ∀ x H', R x H' → Q x H') := by
  refine ⟨fun pins s σ H Q I ⟨R, a, b⟩ => wpAny_mono (h.run pins s σ H _ I a) (fun u s' sp => ?_) fun _ _ x => x⟩
  obtain ⟨v, H', I', r, q⟩ := sp
  exact ⟨v, H', I', r, b _ _ q⟩
theorem SrcAt.but {st lg cl : Addr} {H H' : Hp} {t : Nat} {y : V} {s : Src} (h : SrcAt H y s) (U : But st lg H H') (S : StOk H st lg cl t) : SrcAt H' y s := by
  obtain ⟨a, e, b⟩ := h
  exact ⟨a, e, U.keepO S b (fun _ z => by cases z) (fun _ z => by cases z)⟩
/-- a list of sources to pick from -/
def SomeS (st lg : Addr) (H : Hp) (ni nr ng n : Nat) (v : V) : Prop := ∃ a vs, v = .ref a ∧ a ≠ st ∧ a ≠ lg ∧ H a = some (.lst vs) ∧ 0 < vs.length ∧ vs.length ≤ n ∧ ∀ x ∈ vs, ∃ s : Src, SrcAt H x s ∧ s.ok ni nr ng
theorem flat_one {α : Type} (x : α) (n : Nat) : (List.replicate n [x]).flatten = List.replicate n x := rep_one x n
section
variable {P : Program} {w : World} {K : PySem.W.Frag} {mg : Str → Option Value} {base : Heap}
def spSomeS : Sp := fun vs H Q _ => ∃ (st lg cl : Addr) (t ni nr ng : Nat), vs = [.ref st, .int (ni : Int), .int (nr : Int), .int (ng : Int)] ∧ ni ≤ 8 ∧ nr ≤ 60 ∧ ng ≤ 2000 ∧ t + 100 < 1000000000 ∧ StOk H st lg cl t ∧
  ∀ (x : V) (s : Src) (H' : Hp), SrcAt H' x s → s.ok ni nr ng → StOk H' st lg cl (t + 5) → But st lg H H' → Q x H'
theorem scSS : FnScope ["state", "inputs", "registers", "gates", "some"] ["state", "inputs", "registers", "gates"] (defScope sSomeSource) := ⟨rfl, rfl, rfl, by decide +kernel, rfl, by decide +kernel, by decide +kernel⟩
/-- a list with several new sources behind it, all one -/
theorem some_more {H H1 : Hp} {st lg cl : Addr} {t t1 ni nr ng n : Nat} {v : V} {s : Src} {k : Int} {Q : VK} (h : SomeS st lg H ni nr ng n v) (U : But st lg H H1) (S : StOk H st lg cl t) (S1 : StOk H1 st lg cl t1) (ok : s.ok ni nr ng) (hk : n + k.toNat ≤ 1000)
    (q : ∀ v' H', SomeS st lg H' ni nr ng (n + k.toNat) v' → Same H1 H' → Q v' H') : ∀ p, H1 p = none → ∀ p2, (L2.upd H1 p (.tup [.str s.kind, .int s.at_])) p2 = none → ∀ p3, (L2.upd (L2.upd H1 p (.tup [.str s.kind, .int s.at_])) p2 (.lst [.ref p])) p3 = none →
      rCat v (.ref p3) (L2.upd (L2.upd (L2.upd H1 p (.tup [.str s.kind, .int s.at_])) p2 (.lst [.ref p])) p3 (.lst (List.replicate k.toNat [V.ref p]).flatten)) Q := by
  intro p np p2 np2 p3 np3
  obtain ⟨a, vs, rfl, na1, na2, ea, l0, l1, hv⟩ := h
  have s1 := same_new (o := .tup [.str s.kind, .int s.at_]) np
  have ep : (L2.upd H1 p (.tup [.str s.kind, .int s.at_])) p = some (.tup [.str s.kind, .int s.at_]) := upd_same
  generalize L2.upd H1 p (.tup [.str s.kind, .int s.at_]) = Ha at s1 ep np2 np3
  have s2 := same_new (o := .lst [.ref p]) np2
  generalize L2.upd Ha p2 (.lst [.ref p]) = Hb at s2 np3
  have s3 := same_new (o := .lst (List.replicate k.toNat [V.ref p]).flatten) np3
  have e3 : (L2.upd Hb p3 (.lst (List.replicate k.toNat [V.ref p]).flatten)) p3 = some (.lst (List.replicate k.toNat [V.ref p]).flatten) := upd_same
  generalize L2.upd Hb p3 (.lst (List.replicate k.toNat [V.ref p]).flatten) = Hc at s3 e3
  have s13 := s1.trans (s2.trans s3)
  rw [flat_one] at e3
  have lr : (List.replicate k.toNat (V.ref p)).length = k.toNat := List.length_replicate
  refine ⟨a, p3, vs, _, rfl, rfl, s13 _ _ (U _ _ ea na1 na2), e3, Nat.le_of_lt (small1000 (by omega)), fun p4 np4 => ?_⟩
  have s4 := same_new (o := .lst (vs ++ List.replicate k.toNat (V.ref p))) np4
  have n4 := But.st_new (o := .tup []) S1 (s13.free np4)
  refine q _ _ ⟨p4, _, rfl, n4.1, n4.2, upd_same, by rw [List.length_append]; omega, by rw [List.length_append]; omega, fun x hx => ?_⟩ (s13.trans s4)
  rcases List.mem_append.mp hx with z | z
  · obtain ⟨sr, h1, h2⟩ := hv x z
    exact ⟨sr, (h1.but U S).ext (extN_same (s13.trans s4)), h2⟩
  · rw [List.eq_of_mem_replicate z]
    exact ⟨s, ⟨p, rfl, s4 _ _ (s3 _ _ (s2 _ _ ep))⟩, ok⟩
theorem ok_someS {f : Addr} {fd : FuncData} (F : Fun K "_law_some_source" "_law_some_source" sSomeSource f fd) (cD : Cal P w K mg base CX0 1 "_law_draw" ["state", "size_here"] spDraw) (cK : Cal P w K mg base CX0 2 "_law_pick" ["state", "several"] (spPick K)) :
    FnOk P w K mg base CX0 3 f fd ["state", "inputs", "registers", "gates"] spSomeS := by
  obtain ⟨fD, fdD, GD, kD, bD, mD⟩ := cD
  obtain ⟨fK, fdK, GK, kK, bK, mK⟩ := cK
  refine F.ok scSS (fun vs H Q E h => ?_) (fun cdv A outer s H vs Q E hr h => ?_)
  · obtain ⟨st, lg, cl, t, ni, nr, ng, rfl, _⟩ := h
    rfl
  · obtain ⟨st, lg, cl, t, ni, nr, ng, rfl, l1, l2, l3, ht, S, q⟩ := h
    refine ⟨_, (pss_cons (ps_set (i := 4) scSS.nd rfl (Or.inl rfl) (pe_lst (pa_cons (pe_tup (pa_cons pe_str (pa_cons (pe_call GD (hr.mono (by decide)) (by rfl) mD kD bD .nil pass0 (pa_cons (pv 0) (pa_cons pe_int pa_nil))) pa_nil))) pa_nil)))
      (pss_cons (ps_join (ps_if (pt_cmpR op_gt (pv 1) pe_int (nomark _)) (pss_one (ps_set (i := 4) scSS.nd rfl (Or.inl rfl) (pe_op op_cat (pv 4) (pe_op op_rep (pe_lst (pa_cons (pe_tup (pa_cons pe_str (pa_cons (pe_call GD (hr.mono (by decide)) (by rfl) mD kD bD .nil pass0 (pa_cons (pv 0) (pa_cons (pv 1) pa_nil))) pa_nil))) pa_nil)) pe_int)))) pss_nil))
      (pss_cons (ps_join (ps_if (pt_cmpR op_gt (pv 2) pe_int (nomark _)) (pss_one (ps_set (i := 4) scSS.nd rfl (Or.inl rfl) (pe_op op_cat (pv 4) (pe_op op_rep (pe_lst (pa_cons (pe_tup (pa_cons pe_str (pa_cons (pe_call GD (hr.mono (by decide)) (by rfl) mD kD bD .nil pass0 (pa_cons (pv 0) (pa_cons (pv 2) pa_nil))) pa_nil))) pa_nil)) pe_int)))) pss_nil))
      (pss_cons (ps_join (ps_if (pt_cmpR op_gt (pv 3) pe_int (nomark _)) (pss_one (ps_set (i := 4) scSS.nd rfl (Or.inl rfl) (pe_op op_cat (pv 4) (pe_op op_rep (pe_lst (pa_cons (pe_tup (pa_cons pe_str (pa_cons (pe_call GD (hr.mono (by decide)) (by rfl) mD kD bD .nil pass0 (pa_cons (pv 0) (pa_cons (pv 3) pa_nil))) pa_nil))) pa_nil)) pe_int)))) pss_nil))
      (pss_one (ps_ret (pe_call GK (hr.mono (by decide)) (by rfl) mK kK bK .nil pass0 (pa_cons (pv 0) (pa_cons (pv 4) pa_nil))))))))), ?_⟩
    refine ⟨_, rfl, st, lg, cl, t, 2, rfl, by decide, by decide, by omega, S, fun k H1 k0 k2 S1 U1 => ⟨(by show 2 ≤ sizeLine; decide), fun p np => ⟨(by show 1 ≤ sizeLine; decide), fun p2 np2 => ?_⟩⟩⟩
    obtain ⟨b, eb⟩ := bits01 k0 k2
    have s1 := same_new (o := .tup [.str "bit", .int k]) np
    have ep : (L2.upd H1 p (.tup [.str "bit", .int k])) p = some (.tup [.str "bit", .int k]) := upd_same
    generalize L2.upd H1 p (.tup [.str "bit", .int k]) = Ha at s1 ep np2
    have s2 := same_new (o := .lst [.ref p]) np2
    have n2 := But.st_new (o := .tup []) S1 (s1.free np2)
    have some0 : SomeS st lg (L2.upd Ha p2 (.lst [.ref p])) ni nr ng 1 (.ref p2) := ⟨p2, [.ref p], rfl, n2.1, n2.2, upd_same, (show 0 < 1 by decide), Nat.le_refl _, fun x hx => by
      rw [List.mem_singleton.mp hx]
      refine ⟨.bit b, ⟨p, rfl, ?_⟩, trivial⟩
      rw [s2 _ _ ep, eb]
      rfl⟩
    have S2 := S1.keep (s1.trans s2)
    have U2 := U1.trans (But.of (s1.trans s2))
    generalize L2.upd Ha p2 (.lst [.ref p]) = H2 at some0 S2 U2
    refine ⟨fun σ Hx => ∃ v, σ = [some (.ref st), some (.int (ni : Int)), some (.int (nr : Int)), some (.int (ng : Int)), some v] ∧ SomeS st lg Hx ni nr ng 4 v ∧ StOk Hx st lg cl (t + 2) ∧ But st lg H Hx, ⟨_, rfl, _, _, rfl, rfl, _, rfl, ite2 (fun e => ?_) (fun e => ?_)⟩, ?_⟩
    · have hpos : 0 < ni := by have := of_decide_eq_true e; omega
      refine ⟨_, rfl, _, rfl, _, rfl, st, lg, cl, t + 1, (ni : Int), rfl, by omega, by omega, by omega, S2, fun k H3 k0 k2 S3 U3 => ⟨(by show 2 ≤ sizeLine; decide), fun p np => ⟨(by show 1 ≤ sizeLine; decide), fun p2 np2 => ⟨p2, 3, _, rfl, rfl, upd_same, by decide, by decide, (by show 1 * 3 ≤ sizeLine; decide), fun p3 np3 => ?_⟩⟩⟩⟩
      obtain ⟨i, rfl⟩ : ∃ i : Nat, k = i := ⟨k.toNat, (Int.toNat_of_nonneg k0).symm⟩
      exact some_more (s := .inp i) (k := 3) some0 U3 S2 S3 (show i < ni by omega) (by decide) (fun v' H' hs sm => ⟨v', rfl, hs, S3.keep sm, (U2.trans U3).trans (But.of sm)⟩) p np p2 np2 p3 np3
    · exact ⟨_, rfl, by obtain ⟨a, vs, x1, x2, x3, x4, x5, x6, x7⟩ := some0; exact ⟨a, vs, x1, x2, x3, x4, x5, by omega, x7⟩, S2.up (by omega), U2⟩
    rintro σ H3 ⟨v3, rfl, some3, S3, U3⟩
    refine ⟨fun σ Hx => ∃ v, σ = [some (.ref st), some (.int (ni : Int)), some (.int (nr : Int)), some (.int (ng : Int)), some v] ∧ SomeS st lg Hx ni nr ng 6 v ∧ StOk Hx st lg cl (t + 3) ∧ But st lg H Hx, ⟨_, rfl, _, _, rfl, rfl, _, rfl, ite2 (fun e => ?_) (fun e => ?_)⟩, ?_⟩
    · have hpos : 0 < nr := by have := of_decide_eq_true e; omega
      refine ⟨_, rfl, _, rfl, _, rfl, st, lg, cl, t + 2, (nr : Int), rfl, by omega, by omega, by omega, S3, fun k H4 k0 k2 S4 U4 => ⟨(by show 2 ≤ sizeLine; decide), fun p np => ⟨(by show 1 ≤ sizeLine; decide), fun p2 np2 => ⟨p2, 2, _, rfl, rfl, upd_same, by decide, by decide, (by show 1 * 2 ≤ sizeLine; decide), fun p3 np3 => ?_⟩⟩⟩⟩
      obtain ⟨i, rfl⟩ : ∃ i : Nat, k = i := ⟨k.toNat, (Int.toNat_of_nonneg k0).symm⟩
      exact some_more (s := .reg i) (k := 2) some3 U4 S3 S4 (show i < nr by omega) (by decide) (fun v' H' hs sm => ⟨v', rfl, hs, S4.keep sm, (U3.trans U4).trans (But.of sm)⟩) p np p2 np2 p3 np3
    · exact ⟨_, rfl, by obtain ⟨a, vs, x1, x2, x3, x4, x5, x6, x7⟩ := some3; exact ⟨a, vs, x1, x2, x3, x4, x5, by omega, x7⟩, S3.up (by omega), U3⟩
    rintro σ H4 ⟨v4, rfl, some4, S4, U4⟩
    refine ⟨fun σ Hx => ∃ v, σ = [some (.ref st), some (.int (ni : Int)), some (.int (nr : Int)), some (.int (ng : Int)), some v] ∧ SomeS st lg Hx ni nr ng 12 v ∧ StOk Hx st lg cl (t + 4) ∧ But st lg H Hx, ⟨_, rfl, _, _, rfl, rfl, _, rfl, ite2 (fun e => ?_) (fun e => ?_)⟩, ?_⟩
    · have hpos : 0 < ng := by have := of_decide_eq_true e; omega
      refine ⟨_, rfl, _, rfl, _, rfl, st, lg, cl, t + 3, (ng : Int), rfl, by omega, by omega, by omega, S4, fun k H5 k0 k2 S5 U5 => ⟨(by show 2 ≤ sizeLine; decide), fun p np => ⟨(by show 1 ≤ sizeLine; decide), fun p2 np2 => ⟨p2, 6, _, rfl, rfl, upd_same, by decide, by decide, (by show 1 * 6 ≤ sizeLine; decide), fun p3 np3 => ?_⟩⟩⟩⟩
      obtain ⟨i, rfl⟩ : ∃ i : Nat, k = i := ⟨k.toNat, (Int.toNat_of_nonneg k0).symm⟩
      exact some_more (s := .gate i) (k := 6) some4 U5 S4 S5 (show i < ng by omega) (by decide) (fun v' H' hs sm => ⟨v', rfl, hs, S5.keep sm, (U4.trans U5).trans (But.of sm)⟩) p np p2 np2 p3 np3
    · exact ⟨_, rfl, by obtain ⟨a, vs, x1, x2, x3, x4, x5, x6, x7⟩ := some4; exact ⟨a, vs, x1, x2, x3, x4, x5, by omega, x7⟩, S4.up (by omega), U4⟩
    rintro σ H5 ⟨v5, rfl, ⟨a, vs, rfl, n1, n2', ea, p0, p1, hv⟩, S5, U5⟩
    refine ⟨_, rfl, _, rfl, st, lg, cl, a, t + 4, vs, rfl, p0, by omega, n1, n2', .inl (.inl ea), by omega, S5, fun x H6 hx S6 U6 => ?_⟩
    obtain ⟨sr, h1, h2⟩ := hv x hx
    exact q x sr H6 (h1.but U6 S5) h2 S6 (U5.trans U6)
end
end K02

set_option Elab.async false
set_option linter.all false
set_option maxRecDepth 100000
set_option maxHeartbeats 4000000
/-! Circuits that are kept; a list that grows by drawn things. -/
namespace K02
open PySem PySem.Spec L2
open PyProof.Rows GenW GxR EZ TK
open LamX (ExtN)
theorem SrcAt.keep {H H' : Hp} {y : V} {s : Src} (h : SrcAt H y s) (k : TupKeep H H') : SrcAt H' y s := by
  obtain ⟨a, e, b⟩ := h
  exact ⟨a, e, k _ _ b⟩
theorem RegAt.keep {H H' : Hp} {y : V} {r : Bool × Src} (h : RegAt H y r) (k : TupKeep H H') : RegAt H' y r := by
  obtain ⟨t, v, a, b, c⟩ := h
  exact ⟨t, v, a, k _ _ b, c.keep k⟩
theorem GateAt.keep {H H' : Hp} {y : V} {g : Gate} (h : GateAt H y g) (k : TupKeep H H') : GateAt H' y g := by
  obtain ⟨t, a, b, vs, h1, h2, h3, h4, h5⟩ := h
  exact ⟨t, a, b, vs, h1, k _ _ h2, k _ _ h3, all_ext (fun v x r => r.keep k) h4, k _ _ h5⟩
theorem CircAt.keep {H H' : Hp} {y : V} {C : Circ} (h : CircAt H y C) (k : TupKeep H H') : CircAt H' y C := by
  obtain ⟨t, ra, ga, oa, rs, gs, os, h1, h2, h3, h4, h5, h6, h7, h8⟩ := h
  exact ⟨t, ra, ga, oa, rs, gs, os, h1, k _ _ h2, k _ _ h3, k _ _ h4, k _ _ h5, all_ext (fun v x r => r.keep k) h6, all_ext (fun v x r => r.keep k) h7, all_ext (fun v x r => r.keep k) h8⟩
/-- a list at D that grows by drawn things -/
def DI {α : Type} (R : Hp → V → α → Prop) (ok : α → Prop) (st lg cl : Addr) (H1 : Hp) (D : Addr) (t c i : Nat) (Hx : Hp) : Prop := ∃ (vs : List V) (xs : List α), Hx D = some (.lst vs) ∧ vs.length = i ∧ AllAt R Hx vs xs ∧ (∀ x ∈ xs, ok x) ∧ StOk Hx st lg cl (t + c * i) ∧ But st lg H1 Hx
theorem DI.zero {α : Type} {R : Hp → V → α → Prop} {ok : α → Prop} {st lg cl : Addr} {H1 : Hp} {D : Addr} {t c : Nat} (nD : H1 D = none) (S : StOk H1 st lg cl t) : DI R ok st lg cl H1 D t c 0 (L2.upd H1 D (.lst [])) :=
  ⟨[], [], upd_same, rfl, .nil, (fun _ z => by cases z), S.keep (same_new nD), But.of (same_new nD)⟩
theorem DI.push {α : Type} {R : Hp → V → α → Prop} {ok : α → Prop} {st lg cl : Addr} {H1 Hx H4 : Hp} {D : Addr} {t c i t1 : Nat} {y : V} {x : α} (hR : ∀ H H' v x, TupKeep H H' → R H v x → R H' v x) (nD : H1 D = none) (S : StOk H1 st lg cl t1)
    (d : DI R ok st lg cl H1 D t c i Hx) (hi : i < 16000) (U : But st lg Hx H4) (S4 : StOk H4 st lg cl (t + c * (i + 1))) (hy : R H4 y x) (hx : ok x) :
    ∃ acc, H4 D = some (.lst acc) ∧ acc.length < sizeLine ∧ DI R ok st lg cl H1 D t c (i + 1) (L2.upd H4 D (.lst (acc ++ [y]))) := by
  obtain ⟨vs, xs, e, l, al, oks, Sx, Ux⟩ := d
  have nn := But.st_new (o := .tup []) S nD
  have n3 := S.cl_ne nD
  have e4 := U _ _ e nn.1 nn.2
  have tu : TupKeep H4 (L2.upd H4 D (.lst (vs ++ [y]))) := TupKeep.upd e4 fun xs z => by cases z
  refine ⟨vs, e4, by rw [l, sizeLine_eq]; omega, vs ++ [y], xs ++ [x], upd_same, by rw [List.length_append, l]; rfl, ?_, fun z hz => ?_, S4.upd nn.1 nn.2 n3, fun b o eb m1 m2 => ?_⟩
  · exact paired_snoc (all_ext (fun v x r => hR _ _ v x ((U.tup Sx).trans tu) r) al) (hR _ _ _ _ tu hy)
  · rcases List.mem_append.mp hz with z1 | z1
    · exact oks z z1
    · rw [List.mem_singleton.mp z1]
      exact hx
  · rw [upd_ne (ne_of_none eb nD)]
    exact U _ _ (Ux _ _ eb m1 m2) m1 m2
theorem DI.all {α : Type} {R : Hp → V → α → Prop} {ok : α → Prop} {st lg cl : Addr} {H1 Hx : Hp} {D : Addr} {t c i : Nat} (d : DI R ok st lg cl H1 D t c i Hx) : ∃ (vs : List V) (xs : List α), Hx D = some (.lst vs) ∧ xs.length = i ∧ AllAt R Hx vs xs ∧ (∀ x ∈ xs, ok x) ∧ StOk Hx st lg cl (t + c * i) ∧ But st lg H1 Hx := by
  obtain ⟨vs, xs, e, l, al, r⟩ := d
  exact ⟨vs, xs, e, by rw [← l]; exact (Paired.length al).symm, al, r⟩
end K02

set_option Elab.async false
set_option linter.all false
set_option maxRecDepth 100000
set_option maxHeartbeats 4000000
/-! Circuits as data; lists that grow by made things. -/
namespace K02
open PySem PySem.Spec L2
open PyProof.Rows GenW GxR EZ TK
open LamX (ExtN)
/-! ### data -/
def srcDat (s : Src) : PyData := .tuple [.str s.kind, .int s.at_]
def regDat (r : Bool × Src) : PyData := .tuple [.int (bitZ r.1), srcDat r.2]
def gateDat (g : Gate) : PyData := .tuple [.tuple (g.1.map srcDat), .tuple (g.2.map fun b => .int (bitZ b))]
def circDat (C : Circ) : PyData := .tuple [.int (C.ni : Int), .tuple (C.regs.map regDat), .tuple (C.gates.map gateDat), .tuple (C.outs.map srcDat)]
theorem vw_all {α : Type} {R : Hp → V → α → Prop} {f : α → PyData} {H : Hp} (h : ∀ v x, R H v x → Vw H v (f x)) : ∀ {vs : List V} {xs : List α}, AllAt R H vs xs → VwAll H vs (xs.map f)
  | _, _, .nil => .nil
  | _, _, .cons r t => .cons (h _ _ r) (vw_all h t)
theorem vw_src {H : Hp} {y : V} {s : Src} (h : SrcAt H y s) : Vw H y (srcDat s) := by
  obtain ⟨t, rfl, e⟩ := h
  exact .tup e (.cons (.str _) (.cons (.int _) .nil))
theorem vw_reg {H : Hp} {y : V} {r : Bool × Src} (h : RegAt H y r) : Vw H y (regDat r) := by
  obtain ⟨t, v, rfl, e, hs⟩ := h
  exact .tup e (.cons (.int _) (.cons (vw_src hs) .nil))
theorem vw_bits {H : Hp} : ∀ bs : List Bool, VwAll H (bs.map bitV) (bs.map fun b => .int (bitZ b))
  | [] => .nil
  | _ :: l => .cons (.int _) (vw_bits l)
theorem vw_gate {H : Hp} {y : V} {g : Gate} (h : GateAt H y g) : Vw H y (gateDat g) := by
  obtain ⟨t, a, b, vs, rfl, e, ea, hv, eb⟩ := h
  exact .tup e (.cons (.tup ea (vw_all (fun _ _ r => vw_src r) hv)) (.cons (.tup eb (vw_bits _)) .nil))
theorem vw_circ {H : Hp} {y : V} {C : Circ} (h : CircAt H y C) : Vw H y (circDat C) := by
  obtain ⟨t, ra, ga, oa, rs, gs, os, rfl, e, er, eg, eo, hr, hg, ho⟩ := h
  exact .tup e (.cons (.int _) (.cons (.tup er (vw_all (fun _ _ r => vw_reg r) hr)) (.cons (.tup eg (vw_all (fun _ _ r => vw_gate r) hg)) (.cons (.tup eo (vw_all (fun _ _ r => vw_src r) ho)) .nil))))
theorem srcK_dat (s : Src) : SrcK (srcDat s) := fun k a e => by
  injection e with e
  injection e with e _
  exact ⟨_, e.symm⟩
theorem circK_dat (C : Circ) : CircK (circDat C) := fun i r g o e => by
  injection e with e
  injection e with _ e
  injection e with e2 e
  injection e with e3 e
  injection e with e4 _
  subst e2 e3 e4
  refine ⟨fun x hx => ?_, fun x hx => ?_, fun x hx => ?_⟩
  · obtain ⟨y, _, rfl⟩ := List.mem_map.mp hx
    intro b s e
    injection e with e
    injection e with _ e
    injection e with e _
    subst e
    exact srcK_dat _
  · obtain ⟨y, _, rfl⟩ := List.mem_map.mp hx
    intro b s e z hz
    injection e with e
    injection e with e _
    subst e
    obtain ⟨w, _, rfl⟩ := List.mem_map.mp hz
    exact srcK_dat _
  · obtain ⟨y, _, rfl⟩ := List.mem_map.mp hx
    exact srcK_dat _
theorem belD_of {i l : Nat} (h : i < l) : belD (.int (i : Int)) (l : Int) = true := by
  show (decide ((0 : Int) ≤ (i : Int)) && decide ((i : Int) < (l : Int))) = true
  rw [decide_eq_true (by omega), decide_eq_true (by omega)]
  rfl
theorem belD_bit (b : Bool) : belD (.int (bitZ b)) 2 = true := by cases b <;> decide
theorem sorD_dat {ni nr ng : Nat} {s : Src} (h : s.ok ni nr ng) : sorD ni nr ng (srcDat s) = true := by
  cases s with
  | inp i => exact belD_of h
  | reg i => exact belD_of h
  | gate i => exact belD_of h
  | bit b =>
    show (decide (("bit" : Str) = "bit") && belD (.int (bitZ b)) 2) = true
    rw [belD_bit, decide_eq_true rfl]
    rfl
theorem bits_all (bs : List Bool) : ((bs.map fun b => PyData.int (bitZ b)).all fun x => belD x 2) = true := List.all_eq_true.mpr fun x hx => by
  obtain ⟨b, _, rfl⟩ := List.mem_map.mp hx
  exact belD_bit b
theorem all_dat {α : Type} {f : α → PyData} {p : PyData → Bool} {xs : List α} (h : ∀ x ∈ xs, p (f x) = true) : (xs.map f).all p = true := List.all_eq_true.mpr fun y hy => by
  obtain ⟨x, hx, rfl⟩ := List.mem_map.mp hy
  exact h x hx
theorem circD_dat {C : Circ} (h : C.ok) : circD (circDat C) = true := by
  show ((belD (.int (C.ni : Int)) 9 && upD (.tuple (C.regs.map regDat)) 60) && (upD (.tuple (C.gates.map gateDat)) 2000 && upD (.tuple (C.outs.map srcDat)) 60) && ((C.regs.map regDat).all (regiD ((C.ni : Int)).toNat (C.regs.map regDat).length (C.gates.map gateDat).length) &&
    ((C.gates.map gateDat).all (gateD ((C.ni : Int)).toNat (C.regs.map regDat).length (C.gates.map gateDat).length) && (C.outs.map srcDat).all (sorD ((C.ni : Int)).toNat (C.regs.map regDat).length (C.gates.map gateDat).length)))) = true
  rw [List.length_map, List.length_map, Int.toNat_natCast]
  have u : ∀ (l : List PyData) (n : Nat), l.length ≤ n → upD (.tuple l) n = true := fun l n hl => by
    show (decide (("tuple" : String) = "tuple") && decide (l.length ≤ n)) = true
    rw [decide_eq_true rfl, decide_eq_true hl]
    rfl
  have b1 := h.ni
  rw [show belD (.int (C.ni : Int)) 9 = true from belD_of (l := 9) (by omega), u _ _ (by rw [List.length_map]; exact h.nr), u _ _ (by rw [List.length_map]; exact h.ng), u _ _ (by rw [List.length_map]; exact h.no)]
  rw [all_dat (p := regiD _ _ _) fun r hr => by
      show (belD (.int (bitZ r.1)) 2 && sorD _ _ _ (srcDat r.2)) = true
      rw [belD_bit, sorD_dat (h.regs r hr)]
      rfl,
    all_dat (p := gateD _ _ _) fun g hg => by
      obtain ⟨c1, c2, c3⟩ := h.gates g hg
      show (decide (("tuple" : String) = "tuple") && decide ((g.1.map srcDat).length ≤ 4) && ((decide (("tuple" : String) = "tuple") && decide ((g.2.map fun b => PyData.int (bitZ b)).length = 2 ^ (g.1.map srcDat).length) && (g.2.map fun b => PyData.int (bitZ b)).all fun x => belD x 2) && (g.1.map srcDat).all (sorD _ _ _))) = true
      rw [bits_all, all_dat (p := sorD _ _ _) fun s hs => sorD_dat (c3 s hs), decide_eq_true rfl, List.length_map, List.length_map, decide_eq_true c1, decide_eq_true c2]
      rfl,
    all_dat (p := sorD _ _ _) fun s hs => sorD_dat (h.outs s hs)]
  rfl
/-! ### circuits whose tables may be the program's own -/
section
variable {K : PySem.W.Frag}
def TblQ (K : PySem.W.Frag) (H : Hp) (b : Addr) (bs : List Bool) : Prop := H b = some (.tup (bs.map bitV)) ∨
  ∃ (o : Obj) (its : Array Value) (n : Nat), K.lookup b = some o ∧ o.cls = .type "tuple" ∧ o.data = .seq its n ∧ its.size ≤ sizeLine ∧ Vals (bs.map bitV) its.toList
theorem TblQ.seq {H : Hp} {b : Addr} {bs : List Bool} (h : TblQ K H b bs) : SqT K H b (bs.map bitV) := h.elim (fun e => .inl (.inl e)) .inr
theorem TblQ.keep {H H' : Hp} {b : Addr} {bs : List Bool} (h : TblQ K H b bs) (k : TupKeep H H') : TblQ K H' b bs := h.imp (k _ _) id
def GateQ (K : PySem.W.Frag) (H : Hp) (y : V) (g : Gate) : Prop := ∃ t a b vs, y = .ref t ∧ H t = some (.tup [.ref a, .ref b]) ∧ H a = some (.tup vs) ∧ AllAt SrcAt H vs g.1 ∧ TblQ K H b g.2
theorem GateQ.keep {H H' : Hp} {y : V} {g : Gate} (h : GateQ K H y g) (k : TupKeep H H') : GateQ K H' y g := by
  obtain ⟨t, a, b, vs, h1, h2, h3, h4, h5⟩ := h
  exact ⟨t, a, b, vs, h1, k _ _ h2, k _ _ h3, all_ext (fun v x r => r.keep k) h4, h5.keep k⟩
theorem GateAt.q {H : Hp} {y : V} {g : Gate} (h : GateAt H y g) : GateQ K H y g := by
  obtain ⟨t, a, b, vs, h1, h2, h3, h4, h5⟩ := h
  exact ⟨t, a, b, vs, h1, h2, h3, h4, .inl h5⟩
def CircQ (K : PySem.W.Frag) (H : Hp) (y : V) (C : Circ) : Prop := ∃ t ra ga oa rs gs os, y = .ref t ∧ H t = some (.tup [.int C.ni, .ref ra, .ref ga, .ref oa]) ∧ H ra = some (.tup rs) ∧ H ga = some (.tup gs) ∧ H oa = some (.tup os) ∧ AllAt RegAt H rs C.regs ∧ AllAt (GateQ K) H gs C.gates ∧ AllAt SrcAt H os C.outs
theorem CircAt.q {H : Hp} {y : V} {C : Circ} (h : CircAt H y C) : CircQ K H y C := by
  obtain ⟨t, ra, ga, oa, rs, gs, os, h1, h2, h3, h4, h5, h6, h7, h8⟩ := h
  exact ⟨t, ra, ga, oa, rs, gs, os, h1, h2, h3, h4, h5, h6, paired_imp (fun _ _ r => r.q) h7, h8⟩
theorem CircQ.keep {H H' : Hp} {y : V} {C : Circ} (h : CircQ K H y C) (k : TupKeep H H') : CircQ K H' y C := by
  obtain ⟨t, ra, ga, oa, rs, gs, os, h1, h2, h3, h4, h5, h6, h7, h8⟩ := h
  exact ⟨t, ra, ga, oa, rs, gs, os, h1, k _ _ h2, k _ _ h3, k _ _ h4, k _ _ h5, all_ext (fun v x r => r.keep k) h6, all_ext (fun v x r => r.keep k) h7, all_ext (fun v x r => r.keep k) h8⟩
theorem dp_all {α : Type} {R : Hp → V → α → Prop} {f : α → PyData} {H : Hp} (h : ∀ v x, R H v x → Dp K H v (f x)) : ∀ {vs : List V} {xs : List α}, AllAt R H vs xs → DpAll K H vs (xs.map f)
  | _, _, .nil => .nil
  | _, _, .cons r t => .cons (h _ _ r) (dp_all h t)
theorem dp_src {H : Hp} {y : V} {s : Src} (h : SrcAt H y s) : Dp K H y (srcDat s) := by
  obtain ⟨t, rfl, e⟩ := h
  exact .tup (.inl (.inl e)) (.cons (.str _) (.cons (.int _) .nil))
theorem dp_reg {H : Hp} {y : V} {r : Bool × Src} (h : RegAt H y r) : Dp K H y (regDat r) := by
  obtain ⟨t, v, rfl, e, hs⟩ := h
  exact .tup (.inl (.inl e)) (.cons (.int _) (.cons (dp_src hs) .nil))
theorem dp_bits {H : Hp} : ∀ bs : List Bool, DpAll K H (bs.map bitV) (bs.map fun b => .int (bitZ b))
  | [] => .nil
  | _ :: l => .cons (.int _) (dp_bits l)
theorem dp_gate {H : Hp} {y : V} {g : Gate} (h : GateQ K H y g) : Dp K H y (gateDat g) := by
  obtain ⟨t, a, b, vs, rfl, e, ea, hv, eb⟩ := h
  exact .tup (.inl (.inl e)) (.cons (.tup (.inl (.inl ea)) (dp_all (fun _ _ r => dp_src r) hv)) (.cons (.tup eb.seq (dp_bits _)) .nil))
theorem dp_circ {H : Hp} {y : V} {C : Circ} (h : CircQ K H y C) : Dp K H y (circDat C) := by
  obtain ⟨t, ra, ga, oa, rs, gs, os, rfl, e, er, eg, eo, hr, hg, ho⟩ := h
  exact .tup (.inl (.inl e)) (.cons (.int _) (.cons (.tup (.inl (.inl er)) (dp_all (fun _ _ r => dp_reg r) hr)) (.cons (.tup (.inl (.inl eg)) (dp_all (fun _ _ r => dp_gate r) hg)) (.cons (.tup (.inl (.inl eo)) (dp_all (fun _ _ r => dp_src r) ho)) .nil))))
end
/-- len(x), x a list or a tuple -/
def rLenS (K : PySem.W.Frag) : List V → Hp → VK → Prop := fun xs H Q => ∃ p ys, xs = [V.ref p] ∧ (SqL K H p ys ∨ SqT K H p ys) ∧ Q (.int (ys.length : Int)) H
/-- tuple(x), x a list or a tuple -/
def rTupOf (K : PySem.W.Frag) : List V → Hp → VK → Prop := fun xs H Q => ∃ p ys, xs = [V.ref p] ∧ ((SqL K H p ys ∧ ∀ l, H l = none → Q (.ref l) (L2.upd H l (.tup ys))) ∨ (SqT K H p ys ∧ Q (.ref p) H))
theorem paired_app {α β : Type} {R : α → β → Prop} : ∀ {xs : List α} {ys : List β} {zs : List α} {ws : List β}, Paired R xs ys → Paired R zs ws → Paired R (xs ++ zs) (ys ++ ws)
  | _, _, _, _, .nil, r => r
  | _, _, _, _, .cons h t, r => .cons h (paired_app t r)
theorem paired_drop {α β : Type} {R : α → β → Prop} : ∀ {xs : List α} {ys : List β}, Paired R xs ys → ∀ n, Paired R (xs.drop n) (ys.drop n)
  | _, _, h, 0 => h
  | _, _, .nil, n + 1 => .nil
  | _, _, .cons _ t, n + 1 => paired_drop t n
theorem paired_take {α β : Type} {R : α → β → Prop} : ∀ {xs : List α} {ys : List β}, Paired R xs ys → ∀ n, Paired R (xs.take n) (ys.take n)
  | _, _, _, 0 => .nil
  | _, _, .nil, n + 1 => .nil
  | _, _, .cons h t, n + 1 => .cons h (paired_take t n)
/-! ### a list that grows by made things -/
def BI {α : Type} (R : Hp → V → α → Prop) (H1 : Hp) (D : Addr) (xs : List α) (i : Nat) (Hx : Hp) : Prop := Same H1 Hx ∧ ∃ vs, Hx D = some (.lst vs) ∧ AllAt R Hx vs (xs.take i)
theorem BI.zero {α : Type} {R : Hp → V → α → Prop} {H1 : Hp} {D : Addr} {xs : List α} (nD : H1 D = none) : BI R H1 D xs 0 (L2.upd H1 D (.lst [])) := ⟨same_new nD, [], upd_same, .nil⟩
theorem BI.push {α : Type} {R : Hp → V → α → Prop} {H1 Hx H4 : Hp} {D : Addr} {xs : List α} {i : Nat} {y : V} {x : α} (hR : ∀ H H' v x, TupKeep H H' → R H v x → R H' v x) (nD : H1 D = none) (d : BI R H1 D xs i Hx) (hl : xs.length ≤ 16000) (hx : xs[i]? = some x) (s : Same Hx H4) (hy : R H4 y x) :
    ∃ acc, H4 D = some (.lst acc) ∧ acc.length < sizeLine ∧ BI R H1 D xs (i + 1) (L2.upd H4 D (.lst (acc ++ [y]))) := by
  obtain ⟨S, vs, e, al⟩ := d
  have e4 := s _ _ e
  have lv := Paired.length al
  have hi := (List.getElem?_eq_some_iff.mp hx).1
  have tu : TupKeep H4 (L2.upd H4 D (.lst (vs ++ [y]))) := TupKeep.upd e4 fun xs z => by cases z
  refine ⟨vs, e4, by rw [lv, List.length_take, sizeLine_eq]; omega, fun b o eb => ?_, vs ++ [y], upd_same, ?_⟩
  · rw [upd_ne (ne_of_none eb nD)]
    exact s _ _ (S _ _ eb)
  · rw [take_snoc hx]
    exact paired_snoc (all_ext (fun v x r => hR _ _ v x ((TupKeep.of s).trans tu) r) al) (hR _ _ _ _ tu hy)
theorem BI.all {α : Type} {R : Hp → V → α → Prop} {H1 Hx : Hp} {D : Addr} {xs : List α} (d : BI R H1 D xs xs.length Hx) : Same H1 Hx ∧ ∃ vs, Hx D = some (.lst vs) ∧ AllAt R Hx vs xs := by
  obtain ⟨s, vs, e, al⟩ := d
  rw [List.take_length] at al
  exact ⟨s, vs, e, al⟩
/-- a list of things made of the items of a tuple -/
theorem read_lc {K : PySem.W.Frag} {tI te : TE} {g : TG} {vs : List Nat} {σ : L2.St} {H : Hp} {Q : VK} {α : Type} {R : Hp → V → α → Prop} (hR : ∀ H H' v x, TupKeep H H' → R H v x → R H' v x) {xs : List V} (ys : List α)
    (hI : ∀ R' : VK, (∀ a H', Same H H' → H' a = some (.tup xs) → R' (.ref a) H') → tI σ H R') (l : xs.length = ys.length) (hl : ys.length ≤ 16000)
    (step : ∀ (i : Nat) (x : V) (y : α) (H1 : Hp) (Q' : VK), xs[i]? = some x → ys[i]? = some y → Same H H1 → (∀ v H3, Same H1 H3 → R H3 v y → Q' v H3) → g x (wipe σ vs) H1 fun σ2 H2 => wipe σ2 vs = wipe σ vs ∧ te σ2 H2 Q')
    (fin : ∀ D H' ws, Same H H' → H D = none → H' D = some (.lst ws) → AllAt R H' ws ys → Q (.ref D) H') : tLc (iTup K tI) g tYes te vs σ H Q := by
  refine hI _ fun a H0 s0 ha => ⟨a, rfl, ⟨xs, .inl (.inl ha)⟩, fun D nD => lc_tup (xs := xs) (BI R H0 D ys) (BI.zero nD) (fun i H' _ d => .inl (.inl (d.1 _ _ ha))) (fun i x H' hx d => ?_) (fun H' d => ?_)⟩
  · have hi := (List.getElem?_eq_some_iff.mp hx).1
    have hy := List.getElem?_eq_getElem (show i < ys.length by omega)
    exact step i x _ H' _ hx hy (s0.trans d.1) fun v H3 s3 r => BI.push hR nD d hl hy s3 r
  · rw [l] at d
    obtain ⟨s, ws, e, al⟩ := BI.all d
    exact fin D H' ws (s0.trans s) (s0.free nD) e al
theorem seq_asg {t : TE} {g : TG} {r : TS} {D : Ends} {σ : L2.St} {H : Hp} (h : t σ H fun v H1 => g v σ H1 fun σ' H' => r D σ' H') : tSeq (tAsg t g) r D σ H := h
theorem cons_of {t : TE} {u : TA} {σ : L2.St} {H : Hp} {k : List V → Hp → Prop} (h : t σ H fun x H1 => u σ H1 fun xs H2 => k (x :: xs) H2) : tCons t u σ H k := h
theorem tup_first {t : TE} {u : TA} {σ : L2.St} {H : Hp} {Q : VK} (h : t σ H fun x H1 => u σ H1 fun xs H2 => (x :: xs).length ≤ sizeLine ∧ ∀ p, H2 p = none → Q (.ref p) (L2.upd H2 p (.tup (x :: xs)))) : tTup (tCons t u) σ H Q := h
theorem cb_one {r : List V → Hp → VK → Prop} {t : TE} {σ : L2.St} {H : Hp} {Q : VK} (h : t σ H fun x H1 => r [x] H1 Q) : tCB r (tCons t tNil) σ H Q := h
/-- two new tuples, one of the other and something more -/
theorem sl_from {K : PySem.W.Frag} {H : Hp} {Q : VK} {a : Addr} {xs : List V} {k : Nat} (ha : H a = some (.tup xs)) (hk : k ≤ xs.length) (q : ∀ a' H', Same H H' → H' a' = some (.tup (xs.drop k)) → Q (.ref a') H') : rSlA K (.ref a) (some (k : Int)) none H Q := by
  have e0 : HT.sIx xs.length 0 (some (k : Int)) = k := by
    rw [HT.sIx_nat]
    omega
  have e1 : HT.sIx xs.length xs.length none = xs.length := rfl
  refine ⟨a, xs, rfl, .inl (.inl ha), fun h => q _ _ (fun _ _ e => e) ?_, fun h p np => q _ _ (same_new np) ?_⟩
  · have z : k = 0 := e0.symm.trans h.1
    subst z
    exact ha
  · rw [upd_same]
    unfold cutV
    rw [e0, e1, List.take_of_length_le (by rw [List.length_drop]; omega)]
theorem sl_to {K : PySem.W.Frag} {H : Hp} {Q : VK} {a : Addr} {xs : List V} {k : Nat} (ha : H a = some (.tup xs)) (hk : k ≤ xs.length) (q : ∀ a' H', Same H H' → H' a' = some (.tup (xs.take k)) → Q (.ref a') H') : rSlA K (.ref a) none (some (k : Int)) H Q := by
  have e0 : HT.sIx xs.length xs.length (some (k : Int)) = k := by
    rw [HT.sIx_nat]
    omega
  have e1 : HT.sIx xs.length 0 none = 0 := rfl
  refine ⟨a, xs, rfl, .inl (.inl ha), fun h => q _ _ (fun _ _ e => e) ?_, fun h p np => q _ _ (same_new np) ?_⟩
  · have z : k = xs.length := e0.symm.trans h.2
    subst z
    rw [List.take_length]
    exact ha
  · rw [upd_same]
    unfold cutV
    rw [e0, e1]
    rfl
/-- .. of things that are kept while all but the list is -/
def BIK {α : Type} (R : Addr → Hp → V → α → Prop) (H1 : Hp) (D : Addr) (xs : List α) (i : Nat) (Hx : Hp) : Prop := Same H1 Hx ∧ ∃ vs, Hx D = some (.lst vs) ∧ AllAt (R D) Hx vs (xs.take i)
theorem BIK.push {α : Type} {R : Addr → Hp → V → α → Prop} {H1 Hx H4 : Hp} {D : Addr} {xs : List α} {i : Nat} {y : V} {x : α} (hR : ∀ D H H' v x, (∀ b o, b ≠ D → H b = some o → H' b = some o) → R D H v x → R D H' v x) (nD : H1 D = none) (d : BIK R H1 D xs i Hx) (hl : xs.length ≤ 16000) (hx : xs[i]? = some x) (s : Same Hx H4) (hy : R D H4 y x) :
    ∃ acc, H4 D = some (.lst acc) ∧ acc.length < sizeLine ∧ BIK R H1 D xs (i + 1) (L2.upd H4 D (.lst (acc ++ [y]))) := by
  obtain ⟨S, vs, e, al⟩ := d
  have e4 := s _ _ e
  have lv := Paired.length al
  have hi := (List.getElem?_eq_some_iff.mp hx).1
  have tu : ∀ b o, b ≠ D → H4 b = some o → (L2.upd H4 D (.lst (vs ++ [y]))) b = some o := fun b o n e => by
    rw [upd_ne n]
    exact e
  refine ⟨vs, e4, by rw [lv, List.length_take, sizeLine_eq]; omega, fun b o eb => ?_, vs ++ [y], upd_same, ?_⟩
  · rw [upd_ne (ne_of_none eb nD)]
    exact s _ _ (S _ _ eb)
  · rw [take_snoc hx]
    exact paired_snoc (all_ext (fun v x r => hR D _ _ v x tu (hR D _ _ v x (fun b o _ e => s b o e) r)) al) (hR D _ _ _ _ tu hy)
theorem read_lcK {K : PySem.W.Frag} {tI te : TE} {g : TG} {vs : List Nat} {σ : L2.St} {H : Hp} {Q : VK} {α : Type} {R : Addr → Hp → V → α → Prop} (hR : ∀ D H H' v x, (∀ b o, b ≠ D → H b = some o → H' b = some o) → R D H v x → R D H' v x) {xs : List V} (ys : List α)
    (hI : ∀ R' : VK, (∀ a H', Same H H' → H' a = some (.tup xs) → R' (.ref a) H') → tI σ H R') (l : xs.length = ys.length) (hl : ys.length ≤ 16000)
    (step : ∀ (D : Addr) (i : Nat) (x : V) (y : α) (H1 : Hp) (Q' : VK), xs[i]? = some x → ys[i]? = some y → Same H H1 → H1 D ≠ none → (∀ v H3, Same H1 H3 → R D H3 v y → Q' v H3) → g x (wipe σ vs) H1 fun σ2 H2 => wipe σ2 vs = wipe σ vs ∧ te σ2 H2 Q')
    (fin : ∀ D H' ws, Same H H' → H D = none → H' D = some (.lst ws) → AllAt (R D) H' ws ys → Q (.ref D) H') : tLc (iTup K tI) g tYes te vs σ H Q := by
  refine hI _ fun a H0 s0 ha => ⟨a, rfl, ⟨xs, .inl (.inl ha)⟩, fun D nD => lc_tup (xs := xs) (BIK R H0 D ys) ⟨same_new nD, [], upd_same, .nil⟩ (fun i H' _ d => .inl (.inl (d.1 _ _ ha))) (fun i x H' hx d => ?_) (fun H' d => ?_)⟩
  · have hi := (List.getElem?_eq_some_iff.mp hx).1
    have hy := List.getElem?_eq_getElem (show i < ys.length by omega)
    refine step D i x _ H' _ hx hy (s0.trans d.1) ?_ fun v H3 s3 r => BIK.push hR nD d hl hy s3 r
    obtain ⟨_, _, e, _⟩ := d
    rw [e]
    exact fun z => by cases z
  · obtain ⟨s, ws, e, al⟩ := d
    rw [l, List.take_length] at al
    exact fin D H' ws (s0.trans s) (s0.free nD) e al
end K02

set_option Elab.async false
set_option linter.all false
set_option maxRecDepth 100000
set_option maxHeartbeats 2000000
/-! New lists of numbers under one list. -/
namespace K02
open PySem PySem.Spec L2
open PyProof.Rows GenW GxR
open LamX (ExtN)
open EZ
section
variable {P : Program} {w : World} {K : PySem.W.Frag} {mg : Str → Option Value} {base : Heap}
theorem walk_enT {K : PySem.W.Frag} {a : Addr} {xs : List V} : Walk (IteT K a xs) xs.length (fun H => SqT K H a xs) (YPair (fun i => some (.int (i : Nat))) (fun i => xs[i]?)) :=
  ⟨fun _ _ hi q => ⟨q, hi⟩, fun _ q => ⟨q, rfl⟩, fun i H v H' _ _ ⟨T, x, h1, h2, h3, h4⟩ => ⟨T, _, x, h1, h2, h3, rfl, h4⟩⟩
def nV (ns : List Nat) : List V := ns.map fun (n : Nat) => V.int (n : Int)
/-- new lists of numbers, one each, and a list of them all at D -/
structure RS (H0 H : Hp) (D : Addr) (las : List Addr) (rd : Nat → List Nat) : Prop where
  all : H D = some (.lst (las.map .ref))
  inj : ∀ (i j : Nat) (l : Addr), las[i]? = some l → las[j]? = some l → i = j
  off : D ∉ las
  new : ∀ l ∈ las, H0 l = none
  newD : H0 D = none
  at_ : ∀ (i : Nat) (l : Addr), las[i]? = some l → H l = some (.lst (nV (rd i)))
  keep : Same H0 H
theorem RS.begin {H : Hp} {D : Addr} (nD : H D = none) : RS H (upd H D (.lst [])) D [] (fun _ => []) :=
  ⟨upd_same, fun i j l z => by simp at z, by simp, by simp, nD, fun i l z => by simp at z, same_new nD⟩
theorem RS.push {H0 H : Hp} {D L : Addr} {las : List Addr} (r : RS H0 H D las (fun _ => [])) (nL : H L = none) : RS H0 (upd (upd H L (.lst [])) D (.lst (las.map .ref ++ [.ref L]))) D (las ++ [L]) (fun _ => []) := by
  have LD : L ≠ D := fun z => by
    have := r.all
    rw [← z, nL] at this
    cases this
  have Ll : ∀ l ∈ las, l ≠ L := fun l hl z => by
    obtain ⟨i, hi⟩ := List.mem_iff_getElem?.mp hl
    have := r.at_ i l hi
    rw [z, nL] at this
    cases this
  have nL0 : H0 L = none := by
    cases e : H0 L with
    | none => rfl
    | some o =>
      rw [r.keep _ _ e] at nL
      cases nL
  have last : ∀ (i : Nat) (l : Addr), (las ++ [L])[i]? = some l → (i < las.length ∧ las[i]? = some l) ∨ (i = las.length ∧ l = L) := fun i l hi => by
    by_cases h : i < las.length
    · rw [List.getElem?_append_left h] at hi
      exact .inl ⟨h, hi⟩
    · rw [List.getElem?_append_right (by omega)] at hi
      have h0 : i - las.length = 0 := by
        by_cases h0 : i - las.length = 0
        · exact h0
        · rw [List.getElem?_eq_none (by simp; omega)] at hi
          cases hi
      rw [h0] at hi
      cases hi
      exact .inr ⟨by omega, rfl⟩
  refine ⟨by rw [upd_same, List.map_append]; rfl, fun i j l hi hj => ?_, fun z => ?_, fun l hl => ?_, r.newD, fun i l hi => ?_, fun b o e => ?_⟩
  · rcases last i l hi with ⟨a1, a2⟩ | ⟨a1, a2⟩ <;> rcases last j l hj with ⟨b1, b2⟩ | ⟨b1, b2⟩
    · exact r.inj i j l a2 b2
    · exact absurd b2 (Ll l (List.mem_of_getElem? a2))
    · exact absurd a2 (Ll l (List.mem_of_getElem? b2))
    · omega
  · rcases List.mem_append.mp z with z | z
    · exact r.off z
    · exact LD (List.mem_singleton.mp z).symm
  · rcases List.mem_append.mp hl with z | z
    · exact r.new l z
    · rw [List.mem_singleton.mp z]
      exact nL0
  · rcases last i l hi with ⟨a1, a2⟩ | ⟨a1, a2⟩
    · have m := List.mem_of_getElem? a2
      rw [upd_ne (fun z => r.off (by rw [← z]; exact m)), upd_ne (Ll l m)]
      exact r.at_ i l a2
    · rw [a2, upd_ne LD, upd_same]
      rfl
  · have b1 : b ≠ D := ne_of_none e r.newD
    have b2 : b ≠ L := ne_of_none e nL0
    rw [upd_ne b1, upd_ne b2]
    exact r.keep _ _ e
theorem RS.same {H0 H H' : Hp} {D : Addr} {las : List Addr} {rd : Nat → List Nat} (r : RS H0 H D las rd) (s : Same H H') : RS H0 H' D las rd :=
  ⟨s _ _ r.all, r.inj, r.off, r.new, r.newD, fun i l hi => s _ _ (r.at_ i l hi), r.keep.trans s⟩
theorem RS.add {H0 H : Hp} {D l : Addr} {las : List Addr} {rd : Nat → List Nat} {k g : Nat} (r : RS H0 H D las rd) (hl : las[k]? = some l) : RS H0 (upd H l (.lst (nV (rd k) ++ [.int (g : Int)]))) D las (fun j => if j = k then rd k ++ [g] else rd j) := by
  have m := List.mem_of_getElem? hl
  have Dl : D ≠ l := fun z => r.off (z ▸ m)
  refine ⟨by rw [upd_ne Dl]; exact r.all, r.inj, r.off, r.new, r.newD, fun i l' hi => ?_, fun b o e => ?_⟩
  · by_cases h : i = k
    · subst h
      rw [hl] at hi
      cases hi
      rw [upd_same, if_pos rfl]
      unfold nV
      rw [List.map_append]
      rfl
    · rw [if_neg h, upd_ne (fun z => h (r.inj i k l (by rw [← z]; exact hi) hl))]
      exact r.at_ i l' hi
  · rw [upd_ne (ne_of_none e (r.new l m))]
    exact r.keep _ _ e
/-- how many readers these gates have -/
def tot (rd : Nat → List Nat) (ks : List Nat) : Nat := (ks.map fun k => (rd k).length).sum
theorem tot_other {rd : Nat → List Nat} {k g : Nat} : ∀ {ks : List Nat}, k ∉ ks → tot (fun j => if j = k then rd k ++ [g] else rd j) ks = tot rd ks
  | [], _ => rfl
  | a :: r, h => by
    have ne : a ≠ k := fun z => h (by rw [z]; exact List.mem_cons_self)
    have ih := tot_other (rd := rd) (k := k) (g := g) (ks := r) fun z => h (List.mem_cons_of_mem _ z)
    unfold tot at ih ⊢
    rw [List.map_cons, List.map_cons, List.sum_cons, List.sum_cons, ih]
    simp only [if_neg ne]
theorem tot_add {rd : Nat → List Nat} {k g : Nat} : ∀ {ks : List Nat}, ks.Nodup → tot (fun j => if j = k then rd k ++ [g] else rd j) ks ≤ tot rd ks + 1
  | [], _ => Nat.zero_le _
  | a :: r, h => by
    obtain ⟨h1, h2⟩ := List.nodup_cons.mp h
    by_cases e : a = k
    · have ih := tot_other (rd := rd) (k := k) (g := g) (ks := r) (by rw [← e]; exact h1)
      unfold tot at ih ⊢
      rw [List.map_cons, List.map_cons, List.sum_cons, List.sum_cons, ih]
      simp only [if_pos e, List.length_append, List.length_cons, List.length_nil]
      rw [e]
      omega
    · have ih := tot_add (rd := rd) (k := k) (g := g) (ks := r) h2
      unfold tot at ih ⊢
      rw [List.map_cons, List.map_cons, List.sum_cons, List.sum_cons]
      show (if a = k then rd k ++ [g] else rd a).length + _ ≤ _
      rw [if_neg e]
      omega
def fanG (gs : List Gate) : Nat := (gs.map fun g => g.1.length).sum
theorem fan_snoc {gs : List Gate} {i : Nat} {g : Gate} (h : gs[i]? = some g) : fanG (gs.take (i + 1)) = fanG (gs.take i) + g.1.length := by
  unfold fanG
  rw [take_snoc h, List.map_append, List.sum_append, List.map_cons, List.map_nil, List.sum_cons, List.sum_nil, Nat.add_zero]
end
end K02

set_option Elab.async false
set_option linter.all false
set_option maxHeartbeats 1000000
/-! Lots of nodes that lead to each other, by two searches: the mathematics. -/
namespace KM
abbrev Gr : Type := List (List Nat)
def suc (g : Gr) (u : Nat) : List Nat := g.getD u []
/-- u leads to v, by any number of leads -/
inductive Reach (g : Gr) : Nat → Nat → Prop
  | refl (u : Nat) : Reach g u u
  | tail {u v w : Nat} : Reach g u v → w ∈ suc g v → Reach g u w
theorem Reach.trans {g : Gr} {u v w : Nat} (a : Reach g u v) (b : Reach g v w) : Reach g u w := by
  induction b with
  | refl => exact a
  | tail _ h ih => exact .tail ih h
theorem Reach.one {g : Gr} {u v : Nat} (h : v ∈ suc g u) : Reach g u v := .tail (.refl u) h
theorem Reach.head {g : Gr} {u v w : Nat} (h : v ∈ suc g u) (b : Reach g v w) : Reach g u w := (Reach.one h).trans b
/-- a way all of whose nodes are in S -/
inductive Via (g : Gr) (S : Nat → Prop) : Nat → Nat → Prop
  | refl {u : Nat} : S u → Via g S u u
  | tail {u v w : Nat} : Via g S u v → w ∈ suc g v → S w → Via g S u w
theorem Via.reach {g : Gr} {S : Nat → Prop} {u v : Nat} (h : Via g S u v) : Reach g u v := by
  induction h with
  | refl => exact .refl _
  | tail _ h _ ih => exact .tail ih h
theorem Via.fst {g : Gr} {S : Nat → Prop} {u v : Nat} (h : Via g S u v) : S u := by
  induction h with
  | refl h => exact h
  | tail _ _ _ ih => exact ih
theorem Via.snd {g : Gr} {S : Nat → Prop} {u v : Nat} (h : Via g S u v) : S v := by
  cases h with
  | refl h => exact h
  | tail _ _ h => exact h
theorem Via.mono {g : Gr} {S T : Nat → Prop} {u v : Nat} (h : Via g S u v) (i : ∀ x, S x → T x) : Via g T u v := by
  induction h with
  | refl h => exact .refl (i _ h)
  | tail _ a b ih => exact .tail ih a (i _ b)
theorem Via.cons {g : Gr} {S : Nat → Prop} {u v w : Nat} (h : v ∈ suc g u) (hu : S u) (b : Via g S v w) : Via g S u w := by
  induction b with
  | refl hv => exact .tail (.refl hu) h hv
  | tail _ a b ih => exact .tail ih a b
theorem Via.of {g : Gr} {S : Nat → Prop} {u v : Nat} (h : Reach g u v) (i : ∀ x, Reach g u x → Reach g x v → S x) : Via g S u v := by
  induction h with
  | refl => exact .refl (i _ (.refl _) (.refl _))
  | tail a b ih => exact .tail (ih fun x h1 h2 => i x h1 (.tail h2 b)) b (i _ (.tail a b) (.refl _))
/-- where a way leaves a set -/
theorem Via.leaves {g : Gr} {S A : Nat → Prop} {u v : Nat} (h : Via g S u v) (hu : A u) (hv : ¬ A v) : ∃ x w, A x ∧ w ∈ suc g x ∧ ¬ A w ∧ S w := by
  induction h with
  | refl => exact absurd hu hv
  | @tail v w p a b ih =>
    by_cases c : A v
    · exact ⟨v, w, c, a, hv, b⟩
    · exact ih c
/-! ### the order in which a search leaves the nodes -/
/-- what each node of such an order has -/
def Fin (g : Gr) (order : List Nat) : Prop := ∀ p s, order[p]? = some s → ∃ k, k ≤ p ∧ (∀ q u, order[q]? = some u → k ≤ q → q < p → Reach g s u) ∧
  (∀ q u, order[q]? = some u → q < k → ∀ w ∈ suc g u, w ∈ order.take k ∨ w ∉ order.take (p + 1))
/-- the heart: a way to s of nodes that are left no later than s leads back -/
theorem Fin.back {g : Gr} {order : List Nat} (nd : order.Nodup) (F : Fin g order) {p : Nat} {s v : Nat} (hs : order[p]? = some s) (h : Via g (fun x => x ∈ order.take (p + 1)) v s) : Reach g s v := by
  obtain ⟨k, kp, a, b⟩ := F p s hs
  have hv := h.fst
  obtain ⟨q, hq⟩ := List.mem_iff_getElem?.mp hv
  rw [List.getElem?_take] at hq
  by_cases c : q < p + 1
  · rw [if_pos c] at hq
    by_cases c2 : q < k
    · have hk : v ∈ order.take k := List.mem_iff_getElem?.mpr ⟨q, by rw [List.getElem?_take, if_pos c2]; exact hq⟩
      have hsk : s ∉ order.take k := fun z => by
        obtain ⟨r, hr⟩ := List.mem_iff_getElem?.mp z
        rw [List.getElem?_take] at hr
        by_cases c3 : r < k
        · rw [if_pos c3] at hr
          have e := (List.getElem?_inj (List.getElem?_eq_some_iff.mp hr).1 nd).mp (hr.trans hs.symm)
          omega
        · rw [if_neg c3] at hr
          cases hr
      obtain ⟨x, w, hx, hw, hnw, hsw⟩ := h.leaves (A := fun x => x ∈ order.take k) hk hsk
      obtain ⟨r, hr⟩ := List.mem_iff_getElem?.mp hx
      rw [List.getElem?_take] at hr
      by_cases c3 : r < k
      · rw [if_pos c3] at hr
        rcases b r x hr c3 w hw with z | z
        · exact absurd z hnw
        · exact absurd hsw z
      · rw [if_neg c3] at hr
        cases hr
    · by_cases c3 : q = p
      · subst c3
        rw [hs] at hq
        cases hq
        exact .refl _
      · exact a q v hq (by omega) (by omega)
  · rw [if_neg c] at hq
    cases hq
/-- a node on the stack: where it is, how far its leads are followed, how many nodes were left when it was come to -/
abbrev El : Type := Nat × Nat × Nat
def Below (g : Gr) (order : List Nat) : List El → Prop
  | [] => True
  | (v, _, k) :: r => k ≤ order.length ∧ (∀ q u, order[q]? = some u → k ≤ q → Reach g v u) ∧ (∀ q u, order[q]? = some u → q < k → ∀ w ∈ suc g u, w ∈ order.take k ∨ w ∈ r.map (·.1)) ∧ (∀ e ∈ r, Reach g e.1 v) ∧ Below g order r
structure DInv (g : Gr) (seen : List Bool) (order : List Nat) (stk : List El) : Prop where
  n : ∀ u w, w ∈ suc g u → w < g.length
  l : seen.length = g.length
  s : ∀ v, v < g.length → (seen[v]? = some true ↔ v ∈ order ∨ v ∈ stk.map (·.1))
  nd : (order ++ stk.map (·.1)).Nodup
  lt : ∀ v ∈ order ++ stk.map (·.1), v < g.length
  at_ : ∀ e ∈ stk, e.2.1 ≤ (suc g e.1).length ∧ ∀ j w, (suc g e.1)[j]? = some w → j < e.2.1 → w ∈ order ∨ w ∈ stk.map (·.1)
  out : ∀ u ∈ order, ∀ w ∈ suc g u, w ∈ order ∨ w ∈ stk.map (·.1)
  b : Below g order stk
  f : Fin g order
theorem take_snoc_le {α : Type} {l : List α} {x : α} {k : Nat} (h : k ≤ l.length) : (l ++ [x]).take k = l.take k := by
  rw [List.take_append_of_le_length h]
theorem get_snoc {α : Type} {l : List α} {x u : α} {q : Nat} (h : (l ++ [x])[q]? = some u) : (l[q]? = some u ∧ q < l.length) ∨ (q = l.length ∧ u = x) := by
  rw [List.getElem?_append] at h
  by_cases c : q < l.length
  · rw [if_pos c] at h
    exact .inl ⟨h, c⟩
  · rw [if_neg c] at h
    obtain ⟨hl, e⟩ := List.getElem?_eq_some_iff.mp h
    simp only [List.length_cons, List.length_nil] at hl
    have e0 : q - l.length = 0 := by omega
    have : q = l.length := by omega
    subst this
    simp at e
    exact .inr ⟨rfl, e.symm⟩
theorem Below.snoc {g : Gr} {order : List Nat} {x : Nat} : ∀ {stk : List El}, Below g order stk → (∀ e ∈ stk, Reach g e.1 x) → Below g (order ++ [x]) stk
  | [], _, _ => trivial
  | (v, a, k) :: r, ⟨h1, h2, h3, h4, h5⟩, hx => by
    refine ⟨by rw [List.length_append]; omega, fun q u hq kq => ?_, fun q u hq qk w hw => ?_, h4, Below.snoc h5 fun e he => hx e (List.mem_cons_of_mem _ he)⟩
    · rcases get_snoc hq with ⟨hq, _⟩ | ⟨_, rfl⟩
      · exact h2 q u hq kq
      · exact hx _ List.mem_cons_self
    · rcases get_snoc hq with ⟨hq, _⟩ | ⟨rfl, _⟩
      · rw [take_snoc_le h1]
        exact h3 q u hq qk w hw
      · omega
/-- the node at the top is left -/
theorem DInv.leave {g : Gr} {seen : List Bool} {order : List Nat} {v k : Nat} {r : List El} (D : DInv g seen order ((v, (suc g v).length, k) :: r)) : DInv g seen (order ++ [v]) r := by
  obtain ⟨h1, h2, h3, h4, h5⟩ := D.b
  have eq_ : ∀ x, (x ∈ order ++ [v] ∨ x ∈ r.map (·.1)) ↔ (x ∈ order ∨ x ∈ (((v, (suc g v).length, k) :: r : List El).map (·.1))) := fun x => by
    rw [List.map_cons, List.mem_append, List.mem_singleton, List.mem_cons, or_assoc]
  have nd' : (order ++ [v] ++ r.map (·.1)).Nodup := by
    have z := D.nd
    rw [List.map_cons] at z
    rw [List.append_assoc]
    exact z
  have vo : v ∉ order := fun z => by
    have w := (List.nodup_append.mp D.nd).2.2 v z v (by simp)
    exact w rfl
  refine ⟨D.n, D.l, fun x hx => (D.s x hx).trans (eq_ x).symm, nd', fun x hx => D.lt x ?_, fun e he => ?_, fun u hu w hw => (eq_ w).mpr ?_, h5.snoc h4, fun p s hs => ?_⟩
  · rcases List.mem_append.mp hx with z | z
    · rcases List.mem_append.mp z with z | z
      · exact List.mem_append.mpr (.inl z)
      · rw [List.mem_singleton.mp z]
        simp
    · rw [List.map_cons]
      exact List.mem_append.mpr (.inr (List.mem_cons_of_mem _ z))
  · obtain ⟨a, b⟩ := D.at_ e (List.mem_cons_of_mem _ he)
    exact ⟨a, fun j w hj hl => (eq_ w).mpr (b j w hj hl)⟩
  · rcases List.mem_append.mp hu with z | z
    · exact D.out u z w hw
    · rw [List.mem_singleton.mp z] at hw
      obtain ⟨j, hj⟩ := List.mem_iff_getElem?.mp hw
      exact (D.at_ _ List.mem_cons_self).2 j w hj (List.getElem?_eq_some_iff.mp hj).1
  · rcases get_snoc hs with ⟨hs, lp⟩ | ⟨rfl, rfl⟩
    · obtain ⟨k', a, b, c⟩ := D.f p s hs
      refine ⟨k', a, fun q u hq kq qp => ?_, fun q u hq qk w hw => ?_⟩
      · rcases get_snoc hq with ⟨hq, _⟩ | ⟨rfl, _⟩
        · exact b q u hq kq qp
        · omega
      · rcases get_snoc hq with ⟨hq, _⟩ | ⟨rfl, _⟩
        · rw [take_snoc_le (by omega), take_snoc_le (by omega)]
          exact c q u hq qk w hw
        · omega
    · refine ⟨k, h1, fun q u hq kq qp => ?_, fun q u hq qk w hw => ?_⟩
      · rcases get_snoc hq with ⟨hq, _⟩ | ⟨rfl, _⟩
        · exact h2 q u hq kq
        · omega
      · rcases get_snoc hq with ⟨hq, _⟩ | ⟨rfl, _⟩
        · rw [take_snoc_le h1]
          rcases h3 q u hq qk w hw with z | z
          · exact .inl z
          · right
            rw [List.take_of_length_le (by rw [List.length_append]; simp)]
            intro z2
            have nn := (List.nodup_append.mp nd').2.2
            exact nn w z2 w z rfl
        · omega
/-- a lead of the top is followed to a node that is seen -/
theorem DInv.step {g : Gr} {seen : List Bool} {order : List Nat} {v a k w : Nat} {r : List El} (D : DInv g seen order ((v, a, k) :: r)) (hw : (suc g v)[a]? = some w) (hs : seen[w]? = some true) : DInv g seen order ((v, a + 1, k) :: r) := by
  have hwv : w ∈ suc g v := List.mem_of_getElem? hw
  have wl := D.n v w hwv
  refine ⟨D.n, D.l, D.s, D.nd, D.lt, fun e he => ?_, D.out, D.b, D.f⟩
  rcases List.mem_cons.mp he with z | z
  · subst z
    refine ⟨(List.getElem?_eq_some_iff.mp hw).1, fun j x hj hl => ?_⟩
    by_cases c : j = a
    · subst c
      rw [hw] at hj
      cases hj
      exact (D.s w wl).mp hs
    · exact (D.at_ _ List.mem_cons_self).2 j x hj (by show j < a; have : j < a + 1 := hl; omega)
  · exact D.at_ e (List.mem_cons_of_mem _ z)
/-- a node that is not seen is come to -/
theorem DInv.come {g : Gr} {seen : List Bool} {order : List Nat} {w : Nat} {stk : List El} (D : DInv g seen order stk) (wl : w < g.length) (hs : seen[w]? ≠ some true) (hr : ∀ e ∈ stk, Reach g e.1 w) : DInv g (seen.set w true) order ((w, 0, order.length) :: stk) := by
  have nw : ¬ (w ∈ order ∨ w ∈ stk.map (·.1)) := fun z => hs ((D.s w wl).mpr z)
  have nd' : (order ++ w :: stk.map (·.1)).Nodup := by
    have z := D.nd
    rw [List.nodup_append] at z ⊢
    refine ⟨z.1, List.nodup_cons.mpr ⟨fun q => nw (.inr q), z.2.1⟩, fun a ha b hb => ?_⟩
    rcases List.mem_cons.mp hb with q | q
    · subst q
      intro e
      subst e
      exact nw (.inl ha)
    · exact z.2.2 a ha b q
  have more : ∀ x, x ∈ order ∨ x ∈ stk.map (·.1) → x ∈ order ∨ x ∈ (((w, 0, order.length) :: stk : List El).map (·.1)) := fun x h => h.imp id fun z => by
    rw [List.map_cons]
    exact List.mem_cons_of_mem _ z
  refine ⟨D.n, by rw [List.length_set]; exact D.l, fun x hx => ?_, nd', fun x hx => ?_, fun e he => ?_, fun u hu x hx => more x (D.out u hu x hx), ⟨Nat.le_refl _, fun q u hq kq => ?_, fun q u hq qk x hx => ?_, hr, D.b⟩, D.f⟩
  · rw [List.getElem?_set]
    by_cases c : w = x
    · subst c
      rw [if_pos rfl, if_pos (by rw [D.l]; exact wl)]
      simp
    · rw [if_neg c, D.s x hx]
      constructor
      · exact more x
      · rintro (h | h)
        · exact .inl h
        · rw [List.map_cons] at h
          rcases List.mem_cons.mp h with z | z
          · exact absurd z.symm c
          · exact .inr z
  · rcases List.mem_append.mp hx with z | z
    · exact D.lt x (List.mem_append.mpr (.inl z))
    · rw [List.map_cons] at z
      rcases List.mem_cons.mp z with q | q
      · rw [q]
        exact wl
      · exact D.lt x (List.mem_append.mpr (.inr q))
  · rcases List.mem_cons.mp he with z | z
    · subst z
      exact ⟨Nat.zero_le _, fun j x _ hl => absurd hl (Nat.not_lt_zero _)⟩
    · obtain ⟨a, b⟩ := D.at_ e z
      exact ⟨a, fun j x hj hl => more x (b j x hj hl)⟩
  · have := (List.getElem?_eq_some_iff.mp hq).1
    omega
  · have hu := List.mem_of_getElem? hq
    rw [List.take_length]
    exact D.out u hu x hx
theorem DInv.zero {g : Gr} (n : ∀ u w, w ∈ suc g u → w < g.length) : DInv g (List.replicate g.length false) [] [] := by
  refine ⟨n, List.length_replicate, fun v hv => ?_, List.nodup_nil, fun v h => by simp at h, fun e h => by simp at h, fun u h => by simp at h, trivial, fun p s h => by simp at h⟩
  rw [List.getElem?_replicate, if_pos hv]
  simp
/-- the order when all are left -/
structure Ord (g : Gr) (order : List Nat) : Prop where
  nd : order.Nodup
  all : ∀ v, v ∈ order ↔ v < g.length
  f : Fin g order
theorem DInv.done {g : Gr} {seen : List Bool} {order : List Nat} (D : DInv g seen order []) (h : ∀ v, v < g.length → seen[v]? = some true) : Ord g order :=
  ⟨by simpa using D.nd, fun v => ⟨fun z => D.lt v (by simpa using z), fun z => by simpa using (D.s v z).mp (h v z)⟩, D.f⟩
/-- what is left to do: each turn makes it less -/
def todo (g : Gr) (seen : List Bool) (stk : List El) : Nat := ((List.range g.length).map fun v => if seen[v]? = some true then 0 else (suc g v).length + 1).sum + (stk.map fun e => (suc g e.1).length + 1 - e.2.1).sum
end KM

set_option Elab.async false
set_option linter.all false
set_option maxHeartbeats 1000000
/-! .. the second search, and what its lots are. -/
namespace KM
/-- h is g turned round -/
def Turned (g h : Gr) : Prop := h.length = g.length ∧ ∀ u v, v < g.length → (u ∈ suc h v ↔ v ∈ suc g u)
theorem via_turned {g h : Gr} (n : ∀ u w, w ∈ suc g u → w < g.length) (t : Turned g h) {S : Nat → Prop} (hS : ∀ x, S x → x < g.length) {s v : Nat} (p : Via h S s v) : Via g S v s := by
  induction p with
  | refl a => exact .refl a
  | tail a b c ih => exact ih.cons ((t.2 _ _ (hS _ a.snd)).mp b) c
theorem turned_via {g h : Gr} (t : Turned g h) {S : Nat → Prop} (hS : ∀ x, S x → x < g.length) {s v : Nat} (p : Via g S v s) : Via h S s v := by
  induction p with
  | refl a => exact .refl a
  | tail a b c ih => exact ih.cons ((t.2 _ _ (hS _ c)).mpr b) c
/-- nodes that are not taken -/
def Free (t0 : List Bool) (x : Nat) : Prop := x < t0.length ∧ t0[x]? ≠ some true
/-- the search for what start leads to, amid -/
structure GInv (h : Gr) (t0 : List Bool) (start : Nat) (taken : List Bool) (lot stk : List Nat) (cur : Option (Nat × Nat)) : Prop where
  n : ∀ u w, w ∈ suc h u → w < t0.length
  l : taken.length = t0.length
  s : ∀ v, v < t0.length → (taken[v]? = some true ↔ t0[v]? = some true ∨ v ∈ lot)
  nd : lot.Nodup
  ok : ∀ v ∈ lot, Via h (Free t0) start v
  st : start ∈ lot
  sub : ∀ v ∈ stk, v ∈ lot
  cur_ : ∀ c, cur = some c → c.1 ∈ lot
  cl : ∀ v ∈ lot, v ∈ stk ∨ (∃ j, cur = some (v, j) ∧ ∀ i w, (suc h v)[i]? = some w → i < j → taken[w]? = some true) ∨ ∀ w ∈ suc h v, taken[w]? = some true
theorem GInv.zero {h : Gr} {t0 : List Bool} {start : Nat} (n : ∀ u w, w ∈ suc h u → w < t0.length) (hs : Free t0 start) : GInv h t0 start (t0.set start true) [start] [start] none := by
  refine ⟨n, List.length_set, fun v hv => ?_, by simp, fun v hv => ?_, List.mem_singleton.mpr rfl, fun v hv => hv, fun c z => (nomatch z), fun v hv => .inl hv⟩
  · rw [List.getElem?_set]
    by_cases c : start = v
    · subst c
      rw [if_pos rfl, if_pos hs.1]
      simp
    · rw [if_neg c]
      simp only [List.mem_singleton]
      exact ⟨fun z => .inl z, fun z => z.elim id fun q => absurd q.symm c⟩
  · rw [List.mem_singleton.mp hv]
    exact .refl hs
/-- a node is taken off the stack -/
theorem GInv.pop {h : Gr} {t0 : List Bool} {start v : Nat} {taken : List Bool} {lot stk : List Nat} (G : GInv h t0 start taken lot (v :: stk) none) : GInv h t0 start taken lot stk (some (v, 0)) := by
  refine ⟨G.n, G.l, G.s, G.nd, G.ok, G.st, fun x hx => G.sub x (List.mem_cons_of_mem _ hx), fun c z => ?_, fun x hx => ?_⟩
  · cases z
    exact G.sub v List.mem_cons_self
  · rcases G.cl x hx with a | ⟨j, a, _⟩ | a
    · rcases List.mem_cons.mp a with z | z
      · subst z
        exact .inr (.inl ⟨0, rfl, fun i w _ hi => absurd hi (Nat.not_lt_zero _)⟩)
      · exact .inl z
    · cases a
    · exact .inr (.inr a)
/-- the next lead goes to a node that is taken -/
theorem GInv.skip {h : Gr} {t0 : List Bool} {start v j w : Nat} {taken : List Bool} {lot stk : List Nat} (G : GInv h t0 start taken lot stk (some (v, j))) (hw : (suc h v)[j]? = some w) (ht : taken[w]? = some true) : GInv h t0 start taken lot stk (some (v, j + 1)) := by
  refine ⟨G.n, G.l, G.s, G.nd, G.ok, G.st, G.sub, fun c z => ?_, fun x hx => ?_⟩
  · cases z
    exact G.cur_ (v, j) rfl
  · rcases G.cl x hx with a | ⟨j', a, b⟩ | a
    · exact .inl a
    · cases a
      refine .inr (.inl ⟨j + 1, rfl, fun i u hu hi => ?_⟩)
      by_cases c : i = j
      · subst c
        rw [hw] at hu
        cases hu
        exact ht
      · exact b i u hu (by omega)
    · exact .inr (.inr a)
/-- .. to one that isn't: it is taken -/
theorem GInv.take {h : Gr} {t0 : List Bool} {start v j w : Nat} {taken : List Bool} {lot stk : List Nat} (G : GInv h t0 start taken lot stk (some (v, j))) (hw : (suc h v)[j]? = some w) (ht : taken[w]? ≠ some true) : GInv h t0 start (taken.set w true) (lot ++ [w]) (w :: stk) (some (v, j + 1)) := by
  have hwv := List.mem_of_getElem? hw
  have wl := G.n v w hwv
  have nw := fun z => ht ((G.s w wl).mpr z)
  have grow : ∀ x, taken[x]? = some true → (taken.set w true)[x]? = some true := fun x hx => by
    rw [List.getElem?_set]
    by_cases c : w = x
    · subst c
      rw [if_pos rfl, if_pos (by rw [G.l]; exact wl)]
    · rw [if_neg c]
      exact hx
  have self_ : (taken.set w true)[w]? = some true := by
    rw [List.getElem?_set, if_pos rfl, if_pos (by rw [G.l]; exact wl)]
  refine ⟨G.n, by rw [List.length_set]; exact G.l, fun x hx => ?_, ?_, fun x hx => ?_, List.mem_append.mpr (.inl G.st), fun x hx => ?_, fun c z => ?_, fun x hx => ?_⟩
  · rw [List.getElem?_set, List.mem_append, List.mem_singleton]
    by_cases c : w = x
    · subst c
      rw [if_pos rfl, if_pos (by rw [G.l]; exact wl)]
      simp
    · rw [if_neg c, G.s x hx]
      constructor
      · exact fun z => z.imp id .inl
      · rintro (z | z | z)
        · exact .inl z
        · exact .inr z
        · exact absurd z.symm c
  · rw [List.nodup_append]
    refine ⟨G.nd, by simp, fun a ha b hb e => ?_⟩
    rw [List.mem_singleton.mp hb] at e
    subst e
    exact nw (.inr ha)
  · rcases List.mem_append.mp hx with z | z
    · exact G.ok x z
    · rw [List.mem_singleton.mp z]
      exact .tail (G.ok v (G.cur_ (v, j) rfl)) hwv ⟨wl, fun q => nw (.inl q)⟩
  · rcases List.mem_cons.mp hx with z | z
    · rw [z]
      exact List.mem_append.mpr (.inr (List.mem_singleton.mpr rfl))
    · exact List.mem_append.mpr (.inl (G.sub x z))
  · cases z
    exact List.mem_append.mpr (.inl (G.cur_ (v, j) rfl))
  · rcases List.mem_append.mp hx with z | z
    · rcases G.cl x z with a | ⟨j', a, b⟩ | a
      · exact .inl (List.mem_cons_of_mem _ a)
      · cases a
        refine .inr (.inl ⟨j + 1, rfl, fun i u hu hi => ?_⟩)
        by_cases c : i = j
        · subst c
          rw [hw] at hu
          cases hu
          exact self_
        · exact grow u (b i u hu (by omega))
      · exact .inr (.inr fun u hu => grow u (a u hu))
    · rw [List.mem_singleton.mp z]
      exact .inl List.mem_cons_self
/-- all leads of the node are followed -/
theorem GInv.end_ {h : Gr} {t0 : List Bool} {start v : Nat} {taken : List Bool} {lot stk : List Nat} (G : GInv h t0 start taken lot stk (some (v, (suc h v).length))) : GInv h t0 start taken lot stk none := by
  refine ⟨G.n, G.l, G.s, G.nd, G.ok, G.st, G.sub, fun c z => (nomatch z), fun x hx => ?_⟩
  rcases G.cl x hx with a | ⟨j', a, b⟩ | a
  · exact .inl a
  · cases a
    refine .inr (.inr fun w hw => ?_)
    obtain ⟨i, hi⟩ := List.mem_iff_getElem?.mp hw
    exact b i w hi (List.getElem?_eq_some_iff.mp hi).1
  · exact .inr (.inr a)
/-- what is gathered -/
theorem GInv.done {h : Gr} {t0 : List Bool} {start : Nat} {taken : List Bool} {lot : List Nat} (G : GInv h t0 start taken lot [] none) : (∀ v, v ∈ lot ↔ Via h (Free t0) start v) ∧ lot.Nodup ∧ taken.length = t0.length ∧ ∀ v, v < t0.length → (taken[v]? = some true ↔ t0[v]? = some true ∨ v ∈ lot) := by
  refine ⟨fun v => ⟨G.ok v, fun p => ?_⟩, G.nd, G.l, G.s⟩
  induction p with
  | refl => exact G.st
  | @tail u w a b c ih =>
    rcases G.cl u ih with z | ⟨_, z, _⟩ | z
    · cases z
    · cases z
    · rcases (G.s w c.1).mp (z w b) with q | q
      · exact absurd q c.2
      · exact q
/-! ### the lots -/
def Scc (g : Gr) (lot : List Nat) : Prop := lot ≠ [] ∧ ∀ v ∈ lot, v < g.length ∧ ∀ w, w < g.length → (w ∈ lot ↔ Reach g v w ∧ Reach g w v)
/-- all nodes of the order from p on are in lots -/
structure KInv (g : Gr) (order : List Nat) (p : Nat) (taken : List Bool) (found : List (List Nat)) : Prop where
  l : taken.length = g.length
  s : ∀ v, v < g.length → (taken[v]? = some true ↔ ∃ lot ∈ found, v ∈ lot)
  c : ∀ lot ∈ found, Scc g lot ∧ lot.Pairwise (· < ·)
  d : found.Pairwise fun a b => ∀ v ∈ a, v ∉ b
  a : ∀ q v, order[q]? = some v → p ≤ q → taken[v]? = some true
theorem reach_lt {g : Gr} (n : ∀ u w, w ∈ suc g u → w < g.length) {u v : Nat} (h : Reach g u v) (hu : u < g.length) : v < g.length := by
  induction h with
  | refl => exact hu
  | tail _ b _ => exact n _ _ b
theorem KInv.zero {g : Gr} {order : List Nat} : KInv g order order.length (List.replicate g.length false) [] := by
  refine ⟨List.length_replicate, fun v hv => ?_, fun lot h => (nomatch h), .nil, fun q v hq hp => ?_⟩
  · rw [List.getElem?_replicate, if_pos hv]
    simp
  · have := (List.getElem?_eq_some_iff.mp hq).1
    omega
theorem KInv.skip {g : Gr} {order : List Nat} {p v : Nat} {taken : List Bool} {found : List (List Nat)} (K : KInv g order (p + 1) taken found) (hv : order[p]? = some v) (ht : taken[v]? = some true) : KInv g order p taken found := by
  refine ⟨K.l, K.s, K.c, K.d, fun q u hq hp => ?_⟩
  by_cases c : q = p
  · subst c
    rw [hv] at hq
    cases hq
    exact ht
  · exact K.a q u hq (by omega)
theorem KInv.lot {g h : Gr} {order : List Nat} {p start : Nat} {taken taken' : List Bool} {found : List (List Nat)} {lot lot' : List Nat} (n : ∀ u w, w ∈ suc g u → w < g.length) (O : Ord g order) (T : Turned g h) (K : KInv g order (p + 1) taken found) (hv : order[p]? = some start) (ht : taken[start]? ≠ some true)
    (G : GInv h taken start taken' lot [] none) (hp : lot'.Perm lot) (asc : lot'.Pairwise (· ≤ ·)) : KInv g order p taken' (found ++ [lot']) := by
  obtain ⟨g1, g2, g3, g4⟩ := G.done
  have sl : start < g.length := (O.all start).mp (List.mem_of_getElem? hv)
  have fl : ∀ x, Free taken x → x < g.length := fun x h => by rw [← K.l]; exact h.1
  -- free nodes are left no later than the start
  have early : ∀ x, Free taken x → x ∈ order.take (p + 1) := fun x hx => by
    obtain ⟨q, hq⟩ := List.mem_iff_getElem?.mp ((O.all x).mpr (fl x hx))
    by_cases c : q < p + 1
    · exact List.mem_iff_getElem?.mpr ⟨q, by rw [List.getElem?_take, if_pos c]; exact hq⟩
    · exact absurd (K.a q x hq (by omega)) hx.2
  -- what is gathered is what leads to the start and back
  have is : ∀ v, v < g.length → (v ∈ lot ↔ Reach g start v ∧ Reach g v start) := fun v hvl => by
    constructor
    · intro z
      have w := via_turned n T fl ((g1 v).mp z)
      exact ⟨O.f.back O.nd hv (w.mono early), w.reach⟩
    · rintro ⟨a, b⟩
      refine (g1 v).mpr (turned_via T fl (Via.of b fun x h1 h2 => ?_))
      have xl := reach_lt n h1 hvl
      refine ⟨by rw [K.l]; exact xl, fun z => ?_⟩
      obtain ⟨l0, hl0, hx⟩ := (K.s x xl).mp z
      have c := ((K.c l0 hl0).1.2 x hx).2 start sl
      exact ht ((K.s start sl).mpr ⟨l0, hl0, c.mpr ⟨h2, a.trans h1⟩⟩)
  have mem : ∀ v, v ∈ lot' ↔ v ∈ lot := fun v => hp.mem_iff
  have lotl : ∀ v ∈ lot, v < g.length := fun v hvm => fl v ((g1 v).mp hvm).snd
  have nd' : lot'.Nodup := hp.nodup_iff.mpr g2
  refine ⟨g3.trans K.l, fun v hvl => ?_, fun l hl => ?_, ?_, fun q u hq hp' => ?_⟩
  · rw [g4 v (by rw [K.l]; exact hvl), K.s v hvl]
    constructor
    · rintro (⟨l, a, b⟩ | b)
      · exact ⟨l, List.mem_append.mpr (.inl a), b⟩
      · exact ⟨lot', List.mem_append.mpr (.inr (List.mem_singleton.mpr rfl)), (mem v).mpr b⟩
    · rintro ⟨l, a, b⟩
      rcases List.mem_append.mp a with z | z
      · exact .inl ⟨l, z, b⟩
      · rw [List.mem_singleton.mp z] at b
        exact .inr ((mem v).mp b)
  · rcases List.mem_append.mp hl with z | z
    · exact K.c l z
    · rw [List.mem_singleton.mp z]
      refine ⟨⟨fun e => ?_, fun v hvm => ⟨lotl v ((mem v).mp hvm), fun w hw => ?_⟩⟩, ?_⟩
      · have z := (mem start).mpr G.st
        rw [e] at z
        cases z
      · have hv0 := (is v (lotl v ((mem v).mp hvm))).mp ((mem v).mp hvm)
        rw [mem w, is w hw]
        exact ⟨fun ⟨a, b⟩ => ⟨hv0.2.trans a, b.trans hv0.1⟩, fun ⟨a, b⟩ => ⟨hv0.1.trans a, b.trans hv0.2⟩⟩
      · exact (List.pairwise_and_iff.mpr ⟨asc, nd'⟩).imp fun ⟨a, b⟩ => Nat.lt_of_le_of_ne a b
  · refine List.pairwise_append.mpr ⟨K.d, by simp, fun a ha b hb v hva => ?_⟩
    rw [List.mem_singleton.mp hb]
    intro z
    have fr := ((g1 v).mp ((mem v).mp z)).snd
    exact fr.2 ((K.s v (fl v fr)).mpr ⟨a, ha, hva⟩)
  · have ul := (O.all u).mp (List.mem_of_getElem? hq)
    rw [g4 u (by rw [K.l]; exact ul)]
    by_cases c : q = p
    · subst c
      rw [hv] at hq
      cases hq
      exact .inr G.st
    · exact .inl (K.a q u hq (by omega))
/-- the lots, all of them -/
structure Knots (g : Gr) (found : List (List Nat)) : Prop where
  c : ∀ lot ∈ found, Scc g lot ∧ lot.Pairwise (· < ·)
  d : found.Pairwise fun a b => ∀ v ∈ a, v ∉ b
  a : ∀ v, v < g.length → ∃ lot ∈ found, v ∈ lot
theorem KInv.done {g : Gr} {order : List Nat} {taken : List Bool} {found : List (List Nat)} (O : Ord g order) (K : KInv g order 0 taken found) : Knots g found :=
  ⟨K.c, K.d, fun v hv => by
    obtain ⟨q, hq⟩ := List.mem_iff_getElem?.mp ((O.all v).mpr hv)
    exact (K.s v hv).mp (K.a q v hq (Nat.zero_le _))⟩
/-! ### rings -/
/-- v leads back to itself -/
def OnRing (g : Gr) (v : Nat) : Prop := ∃ w ∈ suc g v, Reach g w v
/-- what counts as a lot of rings -/
def ringLot (g : Gr) (lot : List Nat) : Bool := decide (1 < lot.length) || decide (lot.headD 0 ∈ suc g (lot.headD 0))
theorem Reach.first {g : Gr} {u v : Nat} (h : Reach g u v) (n : u ≠ v) : ∃ w ∈ suc g u, Reach g w v := by
  induction h with
  | refl => exact absurd rfl n
  | @tail x y a b ih =>
    by_cases c : u = x
    · subst c
      exact ⟨y, b, .refl _⟩
    · obtain ⟨w, h1, h2⟩ := ih c
      exact ⟨w, h1, .tail h2 b⟩
theorem ring_iff {g : Gr} (n : ∀ u w, w ∈ suc g u → w < g.length) {lot : List Nat} (S : Scc g lot) (nd : lot.Pairwise (· < ·)) {v : Nat} (hv : v ∈ lot) : OnRing g v ↔ ringLot g lot = true := by
  obtain ⟨ne, all⟩ := S
  obtain ⟨vl, hs⟩ := all v hv
  unfold ringLot
  rw [Bool.or_eq_true, decide_eq_true_eq, decide_eq_true_eq]
  constructor
  · rintro ⟨w, h1, h2⟩
    have wl := n v w h1
    have hw : w ∈ lot := (hs w wl).mpr ⟨.one h1, h2⟩
    match lot, hv, hw, nd with
    | [a], hv, hw, _ =>
      right
      rw [List.mem_singleton] at hv hw
      subst hv
      subst hw
      exact h1
    | a :: b :: r, _, _, _ =>
      left
      simp only [List.length_cons]
      omega
  · intro h
    match lot, hv, nd with
    | [a], hv, _ =>
      rcases h with h | h
      · simp at h
      · rw [List.mem_singleton] at hv
        subst hv
        exact ⟨v, h, .refl _⟩
    | a :: b :: r, hv, nd =>
      -- another node of the lot
      have ab : a < b := (List.pairwise_cons.mp nd).1 b List.mem_cons_self
      obtain ⟨w, hw, wn⟩ : ∃ w ∈ a :: b :: r, v ≠ w := by
        by_cases c : v = a
        · exact ⟨b, by simp, by omega⟩
        · exact ⟨a, by simp, c⟩
      have z := (hs w (all w hw).1).mp hw
      obtain ⟨x, h1, h2⟩ := z.1.first wn
      exact ⟨x, h1, h2.trans z.2⟩
/-- the nodes of the lots that are rings -/
def ringNodes (g : Gr) (found : List (List Nat)) : List Nat := (found.filter (ringLot g)).flatten
theorem rings_are {g : Gr} (n : ∀ u w, w ∈ suc g u → w < g.length) {found : List (List Nat)} (K : Knots g found) (v : Nat) : v ∈ ringNodes g found ↔ v < g.length ∧ OnRing g v := by
  unfold ringNodes
  rw [List.mem_flatten]
  constructor
  · rintro ⟨lot, h1, h2⟩
    obtain ⟨a, b⟩ := List.mem_filter.mp h1
    obtain ⟨c, d⟩ := K.c lot a
    exact ⟨(c.2 v h2).1, (ring_iff n c d h2).mpr b⟩
  · rintro ⟨hv, hr⟩
    obtain ⟨lot, a, b⟩ := K.a v hv
    obtain ⟨c, d⟩ := K.c lot a
    exact ⟨lot, List.mem_filter.mpr ⟨a, (ring_iff n c d b).mp hr⟩, b⟩
theorem rings_nodup {g : Gr} {found : List (List Nat)} (K : Knots g found) : (ringNodes g found).Nodup := by
  unfold ringNodes
  rw [List.Nodup, List.pairwise_flatten]
  refine ⟨fun lot hl => ((K.c lot (List.mem_filter.mp hl).1).2).imp fun h => Nat.ne_of_lt h, (K.d.filter _).imp fun {a b} h x hx y hy e => ?_⟩
  subst e
  exact h x hx hy
end KM

set_option Elab.async false
set_option linter.all false
set_option maxRecDepth 100000
set_option maxHeartbeats 4000000
/-! The leads of a circuit's gates; a graph turned round. -/
namespace K02
open PySem PySem.Spec L2
open PyProof.Rows GenW GxR EZ TK
open LamX (ExtN)
abbrev sGateLeads : Stmt := top 26 -- gate_leads
abbrev sTurned : Stmt := top 12 -- turned_round
def gateOf : Src → Option Nat
  | .gate i => some i
  | _ => none
def leadsC (C : Circ) : KM.Gr := C.gates.map fun g => g.1.filterMap gateOf
theorem leadsC_len (C : Circ) : (leadsC C).length = C.gates.length := List.length_map ..
theorem leadsC_lt {C : Circ} (ok : C.ok) : ∀ u w, w ∈ KM.suc (leadsC C) u → w < (leadsC C).length := fun u w h => by
  unfold KM.suc leadsC at h
  rw [List.getD_eq_getElem?_getD, List.getElem?_map] at h
  cases e : C.gates[u]? with
  | none =>
    rw [e] at h
    simp at h
  | some g =>
    rw [e] at h
    simp only [Option.map_some, Option.getD_some, List.mem_filterMap] at h
    obtain ⟨s, hs, e2⟩ := h
    have z := (ok.gates g (List.mem_of_getElem? e)).2.2 s hs
    rw [leadsC_len]
    cases s with
    | gate i =>
      cases e2
      exact z
    | _ => cases e2
/-- a list of lists of numbers -/
def NL (H : Hp) (v : V) (row : List Nat) : Prop := ∃ a, v = .ref a ∧ H a = some (.lst (nV row))
def LdAt (H : Hp) (L : Addr) (g : KM.Gr) : Prop := ∃ vs, H L = some (.lst vs) ∧ AllAt NL H vs g
theorem NL.same {H H' : Hp} {v : V} {row : List Nat} (h : NL H v row) (s : Same H H') : NL H' v row := by
  obtain ⟨a, e, h⟩ := h
  exact ⟨a, e, s _ _ h⟩
theorem LdAt.same {H H' : Hp} {L : Addr} {g : KM.Gr} (h : LdAt H L g) (s : Same H H') : LdAt H' L g := by
  obtain ⟨vs, e, al⟩ := h
  exact ⟨vs, s _ _ e, all_ext (fun _ _ r => r.same s) al⟩
/-- .. that isn't D -/
def NLd (D : Addr) (H : Hp) (v : V) (row : List Nat) : Prop := ∃ a, v = .ref a ∧ a ≠ D ∧ H a = some (.lst (nV row))
theorem NLd.keep {D : Addr} {H H' : Hp} {v : V} {row : List Nat} (h : NLd D H v row) (k : ∀ b o, b ≠ D → H b = some o → H' b = some o) : NLd D H' v row := by
  obtain ⟨a, e, n, h⟩ := h
  exact ⟨a, e, n, k _ _ n h⟩
theorem ret_of' {t : TE} {D : Ends} {σ : L2.St} {H : Hp} (h : t σ H D.rt) : tRet t D σ H := h
theorem paired_of {α β : Type} {R : α → β → Prop} : ∀ {xs : List α} {ys : List β}, xs.length = ys.length → (∀ (k : Nat) (x : α) (y : β), xs[k]? = some x → ys[k]? = some y → R x y) → Paired R xs ys
  | [], [], _, _ => .nil
  | x :: xs, y :: ys, l, h => .cons (h 0 x y rfl rfl) (paired_of (Nat.succ.inj l) fun k a b ha hb => h (k + 1) a b ha hb)
  | [], _ :: _, l, _ => by cases l
  | _ :: _, [], l, _ => by cases l
section
variable {P : Program} {w : World} {K : PySem.W.Frag} {mg : Str → Option Value} {base : Heap}
abbrev nGL : List Str := ["circuit", "sources", "_", "kind", "at"]
abbrev scGLi : Scope := { kind := .function, names := [(".0", .local), ("sources", .local), ("_", .local)], isGenerator := false, isCoroutine := false }
theorem scGL : FnScope nGL ["circuit"] (defScope sGateLeads) := ⟨rfl, rfl, rfl, by decide +kernel, rfl, by decide +kernel, by decide +kernel⟩
def spGLeads : Sp := fun vs H Q _ => ∃ (y : V) (C : Circ), vs = [y] ∧ CircAt H y C ∧ C.ok ∧ ∀ L H', Same H H' → H L = none → LdAt H' L (leadsC C) → Q (.ref L) H'
theorem ok_gLeads {f : Addr} {fd : FuncData} (F : Fun K "gate_leads" "gate_leads" sGateLeads f fd) : FnOk P w K mg base CX0 1 f fd ["circuit"] spGLeads := by
  refine F.ok scGL (fun vs H Q E h => ?_) (fun cdv A outer s H vs Q E hr h => ?_)
  · obtain ⟨y, C, rfl, _⟩ := h
    rfl
  · obtain ⟨y, C, rfl, hC, ok, q⟩ := h
    refine ⟨_, (pss_one (ps_ret (pe_lc (own := [("sources", 1), ("_", 2)]) (g := gTup K 2 (gCons (gName 1) (gCons (gName 2) gNil))) (tt := tYes) rfl scGL.nd (pi_tup (pe_ix (r := rIxT K) ix_tup (pv 0) pe_int (fun _ _ => rfl))) (blkOk_by (N := nGL) (sc := defScope sGateLeads) (by decide +kernel)) (fun _ _ _ _ _ => (pg_tup rfl (pgs_cons (pg_name (i := 1) scGL.nd rfl (Or.inl rfl)) (pgs_cons (pg_name (i := 2) scGL.nd rfl (Or.inl rfl)) pgs_nil)))) (fun _ _ _ _ _ => pts_nil) (fun _ _ _ _ _ => (pe_lc (own := [("kind", 3), ("at", 4)]) (wi := iTup K (tVar 1)) (tt := tTest (tOp rEq (tVar 3) (tC (.str "gate")))) (te := tVar 4) (g := gTup K 2 (gCons (gName 3) (gCons (gName 4) gNil))) rfl scGL.nd (pi_tup (pv 1)) (blkOk_by (N := nGL) (sc := scGLi) (by decide +kernel)) (fun _ _ _ _ _ => (pg_tup rfl (pgs_cons (pg_name (i := 3) scGL.nd rfl (Or.inl rfl)) (pgs_cons (pg_name (i := 4) scGL.nd rfl (Or.inl rfl)) pgs_nil)))) (fun _ _ _ _ _ => pts_one (pt_cmpR op_eq (pv 3) pe_str (nomark _))) (fun _ _ _ _ _ => (pv 4))))))), ?_⟩
    obtain ⟨t, ra, ga, oa, rs, gs, os, rfl, et, er, eg, eo, hrs, hgs, hos⟩ := id hC
    have lg : gs.length = C.gates.length := Paired.length hgs
    have b2 := ok.ng
    refine ret_of' (read_lcK (R := NLd) (fun D H H' v x k r => r.keep k) (leadsC C) (xs := gs) (fun R' r => ⟨_, rfl, t, _, 2, .ref ga, rfl, rfl, .inl (.inl et), rfl, r _ _ (fun _ _ e => e) eg⟩) (by rw [leadsC_len]; exact lg) (by rw [leadsC_len]; omega) (fun D i x y H1 Q' hx hy s1 nD1 k => ?_) (fun D H1 ws s1 nD eD al => ?_))
    · obtain ⟨g, hg1, gt, a, b, vs, rfl, e, ea, hv, eb⟩ := all_get hgs hx
      have ey : y = g.1.filterMap gateOf := by
        unfold leadsC at hy
        rw [List.getElem?_map, hg1] at hy
        exact (Option.some.inj hy).symm
      subst ey
      have g1 := (ok.gates g (List.mem_of_getElem? hg1)).1
      have lv : vs.length = g.1.length := Paired.length hv
      refine ⟨gt, _, rfl, .inl (.inl (s1 _ _ e)), rfl, _, _, rfl, _, _, rfl, rfl, rfl, ?_⟩
      refine ⟨_, rfl, a, rfl, ⟨vs, .inl (.inl (s1 _ _ ea))⟩, fun D2 nD2 => lc_tup (xs := vs) (fun j Hx => Same H1 Hx ∧ Hx D2 = some (.lst (nV ((g.1.take j).filterMap gateOf)))) ⟨same_new nD2, upd_same⟩ (fun j Hx _ d => .inl (.inl (d.1 _ _ (s1 _ _ ea)))) (fun j x Hx hx d => ?_) (fun Hx d => ?_)⟩
      · obtain ⟨sx, eD2⟩ := d
        obtain ⟨sr, hsr, p, rfl, ep⟩ := all_get hv hx
        have hj := (List.getElem?_eq_some_iff.mp hsr).1
        have epx := sx _ _ (s1 _ _ ep)
        refine ⟨p, _, rfl, .inl (.inl epx), rfl, _, _, rfl, _, _, rfl, rfl, rfl, ?_⟩
        refine ⟨_, rfl, rfl, _, rfl, ?_⟩
        show (if decide (V.str sr.kind = V.str "gate") = true then _ else _)
        have lt : (nV ((g.1.take j).filterMap gateOf)).length < sizeLine := by
          unfold nV
          rw [List.length_map]
          have z := List.length_filterMap_le gateOf (g.1.take j)
          rw [List.length_take] at z
          rw [sizeLine_eq]
          omega
        cases sr with
        | gate i =>
          rw [show decide (V.str (Src.gate i).kind = V.str ("gate" : Str)) = true from decide_eq_true rfl]
          refine iteT ⟨_, rfl, _, eD2, lt, fun b o e => ?_, ?_⟩
          · rw [upd_ne (ne_of_none e nD2)]
            exact sx _ _ e
          · rw [upd_same, take_snoc hsr, List.filterMap_append]
            unfold nV
            rw [List.map_append]
            rfl
        | inp i =>
          rw [show decide (V.str (Src.inp i).kind = V.str ("gate" : Str)) = false from decide_eq_false (fun z => absurd (V.str.inj z) (show ¬ ("in" : Str) = "gate" by decide +kernel))]
          refine iteF ⟨sx, ?_⟩
          rw [take_snoc hsr, List.filterMap_append, List.filterMap_cons_none rfl, List.filterMap_nil, List.append_nil]
          exact eD2
        | reg i =>
          rw [show decide (V.str (Src.reg i).kind = V.str ("gate" : Str)) = false from decide_eq_false (fun z => absurd (V.str.inj z) (show ¬ ("reg" : Str) = "gate" by decide +kernel))]
          refine iteF ⟨sx, ?_⟩
          rw [take_snoc hsr, List.filterMap_append, List.filterMap_cons_none rfl, List.filterMap_nil, List.append_nil]
          exact eD2
        | bit i =>
          rw [show decide (V.str (Src.bit i).kind = V.str ("gate" : Str)) = false from decide_eq_false (fun z => absurd (V.str.inj z) (show ¬ ("bit" : Str) = "gate" by decide +kernel))]
          refine iteF ⟨sx, ?_⟩
          rw [take_snoc hsr, List.filterMap_append, List.filterMap_cons_none rfl, List.filterMap_nil, List.append_nil]
          exact eD2
      · obtain ⟨sx, eD2⟩ := d
        rw [lv, List.take_length] at eD2
        exact k _ _ sx ⟨D2, rfl, fun z => nD1 (by rw [← z]; exact nD2), eD2⟩
    · exact q D H1 s1 nD ⟨ws, eD, paired_imp (fun _ _ ⟨a, e, _, h⟩ => ⟨a, e, h⟩) al⟩
/-! ### turned round -/
theorem scTR : FnScope ["leads", "backwards", "node", "row", "near", "_"] ["leads"] (defScope sTurned) := ⟨rfl, rfl, rfl, by decide +kernel, rfl, by decide +kernel, by decide +kernel⟩
def spTurned : Sp := fun vs H Q _ => ∃ (L : Addr) (g : KM.Gr), vs = [.ref L] ∧ LdAt H L g ∧ (∀ u w, w ∈ KM.suc g u → w < g.length) ∧ g.length ≤ 2000 ∧ (∀ r ∈ g, r.length ≤ 4) ∧ ∀ D H' (h : KM.Gr), Same H H' → LdAt H' D h → KM.Turned g h → (∀ r ∈ h, r.length ≤ 8000) → Q (.ref D) H'
theorem ok_turned {f : Addr} {fd : FuncData} (F : Fun K "turned_round" "turned_round" sTurned f fd) (men : mg "enumerate" = none) : FnOk P w K mg base CX0 1 f fd ["leads"] spTurned := by
  refine F.ok scTR (fun vs H Q E h => ?_) (fun cdv A outer s H vs Q E hr h => ?_)
  · obtain ⟨L, g, rfl, _⟩ := h
    rfl
  · obtain ⟨L, g, rfl, ⟨lv, eL, hL⟩, hn, g2, g4, q⟩ := h
    refine ⟨_, (pss_cons (ps_setLc (i := 1) (own := [("_", 5)]) (g := gName 5) (tt := tYes) rfl scTR.nd rfl rfl (sw_true rfl rfl rfl (by decide +kernel)) (pi_list (pv 0)) (blkOk_by (N := ["leads", "backwards", "node", "row", "near", "_"]) (sc := defScope sTurned) (by decide +kernel)) (fun _ _ _ _ _ => (pg_name (i := 5) scTR.nd rfl (Or.inl rfl))) (fun _ _ _ _ _ => pts_nil) (fun _ _ _ _ _ => (pe_lst pa_nil)))
      (pss_cons (ps_for PassesOwn.never rfl (pi_enum (by rfl) men (pa_cons (pv 0) pa_nil)) (pg_tup rfl (pgs_cons (pg_name (i := 2) scTR.nd rfl (Or.inl rfl)) (pgs_cons (pg_name (i := 3) scTR.nd rfl (Or.inl rfl)) pgs_nil)))
        (pss_one (ps_for PassesOwn.never rfl (pi_list (pv 3)) (pg_name (i := 4) scTR.nd rfl (Or.inl rfl))
          (pss_one (ps_expr (pe_bm PySem.F.plainAttrs_list PySem.F.slot_list_append PySem.F.type_list_append mt_append (pe_ix (r := rIxL K) ix_list (pv 1) (pv 4) (fun _ _ => rfl)) (pa_cons (pv 2) pa_nil)))))))
      (pss_one (ps_ret (pv 1))))), ?_⟩
    have ll : lv.length = g.length := Paired.length hL
    -- backwards = [[] for _ in leads]
    refine ⟨_, rfl, L, rfl, ⟨lv, .inl (.inl eL)⟩, fun D nD => lc_list (xs := lv) (fun i H' => ∃ las : List Addr, las.length = i ∧ RS H H' D las (fun _ => [])) ⟨[], rfl, RS.begin nD⟩ (fun i H' _ ⟨las, _, r⟩ => .inl (.inl (r.keep _ _ eL))) (fun i x H' hx ⟨las, ll', r⟩ => ?_) (fun H' ⟨las, ll', r⟩ => ?_)⟩
    · refine ⟨rfl, Nat.zero_le _, fun p np => ⟨las.map .ref, ?_, ?_, las ++ [p], by rw [List.length_append, ll']; rfl, r.push np⟩⟩
      · rw [upd_ne (fun z => by
          have := r.all
          rw [z, np] at this
          cases this)]
        exact r.all
      · have hi : i < lv.length := (List.getElem?_eq_some_iff.mp hx).1
        rw [List.length_map, ll', sizeLine_eq]
        omega
    · rw [ll] at ll'
      refine ⟨_, rfl, L, lv, rfl, .inl (.inl (r.keep _ _ eL)), for_it walk_enum (fun i σ Hx => ∃ (y2 y3 y4 y5 : Option V) (rd : Nat → List Nat), σ = [some (.ref L), some (.ref D), y2, y3, y4, y5] ∧ RS H Hx D las rd ∧ (∀ k u, u ∈ rd k ↔ u < i ∧ k ∈ KM.suc g u) ∧ (∀ k, (rd k).length ≤ 4 * i))
        ⟨none, none, none, none, fun _ => [], rfl, r, fun k u => by simp, fun k => Nat.le_refl _⟩ (fun i σ Hx _ ⟨_, _, _, _, _, _, r2, _⟩ => .inl (.inl (r2.keep _ _ eL))) (fun i x σ Hx Hy hi ⟨y2, y3, y4, y5, rd, eσ, r2, mem, len⟩ hy => ?_) (fun σ Hx ⟨y2, y3, y4, y5, rd, eσ, r2, mem, len⟩ => ?_)⟩
      · subst eσ
        obtain ⟨T, x1, y1, rfl, nT, rfl, hx, hy⟩ := hy
        cases hx
        have hy : lv[i]? = some y1 := hy
        obtain ⟨row, hrow, a, rfl, ea⟩ := all_get hL hy
        have r3 := r2.same (same_new (o := .tup [.int (i : Nat), .ref a]) nT)
        have l4 : row.length ≤ 4 := g4 row (List.mem_of_getElem? hrow)
        have es : KM.suc g i = row := by
          unfold KM.suc
          rw [List.getD_eq_getElem?_getD, hrow]
          rfl
        have hii : i < 2000 := by omega
        have lnV : (nV row).length = row.length := by unfold nV; rw [List.length_map]
        refine ⟨T, _, rfl, .inl (.inl upd_same), rfl, _, _, rfl, _, _, rfl, rfl, ?_⟩
        refine ⟨_, rfl, a, rfl, ⟨_, .inl (.inl (r3.keep _ _ ea))⟩, for_list (xs := nV row) (fun j σ Hx => ∃ (y4 y5 : Option V) (rd : Nat → List Nat), σ = [some (.ref L), some (.ref D), some (.int (i : Nat)), some (.ref a), y4, y5] ∧ RS H Hx D las rd ∧ (∀ k u, u ∈ rd k ↔ (u < i ∧ k ∈ KM.suc g u) ∨ (u = i ∧ k ∈ row.take j)) ∧ (∀ k, (rd k).length ≤ 4 * i + j))
          ⟨y4, y5, rd, rfl, r3, fun k u => by rw [mem]; simp, len⟩ (fun j σ Hx _ ⟨_, _, _, _, r4, _⟩ => .inl (.inl (r4.keep _ _ ea))) (fun j x σ Hz hx ⟨y4, y5, rd, eσ, r4, mem, len⟩ => ?_) (fun σ Hz ⟨y4, y5, rd, eσ, r4, mem, len⟩ => ?_)⟩
        · subst eσ
          obtain ⟨k, hk, rfl⟩ : ∃ k : Nat, row[j]? = some k ∧ x = .int (k : Int) := by
            unfold nV at hx
            rw [List.getElem?_map] at hx
            obtain ⟨k, a1, a2⟩ := Option.map_eq_some_iff.mp hx
            exact ⟨k, a1, a2.symm⟩
          have hj : j < row.length := (List.getElem?_eq_some_iff.mp hk).1
          have kl : k < g.length := hn i k (by rw [es]; exact List.mem_of_getElem? hk)
          have hkl : las[k]? = some las[k] := List.getElem?_eq_getElem (by omega)
          refine ⟨_, rfl, _, rfl, D, _, (k : Int), .ref las[k], rfl, rfl, .inl (.inl r4.all), (atI_nat (v := V.ref las[k]) (by rw [List.getElem?_map, hkl]; rfl)), .inl ⟨rfl, _, .inl (.inl (r4.at_ k _ hkl))⟩, _, rfl, las[k], _, _, rfl, rfl, r4.at_ k _ hkl, ?_, _, _, _, rfl, r4.add hkl, fun k2 u => ?_, fun k2 => ?_⟩
          · have := len k
            unfold nV
            rw [List.length_map, sizeLine_eq]
            omega
          · rw [take_snoc hk, List.mem_append, List.mem_singleton]
            by_cases e : k2 = k
            · subst e
              rw [if_pos rfl, List.mem_append, List.mem_singleton, mem]
              constructor
              · rintro ((z | z) | z)
                · exact .inl z
                · exact .inr ⟨z.1, .inl z.2⟩
                · exact .inr ⟨z, .inr rfl⟩
              · rintro (z | ⟨z1, z2 | z2⟩)
                · exact .inl (.inl z)
                · exact .inl (.inr ⟨z1, z2⟩)
                · exact .inr z1
            · rw [if_neg e, mem]
              simp [e]
          · have := len k2
            by_cases e : k2 = k
            · rw [if_pos e, List.length_append, ← e]
              show (rd k2).length + 1 ≤ _
              omega
            · rw [if_neg e]
              omega
        · subst eσ
          refine ⟨_, _, _, _, rd, rfl, r4, fun k u => ?_, fun k => ?_⟩
          · rw [mem, lnV, List.take_of_length_le (Nat.le_refl _)]
            constructor
            · rintro (⟨z1, z2⟩ | ⟨z1, z2⟩)
              · exact ⟨by omega, z2⟩
              · exact ⟨by omega, by rw [z1, es]; exact z2⟩
            · rintro ⟨z1, z2⟩
              by_cases e : u = i
              · exact .inr ⟨e, by rw [← es, ← e]; exact z2⟩
              · exact .inl ⟨by omega, z2⟩
          · have := len k
            omega
      · subst eσ
        have sucr : ∀ v, v < g.length → KM.suc ((List.range g.length).map rd) v = rd v := fun v hv => by
          unfold KM.suc
          rw [List.getD_eq_getElem?_getD, List.getElem?_map, List.getElem?_range hv]
          rfl
        refine ⟨_, rfl, q D Hx ((List.range g.length).map rd) r2.keep ⟨las.map .ref, r2.all, ?_⟩ ⟨by rw [List.length_map, List.length_range], fun u v hv => ?_⟩ fun row hrow => ?_⟩
        · refine paired_of (by rw [List.length_map, List.length_map, List.length_range]; exact ll') fun k v row hv hrow => ?_
          rw [List.getElem?_map] at hv hrow
          obtain ⟨l, a1, a2⟩ := Option.map_eq_some_iff.mp hv
          obtain ⟨m, b1, b2⟩ := Option.map_eq_some_iff.mp hrow
          have z := List.getElem?_eq_some_iff.mp b1
          obtain ⟨z1, z2⟩ := z
          rw [List.getElem_range] at z2
          subst z2
          exact ⟨l, a2.symm, by rw [← b2]; exact r2.at_ k l a1⟩
        · rw [sucr v hv, mem, ll]
          refine ⟨fun z => z.2, fun z => ⟨?_, z⟩⟩
          by_cases c : u < g.length
          · exact c
          · unfold KM.suc at z
            rw [List.getD_eq_getElem?_getD, List.getElem?_eq_none (by omega)] at z
            cases z
        · obtain ⟨m, _, rfl⟩ := List.mem_map.mp hrow
          have := len m
          omega
end
end K02

set_option Elab.async false
set_option linter.all false
set_option maxHeartbeats 1000000
/-! .. each turn of the first search leaves less to do. -/
namespace KM
theorem sum_but {f f' : Nat → Nat} {w d : Nat} : ∀ {l : List Nat}, l.Nodup → w ∈ l → (∀ x, x ≠ w → f' x = f x) → f' w + d = f w → (l.map f').sum + d = (l.map f).sum
  | [], _, h, _, _ => by cases h
  | a :: r, nd, h, e, ew => by
    obtain ⟨n1, n2⟩ := List.nodup_cons.mp nd
    rw [List.map_cons, List.map_cons, List.sum_cons, List.sum_cons]
    by_cases c : a = w
    · subst c
      have z : r.map f' = r.map f := List.map_congr_left fun x hx => e x fun q => n1 (q ▸ hx)
      rw [z]
      omega
    · have hr : w ∈ r := by
        rcases List.mem_cons.mp h with q | q
        · exact absurd q.symm c
        · exact q
      have z := sum_but n2 hr e ew
      rw [e a c]
      omega
theorem todo_leave {g : Gr} {seen : List Bool} {v k : Nat} {r : List El} : todo g seen ((v, (suc g v).length, k) :: r) = todo g seen r + 1 := by
  unfold todo
  rw [List.map_cons, List.sum_cons]
  show _ + ((suc g v).length + 1 - (suc g v).length + _) = _
  omega
theorem todo_step {g : Gr} {seen : List Bool} {v a k : Nat} {r : List El} (h : a < (suc g v).length) : todo g seen ((v, a, k) :: r) = todo g seen ((v, a + 1, k) :: r) + 1 := by
  unfold todo
  rw [List.map_cons, List.sum_cons, List.map_cons, List.sum_cons]
  show _ + ((suc g v).length + 1 - a + _) = _ + ((suc g v).length + 1 - (a + 1) + _) + 1
  omega
theorem todo_come {g : Gr} {seen : List Bool} {w k : Nat} {stk : List El} (wl : w < g.length) (l : seen.length = g.length) (hs : seen[w]? ≠ some true) : todo g (seen.set w true) ((w, 0, k) :: stk) = todo g seen stk := by
  unfold todo
  rw [List.map_cons, List.sum_cons]
  have same_ : ∀ x, x ≠ w → (seen.set w true)[x]? = seen[x]? := fun x hx => by
    rw [List.getElem?_set]
    exact if_neg fun q => hx q.symm
  have self_ : (seen.set w true)[w]? = some true := by
    rw [List.getElem?_set, if_pos rfl, if_pos (by rw [l]; exact wl)]
  have z := sum_but (f := fun v => if seen[v]? = some true then 0 else (suc g v).length + 1) (f' := fun v => if (seen.set w true)[v]? = some true then 0 else (suc g v).length + 1) (w := w) (d := (suc g w).length + 1) (l := List.range g.length) List.nodup_range (List.mem_range.mpr wl) (fun x hx => by
      show (if (seen.set w true)[x]? = some true then 0 else _) = _
      rw [same_ x hx]) (by
      show (if (seen.set w true)[w]? = some true then 0 else _) + _ = (if seen[w]? = some true then 0 else _)
      rw [self_, if_neg hs]
      exact Nat.zero_add _)
  show _ + ((suc g w).length + 1 - 0 + _) = _
  omega
theorem nodup_len : ∀ (n : Nat) (l : List Nat), l.Nodup → (∀ x ∈ l, x < n) → l.length ≤ n
  | 0, [], _, _ => Nat.le_refl _
  | 0, a :: r, _, h => absurd (h a List.mem_cons_self) (Nat.not_lt_zero _)
  | n + 1, l, nd, h => by
    by_cases c : n ∈ l
    · have z := nodup_len n (l.erase n) (nd.erase n) fun x hx => by
        obtain ⟨a, b⟩ := (nd.mem_erase_iff).mp hx
        have := h x b
        omega
      rw [List.length_erase_of_mem c] at z
      omega
    · have z := nodup_len n l nd fun x hx => by
        have := h x hx
        have : x ≠ n := fun e => c (e ▸ hx)
        omega
      omega
end KM

set_option Elab.async false
set_option linter.all false
set_option maxRecDepth 100000
set_option maxHeartbeats 4000000
/-! The order in which a search leaves the nodes. -/
namespace K02
open PySem PySem.Spec L2
open PyProof.Rows GenW GxR EZ TK
open LamX (ExtN)
abbrev sLeaving : Stmt := top 11 -- leaving_order
/-- a node and how far its leads are followed -/
def ElAt (H : Hp) (v : V) (e : KM.El) : Prop := ∃ t, v = .ref t ∧ H t = some (.tup [.int (e.1 : Int), .int (e.2.1 : Int)])
theorem ElAt.keep {H H' : Hp} {v : V} {e : KM.El} (h : ElAt H v e) (k : TupKeep H H') : ElAt H' v e := by
  obtain ⟨t, a, b⟩ := h
  exact ⟨t, a, k _ _ b⟩
def blV (bs : List Bool) : List V := bs.map V.bl
theorem ixN_nat {i n : Nat} (h : i < n) : ixN n (i : Int) = some i := by
  unfold ixN
  rw [if_pos (by omega), if_pos (by omega), Int.toNat_natCast]
theorem blV_set (bs : List Bool) (i : Nat) : (blV bs).set i (.bl true) = blV (bs.set i true) := by
  unfold blV
  rw [List.map_set]
section
variable {P : Program} {w : World} {K : PySem.W.Frag} {mg : Str → Option Value} {base : Heap}
abbrev nLv : List Str := ["leads", "seen", "order", "start", "stack", "node", "at", "near"]
theorem scLv : FnScope nLv ["leads"] (defScope sLeaving) := ⟨rfl, rfl, rfl, by decide +kernel, rfl, by decide +kernel, by decide +kernel⟩
def spLeaving : Sp := fun vs H Q _ => ∃ (L : Addr) (g : KM.Gr), vs = [.ref L] ∧ LdAt H L g ∧ (∀ u w, w ∈ KM.suc g u → w < g.length) ∧ g.length ≤ 2000 ∧ (∀ r ∈ g, r.length ≤ 8000) ∧ ∀ O H' order, Same H H' → H O = none → H' O = some (.lst (nV order)) → KM.Ord g order → Q (.ref O) H'
theorem ok_leaving {f : Addr} {fd : FuncData} (F : Fun K "leaving_order" "leaving_order" sLeaving f fd) (mlen : mg "len" = none) (mrange : mg "range" = none) : FnOk P w K mg base CX0 1 f fd ["leads"] spLeaving := by
  refine F.ok scLv (fun vs H Q E h => ?_) (fun cdv A outer s H vs Q E hr h => ?_)
  · obtain ⟨L, g, rfl, _⟩ := h
    rfl
  · obtain ⟨L, g, rfl, ⟨lv, eL, hL⟩, hn, g2, g4, q⟩ := h
    refine ⟨_, (pss_cons (ps_set (i := 1) scLv.nd rfl (Or.inl rfl) (pe_op op_rep (pe_lst (pa_cons pe_bl pa_nil)) (pe_callB call_len_seq (by rfl) mlen PySem.boot_len (pa_cons (pv 0) pa_nil))))
      (pss_cons (ps_set (i := 2) scLv.nd rfl (Or.inl rfl) (pe_lst pa_nil))
      (pss_cons (ps_for PassesOwn.never rfl (pi_range1 (by rfl) mrange (pa_cons (pe_callB call_len_seq (by rfl) mlen PySem.boot_len (pa_cons (pv 0) pa_nil)) pa_nil)) (pg_name (i := 3) scLv.nd rfl (Or.inl rfl))
        (pss_cons (ps_if (pt_truth (pe_ix (r := rIxL K) ix_list (pv 1) (pv 3) (fun _ _ => rfl)) (fun _ => rfl)) (pss_one ps_continue) pss_nil)
        (pss_cons (ps_asg pe_bl (pg_sub (pv 1) (pv 3) set_list))
        (pss_cons (ps_set (i := 4) scLv.nd rfl (Or.inl rfl) (pe_lst (pa_cons (pe_tup (pa_cons (pv 3) (pa_cons pe_int pa_nil))) pa_nil)))
        (pss_one (ps_while PassesOwn.never (pt_truth (pv 4) (fun _ => rfl))
          (pss_cons (ps_asg (pe_bm0 PySem.F.plainAttrs_list PySem.F.slot_list_pop PySem.F.type_list_pop mt_pop (pv 4)) (pg_tup rfl (pgs_cons (pg_name (i := 5) scLv.nd rfl (Or.inl rfl)) (pgs_cons (pg_name (i := 6) scLv.nd rfl (Or.inl rfl)) pgs_nil))))
          (pss_cons (ps_if (pt_cmpR op_eq (pv 6) (pe_callB call_len_seq (by rfl) mlen PySem.boot_len (pa_cons (pe_ix (r := rIxL K) ix_list (pv 0) (pv 5) (fun _ _ => rfl)) pa_nil)) (nomark _)) (pss_cons (ps_expr (pe_bm PySem.F.plainAttrs_list PySem.F.slot_list_append PySem.F.type_list_append mt_append (pv 2) (pa_cons (pv 5) pa_nil)))
            (pss_one ps_continue)) pss_nil)
          (pss_cons (ps_expr (pe_bm PySem.F.plainAttrs_list PySem.F.slot_list_append PySem.F.type_list_append mt_append (pv 4) (pa_cons (pe_tup (pa_cons (pv 5) (pa_cons (pe_op op_add (pv 6) pe_int) pa_nil))) pa_nil)))
          (pss_cons (ps_set (i := 7) scLv.nd rfl (Or.inl rfl) (pe_ix (r := rIxL K) ix_list (pe_ix (r := rIxL K) ix_list (pv 0) (pv 5) (fun _ _ => rfl)) (pv 6) (fun _ _ => rfl)))
          (pss_one (ps_if (pt_not (pt_truth (pe_ix (r := rIxL K) ix_list (pv 1) (pv 7) (fun _ _ => rfl)) (fun _ => rfl))) (pss_cons (ps_asg pe_bl (pg_sub (pv 1) (pv 7) set_list))
            (pss_one (ps_expr (pe_bm PySem.F.plainAttrs_list PySem.F.slot_list_append PySem.F.type_list_append mt_append (pv 4) (pa_cons (pe_tup (pa_cons (pv 7) (pa_cons pe_int pa_nil))) pa_nil))))) pss_nil))))))))))))
      (pss_one (ps_ret (pv 2)))))), ?_⟩
    have ll : lv.length = g.length := Paired.length hL
    -- seen = [False] * len(leads)
    refine ⟨(by show 1 ≤ sizeLine; decide), fun p np => ⟨_, rfl, L, lv, rfl, .inl (.inl (.inl ((same_new np) _ _ eL))), p, (lv.length : Int), [V.bl false], rfl, rfl, upd_same, by omega, by omega, by rw [sizeLine_eq, Int.toNat_natCast]; simp only [List.length_cons, List.length_nil]; omega, fun S nS => ?_⟩⟩
    have s2 : Same H (L2.upd (L2.upd H p (.lst [V.bl false])) S (.lst (List.replicate ((lv.length : Int)).toNat [V.bl false]).flatten)) := (same_new np).trans (same_new nS)
    have eS2 : (L2.upd (L2.upd H p (.lst [V.bl false])) S (.lst (List.replicate ((lv.length : Int)).toNat [V.bl false]).flatten)) S = some (.lst (blV (List.replicate g.length false))) := by
      rw [upd_same, Int.toNat_natCast, rep_one, ll]
      unfold blV
      rw [List.map_replicate]
    have nSH : H S = none := (same_new np).free nS
    generalize L2.upd (L2.upd H p (.lst [V.bl false])) S (.lst (List.replicate ((lv.length : Int)).toNat [V.bl false]).flatten) = H2 at s2 eS2
    -- order = []
    refine ⟨Nat.zero_le _, fun O nO => ?_⟩
    have s3 : Same H (L2.upd H2 O (.lst [])) := s2.trans (same_new nO)
    have eO3 : (L2.upd H2 O (.lst [])) O = some (.lst (nV [])) := upd_same
    have SO : S ≠ O := ne_of_none eS2 nO
    have eS3 : (L2.upd H2 O (.lst [])) S = some (.lst (blV (List.replicate g.length false))) := by
      rw [upd_ne SO]
      exact eS2
    have nOH : H O = none := s2.free nO
    generalize L2.upd H2 O (.lst []) = H3 at s3 eO3 eS3
    refine ⟨_, rfl, L, lv, rfl, .inl (.inl (.inl (s3 _ _ eL))), lv.length, rfl, by omega, by omega, ?_⟩
    rw [Int.toNat_natCast]
    refine for_range (fun i σ Hx => ∃ (y3 y4 y5 y6 y7 : Option V) (seen : List Bool) (order : List Nat), σ = [some (.ref L), some (.ref S), some (.ref O), y3, y4, y5, y6, y7] ∧ Same H Hx ∧ Hx S = some (.lst (blV seen)) ∧ Hx O = some (.lst (nV order)) ∧ KM.DInv g seen order [] ∧ ∀ v, v < i → seen[v]? = some true)
      ⟨none, none, none, none, none, _, [], rfl, s3, eS3, eO3, .zero hn, fun v h => absurd h (Nat.not_lt_zero _)⟩ (fun i σ Hx hi hh => ?_) (fun σ Hx hh => ?_)
    · obtain ⟨y3, y4, y5, y6, y7, seen, order, rfl, sx, eS, eO, D, all⟩ := hh
      have il : i < seen.length := by rw [D.l]; omega
      have hb := List.getElem?_eq_getElem il
      have i0 : (0 : Int) + (i : Int) = (i : Int) := by omega
      -- if seen[start]: continue
      refine ⟨_, rfl, _, rfl, S, blV seen, ((0 : Int) + (i : Int)), .bl seen[i], rfl, rfl, .inl (.inl eS), (by rw [i0]; exact atI_nat (by unfold blV; rw [List.getElem?_map, hb]; rfl)), _, rfl, ?_⟩
      cases hbi : seen[i] with
      | true =>
        rw [hbi] at hb
        refine iteT ⟨_, _, _, _, _, seen, order, rfl, sx, eS, eO, D, fun v hv => ?_⟩
        by_cases c : v = i
        · rw [c]
          exact hb
        · exact all v (by omega)
      | false =>
      rw [hbi] at hb
      have hns : seen[i]? ≠ some true := by rw [hb]; exact fun z => by cases z
      refine iteF ?_
      -- seen[start] = True
      refine ⟨_, rfl, _, rfl, S, blV seen, ((0 : Int) + (i : Int)), i, rfl, rfl, eS, (by rw [i0]; exact ixN_nat (by unfold blV; rw [List.length_map]; exact il)), ?_⟩
      rw [blV_set]
      -- stack = [(start, 0)]
      refine ⟨_, rfl, (by show 2 ≤ sizeLine; decide), fun t nt => ⟨(by show 1 ≤ sizeLine; decide), fun T nT => ?_⟩⟩
      have sS : Same H (L2.upd Hx S (.lst (blV (seen.set i true)))) := fun b o e => by
        rw [upd_ne (ne_of_none e nSH)]
        exact sx _ _ e
      have eSS : (L2.upd Hx S (.lst (blV (seen.set i true)))) S = some (.lst (blV (seen.set i true))) := upd_same
      have eOS : (L2.upd Hx S (.lst (blV (seen.set i true)))) O = some (.lst (nV order)) := by
        rw [upd_ne (fun z => SO z.symm)]
        exact eO
      generalize L2.upd Hx S (.lst (blV (seen.set i true))) = Hs at sS eSS eOS nt nT
      have st_ := same_new (o := .tup [.int ((0 : Int) + (i : Int)), .int 0]) nt
      have et : (L2.upd Hs t (.tup [.int ((0 : Int) + (i : Int)), .int 0])) t = some (.tup [.int ((i : Nat) : Int), .int ((0 : Nat) : Int)]) := by
        rw [upd_same, i0]
        rfl
      generalize L2.upd Hs t (.tup [.int ((0 : Int) + (i : Int)), .int 0]) = Ht at st_ et nT
      have sT := same_new (o := .lst [V.ref t]) nT
      have eT : (L2.upd Ht T (.lst [V.ref t])) T = some (.lst [V.ref t]) := upd_same
      have nTH : H T = none := (sS.trans st_).free nT
      have TS : T ≠ S := fun z => by
        rw [z, st_ _ _ eSS] at nT
        cases nT
      have TO : T ≠ O := fun z => by
        rw [z, st_ _ _ eOS] at nT
        cases nT
      have s0 := (sS.trans st_).trans sT
      have eS0 := sT _ _ (st_ _ _ eSS)
      have eO0 := sT _ _ (st_ _ _ eOS)
      have et0 := sT _ _ et
      generalize L2.upd Ht T (.lst [V.ref t]) = H0 at s0 eS0 eO0 eT et0
      have D0 : KM.DInv g (seen.set i true) order [(i, 0, order.length)] := D.come (by omega) hns (fun e h => (nomatch h))
      have all0 : ∀ v, v < i + 1 → (seen.set i true)[v]? = some true := fun v hv => by
        rw [List.getElem?_set]
        by_cases c : i = v
        · subst c
          rw [if_pos rfl, if_pos il]
        · rw [if_neg c]
          exact all v (by omega)
      -- while stack
      refine ⟨fun m σ Hx => ∃ (y5 y6 y7 : Option V) (seen : List Bool) (order : List Nat) (stk : List KM.El) (ys : List V), σ = [some (.ref L), some (.ref S), some (.ref O), some (.int ((0 : Int) + (i : Int))), some (.ref T), y5, y6, y7] ∧ Same H Hx ∧ Hx S = some (.lst (blV seen)) ∧ Hx O = some (.lst (nV order)) ∧ Hx T = some (.lst ys.reverse) ∧ AllAt ElAt Hx ys stk ∧ KM.DInv g seen order stk ∧ (∀ v, v < i + 1 → seen[v]? = some true) ∧ KM.todo g seen stk = m,
        ⟨_, y5, y6, y7, _, order, [(i, 0, order.length)], [.ref t], rfl, s0, eS0, eO0, eT, .cons ⟨t, rfl, et0⟩ .nil, D0, all0, rfl⟩, fun m σ Hx hW => ?_⟩
      obtain ⟨y5, y6, y7, seen, order, stk, ys, rfl, sx, eS, eO, eT, al, D, all, hm⟩ := hW
      refine ⟨_, rfl, _, .inl ⟨_, .inl (.inl eT), rfl⟩, ?_⟩
      cases al with
      | nil =>
        refine iteF ?_
        exact ⟨_, _, _, _, _, seen, order, rfl, sx, eS, eO, D, all⟩
      | @cons y e ys' r hy al =>
      obtain ⟨v, a, k⟩ := e
      rw [show (!((y :: ys').reverse).isEmpty) = true by simp]
      refine iteT ⟨fun σ' H' => ∃ m', m' < m ∧ _, fun _ _ h => h, ?_⟩
      -- node, at = stack.pop()
      obtain ⟨te, rfl, ete⟩ := hy
      have erev : (V.ref te :: ys').reverse = ys'.reverse ++ [.ref te] := by simp
      rw [erev] at eT
      refine ⟨_, rfl, .inl ⟨rfl, _, .inl (.inl eT)⟩, T, _, .ref te, rfl, rfl, eT, by simp, ?_⟩
      rw [List.dropLast_concat]
      have kp : ∀ b o, b ≠ T → Hx b = some o → (L2.upd Hx T (.lst ys'.reverse)) b = some o := fun b o n e => by
        rw [upd_ne n]
        exact e
      have eTp : (L2.upd Hx T (.lst ys'.reverse)) T = some (.lst ys'.reverse) := upd_same
      have tup : TupKeep Hx (L2.upd Hx T (.lst ys'.reverse)) := TupKeep.upd eT fun xs z => by cases z
      have sp : Same H (L2.upd Hx T (.lst ys'.reverse)) := fun b o e => kp b o (ne_of_none e nTH) (sx _ _ e)
      have eSp := kp _ _ (fun z => TS z.symm) eS
      have eOp := kp _ _ (fun z => TO z.symm) eO
      have etp := tup _ _ ete
      have alp : AllAt ElAt (L2.upd Hx T (.lst ys'.reverse)) ys' r := all_ext (fun _ _ h => h.keep tup) al
      generalize L2.upd Hx T (.lst ys'.reverse) = Hp at eTp sp eSp eOp etp alp
      refine ⟨te, _, rfl, .inl (.inl etp), rfl, _, _, rfl, _, _, rfl, rfl, ?_⟩
      -- leads[node]
      have vl : v < g.length := D.lt v (by simp)
      have hv := List.getElem?_eq_getElem (show v < lv.length by omega)
      obtain ⟨row, hrow, ra, era, er⟩ := all_get hL hv
      rw [era] at hv
      have es : KM.suc g v = row := by
        unfold KM.suc
        rw [List.getD_eq_getElem?_getD, hrow]
        rfl
      have lrow : row.length ≤ 8000 := g4 row (List.mem_of_getElem? hrow)
      have lnV : (nV row).length = row.length := by unfold nV; rw [List.length_map]
      have lo : order.length ≤ 2000 := by
        have z : order.length ≤ g.length := KM.nodup_len _ _ (List.nodup_append.mp D.nd).1 fun x hx => D.lt x (List.mem_append.mpr (.inl hx))
        omega
      have lstk : ys'.length ≤ 2000 := by
        have z0 := (List.nodup_append.mp D.nd).2.1
        have z : (((v, a, k) :: r : List KM.El).map (·.1)).length ≤ g.length := KM.nodup_len _ _ z0 fun x hx => D.lt x (List.mem_append.mpr (.inr hx))
        rw [List.length_map, List.length_cons] at z
        have := Paired.length alp
        omega
      refine ⟨_, rfl, _, rfl, _, rfl, L, lv, (v : Int), .ref ra, rfl, rfl, .inl (.inl (sp _ _ eL)), atI_nat hv, ra, nV row, rfl, .inl (.inl (.inl (sp _ _ er))), rfl, _, rfl, ?_⟩
      show (if decide (V.int (a : Int) = V.int ((nV row).length : Int)) = true then _ else _)
      have ea : (V.int (a : Int) = V.int ((nV row).length : Int)) ↔ a = row.length := ⟨fun z => by have := V.int.inj z; omega, fun z => by rw [lnV, z]⟩
      by_cases ca : a = row.length
      · rw [decide_eq_true (ea.mpr ca)]
        -- order.append(node)
        refine iteT ⟨_, rfl, .inl ⟨rfl, _, .inl (.inl eOp)⟩, _, rfl, O, nV order, _, rfl, rfl, eOp, by unfold nV; rw [List.length_map, sizeLine_eq]; omega, ?_⟩
        have e1 : a = (KM.suc g v).length := by rw [es]; exact ca
        subst e1
        have kO : ∀ b o, b ≠ O → Hp b = some o → (L2.upd Hp O (.lst (nV order ++ [.int (v : Int)]))) b = some o := fun b o n e => by
          rw [upd_ne n]
          exact e
        have tO : TupKeep Hp (L2.upd Hp O (.lst (nV order ++ [.int (v : Int)]))) := TupKeep.upd eOp fun xs z => by cases z
        refine ⟨_, ?_, _, _, _, seen, order ++ [v], r, ys', rfl, fun b o e => kO b o (ne_of_none e nOH) (sp _ _ e), kO _ _ SO eSp, ?_, kO _ _ TO eTp, all_ext (fun _ _ h => h.keep tO) alp, D.leave, all, rfl⟩
        · rw [← hm, KM.todo_leave]
          exact Nat.lt_succ_self _
        · show (L2.upd Hp O (.lst (nV order ++ [.int (v : Int)]))) O = _
          rw [upd_same]
          unfold nV
          rw [List.map_append]
          rfl
      · rw [decide_eq_false (fun z => ca (ea.mp z))]
        have al' : a < row.length := by
          have z := (D.at_ _ List.mem_cons_self).1
          have z : a ≤ (KM.suc g v).length := z
          rw [es] at z
          omega
        have hw := List.getElem?_eq_getElem al'
        generalize hwe : row[a] = w at hw
        have hws : (KM.suc g v)[a]? = some w := by rw [es]; exact hw
        have wl : w < g.length := hn v w (List.mem_of_getElem? hws)
        -- stack.append((node, at + 1))
        refine iteF ⟨_, rfl, .inl ⟨rfl, _, .inl (.inl eTp)⟩, _, rfl, _, rfl, _, _, rfl, rfl, (by show 2 ≤ sizeLine; decide), fun t1 nt1 => ⟨T, ys'.reverse, .ref t1, rfl, rfl, ?_, by rw [List.length_reverse, sizeLine_eq]; omega, ?_⟩⟩
        · rw [upd_ne (ne_of_none eTp nt1)]
          exact eTp
        have u1 := same_new (o := .tup [.int (v : Int), .int ((a : Int) + 1)]) nt1
        have e1 : (L2.upd Hp t1 (.tup [.int (v : Int), .int ((a : Int) + 1)])) t1 = some (.tup [.int (v : Int), .int ((a + 1 : Nat) : Int)]) := upd_same
        have eT1 := u1 _ _ eTp
        have sp1 := sp.trans u1
        have eS1 := u1 _ _ eSp
        have eO1 := u1 _ _ eOp
        have al1 : AllAt ElAt (L2.upd Hp t1 (.tup [.int (v : Int), .int ((a : Int) + 1)])) (.ref t1 :: ys') ((v, a + 1, k) :: r) := .cons ⟨t1, rfl, e1⟩ (all_ext (fun _ _ h => h.keep (.of u1)) alp)
        generalize L2.upd Hp t1 (.tup [.int (v : Int), .int ((a : Int) + 1)]) = H1 at e1 eT1 sp1 eS1 eO1 al1
        have kT : ∀ b o, b ≠ T → H1 b = some o → (L2.upd H1 T (.lst (ys'.reverse ++ [.ref t1]))) b = some o := fun b o n e => by
          rw [upd_ne n]
          exact e
        have tT : TupKeep H1 (L2.upd H1 T (.lst (ys'.reverse ++ [.ref t1]))) := TupKeep.upd eT1 fun xs z => by cases z
        have eT2 : (L2.upd H1 T (.lst (ys'.reverse ++ [.ref t1]))) T = some (.lst ((V.ref t1 :: ys').reverse)) := by
          rw [upd_same]
          simp
        have sp2 : Same H (L2.upd H1 T (.lst (ys'.reverse ++ [.ref t1]))) := fun b o e => kT b o (ne_of_none e nTH) (sp1 _ _ e)
        have eS2 := kT _ _ (fun z => TS z.symm) eS1
        have eO2 := kT _ _ (fun z => TO z.symm) eO1
        have al2 : AllAt ElAt (L2.upd H1 T (.lst (ys'.reverse ++ [.ref t1]))) (.ref t1 :: ys') ((v, a + 1, k) :: r) := all_ext (fun _ _ h => h.keep tT) al1
        generalize L2.upd H1 T (.lst (ys'.reverse ++ [.ref t1])) = H2 at eT2 sp2 eS2 eO2 al2
        -- near = leads[node][at]
        refine ⟨_, rfl, _, rfl, L, lv, (v : Int), .ref ra, rfl, rfl, .inl (.inl (sp2 _ _ eL)), atI_nat hv, _, rfl, ra, nV row, (a : Int), .int (w : Int), rfl, rfl, .inl (.inl (sp2 _ _ er)), atI_nat (by unfold nV; rw [List.getElem?_map, hw]; rfl), ?_⟩
        -- if not seen[near]
        have wls : w < seen.length := by rw [D.l]; exact wl
        have hb := List.getElem?_eq_getElem wls
        refine ⟨_, rfl, _, rfl, S, blV seen, (w : Int), .bl seen[w], rfl, rfl, .inl (.inl eS2), atI_nat (by unfold blV; rw [List.getElem?_map, hb]; rfl), _, rfl, ?_⟩
        have less : KM.todo g seen ((v, a + 1, k) :: r) < m := by
          rw [← hm, KM.todo_step (show a < (KM.suc g v).length by rw [es]; exact al')]
          exact Nat.lt_succ_self _
        cases hbw : seen[w] with
        | true =>
          rw [hbw] at hb
          refine iteF ?_
          exact ⟨_, less, _, _, _, seen, order, (v, a + 1, k) :: r, .ref t1 :: ys', rfl, sp2, eS2, eO2, eT2, al2, D.step hws hb, all, rfl⟩
        | false =>
          rw [hbw] at hb
          have hns' : seen[w]? ≠ some true := by rw [hb]; exact fun z => by cases z
          refine iteT ?_
          -- seen[near] = True
          refine ⟨_, rfl, _, rfl, S, blV seen, (w : Int), w, rfl, rfl, eS2, ixN_nat (by unfold blV; rw [List.length_map]; exact wls), ?_⟩
          rw [blV_set]
          have kS : ∀ b o, b ≠ S → H2 b = some o → (L2.upd H2 S (.lst (blV (seen.set w true)))) b = some o := fun b o n e => by
            rw [upd_ne n]
            exact e
          have tS : TupKeep H2 (L2.upd H2 S (.lst (blV (seen.set w true)))) := TupKeep.upd eS2 fun xs z => by cases z
          have eS3 : (L2.upd H2 S (.lst (blV (seen.set w true)))) S = some (.lst (blV (seen.set w true))) := upd_same
          have sp3 : Same H (L2.upd H2 S (.lst (blV (seen.set w true)))) := fun b o e => kS b o (ne_of_none e nSH) (sp2 _ _ e)
          have eT3 := kS _ _ TS eT2
          have eO3 := kS _ _ (fun z => SO z.symm) eO2
          have al3 : AllAt ElAt (L2.upd H2 S (.lst (blV (seen.set w true)))) (.ref t1 :: ys') ((v, a + 1, k) :: r) := all_ext (fun _ _ h => h.keep tS) al2
          generalize L2.upd H2 S (.lst (blV (seen.set w true))) = H3' at eS3 sp3 eT3 eO3 al3
          -- stack.append((near, 0))
          refine ⟨_, rfl, .inl ⟨rfl, _, .inl (.inl eT3)⟩, _, rfl, (by show 2 ≤ sizeLine; decide), fun t2 nt2 => ⟨T, (V.ref t1 :: ys').reverse, .ref t2, rfl, rfl, ?_, by rw [List.length_reverse, List.length_cons, sizeLine_eq]; omega, ?_⟩⟩
          · rw [upd_ne (ne_of_none eT3 nt2)]
            exact eT3
          have u2 := same_new (o := .tup [.int (w : Int), .int 0]) nt2
          have e2 : (L2.upd H3' t2 (.tup [.int (w : Int), .int 0])) t2 = some (.tup [.int (w : Int), .int ((0 : Nat) : Int)]) := upd_same
          have eT4 := u2 _ _ eT3
          have sp4 := sp3.trans u2
          have eS4 := u2 _ _ eS3
          have eO4 := u2 _ _ eO3
          have al4 : AllAt ElAt (L2.upd H3' t2 (.tup [.int (w : Int), .int 0])) (.ref t2 :: .ref t1 :: ys') ((w, 0, order.length) :: (v, a + 1, k) :: r) := .cons ⟨t2, rfl, e2⟩ (all_ext (fun _ _ h => h.keep (.of u2)) al3)
          generalize L2.upd H3' t2 (.tup [.int (w : Int), .int 0]) = H4 at e2 eT4 sp4 eS4 eO4 al4
          have kT4 : ∀ b o, b ≠ T → H4 b = some o → (L2.upd H4 T (.lst ((V.ref t1 :: ys').reverse ++ [.ref t2]))) b = some o := fun b o n e => by
            rw [upd_ne n]
            exact e
          have tT4 : TupKeep H4 (L2.upd H4 T (.lst ((V.ref t1 :: ys').reverse ++ [.ref t2]))) := TupKeep.upd eT4 fun xs z => by cases z
          -- the node at the top leads to it
          have D1 : KM.DInv g (seen.set w true) order ((w, 0, order.length) :: (v, a, k) :: r) := D.come wl hns' fun e he => by
            have vw : KM.Reach g v w := .one (List.mem_of_getElem? hws)
            rcases List.mem_cons.mp he with z | z
            · subst z
              exact vw
            · exact (D.b.2.2.2.1 e z).trans vw
          have D2 : KM.DInv g (seen.set w true) order ((w, 0, order.length) :: (v, a + 1, k) :: r) := by
            obtain ⟨b1, b2, b3, b4, b5⟩ := D1.b
            refine ⟨D1.n, D1.l, D1.s, D1.nd, D1.lt, fun e he => ?_, D1.out, ⟨b1, b2, b3, fun e he => ?_, b5⟩, D1.f⟩
            rotate_left
            · rcases List.mem_cons.mp he with z | z
              · subst z
                exact b4 (v, a, k) List.mem_cons_self
              · exact b4 e (List.mem_cons_of_mem _ z)
            rcases List.mem_cons.mp he with z | z
            · exact D1.at_ e (by rw [z]; exact List.mem_cons_self)
            · rcases List.mem_cons.mp z with z | z
              · subst z
                refine ⟨by show a + 1 ≤ (KM.suc g v).length; rw [es]; exact al', fun j x hj hl => ?_⟩
                by_cases c : j = a
                · subst c
                  rw [hws] at hj
                  cases hj
                  exact .inr List.mem_cons_self
                · exact (D1.at_ (v, a, k) (List.mem_cons_of_mem _ List.mem_cons_self)).2 j x hj (by show j < a; have : j < a + 1 := hl; omega)
              · exact D1.at_ e (List.mem_cons_of_mem _ (List.mem_cons_of_mem _ z))
          refine ⟨_, less, _, _, _, seen.set w true, order, (w, 0, order.length) :: (v, a + 1, k) :: r, .ref t2 :: .ref t1 :: ys', rfl, fun b o e => kT4 b o (ne_of_none e nTH) (sp4 _ _ e), kT4 _ _ (fun z => TS z.symm) eS4, kT4 _ _ (fun z => TO z.symm) eO4, ?_, all_ext (fun _ _ h => h.keep tT4) al4, D2, fun x hx => ?_, KM.todo_come wl D.l hns'⟩
          · rw [upd_same]
            simp
          · rw [List.getElem?_set]
            by_cases c : w = x
            · subst c
              rw [if_pos rfl, if_pos wls]
            · rw [if_neg c]
              exact all x hx
    · obtain ⟨y3, y4, y5, y6, y7, seen, order, rfl, sx, eS, eO, D, all⟩ := hh
      exact ⟨_, rfl, q O Hx order sx nOH eO (D.done fun v hv => all v (by omega))⟩
end
end K02

set_option Elab.async false
set_option linter.all false
set_option maxRecDepth 100000
set_option maxHeartbeats 4000000
/-! What leads to a node, amid those that are not taken. -/
namespace K02
open PySem PySem.Spec L2
open PyProof.Rows GenW GxR EZ TK
open LamX (ExtN)
abbrev sGathered : Stmt := top 13 -- gathered
def cntF (bs : List Bool) : Nat := bs.count false
theorem cnt_set : ∀ {bs : List Bool} {w : Nat}, bs[w]? = some false → cntF (bs.set w true) + 1 = cntF bs
  | [], w, h => by simp at h
  | b :: r, 0, h => by
    cases h
    simp [cntF]
  | b :: r, w + 1, h => by
    have z := cnt_set (bs := r) (w := w) (by simpa using h)
    unfold cntF at z ⊢
    rw [List.set_cons_succ, List.count_cons, List.count_cons]
    omega
theorem nV_snoc (ns : List Nat) (k : Nat) : nV ns ++ [.int (k : Int)] = nV (ns ++ [k]) := by
  unfold nV
  rw [List.map_append]
  rfl
theorem nV_length (ns : List Nat) : (nV ns).length = ns.length := by
  unfold nV
  rw [List.length_map]
theorem blV_length (bs : List Bool) : (blV bs).length = bs.length := by
  unfold blV
  rw [List.length_map]
theorem nV_bl {ns : List Nat} {bs : List Bool} (h : nV ns = blV bs) (hb : bs ≠ []) : False := by
  cases bs with
  | nil => exact hb rfl
  | cons b r =>
    cases ns with
    | nil => cases h
    | cons a s => cases h
section
variable {P : Program} {w : World} {K : PySem.W.Frag} {mg : Str → Option Value} {base : Heap}
abbrev nGa : List Str := ["leads", "start", "taken", "lot", "stack", "node", "near"]
theorem scGa : FnScope nGa ["leads", "start", "taken"] (defScope sGathered) := ⟨rfl, rfl, rfl, by decide +kernel, rfl, by decide +kernel, by decide +kernel⟩
def spGathered : Sp := fun vs H Q _ => ∃ (L A : Addr) (h : KM.Gr) (t0 : List Bool) (start : Nat), vs = [.ref L, .int (start : Int), .ref A] ∧ LdAt H L h ∧ H A = some (.lst (blV t0)) ∧ KM.Free t0 start ∧ h.length = t0.length ∧ (∀ u w, w ∈ KM.suc h u → w < t0.length) ∧ t0.length ≤ 2000 ∧ (∀ r ∈ h, r.length ≤ 8000) ∧
  ∀ (D : Addr) (H' : Hp) (tk : List Bool) (lt : List Nat), (∀ b o, b ≠ A → H b = some o → H' b = some o) → H' A = some (.lst (blV tk)) → H D = none → H' D = some (.lst (nV lt)) → KM.GInv h t0 start tk lt [] none → Q (.ref D) H'
theorem ok_gathered {f : Addr} {fd : FuncData} (F : Fun K "gathered" "gathered" sGathered f fd) : FnOk P w K mg base CX0 1 f fd ["leads", "start", "taken"] spGathered := by
  refine F.ok scGa (fun vs H Q E h => ?_) (fun cdv A outer s H vs Q E hr h => ?_)
  · obtain ⟨L, A, h, t0, start, rfl, _⟩ := h
    rfl
  · obtain ⟨L, B, h, t0, start, rfl, ⟨lv, eL, hL⟩, eB, fr, lh, hn, g2, g4, q⟩ := h
    refine ⟨_, (pss_cons (ps_asg pe_bl (pg_sub (pv 2) (pv 1) set_list))
      (pss_cons (ps_set (i := 3) scGa.nd rfl (Or.inl rfl) (pe_lst (pa_cons (pv 1) pa_nil)))
      (pss_cons (ps_set (i := 4) scGa.nd rfl (Or.inl rfl) (pe_lst (pa_cons (pv 1) pa_nil)))
      (pss_cons (ps_while PassesOwn.never (pt_truth (pv 4) (fun _ => rfl))
        (pss_cons (ps_set (i := 5) scGa.nd rfl (Or.inl rfl) (pe_bm0 PySem.F.plainAttrs_list PySem.F.slot_list_pop PySem.F.type_list_pop mt_pop (pv 4)))
        (pss_one (ps_for PassesOwn.never rfl (pi_list (pe_ix (r := rIxL K) ix_list (pv 0) (pv 5) (fun _ _ => rfl))) (pg_name (i := 6) scGa.nd rfl (Or.inl rfl))
          (pss_one (ps_if (pt_not (pt_truth (pe_ix (r := rIxL K) ix_list (pv 2) (pv 6) (fun _ _ => rfl)) (fun _ => rfl))) (pss_cons (ps_asg pe_bl (pg_sub (pv 2) (pv 6) set_list))
            (pss_cons (ps_expr (pe_bm PySem.F.plainAttrs_list PySem.F.slot_list_append PySem.F.type_list_append mt_append (pv 3) (pa_cons (pv 6) pa_nil)))
            (pss_one (ps_expr (pe_bm PySem.F.plainAttrs_list PySem.F.slot_list_append PySem.F.type_list_append mt_append (pv 4) (pa_cons (pv 6) pa_nil)))))) pss_nil))))))
      (pss_one (ps_ret (pv 3))))))), ?_⟩
    have ll : lv.length = h.length := Paired.length hL
    have ne0 : t0 ≠ [] := fun z => by
      have := fr.1
      rw [z] at this
      exact absurd this (Nat.not_lt_zero _)
    have BL : L ≠ B := fun z => by
      rw [z, eB] at eL
      cases hL with
      | nil =>
        have z : t0.length = 0 := by rw [← lh]; rfl
        exact ne0 (List.length_eq_zero_iff.mp z)
      | cons r _ =>
        obtain ⟨a, e, _⟩ := r
        subst e
        cases t0 with
        | nil => exact ne0 rfl
        | cons b r => cases eL
    have Brow : ∀ {a : Addr} {row : List Nat}, H a = some (.lst (nV row)) → a ≠ B := fun e z => by
      rw [z, eB] at e
      exact nV_bl (HO.lst.inj (Option.some.inj e)).symm ne0
    -- taken[start] = True
    refine ⟨_, rfl, _, rfl, B, blV t0, (start : Int), start, rfl, rfl, eB, ixN_nat (by rw [blV_length]; exact fr.1), ?_⟩
    rw [blV_set]
    have k1 : ∀ b o, b ≠ B → H b = some o → (L2.upd H B (.lst (blV (t0.set start true)))) b = some o := fun b o n e => by
      rw [upd_ne n]
      exact e
    have eB1 : (L2.upd H B (.lst (blV (t0.set start true)))) B = some (.lst (blV (t0.set start true))) := upd_same
    have none1 : ∀ p, (L2.upd H B (.lst (blV (t0.set start true)))) p = none → H p = none := fun p np => by
      by_cases c : p = B
      · rw [c, upd_same] at np
        cases np
      · rw [upd_ne c] at np
        exact np
    generalize L2.upd H B (.lst (blV (t0.set start true))) = H1 at k1 eB1 none1
    -- lot = [start]; stack = [start]
    refine ⟨_, rfl, (by show 1 ≤ sizeLine; decide), fun D nD => ?_⟩
    have nDH := none1 D nD
    have DB : D ≠ B := fun z => by
      rw [z, eB1] at nD
      cases nD
    have s2 := same_new (o := .lst [V.int (start : Int)]) nD
    have eD2 : (L2.upd H1 D (.lst [V.int (start : Int)])) D = some (.lst (nV [start])) := upd_same
    have none2 : ∀ p, (L2.upd H1 D (.lst [V.int (start : Int)])) p = none → H p = none := fun p np => none1 p (s2.free np)
    generalize L2.upd H1 D (.lst [V.int (start : Int)]) = H2 at s2 eD2 none2
    refine ⟨_, rfl, (by show 1 ≤ sizeLine; decide), fun T nT => ?_⟩
    have nTH := none2 T nT
    have TB : T ≠ B := fun z => by
      rw [z, s2 _ _ eB1] at nT
      cases nT
    have TD : T ≠ D := fun z => by
      rw [z, eD2] at nT
      cases nT
    have s3 := same_new (o := .lst [V.int (start : Int)]) nT
    have eT3 : (L2.upd H2 T (.lst [V.int (start : Int)])) T = some (.lst (nV [start].reverse)) := upd_same
    have k3 : ∀ b o, b ≠ B → H b = some o → (L2.upd H2 T (.lst [V.int (start : Int)])) b = some o := fun b o n e => s3 _ _ (s2 _ _ (k1 b o n e))
    have eB3 := s3 _ _ (s2 _ _ eB1)
    have eD3 := s3 _ _ eD2
    generalize L2.upd H2 T (.lst [V.int (start : Int)]) = H3 at eT3 k3 eB3 eD3
    -- while stack
    refine ⟨fun m σ Hx => ∃ (y5 y6 : Option V) (tk : List Bool) (lt stk : List Nat), σ = [some (.ref L), some (.int (start : Int)), some (.ref B), some (.ref D), some (.ref T), y5, y6] ∧ (∀ b o, b ≠ B → H b = some o → Hx b = some o) ∧ Hx B = some (.lst (blV tk)) ∧ Hx D = some (.lst (nV lt)) ∧ Hx T = some (.lst (nV stk.reverse)) ∧ KM.GInv h t0 start tk lt stk none ∧ cntF tk + stk.length = m ∧ m ≤ 2001,
      ⟨_, none, none, t0.set start true, [start], [start], rfl, k3, eB3, eD3, eT3, .zero hn fr, rfl, by
        have z : cntF (t0.set start true) ≤ (t0.set start true).length := List.count_le_length
        rw [List.length_set] at z
        simp only [List.length_cons, List.length_nil]
        omega⟩, fun m σ Hx hW => ?_⟩
    obtain ⟨y5, y6, tk, lt, stk, rfl, kx, eBx, eDx, eTx, G, hm, m2⟩ := hW
    refine ⟨_, rfl, _, .inl ⟨_, .inl (.inl eTx), rfl⟩, ?_⟩
    cases stk with
    | nil =>
      refine iteF ?_
      exact ⟨_, rfl, q D Hx tk lt kx eBx nDH eDx G⟩
    | cons v r =>
    rw [show (!(nV (v :: r).reverse).isEmpty) = true by simp [nV]]
    refine iteT ⟨fun σ' H' => ∃ m', m' < m ∧ _, fun _ _ h => h, ?_⟩
    have erev : nV (v :: r).reverse = nV r.reverse ++ [.int (v : Int)] := by rw [List.reverse_cons, nV_snoc]
    rw [erev] at eTx
    -- node = stack.pop()
    refine ⟨_, rfl, .inl ⟨rfl, _, .inl (.inl eTx)⟩, T, _, .int (v : Int), rfl, rfl, eTx, by simp, ?_⟩
    rw [List.dropLast_concat]
    have kp : ∀ b o, b ≠ T → Hx b = some o → (L2.upd Hx T (.lst (nV r.reverse))) b = some o := fun b o n e => by
      rw [upd_ne n]
      exact e
    have eTp : (L2.upd Hx T (.lst (nV r.reverse))) T = some (.lst (nV r.reverse)) := upd_same
    have eBp := kp _ _ (fun z => TB z.symm) eBx
    have eDp := kp _ _ (fun z => TD z.symm) eDx
    have kpx : ∀ b o, b ≠ B → H b = some o → (L2.upd Hx T (.lst (nV r.reverse))) b = some o := fun b o n e => kp b o (ne_of_none e nTH) (kx b o n e)
    generalize L2.upd Hx T (.lst (nV r.reverse)) = Hp at eTp eBp eDp kpx
    have G1 := G.pop
    have vl : v < h.length := by
      have z := (G.ok v (G.sub v List.mem_cons_self)).snd.1
      omega
    have hv := List.getElem?_eq_getElem (show v < lv.length by omega)
    obtain ⟨row, hrow, ra, era, er⟩ := all_get hL hv
    rw [era] at hv
    have es : KM.suc h v = row := by
      unfold KM.suc
      rw [List.getD_eq_getElem?_getD, hrow]
      rfl
    have lrow : row.length ≤ 8000 := g4 row (List.mem_of_getElem? hrow)
    have RB := Brow er
    -- for near in leads[node]
    refine ⟨_, rfl, _, rfl, L, lv, (v : Int), .ref ra, rfl, rfl, .inl (.inl (kpx _ _ BL eL)), atI_nat hv, ra, rfl, ⟨_, .inl (.inl (kpx _ _ RB er))⟩, ?_⟩
    refine for_list (xs := nV row) (fun j σ Hx => ∃ (y6 : Option V) (tk : List Bool) (lt stk : List Nat), σ = [some (.ref L), some (.int (start : Int)), some (.ref B), some (.ref D), some (.ref T), some (.int (v : Int)), y6] ∧ (∀ b o, b ≠ B → H b = some o → Hx b = some o) ∧ Hx B = some (.lst (blV tk)) ∧ Hx D = some (.lst (nV lt)) ∧ Hx T = some (.lst (nV stk.reverse)) ∧ KM.GInv h t0 start tk lt stk (some (v, j)) ∧ cntF tk + stk.length + 1 = m)
      ⟨y6, tk, lt, r, rfl, kpx, eBp, eDp, eTp, G1, by rw [← hm]; rfl⟩ (fun j σ Hx _ hh => by obtain ⟨_, _, _, _, _, k, _⟩ := hh; exact .inl (.inl (k _ _ RB er))) (fun j x σ Hz hx hh => ?_) (fun σ Hz hh => ?_)
    · obtain ⟨y6, tk, lt, stk, rfl, kz, eBz, eDz, eTz, Gz, hz⟩ := hh
      obtain ⟨u, hu, rfl⟩ : ∃ k : Nat, row[j]? = some k ∧ x = .int (k : Int) := by
        unfold nV at hx
        rw [List.getElem?_map] at hx
        obtain ⟨k, a1, a2⟩ := Option.map_eq_some_iff.mp hx
        exact ⟨k, a1, a2.symm⟩
      have hus : (KM.suc h v)[j]? = some u := by rw [es]; exact hu
      have ul : u < tk.length := by
        rw [Gz.l]
        exact hn v u (List.mem_of_getElem? hus)
      have hb := List.getElem?_eq_getElem ul
      refine ⟨_, rfl, _, rfl, B, blV tk, (u : Int), .bl tk[u], rfl, rfl, .inl (.inl eBz), atI_nat (by unfold blV; rw [List.getElem?_map, hb]; rfl), _, rfl, ?_⟩
      cases hbu : tk[u] with
      | true =>
        rw [hbu] at hb
        exact iteF ⟨_, tk, lt, stk, rfl, kz, eBz, eDz, eTz, Gz.skip hus hb, hz⟩
      | false =>
        rw [hbu] at hb
        have hnt : tk[u]? ≠ some true := by rw [hb]; exact fun z => by cases z
        have G5 := Gz.take hus hnt
        have ll5 : (lt ++ [u]).length ≤ t0.length := KM.nodup_len _ _ G5.nd fun x hx => ((G5.ok x hx).snd).1
        have hc := cnt_set hb
        have lst : stk.length ≤ 4000 := by omega
        -- taken[near] = True
        refine iteT ⟨_, rfl, _, rfl, B, blV tk, (u : Int), u, rfl, rfl, eBz, ixN_nat (by rw [blV_length]; exact ul), ?_⟩
        rw [blV_set]
        have eB4 : (L2.upd Hz B (.lst (blV (tk.set u true)))) B = some (.lst (blV (tk.set u true))) := upd_same
        have eD4 : (L2.upd Hz B (.lst (blV (tk.set u true)))) D = some (.lst (nV lt)) := by rw [upd_ne DB]; exact eDz
        have eT4 : (L2.upd Hz B (.lst (blV (tk.set u true)))) T = some (.lst (nV stk.reverse)) := by rw [upd_ne TB]; exact eTz
        have k4 : ∀ b o, b ≠ B → H b = some o → (L2.upd Hz B (.lst (blV (tk.set u true)))) b = some o := fun b o n e => by
          rw [upd_ne n]
          exact kz b o n e
        generalize L2.upd Hz B (.lst (blV (tk.set u true))) = H4 at eB4 eD4 eT4 k4
        -- lot.append(near)
        refine ⟨_, rfl, .inl ⟨rfl, _, .inl (.inl eD4)⟩, _, rfl, D, nV lt, _, rfl, rfl, eD4, by rw [nV_length, sizeLine_eq]; rw [List.length_append] at ll5; omega, ?_⟩
        rw [nV_snoc]
        have eD5 : (L2.upd H4 D (.lst (nV (lt ++ [u])))) D = some (.lst (nV (lt ++ [u]))) := upd_same
        have eB5 : (L2.upd H4 D (.lst (nV (lt ++ [u])))) B = some (.lst (blV (tk.set u true))) := by rw [upd_ne (fun z => DB z.symm)]; exact eB4
        have eT5 : (L2.upd H4 D (.lst (nV (lt ++ [u])))) T = some (.lst (nV stk.reverse)) := by rw [upd_ne TD]; exact eT4
        have k5 : ∀ b o, b ≠ B → H b = some o → (L2.upd H4 D (.lst (nV (lt ++ [u])))) b = some o := fun b o n e => by
          rw [upd_ne (ne_of_none e nDH)]
          exact k4 b o n e
        generalize L2.upd H4 D (.lst (nV (lt ++ [u]))) = H5 at eB5 eD5 eT5 k5
        -- stack.append(near)
        refine ⟨_, rfl, .inl ⟨rfl, _, .inl (.inl eT5)⟩, _, rfl, T, nV stk.reverse, _, rfl, rfl, eT5, by rw [nV_length, List.length_reverse, sizeLine_eq]; omega, ?_⟩
        rw [nV_snoc]
        refine ⟨_, tk.set u true, lt ++ [u], u :: stk, rfl, fun b o n e => ?_, ?_, ?_, ?_, G5, by rw [List.length_cons]; omega⟩
        · rw [upd_ne (ne_of_none e nTH)]
          exact k5 b o n e
        · rw [upd_ne (fun z => TB z.symm)]
          exact eB5
        · rw [upd_ne (fun z => TD z.symm)]
          exact eD5
        · rw [upd_same, List.reverse_cons]
    · obtain ⟨y6, tk, lt, stk, rfl, kz, eBz, eDz, eTz, Gz, hz⟩ := hh
      rw [nV_length, ← es] at Gz
      exact ⟨cntF tk + stk.length, by omega, _, _, tk, lt, stk, rfl, kz, eBz, eDz, eTz, Gz.end_, rfl, by omega⟩
end
end K02

set_option Elab.async false
set_option linter.all false
set_option maxRecDepth 100000
set_option maxHeartbeats 4000000
/-! The lots of nodes that lead to each other. -/
namespace K02
open PySem PySem.Spec L2
open PyProof.Rows GenW GxR EZ TK
open LamX (ExtN)
abbrev sKnots : Stmt := top 10 -- knots
theorem nV_ints (ns : List Nat) : nV ns = (ns.map fun n : Nat => (n : Int)).map V.int := by
  unfold nV
  rw [List.map_map]
  rfl
theorem perm_nats {ns : List Int} {l : List Nat} (p : ns.Perm (l.map fun n : Nat => (n : Int))) (asc : ns.Pairwise (· ≤ ·)) : ∃ l' : List Nat, ns.map V.int = nV l' ∧ l'.Perm l ∧ l'.Pairwise (· ≤ ·) := by
  have e : (ns.map Int.toNat).map (fun n : Nat => (n : Int)) = ns := by
    rw [List.map_map]
    conv => rhs; rw [← List.map_id ns]
    refine List.map_congr_left fun x hx => ?_
    obtain ⟨n, _, rfl⟩ := List.mem_map.mp (p.mem_iff.mp hx)
    rfl
  refine ⟨ns.map Int.toNat, ?_, ?_, ?_⟩
  · rw [nV_ints, e]
  · have z := p.map Int.toNat
    rw [List.map_map] at z
    have e2 : l.map (Int.toNat ∘ fun n : Nat => (n : Int)) = l := by
      conv => rhs; rw [← List.map_id l]
      exact List.map_congr_left fun x _ => rfl
    rw [e2] at z
    exact z
  · rw [List.pairwise_map]
    exact asc.imp fun h => Int.toNat_le_toNat h
section
variable {P : Program} {w : World} {K : PySem.W.Frag} {mg : Str → Option Value} {base : Heap}
theorem scKn : FnScope ["leads", "backwards", "taken", "found", "order", "start"] ["leads"] (defScope sKnots) := ⟨rfl, rfl, rfl, by decide +kernel, rfl, by decide +kernel, by decide +kernel⟩
def spKnots : Sp := fun vs H Q _ => ∃ (L : Addr) (g : KM.Gr), vs = [.ref L] ∧ LdAt H L g ∧ (∀ u w, w ∈ KM.suc g u → w < g.length) ∧ g.length ≤ 2000 ∧ (∀ r ∈ g, r.length ≤ 4) ∧ ∀ D H' found, Same H H' → H D = none → LdAt H' D found → KM.Knots g found → Q (.ref D) H'
theorem ok_knots {f fR fO fG : Addr} {fd fdR fdO fdG : FuncData} (F : Fun K "knots" "knots" sKnots f fd) (mlen : mg "len" = none) (mrev : mg "reversed" = none) (msorted : mg "sorted" = none)
    (GR : FnOk P w K mg base CX0 1 fR fdR ["leads"] spTurned) (kR : PySem.W.keepIn K (.ref fR) = true) (bR : Binds K fdR ["leads"] []) (mR : mg "turned_round" = some (.ref fR))
    (GO : FnOk P w K mg base CX0 1 fO fdO ["leads"] spLeaving) (kO : PySem.W.keepIn K (.ref fO) = true) (bO : Binds K fdO ["leads"] []) (mO : mg "leaving_order" = some (.ref fO))
    (GG : FnOk P w K mg base CX0 1 fG fdG ["leads", "start", "taken"] spGathered) (kG : PySem.W.keepIn K (.ref fG) = true) (bG : Binds K fdG ["leads", "start", "taken"] []) (mG : mg "gathered" = some (.ref fG)) :
    FnOk P w K mg base CX0 2 f fd ["leads"] spKnots := by
  refine F.ok scKn (fun vs H Q E h => ?_) (fun cdv A outer s H vs Q E hr h => ?_)
  · obtain ⟨L, g, rfl, _⟩ := h
    rfl
  · obtain ⟨L, g, rfl, hL, hn, g2, g4, q⟩ := h
    refine ⟨_, (pss_cons (ps_set (i := 1) scKn.nd rfl (Or.inl rfl) (pe_call GR (hr.mono (by decide)) (by rfl) mR kR bR .nil pass0 (pa_cons (pv 0) pa_nil)))
      (pss_cons (ps_set (i := 2) scKn.nd rfl (Or.inl rfl) (pe_op op_rep (pe_lst (pa_cons pe_bl pa_nil)) (pe_callB call_len_seq (by rfl) mlen PySem.boot_len (pa_cons (pv 0) pa_nil))))
      (pss_cons (ps_set (i := 3) scKn.nd rfl (Or.inl rfl) (pe_lst pa_nil))
      (pss_cons (ps_set (i := 4) scKn.nd rfl (Or.inl rfl) (pe_call GO (hr.mono (by decide)) (by rfl) mO kO bO .nil pass0 (pa_cons (pv 0) pa_nil)))
      (pss_cons (ps_for PassesOwn.never rfl (pi_reversed (by rfl) mrev (pa_cons (pv 4) pa_nil)) (pg_name (i := 5) scKn.nd rfl (Or.inl rfl))
        (pss_one (ps_if (pt_not (pt_truth (pe_ix (r := rIxL K) ix_list (pv 2) (pv 5) (fun _ _ => rfl)) (fun _ => rfl))) (pss_one (ps_expr (pe_bm PySem.F.plainAttrs_list PySem.F.slot_list_append PySem.F.type_list_append mt_append (pv 3) (pa_cons (pe_callB cr_sortedI (by rfl) msorted (by decide +kernel) (pa_cons (pe_call GG (hr.mono (by decide)) (by rfl) mG kG bG .nil pass0 (pa_cons (pv 1) (pa_cons (pv 5) (pa_cons (pv 2) pa_nil)))) pa_nil)) pa_nil)))) pss_nil)))
      (pss_one (ps_ret (pv 3)))))))), ?_⟩
    -- backwards
    refine ⟨_, rfl, L, g, rfl, hL, hn, g2, g4, fun Bk H1 h s1 hB T h8 => ?_⟩
    obtain ⟨lv, eL, alL⟩ := id hL
    have ll : lv.length = g.length := Paired.length alL
    -- taken = [False] * len(leads)
    refine ⟨(by show 1 ≤ sizeLine; decide), fun p np => ⟨_, rfl, L, lv, rfl, .inl (.inl (.inl ((same_new np) _ _ (s1 _ _ eL)))), p, (lv.length : Int), [V.bl false], rfl, rfl, upd_same, by omega, by omega, by rw [sizeLine_eq, Int.toNat_natCast]; simp only [List.length_cons, List.length_nil]; omega, fun A nA => ?_⟩⟩
    have s2 : Same H1 (L2.upd (L2.upd H1 p (.lst [V.bl false])) A (.lst (List.replicate ((lv.length : Int)).toNat [V.bl false]).flatten)) := (same_new np).trans (same_new nA)
    have eA2 : (L2.upd (L2.upd H1 p (.lst [V.bl false])) A (.lst (List.replicate ((lv.length : Int)).toNat [V.bl false]).flatten)) A = some (.lst (blV (List.replicate g.length false))) := by
      rw [upd_same, Int.toNat_natCast, rep_one, ll]
      unfold blV
      rw [List.map_replicate]
    have nA1 : H1 A = none := (same_new np).free nA
    generalize L2.upd (L2.upd H1 p (.lst [V.bl false])) A (.lst (List.replicate ((lv.length : Int)).toNat [V.bl false]).flatten) = H2 at s2 eA2
    -- found = []
    refine ⟨Nat.zero_le _, fun D nD => ?_⟩
    have s3 := same_new (o := .lst []) nD
    have eD3 : (L2.upd H2 D (.lst [])) D = some (.lst []) := upd_same
    have AD : A ≠ D := ne_of_none eA2 nD
    have eA3 := s3 _ _ eA2
    have nD1 : H1 D = none := s2.free nD
    generalize L2.upd H2 D (.lst []) = H3 at s3 eD3 eA3
    -- order
    have s13 := s2.trans s3
    refine ⟨_, rfl, L, g, rfl, hL.same (s1.trans s13), hn, g2, fun r hr => by have := g4 r hr; omega, fun O H4 order s4 nO eO Od => ?_⟩
    have eA4 := s4 _ _ eA3
    have eD4 := s4 _ _ eD3
    have s14 := s13.trans s4
    have lo : order.length ≤ g.length := KM.nodup_len g.length order Od.nd fun x hx => (Od.all x).mp hx
    have AO : A ≠ O := fun z => by
      rw [z, nO] at eA3
      cases eA3
    have DO : D ≠ O := fun z => by
      rw [z, nO] at eD3
      cases eD3
    -- for start in reversed(order)
    refine ⟨_, rfl, O, nV order, rfl, .inl (.inl eO), for_it walk_rev (fun i σ Hx => ∃ (y5 : Option V) (tk : List Bool) (fnd : List (List Nat)) (vs : List V), σ = [some (.ref L), some (.ref Bk), some (.ref A), some (.ref D), some (.ref O), y5] ∧ (∀ b o, b ≠ A → b ≠ D → H4 b = some o → Hx b = some o) ∧ Hx A = some (.lst (blV tk)) ∧ Hx D = some (.lst vs) ∧ AllAt (NLd D) Hx vs fnd ∧ fnd.length ≤ i ∧ KM.KInv g order (order.length - i) tk fnd)
      ⟨none, List.replicate g.length false, [], [], rfl, fun b o _ _ e => e, eA4, eD4, .nil, Nat.le_refl _, .zero⟩ (fun i σ Hx _ hh => ?_) (fun i x σ Hx Hy hi hh hy => ?_) (fun σ Hx hh => ?_)⟩
    · obtain ⟨_, _, _, _, _, k, _⟩ := hh
      exact .inl (.inl (k _ _ (fun z => AO z.symm) (fun z => DO z.symm) eO))
    · obtain ⟨y5, tk, fnd, vs, rfl, kx, eAx, eDx, al, lf, KI⟩ := hh
      obtain ⟨rfl, hy⟩ := hy
      rw [nV_length] at hi hy
      have s1x : Same H1 Hy := fun b o e => kx b o (ne_of_none e nA1) (ne_of_none e nD1) (s14 _ _ e)
      obtain ⟨start, hst, rfl⟩ : ∃ k : Nat, order[order.length - 1 - i]? = some k ∧ x = .int (k : Int) := by
        unfold nV at hy
        rw [List.getElem?_map] at hy
        obtain ⟨k, a1, a2⟩ := Option.map_eq_some_iff.mp hy
        exact ⟨k, a1, a2.symm⟩
      have hp : order.length - i = (order.length - 1 - i) + 1 := by omega
      have hp2 : order.length - (i + 1) = order.length - 1 - i := by omega
      rw [hp] at KI
      rw [hp2]
      have sl : start < g.length := (Od.all start).mp (List.mem_of_getElem? hst)
      have slt : start < tk.length := by rw [KI.l]; exact sl
      have hb := List.getElem?_eq_getElem slt
      refine ⟨_, rfl, _, rfl, A, blV tk, (start : Int), .bl tk[start], rfl, rfl, .inl (.inl eAx), atI_nat (by unfold blV; rw [List.getElem?_map, hb]; rfl), _, rfl, ?_⟩
      cases hbs : tk[start] with
      | true =>
        rw [hbs] at hb
        exact iteF ⟨_, tk, fnd, vs, rfl, kx, eAx, eDx, al, by omega, KI.skip hst hb⟩
      | false =>
        rw [hbs] at hb
        have hnt : tk[start]? ≠ some true := by rw [hb]; exact fun z => by cases z
        refine iteT ⟨_, rfl, .inl ⟨rfl, vs, .inl (.inl eDx)⟩, _, rfl, _, rfl, _, rfl, Bk, A, h, tk, start, rfl, hB.same s1x, eAx, ⟨slt, hnt⟩, by rw [T.1, KI.l], fun u v hv => ?_, by rw [KI.l]; exact g2, h8, fun Dg Hg tk' lt kg eAg nDg eDg G => ?_⟩
        · rw [KI.l]
          by_cases c : u < g.length
          · have z := (T.2 v u c).mp hv
            by_cases c2 : v < g.length
            · exact c2
            · unfold KM.suc at z
              rw [List.getD_eq_getElem?_getD, List.getElem?_eq_none (by omega)] at z
              cases z
          · unfold KM.suc at hv
            rw [List.getD_eq_getElem?_getD, List.getElem?_eq_none (by rw [T.1]; omega)] at hv
            cases hv
        -- sorted
        refine ⟨Dg, _, rfl, by rw [← nV_ints]; exact .inl (.inl eDg), fun ns' p perm asc np => ?_⟩
        obtain ⟨lt', ens, perm', asc'⟩ := perm_nats perm asc
        rw [ens]
        have eDg' : Hg D = some (.lst vs) := kg _ _ (fun z => AD z.symm) eDx
        have pD : D ≠ p := ne_of_none eDg' np
        have pA : A ≠ p := ne_of_none eAg np
        -- found.append(..)
        have lvs := Paired.length al
        refine ⟨D, vs, .ref p, rfl, rfl, by rw [upd_ne pD]; exact eDg', by rw [sizeLine_eq]; omega, ?_⟩
        have tkne : tk ≠ [] := fun z => by
          rw [z] at slt
          exact absurd slt (Nat.not_lt_zero _)
        have alg : AllAt (NLd D) Hg vs fnd := paired_imp (fun v r hnl => by
          obtain ⟨a, e1, n1, e2⟩ := hnl
          refine ⟨a, e1, n1, kg _ _ (fun z => ?_) e2⟩
          rw [z, eAx] at e2
          exact nV_bl (HO.lst.inj (Option.some.inj e2)).symm tkne) al
        have tkd : ∀ b o, b ≠ D → (L2.upd Hg p (.lst (nV lt'))) b = some o → (L2.upd (L2.upd Hg p (.lst (nV lt'))) D (.lst (vs ++ [.ref p]))) b = some o := fun b o n e => by
          rw [upd_ne n]
          exact e
        refine ⟨_, tk', fnd ++ [lt'], vs ++ [.ref p], rfl, fun b o n1 n2 e => ?_, ?_, upd_same, ?_, by rw [List.length_append]; simp; omega, KI.lot hn Od T hst hnt G perm' asc'⟩
        · refine tkd b o n2 ?_
          exact (same_new np) _ _ (kg b o n1 (kx b o n1 n2 e))
        · refine tkd A _ AD ?_
          rw [upd_ne pA]
          exact eAg
        · refine paired_app ?_ (.cons ⟨p, rfl, fun z => pD z.symm, tkd p _ (fun z => pD z.symm) upd_same⟩ .nil)
          exact paired_imp (fun v r hnl => hnl.keep fun b o n e => tkd b o n ((same_new np) _ _ e)) alg
    · obtain ⟨y5, tk, fnd, vs, rfl, kx, eAx, eDx, al, lf, KI⟩ := hh
      rw [nV_length, Nat.sub_self] at KI
      refine ⟨_, rfl, q D Hx fnd (s1.trans fun b o e => kx b o (ne_of_none e nA1) (ne_of_none e nD1) (s14 _ _ e)) (s1.free nD1) ⟨vs, eDx, paired_imp (fun _ _ ⟨a, e, _, h⟩ => ⟨a, e, h⟩) al⟩ (KI.done Od)⟩
end
end K02

set_option Elab.async false
set_option linter.all false
set_option maxRecDepth 100000
set_option maxHeartbeats 4000000
/-! The gates that lead back to themselves. -/
namespace K02
open PySem PySem.Spec L2
open PyProof.Rows GenW GxR EZ TK
open LamX (ExtN)
abbrev sRinged : Stmt := top 27 -- ringed
abbrev sRingless : Stmt := top 28 -- is_ringless
abbrev sRingGates : Stmt := top 29 -- ring_gates
/-- the ascending numbers of the nodes that lead back to themselves -/
def RingsOf (g : KM.Gr) (rs : List Nat) : Prop := rs.Pairwise (· < ·) ∧ ∀ v, v ∈ rs ↔ v < g.length ∧ KM.OnRing g v
theorem asc_one : ∀ {xs ys : List Nat}, xs.Pairwise (· < ·) → ys.Pairwise (· < ·) → (∀ v, v ∈ xs ↔ v ∈ ys) → xs = ys
  | [], [], _, _, _ => rfl
  | [], y :: ys, _, _, h => absurd ((h y).mpr List.mem_cons_self) (by simp)
  | x :: xs, [], _, _, h => absurd ((h x).mp List.mem_cons_self) (by simp)
  | x :: xs, y :: ys, hx, hy, h => by
    obtain ⟨a1, a2⟩ := List.pairwise_cons.mp hx
    obtain ⟨b1, b2⟩ := List.pairwise_cons.mp hy
    have e : x = y := by
      rcases List.mem_cons.mp ((h x).mp List.mem_cons_self) with z | z
      · exact z
      rcases List.mem_cons.mp ((h y).mpr List.mem_cons_self) with z2 | z2
      · exact z2.symm
      have := b1 _ z
      have := a1 _ z2
      omega
    subst e
    rw [asc_one a2 b2 fun v => ?_]
    constructor
    · intro hv
      rcases List.mem_cons.mp ((h v).mp (List.mem_cons_of_mem _ hv)) with z | z
      · have := a1 _ hv
        omega
      · exact z
    · intro hv
      rcases List.mem_cons.mp ((h v).mpr (List.mem_cons_of_mem _ hv)) with z | z
      · have := b1 _ hv
        omega
      · exact z
theorem RingsOf.one {g : KM.Gr} {rs rs' : List Nat} (h : RingsOf g rs) (h' : RingsOf g rs') : rs = rs' :=
  asc_one h.1 h'.1 fun v => (h.2 v).trans (h'.2 v).symm
theorem inV_nV (n : Nat) (row : List Nat) : inV (.int (n : Int)) (nV row) = decide (n ∈ row) := by
  unfold inV nV
  rw [List.any_map]
  rw [Bool.eq_iff_iff, List.any_eq_true, decide_eq_true_iff]
  constructor
  · rintro ⟨x, hx, e⟩
    have e : eqV (.int (x : Int)) (.int (n : Int)) = true := e
    have e2 : (x : Int) = n := by simpa [eqV] using e
    have e3 : x = n := by omega
    rw [← e3]
    exact hx
  · intro h
    refine ⟨n, h, ?_⟩
    show eqV (.int (n : Int)) (.int (n : Int)) = true
    simp [eqV]
theorem flat_nV (row : List Nat) : (nV row).all flatV = true := List.all_eq_true.mpr fun x hx => by
  obtain ⟨n, _, rfl⟩ := List.mem_map.mp hx
  rfl
theorem leads_four {C : Circ} (ok : C.ok) : ∀ r ∈ leadsC C, r.length ≤ 4 := fun r hr => by
  obtain ⟨g, hg, rfl⟩ := List.mem_map.mp hr
  exact Nat.le_trans (List.length_filterMap_le _ _) (ok.gates g hg).1
section
variable {P : Program} {w : World} {K : PySem.W.Frag} {mg : Str → Option Value} {base : Heap}
theorem scRi : FnScope ["circuit", "leads", "found", "lot"] ["circuit"] (defScope sRinged) := ⟨rfl, rfl, rfl, by decide +kernel, rfl, by decide +kernel, by decide +kernel⟩
def spRinged : Sp := fun vs H Q _ => ∃ (y : V) (C : Circ), vs = [y] ∧ CircAt H y C ∧ C.ok ∧ ∀ L H' rs, Same H H' → H' L = some (.lst (nV rs)) → RingsOf (leadsC C) rs → Q (.ref L) H'
theorem ok_ringed {f fL fK : Addr} {fd fdL fdK : FuncData} (F : Fun K "ringed" "ringed" sRinged f fd) (mlen : mg "len" = none) (msorted : mg "sorted" = none)
    (GL : FnOk P w K mg base CX0 1 fL fdL ["circuit"] spGLeads) (kL : PySem.W.keepIn K (.ref fL) = true) (bL : Binds K fdL ["circuit"] []) (mL : mg "gate_leads" = some (.ref fL))
    (GK : FnOk P w K mg base CX0 2 fK fdK ["leads"] spKnots) (kK : PySem.W.keepIn K (.ref fK) = true) (bK : Binds K fdK ["leads"] []) (mK : mg "knots" = some (.ref fK)) :
    FnOk P w K mg base CX0 3 f fd ["circuit"] spRinged := by
  refine F.ok scRi (fun vs H Q E h => ?_) (fun cdv A outer s H vs Q E hr h => ?_)
  · obtain ⟨y, C, rfl, _⟩ := h
    rfl
  · obtain ⟨y, C, rfl, hC, ok, q⟩ := h
    refine ⟨_, (pss_cons (ps_set (i := 1) scRi.nd rfl (Or.inl rfl) (pe_call GL (hr.mono (by decide)) (by rfl) mL kL bL .nil pass0 (pa_cons (pv 0) pa_nil)))
      (pss_cons (ps_set (i := 2) scRi.nd rfl (Or.inl rfl) (pe_lst pa_nil))
      (pss_cons (ps_for PassesOwn.never rfl (pi_list (pe_call GK (hr.mono (by decide)) (by rfl) mK kK bK .nil pass0 (pa_cons (pv 1) pa_nil))) (pg_name (i := 3) scRi.nd rfl (Or.inl rfl))
        (pss_one (ps_if (pw_or (pt_cmpR op_gt (pe_callB call_len_seq (by rfl) mlen PySem.boot_len (pa_cons (pv 3) pa_nil)) pe_int (nomark _)) (pw_or1 (pt_cmpR op_in_seq (pe_ix (r := rIxL K) ix_list (pv 3) pe_int (fun _ _ => rfl)) (pe_ix (r := rIxL K) ix_list (pv 1) (pe_ix (r := rIxL K) ix_list (pv 3) pe_int (fun _ _ => rfl)) (fun _ _ => rfl)) (by rfl)))).pt (pss_one (ps_expr (pe_bm PySem.F.plainAttrs_list PySem.F.slot_list_extend PySem.F.type_list_extend mt_extend (pv 2) (pa_cons (pv 3) pa_nil)))) pss_nil)))
      (pss_one (ps_ret (pe_callB cr_sortedI (by rfl) msorted (by decide +kernel) (pa_cons (pv 2) pa_nil))))))), ?_⟩
    refine ⟨_, rfl, y, C, rfl, hC, ok, fun L H1 s1 nL hL => ?_⟩
    have lg2 : (leadsC C).length ≤ 2000 := by rw [leadsC_len]; exact ok.ng
    -- found = []
    refine ⟨Nat.zero_le _, fun D nD => ?_⟩
    obtain ⟨lv, eL, alL⟩ := id hL
    have s2 := same_new (o := .lst []) nD
    have eD2 : (L2.upd H1 D (.lst [])) D = some (.lst []) := upd_same
    generalize L2.upd H1 D (.lst []) = H2 at s2 eD2
    have hL2 := hL.same s2
    refine ⟨_, rfl, L, leadsC C, rfl, hL2, leadsC_lt ok, lg2, leads_four ok, fun F' H3 found s3 nF hF Kn => ?_⟩
    have eD3 := s3 _ _ eD2
    have hL3 := hL2.same s3
    obtain ⟨vs, eF, al⟩ := hF
    have FD : F' ≠ D := fun z => by
      rw [z, eD2] at nF
      cases nF
    have s13 := (s1.trans s2).trans s3
    have nD0 : H D = none := s1.free nD
    have lfv := Paired.length al
    have nod : (KM.ringNodes (leadsC C) found).length ≤ (leadsC C).length := KM.nodup_len _ _ (KM.rings_nodup Kn) fun x hx => ((KM.rings_are (leadsC_lt ok) Kn x).mp hx).1
    refine ⟨_, rfl, ⟨vs, .inl (.inl eF)⟩, for_list (xs := vs) (fun i σ Hx => ∃ (y3 : Option V), σ = [some y, some (.ref L), some (.ref D), y3] ∧ (∀ b o, b ≠ D → H3 b = some o → Hx b = some o) ∧ Hx D = some (.lst (nV (KM.ringNodes (leadsC C) (found.take i)))))
      ⟨none, rfl, fun _ _ _ e => e, eD3⟩ (fun i σ Hx _ hh => ?_) (fun i x σ Hx hx hh => ?_) (fun σ Hx hh => ?_)⟩
    · obtain ⟨_, _, k, _⟩ := hh
      exact .inl (.inl (k _ _ FD eF))
    · obtain ⟨y3, rfl, kx, eDx⟩ := hh
      obtain ⟨lot, hl, a, rfl, ea⟩ := all_get al hx
      have ml := List.mem_of_getElem? hl
      obtain ⟨⟨ne, sc⟩, pw⟩ := Kn.c lot ml
      have aD : a ≠ D := fun z => by
        rw [z, eD3] at ea
        have z2 := HO.lst.inj (Option.some.inj ea)
        cases lot with
        | nil => exact ne rfl
        | cons x r => exact absurd z2 (fun z => nomatch z)
      have eax := kx _ _ aD ea
      have lnV : (nV lot).length = lot.length := by unfold nV; rw [List.length_map]
      obtain ⟨h0, r0, rfl⟩ : ∃ h0 r0, lot = h0 :: r0 := by
        cases lot with
        | nil => exact absurd rfl ne
        | cons x r => exact ⟨x, r, rfl⟩
      have s23 := s2.trans s3
      have h0l : h0 < (leadsC C).length := (sc h0 List.mem_cons_self).1
      have h0v : h0 < lv.length := by rw [Paired.length alL]; exact h0l
      obtain ⟨row, hrow, ra, era, eRow⟩ := all_get alL (List.getElem?_eq_getElem h0v)
      have eLx := kx _ _ (ne_of_none eL nD) (s23 _ _ eL)
      have eRx := kx _ _ (ne_of_none eRow nD) (s23 _ _ eRow)
      have esuc : KM.suc (leadsC C) h0 = row := by
        unfold KM.suc
        rw [List.getD_eq_getElem?_getD, hrow]
        rfl
      have tk1 : found.take (i + 1) = found.take i ++ [h0 :: r0] := take_snoc hl
      have hring : KM.ringLot (leadsC C) (h0 :: r0) = (decide (1 < (h0 :: r0).length) || decide (h0 ∈ row)) := by
        rw [← esuc]
        rfl
      have lrN : (nV (KM.ringNodes (leadsC C) (found.take i))).length ≤ 2000 := by
        unfold nV
        rw [List.length_map]
        have z : KM.ringNodes (leadsC C) found = KM.ringNodes (leadsC C) (found.take i) ++ KM.ringNodes (leadsC C) (found.drop i) := by
          unfold KM.ringNodes
          rw [← List.flatten_append, ← List.filter_append, List.take_append_drop]
        have z2 := congrArg List.length z
        rw [List.length_append] at z2
        omega
      have llot : (nV (h0 :: r0)).length ≤ 2000 := by
        rw [lnV]
        exact Nat.le_trans (KM.nodup_len (leadsC C).length _ (pw.imp fun h => Nat.ne_of_lt h) fun x hx => (sc x hx).1) lg2
      have hno : KM.ringLot (leadsC C) (h0 :: r0) = false → ∃ (y3 : Option V), [some y, some (.ref L), some (.ref D), some (.ref a)] = [some y, some (.ref L), some (.ref D), y3] ∧ (∀ b o, b ≠ D → H3 b = some o → Hx b = some o) ∧ Hx D = some (.lst (nV (KM.ringNodes (leadsC C) (found.take (i + 1))))) := fun hb => by
        refine ⟨_, rfl, kx, ?_⟩
        rw [eDx, tk1]
        unfold KM.ringNodes
        rw [List.filter_append, List.filter_cons_of_neg (by rw [hb]; exact fun z => nomatch z), List.filter_nil, List.append_nil]
      have hyes : KM.ringLot (leadsC C) (h0 :: r0) = true → ∃ (y3 : Option V), [some y, some (.ref L), some (.ref D), some (.ref a)] = [some y, some (.ref L), some (.ref D), y3] ∧ (∀ b o, b ≠ D → H3 b = some o → (L2.upd Hx D (.lst (nV (KM.ringNodes (leadsC C) (found.take i)) ++ nV (h0 :: r0)))) b = some o) ∧ (L2.upd Hx D (.lst (nV (KM.ringNodes (leadsC C) (found.take i)) ++ nV (h0 :: r0)))) D = some (.lst (nV (KM.ringNodes (leadsC C) (found.take (i + 1))))) := fun hb => by
        refine ⟨_, rfl, fun b o n e => by rw [upd_ne n]; exact kx _ _ n e, ?_⟩
        rw [upd_same, tk1]
        unfold KM.ringNodes nV
        rw [List.filter_append, List.filter_cons_of_pos hb, List.filter_nil, List.flatten_append, List.map_append]
        simp
      refine ⟨_, rfl, a, _, rfl, .inl (.inl (.inl eax)), _, _, rfl, rfl, _, rfl, ?_⟩
      rw [lnV]
      by_cases c1 : 1 < (h0 :: r0).length
      · rw [show decide ((1 : Int) < ((h0 :: r0).length : Int)) = true from decide_eq_true (by omega)]
        refine iteT (iteT ⟨_, rfl, .inl ⟨rfl, _, .inl (.inl eDx)⟩, _, rfl, D, a, _, _, rfl, rfl, eDx, eax, by rw [sizeLine_eq]; omega, hyes ?_⟩)
        rw [hring, decide_eq_true c1]
        rfl
      · rw [show decide ((1 : Int) < ((h0 :: r0).length : Int)) = false from decide_eq_false (by omega)]
        refine iteF ?_
        have a0 : atI (nV (h0 :: r0)) 0 = some (V.int (h0 : Int)) := atI_nat (j := 0) (xs := nV (h0 :: r0)) (v := V.int (h0 : Int)) (by rfl)
        refine ⟨_, rfl, a, _, 0, .int (h0 : Int), rfl, rfl, .inl (.inl eax), a0, ?_⟩
        refine ⟨_, rfl, _, rfl, a, _, 0, .int (h0 : Int), rfl, rfl, .inl (.inl eax), a0, ?_⟩
        refine ⟨L, lv, (h0 : Int), .ref ra, rfl, rfl, .inl (.inl eLx), atI_nat (by rw [List.getElem?_eq_getElem h0v, era]), ?_⟩
        refine ⟨ra, _, rfl, .inl (.inl (.inl eRx)), rfl, flat_nV _, _, rfl, ?_⟩
        show (if inV (.int (h0 : Int)) (nV row) = true then _ else _)
        rw [inV_nV]
        rw [decide_eq_false c1, Bool.false_or] at hring
        rw [← hring]
        cases hb : KM.ringLot (leadsC C) (h0 :: r0) with
        | false => exact iteF (hno hb)
        | true => exact iteT ⟨_, rfl, .inl ⟨rfl, _, .inl (.inl eDx)⟩, _, rfl, D, a, _, _, rfl, rfl, eDx, eax, by rw [sizeLine_eq]; omega, hyes hb⟩
    · obtain ⟨y3, rfl, kx, eDx⟩ := hh
      rw [lfv, List.take_length] at eDx
      refine ⟨_, rfl, D, _, rfl, by rw [← nV_ints]; exact .inl (.inl eDx), fun ns' p perm asc np => ?_⟩
      obtain ⟨rs, ens, perm', asc'⟩ := perm_nats perm asc
      refine q p _ rs (fun b o e => ?_) (by rw [upd_same, ens]) ⟨?_, fun v => ?_⟩
      · have z : Hx b = some o := kx _ _ (ne_of_none e nD0) (s13 _ _ e)
        rw [upd_ne (ne_of_none z np)]
        exact z
      · have nd := (perm'.nodup_iff).mpr (KM.rings_nodup Kn)
        exact (asc'.and nd).imp fun ⟨h1, h2⟩ => Nat.lt_of_le_of_ne h1 h2
      · rw [perm'.mem_iff]
        exact KM.rings_are (leadsC_lt ok) Kn v
/-! ### is_ringless, ring_gates, first_held -/
abbrev heldV (C : Circ) : List V := C.regs.map fun r => bitV r.1
theorem circ_vw {H : Hp} {y : V} {C : Circ} (h : CircAt H y C) (ok : C.ok) : ∃ d, Vw H y d ∧ CircK d ∧ circD d = true := ⟨circDat C, vw_circ h, circK_dat C, circD_dat ok⟩
theorem scRl : FnScope ["circuit"] ["circuit"] (defScope sRingless) := ⟨rfl, rfl, rfl, by decide +kernel, rfl, by decide +kernel, by decide +kernel⟩
def spRingless (TT : List Addr) (CC : Addr) : Sp := fun vs H Q E => ∃ y, vs = [y] ∧ TabsG TT H ∧
  ((∃ d, Vw H y d ∧ CircK d ∧ circD d = false ∧ ∀ H', Ex TT H H' → E (.ref CC) none H') ∨ (∃ C, CircAt H y C ∧ C.ok ∧ ∀ H' rs, Ex TT H H' → RingsOf (leadsC C) rs → Q (.bl (decide (rs = []))) H'))
theorem ok_ringless {TT : List Addr} {f fC fR CC : Addr} {fd fdC fdR : FuncData} (F : Fun K "is_ringless" "is_ringless" sRingless f fd)
    (GC : FnOk P w K mg base (L2.CX P w) 9 fC fdC ["circuit"] (spCheckCD TT CC)) (kC : PySem.W.keepIn K (.ref fC) = true) (bC : Binds K fdC ["circuit"] []) (mC : mg "check_circuit" = some (.ref fC))
    (GR : FnOk P w K mg base CX0 3 fR fdR ["circuit"] spRinged) (kR : PySem.W.keepIn K (.ref fR) = true) (bR : Binds K fdR ["circuit"] []) (mR : mg "ringed" = some (.ref fR)) :
    FnOk P w K mg base (L2.CX P w) 10 f fd ["circuit"] (spRingless TT CC) := by
  refine F.okX scRl (fun vs H Q E h => ?_) (fun cdv A outer s H vs Q E hr h => ?_)
  · obtain ⟨y, rfl, _⟩ := h
    rfl
  · obtain ⟨y, rfl, hT, h⟩ := h
    refine ⟨_, (pss_cons (ps_expr (pe_callS GC hr (by rfl) mC kC bC (passAt (takes_of rfl rfl rfl rfl)) (pa_cons (pv 0) pa_nil)))
      (pss_one (ps_ret (pe_notT (pe_call GR (hr.mono (by decide)) (by rfl) mR kR bR .nil pass0 (pa_cons (pv 0) pa_nil)))))), ?_⟩
    refine ⟨_, rfl, ?_⟩
    dsimp only [tNil]
    rcases h with ⟨d, hv, hk, hb, e⟩ | ⟨C, hC, ok, q⟩
    · exact ⟨y, d, rfl, hv, hk, hT, fun H' x => ⟨fun z => (nomatch hb.symm.trans z), fun _ => e H' x⟩⟩
    · obtain ⟨d, hv, hk, hb⟩ := circ_vw hC ok
      refine ⟨y, d, rfl, hv, hk, hT, fun H' x => ⟨fun _ => ?_, fun z => (nomatch hb.symm.trans z)⟩⟩
      refine ⟨_, rfl, y, C, rfl, hC.ext (x.extN hT), ok, fun L H2 rs s2 eL R => ?_⟩
      refine ⟨_, .inl ⟨_, .inl (.inl eL), rfl⟩, ?_⟩
      rw [show (!!(nV rs).isEmpty) = decide (rs = []) from by cases rs <;> rfl]
      exact q _ rs (x.trans (Ex.same s2)) R
theorem scRg : FnScope ["circuit"] ["circuit"] (defScope sRingGates) := ⟨rfl, rfl, rfl, by decide +kernel, rfl, by decide +kernel, by decide +kernel⟩
def spRingGates (TT : List Addr) (CC : Addr) : Sp := fun vs H Q E => ∃ y, vs = [y] ∧ TabsG TT H ∧
  ((∃ d, Vw H y d ∧ CircK d ∧ circD d = false ∧ ∀ H', Ex TT H H' → E (.ref CC) none H') ∨ (∃ C, CircAt H y C ∧ C.ok ∧ ∀ p H' rs, Ex TT H H' → H' p = some (.tup (nV rs)) → RingsOf (leadsC C) rs → Q (.ref p) H'))
theorem ok_ringGates {TT : List Addr} {f fC fR CC : Addr} {fd fdC fdR : FuncData} (F : Fun K "ring_gates" "ring_gates" sRingGates f fd) (mtuple : mg "tuple" = none)
    (GC : FnOk P w K mg base (L2.CX P w) 9 fC fdC ["circuit"] (spCheckCD TT CC)) (kC : PySem.W.keepIn K (.ref fC) = true) (bC : Binds K fdC ["circuit"] []) (mC : mg "check_circuit" = some (.ref fC))
    (GR : FnOk P w K mg base CX0 3 fR fdR ["circuit"] spRinged) (kR : PySem.W.keepIn K (.ref fR) = true) (bR : Binds K fdR ["circuit"] []) (mR : mg "ringed" = some (.ref fR)) :
    FnOk P w K mg base (L2.CX P w) 10 f fd ["circuit"] (spRingGates TT CC) := by
  refine F.okX scRg (fun vs H Q E h => ?_) (fun cdv A outer s H vs Q E hr h => ?_)
  · obtain ⟨y, rfl, _⟩ := h
    rfl
  · obtain ⟨y, rfl, hT, h⟩ := h
    refine ⟨_, (pss_cons (ps_expr (pe_callS GC hr (by rfl) mC kC bC (passAt (takes_of rfl rfl rfl rfl)) (pa_cons (pv 0) pa_nil)))
      (pss_one (ps_ret (pe_callTy call_tuple_of (by rfl) mtuple (by decide +kernel) (pa_cons (pe_call GR (hr.mono (by decide)) (by rfl) mR kR bR .nil pass0 (pa_cons (pv 0) pa_nil)) pa_nil))))), ?_⟩
    refine ⟨_, rfl, ?_⟩
    dsimp only [tNil]
    rcases h with ⟨d, hv, hk, hb, e⟩ | ⟨C, hC, ok, q⟩
    · exact ⟨y, d, rfl, hv, hk, hT, fun H' x => ⟨fun z => (nomatch hb.symm.trans z), fun _ => e H' x⟩⟩
    · obtain ⟨d, hv, hk, hb⟩ := circ_vw hC ok
      refine ⟨y, d, rfl, hv, hk, hT, fun H' x => ⟨fun _ => ?_, fun z => (nomatch hb.symm.trans z)⟩⟩
      refine ⟨_, rfl, y, C, rfl, hC.ext (x.extN hT), ok, fun L H2 rs s2 eL R => ?_⟩
      exact ⟨L, nV rs, rfl, .inl ⟨.inl (.inl eL), fun l nl => q l _ rs (x.trans (Ex.same (s2.trans (same_new nl)))) upd_same R⟩⟩
end
end K02

set_option Elab.async false
set_option linter.all false
set_option maxRecDepth 100000
set_option maxHeartbeats 4000000
/-! sorted(xs), xs a list of tuples of ints of any lengths. -/
namespace SN
open PySem PySem.Spec L2
open PyProof.Rows
/-- no later than, as tuples of ints are ordered -/
def leI (a b : List Int) : Prop := lexLt itemOrd (b.map Sum.inl) (a.map Sum.inl) = false
theorem inl_inj : ∀ {a b : List Int}, (a.map (Sum.inl : Int → Int ⊕ List Nat)) = b.map Sum.inl → a = b
  | [], [], _ => rfl
  | [], _ :: _, h => by cases h
  | _ :: _, [], h => by cases h
  | x :: a, y :: b, h => by
    rw [List.map_cons, List.map_cons] at h
    injection h with h1 h2
    injection h1 with h1
    rw [h1, inl_inj h2]
theorem leI_anti {a b : List Int} (h : leI a b) (k : leI b a) : a = b := inl_inj (lex_total _ _ k h)
/-- two arrangements of the same, both in order -/
theorem sorted_one {α : Type} {le : α → α → Prop} (anti : ∀ a b, le a b → le b a → a = b) : ∀ {xs ys : List α}, xs.Perm ys → xs.Pairwise le → ys.Pairwise le → xs = ys
  | [], ys, p, _, _ => (List.nil_perm.mp p).symm
  | x :: xs, [], p, _, _ => absurd p.length_eq (by simp)
  | x :: xs, y :: ys, p, hx, hy => by
    obtain ⟨x1, x2⟩ := List.pairwise_cons.mp hx
    obtain ⟨y1, y2⟩ := List.pairwise_cons.mp hy
    have e : x = y := by
      rcases List.mem_cons.mp (p.mem_iff.mp List.mem_cons_self) with h | h
      · exact h
      · rcases List.mem_cons.mp (p.mem_iff.mpr (List.mem_cons_self : y ∈ y :: ys)) with k | k
        · exact k.symm
        · exact anti _ _ (x1 _ k) (y1 _ h)
    subst e
    rw [sorted_one anti ((List.perm_cons x).mp p) x2 y2]
theorem items_ints {i : Nat} : ∀ {vs : List Value} {ns : List Int}, IntsAre vs ns → tupItems (fun _ => false) i vs = some (ns.map Sum.inl)
  | _, _, .nil => rfl
  | _, _, .cons n t r => by
    show (tupItems (fun _ => false) (i + 1) _).map (Sum.inl n :: ·) = _
    rw [items_ints r]
    rfl
theorem key_ints {h : Heap} {v : Value} {ns : List Int} (t : TS.TupInts h v ns) : G.tupKeyC h (fun _ => false) v = some (ns.map Sum.inl) := by
  obtain ⟨a, its, rfl, ⟨o, ho, hc, n, hd⟩, hi⟩ := t
  unfold G.tupKeyC
  have e1 : G.isTupObj h (.ref a) = true := by simp [G.isTupObj, ho, hc]
  rw [if_pos e1]
  simp only [tupKey, ho, hd]
  exact items_ints hi
theorem tups_of {h : Heap} : ∀ {vs : List Value}, (∀ v ∈ vs, ∃ ns, TS.TupInts h v ns ∧ ns ≠ []) → ∃ fs, TupsOf h (fun _ => false) vs fs
  | [], _ => ⟨[], .nil⟩
  | v :: vs, hv => by
    obtain ⟨fs, r⟩ := tups_of fun u hu => hv u (List.mem_cons_of_mem _ hu)
    obtain ⟨ns, ⟨a, its, rfl, ⟨o, ho, hc, n, hd⟩, hi⟩, hn⟩ := hv v List.mem_cons_self
    have : ∃ k t rest, its.toList = Value.int k t :: rest := by
      generalize its.toList = l at hi
      cases hi with
      | nil => exact absurd rfl hn
      | cons k t r => exact ⟨k, t, _, rfl⟩
    obtain ⟨k, t, rest, e⟩ := this
    refine ⟨Value.int k t :: fs, .cons ⟨a, o, its, n, rfl, ho, hc, hd, ?_, fun _ => ⟨k, t, rfl⟩, fun z => (nomatch z)⟩ r⟩
    rw [← Array.getElem?_toList, e]
    rfl
/-- sorted(xs), xs a list of tuples of ints, none empty -/
def rSortN (K : PySem.W.Frag) : List V → Hp → VK → Prop := fun vs H Q => ∃ (a : Addr) (xs : List V), vs = [V.ref a] ∧ SqL K H a xs ∧ (∀ x ∈ xs, ∃ ns, TupI K H x ns ∧ ns ≠ []) ∧
  ∀ (ys : List V) (p : Addr), ys.Perm xs → ys.Pairwise (fun x y => ∀ n m, TupI K H x n → TupI K H y m → leI n m) → H p = none → Q (.ref p) (upd H p (.lst ys))
theorem cr_sortN {X : Cx} : CallR X (.builtin "sorted") (rSortN X.K) := by
  intro pins s σ H vs us Q I r h
  obtain ⟨a, xs, rfl, hs, hx, q⟩ := h
  obtain ⟨its, rv, hl, hz⟩ := I.list hs
  rw [Vals.ref1 r]
  obtain ⟨e1, e2⟩ := bkV_refs rv fun x m => by
    obtain ⟨ns, ⟨t, e, _⟩, _⟩ := hx x m
    exact ⟨t, e⟩
  have raw : ∀ v ∈ its, ∃ ns, TS.TupInts s.heap v ns ∧ ns ≠ [] ∧ TupI X.K H (bkV v) ns := fun v hv => by
    obtain ⟨t, rfl⟩ := e2 v hv
    have hm : V.ref t ∈ xs := by
      rw [e1]
      exact List.mem_map.mpr ⟨_, hv, rfl⟩
    obtain ⟨ns, ⟨t', e, ht⟩, hn⟩ := hx _ hm
    cases e
    exact ⟨ns, tupI_raw I ht, hn, t, rfl, ht⟩
  obtain ⟨fs, hf⟩ := tups_of fun v hv => by
    obtain ⟨ns, a, b, _⟩ := raw v hv
    exact ⟨ns, a, b⟩
  refine G.sorted_tups hl.isList hf (fun v hv => by
    obtain ⟨ns, a, _⟩ := raw v hv
    exact ⟨_, key_ints a⟩) (by rw [← rv.length]; exact hz) fun st' h1 h2 _ => ?_
  have hl1 : (arrOf st').toList.Perm (its.zip its) := by
    have z := Array.perm_iff_toList_perm.mp h1
    rwa [pairsOf_toList] at z
  have same : ∀ p ∈ (arrOf st').toList, p.1 = p.2 ∧ p.2 ∈ its := fun p hp => by
    have z := hl1.mem_iff.mp hp
    have : ∀ (l : List Value) (p : Value × Value), p ∈ l.zip l → p.1 = p.2 ∧ p.2 ∈ l := fun l => by
      induction l with
      | nil => exact fun p h => (nomatch h)
      | cons a l ih =>
        intro p h
        rw [List.zip_cons_cons] at h
        rcases List.mem_cons.mp h with e | e
        · rw [e]
          exact ⟨rfl, List.mem_cons_self⟩
        · exact ⟨(ih p e).1, List.mem_cons_of_mem _ (ih p e).2⟩
    exact this _ _ z
  have snd : ((arrOf st').map (·.2)).toList.Perm its := by
    rw [Array.toList_map]
    have z := hl1.map (fun p : Value × Value => p.2)
    have e : (its.zip its).map (fun p : Value × Value => p.2) = its := by
      rw [show (fun p : Value × Value => p.2) = Prod.snd from rfl, List.map_snd_zip (Nat.le_refl _)]
    rw [e] at z
    exact z
  generalize hout : (arrOf st').map (·.2) = out at snd
  obtain ⟨ep, he'⟩ := PyProof.Rows.sortedAll_at s.heap its out
  have h3 : ∀ u ∈ out.toList, ∃ a, u = Value.ref a := fun u hu => e2 u (snd.mem_iff.mp hu)
  have hp : (out.toList.map bkV).Perm xs := by
    rw [e1]
    exact snd.map bkV
  have hlen : (out.toList.map bkV).length ≤ sizeLine := by
    rw [hp.length_eq]
    exact hz
  refine ⟨.ref _, upd H (s.heap.objs.size + 1) (.lst (out.toList.map bkV)), I.laid (t' := s.toks) (fun _ _ => PyProof.Rows.sortedAll_old) (Nat.le_succ _) ⟨hlen, out.toList, ep, bkV_vals h3, he'⟩, rfl, q _ _ hp ?_ (I.hok.fresh (Nat.le_succ _))⟩
  rw [List.pairwise_map]
  refine List.pairwise_iff_getElem.mpr fun i j hi hj hij n m hn hm => ?_
  have lo : out.toList.length = (arrOf st').size := by
    rw [← hout, Array.toList_map, List.length_map]
    rfl
  have sz : (pairsOf its).size = (arrOf st').size := by
    have z := h1.size_eq
    exact z.symm
  have k := h2 i j (by omega) (by rw [sz]; omega)
  have at_ : ∀ (i : Nat) (hi : i < out.toList.length), ∃ p ∈ (arrOf st').toList, (arrOf st')[i]? = some p ∧ out.toList[i] = p.2 := fun i hi => by
    have hi2 : i < (arrOf st').size := by omega
    refine ⟨(arrOf st')[i], by simp, Array.getElem?_eq_getElem hi2, ?_⟩
    subst hout
    simp
  obtain ⟨p, p1, p2, p3⟩ := at_ i hi
  obtain ⟨p', p1', p2', p3'⟩ := at_ j hj
  have kk : ∀ (i : Nat) (p : Keyed), p ∈ (arrOf st').toList → (arrOf st')[i]? = some p → ∀ n, TupI X.K H (bkV p.2) n → KK (G.tupKindC s.heap fun _ => false) (arrOf st') i = n.map Sum.inl := fun i p hp hi n hn => by
    obtain ⟨e, hm⟩ := same p hp
    obtain ⟨ns, a, _, b⟩ := raw _ hm
    obtain ⟨t, et, ht⟩ := hn
    have eu := bkV_ref et
    have ens : ns = n := by
      rw [eu] at a
      exact a.ints.symm.trans (tupI_raw I ht).ints
    unfold KK
    rw [hi]
    show (G.tupKeyC s.heap (fun _ => false) p.1).getD [] = _
    rw [e, key_ints a, ens]
    rfl
  rw [p3] at hn
  rw [p3'] at hm
  rw [kk i p p1 p2 n hn, kk j p' p1' p2' m hm] at k
  exact k
end SN

set_option Elab.async false
set_option linter.all false
set_option maxRecDepth 100000
set_option maxHeartbeats 4000000
/-! Rings as lots: what they are, in the order of tuples there is just one list of them. -/
namespace K02
open PySem PySem.Spec L2
open PyProof.Rows GenW GxR EZ TK
open LamX (ExtN)
structure RingLots (g : KM.Gr) (lots : List (List Nat)) : Prop where
  c : ∀ lot ∈ lots, lot ≠ [] ∧ lot.Pairwise (· < ·) ∧ ∀ v ∈ lot, v < g.length ∧ KM.OnRing g v ∧ ∀ w, w ∈ lot ↔ KM.Reach g v w ∧ KM.Reach g w v
  d : lots.Nodup
  a : ∀ v, v < g.length → KM.OnRing g v → ∃ lot ∈ lots, v ∈ lot
theorem RingLots.sub {g : KM.Gr} {A B : List (List Nat)} (a : RingLots g A) (b : RingLots g B) {lot : List Nat} (h : lot ∈ A) : lot ∈ B := by
  obtain ⟨ne, asc, hv⟩ := a.c lot h
  obtain ⟨v, r, rfl⟩ : ∃ v r, lot = v :: r := by
    cases lot with
    | nil => exact absurd rfl ne
    | cons v r => exact ⟨v, r, rfl⟩
  obtain ⟨vl, vr, vw⟩ := hv v List.mem_cons_self
  obtain ⟨lot', h', m'⟩ := b.a v vl vr
  obtain ⟨_, asc', hv'⟩ := b.c lot' h'
  obtain ⟨_, _, vw'⟩ := hv' v m'
  have e := asc_one asc asc' fun w => (vw w).trans (vw' w).symm
  rw [e]
  exact h'
theorem perm_of_sub {α : Type} : ∀ {A B : List α}, A.Nodup → B.Nodup → (∀ x, x ∈ A ↔ x ∈ B) → A.Perm B
  | [], [], _, _, _ => .nil
  | [], y :: B, _, _, h => absurd ((h y).mpr List.mem_cons_self) (by simp)
  | x :: A, B, hA, hB, h => by
    obtain ⟨x1, x2⟩ := List.nodup_cons.mp hA
    obtain ⟨B1, B2, e⟩ := List.append_of_mem ((h x).mp List.mem_cons_self)
    subst e
    have hB' := hB
    rw [List.nodup_append] at hB
    obtain ⟨n1, n2, n3⟩ := hB
    obtain ⟨n4, n5⟩ := List.nodup_cons.mp n2
    have z : A.Perm (B1 ++ B2) := perm_of_sub x2 (List.nodup_append.mpr ⟨n1, n5, fun a ha b hb => n3 a ha b (List.mem_cons_of_mem _ hb)⟩) fun y => by
      constructor
      · intro hy
        have := (h y).mp (List.mem_cons_of_mem _ hy)
        rcases List.mem_append.mp this with q | q
        · exact List.mem_append_left _ q
        · rcases List.mem_cons.mp q with q | q
          · subst q
            exact absurd hy x1
          · exact List.mem_append_right _ q
      · intro hy
        have hy2 : y ∈ B1 ++ x :: B2 := by
          rcases List.mem_append.mp hy with q | q
          · exact List.mem_append_left _ q
          · exact List.mem_append_right _ (List.mem_cons_of_mem _ q)
        rcases List.mem_cons.mp ((h y).mpr hy2) with q | q
        · subst q
          rcases List.mem_append.mp hy with q | q
          · exact absurd rfl (n3 y q y List.mem_cons_self)
          · exact absurd q n4
        · exact q
    exact ((List.perm_cons x).mpr z).trans List.perm_middle.symm
theorem RingLots.perm {g : KM.Gr} {A B : List (List Nat)} (a : RingLots g A) (b : RingLots g B) : A.Perm B := perm_of_sub a.d b.d fun x => ⟨fun h => a.sub b h, fun h => b.sub a h⟩
theorem RingLots.of_perm {g : KM.Gr} {A B : List (List Nat)} (a : RingLots g A) (p : B.Perm A) : RingLots g B :=
  ⟨fun lot h => a.c lot (p.mem_iff.mp h), p.nodup_iff.mpr a.d, fun v h1 h2 => by
    obtain ⟨lot, h, m⟩ := a.a v h1 h2
    exact ⟨lot, p.mem_iff.mpr h, m⟩⟩
theorem knots_rings {g : KM.Gr} (n : ∀ u w, w ∈ KM.suc g u → w < g.length) {found : List (List Nat)} (Kn : KM.Knots g found) : RingLots g (found.filter (KM.ringLot g)) := by
  refine ⟨fun lot h => ?_, ?_, fun v hv hr => ?_⟩
  · obtain ⟨h1, h2⟩ := List.mem_filter.mp h
    obtain ⟨sc, pw⟩ := Kn.c lot h1
    refine ⟨sc.1, pw, fun v hv => ⟨(sc.2 v hv).1, (KM.ring_iff n sc pw hv).mpr h2, fun w => ⟨fun hw => ((sc.2 v hv).2 w (sc.2 w hw).1).mp hw, fun z => ((sc.2 v hv).2 w (KM.reach_lt n z.1 (sc.2 v hv).1)).mpr z⟩⟩⟩
  · refine List.Pairwise.filter _ (?_ : found.Nodup)
    have z := Kn.d
    have c := Kn.c
    induction found with
    | nil => exact List.nodup_nil
    | cons a r ih =>
      obtain ⟨z1, z2⟩ := List.pairwise_cons.mp z
      refine List.nodup_cons.mpr ⟨fun m => ?_, ?_⟩
      · have ne := (c a List.mem_cons_self).1.1
        cases a with
        | nil => exact ne rfl
        | cons v t => exact z1 _ m v List.mem_cons_self List.mem_cons_self
      · have : ∀ r : List (List Nat), (r.Pairwise fun a b => ∀ v ∈ a, v ∉ b) → (∀ lot ∈ r, KM.Scc g lot ∧ lot.Pairwise (· < ·)) → r.Nodup := fun r => by
          induction r with
          | nil => exact fun _ _ => List.nodup_nil
          | cons b r ih =>
            intro z c
            obtain ⟨z1, z2⟩ := List.pairwise_cons.mp z
            refine List.nodup_cons.mpr ⟨fun m => ?_, ih z2 fun l hl => c l (List.mem_cons_of_mem _ hl)⟩
            have ne := (c b List.mem_cons_self).1.1
            cases b with
            | nil => exact ne rfl
            | cons v t => exact z1 _ m v List.mem_cons_self List.mem_cons_self
        exact this r z2 fun l hl => c l (List.mem_cons_of_mem _ hl)
  · obtain ⟨lot, a, b⟩ := Kn.a v hv
    obtain ⟨c, d⟩ := Kn.c lot a
    exact ⟨lot, List.mem_filter.mpr ⟨a, (KM.ring_iff n c d b).mp hr⟩, b⟩
theorem knots_len {g : KM.Gr} {found : List (List Nat)} (Kn : KM.Knots g found) : found.length ≤ g.length := by
  have hd : ∀ lot ∈ found, lot.headD 0 ∈ lot := fun lot h => by
    have ne := (Kn.c lot h).1.1
    cases lot with
    | nil => exact absurd rfl ne
    | cons v r => exact List.mem_cons_self
  have nd : (found.map fun l => l.headD 0).Nodup := List.Pairwise.map _ (fun a b h e => by
    have z := hd _ h.2.1
    rw [← e] at z
    exact h.2.2 _ (hd _ h.1) z) (List.Pairwise.and_mem.mp Kn.d)
  have z := KM.nodup_len g.length _ nd fun x hx => by
    obtain ⟨l, hl, rfl⟩ := List.mem_map.mp hx
    exact ((Kn.c l hl).1.2 _ (hd l hl)).1
  rwa [List.length_map] at z
def intsN (a : List Nat) : List Int := a.map fun (n : Nat) => (n : Int)
theorem intsN_inj : ∀ {a b : List Nat}, intsN a = intsN b → a = b
  | [], [], _ => rfl
  | [], _ :: _, h => by cases h
  | _ :: _, [], h => by cases h
  | x :: a, y :: b, h => by
    have h : ((x : Int) :: intsN a) = (y : Int) :: intsN b := h
    injection h with h1 h2
    rw [intsN_inj h2, show x = y by omega]
def SortedL (lots : List (List Nat)) : Prop := lots.Pairwise fun a b => SN.leI (intsN a) (intsN b)
def RingsTold (g : KM.Gr) (lots : List (List Nat)) : Prop := RingLots g lots ∧ SortedL lots
theorem RingsTold.one {g : KM.Gr} {A B : List (List Nat)} (a : RingsTold g A) (b : RingsTold g B) : A = B :=
  SN.sorted_one (le := fun a b => SN.leI (intsN a) (intsN b)) (fun x y h k => intsN_inj (SN.leI_anti h k)) (a.1.perm b.1) a.2 b.2
/-! ### lists of tuples of numbers -/
def TupN (H : Hp) (v : V) (ns : List Nat) : Prop := ∃ t, v = .ref t ∧ H t = some (.tup (nV ns))
theorem TupN.keep {H H' : Hp} {v : V} {ns : List Nat} (h : TupN H v ns) (k : TupKeep H H') : TupN H' v ns := by
  obtain ⟨t, e, h⟩ := h
  exact ⟨t, e, k _ _ h⟩
theorem nV_intsN (ns : List Nat) : nV ns = (intsN ns).map V.int := by
  unfold nV intsN
  rw [List.map_map]
  rfl
theorem TupN.tupI {K : PySem.W.Frag} {H : Hp} {v : V} {ns : List Nat} (h : TupN H v ns) : TupI K H v (intsN ns) := by
  obtain ⟨t, e, h⟩ := h
  exact ⟨t, e, .inl (.inl (by rw [← nV_intsN]; exact h))⟩
theorem paired_perm {α β : Type} {R : α → β → Prop} {ys xs : List α} (p : ys.Perm xs) : ∀ {ms : List β}, Paired R xs ms → ∃ ms', ms'.Perm ms ∧ Paired R ys ms' := by
  induction p with
  | nil => exact fun h => ⟨_, .refl _, h⟩
  | cons x _ ih =>
    intro ms h
    cases h with
    | cons r t =>
      obtain ⟨ms', q, k⟩ := ih t
      exact ⟨_ :: ms', q.cons _, .cons r k⟩
  | swap x y l =>
    intro ms h
    cases h with
    | cons r t =>
      cases t with
      | cons r2 t2 => exact ⟨_ :: _ :: _, .swap _ _ _, .cons r2 (.cons r t2)⟩
  | trans _ _ ih1 ih2 =>
    intro ms h
    obtain ⟨m1, q1, k1⟩ := ih2 h
    obtain ⟨m2, q2, k2⟩ := ih1 k1
    exact ⟨m2, q2.trans q1, k2⟩
theorem paired_pw {α β : Type} {R : α → β → Prop} {P : α → α → Prop} {P' : β → β → Prop} (h : ∀ x y a b, R x a → R y b → P x y → P' a b) {xs : List α} {ms : List β} (p : Paired R xs ms) : xs.Pairwise P → ms.Pairwise P' := by
  induction p with
  | nil => exact fun _ => .nil
  | @cons x a xs ms r t ih =>
    intro z
    obtain ⟨z1, z2⟩ := List.pairwise_cons.mp z
    refine List.pairwise_cons.mpr ⟨fun b hb => ?_, ih z2⟩
    have : ∃ y ∈ xs, R y b := by
      clear ih z z1 z2
      induction t with
      | nil => cases hb
      | cons r2 t2 ih2 =>
        rcases List.mem_cons.mp hb with e | e
        · rw [e]
          exact ⟨_, List.mem_cons_self, r2⟩
        · obtain ⟨y, hy, q⟩ := ih2 e
          exact ⟨y, List.mem_cons_of_mem _ hy, q⟩
    obtain ⟨y, hy, q⟩ := this
    exact h _ _ _ _ r q (z1 _ hy)
/-- sorted(..) of a list of tuples of numbers -/
theorem sortN_to {K : PySem.W.Frag} {H : Hp} {a : Addr} {xs : List V} {lots : List (List Nat)} {Q : VK} (e : H a = some (.lst xs)) (al : AllAt TupN H xs lots) (ne : ∀ lot ∈ lots, lot ≠ []) (q : ∀ p H' ys ms, Same H H' → H p = none → H' p = some (.lst ys) → AllAt TupN H' ys ms → ms.Perm lots → SortedL ms → Q (.ref p) H') : SN.rSortN K [.ref a] H Q := by
  refine ⟨a, xs, rfl, .inl (.inl e), fun x hx => ?_, fun ys p pm pw np => ?_⟩
  · obtain ⟨i, hi⟩ := List.mem_iff_getElem?.mp hx
    obtain ⟨lot, h1, h2⟩ := all_get al hi
    refine ⟨_, h2.tupI, fun z => ne lot (List.mem_of_getElem? h1) ?_⟩
    cases lot with
    | nil => rfl
    | cons _ _ => cases z
  · obtain ⟨ms, m1, m2⟩ := paired_perm pm al
    have sn := same_new (o := .lst ys) np
    refine q p _ ys ms sn np upd_same (all_ext (fun _ _ r => r.keep (.of sn)) m2) m1 (paired_pw (fun x y a b ra rb h => h _ _ ra.tupI rb.tupI) m2 pw)
end K02

set_option linter.all false
/-! What a closure by laps finds. -/
namespace KM
def more (g : Gr) (r : List Nat) (o : Nat) : List Nat := r ++ (suc g o).filter fun w => !decide (w ∈ r)
def lap (g : Gr) (r : List Nat) : List Nat := r.foldl (more g) r
def laps (g : Gr) : Nat → List Nat → List Nat
  | 0, r => r
  | k + 1, r => lap g (laps g k r)
def miss (g : Gr) (r : List Nat) : Nat := (List.range g.length).countP fun v => !decide (v ∈ r)
theorem more_mem {g : Gr} {r : List Nat} {o x : Nat} : x ∈ more g r o ↔ x ∈ r ∨ x ∈ suc g o := by
  unfold more
  rw [List.mem_append, List.mem_filter]
  constructor
  · rintro (h | h)
    · exact .inl h
    · exact .inr h.1
  · rintro (h | h)
    · exact .inl h
    · by_cases c : x ∈ r
      · exact .inl c
      · exact .inr ⟨h, by rw [decide_eq_false c]; rfl⟩
theorem fold_mem {g : Gr} {x : Nat} : ∀ {os r : List Nat}, x ∈ os.foldl (more g) r ↔ x ∈ r ∨ ∃ o ∈ os, x ∈ suc g o
  | [], r => by simp
  | o :: os, r => by
    rw [List.foldl_cons, fold_mem, more_mem]
    constructor
    · rintro ((h | h) | ⟨o', a, b⟩)
      · exact .inl h
      · exact .inr ⟨o, List.mem_cons_self, h⟩
      · exact .inr ⟨o', List.mem_cons_of_mem _ a, b⟩
    · rintro (h | ⟨o', a, b⟩)
      · exact .inl (.inl h)
      · rcases List.mem_cons.mp a with rfl | a
        · exact .inl (.inr b)
        · exact .inr ⟨o', a, b⟩
theorem lap_mem {g : Gr} {r : List Nat} {x : Nat} : x ∈ lap g r ↔ x ∈ r ∨ ∃ o ∈ r, x ∈ suc g o := fold_mem
theorem laps_comm {g : Gr} : ∀ (k : Nat) (r : List Nat), laps g (k + 1) r = laps g k (lap g r)
  | 0, r => rfl
  | k + 1, r => by
    show lap g (laps g (k + 1) r) = lap g (laps g k (lap g r))
    rw [laps_comm k r]
theorem laps_sub {g : Gr} {x : Nat} {r : List Nat} (h : x ∈ r) : ∀ k, x ∈ laps g k r
  | 0 => h
  | k + 1 => lap_mem.mpr (.inl (laps_sub h k))
theorem laps_sound {g : Gr} {v x : Nat} : ∀ {k : Nat}, x ∈ laps g k (suc g v) → ∃ w ∈ suc g v, Reach g w x
  | 0, h => ⟨x, h, .refl x⟩
  | k + 1, h => by
    rcases lap_mem.mp h with h | ⟨o, a, b⟩
    · exact laps_sound h
    · obtain ⟨w, c, d⟩ := laps_sound a
      exact ⟨w, c, d.tail b⟩
def Cl (g : Gr) (r : List Nat) : Prop := ∀ o ∈ r, ∀ w ∈ suc g o, w ∈ r
theorem Cl.lap {g : Gr} {r : List Nat} (c : Cl g r) : Cl g (lap g r) := fun o ho w hw => by
  have back : ∀ {x}, x ∈ KM.lap g r → x ∈ r := fun {x} hx => by
    rcases lap_mem.mp hx with h | ⟨o, a, b⟩
    · exact h
    · exact c o a x b
  exact lap_mem.mpr (.inl (c o (back ho) w hw))
theorem Cl.laps {g : Gr} {r : List Nat} (c : Cl g r) : ∀ k, Cl g (laps g k r)
  | 0 => c
  | k + 1 => (Cl.laps c k).lap
theorem count_less {p q : Nat → Bool} : ∀ {l : List Nat} {w : Nat}, (∀ x, p x = true → q x = true) → w ∈ l → q w = true → p w = false → l.countP p + 1 ≤ l.countP q
  | [], _, _, h, _, _ => absurd h (by simp)
  | x :: l, w, im, hw, hq, hp => by
    rcases List.mem_cons.mp hw with rfl | hw
    · rw [List.countP_cons_of_pos hq, List.countP_cons_of_neg (by rw [hp]; exact fun z => nomatch z)]
      have := List.countP_mono_left (l := l) (p := p) (q := q) fun x _ h => im x h
      omega
    · have ih := count_less im hw hq hp
      cases hpx : p x with
      | true => rw [List.countP_cons_of_pos hpx, List.countP_cons_of_pos (im x hpx)]; omega
      | false =>
        rw [List.countP_cons_of_neg (by rw [hpx]; exact fun z => nomatch z)]
        cases hqx : q x with
        | true => rw [List.countP_cons_of_pos hqx]; omega
        | false => rw [List.countP_cons_of_neg (by rw [hqx]; exact fun z => nomatch z)]; exact ih
theorem miss_less {g : Gr} {r r' : List Nat} {w : Nat} (sub : ∀ x ∈ r, x ∈ r') (hl : w < g.length) (h1 : w ∉ r) (h2 : w ∈ r') : miss g r' + 1 ≤ miss g r := by
  unfold miss
  refine count_less (fun x hx => ?_) (List.mem_range.mpr hl) (by rw [decide_eq_false h1]; rfl) (by rw [decide_eq_true h2]; rfl)
  by_cases c : x ∈ r
  · rw [decide_eq_true (sub x c)] at hx
    exact nomatch hx
  · rw [decide_eq_false c]
    rfl
theorem laps_cl {g : Gr} (n : ∀ u w, w ∈ suc g u → w < g.length) : ∀ (k : Nat) (r : List Nat), miss g r ≤ k → Cl g (laps g k r)
  | 0, r, h => fun o ho w hw => by
    by_cases c : w ∈ r
    · exact c
    · have := miss_less (r' := w :: r) (fun x hx => List.mem_cons_of_mem _ hx) (n o w hw) c List.mem_cons_self
      omega
  | k + 1, r, h => by
    rw [laps_comm]
    by_cases c : Cl g r
    · exact c.lap.laps k
    · unfold Cl at c
      have : ∃ o ∈ r, ∃ w ∈ suc g o, w ∉ r := by
        refine Classical.byContradiction fun z => c fun o ho w hw => Classical.byContradiction fun z2 => z ⟨o, ho, w, hw, z2⟩
      obtain ⟨o, ho, w, hw, z⟩ := this
      have := miss_less (r' := lap g r) (fun x hx => lap_mem.mpr (.inl hx)) (n o w hw) z (lap_mem.mpr (.inr ⟨o, ho, hw⟩))
      exact laps_cl n k _ (by omega)
theorem miss_le {g : Gr} (r : List Nat) : miss g r ≤ g.length := by
  have := List.countP_le_length (p := fun v => !decide (v ∈ r)) (l := List.range g.length)
  rw [List.length_range] at this
  exact this
theorem laps_ring {g : Gr} (n : ∀ u w, w ∈ suc g u → w < g.length) (v : Nat) : v ∈ laps g g.length (suc g v) ↔ OnRing g v := by
  constructor
  · exact laps_sound
  · rintro ⟨w, hw, h⟩
    have c := laps_cl n g.length (suc g v) (miss_le _)
    have start := laps_sub (g := g) hw g.length
    have all : ∀ x, Reach g w x → x ∈ laps g g.length (suc g v) := fun x h => by
      induction h with
      | refl => exact start
      | tail _ b ih => exact c _ ih _ b
    exact all v h
/-! ### how long the lists get -/
theorem more_len {g : Gr} (n : ∀ u w, w ∈ suc g u → w < g.length) (r : List Nat) (o : Nat) (f : (suc g o).length ≤ 4) : (more g r o).length + 4 * miss g (more g r o) ≤ r.length + 4 * miss g r := by
  by_cases e : (suc g o).filter (fun w => !decide (w ∈ r)) = []
  · unfold more
    rw [e, List.append_nil]
    exact Nat.le_refl _
  · obtain ⟨w, hw⟩ := List.exists_mem_of_ne_nil _ e
    obtain ⟨h1, h2⟩ := List.mem_filter.mp hw
    have h3 : w ∉ r := fun c => by rw [decide_eq_true c] at h2; cases h2
    have := miss_less (r' := more g r o) (fun x hx => more_mem.mpr (.inl hx)) (n o w h1) h3 (more_mem.mpr (.inr h1))
    have l := List.length_filter_le (fun w => !decide (w ∈ r)) (suc g o)
    have : (more g r o).length = r.length + ((suc g o).filter fun w => !decide (w ∈ r)).length := List.length_append
    omega
theorem fold_len {g : Gr} (n : ∀ u w, w ∈ suc g u → w < g.length) (f : ∀ o, (suc g o).length ≤ 4) : ∀ (os r : List Nat), (os.foldl (more g) r).length + 4 * miss g (os.foldl (more g) r) ≤ r.length + 4 * miss g r
  | [], r => Nat.le_refl _
  | o :: os, r => Nat.le_trans (fold_len n f os _) (more_len n r o (f o))
theorem laps_len {g : Gr} (n : ∀ u w, w ∈ suc g u → w < g.length) (f : ∀ o, (suc g o).length ≤ 4) : ∀ (k : Nat) (r : List Nat), (laps g k r).length + 4 * miss g (laps g k r) ≤ r.length + 4 * miss g r
  | 0, r => Nat.le_refl _
  | k + 1, r => Nat.le_trans (fold_len n f _ _) (laps_len n f k r)
theorem suc_four {g : Gr} (h : ∀ r ∈ g, r.length ≤ 4) (o : Nat) : (suc g o).length ≤ 4 := by
  unfold suc
  rw [List.getD_eq_getElem?_getD]
  cases e : g[o]? with
  | none => exact Nat.zero_le _
  | some r => exact h r (List.mem_of_getElem? e)
end KM

set_option Elab.async false
set_option linter.all false
set_option maxRecDepth 100000
set_option maxHeartbeats 4000000
/-! What a node leads to, by one step or more: the law's own walk. -/
namespace KM
/-- by one step or more -/
def RP (g : Gr) (u x : Nat) : Prop := ∃ s ∈ suc g u, Reach g s x
theorem RP.on {g : Gr} {v : Nat} : RP g v v ↔ OnRing g v := Iff.rfl
structure LInv (g : Gr) (u : Nat) (line seen : List Nat) : Prop where
  l : ∀ x ∈ line, RP g u x
  s : ∀ x ∈ seen, RP g u x
  a : ∀ x ∈ suc g u, x ∈ seen ∨ x ∈ line
  c : ∀ x ∈ seen, ∀ w ∈ suc g x, w ∈ seen ∨ w ∈ line
  nd : seen.Nodup
theorem LInv.zero {g : Gr} {u : Nat} : LInv g u (suc g u) [] := ⟨fun x h => ⟨x, h, .refl _⟩, fun x h => (nomatch h), fun x h => .inr h, fun x h => (nomatch h), List.nodup_nil⟩
theorem LInv.old {g : Gr} {u v : Nat} {line seen : List Nat} (h : LInv g u (line ++ [v]) seen) (hv : v ∈ seen) : LInv g u line seen := by
  have sub : ∀ {w}, w ∈ seen ∨ w ∈ line ++ [v] → w ∈ seen ∨ w ∈ line := fun {w} z => by
    rcases z with z | z
    · exact .inl z
    · rcases List.mem_append.mp z with z | z
      · exact .inr z
      · rw [List.mem_singleton.mp z]
        exact .inl hv
  exact ⟨fun x hx => h.l x (List.mem_append_left _ hx), h.s, fun x hx => sub (h.a x hx), fun x hx w hw => sub (h.c x hx w hw), h.nd⟩
theorem LInv.new {g : Gr} {u v : Nat} {line seen : List Nat} (h : LInv g u (line ++ [v]) seen) (hv : v ∉ seen) : LInv g u (line ++ suc g v) (seen ++ [v]) := by
  have rv := h.l v (List.mem_append_right _ (List.mem_singleton.mpr rfl))
  have sub : ∀ {w}, w ∈ seen ∨ w ∈ line ++ [v] → w ∈ seen ++ [v] ∨ w ∈ line ++ suc g v := fun {w} z => by
    rcases z with z | z
    · exact .inl (List.mem_append_left _ z)
    · rcases List.mem_append.mp z with z | z
      · exact .inr (List.mem_append_left _ z)
      · exact .inl (List.mem_append_right _ z)
  refine ⟨fun x hx => ?_, fun x hx => ?_, fun x hx => sub (h.a x hx), fun x hx w hw => ?_, ?_⟩
  · rcases List.mem_append.mp hx with z | z
    · exact h.l x (List.mem_append_left _ z)
    · obtain ⟨s, h1, h2⟩ := rv
      exact ⟨s, h1, .tail h2 z⟩
  · rcases List.mem_append.mp hx with z | z
    · exact h.s x z
    · rw [List.mem_singleton.mp z]
      exact rv
  · rcases List.mem_append.mp hx with z | z
    · exact sub (h.c x z w hw)
    · rw [List.mem_singleton.mp z] at hw
      exact .inr (List.mem_append_right _ hw)
  · refine List.nodup_append.mpr ⟨h.nd, List.nodup_cons.mpr ⟨fun z => (nomatch z), List.nodup_nil⟩, fun a ha b hb e => ?_⟩
    rw [List.mem_singleton.mp hb] at e
    rw [e] at ha
    exact hv ha
theorem LInv.done {g : Gr} {u : Nat} {seen : List Nat} (h : LInv g u [] seen) (x : Nat) : x ∈ seen ↔ RP g u x := by
  refine ⟨h.s x, ?_⟩
  rintro ⟨s, h1, h2⟩
  induction h2 with
  | refl =>
    rcases h.a s h1 with z | z
    · exact z
    · cases z
  | tail r w ih =>
    rcases h.c _ ih _ w with z | z
    · exact z
    · cases z
theorem rp_lt {g : Gr} (n : ∀ u w, w ∈ suc g u → w < g.length) {u x : Nat} (h : RP g u x) : x < g.length := by
  obtain ⟨s, h1, h2⟩ := h
  cases h2 with
  | refl => exact n _ _ h1
  | tail r w => exact n _ _ w
/-- how much is left -/
def todoL (g : Gr) (line seen : List Nat) : Nat := 5 * miss g seen + line.length
theorem todoL_old {g : Gr} {line seen : List Nat} {v : Nat} : todoL g line seen < todoL g (line ++ [v]) seen := by
  unfold todoL
  rw [List.length_append]
  simp only [List.length_cons, List.length_nil]
  omega
theorem todoL_new {g : Gr} (n : ∀ u w, w ∈ suc g u → w < g.length) (f : ∀ o, (suc g o).length ≤ 4) {line seen : List Nat} {v : Nat} (hl : v < g.length) (hv : v ∉ seen) : todoL g (line ++ suc g v) (seen ++ [v]) < todoL g (line ++ [v]) seen := by
  have z := miss_less (g := g) (r := seen) (r' := seen ++ [v]) (fun x hx => List.mem_append_left _ hx) hl hv (List.mem_append_right _ (List.mem_singleton.mpr rfl))
  have y := f v
  unfold todoL
  rw [List.length_append, List.length_append]
  simp only [List.length_cons, List.length_nil]
  omega
theorem todoL_le {g : Gr} (f : ∀ o, (suc g o).length ≤ 4) (u : Nat) : todoL g (suc g u) [] ≤ 5 * g.length + 4 := by
  have a := miss_le (g := g) []
  have b := f u
  unfold todoL
  omega
end KM

set_option Elab.async false
set_option linter.all false
set_option maxRecDepth 100000
set_option maxHeartbeats 4000000
/-! _law_leans. -/
namespace K02
open PySem PySem.Spec L2
open PyProof.Rows GenW GxR EZ TK
open LamX (ExtN)
abbrev sLeans : Stmt := top 42 -- _law_leans
abbrev nLn : List Str := ["circuit", "straight", "found", "spot", "line", "seen", "here", "gate", "source"]
abbrev scLni : Scope := { kind := .function, names := [(".0", .local), ("gate", .local)], isGenerator := false, isCoroutine := false }
theorem scLn : FnScope nLn ["circuit"] (defScope sLeans) := ⟨rfl, rfl, rfl, by decide +kernel, rfl, by decide +kernel, by decide +kernel⟩
section
variable {P : Program} {w : World} {K : PySem.W.Frag} {mg : Str → Option Value} {base : Heap}
theorem dp_nats {H : Hp} : ∀ ns : List Nat, DpAll K H (nV ns) (ns.map fun (n : Nat) => PyData.int (n : Int))
  | [] => .nil
  | _ :: r => .cons (.int _) (dp_nats r)
theorem lay_nats (ns : List Nat) : LayN 1 (.list (ns.map fun (n : Nat) => PyData.int (n : Int))) := layN_list fun d hd => by
  obtain ⟨n, _, rfl⟩ := List.mem_map.mp hd
  exact layN_leaf rfl
theorem shape_nats (ns : List Nat) : SeqAt.shaped (.list (ns.map fun (n : Nat) => PyData.int (n : Int))) = true := layN_shaped (lay_nats ns) (by decide)
theorem iteT' {c : Bool} {p q : Prop} (h : c = true) (k : p) : if c = true then p else q := by
  rw [if_pos h]
  exact k
def LeansOf (g : KM.Gr) (rows : List (List Nat)) : Prop := ∀ j r, rows[j]? = some r → r.Nodup ∧ ∀ x, x ∈ r ↔ KM.RP g j x
def spLeans : Sp := fun vs H Q _ => ∃ (y : V) (C : Circ), vs = [y] ∧ CircAt H y C ∧ C.ok ∧ ∀ L H' rows, Same H H' → H L = none → LdAt H' L rows → rows.length = C.gates.length → LeansOf (leadsC C) rows → Q (.ref L) H'
theorem ok_leans {f : Addr} {fd : FuncData} (F : Fun K "_law_leans" "_law_leans" sLeans f fd) (mrange : mg "range" = none) (mlen : mg "len" = none) (mlist : mg "list" = none) : FnOk P w K mg base CX0 1 f fd ["circuit"] spLeans := by
  refine F.ok scLn (fun vs H Q E h => ?_) (fun cdv A outer s H vs Q E hr h => ?_)
  · obtain ⟨y, C, rfl, _⟩ := h
    rfl
  · obtain ⟨y, C, rfl, hC, ok, q⟩ := h
    have hu64 := hr.units
    refine ⟨_, (pss_cons (ps_setLc (i := 1) (own := [("gate", 7)]) (g := gName 7) (tt := tYes) rfl scLn.nd rfl rfl (sw_true rfl rfl rfl (by decide +kernel)) (pi_tup (pe_ix (r := rIxT K) ix_tup (pv 0) pe_int (fun _ _ => rfl))) (blkOk_by (N := nLn) (sc := defScope sLeans) (by decide +kernel)) (fun _ _ _ _ _ => (pg_name (i := 7) scLn.nd rfl (Or.inl rfl))) (fun _ _ _ _ _ => pts_nil) (fun _ _ _ _ _ => (pe_lc (own := [("source", 8)]) (wi := iTup K (tOp (rIxT K) (tVar 7) (tC (.int 0)))) (tt := tTest (tOp rEq (tOp (rIxT K) (tVar 8) (tC (.int 0))) (tC (.str "gate")))) (te := tOp (rIxT K) (tVar 8) (tC (.int 1))) (g := gName 8) rfl scLn.nd (pi_tup (pe_ix (r := rIxT K) ix_tup (pv 7) pe_int (fun _ _ => rfl))) (blkOk_by (N := nLn) (sc := scLni) (by decide +kernel)) (fun _ _ _ _ _ => (pg_name (i := 8) scLn.nd rfl (Or.inl rfl))) (fun _ _ _ _ _ => pts_one (pt_cmpR op_eq (pe_ix (r := rIxT K) ix_tup (pv 8) pe_int (fun _ _ => rfl)) pe_str (nomark _))) (fun _ _ _ _ _ => (pe_ix (r := rIxT K) ix_tup (pv 8) pe_int (fun _ _ => rfl))))))
      (pss_cons (ps_set (i := 2) scLn.nd rfl (Or.inl rfl) (pe_lst pa_nil))
      (pss_cons (ps_for PassesOwn.never rfl (pi_range1 (by rfl) mrange (pa_cons (pe_callB call_len_seq (by rfl) mlen PySem.boot_len (pa_cons (pv 1) pa_nil)) pa_nil)) (pg_name (i := 3) scLn.nd rfl (Or.inl rfl))
        (pss_cons (ps_par (i := 4) (j := 5) rfl scLn.nd rfl rfl (by decide) rfl rfl (pa_cons (pe_callTy call_list_of (by rfl) mlist (by decide +kernel) (pa_cons (pe_ix (r := rIxL K) ix_list (pv 1) (pv 3) (fun _ _ => rfl)) pa_nil)) (pa_cons (pe_lst pa_nil) pa_nil)) (by rfl))
        (pss_cons (ps_while PassesOwn.never (pt_cmpR (op_neD hu64) (pv 4) (pe_lst pa_nil) (nomark _))
          (pss_cons (ps_set (i := 6) scLn.nd rfl (Or.inl rfl) (pe_bm0 PySem.F.plainAttrs_list PySem.F.slot_list_pop PySem.F.type_list_pop mt_pop (pv 4)))
          (pss_one (ps_if (pt_cmpR op_notIn_seq (pv 6) (pv 5) (by rfl)) (pss_cons (ps_expr (pe_bm PySem.F.plainAttrs_list PySem.F.slot_list_append PySem.F.type_list_append mt_append (pv 5) (pa_cons (pv 6) pa_nil)))
            (pss_one (ps_set (i := 4) scLn.nd rfl (Or.inl rfl) (pe_op op_cat (pv 4) (pe_ix (r := rIxL K) ix_list (pv 1) (pv 6) (fun _ _ => rfl)))))) pss_nil))))
        (pss_one (ps_expr (pe_bm PySem.F.plainAttrs_list PySem.F.slot_list_append PySem.F.type_list_append mt_append (pv 2) (pa_cons (pv 5) pa_nil)))))))
      (pss_one (ps_ret (pv 2)))))), ?_⟩
    obtain ⟨t, ra, ga, oa, rs, gs, os, rfl, et, er, eg, eo, hrs, hgs, hos⟩ := id hC
    have lg : gs.length = C.gates.length := Paired.length hgs
    have b2 := ok.ng
    refine seq_asg (read_lcK (R := NLd) (fun D H H' v x k r => r.keep k) (leadsC C) (xs := gs) (fun R' r => ⟨_, rfl, t, _, 2, .ref ga, rfl, rfl, .inl (.inl et), rfl, r _ _ (fun _ _ e => e) eg⟩) (by rw [leadsC_len]; exact lg) (by rw [leadsC_len]; omega) (fun D i x y H1 Q' hx hy s1 nD1 k => ?_) (fun L H1 ws s1 nL eL al => ?_))
    · obtain ⟨g, hg1, gt, a, b, vs, rfl, e, ea, hv, eb⟩ := all_get hgs hx
      have ey : y = g.1.filterMap gateOf := by
        unfold leadsC at hy
        rw [List.getElem?_map, hg1] at hy
        exact (Option.some.inj hy).symm
      subst ey
      have g1 := (ok.gates g (List.mem_of_getElem? hg1)).1
      have lv : vs.length = g.1.length := Paired.length hv
      refine ⟨rfl, ?_⟩
      refine ⟨_, rfl, gt, _, 0, .ref a, rfl, rfl, .inl (.inl (s1 _ _ e)), rfl, a, rfl, ⟨vs, .inl (.inl (s1 _ _ ea))⟩, fun D2 nD2 => lc_tup (xs := vs) (fun j Hx => Same H1 Hx ∧ Hx D2 = some (.lst (nV ((g.1.take j).filterMap gateOf)))) ⟨same_new nD2, upd_same⟩ (fun j Hx _ d => .inl (.inl (d.1 _ _ (s1 _ _ ea)))) (fun j x Hx hx d => ?_) (fun Hx d => ?_)⟩
      · obtain ⟨sx, eD2⟩ := d
        obtain ⟨sr, hsr, p, rfl, ep⟩ := all_get hv hx
        have hj := (List.getElem?_eq_some_iff.mp hsr).1
        have epx := sx _ _ (s1 _ _ ep)
        refine ⟨rfl, _, rfl, p, _, 0, .str sr.kind, rfl, rfl, .inl (.inl epx), rfl, rfl, _, rfl, ?_⟩
        show (if decide (V.str sr.kind = V.str "gate") = true then _ else _)
        have lt : (nV ((g.1.take j).filterMap gateOf)).length < sizeLine := by
          unfold nV
          rw [List.length_map]
          have z := List.length_filterMap_le gateOf (g.1.take j)
          rw [List.length_take] at z
          rw [sizeLine_eq]
          omega
        cases sr with
        | gate i =>
          rw [show decide (V.str (Src.gate i).kind = V.str ("gate" : Str)) = true from decide_eq_true rfl]
          refine iteT ⟨_, rfl, p, _, 1, .int (i : Int), rfl, rfl, .inl (.inl epx), rfl, _, eD2, lt, fun b o e => ?_, ?_⟩
          · rw [upd_ne (ne_of_none e nD2)]
            exact sx _ _ e
          · rw [upd_same, take_snoc hsr, List.filterMap_append]
            unfold nV
            rw [List.map_append]
            rfl
        | inp i =>
          rw [show decide (V.str (Src.inp i).kind = V.str ("gate" : Str)) = false from decide_eq_false (fun z => absurd (V.str.inj z) (show ¬ ("in" : Str) = "gate" by decide +kernel))]
          refine iteF ⟨sx, ?_⟩
          rw [take_snoc hsr, List.filterMap_append, List.filterMap_cons_none rfl, List.filterMap_nil, List.append_nil]
          exact eD2
        | reg i =>
          rw [show decide (V.str (Src.reg i).kind = V.str ("gate" : Str)) = false from decide_eq_false (fun z => absurd (V.str.inj z) (show ¬ ("reg" : Str) = "gate" by decide +kernel))]
          refine iteF ⟨sx, ?_⟩
          rw [take_snoc hsr, List.filterMap_append, List.filterMap_cons_none rfl, List.filterMap_nil, List.append_nil]
          exact eD2
        | bit i =>
          rw [show decide (V.str (Src.bit i).kind = V.str ("gate" : Str)) = false from decide_eq_false (fun z => absurd (V.str.inj z) (show ¬ ("bit" : Str) = "gate" by decide +kernel))]
          refine iteF ⟨sx, ?_⟩
          rw [take_snoc hsr, List.filterMap_append, List.filterMap_cons_none rfl, List.filterMap_nil, List.append_nil]
          exact eD2
      · obtain ⟨sx, eD2⟩ := d
        rw [lv, List.take_length] at eD2
        exact k _ _ sx ⟨D2, rfl, fun z => nD1 (by rw [← z]; exact nD2), eD2⟩
    have al' : AllAt NL H1 ws (leadsC C) := paired_imp (fun _ _ ⟨a, e, _, h⟩ => ⟨a, e, h⟩) al
    have lws : ws.length = C.gates.length := by rw [Paired.length al', leadsC_len]
    have n := leadsC_lt ok
    have f4 : ∀ o, (KM.suc (leadsC C) o).length ≤ 4 := KM.suc_four (leads_four ok)
    clear al
    -- found = []
    refine ⟨Nat.zero_le _, fun D nD => ?_⟩
    have s2 := same_new (o := .lst []) nD
    have eD2 : (L2.upd H1 D (.lst [])) D = some (.lst []) := upd_same
    have eL2 := s2 _ _ eL
    have nD0 : H D = none := s1.free nD
    have al2 : AllAt NL (L2.upd H1 D (.lst [])) ws (leadsC C) := all_ext (fun _ _ r => r.same s2) al'
    have LD : L ≠ D := fun z => by
      rw [z, nD] at eL
      cases eL
    have rowD : ∀ {a : Addr} {o : HO}, H1 a = some o → a ≠ D := fun e z => by
      rw [z, nD] at e
      cases e
    have s12 := s1.trans s2
    have al1 := al'
    generalize L2.upd H1 D (.lst []) = H2 at s2 eD2 eL2 al2 s12
    refine ⟨_, rfl, L, ws, rfl, .inl (.inl (.inl eL2)), _, rfl, by omega, by omega, ?_⟩
    rw [lws, Int.toNat_natCast]
    refine for_range (fun i σ Hx => ∃ (y3 y4 y5 y6 : Option V) (us : List V) (rows : List (List Nat)), σ = [some (.ref t), some (.ref L), some (.ref D), y3, y4, y5, y6, none, none] ∧ (∀ b o, b ≠ D → H2 b = some o → Hx b = some o) ∧ Hx D = some (.lst us) ∧ us.length = i ∧ AllAt (NLd D) Hx us rows ∧ LeansOf (leadsC C) rows)
      ⟨none, none, none, none, [], [], rfl, fun _ _ _ e => e, eD2, rfl, .nil, fun j r z => (nomatch z)⟩ (fun i σ Hx hi hh => ?_) (fun σ Hx hh => ?_)
    · obtain ⟨y3, y4, y5, y6, us, rows, rfl, kx, eDx, lus, aus, hlo⟩ := hh
      have eLx := kx _ _ LD eL2
      have hxi := List.getElem?_eq_getElem (show i < ws.length by omega)
      obtain ⟨row, hrow, ra', era, eRow⟩ := all_get al2 hxi
      have esuc : KM.suc (leadsC C) i = row := by
        unfold KM.suc
        rw [List.getD_eq_getElem?_getD, hrow]
        rfl
      have raD : ra' ≠ D := by
        obtain ⟨row', hrow', ra2, era2, eRow2⟩ := all_get al1 hxi
        rw [era] at era2
        cases era2
        exact rowD eRow2
      have eRx := kx _ _ raD eRow
      -- line, seen
      refine ⟨_, rfl, _, rfl, L, ws, ((i : Nat) : Int), .ref ra', rfl, (by show V.int (0 + (i : Int)) = _; rw [Int.zero_add]), .inl (.inl eLx), atI_nat (by rw [hxi, era]), ?_⟩
      rw [← esuc] at eRx
      refine ⟨ra', _, rfl, .inl (.inl (.inl eRx)), fun la nla => ⟨Nat.zero_le _, fun ss nss => ⟨_, _, rfl, ?_⟩⟩⟩
      have k1 := same_new (o := .lst (nV (KM.suc (leadsC C) i))) nla
      have ela : (L2.upd Hx la (.lst (nV (KM.suc (leadsC C) i)))) la = some (.lst (nV (KM.suc (leadsC C) i))) := upd_same
      generalize L2.upd Hx la (.lst (nV (KM.suc (leadsC C) i))) = Ha at k1 ela nss
      have k2 := same_new (o := .lst []) nss
      have ess : (L2.upd Ha ss (.lst [])) ss = some (.lst (nV [])) := upd_same
      have lass : la ≠ ss := fun z => by
        rw [z, nss] at ela
        cases ela
      have nssx : Hx ss = none := k1.free nss
      have ela2 := k2 _ _ ela
      have k12 := k1.trans k2
      generalize L2.upd Ha ss (.lst []) = Hb at k2 ess ela2 k12
      -- while
      refine ⟨fun m σ Hw => ∃ (y6 : Option V) (lb : Addr) (line seen : List Nat), σ = [some (.ref t), some (.ref L), some (.ref D), some (.int (0 + (i : Int))), some (.ref lb), some (.ref ss), y6, none, none] ∧ Same Hx Hw ∧ Hx lb = none ∧ lb ≠ ss ∧ Hw lb = some (.lst (nV line)) ∧ Hw ss = some (.lst (nV seen)) ∧ KM.LInv (leadsC C) i line seen ∧ KM.todoL (leadsC C) line seen = m ∧ m ≤ 5 * C.gates.length + 4,
        ⟨_, y6, la, KM.suc (leadsC C) i, [], rfl, k12, nla, lass, ela2, ess, .zero, rfl, by
          have z := KM.todoL_le (g := leadsC C) f4 i
          rw [leadsC_len] at z
          exact z⟩, fun m σ Hw hW => ?_⟩
      obtain ⟨y6', lb, line, seen, rfl, kw, nlb, lbss, elb, ess', LI, hm, m2⟩ := hW
      have lline : line.length ≤ 20004 := by
        have z : line.length ≤ KM.todoL (leadsC C) line seen := Nat.le_add_left _ _
        omega
      refine ⟨_, rfl, Nat.zero_le _, fun pe npe => ⟨.list (line.map fun (n : Nat) => PyData.int (n : Int)), .list [], .lst (.inl (.inl ((same_new npe) _ _ elb))) (dp_nats line), .lst (.inl (.inl upd_same)) .nil, shape_nats line, rfl, ?_⟩⟩
      have ke := same_new (o := .lst []) npe
      have kwe := kw.trans ke
      have elb' := ke _ _ elb
      have ess2 := ke _ _ ess'
      generalize L2.upd Hw pe (.lst []) = Hv at ke kwe elb' ess2
      refine ⟨_, rfl, ?_⟩
      rw [eqv_nilL]
      rcases List.eq_nil_or_concat line with rfl | ⟨l0, v, rfl⟩
      · refine iteF ?_
        have eDv := kwe _ _ eDx
        have Dss : D ≠ ss := fun z => by
          rw [← z, eDx] at nssx
          cases nssx
        refine ⟨_, rfl, .inl ⟨rfl, us, .inl (.inl eDv)⟩, _, rfl, D, us, _, rfl, rfl, eDv, by rw [sizeLine_eq]; omega, ?_⟩
        refine ⟨_, _, _, _, _, rows ++ [seen], rfl, fun b o nb e => ?_, upd_same, by rw [List.length_append, lus]; rfl, ?_, fun j r hr => ?_⟩
        · rw [upd_ne nb]
          exact kwe _ _ (kx _ _ nb e)
        · have kD : ∀ b o, b ≠ D → Hv b = some o → (L2.upd Hv D (.lst (us ++ [.ref ss]))) b = some o := fun b o nb e => by
            rw [upd_ne nb]
            exact e
          exact paired_snoc (all_ext (fun x r h => (h.keep fun b o _ e => kwe _ _ e).keep kD) aus) ⟨ss, rfl, fun z => Dss z.symm, kD _ _ (fun z => Dss z.symm) ess2⟩
        · have lr : rows.length = i := by rw [← Paired.length aus, lus]
          by_cases hj : j < rows.length
          · rw [List.getElem?_append_left hj] at hr
            exact hlo j r hr
          · rw [List.getElem?_append_right (by omega)] at hr
            have ej : j - rows.length = 0 := by
              have := (List.getElem?_eq_some_iff.mp hr).1
              simp only [List.length_cons, List.length_nil] at this
              omega
            rw [ej] at hr
            cases hr
            have : j = i := by omega
            subst this
            exact ⟨LI.nd, LI.done⟩
      · rw [List.concat_eq_append] at *
        refine iteT' (by simp) ⟨fun σ' H' => ∃ m', m' < m ∧ _, fun _ _ h => h, ?_⟩
        rw [← nV_snoc] at elb'
        -- here = line.pop()
        refine ⟨_, rfl, .inl ⟨rfl, _, .inl (.inl elb')⟩, lb, _, .int (v : Int), rfl, rfl, elb', by simp, ?_⟩
        rw [List.dropLast_concat]
        have vl : v < (leadsC C).length := KM.rp_lt n (LI.l v (List.mem_append_right _ (List.mem_singleton.mpr rfl)))
        have kp : Same Hx (L2.upd Hv lb (.lst (nV l0))) := fun b o e => by
          rw [upd_ne (ne_of_none e nlb)]
          exact kwe _ _ e
        have ess3 : (L2.upd Hv lb (.lst (nV l0))) ss = some (.lst (nV seen)) := by
          rw [upd_ne (fun z => lbss z.symm)]
          exact ess2
        have elb3 : (L2.upd Hv lb (.lst (nV l0))) lb = some (.lst (nV l0)) := upd_same
        generalize L2.upd Hv lb (.lst (nV l0)) = Hp at kp ess3 elb3
        have lseen : seen.length ≤ (leadsC C).length := KM.nodup_len _ _ LI.nd fun x hx => KM.rp_lt n (LI.s x hx)
        have lnV : ∀ l : List Nat, (nV l).length = l.length := fun l => by unfold nV; rw [List.length_map]
        rw [leadsC_len] at lseen
        refine ⟨_, rfl, _, rfl, ss, _, rfl, .inl (.inl (.inl ess3)), rfl, flat_nV _, _, rfl, ?_⟩
        rw [inV_nV]
        by_cases hv : v ∈ seen
        · rw [decide_eq_true hv]
          refine iteF ?_
          have td := KM.todoL_old (g := leadsC C) (line := l0) (seen := seen) (v := v)
          exact ⟨_, by rw [← hm]; exact td, _, lb, l0, seen, rfl, kp, nlb, lbss, elb3, ess3, LI.old hv, rfl, by omega⟩
        · rw [decide_eq_false hv]
          refine iteT ?_
          -- seen.append(here)
          refine ⟨_, rfl, .inl ⟨rfl, _, .inl (.inl ess3)⟩, _, rfl, ss, _, _, rfl, rfl, ess3, by rw [lnV, sizeLine_eq]; omega, ?_⟩
          rw [nV_snoc]
          have kq : Same Hx (L2.upd Hp ss (.lst (nV (seen ++ [v])))) := fun b o e => by
            rw [upd_ne (ne_of_none e nssx)]
            exact kp _ _ e
          have ess4 : (L2.upd Hp ss (.lst (nV (seen ++ [v])))) ss = some (.lst (nV (seen ++ [v]))) := upd_same
          have elb4 : (L2.upd Hp ss (.lst (nV (seen ++ [v])))) lb = some (.lst (nV l0)) := by
            rw [upd_ne lbss]
            exact elb3
          generalize L2.upd Hp ss (.lst (nV (seen ++ [v]))) = Hq at kq ess4 elb4
          -- line = line + straight[here]
          have vw : v < ws.length := by rw [lws, ← leadsC_len]; exact vl
          have hxv := List.getElem?_eq_getElem vw
          obtain ⟨rowv, hrowv, rv, erv, eRv⟩ := all_get al2 hxv
          have esv : KM.suc (leadsC C) v = rowv := by
            unfold KM.suc
            rw [List.getD_eq_getElem?_getD, hrowv]
            rfl
          have rvD : rv ≠ D := by
            obtain ⟨_, _, r2, er2, eR2⟩ := all_get al1 hxv
            rw [erv] at er2
            cases er2
            exact rowD eR2
          have eRq := kq _ _ (kx _ _ rvD eRv)
          rw [← esv] at eRq
          have fv := f4 v
          rw [List.length_append] at lline
          refine ⟨_, rfl, _, rfl, _, rfl, L, ws, (v : Int), .ref rv, rfl, rfl, .inl (.inl (kq _ _ eLx)), atI_nat (by rw [hxv, erv]), ?_⟩
          refine ⟨lb, rv, _, _, rfl, rfl, elb4, eRq, by rw [lnV, lnV, sizeLine_eq]; omega, fun p np => ?_⟩
          have td := KM.todoL_new (g := leadsC C) n f4 (line := l0) (seen := seen) vl hv
          have s5 := same_new (o := .lst (nV l0 ++ nV (KM.suc (leadsC C) v))) np
          have pss : p ≠ ss := fun z => by
            rw [z, ess4] at np
            cases np
          exact ⟨_, by rw [← hm]; exact td, _, p, l0 ++ KM.suc (leadsC C) v, seen ++ [v], rfl, kq.trans s5, kq.free np, pss, by rw [upd_same]; unfold nV; rw [List.map_append], s5 _ _ ess4, LI.new hv, rfl, by omega⟩
    · obtain ⟨y3, y4, y5, y6, us, rows, rfl, kx, eDx, lus, aus, hlo⟩ := hh
      exact ⟨_, rfl, q D Hx rows (fun b o e => kx _ _ (ne_of_none (s1 _ _ e) nD) (s12 _ _ e)) nD0 ⟨us, eDx, paired_imp (fun _ _ ⟨a, e, _, h⟩ => ⟨a, e, h⟩) aus⟩ (by rw [← Paired.length aus, lus]) hlo⟩
end
end K02

set_option Elab.async false
set_option linter.all false
set_option maxRecDepth 100000
set_option maxHeartbeats 4000000
/-! rings_told, rings_of. -/
namespace K02
open PySem PySem.Spec L2
open PyProof.Rows GenW GxR EZ TK
open LamX (ExtN)
abbrev sRTold : Stmt := top 31 -- rings_told
abbrev sROf : Stmt := top 32 -- rings_of
/-- a lot and whether it is a ring -/
def TlAt (H : Hp) (v : V) (x : List Nat × Bool) : Prop := ∃ t a, v = .ref t ∧ H t = some (.tup [.ref a, .bl x.2]) ∧ H a = some (.lst (nV x.1))
def TlD (D : Addr) (H : Hp) (v : V) (x : List Nat × Bool) : Prop := ∃ t a, v = .ref t ∧ a ≠ D ∧ H t = some (.tup [.ref a, .bl x.2]) ∧ H a = some (.lst (nV x.1))
theorem TlD.keep {D : Addr} {H H' : Hp} {v : V} {x : List Nat × Bool} (h : TlD D H v x) (k : ∀ b o, b ≠ D → H b = some o → H' b = some o) (tD : ∀ xs, H D ≠ some (.tup xs)) : TlD D H' v x := by
  obtain ⟨t, a, e, n, h1, h2⟩ := h
  exact ⟨t, a, e, n, k _ _ (fun z => tD _ (by rw [← z]; exact h1)) h1, k _ _ n h2⟩
section
variable {P : Program} {w : World} {K : PySem.W.Frag} {mg : Str → Option Value} {base : Heap}
theorem scRT : FnScope ["circuit", "leads", "told", "lot"] ["circuit"] (defScope sRTold) := ⟨rfl, rfl, rfl, by decide +kernel, rfl, by decide +kernel, by decide +kernel⟩
def toldF (g : KM.Gr) (found : List (List Nat)) : List (List Nat × Bool) := found.reverse.map fun lot => (lot, KM.ringLot g lot)
def spRTold : Sp := fun vs H Q _ => ∃ (y : V) (C : Circ), vs = [y] ∧ CircAt H y C ∧ C.ok ∧ ∀ D H' us found, Same H H' → H D = none → H' D = some (.lst us) → AllAt TlAt H' us (toldF (leadsC C) found) → KM.Knots (leadsC C) found → Q (.ref D) H'
theorem ok_rtold {f fL fK : Addr} {fd fdL fdK : FuncData} (F : Fun K "rings_told" "rings_told" sRTold f fd) (mlen : mg "len" = none) (mrev : mg "reversed" = none)
    (GL : FnOk P w K mg base CX0 1 fL fdL ["circuit"] spGLeads) (kL : PySem.W.keepIn K (.ref fL) = true) (bL : Binds K fdL ["circuit"] []) (mL : mg "gate_leads" = some (.ref fL))
    (GK : FnOk P w K mg base CX0 2 fK fdK ["leads"] spKnots) (kK : PySem.W.keepIn K (.ref fK) = true) (bK : Binds K fdK ["leads"] []) (mK : mg "knots" = some (.ref fK)) :
    FnOk P w K mg base CX0 3 f fd ["circuit"] spRTold := by
  refine F.ok scRT (fun vs H Q E h => ?_) (fun cdv A outer s H vs Q E hr h => ?_)
  · obtain ⟨y, C, rfl, _⟩ := h
    rfl
  · obtain ⟨y, C, rfl, hC, ok, q⟩ := h
    refine ⟨_, (pss_cons (ps_set (i := 1) scRT.nd rfl (Or.inl rfl) (pe_call GL (hr.mono (by decide)) (by rfl) mL kL bL .nil pass0 (pa_cons (pv 0) pa_nil)))
      (pss_cons (ps_set (i := 2) scRT.nd rfl (Or.inl rfl) (pe_lst pa_nil))
      (pss_cons (ps_for PassesOwn.never rfl (pi_reversed (by rfl) mrev (pa_cons (pe_call GK (hr.mono (by decide)) (by rfl) mK kK bK .nil pass0 (pa_cons (pv 1) pa_nil)) pa_nil)) (pg_name (i := 3) scRT.nd rfl (Or.inl rfl))
        (pss_one (ps_expr (pe_bm PySem.F.plainAttrs_list PySem.F.slot_list_append PySem.F.type_list_append mt_append (pv 2) (pa_cons (pe_tup (pa_cons (pv 3) (pa_cons (pe_or (pe_cmpR op_gt (pe_callB call_len_seq (by rfl) mlen PySem.boot_len (pa_cons (pv 3) pa_nil)) pe_int (nomark _)) (pe_one (pe_cmpR op_in_seq (pe_ix (r := rIxL K) ix_list (pv 3) pe_int (fun _ _ => rfl)) (pe_ix (r := rIxL K) ix_list (pv 1) (pe_ix (r := rIxL K) ix_list (pv 3) pe_int (fun _ _ => rfl)) (fun _ _ => rfl)) (by rfl)))) pa_nil))) pa_nil)))))
      (pss_one (ps_ret (pv 2)))))), ?_⟩
    refine ⟨_, rfl, y, C, rfl, hC, ok, fun L H1 s1 nL hL => ?_⟩
    have lg2 : (leadsC C).length ≤ 2000 := by rw [leadsC_len]; exact ok.ng
    -- told = []
    refine ⟨Nat.zero_le _, fun D nD => ?_⟩
    obtain ⟨lv, eL, alL⟩ := id hL
    have s2 := same_new (o := .lst []) nD
    have eD2 : (L2.upd H1 D (.lst [])) D = some (.lst []) := upd_same
    generalize L2.upd H1 D (.lst []) = H2 at s2 eD2
    have hL2 := hL.same s2
    refine ⟨_, rfl, L, leadsC C, rfl, hL2, leadsC_lt ok, lg2, leads_four ok, fun F' H3 found s3 nF hF Kn => ?_⟩
    have eD3 := s3 _ _ eD2
    obtain ⟨vs, eF, al⟩ := hF
    have FD : F' ≠ D := fun z => by
      rw [z, eD2] at nF
      cases nF
    have s13 := (s1.trans s2).trans s3
    have nD0 : H D = none := s1.free nD
    have lfv := Paired.length al
    refine ⟨F', vs, rfl, .inl (.inl eF), for_it walk_rev (fun i σ Hx => ∃ (y3 : Option V) (us : List V), σ = [some y, some (.ref L), some (.ref D), y3] ∧ (∀ b o, b ≠ D → H3 b = some o → Hx b = some o) ∧ Hx D = some (.lst us) ∧ us.length = i ∧ AllAt (TlD D) Hx us ((toldF (leadsC C) found).take i))
      ⟨none, [], rfl, fun _ _ _ e => e, eD3, rfl, .nil⟩ (fun i σ Hx _ hh => ?_) (fun i x σ Hx Hy hi hh hy => ?_) (fun σ Hx hh => ?_)⟩
    · obtain ⟨_, _, _, k, _⟩ := hh
      exact .inl (.inl (k _ _ FD eF))
    · obtain ⟨y3, us, rfl, kx, eDx, lus, al2⟩ := hh
      obtain ⟨rfl, hy⟩ := hy
      obtain ⟨lot, hl, a, rfl, ea⟩ := all_get al hy
      have ml := List.mem_of_getElem? hl
      obtain ⟨⟨ne, sc⟩, pw⟩ := Kn.c lot ml
      have aD : a ≠ D := fun z => by
        rw [z, eD3] at ea
        have z2 := HO.lst.inj (Option.some.inj ea)
        cases lot with
        | nil => exact ne rfl
        | cons x r => exact absurd z2 (fun z => nomatch z)
      have eax := kx _ _ aD ea
      have lnV : (nV lot).length = lot.length := by unfold nV; rw [List.length_map]
      obtain ⟨h0, r0, rfl⟩ : ∃ h0 r0, lot = h0 :: r0 := by
        cases lot with
        | nil => exact absurd rfl ne
        | cons x r => exact ⟨x, r, rfl⟩
      have s23 := s2.trans s3
      have h0l : h0 < (leadsC C).length := (sc h0 List.mem_cons_self).1
      have h0v : h0 < lv.length := by rw [Paired.length alL]; exact h0l
      obtain ⟨row, hrow, ra, era, eRow⟩ := all_get alL (List.getElem?_eq_getElem h0v)
      have eLx := kx _ _ (ne_of_none eL nD) (s23 _ _ eL)
      have eRx := kx _ _ (ne_of_none eRow nD) (s23 _ _ eRow)
      have esuc : KM.suc (leadsC C) h0 = row := by
        unfold KM.suc
        rw [List.getD_eq_getElem?_getD, hrow]
        rfl
      have hring : KM.ringLot (leadsC C) (h0 :: r0) = (decide (1 < (h0 :: r0).length) || decide (h0 ∈ row)) := by
        rw [← esuc]
        rfl
      have hg : (toldF (leadsC C) found)[i]? = some (h0 :: r0, KM.ringLot (leadsC C) (h0 :: r0)) := by
        unfold toldF
        rw [List.getElem?_map, List.getElem?_reverse (by omega), ← lfv, hl]
        rfl
      have fin : ∀ {b : Bool} {t : Addr}, KM.ringLot (leadsC C) (h0 :: r0) = b → Hy t = none → ∃ (y3 : Option V) (us' : List V), [some y, some (.ref L), some (.ref D), some (.ref a)] = [some y, some (.ref L), some (.ref D), y3] ∧ (∀ c o, c ≠ D → H3 c = some o → (L2.upd (L2.upd Hy t (.tup [.ref a, .bl b])) D (.lst (us ++ [.ref t]))) c = some o) ∧ (L2.upd (L2.upd Hy t (.tup [.ref a, .bl b])) D (.lst (us ++ [.ref t]))) D = some (.lst us') ∧ us'.length = i + 1 ∧ AllAt (TlD D) (L2.upd (L2.upd Hy t (.tup [.ref a, .bl b])) D (.lst (us ++ [.ref t]))) us' ((toldF (leadsC C) found).take (i + 1)) := fun {b t} hb nt => by
        have tD : t ≠ D := fun z => by
          rw [z, eDx] at nt
          cases nt
        have st := same_new (o := .tup [.ref a, .bl b]) nt
        refine ⟨_, _, rfl, fun c o n e => ?_, upd_same, by rw [List.length_append, lus]; rfl, ?_⟩
        · rw [upd_ne n]
          exact st _ _ (kx _ _ n e)
        · rw [take_snoc hg]
          have kD : ∀ c o, c ≠ D → Hy c = some o → (L2.upd (L2.upd Hy t (.tup [.ref a, .bl b])) D (.lst (us ++ [.ref t]))) c = some o := fun c o n e => by
            rw [upd_ne n]
            exact st _ _ e
          refine paired_snoc (all_ext (fun v x r => r.keep kD fun xs z => by
            rw [eDx] at z
            cases z) al2) ⟨t, a, rfl, aD, ?_, kD _ _ aD eax⟩
          rw [upd_ne tD, upd_same, hb]
      have lus2 : us.length < sizeLine := by
        have z := hy
        have := (List.getElem?_eq_some_iff.mp hl).1
        have nf : found.length ≤ 2000 := Nat.le_trans (knots_len Kn) lg2
        rw [sizeLine_eq]
        omega
      refine ⟨_, rfl, .inl ⟨rfl, us, .inl (.inl eDx)⟩, _, rfl, _, rfl, a, _, rfl, .inl (.inl (.inl eax)), _, _, rfl, rfl, _, rfl, ?_⟩
      rw [lnV]
      by_cases c1 : 1 < (h0 :: r0).length
      · rw [show decide ((1 : Int) < ((h0 :: r0).length : Int)) = true from decide_eq_true (by omega)]
        refine iteT ⟨(by show 2 ≤ sizeLine; decide), fun t nt => ⟨D, us, _, rfl, rfl, (same_new nt) _ _ eDx, lus2, fin ?_ nt⟩⟩
        rw [hring, decide_eq_true c1]
        rfl
      · rw [show decide ((1 : Int) < ((h0 :: r0).length : Int)) = false from decide_eq_false (by omega)]
        refine iteF ?_
        have a0 : atI (nV (h0 :: r0)) 0 = some (V.int (h0 : Int)) := atI_nat (j := 0) (xs := nV (h0 :: r0)) (v := V.int (h0 : Int)) (by rfl)
        refine ⟨_, rfl, a, _, 0, .int (h0 : Int), rfl, rfl, .inl (.inl eax), a0, ?_⟩
        refine ⟨_, rfl, _, rfl, a, _, 0, .int (h0 : Int), rfl, rfl, .inl (.inl eax), a0, ?_⟩
        refine ⟨L, lv, (h0 : Int), .ref ra, rfl, rfl, .inl (.inl eLx), atI_nat (by rw [List.getElem?_eq_getElem h0v, era]), ?_⟩
        refine ⟨ra, _, rfl, .inl (.inl (.inl eRx)), rfl, flat_nV _, ?_⟩
        refine ⟨(by show 2 ≤ sizeLine; decide), fun t nt => ⟨D, us, _, rfl, rfl, (same_new nt) _ _ eDx, lus2, fin ?_ nt⟩⟩
        rw [hring, decide_eq_false c1, inV_nV]
        rfl
    · obtain ⟨y3, us, rfl, kx, eDx, lus, al2⟩ := hh
      have ll : (toldF (leadsC C) found).length = vs.length := by
        unfold toldF
        rw [List.length_map, List.length_reverse, lfv]
      rw [List.take_of_length_le (by omega)] at al2
      exact ⟨_, rfl, q D Hx us found (fun b o e => kx _ _ (ne_of_none e nD0) (s13 _ _ e)) nD0 eDx (paired_imp (fun v x r => by
        obtain ⟨t, a, e, _, h1, h2⟩ := r
        exact ⟨t, a, e, h1, h2⟩) al2) Kn⟩
def ringsT (l : List (List Nat × Bool)) : List (List Nat) := (l.filter fun x => x.2).map fun x => x.1
theorem told_rings (g : KM.Gr) (found : List (List Nat)) : ringsT (toldF g found) = found.reverse.filter (KM.ringLot g) := by
  unfold ringsT toldF
  induction found.reverse with
  | nil => rfl
  | cons a r ih =>
    rw [List.map_cons, List.filter_cons, List.filter_cons]
    cases h : KM.ringLot g a with
    | true =>
      rw [if_pos rfl, if_pos rfl, List.map_cons, ih]
    | false =>
      rw [if_neg (fun z => nomatch z), if_neg (fun z => nomatch z), ih]
abbrev nRO : List Str := ["circuit", "lot", "is_ring"]
theorem scRO : FnScope nRO ["circuit"] (defScope sROf) := ⟨rfl, rfl, rfl, by decide +kernel, rfl, by decide +kernel, by decide +kernel⟩
def spROf (TT : List Addr) (CC : Addr) : Sp := fun vs H Q E => ∃ y, vs = [y] ∧ TabsG TT H ∧
  ((∃ d, Vw H y d ∧ CircK d ∧ circD d = false ∧ ∀ H', Ex TT H H' → E (.ref CC) none H') ∨ (∃ C, CircAt H y C ∧ C.ok ∧ ∀ p H' us lots, Ex TT H H' → H' p = some (.lst us) → AllAt TupN H' us lots → RingsTold (leadsC C) lots → Q (.ref p) H'))
theorem ok_rof {TT : List Addr} {f fC fT CC : Addr} {fd fdC fdT : FuncData} (F : Fun K "rings_of" "rings_of" sROf f fd) (mtuple : mg "tuple" = none) (msorted : mg "sorted" = none)
    (GC : FnOk P w K mg base (L2.CX P w) 9 fC fdC ["circuit"] (spCheckCD TT CC)) (kC : PySem.W.keepIn K (.ref fC) = true) (bC : Binds K fdC ["circuit"] []) (mC : mg "check_circuit" = some (.ref fC))
    (GT : FnOk P w K mg base CX0 3 fT fdT ["circuit"] spRTold) (kT : PySem.W.keepIn K (.ref fT) = true) (bT : Binds K fdT ["circuit"] []) (mT : mg "rings_told" = some (.ref fT)) :
    FnOk P w K mg base (L2.CX P w) 10 f fd ["circuit"] (spROf TT CC) := by
  refine F.okX scRO (fun vs H Q E h => ?_) (fun cdv A outer s H vs Q E hr h => ?_)
  · obtain ⟨y, rfl, _⟩ := h
    rfl
  · obtain ⟨y, rfl, hT, h⟩ := h
    refine ⟨_, (pss_cons (ps_expr (pe_callS GC hr (by rfl) mC kC bC (passAt (takes_of rfl rfl rfl rfl)) (pa_cons (pv 0) pa_nil)))
      (pss_one (ps_ret (pe_callB SN.cr_sortN (by rfl) msorted (by decide +kernel) (pa_cons (pe_lc (own := [("lot", 1), ("is_ring", 2)]) (g := gTup K 2 (gCons (gName 1) (gCons (gName 2) gNil))) rfl scRO.nd (pi_list (pe_call GT (hr.mono (by decide)) (by rfl) mT kT bT .nil pass0 (pa_cons (pv 0) pa_nil))) (blkOk_by (N := nRO) (sc := defScope sROf) (by decide +kernel)) (fun _ _ _ _ _ => (pg_tup rfl (pgs_cons (pg_name (i := 1) scRO.nd rfl (Or.inl rfl)) (pgs_cons (pg_name (i := 2) scRO.nd rfl (Or.inl rfl)) pgs_nil)))) (fun _ _ _ _ _ => pts_one (pt_val (pv 2))) (fun _ _ _ _ _ => (pe_callTy (T := "tuple") (r := rTupOf K) call_tuple_of (by rfl) mtuple (by decide +kernel) (pa_cons (pv 1) pa_nil)))) pa_nil))))), ?_⟩
    refine ⟨_, rfl, ?_⟩
    dsimp only [tNil]
    rcases h with ⟨d, hv, hk, hb, e⟩ | ⟨C, hC, ok, q⟩
    · exact ⟨y, d, rfl, hv, hk, hT, fun H' x => ⟨fun z => (nomatch hb.symm.trans z), fun _ => e H' x⟩⟩
    · obtain ⟨d, hv, hk, hb⟩ := circ_vw hC ok
      refine ⟨y, d, rfl, hv, hk, hT, fun H' x => ⟨fun _ => ?_, fun z => (nomatch hb.symm.trans z)⟩⟩
      refine ⟨_, rfl, y, C, rfl, hC.ext (x.extN hT), ok, fun L H2 us found s2 nL eL al Kn => ?_⟩
      refine ⟨L, rfl, ⟨us, .inl (.inl eL)⟩, fun D nD => ?_⟩
      have lu := Paired.length al
      have ltd : (toldF (leadsC C) found).length = found.length := by
        unfold toldF
        rw [List.length_map, List.length_reverse]
      have lf : found.length ≤ 2000 := by
        have z := knots_len Kn
        rw [leadsC_len] at z
        have := ok.ng
        omega
      refine lc_list (xs := us) (fun j Hx => Same H2 Hx ∧ ∃ ws, Hx D = some (.lst ws) ∧ ws.length ≤ j ∧ AllAt TupN Hx ws (ringsT ((toldF (leadsC C) found).take j))) ⟨same_new nD, [], upd_same, Nat.zero_le _, .nil⟩ (fun j Hx _ z => .inl (.inl (z.1 _ _ eL))) (fun j x Hx hx z => ?_) (fun Hx z => ?_)
      · obtain ⟨s3, ws, eD, lw, aw⟩ := z
        obtain ⟨tl, ht, t, a, rfl, e1, e2⟩ := all_get al hx
        have hj := (List.getElem?_eq_some_iff.mp hx).1
        have step : ringsT ((toldF (leadsC C) found).take (j + 1)) = ringsT ((toldF (leadsC C) found).take j) ++ (if tl.2 = true then [tl.1] else []) := by
          rw [take_snoc ht]
          unfold ringsT
          rw [List.filter_append, List.map_append, List.filter_cons]
          cases tl.2 <;> rfl
        refine ⟨t, _, rfl, .inl (.inl (s3 _ _ e1)), rfl, _, _, rfl, _, _, rfl, rfl, rfl, _, rfl, _, rfl, ?_⟩
        cases hb : tl.2 with
        | false =>
          refine iteF ⟨s3, ws, eD, by omega, ?_⟩
          rw [step, hb, if_neg (by decide), List.append_nil]
          exact aw
        | true =>
          refine iteT ⟨_, rfl, a, _, rfl, .inl ⟨.inl (.inl (s3 _ _ e2)), fun p np => ?_⟩⟩
          have s4 := same_new (o := .tup (nV tl.1)) np
          have eD4 := s4 _ _ eD
          have tu : TupKeep (L2.upd Hx p (.tup (nV tl.1))) (L2.upd (L2.upd Hx p (.tup (nV tl.1))) D (.lst (ws ++ [.ref p]))) := TupKeep.upd eD4 fun xs z => by cases z
          refine ⟨ws, eD4, by rw [sizeLine_eq]; omega, fun b o e => ?_, _, upd_same, by rw [List.length_append]; simp only [List.length_cons, List.length_nil]; omega, ?_⟩
          · rw [upd_ne (ne_of_none e nD)]
            exact s4 _ _ (s3 _ _ e)
          · rw [step, hb, if_pos rfl]
            exact paired_snoc (all_ext (fun v x r => r.keep ((TupKeep.of s4).trans tu)) aw) ⟨p, rfl, tu _ _ upd_same⟩
      · obtain ⟨s3, ws, eD, lw, aw⟩ := z
        rw [List.take_of_length_le (by omega)] at aw
        rw [told_rings] at aw
        have RL := (knots_rings (leadsC_lt ok) Kn).of_perm ((List.reverse_perm found).filter (KM.ringLot (leadsC C)))
        dsimp only [tNil]
        refine sortN_to eD aw (fun lot hl => (RL.c lot hl).1) fun p H4 ys ms s4 np e4 a4 pm so => ?_
        exact q p H4 ys ms (x.trans (Ex.same (s2.trans (s3.trans s4)))) e4 a4 ⟨RL.of_perm pm, so⟩
end
end K02

set_option Elab.async false
set_option linter.all false
set_option maxRecDepth 100000
set_option maxHeartbeats 4000000
/-! _law_rings. -/
namespace K02
open PySem PySem.Spec L2
open PyProof.Rows GenW GxR EZ TK
open LamX (ExtN)
abbrev sLRings : Stmt := top 43 -- _law_rings
abbrev nLR : List Str := ["circuit", "leans", "found", "spot", "seen", "lot", "other"]
theorem scLR : FnScope nLR ["circuit"] (defScope sLRings) := ⟨rfl, rfl, rfl, by decide +kernel, rfl, by decide +kernel, by decide +kernel⟩
theorem units65 {k : Nat} {A : Around} (r : Room k A) : A.units + 65 < cLine := by
  have := r.un
  omega
/-- the nodes that v leads to and that lead to v -/
def lotL (rows : List (List Nat)) (n v : Nat) : List Nat := (List.range n).filter fun o => decide (o ∈ rows.getD v []) && decide (v ∈ rows.getD o [])
theorem leans_mem {g : KM.Gr} {rows : List (List Nat)} (L : LeansOf g rows) {v x : Nat} (hv : v < rows.length) : x ∈ rows.getD v [] ↔ KM.RP g v x := by
  have e := List.getElem?_eq_getElem hv
  rw [List.getD_eq_getElem?_getD, e]
  exact (L v _ e).2 x
theorem lotL_mem {g : KM.Gr} (n : ∀ u w, w ∈ KM.suc g u → w < g.length) {rows : List (List Nat)} (L : LeansOf g rows) (l : rows.length = g.length) {v : Nat} (hv : v < g.length) (hr : KM.OnRing g v) (w : Nat) : w ∈ lotL rows g.length v ↔ KM.Reach g v w ∧ KM.Reach g w v := by
  unfold lotL
  rw [List.mem_filter, List.mem_range, Bool.and_eq_true, decide_eq_true_eq, decide_eq_true_eq, leans_mem L (by omega)]
  constructor
  · rintro ⟨hw, ⟨s, h1, h2⟩, h3⟩
    rw [leans_mem L (by omega)] at h3
    obtain ⟨s', h4, h5⟩ := h3
    exact ⟨.head h1 h2, .head h4 h5⟩
  · rintro ⟨h1, h2⟩
    have hw := KM.reach_lt n h1 hv
    have on : KM.OnRing g w := by
      by_cases e : w = v
      · rw [e]
        exact hr
      · obtain ⟨x, a, b⟩ := h2.first e
        exact ⟨x, a, b.trans h1⟩
    rw [leans_mem L (by omega)]
    refine ⟨hw, ?_, ?_⟩
    · obtain ⟨s, a, b⟩ := hr
      exact ⟨s, a, b.trans h1⟩
    · obtain ⟨s, a, b⟩ := on
      exact ⟨s, a, b.trans h2⟩
structure FInv (g : KM.Gr) (rows : List (List Nat)) (i : Nat) (found : List (List Nat)) : Prop where
  c : ∀ lot ∈ found, ∃ v, v < g.length ∧ KM.OnRing g v ∧ lot = lotL rows g.length v
  d : found.Nodup
  a : ∀ v, v < i → KM.OnRing g v → lotL rows g.length v ∈ found
theorem FInv.skip {g : KM.Gr} {rows : List (List Nat)} {i : Nat} {found : List (List Nat)} (F : FInv g rows i found) (h : KM.OnRing g i → lotL rows g.length i ∈ found) : FInv g rows (i + 1) found :=
  ⟨F.c, F.d, fun v hv r => by
    by_cases e : v = i
    · rw [e] at r ⊢
      exact h r
    · exact F.a v (by omega) r⟩
theorem FInv.add {g : KM.Gr} {rows : List (List Nat)} {i : Nat} {found : List (List Nat)} (F : FInv g rows i found) (hi : i < g.length) (r : KM.OnRing g i) (h : lotL rows g.length i ∉ found) : FInv g rows (i + 1) (found ++ [lotL rows g.length i]) := by
  refine ⟨fun lot hl => ?_, List.nodup_append.mpr ⟨F.d, List.nodup_cons.mpr ⟨fun z => (nomatch z), List.nodup_nil⟩, fun a ha b hb e => ?_⟩, fun v hv rv => ?_⟩
  · rcases List.mem_append.mp hl with z | z
    · exact F.c lot z
    · exact ⟨i, hi, r, List.mem_singleton.mp z⟩
  · rw [List.mem_singleton.mp hb] at e
    rw [e] at ha
    exact h ha
  · by_cases e : v = i
    · rw [e]
      exact List.mem_append_right _ (List.mem_singleton.mpr rfl)
    · exact List.mem_append_left _ (F.a v (by omega) rv)
theorem FInv.len {g : KM.Gr} {rows : List (List Nat)} {i : Nat} {found : List (List Nat)} (n : ∀ u w, w ∈ KM.suc g u → w < g.length) (L : LeansOf g rows) (l : rows.length = g.length) (F : FInv g rows i found) : RingLots g found ↔ RingLots g found := Iff.rfl
theorem FInv.done {g : KM.Gr} {rows : List (List Nat)} {found : List (List Nat)} (n : ∀ u w, w ∈ KM.suc g u → w < g.length) (L : LeansOf g rows) (l : rows.length = g.length) (F : FInv g rows g.length found) : RingLots g found := by
  refine ⟨fun lot hl => ?_, F.d, fun v hv r => ⟨_, F.a v hv r, (lotL_mem n L l hv r v).mpr ⟨.refl _, .refl _⟩⟩⟩
  obtain ⟨v, hv, r, rfl⟩ := F.c lot hl
  have m := lotL_mem n L l hv r
  refine ⟨fun z => ?_, (List.pairwise_lt_range).filter _, fun u hu => ?_⟩
  · have := (m v).mpr ⟨.refl _, .refl _⟩
    rw [z] at this
    cases this
  · obtain ⟨a, b⟩ := (m u).mp hu
    refine ⟨KM.reach_lt n a hv, ?_, fun w => (m w).trans ⟨fun z => ⟨b.trans z.1, z.2.trans a⟩, fun z => ⟨a.trans z.1, z.2.trans b⟩⟩⟩
    by_cases e : u = v
    · rw [e]
      exact r
    · obtain ⟨x, h1, h2⟩ := b.first e
      exact ⟨x, h1, h2.trans a⟩
theorem found_len {g : KM.Gr} {rows : List (List Nat)} {i : Nat} {found : List (List Nat)} (F : FInv g rows i found) : found.length ≤ g.length := by
  have sub : ∀ {A B : List (List Nat)}, A.Nodup → (∀ x ∈ A, x ∈ B) → A.length ≤ B.length := fun {A} => by
    induction A with
    | nil => exact fun _ _ => Nat.zero_le _
    | cons x A ih =>
      intro B nd h
      obtain ⟨n1, n2⟩ := List.nodup_cons.mp nd
      obtain ⟨B1, B2, e⟩ := List.append_of_mem (h x List.mem_cons_self)
      subst e
      have z := ih (B := B1 ++ B2) n2 fun y hy => by
        rcases List.mem_append.mp (h y (List.mem_cons_of_mem _ hy)) with q | q
        · exact List.mem_append_left _ q
        · rcases List.mem_cons.mp q with q | q
          · subst q
            exact absurd hy n1
          · exact List.mem_append_right _ q
      rw [List.length_append] at z ⊢
      simp only [List.length_cons] at z ⊢
      omega
  have z := sub (B := (List.range g.length).map (lotL rows g.length)) F.d fun x hx => by
    obtain ⟨v, hv, _, e⟩ := F.c x hx
    exact List.mem_map.mpr ⟨v, List.mem_range.mpr hv, e.symm⟩
  rwa [List.length_map, List.length_range] at z
/-! ### a tuple of numbers in a list of such -/
def natsT (ns : List Nat) : PyData := .tuple (ns.map fun (n : Nat) => PyData.int (n : Int))
theorem eqv_nats : ∀ a b : List Nat, PyData.eqvAll (a.map fun (n : Nat) => PyData.int (n : Int)) (b.map fun (n : Nat) => PyData.int (n : Int)) = decide (a = b)
  | [], [] => rfl
  | [], _ :: _ => rfl
  | _ :: _, [] => rfl
  | x :: a, y :: b => by
    rw [List.map_cons, List.map_cons, PyData.eqvAll, eqv_nats a b]
    have : PyData.eqv (.int (x : Int)) (.int (y : Int)) = decide (x = y) := by
      rw [PyData.eqv, Bool.eq_iff_iff]
      simp
      omega
    rw [this, Bool.eq_iff_iff]
    simp
theorem eqv_natsT (a b : List Nat) : PyData.eqv (natsT a) (natsT b) = decide (a = b) := by
  unfold natsT
  rw [PyData.eqv]
  exact eqv_nats a b
theorem any_nats (ls : List (List Nat)) (b : List Nat) : (ls.map natsT).any (fun z => PyData.eqv z (natsT b)) = decide (b ∈ ls) := by
  rw [List.any_map, Bool.eq_iff_iff, List.any_eq_true, decide_eq_true_iff]
  constructor
  · rintro ⟨x, hx, e⟩
    have e : PyData.eqv (natsT x) (natsT b) = true := e
    rw [eqv_natsT, decide_eq_true_iff] at e
    rw [← e]
    exact hx
  · intro h
    exact ⟨b, h, by show PyData.eqv (natsT b) (natsT b) = true; rw [eqv_natsT]; exact decide_eq_true rfl⟩
theorem lay_natsT (ns : List Nat) : LayN 1 (natsT ns) := layN_tuple fun d hd => by
  obtain ⟨n, _, rfl⟩ := List.mem_map.mp hd
  exact layN_leaf rfl
theorem shape_natsL (ls : List (List Nat)) : SeqAt.shaped (.list (ls.map natsT)) = true := layN_shaped (layN_list fun d hd => by
  obtain ⟨n, _, rfl⟩ := List.mem_map.mp hd
  exact lay_natsT n) (by decide)
theorem dp_natsT {K : PySem.W.Frag} {H : Hp} {v : V} {ns : List Nat} (h : TupN H v ns) : Dp K H v (natsT ns) := by
  obtain ⟨t, rfl, e⟩ := h
  exact .tup (.inl (.inl e)) (dp_nats ns)
theorem dp_natsL {K : PySem.W.Frag} {H : Hp} {us : List V} {ls : List (List Nat)} (h : AllAt TupN H us ls) : DpAll K H us (ls.map natsT) := dp_all (fun _ _ r => dp_natsT r) h
section
variable {P : Program} {w : World} {K : PySem.W.Frag} {mg : Str → Option Value} {base : Heap}
def spLRings : Sp := fun vs H Q _ => ∃ (y : V) (C : Circ), vs = [y] ∧ CircAt H y C ∧ C.ok ∧ ∀ p H' us lots, Same H H' → H p = none → H' p = some (.lst us) → AllAt TupN H' us lots → RingsTold (leadsC C) lots → Q (.ref p) H'
theorem ok_lrings {f fL : Addr} {fd fdL : FuncData} (F : Fun K "_law_rings" "_law_rings" sLRings f fd) (mrange : mg "range" = none) (mlen : mg "len" = none) (mtuple : mg "tuple" = none) (men : mg "enumerate" = none) (msorted : mg "sorted" = none)
    (GL : FnOk P w K mg base CX0 1 fL fdL ["circuit"] spLeans) (kL : PySem.W.keepIn K (.ref fL) = true) (bL : Binds K fdL ["circuit"] []) (mL : mg "_law_leans" = some (.ref fL)) : FnOk P w K mg base CX0 2 f fd ["circuit"] spLRings := by
  refine F.ok scLR (fun vs H Q E h => ?_) (fun cdv A outer s H vs Q E hr h => ?_)
  · obtain ⟨y, C, rfl, _⟩ := h
    rfl
  · obtain ⟨y, C, rfl, hC, ok, q⟩ := h
    have hu65 := units65 hr
    refine ⟨_, (pss_cons (ps_asg (pe_tup (pa_cons (pe_call GL (hr.mono (by decide)) (by rfl) mL kL bL .nil pass0 (pa_cons (pv 0) pa_nil)) (pa_cons (pe_lst pa_nil) pa_nil))) (pg_tup rfl (pgs_cons (pg_name (i := 1) scLR.nd rfl (Or.inr rfl)) (pgs_cons (pg_name (i := 2) scLR.nd rfl (Or.inl rfl)) pgs_nil))))
      (pss_cons (ps_for PassesOwn.never rfl (pi_enum (by rfl) men (pa_cons (pv 1) pa_nil)) (pg_tup rfl (pgs_cons (pg_name (i := 3) scLR.nd rfl (Or.inr rfl)) (pgs_cons (pg_name (i := 4) scLR.nd rfl (Or.inr rfl)) pgs_nil)))
        (pss_one (ps_if (pt_cmpR op_in_seq (pv 3) (pv 4) (by rfl)) (pss_cons (ps_set (i := 5) scLR.nd rfl (Or.inl rfl) (pe_callTy call_tuple_of (by rfl) mtuple (by decide +kernel) (pa_cons (pe_lc (own := [("other", 6)]) (g := gName 6) rfl scLR.nd (pi_range1 (by rfl) mrange (pa_cons (pe_callB (r := rLenS K) call_len_seq (by rfl) mlen PySem.boot_len (pa_cons (pv 1) pa_nil)) pa_nil)) (blkOk_by (N := nLR) (sc := defScope sLRings) (by decide +kernel)) (fun _ _ _ _ _ => (pg_name (i := 6) scLR.nd rfl (Or.inl rfl))) (fun _ _ _ _ _ => pts_one (pw_and (pt_cmpR (r := rIn K false) op_in_seq (pv 6) (pv 4) (by rfl)) (pw_and1 (pt_cmpR (r := rIn K false) op_in_seq (pv 3) (pe_ix (r := rIxL K) ix_list (pv 1) (pv 6) (fun _ _ => rfl)) (by rfl)))).pt) (fun _ _ _ _ _ => (pv 6))) pa_nil)))
          (pss_one (ps_if (pt_cmpR (op_notInD hu65) (pv 5) (pv 2) (by rfl)) (pss_one (ps_expr (pe_bm PySem.F.plainAttrs_list PySem.F.slot_list_append PySem.F.type_list_append mt_append (pv 2) (pa_cons (pv 5) pa_nil)))) pss_nil))) pss_nil)))
      (pss_one (ps_ret (pe_callB SN.cr_sortN (by rfl) msorted (by decide +kernel) (pa_cons (pv 2) pa_nil)))))), ?_⟩
    refine ⟨_, rfl, y, C, rfl, hC, ok, fun L H1 rows s1 nL hL lr LO => ?_⟩
    have n := leadsC_lt ok
    have b2 := ok.ng
    have lg : rows.length = (leadsC C).length := by rw [leadsC_len]; exact lr
    obtain ⟨us, eL, al⟩ := hL
    have lus : us.length = C.gates.length := by rw [Paired.length al, lr]
    -- found = []
    refine ⟨Nat.zero_le _, fun D nD => ⟨(by show 2 ≤ sizeLine; decide), fun T nT => ?_⟩⟩
    have s2 := same_new (o := .lst []) nD
    have eD2 : (L2.upd H1 D (.lst [])) D = some (.lst []) := upd_same
    have nD0 : H D = none := s1.free nD
    generalize hH2 : L2.upd H1 D (.lst []) = H2 at s2 eD2 nT
    have s3 := same_new (o := .tup [.ref L, .ref D]) nT
    have eT3 : (L2.upd H2 T (.tup [.ref L, .ref D])) T = some (.tup [.ref L, .ref D]) := upd_same
    have eD3 := s3 _ _ eD2
    generalize L2.upd H2 T (.tup [.ref L, .ref D]) = H3 at s3 eT3 eD3
    refine ⟨T, _, rfl, .inl (.inl eT3), rfl, _, _, rfl, _, _, rfl, rfl, ?_⟩
    have s23 := s2.trans s3
    have s13 := s1.trans s23
    have eL3 := s23 _ _ eL
    have LD : L ≠ D := ne_of_none eL nD
    have al3 : AllAt NL H3 us rows := all_ext (fun _ _ r => r.same s23) al
    have rowD : ∀ {a : Addr} {o : HO}, H1 a = some o → a ≠ D := fun e => ne_of_none e nD
    refine ⟨_, rfl, L, us, rfl, .inl (.inl eL3), for_it (walk_enum (xs := us)) (fun i σ Hx => ∃ (y3 y4 y5 : Option V) (ws : List V) (found : List (List Nat)), σ = [some y, some (.ref L), some (.ref D), y3, y4, y5, none] ∧ (∀ b o, b ≠ D → H3 b = some o → Hx b = some o) ∧ Hx D = some (.lst ws) ∧ AllAt TupN Hx ws found ∧ FInv (leadsC C) rows i found)
      ⟨none, none, none, [], [], rfl, fun _ _ _ e => e, eD3, .nil, ⟨fun l z => (nomatch z), List.nodup_nil, fun v z => absurd z (Nat.not_lt_zero _)⟩⟩ (fun i σ Hx _ hh => ?_) (fun i x σ Hx Hy hi hh hy => ?_) (fun σ Hx hh => ?_)⟩
    · obtain ⟨_, _, _, _, _, _, k, _⟩ := hh
      exact .inl (.inl (k _ _ LD eL3))
    · obtain ⟨y3, y4, y5, ws, found, rfl, kx, eDx, aws, FI⟩ := hh
      obtain ⟨T1, x1, y1, rfl, nT1, rfl, hx, hy⟩ := hy
      cases hx
      have hy : us[i]? = some y1 := hy
      obtain ⟨row, hrow, a, rfl, ea⟩ := all_get al3 hy
      have ea1 : H1 a = some (.lst (nV row)) := by
        obtain ⟨row', hrow', a', e', ea'⟩ := all_get al hy
        cases e'
        rw [hrow] at hrow'
        cases hrow'
        exact ea'
      have erow : rows.getD i [] = row := by
        rw [List.getD_eq_getElem?_getD, hrow]
        rfl
      have ir : i < rows.length := (List.getElem?_eq_some_iff.mp hrow).1
      have il : i < (leadsC C).length := by omega
      have s4 := same_new (o := .tup [.int (i : Nat), .ref a]) nT1
      have eT1 : (L2.upd Hx T1 (.tup [.int (i : Nat), .ref a])) T1 = some (.tup [.int (i : Nat), .ref a]) := upd_same
      have eD4 := s4 _ _ eDx
      have aw4 : AllAt TupN (L2.upd Hx T1 (.tup [.int (i : Nat), .ref a])) ws found := all_ext (fun _ _ r => r.keep (.of s4)) aws
      have k4 : ∀ b o, b ≠ D → H3 b = some o → (L2.upd Hx T1 (.tup [.int (i : Nat), .ref a])) b = some o := fun b o nb e => s4 _ _ (kx _ _ nb e)
      generalize L2.upd Hx T1 (.tup [.int (i : Nat), .ref a]) = H4 at eT1 eD4 aw4 k4
      refine ⟨T1, _, rfl, .inl (.inl eT1), rfl, _, _, rfl, _, _, rfl, rfl, ?_⟩
      have ea4 := k4 _ _ (rowD ea1) ea
      refine ⟨_, rfl, _, rfl, a, _, rfl, .inl (.inl (.inl ea4)), rfl, flat_nV _, _, rfl, ?_⟩
      rw [show inV (.int ((i : Nat) : Int)) (nV row) = decide (i ∈ row) from inV_nV i row]
      have ring : i ∈ row ↔ KM.OnRing (leadsC C) i := by
        rw [← erow, leans_mem LO ir]
        exact Iff.rfl
      by_cases hr : i ∈ row
      · rw [decide_eq_true hr]
        refine iteT ?_
        have on := ring.mp hr
        have eL4 := k4 _ _ LD eL3
        refine ⟨_, rfl, L, us, rfl, .inl (.inl (.inl eL4)), (us.length : Int), rfl, by omega, by omega, fun D2 nD2 => ?_⟩
        rw [Int.toNat_natCast]
        refine lc_range (fun j Hz => Same H4 Hz ∧ Hz D2 = some (.lst (nV ((List.range j).filter fun o => decide (o ∈ rows.getD i []) && decide (i ∈ rows.getD o []))))) ⟨same_new nD2, upd_same⟩ (fun j Hz hj z => ?_) (fun Hz z => ?_)
        · obtain ⟨sz, eD2z⟩ := z
          have hxj := List.getElem?_eq_getElem (show j < us.length by omega)
          obtain ⟨rowj, hrowj, aj, eaj, eRj⟩ := all_get al3 hxj
          have eRj1 : H1 aj = some (.lst (nV rowj)) := by
            obtain ⟨row', hrow', a', e', ea'⟩ := all_get al hxj
            rw [eaj] at e'
            cases e'
            rw [hrowj] at hrow'
            cases hrow'
            exact ea'
          have erowj : rows.getD j [] = rowj := by
            rw [List.getD_eq_getElem?_getD, hrowj]
            rfl
          have step : ∀ {b : Bool}, (decide (j ∈ rows.getD i []) && decide (i ∈ rows.getD j [])) = b → (List.range (j + 1)).filter (fun o => decide (o ∈ rows.getD i []) && decide (i ∈ rows.getD o [])) = (List.range j).filter (fun o => decide (o ∈ rows.getD i []) && decide (i ∈ rows.getD o [])) ++ (if b = true then [j] else []) := fun {b} hb => by
            rw [List.range_succ, List.filter_append, List.filter_cons, hb, List.filter_nil]
          refine ⟨rfl, _, rfl, _, rfl, a, _, rfl, .inl (.inl (.inl (sz _ _ ea4))), rfl, flat_nV _, _, rfl, ?_⟩
          rw [show inV (.int (0 + (j : Int))) (nV row) = decide (j ∈ rows.getD i []) from by rw [erow, Int.zero_add]; exact inV_nV j row]
          by_cases c1 : j ∈ rows.getD i []
          · rw [decide_eq_true c1]
            refine iteT ?_
            refine ⟨_, rfl, _, rfl, _, rfl, L, us, (j : Int), .ref aj, rfl, (by show V.int (0 + (j : Int)) = _; rw [Int.zero_add]), .inl (.inl (sz _ _ eL4)), atI_nat (by rw [hxj, eaj]), ?_⟩
            refine ⟨aj, _, rfl, .inl (.inl (.inl (sz _ _ (k4 _ _ (rowD eRj1) eRj)))), rfl, flat_nV _, _, rfl, ?_⟩
            rw [show inV (.int ((i : Nat) : Int)) (nV rowj) = decide (i ∈ rows.getD j []) from by rw [erowj]; exact inV_nV i rowj]
            by_cases c2 : i ∈ rows.getD j []
            · rw [decide_eq_true c2]
              refine iteT ⟨_, rfl, _, eD2z, ?_, fun b o e => ?_, ?_⟩
              · have z := List.length_filter_le (fun o => decide (o ∈ rows.getD i []) && decide (i ∈ rows.getD o [])) (List.range j)
                rw [List.length_range] at z
                unfold nV
                rw [List.length_map, sizeLine_eq]
                omega
              · rw [upd_ne (ne_of_none e nD2)]
                exact sz _ _ e
              · rw [upd_same, step (b := true) (by rw [decide_eq_true c1, decide_eq_true c2]; rfl), if_pos rfl, Int.zero_add, nV_snoc]
            · rw [decide_eq_false c2]
              refine iteF ⟨sz, ?_⟩
              rw [step (b := false) (by rw [decide_eq_true c1, decide_eq_false c2]; rfl), if_neg (fun z => nomatch z), List.append_nil]
              exact eD2z
          · rw [decide_eq_false c1]
            refine iteF ?_
            refine iteF ⟨sz, ?_⟩
            rw [step (b := false) (by rw [decide_eq_false c1]; rfl), if_neg (fun z => nomatch z), List.append_nil]
            exact eD2z
        obtain ⟨sz, eD2z⟩ := z
        rw [show (List.range us.length).filter (fun o => decide (o ∈ rows.getD i []) && decide (i ∈ rows.getD o [])) = lotL rows (leadsC C).length i from by unfold lotL; rw [lus, leadsC_len]] at eD2z
        refine ⟨D2, _, rfl, .inl ⟨.inl (.inl eD2z), fun p np => ?_⟩⟩
        have s6 := sz.trans (same_new (o := .tup (nV (lotL rows (leadsC C).length i))) np)
        have ep : (L2.upd Hz p (.tup (nV (lotL rows (leadsC C).length i)))) p = some (.tup (nV (lotL rows (leadsC C).length i))) := upd_same
        generalize L2.upd Hz p (.tup (nV (lotL rows (leadsC C).length i))) = H6 at s6 ep
        have aw6 : AllAt TupN H6 ws found := all_ext (fun _ _ r => r.keep (.of s6)) aw4
        have eD6 := s6 _ _ eD4
        have k6 : ∀ b o, b ≠ D → H3 b = some o → H6 b = some o := fun b o nb e => s6 _ _ (k4 b o nb e)
        have lf := found_len FI
        have lws := Paired.length aw6
        rw [leadsC_len] at lf
        refine ⟨_, rfl, _, rfl, natsT (lotL rows (leadsC C).length i), found.map natsT, dp_natsT ⟨p, rfl, ep⟩, .lst (.inl (.inl eD6)) (dp_natsL aw6), layN_shaped (lay_natsT _) (by decide), shape_natsL _, _, rfl, ?_⟩
        rw [any_nats]
        by_cases c : lotL rows (leadsC C).length i ∈ found
        · rw [decide_eq_true c]
          refine iteF ?_
          exact ⟨_, _, _, ws, found, rfl, k6, eD6, aw6, FI.skip fun _ => c⟩
        · rw [decide_eq_false c]
          refine iteT ?_
          refine ⟨_, rfl, .inl ⟨rfl, ws, .inl (.inl eD6)⟩, _, rfl, D, ws, _, rfl, rfl, eD6, by rw [sizeLine_eq]; omega, ?_⟩
          have tu : TupKeep H6 (L2.upd H6 D (.lst (ws ++ [.ref p]))) := TupKeep.upd eD6 fun xs z => by cases z
          exact ⟨_, _, _, ws ++ [.ref p], _, rfl, fun b o nb e => by rw [upd_ne nb]; exact k6 b o nb e, upd_same, paired_snoc (all_ext (fun _ _ r => r.keep tu) aw6) ⟨p, rfl, tu _ _ ep⟩, FI.add il on c⟩
      · rw [decide_eq_false hr]
        refine iteF ?_
        exact ⟨_, _, _, ws, found, rfl, k4, eD4, aw4, FI.skip fun z => absurd (ring.mpr z) hr⟩
    · obtain ⟨y3, y4, y5, ws, found, rfl, kx, eDx, aws, FI⟩ := hh
      rw [lus, ← leadsC_len] at FI
      have RL := FI.done n LO lg
      refine ⟨_, rfl, ?_⟩
      dsimp only [tNil]
      refine sortN_to eDx aws (fun lot hl => (RL.c lot hl).1) fun p H5 ys ms s5 np e5 a5 pm so => ?_
      have sx : Same H Hx := fun b o e => kx _ _ (ne_of_none e nD0) (s13 _ _ e)
      exact q p H5 ys ms (sx.trans s5) (sx.free np) e5 a5 ⟨RL.of_perm pm, so⟩
end
end K02

set_option Elab.async false
set_option linter.all false
set_option maxRecDepth 100000
set_option maxHeartbeats 4000000
/-! Nodes put down one after the other: all of them exactly if there is no ring. -/
namespace KM
/-- a node of each of which something leads on within them is on a ring, or leads to one -/
theorem ring_of {g : Gr} (n : ∀ u w, w ∈ suc g u → w < g.length) {S : Nat → Prop} (h : ∀ v, S v → ∃ w ∈ suc g v, S w) : ∀ (k : Nat) (v : Nat), S v → (∀ ws : List Nat, ws.Nodup → (∀ x ∈ ws, RP g v x) → ws.length ≤ k) → ∃ x, OnRing g x
  | 0, v, hv, hk => by
    obtain ⟨w, hw, _⟩ := h v hv
    have z := hk [w] (by simp) fun x hx => by
      rw [List.mem_singleton.mp hx]
      exact ⟨w, hw, .refl _⟩
    simp at z
  | k + 1, v, hv, hk => by
    obtain ⟨w, hw, sw⟩ := h v hv
    by_cases on : OnRing g w
    · exact ⟨w, on⟩
    · refine ring_of n h k w sw fun ws nd hws => ?_
      have z := hk (w :: ws) (List.nodup_cons.mpr ⟨fun m => on (hws w m), nd⟩) fun x hx => by
        rcases List.mem_cons.mp hx with e | e
        · rw [e]
          exact ⟨w, hw, .refl _⟩
        · obtain ⟨s, a, b⟩ := hws x e
          exact ⟨w, hw, .head a b⟩
      simp only [List.length_cons] at z
      omega
structure DInvD (g : Gr) (P left : List Nat) : Prop where
  m : ∀ x, x ∈ left ↔ x < g.length ∧ x ∉ P
  c : ∀ v ∈ P, v < g.length ∧ (∀ w ∈ suc g v, w ∈ P) ∧ ¬ OnRing g v
  nl : left.Nodup
  np : P.Nodup
def freeL (g : Gr) (P left : List Nat) : List Nat := left.filter fun v => (suc g v).all fun w => decide (w ∈ P)
theorem free_mem {g : Gr} {P left : List Nat} {v : Nat} : v ∈ freeL g P left ↔ v ∈ left ∧ ∀ w ∈ suc g v, w ∈ P := by
  unfold freeL
  rw [List.mem_filter, List.all_eq_true]
  simp
theorem DInvD.zero {g : Gr} : DInvD g [] (List.range g.length) := ⟨fun x => by simp, fun v h => (nomatch h), List.nodup_range, List.nodup_nil⟩
theorem reach_in {g : Gr} {P : List Nat} (c : ∀ v ∈ P, ∀ w ∈ suc g v, w ∈ P) {u v : Nat} (h : Reach g u v) (hu : u ∈ P) : v ∈ P := by
  induction h with
  | refl => exact hu
  | tail r w ih => exact c _ ih _ w
theorem DInvD.step {g : Gr} {P left : List Nat} (D : DInvD g P left) : DInvD g (P ++ freeL g P left) (left.filter fun v => !decide (v ∈ P ++ freeL g P left)) := by
  have fr : ∀ v ∈ freeL g P left, v < g.length ∧ v ∉ P ∧ ∀ w ∈ suc g v, w ∈ P := fun v h => by
    obtain ⟨a, b⟩ := free_mem.mp h
    obtain ⟨c, d⟩ := (D.m v).mp a
    exact ⟨c, d, b⟩
  refine ⟨fun x => ?_, fun v hv => ?_, D.nl.filter _, List.nodup_append.mpr ⟨D.np, D.nl.filter _, fun a ha b hb e => ?_⟩⟩
  · rw [List.mem_filter, D.m]
    simp only [List.mem_append, not_or, Bool.not_eq_true', decide_eq_false_iff_not]
    constructor
    · rintro ⟨⟨a, b⟩, c⟩
      exact ⟨a, c⟩
    · rintro ⟨a, c⟩
      exact ⟨⟨a, c.1⟩, c⟩
  · rcases List.mem_append.mp hv with z | z
    · obtain ⟨a, b, c⟩ := D.c v z
      exact ⟨a, fun w hw => List.mem_append_left _ (b w hw), c⟩
    · obtain ⟨a, b, c⟩ := fr v z
      refine ⟨a, fun w hw => List.mem_append_left _ (c w hw), ?_⟩
      rintro ⟨s, h1, h2⟩
      exact b (reach_in (fun v hv => (D.c v hv).2.1) h2 (c s h1))
  · subst e
    exact (fr _ hb).2.1 ha
theorem DInvD.less {g : Gr} {P left : List Nat} (h : freeL g P left ≠ []) : (left.filter fun v => !decide (v ∈ P ++ freeL g P left)).length < left.length := by
  obtain ⟨v, r, e⟩ : ∃ v r, freeL g P left = v :: r := by
    cases e : freeL g P left with
    | nil => exact absurd e h
    | cons v r => exact ⟨v, r, rfl⟩
  have m : v ∈ freeL g P left := by rw [e]; exact List.mem_cons_self
  refine List.length_filter_lt_length_iff_exists.mpr ⟨v, (free_mem.mp m).1, ?_⟩
  simp [m]
theorem DInvD.stuck {g : Gr} (n : ∀ u w, w ∈ suc g u → w < g.length) {P left : List Nat} (D : DInvD g P left) (h : freeL g P left = []) (ne : left ≠ []) : ∃ x, OnRing g x := by
  obtain ⟨v, r, rfl⟩ : ∃ v r, left = v :: r := by
    cases left with
    | nil => exact absurd rfl ne
    | cons v r => exact ⟨v, r, rfl⟩
  refine ring_of n (S := fun v' => v' ∈ v :: r) (fun u hu => ?_) g.length v List.mem_cons_self fun ws nd hws => ?_
  · have z : ¬ u ∈ freeL g P (v :: r) := by rw [h]; exact fun z => nomatch z
    rw [free_mem] at z
    have : ∃ w ∈ suc g u, w ∉ P := Classical.byContradiction fun q => z ⟨hu, fun w hw => Classical.byContradiction fun c => q ⟨w, hw, c⟩⟩
    obtain ⟨w, hw, c⟩ := this
    exact ⟨w, hw, (D.m w).mpr ⟨n u w hw, c⟩⟩
  · exact nodup_len _ _ nd fun x hx => rp_lt n (hws x hx)
theorem DInvD.done {g : Gr} {P : List Nat} (D : DInvD g P []) : ¬ ∃ x, OnRing g x := by
  rintro ⟨x, s, h1, h2⟩
  have xl : x < g.length := by
    unfold suc at h1
    rw [List.getD_eq_getElem?_getD] at h1
    cases e : g[x]? with
    | none =>
      rw [e] at h1
      cases h1
    | some r => exact (List.getElem?_eq_some_iff.mp e).1
  have xP : x ∈ P := Classical.byContradiction fun c => nomatch (D.m x).mpr ⟨xl, c⟩
  exact (D.c x xP).2.2 ⟨s, h1, h2⟩
end KM

set_option Elab.async false
set_option linter.all false
set_option maxRecDepth 100000
set_option maxHeartbeats 4000000
/-! Lists of ones: what isn't so among items. -/
namespace K02
open PySem PySem.Spec L2
open PyProof.Rows GenW GxR EZ TK
open LamX (ExtN)
section
variable {P : Program} {w : World} {K : PySem.W.Frag} {mg : Str → Option Value} {base : Heap}
def ones (n : Nat) : List V := List.replicate n (.int 1)
def onesD (n : Nat) : List PyData := List.replicate n (.int 1)
theorem dp_ones {H : Hp} : ∀ n, DpAll K H (ones n) (onesD n)
  | 0 => .nil
  | n + 1 => .cons (.int _) (dp_ones n)
theorem lay_ones (n : Nat) : LayN 1 (.list (onesD n)) := layN_list fun d hd => by
  rw [List.eq_of_mem_replicate hd]
  exact layN_leaf rfl
theorem ones_nil (n : Nat) : PyData.eqv (.list (onesD n)) (.list []) = decide (n = 0) := by
  rw [eqv_nilL]
  cases n <;> rfl
theorem ne_nil {H : Hp} {D e : Addr} {n : Nat} {Q : VK} (hD : H D = some (.lst (ones n))) (he : H e = some (.lst [])) (q : Q (.bl (!decide (n = 0))) H) : rNeD K (.ref D) (.ref e) H Q :=
  ⟨.list (onesD n), .list [], .lst (.inl (.inl hD)) (dp_ones n), .lst (.inl (.inl he)) .nil, layN_shaped (lay_ones n) (by decide), rfl, by rw [ones_nil]; exact q⟩
theorem eq_nil {H : Hp} {D e : Addr} {n : Nat} {Q : VK} (hD : H D = some (.lst (ones n))) (he : H e = some (.lst [])) (q : Q (.bl (decide (n = 0))) H) : rEqD K (.ref D) (.ref e) H Q :=
  ⟨.list (onesD n), .list [], .lst (.inl (.inl hD)) (dp_ones n), .lst (.inl (.inl he)) .nil, layN_shaped (lay_ones n) (by decide), rfl, by rw [ones_nil]; exact q⟩
/-- the list of a 1 for each item that isn't so -/
theorem read_bad {tI : TE} {g : TG} {tt : TT} {vs : List Nat} {σ : L2.St} {H : Hp} {Q : VK} (f : PyData → Bool) {xs : List V} {ds : List PyData}
    (hI : ∀ R' : VK, (∀ a H', Same H H' → SqT K H' a xs → R' (.ref a) H') → tI σ H R') (l : xs.length = ds.length) (hl : xs.length ≤ 16000)
    (step : ∀ (i : Nat) (x : V) (d : PyData) (H1 : Hp) (Q' : L2.St → Bool → Hp → Prop), xs[i]? = some x → ds[i]? = some d → Same H H1 → (∀ σ2 H3, Same H1 H3 → Q' σ2 (!f d) H3) → g x (wipe σ vs) H1 fun σ2 H2 => wipe σ2 vs = wipe σ vs ∧ tt σ2 H2 (Q' σ2))
    (fin : ∀ D H' n, Same H H' → H D = none → H' D = some (.lst (ones n)) → decide (n = 0) = ds.all f → Q (.ref D) H') : tLc (iTup K tI) g tt (tC (.int 1)) vs σ H Q := by
  refine hI _ fun a H0 s0 ha => ⟨a, rfl, ⟨xs, ha⟩, fun D nD => lc_tup (xs := xs) (fun i Hx => Same H0 Hx ∧ ∃ n, Hx D = some (.lst (ones n)) ∧ n ≤ i ∧ decide (n = 0) = (ds.take i).all f) ⟨same_new nD, 0, upd_same, Nat.le_refl _, rfl⟩ (fun i H' _ d => extN_seqT (extN_same d.1) ha) (fun i x H' hx d => ?_) (fun H' d => ?_)⟩
  · obtain ⟨s1, n, e, hn, al⟩ := d
    have hi := (List.getElem?_eq_some_iff.mp hx).1
    have hd := List.getElem?_eq_getElem (show i < ds.length by omega)
    refine step i x _ H' (fun σ2 b H3 => if b = true then tC (.int 1) σ2 H3 fun y H4 => ∃ acc, H4 D = some (.lst acc) ∧ acc.length < sizeLine ∧ (fun i Hx => Same H0 Hx ∧ ∃ n, Hx D = some (.lst (ones n)) ∧ n ≤ i ∧ decide (n = 0) = (ds.take i).all f) (i + 1) (L2.upd H4 D (.lst (acc ++ [y]))) else (fun i Hx => Same H0 Hx ∧ ∃ n, Hx D = some (.lst (ones n)) ∧ n ≤ i ∧ decide (n = 0) = (ds.take i).all f) (i + 1) H3) hx hd (s0.trans s1) fun σ2 H3 s3 => ?_
    cases hf : f ds[i] with
    | true =>
      refine ⟨s1.trans s3, n, s3 _ _ e, by omega, ?_⟩
      rw [take_snoc hd, List.all_append, al]
      simp [hf]
    | false =>
      refine ⟨_, s3 _ _ e, ?_, ?_, n + 1, ?_, by omega, ?_⟩
      · show (List.replicate n (V.int 1)).length < _
        rw [List.length_replicate, sizeLine_eq]
        omega
      · intro b o eb
        rw [upd_ne (ne_of_none eb nD)]
        exact s3 _ _ (s1 _ _ eb)
      · rw [upd_same]
        show some (HO.lst (List.replicate n (V.int 1) ++ [V.int 1])) = some (.lst (List.replicate (n + 1) (.int 1)))
        rw [List.replicate_succ']
      · rw [take_snoc hd, List.all_append]
        simp [hf]
  · obtain ⟨s1, n, e, hn, al⟩ := d
    rw [List.take_of_length_le (by omega)] at al
    exact fin D H' n (s0.trans s1) (s0.free nD) e al
/-- .. of a list -/
theorem read_badL {tI : TE} {g : TG} {tt : TT} {vs : List Nat} {σ : L2.St} {H : Hp} {Q : VK} (f : PyData → Bool) {xs : List V} {ds : List PyData}
    (hI : ∀ R' : VK, (∀ a H', Same H H' → SqL K H' a xs → R' (.ref a) H') → tI σ H R') (l : xs.length = ds.length) (hl : xs.length ≤ 16000)
    (step : ∀ (i : Nat) (x : V) (d : PyData) (H1 : Hp) (Q' : L2.St → Bool → Hp → Prop), xs[i]? = some x → ds[i]? = some d → Same H H1 → (∀ σ2 H3, Same H1 H3 → Q' σ2 (!f d) H3) → g x (wipe σ vs) H1 fun σ2 H2 => wipe σ2 vs = wipe σ vs ∧ tt σ2 H2 (Q' σ2))
    (fin : ∀ D H' n, Same H H' → H D = none → H' D = some (.lst (ones n)) → decide (n = 0) = ds.all f → Q (.ref D) H') : tLc (iList K tI) g tt (tC (.int 1)) vs σ H Q := by
  refine hI _ fun a H0 s0 ha => ⟨a, rfl, ⟨xs, ha⟩, fun D nD => lc_list (xs := xs) (fun i Hx => Same H0 Hx ∧ ∃ n, Hx D = some (.lst (ones n)) ∧ n ≤ i ∧ decide (n = 0) = (ds.take i).all f) ⟨same_new nD, 0, upd_same, Nat.le_refl _, rfl⟩ (fun i H' _ d => extN_seqL (extN_same d.1) ha) (fun i x H' hx d => ?_) (fun H' d => ?_)⟩
  · obtain ⟨s1, n, e, hn, al⟩ := d
    have hi := (List.getElem?_eq_some_iff.mp hx).1
    have hd := List.getElem?_eq_getElem (show i < ds.length by omega)
    refine step i x _ H' (fun σ2 b H3 => if b = true then tC (.int 1) σ2 H3 fun y H4 => ∃ acc, H4 D = some (.lst acc) ∧ acc.length < sizeLine ∧ (fun i Hx => Same H0 Hx ∧ ∃ n, Hx D = some (.lst (ones n)) ∧ n ≤ i ∧ decide (n = 0) = (ds.take i).all f) (i + 1) (L2.upd H4 D (.lst (acc ++ [y]))) else (fun i Hx => Same H0 Hx ∧ ∃ n, Hx D = some (.lst (ones n)) ∧ n ≤ i ∧ decide (n = 0) = (ds.take i).all f) (i + 1) H3) hx hd (s0.trans s1) fun σ2 H3 s3 => ?_
    cases hf : f ds[i] with
    | true =>
      refine ⟨s1.trans s3, n, s3 _ _ e, by omega, ?_⟩
      rw [take_snoc hd, List.all_append, al]
      simp [hf]
    | false =>
      refine ⟨_, s3 _ _ e, ?_, ?_, n + 1, ?_, by omega, ?_⟩
      · show (List.replicate n (V.int 1)).length < _
        rw [List.length_replicate, sizeLine_eq]
        omega
      · intro b o eb
        rw [upd_ne (ne_of_none eb nD)]
        exact s3 _ _ (s1 _ _ eb)
      · rw [upd_same]
        show some (HO.lst (List.replicate n (V.int 1) ++ [V.int 1])) = some (.lst (List.replicate (n + 1) (.int 1)))
        rw [List.replicate_succ']
      · rw [take_snoc hd, List.all_append]
        simp [hf]
  · obtain ⟨s1, n, e, hn, al⟩ := d
    rw [List.take_of_length_le (by omega)] at al
    exact fin D H' n (s0.trans s1) (s0.free nD) e al
theorem seq_if {tt : TT} {a b r : TS} {D : Ends} {σ : L2.St} {H : Hp} (h : tt σ H fun c H1 => if c = true then a { D with nx := r D } σ H1 else b { D with nx := r D } σ H1) : tSeq (tIfS tt a b) r D σ H := h
theorem next_of {D : Ends} {σ : L2.St} {H : Hp} (h : D.nx σ H) : tNext D σ H := h
theorem ret_of {t : TE} {D : Ends} {σ : L2.St} {H : Hp} (h : t σ H D.rt) : tRet t D σ H := h
theorem test_op {r : R2} {ta tb : TE} {σ : L2.St} {H : Hp} {k : Bool → Hp → Prop} (h : ta σ H fun x H1 => tb σ H1 fun y H2 => r x y H2 fun v H3 => ∃ b, v = .bl b ∧ k b H3) : tTest (tOp r ta tb) σ H k := h
theorem op_first {r : R2} {ta tb : TE} {σ : L2.St} {H : Hp} {Q : VK} (h : ta σ H fun x H1 => tb σ H1 fun y H2 => r x y H2 Q) : tOp r ta tb σ H Q := h
theorem sqT_same {H H' : Hp} {a : Addr} {xs : List V} (h : SqT K H a xs) (s : Same H H') : SqT K H' a xs := extN_seqT (extN_same s) h
end
end K02

set_option Elab.async false
set_option linter.all false
set_option maxRecDepth 100000
set_option maxHeartbeats 4000000
/-! _law_down. -/
namespace K02
open PySem PySem.Spec L2
open PyProof.Rows GenW GxR EZ TK
open LamX (ExtN)
abbrev sDown : Stmt := top 44 -- _law_down
abbrev nDn : List Str := ["circuit", "found", "left", "placed", "here", "spot", "source"]
abbrev scDni : Scope := { kind := .function, names := [(".0", .local), ("spot", .local), ("circuit", .cell), ("placed", .cell)], isGenerator := false, isCoroutine := false }
theorem scDn : FnScope nDn ["circuit"] (defScope sDown) := ⟨rfl, rfl, rfl, by decide +kernel, rfl, by decide +kernel, by decide +kernel⟩
theorem units1 {k : Nat} {A : Around} (r : Room k A) : A.units + 1 < cLine := by
  have := r.un
  omega
section
variable {P : Program} {w : World} {K : PySem.W.Frag} {mg : Str → Option Value} {base : Heap}
theorem rgV_nats (n : Nat) : rgV 0 (n : Int) = nV (List.range n) := by
  unfold rgV nV
  have e : ((n : Int) - 0).toNat = n := by omega
  rw [e]
  exact List.map_congr_left fun x _ => by rw [Int.zero_add]
theorem iteF' {c : Bool} {p q : Prop} (h : c = false) (k : q) : if c = true then p else q := by
  rw [if_neg (by rw [h]; exact fun z => nomatch z)]
  exact k
def kvP (P : List Nat) : List (Key × V) := P.map fun (n : Nat) => ((Sum.inl (n : Int) : Key), V.bl true)
theorem kvP_some (P : List Nat) (x : Nat) : (valV (kvP P) (Sum.inl (x : Int))).isSome = decide (x ∈ P) := by
  rw [← valV_any]
  unfold kvP
  rw [List.any_map, Bool.eq_iff_iff, List.any_eq_true, decide_eq_true_iff]
  constructor
  · rintro ⟨y, hy, e⟩
    have e : decide ((Sum.inl (y : Int) : Key) = Sum.inl (x : Int)) = true := e
    rw [decide_eq_true_iff] at e
    have e := Sum.inl.inj e
    have : y = x := by omega
    rw [← this]
    exact hy
  · intro h
    exact ⟨x, h, decide_eq_true rfl⟩
theorem kvP_put {P : List Nat} {x : Nat} (h : x ∉ P) : putK (kvP P) (Sum.inl (x : Int)) (V.bl true) = kvP (P ++ [x]) := by
  unfold putK
  rw [valV_any, kvP_some, decide_eq_false h, if_neg (fun z => nomatch z)]
  unfold kvP
  rw [List.map_append]
  rfl
/-- not a gate, or put down -/
def freeS (P : List Nat) : Src → Bool
  | .gate i => decide (i ∈ P)
  | _ => true
theorem freeS_all (P : List Nat) : ∀ ss : List Src, ((ss.filterMap gateOf).all fun w => decide (w ∈ P)) = ss.all (freeS P)
  | [] => rfl
  | s :: ss => by
    rw [List.all_cons, ← freeS_all P ss]
    cases s with
    | gate i =>
      show ((i :: ss.filterMap gateOf).all fun w => decide (w ∈ P)) = _
      rw [List.all_cons]
      rfl
    | _ => rfl
def spDown : Sp := fun vs H Q _ => ∃ (y : V) (C : Circ), vs = [y] ∧ CircAt H y C ∧ C.ok ∧ ∀ v H', Same H H' → (decide (v = V.non) = true ↔ ∃ x, KM.OnRing (leadsC C) x) → Q v H'
theorem ok_down {f : Addr} {fd : FuncData} (F : Fun K "_law_down" "_law_down" sDown f fd) (mrange : mg "range" = none) (mlen : mg "len" = none) (mlist : mg "list" = none) : FnOk P w K mg base CX0 1 f fd ["circuit"] spDown := by
  refine F.ok scDn (fun vs H Q E h => ?_) (fun cdv A outer s H vs Q E hr h => ?_)
  · obtain ⟨y, C, rfl, _⟩ := h
    rfl
  · obtain ⟨y, C, rfl, hC, ok, q⟩ := h
    have hu64 := hr.units
    have hu1 := units1 hr
    refine ⟨_, (pss_cons (ps_par (i := 1) (j := 2) rfl scDn.nd rfl rfl (by decide) rfl rfl (pa_cons (pe_lst pa_nil) (pa_cons (pe_listRg rfl (by rfl) mlist (prg_1 (by rfl) mrange (pe_callB call_len_seq (by rfl) mlen PySem.boot_len (pa_cons (pe_ix (r := rIxT K) ix_tup (pv 0) pe_int (fun _ _ => rfl)) pa_nil)))) pa_nil)) (by rfl))
      (pss_cons (ps_set (i := 3) scDn.nd rfl (Or.inr rfl) pe_dnewK)
      (pss_cons (ps_while PassesOwn.never (pt_cmpR (op_neD hu64) (pv 2) (pe_lst pa_nil) (nomark _))
        (pss_cons (ps_setLc (i := 4) (own := [("spot", 5)]) (g := gName 5) rfl scDn.nd rfl rfl (sw_true rfl rfl rfl (by decide +kernel)) (pi_list (pv 2)) (blkOk_by (N := nDn) (sc := defScope sDown) (by decide +kernel)) (fun _ _ _ _ _ => (pg_name (i := 5) scDn.nd rfl (Or.inl rfl))) (fun _ _ _ _ _ => pts_one (pt_cmpR (r := rEqD K) (op_eqD hu64) (pe_lc (own := [("source", 6)]) (wi := iTup K (tOp (rIxT K) (tOp (rIxT K) (tOp (rIxT K) (tVar 0) (tC (.int 2))) (tVar 5)) (tC (.int 0)))) (tt := tAnd (tTest (tOp rEq (tOp (rIxT K) (tVar 6) (tC (.int 0))) (tC (.str "gate")))) (tB (tDNotIn (tOp (rIxT K) (tVar 6) (tC (.int 1))) (tVar 3)))) (te := tC (.int 1)) (g := gName 6) rfl scDn.nd (pi_tup (pe_ix (r := rIxT K) ix_tup (pe_ix (r := rIxT K) ix_tup (pe_ix (r := rIxT K) ix_tup (pv 0) pe_int (fun _ _ => rfl)) (pv 5) (fun _ _ => rfl)) pe_int (fun _ _ => rfl))) (blkOk_by (N := nDn) (sc := scDni) (by decide +kernel)) (fun _ _ _ _ _ => (pg_name (i := 6) scDn.nd rfl (Or.inl rfl))) (fun _ _ _ _ _ => pts_one (pw_and (pt_cmpR (r := rEq) op_eq (pe_ix (r := rIxT K) ix_tup (pv 6) pe_int (fun _ _ => rfl)) pe_str (nomark _)) (pw_and1 (pt_cmp (t := tDNotIn (tOp (rIxT K) (tVar 6) (tC (.int 1))) (tVar 3)) (pc_dnotin hu1 (pe_ix (r := rIxT K) ix_tup (pv 6) pe_int (fun _ _ => rfl)) (pv 3))))).pt) (fun _ _ _ _ _ => pe_int)) (pe_lst pa_nil) (nomark _))) (fun _ _ _ _ _ => (pv 5)))
        (pss_cons (ps_if (pt_cmpR (op_eqD hu64) (pv 4) (pe_lst pa_nil) (nomark _)) (pss_one (ps_ret pe_non)) pss_nil)
        (pss_cons (ps_for PassesOwn.never rfl (pi_list (pv 4)) (pg_name (i := 5) scDn.nd rfl (Or.inl rfl))
          (pss_one (ps_dput hu1 (pv 3) (pv 5) pe_bl rfl)))
        (pss_one (ps_par (i := 1) (j := 2) rfl scDn.nd rfl rfl (by decide) rfl rfl (pa_cons (pe_op op_cat (pv 1) (pv 4)) (pa_cons (pe_lc (own := [("spot", 5)]) (g := gName 5) rfl scDn.nd (pi_list (pv 2)) (blkOk_by (N := nDn) (sc := defScope sDown) (by decide +kernel)) (fun _ _ _ _ _ => (pg_name (i := 5) scDn.nd rfl (Or.inl rfl))) (fun _ _ _ _ _ => pts_one (pt_cmp (pc_dnotin hu1 (pv 5) (pv 3)))) (fun _ _ _ _ _ => (pv 5))) pa_nil)) (by rfl)))))))
      (pss_one (ps_ret (pv 1)))))), ?_⟩
    obtain ⟨tC, ra, ga, oa, rs, gs, os, rfl, et, er, eg, eo, hrs, hgs, hos⟩ := id hC
    have lg : gs.length = C.gates.length := Paired.length hgs
    have b2 := ok.ng
    have n := leadsC_lt ok
    have lnV : ∀ l : List Nat, (nV l).length = l.length := fun l => by unfold nV; rw [List.length_map]
    -- found, left
    refine ⟨Nat.zero_le _, fun F0 nF0 => ?_⟩
    have s1 := same_new (o := .lst []) nF0
    have eF1 : (L2.upd H F0 (.lst [])) F0 = some (.lst (nV [])) := upd_same
    generalize L2.upd H F0 (.lst []) = H1 at s1 eF1
    refine ⟨_, rfl, tC, _, 2, .ref ga, rfl, rfl, .inl (.inl (s1 _ _ et)), rfl, ga, gs, rfl, .inr (.inl (.inl (s1 _ _ eg))), ?_⟩
    refine ⟨_, rfl, RgOk.of_le (by decide) (by omega) (by decide) (by omega), fun L0 nL0 => ⟨_, _, rfl, ?_⟩⟩
    have s2 := same_new (o := .lst (rgV 0 (gs.length : Int))) nL0
    have eL2 : (L2.upd H1 L0 (.lst (rgV 0 (gs.length : Int)))) L0 = some (.lst (nV (List.range gs.length))) := by rw [upd_same, rgV_nats]
    have eF2 := s2 _ _ eF1
    generalize L2.upd H1 L0 (.lst (rgV 0 (gs.length : Int))) = H2 at s2 eL2 eF2
    -- placed
    refine fun Pd nPd => ?_
    have s3 := same_new (o := .dK []) nPd
    have eP3 : (L2.upd H2 Pd (.dK [])) Pd = some (.dK (kvP [])) := upd_same
    have s13 := s1.trans (s2.trans s3)
    have nPd0 : H Pd = none := s1.free (s2.free nPd)
    have eF3 := s3 _ _ eF2
    have eL3 := s3 _ _ eL2
    generalize L2.upd H2 Pd (.dK []) = H3 at s3 eP3 s13 eF3 eL3
    clear s1 s2 s3 eF1 eF2 eL2 nPd nL0 nF0
    refine ⟨fun m σ Hw => ∃ (y4 y5 : Option V) (Fa La : Addr) (P left : List Nat), σ = [some (.ref tC), some (.ref Fa), some (.ref La), some (.ref Pd), y4, y5, none] ∧ Same H Hw ∧ Hw Fa = some (.lst (nV P)) ∧ Hw La = some (.lst (nV left)) ∧ Hw Pd = some (.dK (kvP P)) ∧ KM.DInvD (leadsC C) P left ∧ left.length = m,
      ⟨_, none, none, F0, L0, [], List.range gs.length, rfl, s13, eF3, eL3, eP3, by rw [lg, ← leadsC_len]; exact .zero, rfl⟩, fun m σ Hw hW => ?_⟩
    clear eF3 eL3 eP3 s13
    obtain ⟨y4, y5, Fa, La, P, left, rfl, kw, eF, eL, eP, DI, hm⟩ := hW
    have lleft : left.length ≤ C.gates.length := by
      rw [← leadsC_len]
      exact KM.nodup_len _ _ DI.nl fun x hx => ((DI.m x).mp hx).1
    have lP : P.length ≤ C.gates.length := by
      rw [← leadsC_len]
      exact KM.nodup_len _ _ DI.np fun x hx => (DI.c x hx).1
    refine ⟨_, rfl, Nat.zero_le _, fun pe npe => ⟨.list (left.map fun (n : Nat) => PyData.int (n : Int)), .list [], .lst (.inl (.inl ((same_new npe) _ _ eL))) (dp_nats left), .lst (.inl (.inl upd_same)) .nil, shape_nats left, rfl, ?_⟩⟩
    have ke := same_new (o := .lst []) npe
    have kwe := kw.trans ke
    have eF' := ke _ _ eF
    have eL' := ke _ _ eL
    have eP' := ke _ _ eP
    generalize L2.upd Hw pe (.lst []) = Hv at ke kwe eF' eL' eP'
    clear ke kw eF eL eP npe
    refine ⟨_, rfl, ?_⟩
    rw [eqv_nilL]
    by_cases hne : left = []
    · subst hne
      refine iteF ?_
      refine ⟨_, rfl, q _ _ kwe ⟨fun z => ?_, fun z => absurd z DI.done⟩⟩
      rw [decide_eq_true_iff] at z
      cases z
    refine iteT' (by cases left with
      | nil => exact absurd rfl hne
      | cons _ _ => rfl) ⟨fun σ' H' => ∃ m', m' < m ∧ _, fun _ _ h => h, ?_⟩
    have etv := kwe _ _ et
    have egv := kwe _ _ eg
    have hgv : AllAt GateAt Hv gs C.gates := all_ext (fun _ _ r => r.ext (extN_same kwe)) hgs
    -- here
    refine ⟨_, rfl, La, rfl, ⟨nV left, .inl (.inl eL')⟩, fun D nD => ?_⟩
    refine lc_list (xs := nV left) (fun j Hz => Same Hv Hz ∧ Hz D = some (.lst (nV (KM.freeL (leadsC C) P (left.take j))))) ⟨same_new nD, upd_same⟩ (fun j Hz _ z => .inl (.inl (z.1 _ _ eL'))) (fun j x Hz hx z => ?_) (fun Hz z => ?_)
    · obtain ⟨sz, eDz⟩ := z
      obtain ⟨v, hv, rfl⟩ : ∃ k : Nat, left[j]? = some k ∧ x = .int (k : Int) := by
        unfold nV at hx
        rw [List.getElem?_map] at hx
        obtain ⟨k, a1, a2⟩ := Option.map_eq_some_iff.mp hx
        exact ⟨k, a1, a2.symm⟩
      have vl : v < gs.length := by
        rw [lg, ← leadsC_len]
        exact ((DI.m v).mp (List.mem_of_getElem? hv)).1
      have hgx := List.getElem?_eq_getElem vl
      obtain ⟨g, hg1, gt, a, b, vs, egt, e, ea, hvs, eb⟩ := all_get hgv hgx
      have g1 := (ok.gates g (List.mem_of_getElem? hg1)).1
      have lvs : vs.length = g.1.length := Paired.length hvs
      have esuc : KM.suc (leadsC C) v = g.1.filterMap gateOf := by
        unfold KM.suc leadsC
        rw [List.getD_eq_getElem?_getD, List.getElem?_map, hg1]
        rfl
      have step : KM.freeL (leadsC C) P (left.take (j + 1)) = KM.freeL (leadsC C) P (left.take j) ++ (if (g.1.all (freeS P)) = true then [v] else []) := by
        rw [take_snoc hv]
        unfold KM.freeL
        rw [List.filter_append, List.filter_cons, List.filter_nil, esuc, freeS_all]
      have lfree : (KM.freeL (leadsC C) P (left.take j)).length ≤ left.length := Nat.le_trans (List.length_filter_le _ _) (by rw [List.length_take]; omega)
      refine ⟨rfl, ?_⟩
      refine ⟨_, rfl, tC, _, 2, .ref ga, rfl, rfl, .inl (.inl (sz _ _ etv)), rfl, _, rfl, ga, gs, (v : Int), .ref gt, rfl, rfl, .inl (.inl (sz _ _ egv)), atI_nat (by rw [hgx, egt]), gt, _, 0, .ref a, rfl, rfl, .inl (.inl (sz _ _ e)), rfl, a, rfl, ⟨vs, .inl (.inl (sz _ _ ea))⟩, fun D2 nD2 => ?_⟩
      refine lc_tup (xs := vs) (fun j2 Hq => Same Hz Hq ∧ ∃ k, Hq D2 = some (.lst (ones k)) ∧ k ≤ j2 ∧ decide (k = 0) = (g.1.take j2).all (freeS P)) ⟨same_new nD2, 0, upd_same, Nat.le_refl _, rfl⟩ (fun j2 Hq _ d => .inl (.inl (d.1 _ _ (sz _ _ ea)))) (fun j2 x Hq hx2 d => ?_) (fun Hq d => ?_)
      · obtain ⟨sq, k, eD2, hk, hdec⟩ := d
        obtain ⟨sr, hsr, p, rfl, ep⟩ := all_get hvs hx2
        have hj := (List.getElem?_eq_some_iff.mp hsr).1
        have epx := sq _ _ (sz _ _ ep)
        have ePq := sq _ _ (sz _ _ eP')
        have step2 : (g.1.take (j2 + 1)).all (freeS P) = ((g.1.take j2).all (freeS P) && freeS P sr) := by
          rw [take_snoc hsr, List.all_append, List.all_cons, List.all_nil, Bool.and_true]
        have yes : freeS P sr = true → Same Hz Hq ∧ ∃ k, Hq D2 = some (.lst (ones k)) ∧ k ≤ j2 + 1 ∧ decide (k = 0) = (g.1.take (j2 + 1)).all (freeS P) := fun z => ⟨sq, k, eD2, by omega, by rw [step2, z, Bool.and_true]; exact hdec⟩
        refine ⟨rfl, _, rfl, p, _, 0, .str sr.kind, rfl, rfl, .inl (.inl epx), rfl, rfl, _, rfl, ?_⟩
        show (if decide (V.str sr.kind = V.str "gate") = true then _ else _)
        cases sr with
        | gate i =>
          rw [show decide (V.str (Src.gate i).kind = V.str ("gate" : Str)) = true from decide_eq_true rfl]
          refine iteT ⟨_, rfl, p, _, 1, .int (i : Int), rfl, rfl, .inl (.inl epx), rfl, _, rfl, Pd, _, rfl, DGet.k (k := Sum.inl (i : Int)) ePq, _, rfl, ?_⟩
          rw [kvP_some]
          by_cases hi : i ∈ P
          · rw [decide_eq_true hi]
            exact iteF (yes (decide_eq_true hi))
          · rw [decide_eq_false hi]
            refine iteT ⟨_, eD2, by unfold ones; rw [List.length_replicate, sizeLine_eq]; omega, fun c o ec => ?_, k + 1, ?_, by omega, ?_⟩
            · rw [upd_ne (ne_of_none ec nD2)]
              exact sq _ _ ec
            · rw [upd_same]
              unfold ones
              rw [List.replicate_succ']
            · rw [step2, show freeS P (.gate i) = false from decide_eq_false hi, Bool.and_false]
              exact decide_eq_false (by omega)
        | inp i =>
          rw [show decide (V.str (Src.inp i).kind = V.str ("gate" : Str)) = false from decide_eq_false (fun z => absurd (V.str.inj z) (show ¬ ("in" : Str) = "gate" by decide +kernel))]
          refine iteF ?_
          exact iteF (yes rfl)
        | reg i =>
          rw [show decide (V.str (Src.reg i).kind = V.str ("gate" : Str)) = false from decide_eq_false (fun z => absurd (V.str.inj z) (show ¬ ("reg" : Str) = "gate" by decide +kernel))]
          refine iteF ?_
          exact iteF (yes rfl)
        | bit i =>
          rw [show decide (V.str (Src.bit i).kind = V.str ("gate" : Str)) = false from decide_eq_false (fun z => absurd (V.str.inj z) (show ¬ ("bit" : Str) = "gate" by decide +kernel))]
          refine iteF ?_
          exact iteF (yes rfl)
      · obtain ⟨sq, k, eD2, hk, hdec⟩ := d
        rw [lvs, List.take_length] at hdec
        refine ⟨Nat.zero_le _, fun qe nqe => ?_⟩
        have sr := sz.trans (sq.trans (same_new (o := .lst []) nqe))
        refine eq_nil ((same_new nqe) _ _ eD2) upd_same ?_
        have eDr := (sq.trans (same_new (o := .lst []) nqe)) _ _ eDz
        generalize L2.upd Hq qe (.lst []) = Hr at sr eDr
        refine ⟨_, rfl, ?_⟩
        rw [hdec]
        cases hf : g.1.all (freeS P) with
        | false =>
          refine iteF ⟨sr, ?_⟩
          rw [step, hf, if_neg (fun z => nomatch z), List.append_nil]
          exact eDr
        | true =>
          refine iteT ⟨_, rfl, _, eDr, by rw [lnV, sizeLine_eq]; omega, fun c o ec => ?_, ?_⟩
          · rw [upd_ne (ne_of_none ec nD)]
            exact sr _ _ ec
          · rw [upd_same, step, hf, if_pos rfl, nV_snoc]
    · obtain ⟨sz, eDz⟩ := z
      rw [lnV, List.take_length] at eDz
      -- stuck
      refine ⟨_, rfl, Nat.zero_le _, fun qe nqe => ⟨.list ((KM.freeL (leadsC C) P left).map fun (n : Nat) => PyData.int (n : Int)), .list [], .lst (.inl (.inl ((same_new nqe) _ _ eDz))) (dp_nats _), .lst (.inl (.inl upd_same)) .nil, shape_nats _, rfl, ?_⟩⟩
      have se := same_new (o := .lst []) nqe
      have eH := se _ _ eDz
      have kv := kwe.trans (sz.trans se)
      have eF4 := se _ _ (sz _ _ eF')
      have eL4 := se _ _ (sz _ _ eL')
      have eP4 := se _ _ (sz _ _ eP')
      generalize L2.upd Hz qe (.lst []) = H4 at se eH kv eF4 eL4 eP4
      clear sz eDz nqe se eF' eL' eP' kwe etv egv hgv nD
      refine ⟨_, rfl, ?_⟩
      rw [eqv_nilL]
      by_cases hfr : KM.freeL (leadsC C) P left = []
      · rw [hfr]
        refine iteT' rfl ?_
        exact q _ _ kv ⟨fun _ => DI.stuck n hfr hne, fun _ => decide_eq_true rfl⟩
      · refine iteF' (by cases e : KM.freeL (leadsC C) P left with
          | nil => exact absurd e hfr
          | cons _ _ => rfl) ?_
        have less := KM.DInvD.less hfr
        have DI2 := DI.step
        generalize hfl : KM.freeL (leadsC C) P left = fl at eH less DI2
        have lfl : (P ++ fl).length ≤ C.gates.length := by
          rw [← leadsC_len]
          exact KM.nodup_len _ _ DI2.np fun x hx => (DI2.c x hx).1
        rw [List.length_append] at lfl
        -- placed
        have nodup_at : ∀ {j v : Nat}, fl[j]? = some v → v ∉ P ++ fl.take j := fun {j v} hv m => by
          have z := DI2.np
          rw [← List.take_append_drop j fl, ← List.append_assoc, List.nodup_append] at z
          refine z.2.2 v m v ?_ rfl
          have hj := (List.getElem?_eq_some_iff.mp hv).1
          have e := (List.getElem?_eq_some_iff.mp hv).2
          rw [List.drop_eq_getElem_cons hj, e]
          exact List.mem_cons_self
        have FP : Fa ≠ Pd := fun z => by
          rw [z, eP4] at eF4
          cases eF4
        have LP : La ≠ Pd := fun z => by
          rw [z, eP4] at eL4
          cases eL4
        have DP : D ≠ Pd := fun z => by
          rw [z, eP4] at eH
          cases eH
        refine ⟨_, rfl, D, rfl, ⟨nV fl, .inl (.inl eH)⟩, for_list (xs := nV fl) (fun j σ Hz => ∃ y5 : Option V, σ = [some (.ref tC), some (.ref Fa), some (.ref La), some (.ref Pd), some (.ref D), y5, none] ∧ Same H Hz ∧ Hz Fa = some (.lst (nV P)) ∧ Hz La = some (.lst (nV left)) ∧ Hz D = some (.lst (nV fl)) ∧ Hz Pd = some (.dK (kvP (P ++ fl.take j))))
          ⟨_, rfl, kv, eF4, eL4, eH, by rw [List.take_zero, List.append_nil]; exact eP4⟩ (fun j σ Hz _ hh => ?_) (fun j x σ Hz hx hh => ?_) (fun σ Hz hh => ?_)⟩
        · obtain ⟨_, _, _, _, _, e, _⟩ := hh
          exact .inl (.inl e)
        · obtain ⟨y5', rfl, kz, eFz, eLz, eDz, ePz⟩ := hh
          obtain ⟨v, hv, rfl⟩ : ∃ k : Nat, fl[j]? = some k ∧ x = .int (k : Int) := by
            unfold nV at hx
            rw [List.getElem?_map] at hx
            obtain ⟨k, a1, a2⟩ := Option.map_eq_some_iff.mp hx
            exact ⟨k, a1, a2.symm⟩
          refine ⟨_, rfl, _, rfl, Pd, _, rfl, DPut.k (k := Sum.inl (v : Int)) ePz ?_, _, rfl, fun b o e => ?_, ?_, ?_, ?_, ?_⟩
          · unfold kvP
            rw [List.length_map, List.length_append, List.length_take, sizeLine_eq]
            omega
          · rw [upd_ne (ne_of_none e nPd0)]
            exact kz _ _ e
          · rw [upd_ne FP]
            exact eFz
          · rw [upd_ne LP]
            exact eLz
          · rw [upd_ne DP]
            exact eDz
          · rw [upd_same, kvP_put (nodup_at hv), take_snoc hv, List.append_assoc]
        · obtain ⟨y5', rfl, kz, eFz, eLz, eDz, ePz⟩ := hh
          rw [lnV, List.take_length] at ePz
          refine ⟨_, rfl, _, rfl, Fa, D, nV P, nV fl, rfl, rfl, eFz, eDz, by rw [lnV, lnV, sizeLine_eq]; omega, fun p np => ?_⟩
          have s5 := same_new (o := .lst (nV P ++ nV fl)) np
          have ep : (L2.upd Hz p (.lst (nV P ++ nV fl))) p = some (.lst (nV (P ++ fl))) := by
            rw [upd_same]
            unfold nV
            rw [List.map_append]
          have eL5 := s5 _ _ eLz
          have eP5 := s5 _ _ ePz
          have k5 := kz.trans s5
          generalize L2.upd Hz p (.lst (nV P ++ nV fl)) = H5 at s5 ep eL5 eP5 k5
          refine ⟨_, rfl, La, rfl, ⟨nV left, .inl (.inl eL5)⟩, fun D3 nD3 => ?_⟩
          refine lc_list (xs := nV left) (fun j Hq => Same H5 Hq ∧ Hq D3 = some (.lst (nV ((left.take j).filter fun v => !decide (v ∈ P ++ fl))))) ⟨same_new nD3, upd_same⟩ (fun j Hq _ z => .inl (.inl (z.1 _ _ eL5))) (fun j x Hq hx z => ?_) (fun Hq z => ?_)
          · obtain ⟨sq, eq⟩ := z
            obtain ⟨v, hv, rfl⟩ : ∃ k : Nat, left[j]? = some k ∧ x = .int (k : Int) := by
              unfold nV at hx
              rw [List.getElem?_map] at hx
              obtain ⟨k, a1, a2⟩ := Option.map_eq_some_iff.mp hx
              exact ⟨k, a1, a2.symm⟩
            have step : (left.take (j + 1)).filter (fun v => !decide (v ∈ P ++ fl)) = (left.take j).filter (fun v => !decide (v ∈ P ++ fl)) ++ (if (!decide (v ∈ P ++ fl)) = true then [v] else []) := by
              rw [take_snoc hv, List.filter_append, List.filter_cons, List.filter_nil]
            refine ⟨rfl, _, rfl, _, rfl, Pd, _, rfl, DGet.k (k := Sum.inl (v : Int)) (sq _ _ eP5), _, rfl, ?_⟩
            rw [kvP_some]
            cases hb : (!decide (v ∈ P ++ fl)) with
            | false =>
              refine iteF ⟨sq, ?_⟩
              rw [step, hb, if_neg (fun z => nomatch z), List.append_nil]
              exact eq
            | true =>
              refine iteT ⟨_, rfl, _, eq, ?_, fun c o ec => ?_, ?_⟩
              · have z := List.length_filter_le (fun v => !decide (v ∈ P ++ fl)) (left.take j)
                rw [List.length_take] at z
                rw [lnV, sizeLine_eq]
                omega
              · rw [upd_ne (ne_of_none ec nD3)]
                exact sq _ _ ec
              · rw [upd_same, step, hb, if_pos rfl, nV_snoc]
          · obtain ⟨sq, eq⟩ := z
            rw [lnV, List.take_length] at eq
            exact ⟨_, _, rfl, _, by rw [← hm]; exact less, _, _, p, D3, P ++ fl, _, rfl, k5.trans sq, sq _ _ ep, eq, sq _ _ eP5, DI2, rfl⟩
end
end K02

set_option Elab.async false
set_option linter.all false
set_option maxRecDepth 100000
set_option maxHeartbeats 1000000
/-! The law's own powers and bits. -/
namespace K02
open PySem PySem.Spec L2
open PyProof.Rows GenW GxR
open LamX (ExtN)
abbrev sPower : Stmt := top 38 -- _law_power
theorem low62 {m : Nat} (h : m ≤ 16) : -(2 ^ 62) ≤ (m : Int) := by omega
theorem high62 {m : Nat} (h : m ≤ 16) : (m : Int) < 2 ^ 62 := by omega
section
variable {P : Program} {w : World} {K : PySem.W.Frag} {mg : Str → Option Value} {base : Heap}
def spPower : Sp := fun vs H Q _ => ∃ n : Nat, vs = [.int (n : Int)] ∧ n ≤ 5 ∧ Q (.int ((2 ^ n : Nat) : Int)) H
theorem scPower : FnScope ["number", "found", "lap"] ["number"] (defScope sPower) := ⟨rfl, rfl, rfl, by decide +kernel, rfl, by decide +kernel, by decide +kernel⟩
theorem ok_power {f : Addr} {fd : FuncData} (F : Fun K "_law_power" "_law_power" sPower f fd) (mr : mg "range" = none) : FnOk P w K mg base CX0 1 f fd ["number"] spPower := by
  refine F.ok scPower (fun vs H Q E h => ?_) (fun cdv A outer s H vs Q E hr h => ?_)
  · obtain ⟨n, rfl, _⟩ := h
    rfl
  · obtain ⟨n, rfl, hn, q⟩ := h
    refine ⟨_, pss_cons (ps_set (i := 1) scPower.nd rfl (Or.inl rfl) pe_int)
      (pss_cons (ps_for PassesOwn.never rfl (pi_range1 (by rfl) mr (pa_cons (pv 0) pa_nil)) (pg_name (i := 2) scPower.nd rfl (Or.inl rfl))
        (pss_one (ps_set (i := 1) scPower.nd rfl (Or.inl rfl) (pe_op op_mul pe_int (pv 1)))))
      (pss_one (ps_ret (pv 1)))), ?_⟩
    refine ⟨_, rfl, n, rfl, by omega, by omega, ?_⟩
    rw [Int.toNat_natCast]
    refine for_range (fun i σ H1 => ∃ y, σ = [some (.int (n : Int)), some (.int ((2 ^ i : Nat) : Int)), y] ∧ H1 = H) ⟨none, rfl, rfl⟩ (fun i σ H1 hi ⟨y, e, eh⟩ => ?_) (fun σ H1 ⟨y, e, eh⟩ => ?_)
    · subst e
      subst eh
      refine ⟨_, rfl, _, _, rfl, rfl, .inl ⟨by decide, by decide⟩, some (.int (0 + (i : Int))), ?_, rfl⟩
      rw [← pw2 i, Int.mul_comm]
      rfl
    · subst e
      subst eh
      exact ⟨_, rfl, q⟩
end
end K02

set_option Elab.async false
set_option linter.all false
set_option maxRecDepth 100000
set_option maxHeartbeats 1000000
/-! The law's tables and readings. -/
namespace K02
open PySem PySem.Spec L2
open PyProof.Rows GenW GxR EZ
open LamX (ExtN)
abbrev sLTable : Stmt := top 40 -- _law_table
section
variable {P : Program} {w : World} {K : PySem.W.Frag} {mg : Str → Option Value} {base : Heap}
def spLTable : Sp := fun vs H Q _ => ∃ (st lg cl : Addr) (t n : Nat), vs = [.ref st, .int (n : Int)] ∧ n ≤ 4 ∧ t + 100 < 1000000000 ∧ StOk H st lg cl t ∧
  ∀ (tb : List Bool) (p : Addr) (H' : Hp), tb.length = 2 ^ n → H' p = some (.tup (tb.map bitV)) → H p = none → StOk H' st lg cl (t + 17) → But st lg H H' → Q (.ref p) H'
theorem scLTable : FnScope ["state", "size", "way", "count", "spot"] ["state", "size"] (defScope sLTable) := ⟨rfl, rfl, rfl, by decide +kernel, rfl, by decide +kernel, by decide +kernel⟩
theorem ok_ltable {f fD fP : Addr} {fd fdD fdP : FuncData} (F : Fun K "_law_table" "_law_table" sLTable f fd) (mt : mg "tuple" = none) (mr : mg "range" = none)
    (GD : FnOk P w K mg base CX0 1 fD fdD ["state", "size_here"] spDraw) (kD : PySem.W.keepIn K (.ref fD) = true) (bD : Binds K fdD ["state", "size_here"] []) (mD : mg "_law_draw" = some (.ref fD))
    (GP : FnOk P w K mg base CX0 1 fP fdP ["number"] spPower) (kP : PySem.W.keepIn K (.ref fP) = true) (bP : Binds K fdP ["number"] []) (mP : mg "_law_power" = some (.ref fP)) :
    FnOk P w K mg base CX0 2 f fd ["state", "size"] spLTable := by
  refine F.ok scLTable (fun vs H Q E h => ?_) (fun cdv A outer s H vs Q E hr h => ?_)
  · obtain ⟨st, lg, cl, t, n, rfl, _⟩ := h
    rfl
  · obtain ⟨st, lg, cl, t, n, rfl, hn, ht, S, q⟩ := h
    have h16 := pow16 hn
    have hp0 : 0 < 2 ^ n := Nat.two_pow_pos n
    refine ⟨_, pss_cons (ps_par (i := 2) (j := 3) rfl scLTable.nd rfl rfl (by decide) rfl rfl (pa_cons (pe_call GD hr (by rfl) mD kD bD .nil pass0 (pa_cons (pv 0) (pa_cons pe_int pa_nil))) (pa_cons (pe_call GP hr (by rfl) mP kP bP .nil pass0 (pa_cons (pv 1) pa_nil)) pa_nil)) (by rfl))
      (pss_cons (ps_if (pt_cmpR op_eq (pv 2) pe_int (nomark _)) (pss_one (ps_ret (pe_callTy call_tuple_of (by rfl) mt (by decide +kernel) (pa_cons (pe_op op_cat (pe_lst (pa_cons pe_int pa_nil)) (pe_op op_rep (pe_lst (pa_cons pe_int pa_nil)) (pe_op op_sub (pv 3) pe_int))) pa_nil)))) pss_nil)
      (pss_cons (ps_if (pt_cmpR op_eq (pv 2) pe_int (nomark _)) (pss_one (ps_ret (pe_callTy call_tuple_of (by rfl) mt (by decide +kernel) (pa_cons (pe_op op_cat (pe_op op_rep (pe_lst (pa_cons pe_int pa_nil)) (pe_op op_sub (pv 3) pe_int)) (pe_lst (pa_cons pe_int pa_nil))) pa_nil)))) pss_nil)
      (pss_cons (ps_if (pw_and (pt_cmpR op_eq (pv 2) pe_int (nomark _)) (pw_and1 (pt_cmpR op_eq (pv 1) pe_int (nomark _)))).pt (pss_one (ps_ret (pe_tup (pa_cons pe_int (pa_cons pe_int pa_nil))))) pss_nil)
      (pss_one (ps_ret (pe_callTy call_tuple_of (by rfl) mt (by decide +kernel) (pa_cons (pe_lc (own := [("spot", 4)]) (g := gName 4) (tt := tYes) rfl scLTable.nd (pi_range1 (by rfl) mr (pa_cons (pv 3) pa_nil)) (blkOk_by (N := ["state", "size", "way", "count", "spot"]) (sc := defScope sLTable) (by decide +kernel))
        (fun _ _ _ _ _ => pg_name (i := 4) scLTable.nd rfl (Or.inl rfl)) (fun _ _ _ _ _ => pts_nil) (fun _ _ _ _ _ => pe_call GD hr (by rfl) mD kD bD .nil pass0 (pa_cons (pv 0) (pa_cons pe_int pa_nil)))) pa_nil))))))), ?_⟩
    refine ⟨_, rfl, st, lg, cl, t, 5, rfl, by decide, by decide, by omega, S, fun k H1 k0 k1 S1 B1 => ?_⟩
    refine ⟨_, rfl, n, rfl, by omega, ⟨_, _, rfl, ?_⟩⟩
    have fin : ∀ (tb : List Bool) (ys : List V) (H2 : Hp), Same H1 H2 → ys = tb.map bitV → tb.length = 2 ^ n → ∀ l, H2 l = none → Q (.ref l) (L2.upd H2 l (.tup ys)) := fun tb ys H2 s2 e hl l nl => by
      refine q tb l _ hl ?_ (B1.free S1 (s2.free nl)) ((S1.keep (s2.trans (same_new nl))).up (by omega)) (B1.trans (But.of (s2.trans (same_new nl))))
      rw [upd_same, e]
    have hm : (((2 ^ n : Nat) : Int) - 1).toNat = 2 ^ n - 1 := by omega
    have b1 : (-(2 ^ 63) : Int) ≤ ((2 ^ n : Nat) : Int) - 1 := by
      have := Int.natCast_nonneg (2 ^ n)
      omega
    have b2 : ((2 ^ n : Nat) : Int) - 1 < 2 ^ 63 := by
      have : ((2 ^ n : Nat) : Int) ≤ 16 := Int.ofNat_le.mpr h16
      omega
    refine ⟨_, rfl, rfl, _, rfl, ite2 (fun e => ?_) (fun e => ?_)⟩
    · refine ⟨(by show 1 ≤ sizeLine; decide), fun p1 np1 => ⟨(by show 1 ≤ sizeLine; decide), fun p2 np2 => ⟨_, rfl, _, _, rfl, rfl, p2, _, [.int 1], rfl, rfl, upd_same, b1, b2, ?_, fun p3 np3 => ?_⟩⟩⟩
      · rw [hm]
        exact Nat.le_of_lt (small1000 (by show 1 * (2 ^ n - 1) ≤ 1000; omega))
      · have s3 := ((same_new (o := .lst [.int 0]) np1).trans (same_new (o := .lst [.int 1]) np2)).trans (same_new (o := .lst (List.replicate (((2 ^ n : Nat) : Int) - 1).toNat [V.int 1]).flatten) np3)
        refine ⟨p1, p3, [.int 0], _, rfl, rfl, same_new np3 _ _ (same_new np2 _ _ upd_same), upd_same, ?_, fun p4 np4 => ⟨p4, _, rfl, .inl ⟨.inl (.inl upd_same), fin (false :: List.replicate (2 ^ n - 1) true) _ _ (s3.trans (same_new np4)) ?_ ?_⟩⟩⟩
        · rw [rep_one, List.length_replicate, hm]
          exact Nat.le_of_lt (small1000 (by show 1 + (2 ^ n - 1) ≤ 1000; omega))
        · rw [rep_one, hm, List.map_cons, List.map_replicate]
          rfl
        · rw [List.length_cons, List.length_replicate]
          omega
    · refine ⟨_, rfl, rfl, _, rfl, ite2 (fun e => ?_) (fun e => ?_)⟩
      · refine ⟨(by show 1 ≤ sizeLine; decide), fun p2 np2 => ⟨_, rfl, _, _, rfl, rfl, p2, _, [.int 0], rfl, rfl, upd_same, b1, b2, ?_, fun p3 np3 => ⟨(by show 1 ≤ sizeLine; decide), fun p1 np1 => ?_⟩⟩⟩
        · rw [hm]
          exact Nat.le_of_lt (small1000 (by show 1 * (2 ^ n - 1) ≤ 1000; omega))
        · have s3 := ((same_new (o := .lst [.int 0]) np2).trans (same_new (o := .lst (List.replicate (((2 ^ n : Nat) : Int) - 1).toNat [V.int 0]).flatten) np3)).trans (same_new (o := .lst [.int 1]) np1)
          refine ⟨p3, p1, _, [.int 1], rfl, rfl, same_new np1 _ _ upd_same, upd_same, ?_, fun p4 np4 => ⟨p4, _, rfl, .inl ⟨.inl (.inl upd_same), fin (List.replicate (2 ^ n - 1) false ++ [true]) _ _ (s3.trans (same_new np4)) ?_ ?_⟩⟩⟩
          · rw [rep_one, List.length_replicate, hm]
            exact Nat.le_of_lt (small1000 (by show (2 ^ n - 1) + 1 ≤ 1000; omega))
          · rw [rep_one, hm, List.map_append, List.map_replicate]
            rfl
          · rw [List.length_append, List.length_replicate]
            show 2 ^ n - 1 + 1 = 2 ^ n
            omega
      · refine ⟨_, rfl, rfl, ?_⟩
        have last : ∀ D, H1 D = none → ∀ Qd : Hp → Prop, (∀ (H2 : Hp) (bs : List Bool), bs.length = 2 ^ n → H2 D = some (.lst (bs.map bitV)) → StOk H2 st lg cl (t + 17) → But st lg H1 H2 → Qd H2) →
            ∃ Pv : Nat → Hp → Prop, Pv 0 (L2.upd H1 D (.lst [])) ∧ (∀ (i : Nat) (H2 : Hp), i < 2 ^ n → Pv i H2 → spDraw [.ref st, .int 2] H2 (fun y H4 => ∃ acc, H4 D = some (.lst acc) ∧ acc.length < sizeLine ∧ Pv (i + 1) (L2.upd H4 D (.lst (acc ++ [y])))) E) ∧ ∀ H2, Pv (2 ^ n) H2 → Qd H2 := by
          intro D nD Qd qd
          have nn := But.st_new (o := .tup []) S1 nD
          have n3 := S1.cl_ne nD
          refine ⟨fun i H2 => ∃ bs : List Bool, bs.length = i ∧ H2 D = some (.lst (bs.map bitV)) ∧ StOk H2 st lg cl (t + 1 + i) ∧ But st lg H1 H2, ⟨[], rfl, upd_same, S1.upd nn.1 nn.2 n3, But.of (same_new nD)⟩, fun i H2 hi ⟨bs, l2, e2, S2, B2⟩ => ⟨st, lg, cl, t + 1 + i, 2, rfl, by decide, by decide, by omega, S2, fun k H3 k0 k1 S3 B3 => ⟨bs.map bitV, B3 _ _ e2 nn.1 nn.2, ?_, ?_⟩⟩, fun H2 ⟨bs, l2, e2, S2, B2⟩ => qd H2 bs l2 e2 (S2.up (by omega)) B2⟩
          · rw [List.length_map, l2]
            exact small1000 (by omega)
          · obtain ⟨b, eb⟩ := bits01 k0 k1
            refine ⟨bs ++ [b], by rw [List.length_append, l2]; rfl, ?_, S3.upd nn.1 nn.2 n3, fun c o ec m1 m2 => ?_⟩
            · rw [upd_same, List.map_append, eb]
              rfl
            · rw [upd_ne (ne_of_none ec nD)]
              exact B3 _ _ (B2 _ _ ec m1 m2) m1 m2
        refine ⟨_, rfl, ite2 (fun e2 => ⟨_, rfl, rfl, _, rfl, ite2 (fun e3 => ?one) (fun e3 => ?_)⟩) (fun e2 => ?_)⟩
        case one =>
          have hn1 : n = 1 := by
            have z := V.int.inj (of_decide_eq_true e3)
            omega
          refine ⟨(by show 2 ≤ sizeLine; decide), fun p np => fin [true, false] _ _ (fun _ _ e => e) rfl ?_ p np⟩
          rw [hn1]
          rfl
        all_goals
          refine ⟨_, rfl, _, rfl, low62 h16, high62 h16, fun D nD => ?_⟩
          rw [Int.toNat_natCast]
          have tail : ∀ (H2 : Hp) (bs : List Bool), bs.length = 2 ^ n → H2 D = some (.lst (bs.map bitV)) → StOk H2 st lg cl (t + 17) → But st lg H1 H2 → ∀ l, H2 l = none → Q (.ref l) (L2.upd H2 l (.tup (bs.map bitV))) := fun H2 bs l2 e2 S2 B2 l nl =>
            q bs l _ l2 upd_same (B1.free S1 (B2.free S2 nl)) (S2.keep (same_new nl)) ((B1.trans B2).trans (But.of (same_new nl)))
          obtain ⟨Pv, p0, ps, pd⟩ := last D nD (fun H2 => ∃ bs : List Bool, H2 D = some (.lst (bs.map bitV)) ∧ ∀ l, H2 l = none → Q (.ref l) (L2.upd H2 l (.tup (bs.map bitV)))) (fun H2 bs l2 e2 S2 B2 => ⟨bs, e2, tail H2 bs l2 e2 S2 B2⟩)
          refine lc_range Pv p0 (fun i H2 hi p1 => ⟨rfl, _, rfl, ps i H2 hi p1⟩) fun H2 p2 => ?_
          obtain ⟨bs, e2, fq⟩ := pd H2 p2
          exact ⟨D, _, rfl, .inl ⟨.inl (.inl e2), fq⟩⟩
end
end K02

set_option Elab.async false
set_option linter.all false
set_option maxRecDepth 100000
set_option maxHeartbeats 4000000
/-! The law's drawn circuits. -/
namespace K02
open PySem PySem.Spec L2
open PyProof.Rows GenW GxR EZ TK
open LamX (ExtN)
abbrev sLCircuit : Stmt := top 41 -- _law_circuit
theorem pick_size : ∀ x ∈ [V.int 0, .int 1, .int 1, .int 2, .int 2, .int 2, .int 3, .int 4], ∃ k : Nat, x = V.int (k : Int) ∧ k ≤ 4 := by
  intro x hx
  simp only [List.mem_cons, List.not_mem_nil, or_false] at hx
  rcases hx with h | h | h | h | h | h | h | h
  · exact ⟨0, h, by decide⟩
  · exact ⟨1, h, by decide⟩
  · exact ⟨1, h, by decide⟩
  · exact ⟨2, h, by decide⟩
  · exact ⟨2, h, by decide⟩
  · exact ⟨2, h, by decide⟩
  · exact ⟨3, h, by decide⟩
  · exact ⟨4, h, by decide⟩
section
variable {P : Program} {w : World} {K : PySem.W.Frag} {mg : Str → Option Value} {base : Heap}
def spLCirc : Sp := fun vs H Q _ => ∃ (st lg cl : Addr) (t most br : Nat), vs = [.ref st, .int (most : Int), .int (br : Int)] ∧ 0 < most ∧ most ≤ 100 ∧ br ≤ 4000 ∧ t + 10000 < 1000000000 ∧ StOk H st lg cl t ∧
  ∀ (y : V) (C : Circ) (H' : Hp), CircAt H' y C → C.ok → C.ni ≤ 3 → C.regs.length ≤ 2 → 1 ≤ C.gates.length → C.gates.length ≤ most → C.outs.length ≤ 3 → fanG C.gates ≤ br → StOk H' st lg cl (t + 40 * most + 60) → But st lg H H' → Q y H'
abbrev nLC : List Str := ["state", "most", "branches", "inputs", "registers", "gates", "found", "left", "spot", "size", "held", "outputs", "lap"]
theorem scLC : FnScope nLC ["state", "most", "branches"] (defScope sLCircuit) := ⟨rfl, rfl, rfl, by decide +kernel, rfl, by decide +kernel, by decide +kernel⟩
theorem ok_lcirc {f : Addr} {fd : FuncData} (F : Fun K "_law_circuit" "_law_circuit" sLCircuit f fd) (mrange : mg "range" = none) (mmin : mg "min" = none) (mtuple : mg "tuple" = none)
    (cD : Cal P w K mg base CX0 1 "_law_draw" ["state", "size_here"] spDraw) (cK : Cal P w K mg base CX0 2 "_law_pick" ["state", "several"] (spPick K)) (cS : Cal P w K mg base CX0 3 "_law_some_source" ["state", "inputs", "registers", "gates"] spSomeS) (cT : Cal P w K mg base CX0 2 "_law_table" ["state", "size"] spLTable) :
    FnOk P w K mg base CX0 4 f fd ["state", "most", "branches"] spLCirc := by
  obtain ⟨fD, fdD, GD, kD, bD, mD⟩ := cD
  obtain ⟨fK, fdK, GK, kK, bK, mK⟩ := cK
  obtain ⟨fS, fdS, GS, kS, bS, mS⟩ := cS
  obtain ⟨fT, fdT, GT, kT, bT, mT⟩ := cT
  refine F.ok scLC (fun vs H Q E h => ?_) (fun cdv A outer s H vs Q E hr h => ?_)
  · obtain ⟨st, lg, cl, t, most, br, rfl, _⟩ := h
    rfl
  · obtain ⟨st, lg, cl, t, most, br, rfl, hm0, hm1, hbr, ht, S, q⟩ := h
    refine ⟨_, (pss_cons (ps_asg (pe_tup (pa_cons (pe_call GD (hr.mono (by decide)) (by rfl) mD kD bD .nil pass0 (pa_cons (pv 0) (pa_cons pe_int pa_nil))) (pa_cons (pe_call GD (hr.mono (by decide)) (by rfl) mD kD bD .nil pass0 (pa_cons (pv 0) (pa_cons pe_int pa_nil))) (pa_cons (pe_op op_add pe_int (pe_call GD (hr.mono (by decide)) (by rfl) mD kD bD .nil pass0 (pa_cons (pv 0) (pa_cons (pv 1) pa_nil)))) pa_nil)))) (pg_tup rfl (pgs_cons (pg_name (i := 3) scLC.nd rfl (Or.inr rfl)) (pgs_cons (pg_name (i := 4) scLC.nd rfl (Or.inr rfl)) (pgs_cons (pg_name (i := 5) scLC.nd rfl (Or.inr rfl)) pgs_nil)))))
      (pss_cons (ps_par (i := 6) (j := 7) rfl scLC.nd rfl rfl (by decide) rfl rfl (pa_cons (pe_lst pa_nil) (pa_cons (pv 2) pa_nil)) (by rfl))
      (pss_cons (ps_for PassesOwn.never rfl (pi_range1 (by rfl) mrange (pa_cons (pv 5) pa_nil)) (pg_name (i := 8) scLC.nd rfl (Or.inl rfl))
        (pss_cons (ps_set (i := 9) scLC.nd rfl (Or.inl rfl) (pe_callB (call_min2 rfl) (by rfl) mmin (by decide +kernel) (pa_cons (pv 7) (pa_cons (pe_call GK (hr.mono (by decide)) (by rfl) mK kK bK .nil pass0 (pa_cons (pv 0) (pa_cons (pe_lst (pa_cons pe_int (pa_cons pe_int (pa_cons pe_int (pa_cons pe_int (pa_cons pe_int (pa_cons pe_int (pa_cons pe_int (pa_cons pe_int pa_nil))))))))) pa_nil))) pa_nil))))
        (pss_cons (ps_set (i := 7) scLC.nd rfl (Or.inl rfl) (pe_op op_sub (pv 7) (pv 9)))
        (pss_one (ps_expr (pe_bm PySem.F.plainAttrs_list PySem.F.slot_list_append PySem.F.type_list_append mt_append (pv 6) (pa_cons (pe_tup (pa_cons (pe_callTy call_tuple_of (by rfl) mtuple (by decide +kernel) (pa_cons (pe_lc (own := [("lap", 12)]) (g := gName 12) (tt := tYes) rfl scLC.nd (pi_range1 (by rfl) mrange (pa_cons (pv 9) pa_nil)) (blkOk_by (N := nLC) (sc := defScope sLCircuit) (by decide +kernel)) (fun _ _ _ _ _ => (pg_name (i := 12) scLC.nd rfl (Or.inl rfl))) (fun _ _ _ _ _ => pts_nil) (fun _ _ _ _ _ => (pe_call GS (hr.mono (by decide)) (by rfl) mS kS bS .nil pass0 (pa_cons (pv 0) (pa_cons (pv 3) (pa_cons (pv 4) (pa_cons (pv 5) pa_nil))))))) pa_nil)) (pa_cons (pe_call GT (hr.mono (by decide)) (by rfl) mT kT bT .nil pass0 (pa_cons (pv 0) (pa_cons (pv 9) pa_nil))) pa_nil))) pa_nil)))))))
      (pss_cons (ps_set (i := 10) scLC.nd rfl (Or.inl rfl) (pe_callTy call_tuple_of (by rfl) mtuple (by decide +kernel) (pa_cons (pe_lc (own := [("spot", 8)]) (g := gName 8) (tt := tYes) rfl scLC.nd (pi_range1 (by rfl) mrange (pa_cons (pv 4) pa_nil)) (blkOk_by (N := nLC) (sc := defScope sLCircuit) (by decide +kernel)) (fun _ _ _ _ _ => (pg_name (i := 8) scLC.nd rfl (Or.inl rfl))) (fun _ _ _ _ _ => pts_nil) (fun _ _ _ _ _ => (pe_tup (pa_cons (pe_call GD (hr.mono (by decide)) (by rfl) mD kD bD .nil pass0 (pa_cons (pv 0) (pa_cons pe_int pa_nil))) (pa_cons (pe_call GS (hr.mono (by decide)) (by rfl) mS kS bS .nil pass0 (pa_cons (pv 0) (pa_cons (pv 3) (pa_cons (pv 4) (pa_cons (pv 5) pa_nil))))) pa_nil))))) pa_nil)))
      (pss_cons (ps_set (i := 11) scLC.nd rfl (Or.inl rfl) (pe_callTy call_tuple_of (by rfl) mtuple (by decide +kernel) (pa_cons (pe_lc (own := [("spot", 8)]) (g := gName 8) (tt := tYes) rfl scLC.nd (pi_range1 (by rfl) mrange (pa_cons (pe_call GD (hr.mono (by decide)) (by rfl) mD kD bD .nil pass0 (pa_cons (pv 0) (pa_cons pe_int pa_nil))) pa_nil)) (blkOk_by (N := nLC) (sc := defScope sLCircuit) (by decide +kernel)) (fun _ _ _ _ _ => (pg_name (i := 8) scLC.nd rfl (Or.inl rfl))) (fun _ _ _ _ _ => pts_nil) (fun _ _ _ _ _ => (pe_call GS (hr.mono (by decide)) (by rfl) mS kS bS .nil pass0 (pa_cons (pv 0) (pa_cons (pv 3) (pa_cons (pv 4) (pa_cons (pv 5) pa_nil))))))) pa_nil)))
      (pss_one (ps_ret (pe_tup (pa_cons (pv 3) (pa_cons (pv 10) (pa_cons (pe_callTy call_tuple_of (by rfl) mtuple (by decide +kernel) (pa_cons (pv 6) pa_nil)) (pa_cons (pv 11) pa_nil)))))))))))), ?_⟩
    -- inputs, registers, gates
    refine ⟨_, rfl, st, lg, cl, t, 4, rfl, by decide, by decide, by omega, S, fun k1 H1 a0 a1 S1 U1 => ⟨_, rfl, st, lg, cl, t + 1, 3, rfl, by decide, by decide, by omega, S1, fun k2 H2 b0 b1 S2 U2 => ⟨_, rfl, _, rfl, st, lg, cl, t + 2, (most : Int), rfl, by omega, by omega, by omega, S2, fun k3 H3 c0 c1 S3 U3 => ?_⟩⟩⟩
    obtain ⟨ni, rfl⟩ : ∃ n : Nat, k1 = n := ⟨k1.toNat, (Int.toNat_of_nonneg a0).symm⟩
    obtain ⟨nr, rfl⟩ : ∃ n : Nat, k2 = n := ⟨k2.toNat, (Int.toNat_of_nonneg b0).symm⟩
    obtain ⟨ng, eng, ng1, ng2⟩ : ∃ n : Nat, 1 + k3 = (n : Int) ∧ 1 ≤ n ∧ n ≤ most := ⟨(1 + k3).toNat, by omega, by omega, by omega⟩
    refine ⟨_, _, rfl, rfl, ?_⟩
    refine ⟨(by show 3 ≤ sizeLine; decide), fun tp ntp => ?_⟩
    have s34 := same_new (o := .tup [.int (ni : Int), .int (nr : Int), .int (1 + k3)]) ntp
    have e4 : (L2.upd H3 tp (.tup [.int (ni : Int), .int (nr : Int), .int (1 + k3)])) tp = some (.tup [.int (ni : Int), .int (nr : Int), .int (1 + k3)]) := upd_same
    have S4 := S3.keep s34
    have U4 := ((U1.trans U2).trans U3).trans (But.of s34)
    generalize L2.upd H3 tp (.tup [.int (ni : Int), .int (nr : Int), .int (1 + k3)]) = H4 at e4 S4 U4
    rw [eng] at e4
    refine ⟨tp, _, rfl, .inl (.inl e4), rfl, _, _, rfl, _, _, rfl, _, _, rfl, rfl, ?_⟩
    -- found, left = [], branches
    refine ⟨Nat.zero_le _, fun fa nfa => ⟨_, rfl, _, _, rfl, ?_⟩⟩
    have nfs := But.st_new (o := .tup []) S4 nfa
    have d1 : DI GateAt (fun g : Gate => g.ok ni nr ng) st lg cl H4 fa (t + 3) 40 0 (L2.upd H4 fa (.lst [])) := DI.zero nfa S4
    generalize L2.upd H4 fa (.lst []) = H5 at d1
    refine ⟨_, rfl, ng, rfl, by omega, by omega, ?_⟩
    rw [Int.toNat_natCast]
    refine for_range (fun i σ Hx => ∃ (li : Int) (y8 y9 y10 y11 : Option V) (lf : Nat), σ = [some (.ref st), some (.int (most : Int)), some (.int (br : Int)), some (.int (ni : Int)), some (.int (nr : Int)), some (.int (ng : Int)), some (.ref fa), some (.int li), y8, y9, y10, y11, none] ∧ li = (lf : Int) ∧
        ∃ (vs : List V) (xs : List Gate), Hx fa = some (.lst vs) ∧ vs.length = i ∧ AllAt GateAt Hx vs xs ∧ (∀ x ∈ xs, x.ok ni nr ng) ∧ StOk Hx st lg cl (t + 3 + 40 * i) ∧ But st lg H4 Hx ∧ fanG xs + lf ≤ br)
      ?start (fun i σ Hx hi hh => ?turn) (fun σ Hx hh => ?done)
    case start =>
      obtain ⟨vs, xs, h1, h2, h3, h4, h5, h6⟩ := d1
      refine ⟨_, _, _, _, _, br, rfl, rfl, vs, xs, h1, h2, h3, h4, h5, h6, ?_⟩
      have : xs = [] := by
        cases xs with
        | nil => rfl
        | cons a r =>
          have z := Paired.length h3
          rw [h2] at z
          cases z
      rw [this]
      show 0 + br ≤ br
      omega
    case turn =>
      obtain ⟨_, y8, y9, y10, y11, lf, rfl, rfl, vs, xs, efa, lvs, hvs, hok, Sx, Ux, hfan⟩ := hh
      -- size = min(left, _law_pick(..))
      refine ⟨_, rfl, _, rfl, (by show 8 ≤ sizeLine; decide), fun lp nlp => ?_⟩
      have s1 := same_new (o := .lst [V.int 0, .int 1, .int 1, .int 2, .int 2, .int 2, .int 3, .int 4]) nlp
      have nlp2 := But.st_new (o := .tup []) Sx nlp
      refine ⟨st, lg, cl, lp, t + 3 + 40 * i, [V.int 0, .int 1, .int 1, .int 2, .int 2, .int 2, .int 3, .int 4], rfl, (by show 0 < 8; decide), (by show 8 ≤ 1000; decide), nlp2.1, nlp2.2, .inl (.inl upd_same), by omega, Sx.keep s1, fun x H6 hx S6 U6 => ?_⟩
      obtain ⟨k, rfl, hk4⟩ := pick_size x hx
      refine ⟨_, _, rfl, ?_⟩
      obtain ⟨sz, esz, hs1, hs2⟩ : ∃ sz : Nat, (if (k : Int) < (lf : Int) then (k : Int) else (lf : Int)) = (sz : Int) ∧ sz ≤ 4 ∧ sz ≤ lf := by
        by_cases c : (k : Int) < (lf : Int)
        · exact ⟨k, if_pos c, hk4, by omega⟩
        · exact ⟨lf, if_neg c, by omega, Nat.le_refl _⟩
      rw [esz]
      have efa6 := U6 _ _ (s1 _ _ efa) nfs.1 nfs.2
      have hvs6 : AllAt GateAt H6 vs xs := all_ext (fun v x r => r.keep ((TupKeep.of s1).trans (U6.tup (Sx.keep s1)))) hvs
      have Ux6 := (Ux.trans (But.of s1)).trans U6
      -- left = left - size
      refine ⟨_, rfl, _, rfl, _, _, rfl, rfl, ?_⟩
      have elf : (lf : Int) - (sz : Int) = ((lf - sz : Nat) : Int) := by omega
      -- found.append((tuple([..]), _law_table(state, size)))
      refine ⟨_, rfl, .inl ⟨rfl, vs, .inl (.inl efa6)⟩, _, rfl, sz, rfl, by omega, by omega, fun D nD => ?_⟩
      rw [Int.toNat_natCast]
      have nDs := But.st_new (o := .tup []) S6 nD
      have Dfa : D ≠ fa := fun z => by
        rw [z, efa6] at nD
        cases nD
      refine lc_range (DI SrcAt (fun sr : Src => sr.ok ni nr ng) st lg cl H6 D (t + 3 + 40 * i + 1) 5) (DI.zero nD S6) (fun j H7 hj d => ?_) (fun H7 d => ?_)
      · obtain ⟨_, _, _, _, _, _, S7, _⟩ := id d
        refine ⟨rfl, _, rfl, _, rfl, _, rfl, _, rfl, st, lg, cl, t + 3 + 40 * i + 1 + 5 * j, ni, nr, ng, rfl, by omega, by omega, by omega, by omega, S7, fun x sr H8 hs oks S8 U8 => ?_⟩
        exact DI.push (fun H H' v x k r => r.keep k) nD S6 d (by omega) U8 (S8.up (by omega)) hs oks
      obtain ⟨zs, srs, eD, lsr, hzs, oks, S7, U7⟩ := d.all
      refine ⟨D, zs, rfl, .inl ⟨.inl (.inl eD), fun p np => ?_⟩⟩
      have s8 := same_new (o := .tup zs) np
      have ep : (L2.upd H7 p (.tup zs)) p = some (.tup zs) := upd_same
      have S8 := S7.keep s8
      have U8 := U7.trans (But.of s8)
      have hzs8 : AllAt SrcAt (L2.upd H7 p (.tup zs)) zs srs := all_ext (fun v x r => r.keep (.of s8)) hzs
      generalize L2.upd H7 p (.tup zs) = H8 at ep S8 U8 hzs8
      refine ⟨_, rfl, _, rfl, st, lg, cl, _, sz, rfl, hs1, by omega, S8, fun tb p2 H9 ltb e9 n9 S9 U9 => ⟨(by show 2 ≤ sizeLine; decide), fun gp ngp => ?_⟩⟩
      have s10 := same_new (o := .tup [.ref p, .ref p2]) ngp
      have egp : (L2.upd H9 gp (.tup [.ref p, .ref p2])) gp = some (.tup [.ref p, .ref p2]) := upd_same
      have S10 := S9.keep s10
      have U10 := (U8.trans U9).trans (But.of s10)
      have k9 := (U9.tup S8).trans (TupKeep.of s10)
      have hga : GateAt (L2.upd H9 gp (.tup [.ref p, .ref p2])) (.ref gp) (srs, tb) := ⟨gp, p, p2, zs, rfl, egp, k9 _ _ ep, all_ext (fun v x r => r.keep k9) hzs8, s10 _ _ e9⟩
      have hvs10 : AllAt GateAt (L2.upd H9 gp (.tup [.ref p, .ref p2])) vs xs := all_ext (fun v x r => r.keep (U10.tup S6)) hvs6
      have efa10 := U10 _ _ efa6 nfs.1 nfs.2
      have hok' : Gate.ok ni nr ng (srs, tb) := ⟨by show srs.length ≤ 4; omega, by show tb.length = 2 ^ srs.length; rw [lsr, ltb], oks⟩
      generalize L2.upd H9 gp (.tup [.ref p, .ref p2]) = Ha at egp S10 U10 hga hvs10 efa10
      have tu : TupKeep Ha (L2.upd Ha fa (.lst (vs ++ [.ref gp]))) := TupKeep.upd efa10 fun xs z => by cases z
      refine ⟨fa, vs, _, rfl, rfl, efa10, by rw [lvs, sizeLine_eq]; omega, _, _, _, _, _, lf - sz, rfl, elf, vs ++ [.ref gp], xs ++ [(srs, tb)], upd_same, by rw [List.length_append, lvs]; rfl, ?_, fun z hz => ?_, (S10.up (by omega)).upd nfs.1 nfs.2 (S4.cl_ne nfa), fun b o eb m1 m2 => ?_, ?_⟩
      · exact paired_snoc (all_ext (fun v x r => r.keep tu) hvs10) (hga.keep tu)
      · rcases List.mem_append.mp hz with z1 | z1
        · exact hok z z1
        · rw [List.mem_singleton.mp z1]
          exact hok'
      · rw [upd_ne (ne_of_none eb nfa)]
        exact (Ux6.trans U10) _ _ eb m1 m2
      · have e : fanG (xs ++ [(srs, tb)]) = fanG xs + sz := by
          unfold fanG
          rw [List.map_append, List.sum_append]
          show _ + (srs.length + 0) = _
          omega
        rw [e]
        omega
    case done =>
      obtain ⟨_, y8, y9, y10, y11, lf, rfl, rfl, vs, xs, efa, lvs, hvs, hok, Sx, Ux, hfan⟩ := hh
      have lxs : xs.length = ng := by rw [← lvs]; exact (Paired.length hvs).symm
      -- held = tuple([..])
      refine ⟨_, rfl, nr, rfl, by omega, by omega, fun D nD => ?_⟩
      rw [Int.toNat_natCast]
      refine lc_range (DI RegAt (fun r : Bool × Src => r.2.ok ni nr ng) st lg cl Hx D (t + 3 + 40 * ng) 6) (DI.zero nD Sx) (fun j H7 hj d => ?_) (fun H7 d => ?_)
      · obtain ⟨_, _, _, _, _, _, S7, _⟩ := id d
        refine ⟨rfl, _, rfl, st, lg, cl, t + 3 + 40 * ng + 6 * j, 2, rfl, by decide, by decide, by omega, S7, fun k H8 k0 k1 S8 U8 => ⟨_, rfl, _, rfl, _, rfl, _, rfl, st, lg, cl, _, ni, nr, ng, rfl, by omega, by omega, by omega, by omega, S8, fun x sr H9 hs oks S9 U9 => ⟨(by show 2 ≤ sizeLine; decide), fun p np => ?_⟩⟩⟩
        obtain ⟨b, eb⟩ := bits01 k0 k1
        have s10 := same_new (o := .tup [.int k, x]) np
        refine DI.push (x := (b, sr)) (fun H H' v x k r => r.keep k) nD Sx d (by omega) ((U8.trans U9).trans (But.of s10)) ((S9.keep s10).up (by omega)) ⟨p, x, rfl, ?_, hs.keep (.of s10)⟩ oks
        rw [upd_same, eb]
      obtain ⟨zr, rgs, eD, lrg, hzr, okr, S7, U7⟩ := d.all
      refine ⟨D, zr, rfl, .inl ⟨.inl (.inl eD), fun pr npr => ?_⟩⟩
      have s8 := same_new (o := .tup zr) npr
      have epr : (L2.upd H7 pr (.tup zr)) pr = some (.tup zr) := upd_same
      have S8 := S7.keep s8
      have U8 := (Ux.trans U7).trans (But.of s8)
      have k78 := (U7.tup Sx).trans (TupKeep.of s8)
      have hzr8 : AllAt RegAt (L2.upd H7 pr (.tup zr)) zr rgs := all_ext (fun v x r => r.keep (.of s8)) hzr
      have hvs8 : AllAt GateAt (L2.upd H7 pr (.tup zr)) vs xs := all_ext (fun v x r => r.keep k78) hvs
      have efa8 := s8 _ _ (U7 _ _ efa nfs.1 nfs.2)
      generalize L2.upd H7 pr (.tup zr) = H8 at epr S8 U8 hzr8 hvs8 efa8
      -- outputs = tuple([..])
      refine ⟨_, rfl, st, lg, cl, _, 4, rfl, by decide, by decide, by omega, S8, fun k H9 k0 k1 S9 U9 => ⟨_, rfl, by omega, by omega, fun D2 nD2 => ?_⟩⟩
      obtain ⟨no, rfl⟩ : ∃ n : Nat, k = n := ⟨k.toNat, (Int.toNat_of_nonneg k0).symm⟩
      rw [Int.toNat_natCast]
      refine lc_range (DI SrcAt (fun sr : Src => sr.ok ni nr ng) st lg cl H9 D2 (t + 3 + 40 * ng + 6 * nr + 1) 5) (DI.zero nD2 S9) (fun j H7 hj d => ?_) (fun H10 d => ?_)
      · obtain ⟨_, _, _, _, _, _, S7, _⟩ := id d
        refine ⟨rfl, _, rfl, _, rfl, _, rfl, _, rfl, st, lg, cl, _, ni, nr, ng, rfl, by omega, by omega, by omega, by omega, S7, fun x sr H8 hs oks S8 U8 => ?_⟩
        exact DI.push (fun H H' v x k r => r.keep k) nD2 S9 d (by omega) U8 (S8.up (by omega)) hs oks
      obtain ⟨zo, ous, eD2, lou, hzo, oko, S10, U10⟩ := d.all
      refine ⟨D2, zo, rfl, .inl ⟨.inl (.inl eD2), fun po npo => ?_⟩⟩
      have s11 := same_new (o := .tup zo) npo
      have epo : (L2.upd H10 po (.tup zo)) po = some (.tup zo) := upd_same
      have S11 := S10.keep s11
      have U11 := (U9.trans U10).trans (But.of s11)
      have k11 := U11.tup S8
      have hzo11 : AllAt SrcAt (L2.upd H10 po (.tup zo)) zo ous := all_ext (fun v x r => r.keep (.of s11)) hzo
      have efa11 := U11 _ _ efa8 nfs.1 nfs.2
      generalize L2.upd H10 po (.tup zo) = H11 at epo S11 U11 k11 hzo11 efa11
      refine ⟨_, rfl, _, rfl, _, rfl, fa, vs, rfl, .inl ⟨.inl (.inl efa11), fun pg npg => ⟨_, rfl, (by show 4 ≤ sizeLine; decide), fun pc npc => ?_⟩⟩⟩
      have s12 := same_new (o := .tup vs) npg
      have epg : (L2.upd H11 pg (.tup vs)) pg = some (.tup vs) := upd_same
      generalize L2.upd H11 pg (.tup vs) = H12 at s12 epg npc
      have s13 := same_new (o := .tup [.int (ni : Int), .ref pr, .ref pg, .ref po]) npc
      have s23 := s12.trans s13
      have kk := k11.trans (TupKeep.of s23)
      refine q (.ref pc) ⟨ni, rgs, xs, ous⟩ _ ⟨pc, pr, pg, po, zr, vs, zo, rfl, upd_same, kk _ _ epr, s13 _ _ epg, s23 _ _ epo, all_ext (fun v x r => r.keep kk) hzr8, all_ext (fun v x r => r.keep kk) hvs8, all_ext (fun v x r => r.keep (.of s23)) hzo11⟩
        ⟨by show ni ≤ 8; omega, by show rgs.length ≤ 60; omega, by show xs.length ≤ 2000; omega, by show ous.length ≤ 60; omega, fun r hr => by show r.2.ok ni rgs.length xs.length; rw [lrg, lxs]; exact okr r hr, fun g hg => by show g.ok ni rgs.length xs.length; rw [lrg, lxs]; exact hok g hg, fun s hs => by show s.ok ni rgs.length xs.length; rw [lrg, lxs]; exact oko s hs⟩
        (by show ni ≤ 3; omega) (by show rgs.length ≤ 2; omega) (by show 1 ≤ xs.length; omega) (by show xs.length ≤ most; omega) (by show ous.length ≤ 3; omega) (by show fanG xs ≤ br; omega) ((S11.keep s23).up ?_) (((U4.trans U8).trans U11).trans (But.of s23))
      have h1 : 40 * ng ≤ 40 * most := Nat.mul_le_mul_left _ ng2
      omega
end
end K02

set_option Elab.async false
set_option linter.all false
set_option maxRecDepth 100000
set_option maxHeartbeats 4000000
/-! Values that a def of the law writes down: what they are, where the state's own objects are masked. -/
namespace K02
open PySem PySem.Spec L2
open PyProof.Rows GenW GxR EZ TK
open LamX (ExtN)
def mask (N : Addr → Prop) [DecidablePred N] (H : Hp) : Hp := fun b => if N b then none else H b
section
variable {N : Addr → Prop} [DecidablePred N]
theorem mask_at {H : Hp} {b : Addr} {o : HO} (n : ¬ N b) (e : H b = some o) : mask N H b = some o := by
  unfold mask
  rw [if_neg n]
  exact e
theorem mask_of {H : Hp} {b : Addr} {o : HO} (e : mask N H b = some o) : ¬ N b ∧ H b = some o := by
  unfold mask at e
  by_cases n : N b
  · rw [if_pos n] at e
    cases e
  · rw [if_neg n] at e
    exact ⟨n, e⟩
theorem Vw.unmask {H : Hp} {v : V} {d : PyData} (h : Vw (mask N H) v d) : Vw H v d := Vw.map (fun t o e _ => (mask_of e).2) _ _ h
/-- kept where all but what is masked is kept -/
theorem Vw.move {H H' : Hp} {v : V} {d : PyData} (h : Vw (mask N H) v d) (k : ∀ b o, H b = some o → ¬ N b → H' b = some o) : Vw (mask N H') v d :=
  Vw.map (fun t o e _ => by
    obtain ⟨n, e⟩ := mask_of e
    exact mask_at n (k _ _ e n)) _ _ h
theorem Vw.same {H H' : Hp} {v : V} {d : PyData} (h : Vw (mask N H) v d) (s : Same H H') : Vw (mask N H') v d := h.move fun b o e _ => s _ _ e
theorem VwAll.move {H H' : Hp} {v : List V} {d : List PyData} (h : VwAll (mask N H) v d) (k : ∀ b o, H b = some o → ¬ N b → H' b = some o) : VwAll (mask N H') v d :=
  VwAll.map (fun t o e _ => by
    obtain ⟨n, e⟩ := mask_of e
    exact mask_at n (k _ _ e n)) _ _ h
theorem VwAll.same {H H' : Hp} {v : List V} {d : List PyData} (h : VwAll (mask N H) v d) (s : Same H H') : VwAll (mask N H') v d := h.move fun b o e _ => s _ _ e
/-- the expression is the value d, beside what stands in H0 -/
def MkS (N : Addr → Prop) [DecidablePred N] (H0 : Hp) (σ : L2.St) (t : TE) (d : PyData) : Prop := ∀ (H : Hp) (Q : VK), Same H0 H → (∀ v H', Same H H' → Vw (mask N H') v d → Q v H') → t σ H Q
def MkA (N : Addr → Prop) [DecidablePred N] (H0 : Hp) (σ : L2.St) (t : TA) (ds : List PyData) : Prop := ∀ (H : Hp) (k : List V → Hp → Prop), Same H0 H → (∀ vs H', Same H H' → VwAll (mask N H') vs ds → k vs H') → t σ H k
variable {H0 : Hp} {σ : L2.St}
theorem mk_int (i : Int) : MkS N H0 σ (tC (.int i)) (.int i) := fun H Q _ q => q _ H (fun _ _ e => e) (.int i)
theorem mk_str (x : Str) : MkS N H0 σ (tC (.str x)) (.str x) := fun H Q _ q => q _ H (fun _ _ e => e) (.str x)
theorem mk_bl (x : Bool) : MkS N H0 σ (tC (.bl x)) (.bool x) := fun H Q _ q => q _ H (fun _ _ e => e) (.bl x)
theorem mk_non : MkS N H0 σ (tC .non) .none := fun H Q _ q => q _ H (fun _ _ e => e) .non
theorem mk_var {i : Nat} {v : V} {d : PyData} (h : σ[i]? = some (some v)) (hv : Vw (mask N H0) v d) : MkS N H0 σ (tVar i) d := fun H Q s q => ⟨v, h, q _ H (fun _ _ e => e) (hv.same s)⟩
theorem mk_nil : MkA N H0 σ tNil [] := fun H k _ q => q [] H (fun _ _ e => e) .nil
theorem mk_cons {t : TE} {u : TA} {d : PyData} {ds : List PyData} (h : MkS N H0 σ t d) (r : MkA N H0 σ u ds) : MkA N H0 σ (tCons t u) (d :: ds) := fun H k s q =>
  h H _ s fun v H1 s1 hv => r H1 _ (s.trans s1) fun vs H2 s2 hvs => q (v :: vs) H2 (s1.trans s2) (.cons (hv.same s2) hvs)
theorem new_no (hN : ∀ b, N b → H0 b ≠ none) {H : Hp} {p : Addr} (s : Same H0 H) (np : H p = none) : ¬ N p := fun n => by
  cases e : H0 p with
  | none => exact hN p n e
  | some o =>
    have z := s _ _ e
    rw [np] at z
    cases z
theorem mk_tup (hN : ∀ b, N b → H0 b ≠ none) {u : TA} {ds : List PyData} (h : MkA N H0 σ u ds) (l : ds.length ≤ 1000 := by decide) : MkS N H0 σ (tTup u) (.tuple ds) := fun H Q s q =>
  h H _ s fun vs H1 s1 hvs => ⟨by rw [hvs.length, sizeLine_eq]; omega, fun p np => q _ _ (s1.trans (same_new np)) (.tup (mask_at (new_no hN (s.trans s1) np) upd_same) (hvs.same (same_new np)))⟩
theorem mk_lst (hN : ∀ b, N b → H0 b ≠ none) {u : TA} {ds : List PyData} (h : MkA N H0 σ u ds) (l : ds.length ≤ 1000 := by decide) : MkS N H0 σ (tLst u) (.list []) := fun H Q s q =>
  h H _ s fun vs H1 s1 hvs => ⟨by rw [hvs.length, sizeLine_eq]; omega, fun p np => q _ _ (s1.trans (same_new np)) (.lst (mask_at (new_no hN (s.trans s1) np) upd_same))⟩
theorem VwAll.rep {H : Hp} {v : V} {d : PyData} (h : Vw H v d) : ∀ n, VwAll H (List.replicate n v) (List.replicate n d)
  | 0 => .nil
  | n + 1 => .cons h (VwAll.rep h n)
end
/-- what is known of such a value: sources begin with a text -/
def srcKB : PyData → Bool
  | .tuple [.str _, _] => true
  | .tuple [_, _] => false
  | _ => true
def regKB : PyData → Bool
  | .tuple [_, s] => srcKB s
  | _ => true
def gateKB : PyData → Bool
  | .tuple [ss, _] => (itD ss).all srcKB
  | _ => true
def circKB : PyData → Bool
  | .tuple [_, r, g, o] => (itD r).all regKB && ((itD g).all gateKB && (itD o).all srcKB)
  | _ => true
theorem srcK_by {d : PyData} (h : srcKB d = true) : SrcK d := fun k a e => by
  subst e
  cases k with
  | str z => exact ⟨z, rfl⟩
  | _ => cases h
theorem circK_by {d : PyData} (h : circKB d = true) : CircK d := fun i r g o e => by
  subst e
  have h : ((itD r).all regKB && ((itD g).all gateKB && (itD o).all srcKB)) = true := h
  simp only [Bool.and_eq_true, List.all_eq_true] at h
  obtain ⟨h1, h2, h3⟩ := h
  refine ⟨fun x hx b s e => ?_, fun x hx ss t e s hs => ?_, fun x hx => srcK_by (h3 x hx)⟩
  · subst e
    exact srcK_by (h1 _ hx)
  · subst e
    have z : (itD ss).all srcKB = true := h2 _ hx
    exact srcK_by (List.all_eq_true.mp z s hs)
end K02

set_option Elab.async false
set_option linter.all false
set_option maxRecDepth 100000
set_option maxHeartbeats 4000000
/-! A tuple times a number, 0 among them. -/
namespace TM
open PySem PySem.Spec PySem.Calls PyProof.Rows L2
theorem tuple_mul0 (l : Addr) (items : Array Value) (n : Nat) (dd : Option Addr) (sl : Array (Option Value)) (u : Tok) (c1 : items.isEmpty = false) :
    Meets (Builtin.«tuple.__mul__» ⟨[.ref l, .int 0 u], []⟩) (fun _ R s => s.heap.get? l = some { cls := .type "tuple", dict := dd, data := .seq items n, slots := sl } ∧
      R (.ok (.ret (Value.ref s.heap.objs.size))) { s with heap := s.heap.push { cls := Value.type "tuple", data := Data.seq #[] }, toks := s.toks }) :=
  .of_wp fun prog w A R s h => by
    obtain ⟨hp, g, d, tk, os⟩ := s
    obtain ⟨hl, h⟩ := h
    have f1 := AutoSeq1.idx_int
    wp_walk using wpAny_loadPart' hl
    exact ⟨_, rfl, h⟩
/-- t * k, k at least 0 (t * 1 is t itself) -/
def rRepZ (K : PySem.W.Frag) : R2 := fun x y H Q => ∃ l k xs, x = .ref l ∧ y = .int k ∧ SqT K H l xs ∧ xs ≠ [] ∧ 0 ≤ k ∧ k ≤ 1000 ∧ xs.length ≤ 1000 ∧ (k = 1 → Q (.ref l) H) ∧ (k ≠ 1 → ∀ p, H p = none → Q (.ref p) (upd H p (.tup (List.replicate k.toNat xs).flatten)))
theorem op_repZ {X : Cx} : OpR X (binaryOp .Mult) (rRepZ X.K) := by
  intro pins s σ H x y v u Q I rx ry h
  obtain ⟨l, k, xs, rfl, rfl, hT, hne, h1, h2, hz, q1, q2⟩ := h
  by_cases hk : k = 0
  · subst hk
    cases rx
    obtain ⟨t, rfl⟩ := ry
    obtain ⟨its, r, ⟨⟨cls, dd, data, sl⟩, ho, hc, n, hd⟩, hs⟩ := I.tuple hT
    simp only at hc hd
    subst hc
    subst hd
    have full : its.toArray.isEmpty = false := by
      cases its with
      | nil =>
        cases r
        exact absurd rfl hne
      | cons a b => rfl
    refine wpAny_binaryOp_repeat_ref (T := "tuple") (U := "int") (by decide) ⟨_, ho, rfl⟩ (fun s' => typeIs_int s' 0 t) noFill_tuple_mul F.fills_int_mul F.slot_int_rmul repeat_tuple F.slot_int_index.lookup
      (call_meets F.slot_int_rmul (typeIs_int s 0 t) F.entry_int_rmul (F.args_int_rmul_2 _ _) (int_rmul_tuple 0 t l its.toArray n dd sl)
        ⟨ho, rfl, ⟨_, ho, rfl⟩, call_meets F.slot_tuple_mul ⟨_, ho, rfl⟩ F.entry_tuple_mul (F.args_tuple_mul_2 _ _) (tuple_mul0 l its.toArray n dd sl t full) ⟨ho, ?_⟩⟩)
    exact ⟨.ref s.heap.objs.size, _, I.laid (t' := s.toks) (o := .tup []) (fun b ob q => Heap.get?_push_of_some _ q) (Nat.le_refl _) ⟨Nat.zero_le _, [], .nil, IsTup.new _ _⟩, rfl, q2 (by decide) _ (I.hok.fresh (Nat.le_refl _))⟩
  · exact op_repA pins s σ H (.ref l) (.int k) v u Q I rx ry ⟨l, k, xs, rfl, rfl, hT, hne, by omega, h2, hz, q1, fun z => q2 (by omega)⟩
end TM

set_option Elab.async false
set_option linter.all false
set_option maxRecDepth 100000
set_option maxHeartbeats 4000000
/-! Values that a def of the law writes down, with all that lies in them. -/
namespace K02
open PySem PySem.Spec L2
open PyProof.Rows GenW GxR EZ TK
open LamX (ExtN)
mutual
inductive Fw (H : Hp) : V → PyData → Prop
  | non : Fw H .non .none
  | bl (b : Bool) : Fw H (.bl b) (.bool b)
  | int (i : Int) : Fw H (.int i) (.int i)
  | str (x : Str) : Fw H (.str x) (.str x)
  | lst {a : Addr} {xs : List V} {ds : List PyData} : H a = some (.lst xs) → FwAll H xs ds → Fw H (.ref a) (.list ds)
  | dic {a : Addr} : H a = some (.dT []) → Fw H (.ref a) (.dict [])
  | tup {a : Addr} {xs : List V} {ds : List PyData} : H a = some (.tup xs) → FwAll H xs ds → Fw H (.ref a) (.tuple ds)
inductive FwAll (H : Hp) : List V → List PyData → Prop
  | nil : FwAll H [] []
  | cons {v : V} {vs : List V} {d : PyData} {ds : List PyData} : Fw H v d → FwAll H vs ds → FwAll H (v :: vs) (d :: ds)
end
mutual
theorem Fw.map {H H' : Hp} (e : ∀ t o, H t = some o → (∀ ps, o ≠ .tbl ps) → H' t = some o) : ∀ (d : PyData) (v : V), Fw H v d → Fw H' v d
  | _, _, .non => .non
  | _, _, .bl b => .bl b
  | _, _, .int b => .int b
  | _, _, .str b => .str b
  | _, _, .lst h t => .lst (e _ _ h fun _ z => by cases z) (FwAll.map e _ _ t)
  | _, _, .dic h => .dic (e _ _ h fun _ z => by cases z)
  | _, _, .tup h t => .tup (e _ _ h fun _ z => by cases z) (FwAll.map e _ _ t)
theorem FwAll.map {H H' : Hp} (e : ∀ t o, H t = some o → (∀ ps, o ≠ .tbl ps) → H' t = some o) : ∀ (ds : List PyData) (vs : List V), FwAll H vs ds → FwAll H' vs ds
  | _, _, .nil => .nil
  | _, _, .cons h t => .cons (Fw.map e _ _ h) (FwAll.map e _ _ t)
end
theorem Fw.ext {H H' : Hp} {d : PyData} {v : V} (h : Fw H v d) (e : ExtN H H') : Fw H' v d := Fw.map e _ _ h
theorem FwAll.length {H : Hp} : ∀ {vs : List V} {ds : List PyData}, FwAll H vs ds → vs.length = ds.length
  | _, _, .nil => rfl
  | _, _, .cons _ t => by rw [List.length_cons, List.length_cons, t.length]
theorem FwAll.get {H : Hp} : ∀ {vs : List V} {ds : List PyData}, FwAll H vs ds → ∀ {i : Nat} {v : V}, vs[i]? = some v → ∃ d, ds[i]? = some d ∧ Fw H v d
  | _, _, .nil, i, v, e => by simp at e
  | _, _, .cons h t, i, v, e => by
    cases i with
    | zero =>
      cases e
      exact ⟨_, rfl, h⟩
    | succ i => exact t.get (by simpa using e)
theorem FwAll.app {H : Hp} : ∀ {vs : List V} {ds : List PyData} {ws : List V} {es : List PyData}, FwAll H vs ds → FwAll H ws es → FwAll H (vs ++ ws) (ds ++ es)
  | _, _, _, _, .nil, k => k
  | _, _, _, _, .cons h t, k => .cons h (t.app k)
theorem FwAll.drop {H : Hp} : ∀ {vs : List V} {ds : List PyData} (k : Nat), FwAll H vs ds → FwAll H (vs.drop k) (ds.drop k)
  | _, _, 0, h => h
  | _, _, k + 1, .nil => .nil
  | _, _, k + 1, .cons _ t => t.drop k
theorem FwAll.take {H : Hp} : ∀ {vs : List V} {ds : List PyData} (k : Nat), FwAll H vs ds → FwAll H (vs.take k) (ds.take k)
  | _, _, 0, h => .nil
  | _, _, k + 1, .nil => .nil
  | _, _, k + 1, .cons h t => .cons h (t.take k)
theorem FwAll.reps {H : Hp} {vs : List V} {ds : List PyData} (h : FwAll H vs ds) : ∀ n, FwAll H (List.replicate n vs).flatten (List.replicate n ds).flatten
  | 0 => .nil
  | n + 1 => by
    rw [List.replicate_succ, List.replicate_succ, List.flatten_cons, List.flatten_cons]
    exact h.app (h.reps n)
mutual
/-- as data where lists are not looked into -/
def vwD : PyData → PyData
  | .list _ => .list []
  | .tuple ds => .tuple (vwDs ds)
  | d => d
def vwDs : List PyData → List PyData
  | [] => []
  | d :: ds => vwD d :: vwDs ds
end
mutual
theorem Fw.vw {H : Hp} : ∀ (d : PyData) (v : V), Fw H v d → Vw H v (vwD d)
  | _, _, .non => .non
  | _, _, .bl b => .bl b
  | _, _, .int b => .int b
  | _, _, .str b => .str b
  | _, _, .lst h _ => by unfold vwD; exact .lst h
  | _, _, .dic h => .dic h
  | _, _, .tup h t => by unfold vwD; exact .tup h (FwAll.vw _ _ t)
theorem FwAll.vw {H : Hp} : ∀ (ds : List PyData) (vs : List V), FwAll H vs ds → VwAll H vs (vwDs ds)
  | _, _, .nil => .nil
  | _, _, .cons h t => .cons (Fw.vw _ _ h) (FwAll.vw _ _ t)
end
theorem fwAll_of {α : Type} {R : Hp → V → α → Prop} {f : α → PyData} {H H' : Hp} (h : ∀ v x, R H v x → Fw H' v (f x)) : ∀ {vs : List V} {xs : List α}, AllAt R H vs xs → FwAll H' vs (xs.map f)
  | _, _, .nil => .nil
  | _, _, .cons r t => .cons (h _ _ r) (fwAll_of h t)
section
variable {N : Addr → Prop} [DecidablePred N]
theorem Fw.unmask {H : Hp} {v : V} {d : PyData} (h : Fw (mask N H) v d) : Fw H v d := Fw.map (fun t o e _ => (mask_of e).2) _ _ h
/-- kept where all but what is masked is kept -/
theorem Fw.move {H H' : Hp} {v : V} {d : PyData} (h : Fw (mask N H) v d) (k : ∀ b o, H b = some o → ¬ N b → H' b = some o) : Fw (mask N H') v d :=
  Fw.map (fun t o e _ => by
    obtain ⟨n, e⟩ := mask_of e
    exact mask_at n (k _ _ e n)) _ _ h
theorem Fw.same {H H' : Hp} {v : V} {d : PyData} (h : Fw (mask N H) v d) (s : Same H H') : Fw (mask N H') v d := h.move fun b o e _ => s _ _ e
theorem FwAll.move {H H' : Hp} {v : List V} {d : List PyData} (h : FwAll (mask N H) v d) (k : ∀ b o, H b = some o → ¬ N b → H' b = some o) : FwAll (mask N H') v d :=
  FwAll.map (fun t o e _ => by
    obtain ⟨n, e⟩ := mask_of e
    exact mask_at n (k _ _ e n)) _ _ h
theorem FwAll.same {H H' : Hp} {v : List V} {d : List PyData} (h : FwAll (mask N H) v d) (s : Same H H') : FwAll (mask N H') v d := h.move fun b o e _ => s _ _ e
/-- the expression is the value d, beside what stands in H0 -/
def MkF (N : Addr → Prop) [DecidablePred N] (H0 : Hp) (σ : L2.St) (t : TE) (d : PyData) : Prop := ∀ (H : Hp) (Q : VK), Same H0 H → (∀ v H', Same H H' → Fw (mask N H') v d → Q v H') → t σ H Q
def MkG (N : Addr → Prop) [DecidablePred N] (H0 : Hp) (σ : L2.St) (t : TA) (ds : List PyData) : Prop := ∀ (H : Hp) (k : List V → Hp → Prop), Same H0 H → (∀ vs H', Same H H' → FwAll (mask N H') vs ds → k vs H') → t σ H k
variable {H0 : Hp} {σ : L2.St}
theorem fk_int (i : Int) : MkF N H0 σ (tC (.int i)) (.int i) := fun H Q _ q => q _ H (fun _ _ e => e) (.int i)
theorem fk_str (x : Str) : MkF N H0 σ (tC (.str x)) (.str x) := fun H Q _ q => q _ H (fun _ _ e => e) (.str x)
theorem fk_bl (x : Bool) : MkF N H0 σ (tC (.bl x)) (.bool x) := fun H Q _ q => q _ H (fun _ _ e => e) (.bl x)
theorem fk_non : MkF N H0 σ (tC .non) .none := fun H Q _ q => q _ H (fun _ _ e => e) .non
theorem fk_var {i : Nat} {v : V} {d : PyData} (h : σ[i]? = some (some v)) (hv : Fw (mask N H0) v d) : MkF N H0 σ (tVar i) d := fun H Q s q => ⟨v, h, q _ H (fun _ _ e => e) (hv.same s)⟩
theorem fk_nil : MkG N H0 σ tNil [] := fun H k _ q => q [] H (fun _ _ e => e) .nil
theorem fk_cons {t : TE} {u : TA} {d : PyData} {ds : List PyData} (h : MkF N H0 σ t d) (r : MkG N H0 σ u ds) : MkG N H0 σ (tCons t u) (d :: ds) := fun H k s q =>
  h H _ s fun v H1 s1 hv => r H1 _ (s.trans s1) fun vs H2 s2 hvs => q (v :: vs) H2 (s1.trans s2) (.cons (hv.same s2) hvs)
theorem new_no' (hN : ∀ b, N b → H0 b ≠ none) {H : Hp} {p : Addr} (s : Same H0 H) (np : H p = none) : ¬ N p := fun n => by
  cases e : H0 p with
  | none => exact hN p n e
  | some o =>
    have z := s _ _ e
    rw [np] at z
    cases z
theorem fk_tup (hN : ∀ b, N b → H0 b ≠ none) {u : TA} {ds : List PyData} (h : MkG N H0 σ u ds) (l : ds.length ≤ 1000 := by decide) : MkF N H0 σ (tTup u) (.tuple ds) := fun H Q s q =>
  h H _ s fun vs H1 s1 hvs => ⟨by rw [hvs.length, sizeLine_eq]; omega, fun p np => q _ _ (s1.trans (same_new np)) (.tup (mask_at (new_no' hN (s.trans s1) np) upd_same) (hvs.same (same_new np)))⟩
theorem fk_lst (hN : ∀ b, N b → H0 b ≠ none) {u : TA} {ds : List PyData} (h : MkG N H0 σ u ds) (l : ds.length ≤ 1000 := by decide) : MkF N H0 σ (tLst u) (.list ds) := fun H Q s q =>
  h H _ s fun vs H1 s1 hvs => ⟨by rw [hvs.length, sizeLine_eq]; omega, fun p np => q _ _ (s1.trans (same_new np)) (.lst (mask_at (new_no' hN (s.trans s1) np) upd_same) (hvs.same (same_new np)))⟩
theorem FwAll.rep {H : Hp} {v : V} {d : PyData} (h : Fw H v d) : ∀ n, FwAll H (List.replicate n v) (List.replicate n d)
  | 0 => .nil
  | n + 1 => .cons h (FwAll.rep h n)
end
section
variable {N : Addr → Prop} [DecidablePred N] {H0 : Hp} {σ : L2.St} {K : PySem.W.Frag}
theorem Fw.tupAt {H : Hp} {v : V} {ds : List PyData} (h : Fw (mask N H) v (.tuple ds)) : ∃ a xs, v = .ref a ∧ ¬ N a ∧ H a = some (.tup xs) ∧ FwAll (mask N H) xs ds := by
  cases h with
  | tup e t => exact ⟨_, _, rfl, (mask_of e).1, (mask_of e).2, t⟩
theorem Fw.lstAt {H : Hp} {v : V} {ds : List PyData} (h : Fw (mask N H) v (.list ds)) : ∃ a xs, v = .ref a ∧ ¬ N a ∧ H a = some (.lst xs) ∧ FwAll (mask N H) xs ds := by
  cases h with
  | lst e t => exact ⟨_, _, rfl, (mask_of e).1, (mask_of e).2, t⟩
theorem fk_cat (hN : ∀ b, N b → H0 b ≠ none) {t u : TE} {ds es : List PyData} (h : MkF N H0 σ t (.tuple ds)) (k : MkF N H0 σ u (.tuple es)) (l : ds.length + es.length ≤ 10000) : MkF N H0 σ (tOp (rCatA K) t u) (.tuple (ds ++ es)) := fun H Q s q =>
  h H _ s fun v1 H1 s1 h1 => k H1 _ (s.trans s1) fun v2 H2 s2 h2 => by
    obtain ⟨a, xs, rfl, na, ea, fa⟩ := (h1.same s2).tupAt
    obtain ⟨b, ys, rfl, nb, eb, fb⟩ := h2.tupAt
    have la := fa.length
    have lb := fb.length
    refine ⟨a, b, xs, ys, rfl, rfl, .inl (.inl ea), .inl (.inl eb), by rw [sizeLine_eq]; omega, fun z => ?_, fun _ z => ?_, fun _ _ p np => ?_⟩
    · refine q _ _ (s1.trans s2) ?_
      subst z
      cases fa
      exact h2
    · refine q _ _ (s1.trans s2) ?_
      subst z
      cases fb
      rw [List.append_nil]
      exact h1.same s2
    · refine q _ _ ((s1.trans s2).trans (same_new np)) ?_
      exact .tup (mask_at (new_no' hN ((s.trans s1).trans s2) np) upd_same) ((fa.app fb).same (same_new np))
theorem fk_lcat (hN : ∀ b, N b → H0 b ≠ none) {t u : TE} {ds es : List PyData} (h : MkF N H0 σ t (.list ds)) (k : MkF N H0 σ u (.list es)) (l : ds.length + es.length ≤ 10000) : MkF N H0 σ (tOp rCat t u) (.list (ds ++ es)) := fun H Q s q =>
  h H _ s fun v1 H1 s1 h1 => k H1 _ (s.trans s1) fun v2 H2 s2 h2 => by
    obtain ⟨a, xs, rfl, na, ea, fa⟩ := (h1.same s2).lstAt
    obtain ⟨b, ys, rfl, nb, eb, fb⟩ := h2.lstAt
    have la := fa.length
    have lb := fb.length
    refine ⟨a, b, xs, ys, rfl, rfl, ea, eb, by rw [sizeLine_eq]; omega, fun p np => ?_⟩
    refine q _ _ ((s1.trans s2).trans (same_new np)) ?_
    exact .lst (mask_at (new_no' hN ((s.trans s1).trans s2) np) upd_same) ((fa.app fb).same (same_new np))
theorem fk_lrep (hN : ∀ b, N b → H0 b ≠ none) {t u : TE} {ds : List PyData} {k : Nat} (h : MkF N H0 σ t (.list ds)) (hu : MkF N H0 σ u (.int (k : Int))) (l : ds.length * k ≤ 10000) (hk : k ≤ 10000) : MkF N H0 σ (tOp rRep t u) (.list (List.replicate k ds).flatten) := fun H Q s q =>
  h H _ s fun v1 H1 s1 h1 => hu H1 _ (s.trans s1) fun v2 H2 s2 h2 => by
    obtain ⟨a, xs, rfl, na, ea, fa⟩ := (h1.same s2).lstAt
    cases h2
    have la := fa.length
    refine ⟨a, (k : Int), xs, rfl, rfl, ea, by omega, by omega, by rw [Int.toNat_natCast, la, sizeLine_eq]; omega, fun p np => ?_⟩
    rw [Int.toNat_natCast]
    refine q _ _ ((s1.trans s2).trans (same_new np)) ?_
    exact .lst (mask_at (new_no' hN ((s.trans s1).trans s2) np) upd_same) ((fa.reps k).same (same_new np))
theorem fk_rep (hN : ∀ b, N b → H0 b ≠ none) {t u : TE} {ds : List PyData} {k : Nat} (h : MkF N H0 σ t (.tuple ds)) (hu : MkF N H0 σ u (.int (k : Int))) (ne : ds ≠ []) (l : ds.length ≤ 1000) (hk : k ≤ 1000) : MkF N H0 σ (tOp (TM.rRepZ K) t u) (.tuple (List.replicate k ds).flatten) := fun H Q s q =>
  h H _ s fun v1 H1 s1 h1 => hu H1 _ (s.trans s1) fun v2 H2 s2 h2 => by
    obtain ⟨a, xs, rfl, na, ea, fa⟩ := (h1.same s2).tupAt
    cases h2
    have la := fa.length
    refine ⟨a, (k : Int), xs, rfl, rfl, .inl (.inl ea), fun z => ne (List.eq_nil_of_length_eq_zero (by rw [← la, z]; rfl)), by omega, by omega, by omega, fun z => ?_, fun _ p np => ?_⟩
    · have z2 : k = 1 := by omega
      subst z2
      refine q _ _ (s1.trans s2) ?_
      rw [List.replicate_one, List.flatten_cons, List.flatten_nil, List.append_nil]
      exact h1.same s2
    · rw [Int.toNat_natCast]
      refine q _ _ ((s1.trans s2).trans (same_new np)) ?_
      exact .tup (mask_at (new_no' hN ((s.trans s1).trans s2) np) upd_same) ((fa.reps k).same (same_new np))
theorem fk_ix {t u : TE} {ds : List PyData} {k : Nat} {d : PyData} (h : MkF N H0 σ t (.tuple ds)) (hu : MkF N H0 σ u (.int (k : Int))) (hd : ds[k]? = some d) : MkF N H0 σ (tOp (rIxT K) t u) d := fun H Q s q =>
  h H _ s fun v1 H1 s1 h1 => hu H1 _ (s.trans s1) fun v2 H2 s2 h2 => by
    obtain ⟨a, xs, rfl, na, ea, fa⟩ := (h1.same s2).tupAt
    cases h2
    have la := fa.length
    have hk : k < xs.length := by rw [la]; exact (List.getElem?_eq_some_iff.mp hd).1
    have hx := List.getElem?_eq_getElem hk
    obtain ⟨d', e1, e2⟩ := fa.get hx
    rw [hd] at e1
    cases e1
    exact ⟨a, xs, (k : Int), _, rfl, rfl, .inl (.inl ea), atI_nat hx, q _ _ (s1.trans s2) e2⟩
theorem fk_len {r : List V → Hp → VK → Prop} (hr : ∀ a xs H (Q : VK), H a = some (.tup xs) → Q (.int (xs.length : Int)) H → r [.ref a] H Q) {t : TE} {ds : List PyData} (h : MkF N H0 σ t (.tuple ds)) : MkF N H0 σ (tCB r (tCons t tNil)) (.int (ds.length : Int)) := fun H Q s q =>
  h H _ s fun v1 H1 s1 h1 => by
    obtain ⟨a, xs, rfl, na, ea, fa⟩ := h1.tupAt
    have la := fa.length
    exact hr _ _ _ _ ea (by rw [la]; exact q _ _ s1 (.int _))
theorem fk_list (hN : ∀ b, N b → H0 b ≠ none) {r : List V → Hp → VK → Prop} (hr : ∀ a xs H (Q : VK), H a = some (.tup xs) → (∀ l, H l = none → Q (.ref l) (L2.upd H l (.lst xs))) → r [.ref a] H Q) {t : TE} {ds : List PyData} (h : MkF N H0 σ t (.tuple ds)) : MkF N H0 σ (tCB r (tCons t tNil)) (.list ds) := fun H Q s q =>
  h H _ s fun v1 H1 s1 h1 => by
    obtain ⟨a, xs, rfl, na, ea, fa⟩ := h1.tupAt
    refine hr _ _ _ _ ea fun l nl => q _ _ (s1.trans (same_new nl)) ?_
    exact .lst (mask_at (new_no' hN (s.trans s1) nl) upd_same) (fa.same (same_new nl))
end
end K02

set_option Elab.async false
set_option linter.all false
set_option maxRecDepth 100000
set_option maxHeartbeats 4000000
/-! Values written down: slices, sums, one that is picked. -/
namespace K02
open PySem PySem.Spec L2
open PyProof.Rows GenW GxR EZ TK
open LamX (ExtN)
section
variable {N : Addr → Prop} [DecidablePred N] {H0 : Hp} {σ : L2.St} {K : PySem.W.Frag}
theorem sl_fromA {H : Hp} {Q : VK} {a : Addr} {xs : List V} {k : Nat} (ha : H a = some (.tup xs)) (q1 : xs.drop k = xs → Q (.ref a) H) (q2 : ∀ p, H p = none → Q (.ref p) (L2.upd H p (.tup (xs.drop k)))) : rSlA K (.ref a) (some (k : Int)) none H Q := by
  have e0 : HT.sIx xs.length 0 (some (k : Int)) = min k xs.length := by
    rw [HT.sIx_nat]
  have e1 : HT.sIx xs.length xs.length none = xs.length := rfl
  refine ⟨a, xs, rfl, .inl (.inl ha), fun h => q1 ?_, fun h p np => ?_⟩
  · have z := e0.symm.trans h.1
    by_cases c : k = 0
    · subst c
      rfl
    · have : xs.length = 0 := by omega
      rw [List.eq_nil_of_length_eq_zero this, List.drop_nil]
  · have z : cutV xs (some (k : Int)) none = xs.drop k := by
      unfold cutV
      rw [e0, e1]
      by_cases c : k ≤ xs.length
      · rw [Nat.min_eq_left c, List.take_of_length_le (by rw [List.length_drop]; omega)]
      · rw [Nat.min_eq_right (by omega), List.drop_length, List.drop_of_length_le (by omega), List.take_nil]
    rw [z]
    exact q2 p np
theorem fk_from (hN : ∀ b, N b → H0 b ≠ none) {t u : TE} {ds : List PyData} {k : Nat} (h : MkF N H0 σ t (.tuple ds)) (hu : MkF N H0 σ u (.int (k : Int))) : MkF N H0 σ (tSl (rSlA K) t (tPart u) tNoPart) (.tuple (ds.drop k)) := fun H Q s q =>
  h H _ s fun v1 H1 s1 h1 => hu H1 _ (s.trans s1) fun v2 H2 s2 h2 => by
    obtain ⟨a, xs, rfl, na, ea, fa⟩ := (h1.same s2).tupAt
    cases h2
    refine ⟨(k : Int), rfl, sl_fromA ea (fun z => q _ _ (s1.trans s2) ?_) fun p np => q _ _ ((s1.trans s2).trans (same_new np)) ?_⟩
    · have f := fa.drop k
      rw [z] at f
      exact .tup (mask_at na ea) f
    · exact .tup (mask_at (new_no' hN ((s.trans s1).trans s2) np) upd_same) ((fa.drop k).same (same_new np))
theorem fk_to (hN : ∀ b, N b → H0 b ≠ none) {t u : TE} {ds : List PyData} {k : Nat} (h : MkF N H0 σ t (.tuple ds)) (hu : MkF N H0 σ u (.int (k : Int))) (hk : k ≤ ds.length) : MkF N H0 σ (tSl (rSlA K) t tNoPart (tPart u)) (.tuple (ds.take k)) := fun H Q s q =>
  h H _ s fun v1 H1 s1 h1 => hu H1 _ (s.trans s1) fun v2 H2 s2 h2 => by
    obtain ⟨a, xs, rfl, na, ea, fa⟩ := (h1.same s2).tupAt
    cases h2
    have la := fa.length
    have e0 : HT.sIx xs.length xs.length (some (k : Int)) = k := by
      rw [HT.sIx_nat]
      omega
    have e1 : HT.sIx xs.length 0 none = 0 := rfl
    refine ⟨(k : Int), rfl, a, xs, rfl, .inl (.inl ea), fun z => q _ _ (s1.trans s2) ?_, fun _ p np => q _ _ ((s1.trans s2).trans (same_new np)) ?_⟩
    · have z2 : k = xs.length := e0.symm.trans z.2
      have f := fa
      rw [show ds.take k = ds from List.take_of_length_le (by omega)]
      exact .tup (mask_at na ea) f
    · have z : cutV xs none (some (k : Int)) = xs.take k := by
        unfold cutV
        rw [e0, e1]
        rfl
      rw [z]
      exact .tup (mask_at (new_no' hN ((s.trans s1).trans s2) np) upd_same) ((fa.take k).same (same_new np))
theorem fk_add {t u : TE} {i j : Int} (h : MkF N H0 σ t (.int i)) (hu : MkF N H0 σ u (.int j)) : MkF N H0 σ (tOp (rI0 fun i j => .int (i + j)) t u) (.int (i + j)) := fun H Q s q =>
  h H _ s fun v1 H1 s1 h1 => hu H1 _ (s.trans s1) fun v2 H2 s2 h2 => by
    cases h1
    cases h2
    exact ⟨i, j, rfl, rfl, q _ _ (s1.trans s2) (.int _)⟩
end
/-- the state's own objects -/
abbrev NS (st lg : Addr) : Addr → Prop := fun b => b = st ∨ b = lg
theorem Fw.but {st lg : Addr} {H H' : Hp} {v : V} {d : PyData} (h : Fw (mask (NS st lg) H) v d) (k : But st lg H H') : Fw (mask (NS st lg) H') v d := h.move fun b o e n => k b o e (fun z => n (.inl z)) (fun z => n (.inr z))
theorem st_here {H : Hp} {st lg cl : Addr} {t : Nat} (S : StOk H st lg cl t) : ∀ b, NS st lg b → H b ≠ none := fun b n => by
  obtain ⟨ls, cs, left, turn, A⟩ := S
  rcases n with rfl | rfl
  · rw [A.d]
    exact fun z => nomatch z
  · rw [A.l]
    exact fun z => nomatch z
theorem pick_of {K : PySem.W.Frag} {st lg cl : Addr} {t : Nat} {H : Hp} {σ : L2.St} {E : XK} {u : TE} {ds : List PyData} {Q : VK} {ta : TE} (S : StOk H st lg cl t) (ht : t < 1000000000) (ha : ∀ (H1 : Hp) (Q1 : VK), Q1 (.ref st) H1 → ta σ H1 Q1) (hu : MkF (NS st lg) H σ u (.list ds)) (n0 : 0 < ds.length) (n1 : ds.length ≤ 1000)
    (q : ∀ v d H', d ∈ ds → But st lg H H' → StOk H' st lg cl (t + 1) → Fw (mask (NS st lg) H') v d → Q v H') : tCall (spPick K) [] E (tCons ta (tCons u tNil)) σ H Q := by
  refine ha _ _ (hu H _ (fun _ _ e => e) fun v H1 s1 hv => ?_)
  obtain ⟨a, xs, rfl, na, ea, fa⟩ := hv.lstAt
  have la := fa.length
  refine ⟨st, lg, cl, a, t, xs, rfl, by omega, by omega, fun z => na (.inl z), fun z => na (.inr z), .inl (.inl ea), ht, S.keep s1, fun x H' hx S' B => ?_⟩
  obtain ⟨i, hi⟩ := List.mem_iff_getElem?.mp hx
  obtain ⟨d, hd, hf⟩ := fa.get hi
  exact q x d H' (List.mem_of_getElem? hd) ((But.of s1).trans B) S' (hf.but B)
end K02

set_option Elab.async false
set_option linter.all false
set_option maxRecDepth 100000
set_option maxHeartbeats 4000000
/-! Circuits as values that are written down; an assignment of such a value. -/
namespace K02
open PySem PySem.Spec L2
open PyProof.Rows GenW GxR EZ TK
open LamX (ExtN)
theorem fk_val {N : Addr → Prop} [DecidablePred N] {H0 : Hp} {σ : L2.St} {v : V} {d : PyData} (h : Fw (mask N H0) v d) : MkF N H0 σ (fun _ H Q => Q v H) d := fun H Q s q => q v H (fun _ _ e => e) (h.same s)
theorem cat_of {N : Addr → Prop} [DecidablePred N] {H : Hp} {K : PySem.W.Frag} {v u : V} {ds es : List PyData} {Q : VK} (hN : ∀ b, N b → H b ≠ none) (f : Fw (mask N H) v (.tuple ds)) (g : Fw (mask N H) u (.tuple es)) (l : ds.length + es.length ≤ 10000)
    (q : ∀ w H', Same H H' → Fw (mask N H') w (.tuple (ds ++ es)) → Q w H') : rCatA K v u H Q := fk_cat (σ := []) (K := K) hN (fk_val f) (fk_val g) l H Q (fun _ _ e => e) q
theorem fk_neg {N : Addr → Prop} [DecidablePred N] {H0 : Hp} {σ : L2.St} {t : TE} {i : Int} (h : MkF N H0 σ t (.int i)) : MkF N H0 σ (tUn (rU fun i => .int (-i)) t) (.int (-i)) := fun H Q s q =>
  h H _ s fun v1 H1 s1 h1 => by
    cases h1
    exact ⟨i, rfl, q _ _ s1 (.int _)⟩
theorem asg_of {N : Addr → Prop} [DecidablePred N] {H : Hp} {σ : L2.St} {t : TE} {g : TG} {r : TS} {D : Ends} {d : PyData} (h : MkF N H σ t d) (q : ∀ v H', Same H H' → Fw (mask N H') v d → g v σ H' fun σ' H2 => r D σ' H2) : tSeq (tAsg t g) r D σ H := h H _ (fun _ _ e => e) q
section
variable {N : Addr → Prop} [DecidablePred N] {H : Hp} (hN : ∀ b xs, H b = some (.tup xs) → ¬ N b)
include hN
theorem fw_src {y : V} {s : Src} (h : SrcAt H y s) : Fw (mask N H) y (srcDat s) := by
  obtain ⟨a, rfl, e⟩ := h
  exact .tup (mask_at (hN _ _ e) e) (.cons (.str _) (.cons (.int _) .nil))
theorem fw_reg {y : V} {r : Bool × Src} (h : RegAt H y r) : Fw (mask N H) y (regDat r) := by
  obtain ⟨a, v, rfl, e, hs⟩ := h
  exact .tup (mask_at (hN _ _ e) e) (.cons (.int _) (.cons (fw_src hN hs) .nil))
omit hN in
theorem fw_bits : ∀ bs : List Bool, FwAll (mask N H) (bs.map bitV) (bs.map fun b => .int (bitZ b))
  | [] => .nil
  | b :: bs => .cons (.int _) (fw_bits bs)
theorem fw_gate {y : V} {g : Gate} (h : GateAt H y g) : Fw (mask N H) y (gateDat g) := by
  obtain ⟨t, a, b, vs, rfl, e, ea, hv, eb⟩ := h
  exact .tup (mask_at (hN _ _ e) e) (.cons (.tup (mask_at (hN _ _ ea) ea) (fwAll_of (fun _ _ r => fw_src hN r) hv)) (.cons (.tup (mask_at (hN _ _ eb) eb) (fw_bits _)) .nil))
theorem fw_circ {y : V} {C : Circ} (h : CircAt H y C) : Fw (mask N H) y (circDat C) := by
  obtain ⟨t, ra, ga, oa, rs, gs, os, rfl, et, er, eg, eo, hrs, hgs, hos⟩ := h
  exact .tup (mask_at (hN _ _ et) et) (.cons (.int _) (.cons (.tup (mask_at (hN _ _ er) er) (fwAll_of (fun _ _ r => fw_reg hN r) hrs)) (.cons (.tup (mask_at (hN _ _ eg) eg) (fwAll_of (fun _ _ r => fw_gate hN r) hgs)) (.cons (.tup (mask_at (hN _ _ eo) eo) (fwAll_of (fun _ _ r => fw_src hN r) hos)) .nil))))
end
end K02

set_option Elab.async false
set_option linter.all false
set_option maxRecDepth 100000
set_option maxHeartbeats 2000000
/-! sum of lists from a list on; a list or a tuple turned about by a slice; sorted of a tuple of tuples; repr of an empty dict. -/
namespace RU
open PySem PySem.Spec L2
open PyProof.Rows

/-! ### sum(xs, ys) of lists -/
theorem args_sum2 (a b : Value) : argsOk "sum" ⟨[a, b], []⟩ := by unfold argsOk; kernel_rfl
theorem sub_list_str : isSubtype (.type "list") (.type "str") = pure false := by rw [isSubtype_type]; kernel_rfl
theorem sub_list_bytes : isSubtype (.type "list") (.type "bytes") = pure false := by rw [isSubtype_type]; kernel_rfl
theorem sub_list_bytearray : isSubtype (.type "list") (.type "bytearray") = pure false := by rw [isSubtype_type]; kernel_rfl
abbrev Lo (xs : List Value) (n : Nat) : Obj := { cls := .type "list", data := .seq xs.toArray n }
section
variable {prog : Program} {w : World} {A : Around}
theorem sum_lists_loop {R : Result → Shared → Prop} {I l S : Addr} {items : Array Value} {old : Heap} {L : Nat → List Value} (hh : A.in1.handled = none) (hne : l ≠ I) (hSI : S ≠ I) (hSl : S ≠ l)
    (ho : ∀ b o, old.get? b = some o → b ≠ I ∧ b ≠ S) (hP : ∀ (i : Nat) (v : Value), items[i]? = some v → ∃ a n, v = .ref a ∧ old.get? a = some (Lo (L i) n)) (hz : ∀ i, i ≤ items.size → ((List.range i).flatMap L).length ≤ sizeLine) :
    ∀ (k i : Nat) (s : Shared) (acc : Addr) (c nn : Nat), items.size - i = k → i ≤ items.size → s.heap.IsListIter I l i → s.heap.IsList l items → s.heap.get? S = some (Lo [.ref acc] c) → acc ≠ S → acc ≠ I →
      s.heap.get? acc = some (Lo ((List.range i).flatMap L) nn) → (∀ b o, old.get? b = some o → s.heap.get? b = some o) →
      (∀ r h' m, (∀ b o, old.get? b = some o → h'.get? b = some o) → h'.get? r = some (Lo ((List.range items.size).flatMap L) m) → (r = acc ∧ i = items.size ∨ old.get? r = none) → R (.ok (.ret (.ref r))) { s with heap := h' }) →
      codeAny (model prog w) A (.builtin "sum.loop" ⟨[.ref I, .ref S, rawInt 2, rawInt 0], []⟩) R s := by
  intro k
  induction k with
  | zero =>
    intro i s acc c nn hk hi hit hl hS hSa hIa hacc hold hR
    have hin : i = items.size := by omega
    subst hin
    refine codeAny_builtin F.entry_sum_loop ?_
    rw [Around.under_plainId F.plain_sum_loop _]
    show wpAny _ A.in1 (seqItems? (.ref S) >>= _) _ _ s
    refine wpAny_bind (wpAny_seqItems hS rfl ?_)
    show wpAny _ A.in1 (tryCatch (pyNext (.ref I)) _ >>= _) _ _ s
    refine wpAny_bind (wpAny_tryCatch (wpAny_pyNext_list_end hh hit hl (by simp) fun h' he => ?_))
    exact wpAny_pure (hR acc h' nn (fun b o e => he b o (ho b o e).1 (hold b o e)) (he _ _ hIa hacc) (.inl ⟨rfl, rfl⟩))
  | succ k ih =>
    intro i s acc c nn hk hi hit hl hS hSa hIa hacc hold hR
    have hlt : i < items.size := by omega
    obtain ⟨a, na, ev, ha⟩ := hP i items[i] (by simp [hlt])
    refine codeAny_builtin F.entry_sum_loop ?_
    rw [Around.under_plainId F.plain_sum_loop _]
    show wpAny _ A.in1 (seqItems? (.ref S) >>= _) _ _ s
    refine wpAny_bind (wpAny_seqItems hS rfl ?_)
    show wpAny _ A.in1 (tryCatch (pyNext (.ref I)) _ >>= _) _ _ s
    refine wpAny_bind (wpAny_tryCatch (wpAny_pyNext_list_item hit hl (x := items[i]) (by simp [hlt]) fun h1 hit1 hs1 => ?_))
    rw [ev]
    have k1 : ∀ b o, b ≠ I → s.heap.get? b = some o → h1.get? b = some o := fun b o n e => (hs1.2 b n).trans e
    have hS1 := k1 _ _ hSI hS
    have hacc1 := k1 _ _ hIa hacc
    have ha1 := k1 _ _ (ho _ _ ha).1 (hold _ _ ha)
    have hl1 : h1.IsList l items := hl.extBut hs1.extBut hne
    have hsum : (List.range (i + 1)).flatMap L = (List.range i).flatMap L ++ L i := by rw [List.range_succ, List.flatMap_append]; simp
    have hz1 := hz (i + 1) hlt
    rw [hsum, List.length_append] at hz1
    show wpAny _ A.in1 ((holding [Value.ref a] (binaryOp .Add (.ref acc) (.ref a))).attempt >>= _) _ _ _
    refine wpAny_bind (wpAny_attempt (wpAny_holding (PySem.P.add_list (s := { s with heap := h1 }) hacc1 ha1 ?_ (by rw [List.size_toArray, List.size_toArray]; exact hz1))))
    have eo : (((List.range i).flatMap L).toArray ++ (L i).toArray) = ((List.range (i + 1)).flatMap L).toArray := by rw [hsum]; simp
    rw [eo]
    show wpAny _ A.in1 (updateSeq S (fun _ => #[Value.ref h1.objs.size]) >>= _) _ _ _
    have hS2 : (h1.push (Lo ((List.range (i + 1)).flatMap L) 0)).get? S = some (Lo [.ref acc] c) := Heap.get?_push_of_some _ hS1
    have hp2 : (h1.push (Lo ((List.range (i + 1)).flatMap L) 0)).get? h1.objs.size = some (Lo ((List.range (i + 1)).flatMap L) 0) := Heap.get?_push_size _ rfl
    have nS : h1.objs.size ≠ S := fun z => absurd (z ▸ Heap.lt_size hS1) (Nat.lt_irrefl _)
    have nI : h1.objs.size ≠ I := fun z => by
      obtain ⟨o, e, _⟩ := hit1
      exact absurd (z ▸ Heap.lt_size e) (Nat.lt_irrefl _)
    have k2 : ∀ b o, h1.get? b = some o → (h1.push (Lo ((List.range (i + 1)).flatMap L) 0)).get? b = some o := fun b o e => Heap.get?_push_of_some _ e
    have hit2 : (h1.push (Lo ((List.range (i + 1)).flatMap L) 0)).IsListIter I l (i + 1) := hit1.at fun o e => k2 I o e
    have hl2 : (h1.push (Lo ((List.range (i + 1)).flatMap L) 0)).IsList l items := hl1.push _
    generalize h1.push (Lo ((List.range (i + 1)).flatMap L) 0) = h2 at hS2 hp2 k2 hit2 hl2
    refine wpAny_bind (wpAny_updateSeq hS2 rfl ?_)
    have hS3 := Heap.get?_update_self (Obj.mapSeq fun _ => #[Value.ref h1.objs.size]) hS2 rfl
    have k3 : ∀ b, b ≠ S → (h2.update S (Obj.mapSeq fun _ => #[Value.ref h1.objs.size])).get? b = h2.get? b := fun b n => Heap.get?_update_other _ _ (Ne.symm n)
    generalize h2.update S (Obj.mapSeq fun _ => #[Value.ref h1.objs.size]) = h3 at hS3 k3
    refine wpAny_bind (wpAny_letGo ?_)
    have hS4 := Heap.get?_update_self (Obj.mapSeq fun _ => #[Value.ref h1.objs.size]) hS3 rfl
    have k4 : ∀ b, b ≠ S → (h3.update S (Obj.mapSeq fun _ => #[Value.ref h1.objs.size])).get? b = h3.get? b := fun b n => Heap.get?_update_other _ _ (Ne.symm n)
    refine wpAny_bind (wpAny_updateSeq hS3 rfl ?_)
    generalize h3.update S (Obj.mapSeq fun _ => #[Value.ref h1.objs.size]) = h4 at hS4 k4
    have k5 : ∀ b o, b ≠ S → h2.get? b = some o → h4.get? b = some o := fun b o n e => ((k4 b n).trans (k3 b n)).trans e
    refine wpAny_pure ⟨plainId_quiet F.plain_sum_loop _, ih (i + 1) { s with heap := h4 } h1.objs.size _ _ (by omega) hlt (hit2.at fun o e => k5 I o (Ne.symm hSI) e) ?_ hS4 nS nI (k5 _ _ nS hp2) (fun b o e => k5 b o (ho b o e).2 (k2 b o (k1 b o (ho b o e).1 (hold b o e)))) fun r h' m q1 q2 q3 => hR r h' m q1 q2 ?_⟩
    · obtain ⟨o, e, r⟩ := hl2
      exact ⟨o, k5 _ _ (Ne.symm hSl) e, r⟩
    · rcases q3 with ⟨q3, _⟩ | q3
      · refine .inr ?_
        rw [q3]
        cases z : old.get? h1.objs.size with
        | none => rfl
        | some o => exact absurd (Heap.lt_size (k1 _ _ (ho _ _ z).1 (hold _ _ z))) (Nat.lt_irrefl _)
      · exact .inr q3
theorem call_sum_lists {E : Value → Shared → Prop} {s : Shared} {l b : Addr} {nb : Nat} {items : Array Value} {L : Nat → List Value} {Q : Value → Shared → Prop} (hh : A.handled = none) (hl : s.heap.IsList l items)
    (hP : ∀ (i : Nat) (v : Value), items[i]? = some v → ∃ a n, v = .ref a ∧ s.heap.get? a = some (Lo (L i) n)) (hb : s.heap.get? b = some (Lo [] nb)) (hz : ∀ i, i ≤ items.size → ((List.range i).flatMap L).length ≤ sizeLine)
    (h : ∀ r h' m, (∀ c o, s.heap.get? c = some o → h'.get? c = some o) → h'.get? r = some (Lo ((List.range items.size).flatMap L) m) → (r = b ∧ 0 = items.size ∨ s.heap.get? r = none) → Q (.ref r) { s with heap := h' }) :
    wpAny (model prog w) A (call (.builtin "sum") [.ref l, .ref b]) Q E s := by
  have hlt : l < s.heap.objs.size := by obtain ⟨_, e, _⟩ := hl; exact Heap.lt_size e
  refine call_function_tree F.kind_sum F.plain_sum F.entry_sum (args_sum2 _ _) ?_
  unfold Builtin.«sum»
  simp only [List.length_cons, List.length_nil]
  rw [if_neg (by decide)]
  refine wpAny_bind (wpAny_of_eq (show Builtin.Builtins.bindParams "sum" ["start"] 0 ⟨[.ref b], []⟩ = pure [some (.ref b)] from rfl) ?_)
  refine wpAny_bind (wpAny_pyIter_list hl ?_)
  refine wpAny_bind (wpAny_pure ?_)
  have kI : ∀ c o, s.heap.get? c = some o → (s.heap.push { cls := .type "list_iterator", data := .fields #[.ref l, .int 0 0] }).get? c = some o := fun c o e => Heap.get?_push_of_some _ e
  have hitI : (s.heap.push { cls := .type "list_iterator", data := .fields #[.ref l, .int 0 0] }).IsListIter s.heap.objs.size l 0 := ⟨_, Heap.get?_push_size _ rfl, rfl, rfl⟩
  have hlI : (s.heap.push { cls := .type "list_iterator", data := .fields #[.ref l, .int 0 0] }).IsList l items := hl.push _
  generalize s.heap.push { cls := .type "list_iterator", data := .fields #[.ref l, .int 0 0] } = hI at kI hitI hlI
  have tb : ({ s with heap := hI } : Shared).TypeIs (.ref b) "list" := ⟨_, kI _ _ hb, rfl⟩
  simp only [List.forIn_cons, List.forIn_nil]
  refine wpAny_bind (wpAny_bind (wpAny_bind (wpAny_isInstance (T := "list") (b := false) tb sub_list_str ?_)))
  simp only [Bool.false_eq_true, if_false]
  refine wpAny_pure (wpAny_bind (wpAny_bind (wpAny_isInstance (T := "list") (b := false) tb sub_list_bytes ?_)))
  simp only [Bool.false_eq_true, if_false]
  refine wpAny_pure (wpAny_bind (wpAny_bind (wpAny_isInstance (T := "list") (b := false) tb sub_list_bytearray ?_)))
  simp only [Bool.false_eq_true, if_false]
  refine wpAny_pure (wpAny_pure ?_)
  refine wpAny_bind (wpAny_newObj_type ?_)
  have nb1 : b ≠ hI.objs.size := fun z => absurd (z ▸ Heap.lt_size (kI _ _ hb)) (Nat.lt_irrefl _)
  have nI1 : hI.objs.size ≠ s.heap.objs.size := fun z => by
    obtain ⟨o, e, _⟩ := hitI
    exact absurd (z ▸ Heap.lt_size e) (Nat.lt_irrefl _)
  have nl1 : hI.objs.size ≠ l := fun z => by
    obtain ⟨o, e, _⟩ := hlI
    exact absurd (z ▸ Heap.lt_size e) (Nat.lt_irrefl _)
  refine wpAny_pure ⟨plainId_quiet F.plain_sum_loop _, sum_lists_loop (old := s.heap) (l := l) (items := items) (L := L) hh (Nat.ne_of_lt hlt) nI1 nl1 (fun c o e => ⟨Nat.ne_of_lt (Heap.lt_size e), fun z => absurd (z ▸ Heap.lt_size (kI _ _ e)) (Nat.lt_irrefl _)⟩) hP hz items.size 0 _ b _ _ rfl (Nat.zero_le _)
    (hitI.at fun o e => Heap.get?_push_of_some _ e) (hlI.push _) (Heap.get?_push_size _ rfl) nb1 (fun z => absurd (z ▸ Heap.lt_size hb) (Nat.lt_irrefl _)) (Heap.get?_push_of_some _ (kI _ _ hb)) (fun c o e => Heap.get?_push_of_some _ (kI _ _ e)) fun r h' m q1 q2 q3 => h r h' m q1 q2 q3⟩
end
theorem flat_range {α : Type} : ∀ (vss : List (List α)), (List.range vss.length).flatMap (fun i => vss.getD i []) = vss.flatten
  | [] => rfl
  | v :: r => by
    rw [List.length_cons, List.range_succ_eq_map, List.flatMap_cons, List.flatMap_map, List.flatten_cons, ← flat_range r]
    rfl
theorem flat_up {α : Type} (f : Nat → List α) (i : Nat) : ∀ k, ((List.range i).flatMap f).length ≤ ((List.range (i + k)).flatMap f).length
  | 0 => Nat.le_refl _
  | k + 1 => by
    refine Nat.le_trans (flat_up f i k) ?_
    rw [show i + (k + 1) = (i + k) + 1 from rfl, List.range_succ, List.flatMap_append, List.length_append]
    omega
theorem flat_le {α : Type} {vss : List (List α)} {n : Nat} (h : vss.flatten.length ≤ n) (i : Nat) (hi : i ≤ vss.length) : ((List.range i).flatMap (fun i => vss.getD i [])).length ≤ n := by
  have z := flat_up (fun i => vss.getD i []) i (vss.length - i)
  rw [show i + (vss.length - i) = vss.length by omega, flat_range] at z
  omega
/-- sum(xs, []) of a list of lists -/
def rSumL (K : PySem.W.Frag) : List V → Hp → VK → Prop := fun vs H Q => ∃ (l b : Addr) (xs : List V) (yss : List (List V)), vs = [.ref l, .ref b] ∧ SqL K H l xs ∧ H b = some (.lst []) ∧ Paired (fun x ys => ∃ a, x = V.ref a ∧ H a = some (.lst ys)) xs yss ∧
  yss.flatten.length ≤ sizeLine ∧ (xs = [] → Q (.ref b) H) ∧ ∀ p, H p = none → Q (.ref p) (upd H p (.lst yss.flatten))
theorem vss_of {X : Cx} {pins : List (Addr × Obj)} {σ : L2.St} {H : Hp} {s : Shared} (I : Inv X pins σ H s) {xs : List V} {yss : List (List V)} (h : Paired (fun x ys => ∃ a, x = V.ref a ∧ H a = some (.lst ys)) xs yss) :
    ∀ {its : List Value}, Vals xs its → ∃ vss : List (List Value), vss.length = its.length ∧ Vals yss.flatten vss.flatten ∧ ∀ (i : Nat) (v : Value), its[i]? = some v → ∃ a n, v = .ref a ∧ s.heap.get? a = some (Lo (vss.getD i []) n) := by
  induction h with
  | nil =>
    intro its r
    cases r
    exact ⟨[], rfl, .nil, fun i v e => by simp at e⟩
  | cons r t ih =>
    intro its rv
    cases rv with
    | cons rx rt =>
      obtain ⟨a, rfl, ha⟩ := r
      cases rx
      obtain ⟨vss, h1, h2, h3⟩ := ih rt
      obtain ⟨us, n, ru, e, _⟩ := I.lst ha
      refine ⟨us :: vss, by simp [h1], ?_, fun i v hv => ?_⟩
      · rw [List.flatten_cons, List.flatten_cons]
        exact ru.append h2
      · cases i with
        | zero =>
          cases hv
          exact ⟨a, n, rfl, e⟩
        | succ i => exact h3 i v hv
theorem cr_sumL {X : Cx} (hc : X.calm = true) : CallR X (.builtin "sum") (rSumL X.K) := by
  intro pins s σ H vs us Q I r h
  obtain ⟨l, b, xs, yss, rfl, hs, hb, hp, hz, q0, q1⟩ := h
  rcases r with _ | ⟨r1, r2⟩
  rcases r2 with _ | ⟨r2, r3⟩
  cases r3
  cases r1
  cases r2
  obtain ⟨its, rv, hl, _⟩ := I.list hs
  obtain ⟨bs, nb, rb, eb, _⟩ := I.lst hb
  cases rb
  obtain ⟨vss, h1, h2, h3⟩ := vss_of I hp rv
  have hz2 : vss.flatten.length ≤ sizeLine := by rw [← h2.length]; exact hz
  refine call_sum_lists (L := fun i => vss.getD i []) (I.ok.hd hc) hl.isList (fun i v e => h3 i v (by simpa using e)) eb (fun i hi => flat_le hz2 i (by rw [h1]; simpa using hi)) fun r h' m k1 k2 k3 => ?_
  rw [List.size_toArray, ← h1, flat_range] at k2
  rcases k3 with ⟨rfl, k3⟩ | k3
  · have e : xs = [] := by
      have := rv.length
      rw [List.size_toArray] at k3
      exact List.length_eq_zero_iff.mp (by omega)
    exact ⟨.ref _, H, I.kept k1, rfl, q0 e⟩
  · have hn : H r = none := I.hok.gone k3
    have new : ObjOk X.prog X.w (upd H r (.lst yss.flatten)) h' r (.lst yss.flatten) := ⟨hz, _, m, h2, k2⟩
    exact ⟨.ref r, _, I.laidN (t' := s.toks) k1 k3 hn new, rfl, q1 r hn⟩

/-! ### xs[::-1] -/
/-- what a value turned about is: the slice object stands at sl -/
def RevR (X : Cx) (r : V → Hp → VK → Prop) : Prop :=
  ∀ (pins : List (Addr × Obj)) (s : Shared) (σ : L2.St) (H : Hp) (x : V) (v : Value) (sl : Addr) (t : Tok) (Q : VK), Inv X pins σ H s → RelV x v → s.heap.IsSliceOf sl .none .none (.int (-1) t) → r x H Q →
    ∃ T id, typeLookup (.type T) "__getitem__" = pure (some (.builtin id)) ∧ s.TypeIs v T ∧ wpAny (model X.prog X.w) X.A (getItem v (.ref sl)) (EP X pins σ Q) X.xe s
def tRev (r : V → Hp → VK → Prop) (te ts : TE) : TE := fun σ H Q => te σ H fun x H1 => ts σ H1 fun k H2 => k = .int (-1) ∧ r x H2 Q
theorem pe_rev {X : Cx} {e st : Expr} {te ts : TE} {pos p2 : Pos} {r : V → Hp → VK → Prop} (hr : RevR X r) (he : PE X e te) (hst : PE X st ts) : PE X (.Subscript e (.Slice none none (some st) p2) pos) (tRev r te ts) := by
  refine ⟨fun pins s σ H Q I h => ?_⟩
  refine Subscript_ (thn (he.run pins s σ H _ I h) fun v s1 ⟨x, H1, I1, r1, q1⟩ => ?_)
  refine wpAny_Slice ?_
  rw [evalPart_none, evalPart_some]
  refine wpAny_pure (wpAny_pure ?_)
  refine thn (hst.run pins s1 σ H1 _ I1 q1) fun u s2 ⟨k, H2, I2, r2, ek, q2⟩ => ?_
  subst ek
  obtain ⟨t, rfl⟩ := r2
  have I4 : Inv X pins σ H2 { s2 with heap := s2.heap.push { cls := .type "slice", data := .fields #[.none, .none, .int (-1) t] } } := I2.kept (t' := s2.toks) fun b ob q => Heap.get?_push_of_some _ q
  obtain ⟨T, id, hT, ht, hg⟩ := hr pins { s2 with heap := s2.heap.push { cls := .type "slice", data := .fields #[.none, .none, .int (-1) t] } } σ H2 x v s2.heap.objs.size t Q I4 r1 (Heap.IsSliceOf.new ..) q2
  show wpAny (model X.prog X.w) X.A (subscriptTail e (.Slice none none (some st) p2) v (.ref s2.heap.objs.size)) (EP X pins σ Q) X.xe { s2 with heap := s2.heap.push { cls := .type "slice", data := .fields #[.none, .none, .int (-1) t] } }
  exact tail_any (ops := [v, .ref s2.heap.objs.size]) ht hT hg (by with_unfolding_all rfl)
theorem back_pick {α : Type} : ∀ (ys : List α), (List.range ys.length).filterMap (fun k => ys.reverse[ys.length - 1 - k]?) = ys
  | [] => rfl
  | a :: ys => by
    rw [List.length_cons, List.range_succ_eq_map, List.filterMap_cons, List.filterMap_map]
    have e0 : (a :: ys).reverse[ys.length + 1 - 1 - 0]? = some a := by
      rw [List.reverse_cons, List.getElem?_append_right (by rw [List.length_reverse]; omega), List.length_reverse]
      have : ys.length + 1 - 1 - 0 - ys.length = 0 := by omega
      rw [this]
      rfl
    rw [e0]
    show a :: _ = a :: ys
    congr 1
    by_cases hn : ys.length = 0
    · rw [List.length_eq_zero_iff.mp hn]
      rfl
    · refine Eq.trans ?_ (back_pick ys)
      congr 1
      funext k
      show (a :: ys).reverse[ys.length + 1 - 1 - (k + 1)]? = ys.reverse[ys.length - 1 - k]?
      have : ys.length + 1 - 1 - (k + 1) = ys.length - 1 - k := by omega
      rw [this, List.reverse_cons, List.getElem?_append_left (by rw [List.length_reverse]; omega)]
theorem pick_rev {α : Type} (xs : List α) : (List.range xs.length).filterMap (fun k => xs[xs.length - 1 - k]?) = xs.reverse := by
  have := back_pick xs.reverse
  rw [List.length_reverse, List.reverse_reverse] at this
  exact this
theorem pick_back (its : List Value) : slicePick its.toArray none none (some (-1)) = its.reverse.toArray := by
  unfold slicePick
  have e : sliceRange (sliceBounds none none (some (-1)) its.toArray.size).1 (sliceBounds none none (some (-1)) its.toArray.size).2.1 (sliceBounds none none (some (-1)) its.toArray.size).2.2 = (List.range its.length).map fun k => its.length - 1 - k := by
    have e1 : sliceBounds none none (some (-1)) its.toArray.size = ((its.length : Int) - 1, -1, -1) := by simp [sliceBounds]
    rw [e1]
    show sliceRange ((its.length : Int) - 1) (-1) (-1) = _
    unfold sliceRange
    have c : (if (-1 : Int) > 0 then (if (its.length : Int) - 1 < -1 then (-1 - ((its.length : Int) - 1) + -1 - 1) / -1 else 0) else (if (its.length : Int) - 1 > -1 then ((its.length : Int) - 1 - -1 - -1 - 1) / (- -1) else 0)) = (its.length : Int) := by
      rw [if_neg (by omega)]
      split
      · have : (- -1 : Int) = 1 := by decide
        rw [this, Int.ediv_one]
        omega
      · omega
    simp only [c, Int.toNat_natCast]
    refine List.map_congr_left fun k hk => ?_
    have := List.mem_range.mp hk
    omega
  rw [e, List.filterMap_map, ← pick_rev its]
  congr 2
  funext k
  show its.toArray[its.length - 1 - k]? = _
  rw [List.getElem?_toArray]
def rRevL (K : PySem.W.Frag) : V → Hp → VK → Prop := fun x H Q => ∃ a xs, x = .ref a ∧ SqL K H a xs ∧ ∀ p, H p = none → Q (.ref p) (upd H p (.lst xs.reverse))
def rRevT (K : PySem.W.Frag) : V → Hp → VK → Prop := fun x H Q => ∃ a xs, x = .ref a ∧ SqT K H a xs ∧ ∀ p, H p = none → Q (.ref p) (upd H p (.tup xs.reverse))
theorem vals_rev {xs : List V} {us : List Value} (r : Vals xs us) : Vals xs.reverse us.reverse := by
  induction r with
  | nil => exact .nil
  | cons a t ih =>
    rw [List.reverse_cons, List.reverse_cons]
    exact ih.append (.cons a .nil)
theorem rev_list {X : Cx} : RevR X (rRevL X.K) := by
  intro pins s σ H x v sl t Q I rx hs h
  obtain ⟨a, xs, rfl, hx, q⟩ := h
  cases rx
  obtain ⟨its, r, ht, hz⟩ := I.list hx
  have hlen := r.length
  refine ⟨"list", _, slot_list_getitem.lookup, ht.isList.typeIs, ?_⟩
  refine wpAny_getItem_list_slice ht.isList hs .none .none (.int (-1) t) (by simp) ?_ (by rw [List.size_toArray] <;> omega)
  rw [pick_back]
  refine ⟨.ref s.heap.objs.size, _, I.laid (t' := s.toks) (o := .lst xs.reverse) (fun b ob q => Heap.get?_push_of_some _ q) (Nat.le_refl _) ?_, rfl, q _ (I.hok.fresh (Nat.le_refl _))⟩
  exact ⟨by rw [List.length_reverse]; exact hz, _, 0, vals_rev r, Heap.get?_push_size _ rfl⟩
theorem sliceApplied_back {prog : Program} {w : World} {A : Around} {E : Value → Shared → Prop} {s : Shared} {sl : Addr} {t : Tok} {n : Nat} {Q : Int × Int × Nat → Shared → Prop} (hs : s.heap.IsSliceOf sl .none .none (.int (-1) t))
    (h : Q ((n : Int) - 1, -1, n) s) : wpAny (model prog w) A (Builtin.Slice.sliceApplied (.ref sl) (pure (n : Int))) Q E s := by
  obtain ⟨os, hos, hcs, hds⟩ := id hs
  unfold Builtin.Slice.sliceApplied Builtin.Slice.sliceFields
  refine wpAny_bind (wpAny_bind (wpAny_field hos hds (x := .none) rfl (wpAny_bind (wpAny_field hos hds (x := .none) rfl (wpAny_bind (wpAny_field hos hds (x := .int (-1) t) rfl (wpAny_pure ?_)))))))
  refine wpAny_bind (HT.slicePart_ (.int (-1) t) ?_)
  show wpAny _ _ (if ((-1 : Int) == 0) = true then _ else _) _ _ s
  rw [if_neg (by decide)]
  refine wpAny_bind (HT.slicePart_ .none (wpAny_bind (HT.slicePart_ .none (wpAny_bind (wpAny_pure ?_)))))
  have e : Builtin.Slice.slicePlaces ((n : Int) - 1) (-1) (-1) = n := by
    unfold Builtin.Slice.slicePlaces
    rw [if_neg (by decide)]
    have : (- -1 : Int) = 1 := by decide
    rw [this, Int.ediv_one]
    split <;> omega
  show wpAny _ _ (pure ((n : Int) - 1, (-1 : Int), Builtin.Slice.slicePlaces ((n : Int) - 1) (-1) (-1))) _ _ s
  rw [e]
  exact wpAny_pure h
theorem pickT (xs : Array Value) : ((List.range xs.size).filterMap fun (k : Nat) => xs[(((xs.size : Nat) : Int) - 1 + (k : Int) * (-1)).toNat]?).toArray = xs.toList.reverse.toArray := by
  rw [← pick_rev xs.toList]
  congr 1
  rw [Array.length_toList]
  congr 1
  funext k
  have : (((xs.size : Nat) : Int) - 1 + (k : Int) * (-1)).toNat = xs.size - 1 - k := by omega
  rw [this, Array.getElem?_toList]
theorem getItem_tuple_back {prog : Program} {w : World} {A : Around} {E : Value → Shared → Prop} {s : Shared} {t sl : Addr} {k : Tok} {items : Array Value} {Q : Value → Shared → Prop} (ht : IsTup s.heap t items) (hs : s.heap.IsSliceOf sl .none .none (.int (-1) k))
    (h : Q (.ref s.heap.objs.size) { s with heap := s.heap.push { cls := .type "tuple", data := .seq items.toList.reverse.toArray } })
    (hsz : items.size ≤ sizeLine) : wpAny (model prog w) A (getItem (.ref t) (.ref sl)) Q E s := by
  have htake : sizeOk (.seq items.toList.reverse.toArray) := by
    show items.toList.reverse.toArray.size ≤ sizeLine
    rw [List.size_toArray, List.length_reverse, Array.length_toList]
    exact hsz
  obtain ⟨os, hos, hcs, hds⟩ := id hs
  have hTs : s.TypeIs (.ref sl) "slice" := ⟨os, hos, hcs⟩
  unfold getItem
  try with_reducible refine wpAny_holding ?_
  first | refine wpAny_bind (wpAny_pure ?_) | skip
  refine wpAny_bind (wpAny_sequenceKey ht.typeIs (by decide) ?_)
  refine wpAny_bind (wpAny_callSpecial?_slot (name := Str.ofString "__getitem__") ht.typeIs PyProof.Rows.slot_tuple_getitem
    (wpAny_call_entry PyProof.Rows.slot_tuple_getitem ht.typeIs entry_tuple_getitem ?_ (args_tuple_getitem _ _)))
  show wpAny _ _ (Builtin.Tuple.tupleItemsOf (.ref t) >>= _) _ _ s
  refine wpAny_bind (tupleItemsOf_ ht ?_)
  refine wpAny_bind (wpAny_typeOf hTs ?_)
  rw [if_pos (by decide)]
  refine wpAny_bind (sliceApplied_back hs ?_)
  show wpAny _ _ (if ((((items.size : Nat) : Int) - 1 == 0 && (-1 : Int) == 1 && items.size == items.size)) = true then _ else _) _ _ s
  rw [if_neg (by simp), pickT]
  first
    | exact wpAny_bind (m := Builtin.Tuple.tupleExact _) (wpAny_newObj_type (wpAny_pure ⟨_, rfl, wpAny_pure h⟩) htake)
    | exact wpAny_bind (m := Builtin.Tuple.tupleExact _) (wpAny_newObj_type (wpAny_bind (wpAny_pure (wpAny_pure ⟨_, rfl, wpAny_pure h⟩))) htake)
    | exact wpAny_bind (wpAny_bind (m := Builtin.Tuple.tupleExact _) (wpAny_newObj_type (wpAny_pure (wpAny_pure ⟨_, rfl, wpAny_pure h⟩)) htake))
    | exact wpAny_bind (wpAny_bind (m := Builtin.Tuple.tupleExact _) (wpAny_newObj_type (wpAny_pure ⟨_, rfl, wpAny_pure h⟩) htake))
theorem rev_tup {X : Cx} : RevR X (rRevT X.K) := by
  intro pins s σ H x v sl t Q I rx hs h
  obtain ⟨a, xs, rfl, hx, q⟩ := h
  cases rx
  obtain ⟨its, r, ht, hz⟩ := I.tuple hx
  have hlen := r.length
  refine ⟨"tuple", _, PyProof.Rows.slot_tuple_getitem.lookup, ht.typeIs, ?_⟩
  refine getItem_tuple_back ht hs ?_ (by rw [List.size_toArray] <;> omega)
  refine ⟨.ref s.heap.objs.size, _, I.laid (t' := s.toks) (o := .tup xs.reverse) (fun b ob q => Heap.get?_push_of_some _ q) (Nat.le_refl _) ?_, rfl, q _ (I.hok.fresh (Nat.le_refl _))⟩
  exact ⟨by rw [List.length_reverse]; exact hz, _, vals_rev r, IsTup.new _ _⟩

/-! ### sorted(t), t a tuple of tuples of numbers -/
section
variable {prog : Program} {w : World} {A : Around} {E : Value → Shared → Prop} {s : Shared}
theorem collect_tuple {l : Addr} {vs : List Value} {Q : List Value → Shared → Prop} (hl : IsTup s.heap l vs.toArray)
    (h : Q vs { s with heap := (s.heap.push (seqObj "list" #[] 0)).update s.heap.objs.size (Obj.mapSeq (· ++ vs.toArray)) }) (hsz : vs.length ≤ sizeLine) :
    wpAny (model prog w) A (collect (.ref l)) Q E s := by
  obtain ⟨o, ho, hc, n, hd⟩ := id hl
  unfold collect
  refine wpAny_bind (wpAny_runValue (codeAny_builtin entry_proto_collect' ?_))
  show wpAny _ _ (do again (.builtin "list.__iadd__" ⟨[← newList [], .ref l], []⟩)) _ _ s
  refine wpAny_bind (wpAny_newList (wpAny_pure ⟨Code.quiet_builtin _ (by decide +kernel), codeAny_builtin entry_list_iadd' ?_⟩))
  show wpAny _ _ (Builtin.List.listExtendWith (.ref s.heap.objs.size) (.ref l) (.ref s.heap.objs.size)) _ _ { s with heap := s.heap.push (seqObj "list" #[] 0) }
  unfold Builtin.List.listExtendWith
  have ho' : (s.heap.push (seqObj "list" #[] 0)).get? l = some o := Heap.get?_push_of_some _ ho
  refine wpAny_bind (wpAny_typeOf (T := "tuple") ⟨o, ho', hc⟩ ?_)
  have ht : (Value.type "tuple" == Value.type "tuple") = true := by rfl
  rw [if_pos (by rw [ht]; simp)]
  refine wpAny_bind (listItems_at ho' hd ?_)
  refine wpAny_bind (listItems_at (xs := #[]) (n := 0) (Heap.get?_push_size _ rfl) rfl ?_)
  rw [if_neg (by simp)]
  refine wpAny_bind (listUpdate_at (xs := #[]) (n := 0) (Heap.get?_push_size _ rfl) rfl ?_ (Nat.zero_le _) (by show (#[] ++ vs.toArray).size ≤ sizeLine + 1; simp only [Array.size_append, List.size_toArray, List.length_nil]; omega))
  refine wpAny_pure ?_
  show wpAny (model prog w) A (do
      let o ← load s.heap.objs.size
      match o.data with
      | .seq xs _ => pure xs.toList
      | _ => unsupported "internal:collect") Q E { s with heap := (s.heap.push (seqObj "list" #[] 0)).update s.heap.objs.size (Obj.mapSeq (· ++ vs.toArray)) }
  refine wpAny_bind (wpAny_load (get?_update_seq (Heap.get?_push_size _ rfl) _) ?_)
  show wpAny _ _ (pure ((#[] : Array Value) ++ vs.toArray).toList) Q E _
  rw [show ((#[] : Array Value) ++ vs.toArray).toList = vs by simp]
  exact wpAny_pure h
theorem sorted_tupsT {l : Addr} {vs : List Value} {d : Nat} {B : Int} {Q : Value → Shared → Prop} (hl : IsTup s.heap l vs.toArray) (h64 : vs.length < 64) (hd : 1 ≤ d) (x : TS.TupsOk s.heap d B vs)
    (h : ∀ out : Array Value, out.toList.Perm vs → out.toList.Pairwise (fun u v => TS.code B (TS.intsOf s.heap u) ≤ TS.code B (TS.intsOf s.heap v)) → Q (.ref (s.heap.objs.size + 1)) { s with heap := sortedAll s.heap vs out }) :
    wpAny (model prog w) A (call (.builtin "sorted") [.ref l]) Q E s := by
  refine Calls.call_function_entry kind_sorted plain_sorted entry_sorted (args_sorted1 _) ?_
  unfold Builtin.«sorted»
  refine wpAny_bind (m := checkCount "sorted" 1 1 _) (wpAny_pure ?_)
  refine wpAny_bind (collect_tuple hl ?_ (by rw [sizeLine_eq]; omega))
  refine wpAny_bind (wpAny_newList ?_ (by rw [sizeLine_eq]; omega))
  have hsz : ((s.heap.push (seqObj "list" #[] 0)).update s.heap.objs.size (Obj.mapSeq (· ++ vs.toArray))).objs.size = s.heap.objs.size + 1 := by
    rw [Heap.size_update, size_push']
  have hoL : (((s.heap.push (seqObj "list" #[] 0)).update s.heap.objs.size (Obj.mapSeq (· ++ vs.toArray))).push (seqObj "list" vs.toArray 0)).get? (s.heap.objs.size + 1) = some (seqObj "list" vs.toArray 0) := by
    rw [← hsz]; exact Heap.get?_push_size _ rfl
  have keep : ∀ b o, s.heap.get? b = some o → o.cls = .type "tuple" → (((s.heap.push (seqObj "list" #[] 0)).update s.heap.objs.size (Obj.mapSeq (· ++ vs.toArray))).push (seqObj "list" vs.toArray 0)).get? b = some o := fun b o q _ => by
    have hlt : b < s.heap.objs.size := Heap.lt_size q
    rw [Heap.get?_push_ne _ _ _ (by rw [hsz]; exact Nat.ne_of_lt (Nat.lt_succ_of_lt hlt)), Heap.get?_update_ne _ _ _ _ (Nat.ne_of_lt hlt), Heap.get?_push_ne _ _ _ (Nat.ne_of_lt hlt)]
    exact q
  show wpAny _ _ _ _ _ { s with heap := ((s.heap.push (seqObj "list" #[] 0)).update s.heap.objs.size (Obj.mapSeq (· ++ vs.toArray))).push (seqObj "list" vs.toArray 0) }
  rw [hsz]
  refine wpAny_bind (wpAny_holding (wpAny_call_entry slot_list_sort ⟨_, hoL, rfl⟩ entry_list_sort (TS.sort_tups hoL h64 hd (x.keeps keep) (fun v => TS.code B (TS.intsOf s.heap v)) (fun v hv ns t => ?_) fun out a1 a2 => ⟨_, rfl, ?_⟩) (args_list_sort _)))
  · obtain ⟨ns0, t0, _⟩ := x v hv
    have e : ns = ns0 := t.ints.symm.trans (t0.keeps keep).ints
    rw [e]
    show TS.code B (TS.intsOf s.heap v) = TS.code B ns0
    rw [t0.ints]
  · exact wpAny_pure ⟨_, rfl, h out a1 a2⟩
end
/-- sorted(t), t a tuple of fewer than 64 tuples of d ints in [0, B) -/
def rSortV (K : PySem.W.Frag) (d : Nat) (B : Int) : List V → Hp → VK → Prop := fun vs H Q => ∃ (a : Addr) (xs : List V), vs = [V.ref a] ∧ SqT K H a xs ∧ xs.length < 64 ∧ (∀ x ∈ xs, ∃ ns, TupI K H x ns ∧ ns.length = d ∧ TS.Bd B ns) ∧
  ∀ (ys : List V) (p : Addr), ys.Perm xs → ys.Pairwise (fun x y => ∀ n m, TupI K H x n → TupI K H y m → TS.code B n ≤ TS.code B m) → H p = none → Q (.ref p) (upd H p (.lst ys))
theorem cr_sortV {X : Cx} {d : Nat} {B : Int} (hd : 1 ≤ d) : CallR X (.builtin "sorted") (rSortV X.K d B) := by
  intro pins s σ H vs us Q I r h
  obtain ⟨a, xs, rfl, hs, h64, hx, q⟩ := h
  obtain ⟨its, rv, hl, hz⟩ := I.tuple hs
  rw [Vals.ref1 r]
  obtain ⟨e1, e2⟩ := bkV_refs rv fun x m => by
    obtain ⟨ns, ⟨t, e, _⟩, _⟩ := hx x m
    exact ⟨t, e⟩
  refine sorted_tupsT (d := d) (B := B) hl (by rw [← rv.length]; exact h64) hd (fun v hv => ?_) fun out h1 h2 => ?_
  · obtain ⟨t, rfl⟩ := e2 v hv
    have hm : V.ref t ∈ xs := by
      rw [e1]
      exact List.mem_map.mpr ⟨_, hv, rfl⟩
    obtain ⟨ns, ⟨t', e, ht⟩, hn, hb⟩ := hx _ hm
    cases e
    exact ⟨ns, tupI_raw I ht, hn, hb⟩
  · obtain ⟨ep, he'⟩ := PyProof.Rows.sortedAll_at s.heap its out
    have h3 : ∀ u ∈ out.toList, ∃ a, u = Value.ref a := fun u hu => e2 u (h1.mem_iff.mp hu)
    have hp : (out.toList.map bkV).Perm xs := by
      rw [e1]
      exact h1.map bkV
    have hlen : (out.toList.map bkV).length ≤ sizeLine := by
      rw [hp.length_eq]
      exact hz
    refine ⟨.ref _, upd H (s.heap.objs.size + 1) (.lst (out.toList.map bkV)), I.laid (t' := s.toks) (fun _ _ => PyProof.Rows.sortedAll_old) (Nat.le_succ _) ⟨hlen, out.toList, ep, bkV_vals h3, he'⟩, rfl, q _ _ hp ?_ (I.hok.fresh (Nat.le_succ _))⟩
    rw [List.pairwise_map]
    refine List.Pairwise.imp (fun {u v} huv n m hn hm => ?_) h2
    obtain ⟨t, et, ht⟩ := hn
    obtain ⟨t', et', ht'⟩ := hm
    have eu := bkV_ref et
    have ev := bkV_ref et'
    have i1 : TS.intsOf s.heap u = n := by
      rw [eu]
      exact (tupI_raw I ht).ints
    have i2 : TS.intsOf s.heap v = m := by
      rw [ev]
      exact (tupI_raw I ht').ints
    rw [← i1, ← i2]
    exact huv

/-! ### repr({}) -/
def rReprU (K : PySem.W.Frag) : List V → Hp → VK → Prop := fun xs H Q => RP.rRepr K xs H Q ∨ ∃ a, xs = [.ref a] ∧ H a = some (.dT []) ∧ Q (.str (PyData.dict []).shown) H
theorem call_reprU {X : Cx} (hg : X.A.guards = some []) (hu : X.A.units + 64 < cLine) : CallR X (.builtin "repr") (rReprU X.K) := by
  intro pins s σ H xs us Q I r h
  rcases h with h | ⟨a, rfl, ha, q⟩
  · exact RP.call_reprD hg hu pins s σ H xs us Q I r h
  · rw [Vals.ref1 r]
    obtain ⟨_, hsys, ks, rel, o, es, ep, g1, g2, g3, g4, _⟩ := (show ObjOk X.prog X.w H s.heap a (.dT []) from I.hok a _ ha)
    cases rel
    have e0 : es.toList = [] := g4
    have rd : Reads s.heap (.ref a) (.dict []) (a :: [] ++ []) := Reads.dict g1 g2.1 g3 (by rw [e0]; exact .nil) (by rw [e0]; exact .nil)
    exact repr_of_reads' rd (by decide +kernel) (fun _ z => by
      simp only [List.append_nil, List.mem_singleton] at z
      rw [← z] at hsys
      simp at hsys) hg (by show X.A.units + (_ + 1) < cLine; have : (PyData.dict []).depth ≤ 3 := by decide
                           omega) (fun _ _ e => e) (fun h' u tk hk => ⟨.str _, H, I.kept (t' := tk) hk, ⟨_, rfl⟩, q⟩) (by rw [sizeLine_eq]; decide +kernel)
end RU

set_option Elab.async false
set_option linter.all false
set_option maxRecDepth 100000
set_option maxHeartbeats 2000000
/-! Values that a law draws, with what they are as data: atoms, rows of these, rows of such rows. -/
namespace K02
open PySem PySem.Spec L2
open PyProof.Rows GenW GxR EZ TK CE LamX
/-- an atom, and what it is as data -/
inductive At0 : V → PyData → Prop
  | non : At0 .non .none
  | bl (b : Bool) : At0 (.bl b) (.bool b)
  | int (i : Int) : -100 ≤ i → i ≤ 100 → At0 (.int i) (.int i)
  | str (z : Str) : GoodD (.str z) → (PyData.str z).weight ≤ 20 → (PyData.str z).depth = 0 → At0 (.str z) (.str z)
/-- a row: its list is none of N -/
def Cont (N : Addr → Prop) (H : Hp) (R : V → PyData → Prop) (x : V) (d : PyData) : Prop := ∃ (a : Addr) (xs : List V) (ds : List PyData), x = .ref a ∧ Paired R xs ds ∧ xs.length ≤ 20 ∧ (H a = some (.tup xs) ∧ d = .tuple ds ∨ H a = some (.lst xs) ∧ ¬ N a ∧ d = .list ds)
def D1 (N : Addr → Prop) (H : Hp) (x : V) (d : PyData) : Prop := At0 x d ∨ Cont N H At0 x d
def D2 (N : Addr → Prop) (H : Hp) (x : V) (d : PyData) : Prop := At0 x d ∨ Cont N H (D1 N H) x d
inductive IT (N : Addr → Prop) (H : Hp) : V → PyData → Prop
  | d2 {x : V} {d : PyData} : D2 N H x d → IT N H x d
  | dic {a : Addr} : H a = some (.dT []) → IT N H (.ref a) (.dict [])
/-- tuples, lists but those of N, empty dicts are kept -/
structure KL (N : Addr → Prop) (H H' : Hp) : Prop where
  tup : TupKeep H H'
  lst : ∀ c xs, H c = some (.lst xs) → ¬ N c → H' c = some (.lst xs)
  dic : ∀ c, H c = some (.dT []) → H' c = some (.dT [])
theorem KL.trans {N : Addr → Prop} {H H1 H2 : Hp} (a : KL N H H1) (b : KL N H1 H2) : KL N H H2 := ⟨a.tup.trans b.tup, fun c xs e n => b.lst c xs (a.lst c xs e n) n, fun c e => b.dic c (a.dic c e)⟩
theorem KL.same {N : Addr → Prop} {H H' : Hp} (s : Same H H') : KL N H H' := ⟨.of s, fun c xs e _ => s _ _ e, fun c e => s _ _ e⟩
theorem KL.ext {N : Addr → Prop} {H H' : Hp} (x : ExtN H H') : KL N H H' := ⟨fun t xs e => x _ _ e (fun _ z => by cases z), fun c xs e _ => x _ _ e (fun _ z => by cases z), fun c e => x _ _ e (fun _ z => by cases z)⟩
theorem KL.but {N : Addr → Prop} {st lg cl : Addr} {H H' : Hp} {t : Nat} (U : But st lg H H') (S : StOk H st lg cl t) (n1 : N st) (n2 : N lg) : KL N H H' :=
  ⟨U.tup S, fun c xs e n => U _ _ e (fun z => n (z ▸ n1)) (fun z => n (z ▸ n2)), fun c e => U.keepO S e (fun _ z => by cases z) (fun _ z => by cases z)⟩
/-- a list of N is written anew -/
theorem KL.put {N : Addr → Prop} {H : Hp} {p : Addr} {xs : List V} {o : HO} (e : H p = some (.lst xs)) (n : N p) : KL N H (L2.upd H p o) :=
  ⟨TupKeep.upd e (fun _ z => by cases z), fun c ys ec m => by
    rw [upd_ne (show c ≠ p from fun z => m (by rw [z]; exact n))]
    exact ec, fun c ec => by
    have : c ≠ p := fun z => by
      rw [z, e] at ec
      cases ec
    rw [upd_ne this]
    exact ec⟩
theorem pairedMono {α β : Type} {R R' : α → β → Prop} (h : ∀ x d, R x d → R' x d) {xs : List α} {ds : List β} (p : Paired R xs ds) : Paired R' xs ds := by
  induction p with
  | nil => exact .nil
  | cons r t ih => exact .cons (h _ _ r) ih
theorem Cont.keep {N : Addr → Prop} {H H' : Hp} {R R' : V → PyData → Prop} {x : V} {d : PyData} (k : KL N H H') (h : ∀ x d, R x d → R' x d) (c : Cont N H R x d) : Cont N H' R' x d := by
  obtain ⟨a, xs, ds, e, p, l, o⟩ := c
  refine ⟨a, xs, ds, e, pairedMono h p, l, ?_⟩
  rcases o with ⟨e, z⟩ | ⟨e, n, z⟩
  · exact .inl ⟨k.tup _ _ e, z⟩
  · exact .inr ⟨k.lst _ _ e n, n, z⟩
theorem D1.keep {N : Addr → Prop} {H H' : Hp} {x : V} {d : PyData} (k : KL N H H') (c : D1 N H x d) : D1 N H' x d := by
  rcases c with c | c
  · exact .inl c
  · exact .inr (c.keep k fun _ _ h => h)
theorem D2.keep {N : Addr → Prop} {H H' : Hp} {x : V} {d : PyData} (k : KL N H H') (c : D2 N H x d) : D2 N H' x d := by
  rcases c with c | c
  · exact .inl c
  · exact .inr (c.keep k fun _ _ h => D1.keep k h)
theorem IT.keep {N : Addr → Prop} {H H' : Hp} {x : V} {d : PyData} (k : KL N H H') (c : IT N H x d) : IT N H' x d := by
  cases c with
  | d2 h => exact .d2 (h.keep k)
  | dic e => exact .dic (k.dic _ e)
theorem Cont.mono {N M : Addr → Prop} {H : Hp} {R R' : V → PyData → Prop} {x : V} {d : PyData} (m : ∀ a, M a → N a) (h : ∀ x d, R x d → R' x d) (c : Cont N H R x d) : Cont M H R' x d := by
  obtain ⟨a, xs, ds, e, p, l, o⟩ := c
  refine ⟨a, xs, ds, e, pairedMono h p, l, ?_⟩
  rcases o with o | ⟨e, n, z⟩
  · exact .inl o
  · exact .inr ⟨e, fun z => n (m _ z), z⟩
theorem D1.mono {N M : Addr → Prop} {H : Hp} {x : V} {d : PyData} (m : ∀ a, M a → N a) (c : D1 N H x d) : D1 M H x d := by
  rcases c with c | c
  · exact .inl c
  · exact .inr (c.mono m fun _ _ h => h)
theorem D2.mono {N M : Addr → Prop} {H : Hp} {x : V} {d : PyData} (m : ∀ a, M a → N a) (c : D2 N H x d) : D2 M H x d := by
  rcases c with c | c
  · exact .inl c
  · exact .inr (c.mono m fun _ _ h => D1.mono m h)
theorem IT.mono {N M : Addr → Prop} {H : Hp} {x : V} {d : PyData} (m : ∀ a, M a → N a) (c : IT N H x d) : IT M H x d := by
  cases c with
  | d2 h => exact .d2 (h.mono m)
  | dic e => exact .dic e
theorem Cont.tup {N : Addr → Prop} {H : Hp} {R : V → PyData → Prop} {a : Addr} {xs : List V} {ds : List PyData} (e : H a = some (.tup xs)) (p : Paired R xs ds) (l : xs.length ≤ 20 := by exact Nat.le_of_ble_eq_true rfl) : Cont N H R (.ref a) (.tuple ds) := ⟨a, xs, ds, rfl, p, l, .inl ⟨e, rfl⟩⟩
theorem Cont.lst {N : Addr → Prop} {H : Hp} {R : V → PyData → Prop} {a : Addr} {xs : List V} {ds : List PyData} (e : H a = some (.lst xs)) (n : ¬ N a) (p : Paired R xs ds) (l : xs.length ≤ 20 := by exact Nat.le_of_ble_eq_true rfl) : Cont N H R (.ref a) (.list ds) := ⟨a, xs, ds, rfl, p, l, .inr ⟨e, n, rfl⟩⟩
section
variable {K : PySem.W.Frag} {N : Addr → Prop} {H : Hp}
theorem dpAll_of {R : V → PyData → Prop} (h : ∀ x d, R x d → Dp K H x d) {xs : List V} {ds : List PyData} (p : Paired R xs ds) : DpAll K H xs ds := by
  induction p with
  | nil => exact .nil
  | cons r t ih => exact .cons (h _ _ r) ih
theorem At0.dp {x : V} {d : PyData} (h : At0 x d) : Dp K H x d := by
  cases h with
  | non => exact .non
  | bl b => exact .bl b
  | int i _ _ => exact .int i
  | str z _ _ _ => exact .str z
theorem Cont.dp {R : V → PyData → Prop} (h : ∀ x d, R x d → Dp K H x d) {x : V} {d : PyData} (c : Cont N H R x d) : Dp K H x d := by
  obtain ⟨a, xs, ds, rfl, p, l, o⟩ := c
  rcases o with ⟨e, rfl⟩ | ⟨e, n, rfl⟩
  · exact .tup (.inl (.inl e)) (dpAll_of h p)
  · exact .lst (.inl (.inl e)) (dpAll_of h p)
theorem D1.dp {x : V} {d : PyData} (h : D1 N H x d) : Dp K H x d := h.elim (·.dp) (·.dp fun _ _ z => z.dp)
theorem D2.dp {x : V} {d : PyData} (h : D2 N H x d) : Dp K H x d := h.elim (·.dp) (·.dp fun _ _ z => z.dp)
theorem small_good : ∀ k : Fin 201, (PyData.int ((k.1 : Int) - 100)).showable = true ∧ (PyData.int ((k.1 : Int) - 100)).intsShort 13 = true ∧ (PyData.int ((k.1 : Int) - 100)).weight ≤ 20 := by decide +kernel
theorem small_int {i : Int} (h1 : -100 ≤ i) (h2 : i ≤ 100) : GoodD (.int i) ∧ (PyData.int i).weight ≤ 20 := by
  have z := small_good ⟨(i + 100).toNat, by omega⟩
  have e : (((i + 100).toNat : Nat) : Int) - 100 = i := by omega
  rw [e] at z
  exact ⟨⟨rfl, z.1, rfl, z.2.1⟩, z.2.2⟩
theorem At0.good {x : V} {d : PyData} (h : At0 x d) : GoodD d ∧ d.weight ≤ 20 ∧ d.depth = 0 := by
  cases h with
  | non => exact ⟨⟨rfl, rfl, rfl, rfl⟩, by decide, rfl⟩
  | bl b => exact ⟨⟨rfl, rfl, rfl, rfl⟩, by cases b <;> decide, rfl⟩
  | int i a b => exact ⟨(small_int a b).1, (small_int a b).2, rfl⟩
  | str z a b c => exact ⟨a, b, c⟩
theorem all_good {R : V → PyData → Prop} {n m : Nat} (h : ∀ x d, R x d → GoodD d ∧ d.weight ≤ n ∧ d.depth ≤ m) {xs : List V} {ds : List PyData} (p : Paired R xs ds) : (∀ d ∈ ds, GoodD d) ∧ PyData.weightAll ds ≤ (n + 1) * xs.length ∧ PyData.depthAll ds ≤ m := by
  induction p with
  | nil => exact ⟨fun d z => (nomatch z), Nat.zero_le _, Nat.zero_le _⟩
  | @cons x d xs ds r t ih =>
    obtain ⟨a, b, c⟩ := h _ _ r
    obtain ⟨a', b', c'⟩ := ih
    refine ⟨fun y hy => ?_, ?_, ?_⟩
    · rcases List.mem_cons.mp hy with z | z
      · rw [z]
        exact a
      · exact a' y z
    · show d.weight + 1 + PyData.weightAll ds ≤ (n + 1) * (xs.length + 1)
      rw [Nat.mul_succ]
      omega
    · simp only [PyData.depthAll]
      omega
theorem Cont.good {R : V → PyData → Prop} {n m : Nat} (h : ∀ x d, R x d → GoodD d ∧ d.weight ≤ n ∧ d.depth ≤ m) {x : V} {d : PyData} (c : Cont N H R x d) : GoodD d ∧ d.weight ≤ (n + 1) * 20 ∧ d.depth ≤ m + 1 := by
  obtain ⟨a, xs, ds, rfl, p, l, o⟩ := c
  obtain ⟨g, w, dd⟩ := all_good h p
  have lw : (n + 1) * xs.length ≤ (n + 1) * 20 := Nat.mul_le_mul_left _ l
  rcases o with ⟨e, rfl⟩ | ⟨e, _, rfl⟩
  · exact ⟨good_tup g, (by show PyData.weightAll ds ≤ _; omega), by simp only [PyData.depth]; omega⟩
  · exact ⟨good_lst g, (by show PyData.weightAll ds ≤ _; omega), by simp only [PyData.depth]; omega⟩
theorem D1.good {x : V} {d : PyData} (h : D1 N H x d) : GoodD d ∧ d.weight ≤ 420 ∧ d.depth ≤ 1 := by
  rcases h with h | h
  · obtain ⟨a, b, c⟩ := h.good
    exact ⟨a, by omega, by omega⟩
  · exact h.good fun _ _ z => ⟨z.good.1, z.good.2.1, Nat.le_of_eq z.good.2.2⟩
theorem D2.good {x : V} {d : PyData} (h : D2 N H x d) : GoodD d ∧ d.weight ≤ 8420 ∧ d.depth ≤ 2 := by
  rcases h with h | h
  · obtain ⟨a, b, c⟩ := h.good
    exact ⟨a, by omega, by omega⟩
  · exact h.good fun _ _ z => z.good
theorem log_small {i : Int} (h1 : -100 ≤ i) (h2 : i ≤ 100) : i.natAbs.log2 < 1920 := by
  have : i.natAbs.log2 ≤ i.natAbs := Nat.log2_le_self _
  omega
theorem IT.repr {x : V} {d : PyData} (h : IT N H x d) {Q : VK} (q : Q (.str d.shown) H) : RU.rReprU K [x] H Q := by
  cases h with
  | dic e => exact .inr ⟨_, rfl, e, q⟩
  | d2 h =>
    obtain ⟨g, wt, dp⟩ := h.good
    refine .inl ⟨x, d, rfl, h.dp, g.2.1, g.2.2.1, by omega, ?_, fun i e => ?_, q⟩
    · have hl : d.layable0 = true := by
        unfold PyData.layable0
        have e2 : (2 : Nat) ^ 20 = 1048576 := by decide
        rw [g.1, decide_eq_true (show d.depth ≤ 64 by omega), decide_eq_true (show d.weight ≤ 2 ^ 20 by omega)]
        rfl
      have z := PyProof.Rows.shown_le13 hl g.2.2.2
      rw [sizeLine_eq]
      omega
    · subst e
      rcases h with h | h
      · cases h with
        | int i a b => exact log_small a b
      · obtain ⟨a, xs, ds, _, _, _, o⟩ := h
        rcases o with ⟨_, z⟩ | ⟨_, _, z⟩ <;> cases z
theorem paired_left {α β : Type} {R : α → β → Prop} {xs : List α} {ds : List β} (p : Paired R xs ds) : ∀ y ∈ xs, ∃ d, R y d := by
  induction p with
  | nil => exact fun y z => (nomatch z)
  | cons r t ih =>
    intro y hy
    rcases List.mem_cons.mp hy with z | z
    · rw [z]
      exact ⟨_, r⟩
    · exact ih y z
end
end K02

set_option Elab.async false
set_option linter.all false
set_option maxRecDepth 100000
set_option maxHeartbeats 4000000
/-! Values that are written down, as data: shown, looked at; circuits. -/
namespace K02
open PySem PySem.Spec L2
open PyProof.Rows GenW GxR EZ TK
open LamX (ExtN)
theorem vwDs_eq : ∀ ds : List PyData, vwDs ds = ds.map vwD
  | [] => rfl
  | d :: ds => by rw [List.map_cons, ← vwDs_eq ds]; rfl
/-- good data, bounded, with p of it where lists are not looked into -/
structure One (p : PyData → Bool) (n w : Nat) (d : PyData) : Prop where
  g : GoodD d
  dp : d.depth ≤ n
  wt : d.weight ≤ w
  k : p (vwD d) = true
structure LK (p : PyData → Bool) (n w : Nat) (ds : List PyData) : Prop where
  g : ∀ d ∈ ds, GoodD d
  dp : PyData.depthAll ds ≤ n
  wt : PyData.weightAll ds ≤ w
  k : ∀ d ∈ ds, p (vwD d) = true
section
variable {p q : PyData → Bool} {n m w u : Nat}
theorem One.mono {d : PyData} (h : One p n w d) (a : n ≤ m := by omega) (b : w ≤ u := by omega) : One p m u d := ⟨h.g, Nat.le_trans h.dp a, Nat.le_trans h.wt b, h.k⟩
theorem LK.mono {d : List PyData} (h : LK p n w d) (a : n ≤ m := by omega) (b : w ≤ u := by omega) : LK p m u d := ⟨h.g, Nat.le_trans h.dp a, Nat.le_trans h.wt b, h.k⟩
theorem LK.imp {d : List PyData} (h : LK p n w d) (k : ∀ x ∈ d, q (vwD x) = true) : LK q n w d := ⟨h.g, h.dp, h.wt, k⟩
theorem LK.nil : LK p n 0 [] := ⟨fun _ z => (nomatch z), Nat.zero_le _, Nat.le_refl _, fun _ z => (nomatch z)⟩
theorem LK.cons {d : PyData} {ds : List PyData} (h : One p n w d) (t : LK p n u ds) : LK p n (w + 1 + u) (d :: ds) := by
  refine ⟨fun x hx => ?_, ?_, ?_, fun x hx => ?_⟩
  · rcases List.mem_cons.mp hx with z | z
    · rw [z]; exact h.g
    · exact t.g x z
  · have a := h.dp
    have b := t.dp
    simp only [PyData.depthAll]
    omega
  · have a := h.wt
    have b := t.wt
    show d.weight + 1 + PyData.weightAll ds ≤ _
    omega
  · rcases List.mem_cons.mp hx with z | z
    · rw [z]; exact h.k
    · exact t.k x z
theorem LK.one {d : PyData} (h : One p n w d) : LK p n (w + 1) [d] := LK.cons h .nil
theorem wAll_app : ∀ a b : List PyData, PyData.weightAll (a ++ b) = PyData.weightAll a + PyData.weightAll b
  | [], b => by
    show _ = 0 + _
    rw [Nat.zero_add]
    rfl
  | x :: a, b => by
    show x.weight + 1 + PyData.weightAll (a ++ b) = x.weight + 1 + PyData.weightAll a + _
    rw [wAll_app a b]
    omega
theorem dAll_app : ∀ a b : List PyData, PyData.depthAll (a ++ b) = max (PyData.depthAll a) (PyData.depthAll b)
  | [], b => by simp [PyData.depthAll]
  | x :: a, b => by
    simp only [List.cons_append, PyData.depthAll, dAll_app a b]
    omega
theorem LK.app {a b : List PyData} (h : LK p n w a) (t : LK p n u b) : LK p n (w + u) (a ++ b) := by
  refine ⟨fun x hx => ?_, ?_, ?_, fun x hx => ?_⟩
  · rcases List.mem_append.mp hx with z | z
    · exact h.g x z
    · exact t.g x z
  · rw [dAll_app]
    exact Nat.max_le.mpr ⟨h.dp, t.dp⟩
  · rw [wAll_app]
    exact Nat.add_le_add h.wt t.wt
  · rcases List.mem_append.mp hx with z | z
    · exact h.k x z
    · exact t.k x z
theorem LK.left {a b : List PyData} (h : LK p n w (a ++ b)) : LK p n w a := by
  have d := h.dp
  have e := h.wt
  rw [dAll_app] at d
  rw [wAll_app] at e
  exact ⟨fun x hx => h.g x (List.mem_append_left _ hx), by omega, by omega, fun x hx => h.k x (List.mem_append_left _ hx)⟩
theorem LK.right {a b : List PyData} (h : LK p n w (a ++ b)) : LK p n w b := by
  have d := h.dp
  have e := h.wt
  rw [dAll_app] at d
  rw [wAll_app] at e
  exact ⟨fun x hx => h.g x (List.mem_append_right _ hx), by omega, by omega, fun x hx => h.k x (List.mem_append_right _ hx)⟩
theorem LK.take {a : List PyData} (h : LK p n w a) (k : Nat) : LK p n w (a.take k) := by
  rw [← List.take_append_drop k a] at h
  exact h.left
theorem LK.drop {a : List PyData} (h : LK p n w a) (k : Nat) : LK p n w (a.drop k) := by
  rw [← List.take_append_drop k a] at h
  exact h.right
theorem LK.reps {a : List PyData} (h : LK p n w a) : ∀ k, LK p n (k * w) (List.replicate k a).flatten
  | 0 => by
    rw [Nat.zero_mul]
    exact .nil
  | k + 1 => by
    rw [List.replicate_succ, List.flatten_cons]
    exact (h.app (h.reps k)).mono (Nat.le_refl _) (by rw [Nat.succ_mul]; omega)
theorem LK.map {α : Type} {f : α → PyData} : ∀ {xs : List α}, (∀ x ∈ xs, One p n w (f x)) → LK p n (xs.length * (w + 1)) (xs.map f)
  | [], _ => LK.nil.mono (Nat.le_refl _) (Nat.zero_le _)
  | x :: xs, h => ((LK.map fun y hy => h y (List.mem_cons_of_mem _ hy)) |> LK.cons (h x List.mem_cons_self)).mono (Nat.le_refl _) (by rw [List.length_cons, Nat.succ_mul]; omega)
theorem LK.tup {ds : List PyData} (h : LK p n w ds) (k : q (.tuple (ds.map vwD)) = true) : One q (n + 1) w (.tuple ds) := ⟨good_tup h.g, by
    have a := h.dp
    simp only [PyData.depth]
    omega, h.wt, by
    show q (.tuple (vwDs ds)) = true
    rw [vwDs_eq]
    exact k⟩
theorem LK.lst {ds : List PyData} (h : LK p n w ds) (k : q (.list []) = true) : One q (n + 1) w (.list ds) := ⟨good_lst h.g, by
    have a := h.dp
    simp only [PyData.depth]
    omega, h.wt, k⟩
end
abbrev yesD : PyData → Bool := fun _ => true
def bdB (n w : Nat) (d : PyData) : Bool := d.canLay0 && d.showable && !d.hasDict && d.intsShort 13 && decide (d.depth ≤ n) && decide (d.weight ≤ w)
theorem one_by {p : PyData → Bool} {n w : Nat} {d : PyData} (h : bdB n w d = true) (k : p (vwD d) = true) : One p n w d := by
  unfold bdB at h
  simp only [Bool.and_eq_true, Bool.not_eq_true', decide_eq_true_eq] at h
  obtain ⟨⟨⟨⟨⟨a, b⟩, c⟩, e⟩, f⟩, g⟩ := h
  exact ⟨⟨a, b, c, e⟩, f, g, k⟩
theorem one_int {i : Int} (h1 : -100 ≤ i) (h2 : i ≤ 100) : One yesD 0 20 (.int i) := ⟨(small_int h1 h2).1, Nat.le_refl _, (small_int h1 h2).2, rfl⟩
theorem one_non : One yesD 0 20 .none := ⟨⟨rfl, rfl, rfl, rfl⟩, Nat.le_refl _, Nat.zero_le _, rfl⟩
theorem One.any {p q : PyData → Bool} {n w : Nat} {d : PyData} (h : One p n w d) (k : q (vwD d) = true) : One q n w d := ⟨h.g, h.dp, h.wt, k⟩
theorem LK.any {p q : PyData → Bool} {n w : Nat} {d : List PyData} (h : LK p n w d) (k : ∀ x ∈ d, q (vwD x) = true) : LK q n w d := ⟨h.g, h.dp, h.wt, k⟩
theorem LK.yes {p : PyData → Bool} {n w : Nat} {d : List PyData} (h : LK p n w d) : LK yesD n w d := ⟨h.g, h.dp, h.wt, fun _ _ => rfl⟩
/-! ### sources, registers, gates -/
abbrev txts : List Str := ["in", "reg", "gate", "bit", "wire"]
theorem one_txt : ∀ z ∈ txts, One yesD 0 20 (.str z) := by
  intro z hz
  simp only [txts, List.mem_cons, List.not_mem_nil, or_false] at hz
  rcases hz with h | h | h | h | h <;> subst h <;> exact one_by (by decide +kernel) rfl
theorem one_pair {z : Str} (hz : z ∈ txts) {i : Int} (h1 : -100 ≤ i) (h2 : i ≤ 100) : One srcKB 1 42 (.tuple [.str z, .int i]) :=
  (LK.cons (one_txt z hz) (LK.one (one_int h1 h2))).tup rfl |>.mono (Nat.le_refl _) (by omega)
theorem one_src {s : Src} {a b c : Nat} (h : s.ok a b c) (ha : a ≤ 100) (hb : b ≤ 100) (hc : c ≤ 100) : One srcKB 1 42 (srcDat s) := by
  cases s with
  | inp i =>
    have h : i < a := h
    exact one_pair (by simp [txts, Src.kind]) (by show -100 ≤ (i : Int); omega) (by show (i : Int) ≤ 100; omega)
  | reg i =>
    have h : i < b := h
    exact one_pair (by simp [txts, Src.kind]) (by show -100 ≤ (i : Int); omega) (by show (i : Int) ≤ 100; omega)
  | gate i =>
    have h : i < c := h
    exact one_pair (by simp [txts, Src.kind]) (by show -100 ≤ (i : Int); omega) (by show (i : Int) ≤ 100; omega)
  | bit x => exact one_pair (z := "bit") (i := bitZ x) (by simp [txts]) (by cases x <;> decide) (by cases x <;> decide)
theorem one_reg {b : Bool} {d : PyData} {n w : Nat} (h : One srcKB n w d) : One regKB (n + 1) (w + 22) (.tuple [.int (bitZ b), d]) :=
  (LK.cons (One.mono (one_int (i := bitZ b) (by cases b <;> decide) (by cases b <;> decide)) (m := n) (by omega) (Nat.le_refl _)) (LK.one (h.any (q := yesD) rfl))).tup (by exact h.k) |>.mono (Nat.le_refl _) (by omega)
theorem one_reg2 {i : Int} (h1 : -100 ≤ i) (h2 : i ≤ 100) {d : PyData} {n w : Nat} (h : One srcKB n w d) : One regKB (n + 1) (w + 22) (.tuple [.int i, d]) :=
  (LK.cons (One.mono (one_int h1 h2) (m := n) (by omega) (Nat.le_refl _)) (LK.one (h.any (q := yesD) rfl))).tup (by exact h.k) |>.mono (Nat.le_refl _) (by omega)
theorem gateKB_of {ss tt : PyData} {S : List PyData} (e : vwD ss = .tuple (S.map vwD)) (h : ∀ x ∈ S, srcKB (vwD x) = true) : gateKB (.tuple [vwD ss, tt]) = true := by
  show (itD (vwD ss)).all srcKB = true
  rw [e]
  refine List.all_eq_true.mpr fun x hx => ?_
  obtain ⟨y, hy, rfl⟩ := List.mem_map.mp hx
  exact h y hy
theorem vwD_tup (S : List PyData) : vwD (.tuple S) = .tuple (S.map vwD) := by
  show PyData.tuple (vwDs S) = _
  rw [vwDs_eq]
theorem one_two {q : PyData → Bool} {x y : PyData} {n w u : Nat} (hx : One yesD n w x) (hy : One yesD n u y) (k : q (.tuple [vwD x, vwD y]) = true) : One q (n + 1) (w + u + 2) (.tuple [x, y]) :=
  ((LK.cons hx (LK.one hy)).tup k).mono (Nat.le_refl _) (by omega)
theorem LK.tupY {p : PyData → Bool} {n w : Nat} {ds : List PyData} (h : LK p n w ds) : One yesD (n + 1) w (.tuple ds) := h.tup rfl
theorem LK.lstY {p : PyData → Bool} {n w : Nat} {ds : List PyData} (h : LK p n w ds) : One yesD (n + 1) w (.list ds) := h.lst rfl
/-- a gate of these sources -/
theorem one_gate {S T : List PyData} (hS : LK srcKB 1 1000 S) (hT : LK yesD 1 1000 T) : One gateKB 3 2002 (.tuple [.tuple S, .tuple T]) :=
  one_two hS.tupY hT.tupY (gateKB_of (vwD_tup S) hS.k)
theorem lk_bits (bs : List Bool) : LK yesD 1 (bs.length * 21) (bs.map fun b => .int (bitZ b)) := LK.map fun b _ => (one_int (by cases b <;> decide) (by cases b <;> decide)).mono
theorem mem_reps {α : Type} {x : α} {xs : List α} : ∀ {n : Nat}, x ∈ (List.replicate n xs).flatten → x ∈ xs
  | 0, h => by simp at h
  | n + 1, h => by
    rw [List.replicate_succ, List.flatten_cons] at h
    rcases List.mem_append.mp h with h | h
    · exact h
    · exact mem_reps h
section
variable {C : Circ} (ok : C.ok) (h1 : C.ni ≤ 8) (h2 : C.regs.length ≤ 60) (h3 : C.gates.length ≤ 100)
include ok h1 h2 h3
theorem lk_srcs {ss : List Src} (h : ∀ s ∈ ss, s.ok C.ni C.regs.length C.gates.length) : LK srcKB 1 (ss.length * 43) (ss.map srcDat) := LK.map fun s hs => one_src (h s hs) (by omega) (by omega) (by omega)
theorem lk_regs : LK regKB 2 (C.regs.length * 65) (C.regs.map regDat) := LK.map fun r hr => (one_reg (one_src (ok.regs r hr) (by omega) (by omega) (by omega)))
theorem pow_le {n : Nat} (h : n ≤ 4) : 2 ^ n ≤ 16 := by
  have : 2 ^ n ≤ 2 ^ 4 := Nat.pow_le_pow_right (by omega) h
  exact this
theorem lk_gate {g : Gate} (hg : g ∈ C.gates) : LK srcKB 1 172 (g.1.map srcDat) ∧ LK yesD 1 336 (g.2.map fun b => PyData.int (bitZ b)) := by
  obtain ⟨a, b, c⟩ := ok.gates g hg
  refine ⟨(lk_srcs ok h1 h2 h3 c).mono (Nat.le_refl _) (by omega), (lk_bits g.2).mono (Nat.le_refl _) ?_⟩
  have z := pow_le (n := g.1.length) ok h1 h2 h3 a
  rw [b]
  omega
theorem one_gateD {g : Gate} (hg : g ∈ C.gates) : One gateKB 3 2002 (gateDat g) := by
  obtain ⟨a, b⟩ := lk_gate ok h1 h2 h3 hg
  exact one_gate (a.mono) (b.mono)
theorem lk_gates : LK gateKB 3 (C.gates.length * 2003) (C.gates.map gateDat) := LK.map fun g hg => one_gateD ok h1 h2 h3 hg
theorem circKB_of {i : PyData} {R G O : PyData} (hR : (itD (vwD R)).all regKB = true) (hG : (itD (vwD G)).all gateKB = true) (hO : (itD (vwD O)).all srcKB = true) : circKB (vwD (.tuple [i, R, G, O])) = true := by
  show ((itD (vwD R)).all regKB && ((itD (vwD G)).all gateKB && (itD (vwD O)).all srcKB)) = true
  rw [hR, hG, hO]
  rfl
omit ok h1 h2 h3 in
theorem itD_all {p : PyData → Bool} {S : List PyData} (h : ∀ x ∈ S, p (vwD x) = true) : (itD (vwD (.tuple S))).all p = true := by
  rw [vwD_tup]
  refine List.all_eq_true.mpr fun x hx => ?_
  obtain ⟨y, hy, rfl⟩ := List.mem_map.mp hx
  exact h y hy
omit ok h1 h2 h3 in
theorem one_four {i R G O : PyData} {a b c : Nat} (hi : One yesD 0 20 i) (hR : One yesD 5 a R) (hG : One yesD 5 b G) (hO : One yesD 5 c O) (k : circKB (vwD (.tuple [i, R, G, O])) = true) : One circKB 6 (24 + a + b + c) (.tuple [i, R, G, O]) :=
  ((LK.cons (hi.mono (m := 5) (u := 20)) (LK.cons hR (LK.cons hG (LK.one hO)))).tup (q := yesD) rfl).any k |>.mono (Nat.le_refl _) (by omega)
end
theorem circ_okD {C : Circ} (ok : C.ok) (h3 : C.gates.length ≤ 100) : One circKB 10 500000 (circDat C) := by
  have h1 := ok.ni
  have h2 := ok.nr
  have h4 := ok.no
  have R' : LK regKB 4 3900 (C.regs.map regDat) := (lk_regs ok h1 h2 h3).mono (by omega) (by omega)
  have G' : LK gateKB 4 200300 (C.gates.map gateDat) := (lk_gates ok h1 h2 h3).mono (by omega) (by omega)
  have O' : LK srcKB 4 2580 (C.outs.map srcDat) := (lk_srcs ok h1 h2 h3 ok.outs).mono (by omega) (by omega)
  exact (one_four (one_int (by omega) (by omega)) R'.tupY G'.tupY O'.tupY (circKB_of ok h1 h2 h3 (itD_all R'.k) (itD_all G'.k) (itD_all O'.k))).mono
end K02

set_option Elab.async false
set_option linter.all false
set_option maxRecDepth 100000
set_option maxHeartbeats 4000000
/-! A tuple of one item times a great number. -/
namespace TM
open PySem PySem.Spec PySem.Calls PyProof.Rows L2
/-- (x,) * k, k great -/
def rRepB (K : PySem.W.Frag) : R2 := fun x y H Q => ∃ l k z, x = .ref l ∧ y = .int k ∧ SqT K H l [z] ∧ 2 ≤ k ∧ k ≤ 100000 ∧ ∀ p, H p = none → Q (.ref p) (upd H p (.tup (List.replicate k.toNat z)))
theorem op_repB {X : Cx} : OpR X (binaryOp .Mult) (rRepB X.K) := by
  intro pins s σ H x y v u Q I rx ry h
  obtain ⟨l, k, z, rfl, rfl, hT, h1, h2, q⟩ := h
  cases rx
  obtain ⟨t, rfl⟩ := ry
  obtain ⟨its, r, ⟨⟨cls, dd, data, sl⟩, ho, hc, n, hd⟩, hs⟩ := I.tuple hT
  simp only at hc hd
  subst hc
  subst hd
  have one_ : its.length = 1 := r.length.symm
  have size_ : its.toArray.size = 1 := by rw [List.size_toArray, one_]
  have full : its.toArray.isEmpty = false := by
    cases its with
    | nil => cases one_
    | cons a b => rfl
  have flat_ : (List.replicate k.toNat its).flatten.length = k.toNat := by rw [PyProof.Rows.lm_len_rep_flat, one_, Nat.mul_one]
  have line_ : k.toNat ≤ sizeLine := by
    rw [sizeLine_eq]
    omega
  refine wpAny_binaryOp_repeat_ref (T := "tuple") (U := "int") (by decide) ⟨_, ho, rfl⟩ (fun s' => typeIs_int s' k t) noFill_tuple_mul F.fills_int_mul F.slot_int_rmul repeat_tuple F.slot_int_index.lookup
    (call_meets F.slot_int_rmul (typeIs_int s k t) F.entry_int_rmul (F.args_int_rmul_2 _ _) (int_rmul_tuple k t l its.toArray n dd sl)
      ⟨ho, rfl, ⟨_, ho, rfl⟩, call_meets F.slot_tuple_mul ⟨_, ho, rfl⟩ F.entry_tuple_mul (F.args_tuple_mul_2 _ _) (tuple_mulW l its.toArray n dd sl k t
        (by rw [decide_eq_false (by omega), decide_eq_false (by omega)]; rfl)
        (by rw [full, Bool.false_or]; exact beq_eq_false_iff_ne.mpr (by omega))
        (by rw [full, Bool.or_false]; exact decide_eq_false (by omega))
        (by rw [size_]; omega)
        (by unfold Builtin.Tuple.tupleTooMany; rw [size_, sizeLine_eq]; exact decide_eq_false (by omega))
        (by rw [size_rep, List.size_toArray, flat_]; exact line_)) ⟨ho, ?_⟩⟩)
  rw [size_rep]
  have rr := r.rep k.toNat
  have ez : (List.replicate k.toNat [z]).flatten = List.replicate k.toNat z := K02.rep_one z _
  rw [ez] at rr
  refine ⟨.ref s.heap.objs.size, _, I.laid (t' := s.toks) (o := .tup (List.replicate k.toNat z)) (fun b ob q => Heap.get?_push_of_some _ q) (Nat.le_refl _) ?_, rfl, q _ (I.hok.fresh (Nat.le_refl _))⟩
  exact ⟨by rw [List.length_replicate]; exact line_, _, rr, IsTup.new _ _⟩
end TM

set_option Elab.async false
set_option linter.all false
set_option maxRecDepth 100000
set_option maxHeartbeats 4000000
/-! Long chains of gates: what they are. -/
namespace K02
open PySem PySem.Spec L2
open PyProof.Rows GenW GxR EZ TK
open LamX (ExtN)
def notG (i : Nat) : Gate := ([.gate (i + 1)], [true, false])
def chainN (n : Nat) : List Gate := (List.range n).map notG
theorem chainN_len (n : Nat) : (chainN n).length = n := by
  unfold chainN
  rw [List.length_map, List.length_range]
theorem chain_get {n i : Nat} {g : Gate} (h : i < n) : (chainN n ++ [g])[i]? = some (notG i) := by
  rw [List.getElem?_append_left (by rw [chainN_len]; exact h)]
  unfold chainN
  rw [List.getElem?_map, List.getElem?_range h]
  rfl
theorem chain_last {n : Nat} {g : Gate} : (chainN n ++ [g])[n]? = some g := by
  rw [List.getElem?_append_right (by rw [chainN_len]; exact Nat.le_refl _), chainN_len, Nat.sub_self]
  rfl
theorem chain_ok (g : Gate) (hg : g.ok 1 0 1500) : Circ.ok ⟨1, [], chainN 1499 ++ [g], []⟩ := by
  have len_ : (chainN 1499 ++ [g]).length = 1500 := by rw [List.length_append, chainN_len]; rfl
  refine ⟨(by show 1 ≤ 8; decide), (by show 0 ≤ 60; decide), ?_, (by show 0 ≤ 60; decide), fun r hr => (by cases hr), fun x hx => ?_, fun s hs => (by cases hs)⟩
  · show (chainN 1499 ++ [g]).length ≤ 2000
    omega
  · show x.ok 1 0 (chainN 1499 ++ [g]).length
    rw [len_]
    rcases List.mem_append.mp hx with z | z
    · obtain ⟨i, hi, rfl⟩ := List.mem_map.mp z
      refine ⟨(by show 1 ≤ 4; decide), rfl, fun s hs => ?_⟩
      rw [List.mem_singleton.mp hs]
      have := List.mem_range.mp hi
      show i + 1 < 1500
      omega
    · rw [List.mem_singleton.mp z]
      exact hg
section
variable {K : PySem.W.Frag}
theorem catB_to {H : Hp} {x y : Addr} {xs ys : List V} {Q : VK} (hx : H x = some (.tup xs)) (hy : H y = some (.tup ys)) (hl : xs.length + ys.length ≤ sizeLine) (q : ∀ p H', Same H H' → H' p = some (.tup (xs ++ ys)) → Q (.ref p) H') : rCatA K (.ref x) (.ref y) H Q := by
  refine ⟨x, y, xs, ys, rfl, rfl, .inl (.inl hx), .inl (.inl hy), hl, fun z => ?_, fun _ z => ?_, fun _ _ p np => q p _ (same_new np) upd_same⟩
  · refine q y H (fun _ _ e => e) ?_
    rw [z]
    exact hy
  · refine q x H (fun _ _ e => e) ?_
    rw [z, List.append_nil]
    exact hx
end
end K02

set_option Elab.async false
set_option linter.all false
set_option maxRecDepth 100000
set_option maxHeartbeats 4000000
/-! repr of written values; long chains and their rings. -/
namespace K02
open PySem PySem.Spec L2
open PyProof.Rows GenW GxR EZ TK
open LamX (ExtN)
theorem Fw.dp {K : PySem.W.Frag} {H : Hp} : ∀ (d : PyData) (v : V), GoodD d → Fw H v d → Dp K H v d := by
  intro d v g h
  have all : ∀ {vs : List V} {ds : List PyData}, FwAll H vs ds → True := fun _ => trivial
  exact go d v g h
where
  go {K : PySem.W.Frag} {H : Hp} : ∀ (d : PyData) (v : V), GoodD d → Fw H v d → Dp K H v d
    | _, _, _, .non => .non
    | _, _, _, .bl b => .bl b
    | _, _, _, .int b => .int b
    | _, _, _, .str b => .str b
    | _, _, g, .lst h t => .lst (.inl (.inl h)) (goAll _ _ (by
        obtain ⟨a, b, c, e⟩ := g
        exact ⟨by simpa [PyData.canLay0] using a, by simpa [PyData.showable] using b, by simpa [PyData.hasDict] using c, by simpa [PyData.intsShort] using e⟩) t)
    | _, _, g, .dic h => by
        obtain ⟨a, _, _, _⟩ := g
        simp [PyData.canLay0] at a
    | _, _, g, .tup h t => .tup (.inl (.inl h)) (goAll _ _ (by
        obtain ⟨a, b, c, e⟩ := g
        exact ⟨by simpa [PyData.canLay0] using a, by simpa [PyData.showable] using b, by simpa [PyData.hasDict] using c, by simpa [PyData.intsShort] using e⟩) t)
  goAll {K : PySem.W.Frag} {H : Hp} : ∀ (ds : List PyData) (vs : List V), GoodAll ds → FwAll H vs ds → DpAll K H vs ds
    | _, _, _, .nil => .nil
    | _, _, g, .cons h t => by
        obtain ⟨a, b, c, e⟩ := g
        simp only [PyData.canLayAll0, Bool.and_eq_true] at a
        simp only [PyData.showableAll, Bool.and_eq_true] at b
        simp only [PyData.hasDictAll, Bool.or_eq_false_iff] at c
        simp only [PyData.intsShortAll, Bool.and_eq_true] at e
        exact .cons (go _ _ ⟨a.1, b.1, c.1, e.1⟩ h) (goAll _ _ ⟨a.2, b.2, c.2, e.2⟩ t)
section
variable {K : PySem.W.Frag} {H H' : Hp} {d : PyData}
theorem repr_one {v : V} {d : PyData} {n w : Nat} {p : PyData → Bool} {Q : VK} (h : Dp K H v d) (o : One p n w d) (hn : n ≤ 60 := by decide) (hw : w ≤ 1048576 := by decide) (ni : ∀ i, d ≠ .int i) (q : Q (.str d.shown) H) : RU.rReprU K [v] H Q :=
  .inl (repr_to h o.g (Nat.le_trans o.dp hn) (Nat.le_trans o.wt (by have e2 : (2 : Nat) ^ 20 = 1048576 := by decide
                                                                    omega)) ni q)
/-- a row of two alike -/
theorem repr_p {a : Addr} {v u : V} {Q : VK} {n w : Nat} {p : PyData → Bool} (e : H a = some (.lst [v, u])) (hv : Dp K H v d) (hu : Dp K H u d) (o : One p n w d) (hn : n ≤ 50 := by decide) (hw : w ≤ 500000 := by decide) (q : Q (.str (PyData.list [d, d]).shown) H) : RU.rReprU K [.ref a] H Q := by
  have o' : One yesD (n + 1) (w + 1 + (w + 1)) (.list [d, d]) := (LK.cons o (LK.one o)).lst rfl
  exact repr_one (.lst (.inl (.inl e)) (.cons hv (.cons hu .nil))) o' (by omega) (by omega) (fun i z => nomatch z) q
end
/-! ### chains -/
def chainC (g : Gate) : Circ := ⟨1, [], chainN 1499 ++ [g], []⟩
theorem chain_leads (g : Gate) (i : Nat) : KM.suc (leadsC (chainC g)) i = if i < 1499 then [i + 1] else if i = 1499 then g.1.filterMap gateOf else [] := by
  unfold KM.suc leadsC chainC
  rw [List.getD_eq_getElem?_getD, List.getElem?_map]
  by_cases h : i < 1499
  · rw [chain_get h, if_pos h]
    rfl
  · rw [if_neg h]
    by_cases e : i = 1499
    · rw [if_pos e, e, chain_last]
      rfl
    · rw [if_neg e, List.getElem?_eq_none (by rw [List.length_append, chainN_len, List.length_singleton]; omega)]
      rfl
theorem chain_rings0 {rs : List Nat} {g : Gate} (hg : g.1.filterMap gateOf = []) (h : RingsOf (leadsC (chainC g)) rs) : rs = [] := by
  have up : ∀ u v, KM.Reach (leadsC (chainC g)) u v → u ≤ v := fun u v r => by
    induction r with
    | refl => exact Nat.le_refl _
    | tail r w ih =>
      rw [chain_leads] at w
      split at w
      · rw [List.mem_singleton] at w
        omega
      · split at w
        · rw [hg] at w
          cases w
        · cases w
  refine List.eq_nil_iff_forall_not_mem.mpr fun v hv => ?_
  obtain ⟨_, w, hw, r⟩ := (h.2 v).mp hv
  have z := up _ _ r
  rw [chain_leads] at hw
  split at hw
  · rw [List.mem_singleton] at hw
    omega
  · split at hw
    · rw [hg] at hw
      cases hw
    · cases hw
theorem chain_rings1 {rs : List Nat} {g : Gate} {k : Nat} (hk : k < 1500) (hg : g.1.filterMap gateOf = [k]) (h : RingsOf (leadsC (chainC g)) rs) : rs ≠ [] := by
  have go : ∀ n, k + n ≤ 1499 → KM.Reach (leadsC (chainC g)) k (k + n) := fun n => by
    induction n with
    | zero => exact fun _ => .refl _
    | succ n ih =>
      intro hn
      refine .tail (ih (by omega)) ?_
      rw [chain_leads, if_pos (by omega)]
      exact List.mem_singleton.mpr rfl
  have r := go (1499 - k) (by omega)
  rw [show k + (1499 - k) = 1499 by omega] at r
  have hv : 1499 ∈ rs := (h.2 1499).mpr ⟨by rw [leadsC_len]; unfold chainC; rw [List.length_append, chainN_len, List.length_singleton]; omega, k, by rw [chain_leads, if_neg (by omega), if_pos rfl, hg]; exact List.mem_singleton.mpr rfl, r⟩
  intro z
  rw [z] at hv
  cases hv
/-! ### the same gate many times -/
def manyC (n : Nat) : Circ := ⟨1, [], List.replicate n ([.inp 0], [true, false]), []⟩
theorem many_ok {n : Nat} (h : n ≤ 2000) : (manyC n).ok := by
  refine ⟨(by show 1 ≤ 8; decide), (by show 0 ≤ 60; decide), ?_, (by show 0 ≤ 60; decide), fun r hr => (by cases hr), fun x hx => ?_, fun s hs => (by cases hs)⟩
  · show (List.replicate n _).length ≤ 2000
    rw [List.length_replicate]
    exact h
  · have e := List.eq_of_mem_replicate (show x ∈ List.replicate n _ from hx)
    rw [e]
    refine ⟨(by show 1 ≤ 4; decide), rfl, fun s hs => ?_⟩
    rw [List.mem_singleton.mp hs]
    show 0 < 1
    decide
theorem many_circD (n : Nat) : circD (circDat (manyC n)) = decide ((n : Int) < 2001) := by
  by_cases h : n ≤ 2000
  · rw [circD_dat (many_ok h), decide_eq_true (by omega)]
  · rw [decide_eq_false (by omega)]
    show ((belD (.int 1) 9 && upD (.tuple []) 60) && (upD (.tuple ((List.replicate n (([.inp 0], [true, false]) : Gate)).map gateDat)) 2000 && upD (.tuple []) 60) && _) = false
    have : upD (.tuple ((List.replicate n (([.inp 0], [true, false]) : Gate)).map gateDat)) 2000 = false := by
      show (decide (("tuple" : String) = "tuple") && decide (_ ≤ 2000)) = false
      show (decide (("tuple" : String) = "tuple") && decide (((List.replicate n (([.inp 0], [true, false]) : Gate)).map gateDat).length ≤ 2000)) = false
      rw [List.length_map, List.length_replicate, decide_eq_false h, Bool.and_false]
    rw [this, Bool.false_and, Bool.and_false, Bool.false_and]
theorem many_all {H : Hp} {y : V} (h : GateAt H y ([.inp 0], [true, false])) : ∀ n, AllAt GateAt H (List.replicate n y) (List.replicate n ([.inp 0], [true, false]))
  | 0 => .nil
  | n + 1 => .cons h (many_all h n)
theorem bits_of_rings {rs : List Nat} : PyData.eqv (.tuple (rs.map fun (n : Nat) => PyData.int (n : Int))) (.tuple []) = decide (rs = []) := by
  cases rs with
  | nil => rfl
  | cons a r => rfl
end K02

set_option Elab.async false
set_option linter.all false
set_option maxRecDepth 100000
set_option maxHeartbeats 4000000
/-! _law_ringed. -/
namespace K02
open PySem PySem.Spec L2
open PyProof.Rows GenW GxR EZ TK
open LamX (ExtN)
abbrev sRinged49 : Stmt := top 45 -- _law_ringed
abbrev nRd : List Str := ["state", "most", "circuit", "inputs", "registers", "gates", "outputs", "way", "first", "size_here", "found", "spot", "gate", "other", "some"]
theorem scRd : FnScope nRd ["state", "most"] (defScope sRinged49) := ⟨rfl, rfl, rfl, by decide +kernel, rfl, by decide +kernel, by decide +kernel⟩
/-- a gate written down -/
theorem gate_upd {H : Hp} {p1 p2 p3 : Addr} {vs ws : List V} {ss : List Src} {bs : List Bool} (n1 : H p1 = none) (n2 : (L2.upd H p1 (.tup vs)) p2 = none) (n3 : (L2.upd (L2.upd H p1 (.tup vs)) p2 (.tup ws)) p3 = none) (al : AllAt SrcAt H vs ss) (e : ws = bs.map bitV) :
    ∃ H', L2.upd (L2.upd (L2.upd H p1 (.tup vs)) p2 (.tup ws)) p3 (.tup [.ref p1, .ref p2]) = H' ∧ Same H H' ∧ GateAt H' (.ref p3) (ss, bs) := by
  have s1 := same_new (o := .tup vs) n1
  have e1 : (L2.upd H p1 (.tup vs)) p1 = some (.tup vs) := upd_same
  generalize L2.upd H p1 (.tup vs) = H1 at s1 e1 n2 n3
  have s2 := same_new (o := .tup ws) n2
  have e2 : (L2.upd H1 p2 (.tup ws)) p2 = some (.tup ws) := upd_same
  generalize L2.upd H1 p2 (.tup ws) = H2 at s2 e2 n3
  have s3 := same_new (o := .tup [.ref p1, .ref p2]) n3
  refine ⟨_, rfl, s1.trans (s2.trans s3), p3, p1, p2, vs, rfl, upd_same, s3 _ _ (s2 _ _ e1), all_ext (fun _ _ r => r.keep (.of (s1.trans (s2.trans s3)))) al, ?_⟩
  rw [← e]
  exact s3 _ _ e2
theorem lay_kind (s : Src) : LayN 0 (.str s.kind) := match s with
  | .inp _ => ⟨(by decide +kernel : (PyData.str "in").canLay0 = true), Nat.le_refl _⟩
  | .reg _ => ⟨(by decide +kernel : (PyData.str "reg").canLay0 = true), Nat.le_refl _⟩
  | .gate _ => ⟨(by decide +kernel : (PyData.str "gate").canLay0 = true), Nat.le_refl _⟩
  | .bit _ => ⟨(by decide +kernel : (PyData.str "bit").canLay0 = true), Nat.le_refl _⟩
theorem extra_to {σ : L2.St} {H : Hp} {Q : VK} {wy : Int} {vo vg : V} {so : Src} {g : Gate} {ni nr ng : Nat} (h7 : σ[7]? = some (some (.int wy))) (h13 : σ[13]? = some (some vo)) (h12 : σ[12]? = some (some vg)) (ho : SrcAt H vo so) (hg : GateAt H vg g) (oo : so.ok ni nr ng) (og : g.ok ni nr ng)
    (q : ∀ l H' v g', Same H H' → H l = none → H' l = some (.lst [v]) → GateAt H' v g' → g'.ok ni nr ng → Q (.ref l) H') :
    tIf (tTest (tOp rEq (tVar 7) (tC (V.int 1)))) (tLst (tCons (tTup (tCons (tTup (tCons (tVar 13) tNil)) (tCons (tTup (tCons (tC (V.int 1)) (tCons (tC (V.int 0)) tNil))) tNil))) tNil)) (tLst (tCons (tVar 12) tNil)) σ H Q := by
  refine ⟨_, h7, rfl, _, rfl, ?_⟩
  by_cases c : wy = 1
  · rw [c, show decide (V.int 1 = V.int 1) = true from decide_eq_true rfl]
    refine iteT ⟨_, h13, (by show 1 ≤ sizeLine; decide), fun p1 n1 => ⟨(by show 2 ≤ sizeLine; decide), fun p2 n2 => ⟨(by show 2 ≤ sizeLine; decide), fun p3 n3 => ?_⟩⟩⟩
    obtain ⟨H5, e5, s5, g5⟩ := gate_upd (ss := [so]) (bs := [true, false]) n1 n2 n3 (.cons ho .nil) rfl
    rw [e5]
    refine ⟨(by show 1 ≤ sizeLine; decide), fun l nl => ?_⟩
    have s6 := same_new (o := .lst [.ref p3]) nl
    exact q l _ _ _ (s5.trans s6) (s5.free nl) upd_same (g5.keep (.of s6)) ⟨(by show 1 ≤ 4; decide), rfl, fun s hs => by rw [List.mem_singleton.mp hs]; exact oo⟩
  · rw [show decide (V.int wy = V.int 1) = false from decide_eq_false fun z => c (V.int.inj z)]
    refine iteF ⟨_, h12, (by show 1 ≤ sizeLine; decide), fun l nl => ?_⟩
    have s6 := same_new (o := .lst [vg]) nl
    exact q l _ _ _ s6 nl upd_same (hg.keep (.of s6)) og
theorem way_test {K : PySem.W.Frag} {σ : L2.St} {H : Hp} {k : Bool → Hp → Prop} {wy ni : Int} {ra : Addr} {rs : List V} {regs : List (Bool × Src)} (h7 : σ[7]? = some (some (.int wy))) (h3 : σ[3]? = some (some (.int ni))) (h4 : σ[4]? = some (some (.ref ra))) (er : H ra = some (.tup rs)) (hrs : AllAt RegAt H rs regs)
    (k1 : ∀ H', Same H H' → k true H') (k2 : ∀ H', Same H H' → (ni ≠ 0 ∨ regs ≠ []) → k false H') :
    tOr (tTest (tOp rEq (tVar 7) (tC (V.int 0)))) (tAnd (tTest (tOp rEq (tVar 3) (tC (V.int 0)))) (tTest (tOp (rEqD K) (tVar 4) (tTup tNil)))) σ H k := by
  refine ⟨_, h7, rfl, _, rfl, ?_⟩
  by_cases c1 : wy = 0
  · rw [c1, show decide (V.int 0 = V.int 0) = true from decide_eq_true rfl]
    exact iteT (k1 H fun _ _ e => e)
  · rw [show decide (V.int wy = V.int 0) = false from decide_eq_false fun z => c1 (V.int.inj z)]
    refine iteF ⟨_, h3, rfl, _, rfl, ?_⟩
    by_cases c2 : ni = 0
    · rw [c2, show decide (V.int 0 = V.int 0) = true from decide_eq_true rfl]
      refine iteT ⟨_, h4, Nat.zero_le _, fun pe npe => ?_⟩
      have s := same_new (o := .tup []) npe
      have lay : ∀ s : Src, LayN 1 (srcDat s) := fun s => layN_tuple fun d hd => by
        simp only [List.mem_cons, List.not_mem_nil, or_false] at hd
        rcases hd with z | z
        · rw [z]
          exact layN_mono (lay_kind s) (by decide)
        · rw [z]
          exact layN_leaf rfl
      have lay2 : ∀ r : Bool × Src, LayN 2 (regDat r) := fun r => layN_tuple fun d hd => by
        simp only [List.mem_cons, List.not_mem_nil, or_false] at hd
        rcases hd with z | z
        · rw [z]
          exact layN_mono (layN_leaf rfl) (by decide)
        · rw [z]
          exact lay _
      have lay3 : LayN 3 (.tuple (regs.map regDat)) := layN_tuple fun d hd => by
        obtain ⟨r, _, rfl⟩ := List.mem_map.mp hd
        exact lay2 r
      refine ⟨.tuple (regs.map regDat), .tuple [], .tup (.inl (.inl (s _ _ er))) (dp_all (fun _ _ r => dp_reg r) (all_ext (fun _ _ r => r.keep (.of s)) hrs)), .tup (.inl (.inl upd_same)) .nil, layN_shaped lay3 (by decide), rfl, _, rfl, ?_⟩
      cases regs with
      | nil => exact k1 _ s
      | cons a r => exact k2 _ s (.inr fun z => nomatch z)
    · rw [show decide (V.int ni = V.int 0) = false from decide_eq_false fun z => c2 (V.int.inj z)]
      exact iteF (k2 H (fun _ _ e => e) (.inl c2))
theorem first_to {σ : L2.St} {H : Hp} {Q : VK} {st lg cl : Addr} {t ni nr ng : Nat} {E : XK} (h0 : σ[0]? = some (some (.ref st))) (h3 : σ[3]? = some (some (.int (ni : Int)))) (hni : ni ≤ 8) (hne : ni ≠ 0 ∨ 0 < nr) (ht : t < 1000000000) (S : StOk H st lg cl t)
    (q : ∀ v H' s, But st lg H H' → StOk H' st lg cl (t + 1) → SrcAt H' v s → s.ok ni nr ng → Q v H') :
    tIf (tTest (tOp (rI0 fun i j => V.bl (decide (j < i))) (tVar 3) (tC (V.int 0)))) (tTup (tCons (tC (V.str "in")) (tCons (tCall spDraw [] E (tCons (tVar 0) (tCons (tVar 3) tNil))) tNil))) (tTup (tCons (tC (V.str "reg")) (tCons (tC (V.int 0)) tNil))) σ H Q := by
  refine ⟨_, h3, _, _, rfl, rfl, _, rfl, ?_⟩
  by_cases c : ni = 0
  · rw [show decide ((0 : Int) < (ni : Int)) = false from decide_eq_false (by omega)]
    refine iteF ⟨(by show 2 ≤ sizeLine; decide), fun p np => ?_⟩
    have s := same_new (o := .tup [.str "reg", .int 0]) np
    exact q _ _ (.reg 0) (.of s) ((S.keep s).up (by omega)) ⟨p, rfl, upd_same⟩ (by rcases hne with z | z; exact absurd c z; exact z)
  · rw [show decide ((0 : Int) < (ni : Int)) = true from decide_eq_true (by omega)]
    refine iteT ⟨_, h0, _, h3, st, lg, cl, t, (ni : Int), rfl, by omega, by omega, ht, S, fun k H' k0 k1 S' U' => ?_⟩
    refine ⟨(by show 2 ≤ sizeLine; decide), fun p np => ?_⟩
    obtain ⟨kn, rfl⟩ : ∃ n : Nat, k = (n : Int) := ⟨k.toNat, by omega⟩
    have s := same_new (o := .tup [.str "in", .int (kn : Int)]) np
    exact q _ _ (.inp kn) (U'.trans (.of s)) (S'.keep s) ⟨p, rfl, upd_same⟩ (by show kn < ni; omega)
section
variable {P : Program} {w : World} {K : PySem.W.Frag} {mg : Str → Option Value} {base : Heap}
def spRinged49 : Sp := fun vs H Q _ => ∃ (st lg cl : Addr) (t most : Nat), vs = [.ref st, .int (most : Int)] ∧ 0 < most ∧ most ≤ 100 ∧ t + 20000 < 1000000000 ∧ StOk H st lg cl t ∧
  ∀ (y : V) (C : Circ) (H' : Hp), CircAt H' y C → C.ok → 1 ≤ C.gates.length → C.gates.length ≤ most → C.regs.length ≤ 2 → C.outs.length ≤ 3 → StOk H' st lg cl (t + 50 * most + 70) → But st lg H H' → Q y H'
theorem ok_ringed49 {f : Addr} {fd : FuncData} (F : Fun K "_law_ringed" "_law_ringed" sRinged49 f fd) (mint : mg "int" = none) (mlen : mg "len" = none) (men : mg "enumerate" = none) (mtuple : mg "tuple" = none)
    (cI : Cal P w K mg base CX0 4 "_law_circuit" ["state", "most", "branches"] spLCirc) (cD : Cal P w K mg base CX0 1 "_law_draw" ["state", "size_here"] spDraw) (cK : Cal P w K mg base CX0 2 "_law_pick" ["state", "several"] (spPick K)) :
    FnOk P w K mg base CX0 5 f fd ["state", "most"] spRinged49 := by
  obtain ⟨fI, fdI, GI, kI, bI, mI⟩ := cI
  obtain ⟨fD, fdD, GD, kD, bD, mD⟩ := cD
  obtain ⟨fK, fdK, GK, kK, bK, mK⟩ := cK
  refine F.ok scRd (fun vs H Q E h => ?_) (fun cdv A outer s H vs Q E hr h => ?_)
  · obtain ⟨st, lg, cl, t, most, rfl, _⟩ := h
    rfl
  · obtain ⟨st, lg, cl, t, most, rfl, hm0, hm1, ht, S, q⟩ := h
    have hu64 := hr.units
    refine ⟨_, (pss_cons (ps_set (i := 2) scRd.nd rfl (Or.inl rfl) (pe_call GI (hr.mono (by decide)) (by rfl) mI kI bI .nil pass0 (pa_cons (pv 0) (pa_cons (pv 1) (pa_cons (pe_op op_mul pe_int (pv 1)) pa_nil)))))
      (pss_cons (ps_asg (pv 2) (pg_tup rfl (pgs_cons (pg_name (i := 3) scRd.nd rfl (Or.inl rfl)) (pgs_cons (pg_name (i := 4) scRd.nd rfl (Or.inl rfl)) (pgs_cons (pg_name (i := 5) scRd.nd rfl (Or.inl rfl)) (pgs_cons (pg_name (i := 6) scRd.nd rfl (Or.inl rfl)) pgs_nil))))))
      (pss_cons (ps_set (i := 7) scRd.nd rfl (Or.inl rfl) (pe_call GD (hr.mono (by decide)) (by rfl) mD kD bD .nil pass0 (pa_cons (pv 0) (pa_cons pe_int pa_nil))))
      (pss_cons (ps_if (pw_or (pt_cmpR op_eq (pv 7) pe_int (nomark _)) (pw_or1 (pw_and (pt_cmpR op_eq (pv 3) pe_int (nomark _)) (pw_and1 (pt_cmpR (op_eqD hu64) (pv 4) (pe_tup pa_nil) (nomark _)))).pt)).pt (pss_one (ps_ret (pv 2))) pss_nil)
      (pss_cons (ps_set (i := 8) scRd.nd rfl (Or.inl rfl) (pe_ifExp (pt_cmpR op_gt (pv 3) pe_int (nomark _)) (pe_tup (pa_cons pe_str (pa_cons (pe_call GD (hr.mono (by decide)) (by rfl) mD kD bD .nil pass0 (pa_cons (pv 0) (pa_cons (pv 3) pa_nil))) pa_nil))) (pe_tup (pa_cons pe_str (pa_cons pe_int pa_nil)))))
      (pss_cons (ps_par (i := 9) (j := 10) rfl scRd.nd rfl rfl (by decide) rfl rfl (pa_cons (pe_callB call_len_seq (by rfl) mlen PySem.boot_len (pa_cons (pv 5) pa_nil)) (pa_cons (pe_lst pa_nil) pa_nil)) (by rfl))
      (pss_cons (ps_for PassesOwn.never rfl (pi_enumT (by rfl) men (pa_cons (pv 5) pa_nil)) (pg_tup rfl (pgs_cons (pg_name (i := 11) scRd.nd rfl (Or.inl rfl)) (pgs_cons (pg_name (i := 12) scRd.nd rfl (Or.inl rfl)) pgs_nil)))
        (pss_cons (ps_set (i := 13) scRd.nd rfl (Or.inl rfl) (pe_tup (pa_cons pe_str (pa_cons (pe_op op_mod (pe_callTy call_int1 (by rfl) mint (by decide +kernel) (pa_cons (pe_op op_add (pv 11) pe_int) pa_nil)) (pv 9)) pa_nil))))
        (pss_cons (ps_set (i := 14) scRd.nd rfl (Or.inl rfl) (pe_lst (pa_cons (pe_tup (pa_cons (pe_tup (pa_cons (pv 8) (pa_cons (pv 13) pa_nil))) (pa_cons (pe_tup (pa_cons pe_int (pa_cons pe_int (pa_cons pe_int (pa_cons pe_int pa_nil))))) pa_nil))) (pa_cons (pe_tup (pa_cons (pe_tup (pa_cons (pv 8) (pa_cons (pv 13) pa_nil))) (pa_cons (pe_tup (pa_cons pe_int (pa_cons pe_int (pa_cons pe_int (pa_cons pe_int pa_nil))))) pa_nil))) (pa_cons (pe_tup (pa_cons (pe_tup (pa_cons (pv 8) (pa_cons (pv 13) (pa_cons (pe_tup (pa_cons pe_str (pa_cons (pe_call GD (hr.mono (by decide)) (by rfl) mD kD bD .nil pass0 (pa_cons (pv 0) (pa_cons (pv 9) pa_nil))) pa_nil))) pa_nil)))) (pa_cons (pe_tup (pa_cons pe_int (pa_cons pe_int (pa_cons pe_int (pa_cons pe_int (pa_cons pe_int (pa_cons pe_int (pa_cons pe_int (pa_cons pe_int pa_nil))))))))) pa_nil))) (pa_cons (pv 12) pa_nil))))))
        (pss_one (ps_expr (pe_bm PySem.F.plainAttrs_list PySem.F.slot_list_append PySem.F.type_list_append mt_append (pv 10) (pa_cons (pe_call GK (hr.mono (by decide)) (by rfl) mK kK bK .nil pass0 (pa_cons (pv 0) (pa_cons (pe_op op_cat (pv 14) (pe_ifExp (pt_cmpR op_eq (pv 7) pe_int (nomark _)) (pe_lst (pa_cons (pe_tup (pa_cons (pe_tup (pa_cons (pv 13) pa_nil)) (pa_cons (pe_tup (pa_cons pe_int (pa_cons pe_int pa_nil))) pa_nil))) pa_nil)) (pe_lst (pa_cons (pv 12) pa_nil)))) pa_nil))) pa_nil)))))))
      (pss_one (ps_ret (pe_tup (pa_cons (pv 3) (pa_cons (pv 4) (pa_cons (pe_callTy call_tuple_of (by rfl) mtuple (by decide +kernel) (pa_cons (pv 10) pa_nil)) (pa_cons (pv 6) pa_nil)))))))))))))), ?_⟩
    refine ⟨_, rfl, _, rfl, _, rfl, 3, (most : Int), rfl, rfl, .inl ⟨by decide, by decide⟩, ?_⟩
    refine ⟨st, lg, cl, t, most, 3 * most, by rw [Int.natCast_mul]; rfl, hm0, hm1, by omega, by omega, S, fun y C H1 hC ok ni3 nr2 ng1 ngm no3 _ S1 U1 => ?_⟩
    obtain ⟨tC, ra, ga, oa, rs, gs, os, rfl, et, er, eg, eo, hrs, hgs, hos⟩ := id hC
    have lg' : gs.length = C.gates.length := Paired.length hgs
    have b2 := ok.ng
    refine ⟨_, rfl, tC, _, rfl, .inl (.inl et), rfl, _, _, rfl, _, _, rfl, _, _, rfl, _, _, rfl, rfl, ?_⟩
    refine ⟨_, rfl, st, lg, cl, _, 4, rfl, by decide, by decide, by omega, S1, fun wy H2 _ _ S2 U2 => ?_⟩
    have kt2 := U2.tup S1
    have hrs2 : AllAt RegAt H2 rs C.regs := all_ext (fun _ _ r => r.keep kt2) hrs
    refine seq_if (way_test (K := K) (regs := C.regs) rfl rfl rfl (kt2 _ _ er) hrs2 (fun H3 s3 => iteT ?_) (fun H3 s3 hne => iteF ?_))
    · exact ⟨_, rfl, q _ _ _ ((hC.keep kt2).keep (.of s3)) ok ng1 ngm nr2 no3 ((S2.keep s3).up (by omega)) ((U1.trans U2).trans (.of s3))⟩
    have S3 := S2.keep s3
    have kt3 := kt2.trans (TupKeep.of s3)
    have U3 := (U1.trans U2).trans (But.of s3)
    refine next_of ?_
    dsimp only
    refine seq_asg (first_to (nr := C.regs.length) (ng := C.gates.length) rfl rfl ok.ni (by
      rcases hne with z | z
      · exact .inl (by omega)
      · refine .inr ?_
        cases e : C.regs with
        | nil => exact absurd e z
        | cons _ _ => exact Nat.succ_pos _) (by omega) S3 fun vf H4 sf U4 S4 hsf okf => ?_)
    show tSeq _ _ _ [some (V.ref st), some (V.int (most : Int)), some (V.ref tC), some (V.int (C.ni : Int)), some (V.ref ra), some (V.ref ga), some (V.ref oa), some (V.int wy), some vf, none, none, none, none, none, none] H4
    have kt4 := kt3.trans (U4.tup S3)
    have U04 := U3.trans U4
    have hC4 := hC.keep kt4
    have eg4 := kt4 _ _ eg
    have er4 := kt4 _ _ er
    have eo4 := kt4 _ _ eo
    have hgs4 : AllAt GateAt H4 gs C.gates := all_ext (fun _ _ r => r.keep kt4) hgs
    have hrs4 : AllAt RegAt H4 rs C.regs := all_ext (fun _ _ r => r.keep kt4) hrs
    have hos4 : AllAt SrcAt H4 os C.outs := all_ext (fun _ _ r => r.keep kt4) hos
    clear hC et er eg eo hrs hgs hos S1 U1 S2 U2 kt2 hrs2 s3 hne S3 kt3 U3 U4 kt4
    generalize hn : C.gates.length = n at *
    have hnp : 0 < n := ng1
    -- size_here, found
    refine ⟨_, rfl, ga, gs, rfl, .inr (.inl (.inl eg4)), Nat.zero_le _, fun D nD => ⟨_, _, rfl, ?_⟩⟩
    have nDs := But.st_new (o := .tup []) S4 nD
    have nDc := S4.cl_ne nD
    have s5 := same_new (o := .lst []) nD
    have eD5 : (L2.upd H4 D (.lst [])) D = some (.lst []) := upd_same
    have S5 := S4.keep s5
    have eg5 := s5 _ _ eg4
    generalize L2.upd H4 D (.lst []) = H5 at s5 eD5 S5 eg5
    rw [lg']
    show tSeq _ _ _ [some (V.ref st), some (V.int (most : Int)), some (V.ref tC), some (V.int (C.ni : Int)), some (V.ref ra), some (V.ref ga), some (V.ref oa), some (V.int wy), some vf, some (V.int (n : Int)), some (V.ref D), none, none, none, none] H5
    refine ⟨_, rfl, ga, gs, rfl, .inl (.inl eg5), for_it (walk_enT (xs := gs)) (fun i σ Hx => ∃ (y11 y12 y13 y14 : Option V) (vs : List V) (xs : List Gate), σ = [some (V.ref st), some (V.int (most : Int)), some (V.ref tC), some (V.int (C.ni : Int)), some (V.ref ra), some (V.ref ga), some (V.ref oa), some (V.int wy), some vf, some (V.int (n : Int)), some (V.ref D), y11, y12, y13, y14] ∧ But st lg H4 Hx ∧ Hx D = some (.lst vs) ∧ vs.length = i ∧ AllAt GateAt Hx vs xs ∧ (∀ x ∈ xs, x.ok C.ni C.regs.length n) ∧ StOk Hx st lg cl (t + 40 * most + 60 + 1 + 1 + 2 * i))
      ⟨none, none, none, none, [], [], rfl, .of s5, eD5, rfl, .nil, fun x z => (nomatch z), S5⟩ (fun i σ Hx _ hh => ?_) (fun i x σ Hx Hy hi hh hy => ?_) (fun σ Hx hh => ?_)⟩
    · obtain ⟨_, _, _, _, _, _, _, U, _⟩ := hh
      exact .inl (.inl (U.tup S4 _ _ eg4))
    · obtain ⟨y11, y12, y13, y14, vs, xs, rfl, Ux, eDx, lvs, hvs, hok, Sx⟩ := hh
      obtain ⟨T1, x1, y1, rfl, nT1, rfl, hx, hy⟩ := hy
      cases hx
      have hy : gs[i]? = some y1 := hy
      obtain ⟨g, hg1, hgat⟩ := all_get hgs4 hy
      have gok : g.ok C.ni C.regs.length n := by
        rw [← hn]
        exact ok.gates g (List.mem_of_getElem? hg1)
      have hin : i < n := by rw [← hn]; exact (List.getElem?_eq_some_iff.mp hg1).1
      have s6 := same_new (o := .tup [.int (i : Nat), y1]) nT1
      have eT1 : (L2.upd Hx T1 (.tup [.int (i : Nat), y1])) T1 = some (.tup [.int (i : Nat), y1]) := upd_same
      have U6 := Ux.trans (But.of s6)
      have S6 := Sx.keep s6
      have eD6 := s6 _ _ eDx
      have hv6 : AllAt GateAt (L2.upd Hx T1 (.tup [.int (i : Nat), y1])) vs xs := all_ext (fun _ _ r => r.keep (.of s6)) hvs
      generalize L2.upd Hx T1 (.tup [.int (i : Nat), y1]) = H6 at s6 eT1 U6 S6 eD6 hv6
      refine ⟨T1, _, rfl, .inl (.inl eT1), rfl, _, _, rfl, _, _, rfl, rfl, ?_⟩
      -- other
      refine ⟨_, rfl, _, _, rfl, rfl, .inl ⟨_, rfl, _, rfl, _, _, rfl, rfl, (by show (0 : Int) < (n : Int); omega), (by show 2 ≤ sizeLine; decide), fun po npo => ?_⟩⟩
      have emod : (((i : Nat) : Int) + 1) % (n : Int) = (((i + 1) % n : Nat) : Int) := by
        rw [Int.natCast_emod]
        rfl
      show gName 13 (V.ref po) _ (L2.upd H6 po (.tup [.str "gate", .int ((((i : Nat) : Int) + 1) % (n : Int))])) _
      rw [emod]
      have t1 := same_new (o := .tup [.str "gate", .int (((i + 1) % n : Nat) : Int)]) npo
      have ho : SrcAt (L2.upd H6 po (.tup [.str "gate", .int (((i + 1) % n : Nat) : Int)])) (.ref po) (.gate ((i + 1) % n)) := ⟨po, rfl, upd_same⟩
      have oko : Src.ok C.ni C.regs.length n (.gate ((i + 1) % n)) := Nat.mod_lt _ hnp
      generalize L2.upd H6 po (.tup [.str "gate", .int (((i + 1) % n : Nat) : Int)]) = H7 at t1 ho
      have U7 := U6.trans (But.of t1)
      have S7 := S6.keep t1
      have eD7 := t1 _ _ eD6
      have hv7 : AllAt GateAt H7 vs xs := all_ext (fun _ _ r => r.keep (.of t1)) hv6
      have kf7 := U7.tup S4
      have hf7 := hsf.keep kf7
      have hg7 := hgat.keep kf7
      clear hv6 eD6 S6 U6 s6 eT1 hvs Sx eDx Ux t1 npo nT1
      show tSeq _ _ _ [some (V.ref st), some (V.int (most : Int)), some (V.ref tC), some (V.int (C.ni : Int)), some (V.ref ra), some (V.ref ga), some (V.ref oa), some (V.int wy), some vf, some (V.int (n : Int)), some (V.ref D), some (V.int ((i : Nat) : Int)), some y1, some (V.ref po), y14] H7
      -- some
      refine ⟨_, rfl, _, rfl, (by show 2 ≤ sizeLine; decide), fun p1 n1 => ⟨(by show 4 ≤ sizeLine; decide), fun p2 n2 => ⟨(by show 2 ≤ sizeLine; decide), fun p3 n3 => ?_⟩⟩⟩
      obtain ⟨H8, e8, s8, g8⟩ := gate_upd (ss := [sf, .gate ((i + 1) % n)]) (bs := [false, false, false, true]) n1 n2 n3 (.cons hf7 (.cons ho .nil)) rfl
      rw [e8]
      clear e8 n1 n2 n3
      refine ⟨_, rfl, _, rfl, (by show 2 ≤ sizeLine; decide), fun q1 n1 => ⟨(by show 4 ≤ sizeLine; decide), fun q2 n2 => ⟨(by show 2 ≤ sizeLine; decide), fun q3 n3 => ?_⟩⟩⟩
      obtain ⟨H9, e9, s9, g9⟩ := gate_upd (ss := [sf, .gate ((i + 1) % n)]) (bs := [false, true, true, true]) n1 n2 n3 (.cons (hf7.keep (.of s8)) (.cons (ho.keep (.of s8)) .nil)) rfl
      rw [e9]
      clear e9 n1 n2 n3
      have s79 := s8.trans s9
      refine ⟨_, rfl, _, rfl, _, rfl, _, rfl, st, lg, cl, _, (n : Int), rfl, by omega, by omega, (show t + 40 * most + 60 + 1 + 1 + 2 * i < 1000000000 by omega), S7.keep s79, fun k H10 k0 k1 S10 U10 => ⟨(by show 2 ≤ sizeLine; decide), fun pc npc => ⟨(by show 3 ≤ sizeLine; decide), fun r1 n1 => ⟨(by show 8 ≤ sizeLine; decide), fun r2 n2 => ⟨(by show 2 ≤ sizeLine; decide), fun r3 n3 => ?_⟩⟩⟩⟩⟩
      obtain ⟨kn, rfl⟩ : ∃ m : Nat, k = (m : Int) := ⟨k.toNat, by omega⟩
      have k910 := U10.tup (S7.keep s79)
      have k710 := (TupKeep.of s79).trans k910
      have t10 := same_new (o := .tup [.str "gate", .int (kn : Int)]) npc
      have hk : SrcAt (L2.upd H10 pc (.tup [.str "gate", .int (kn : Int)])) (.ref pc) (.gate kn) := ⟨pc, rfl, upd_same⟩
      generalize L2.upd H10 pc (.tup [.str "gate", .int (kn : Int)]) = H11 at t10 hk n1 n2 n3
      have k711 := k710.trans (TupKeep.of t10)
      obtain ⟨H12, e12, s12, g12⟩ := gate_upd (ss := [sf, .gate ((i + 1) % n), .gate kn]) (bs := [false, false, true, false, false, true, true, true]) n1 n2 n3 (.cons (hf7.keep k711) (.cons (ho.keep k711) (.cons hk .nil))) rfl
      rw [e12]
      clear e12 n1 n2 n3
      have k712 := k711.trans (TupKeep.of s12)
      have k912 := k910.trans ((TupKeep.of t10).trans (TupKeep.of s12))
      have U12 : But st lg H7 H12 := (But.of s79).trans (U10.trans (But.of (t10.trans s12)))
      have S12 := S10.keep (t10.trans s12)
      refine ⟨_, rfl, (by show 4 ≤ sizeLine; decide), fun L nL => ?_⟩
      have nLs := But.st_new (o := .tup []) S12 nL
      have t13 := same_new (o := .lst [.ref p3, .ref q3, .ref r3, y1]) nL
      have eL : (L2.upd H12 L (.lst [.ref p3, .ref q3, .ref r3, y1])) L = some (.lst [.ref p3, .ref q3, .ref r3, y1]) := upd_same
      have k813 := ((TupKeep.of s9).trans k912).trans (TupKeep.of t13)
      have gP := g8.keep k813
      have gQ := g9.keep (k912.trans (TupKeep.of t13))
      have gR := g12.keep (.of t13)
      have k713 := k712.trans (TupKeep.of t13)
      have gG := hg7.keep k713
      have ho13 := ho.keep k713
      have U13 := U7.trans (U12.trans (But.of t13))
      have S13 := S12.keep t13
      have eD13 := (U12.trans (But.of t13)) _ _ eD7 nDs.1 nDs.2
      have hv13 : AllAt GateAt (L2.upd H12 L (.lst [.ref p3, .ref q3, .ref r3, y1])) vs xs := all_ext (fun _ _ r => r.keep k713) hv7
      generalize L2.upd H12 L (.lst [.ref p3, .ref q3, .ref r3, y1]) = H13 at t13 eL gP gQ gR gG ho13 U13 S13 eD13 hv13
      clear k813 k713 k712 k912 k711 k710 k910 t10 s12 g12 g9 g8 s79 s8 s9 hk hf7 ho hg7 hv7 eD7 S7 U7 S10 U10 U12 S12 kf7 nL t13
      -- found.append(..)
      refine ⟨_, rfl, .inl ⟨rfl, vs, .inl (.inl eD13)⟩, ?_⟩
      refine cons_of ?_
      refine ⟨_, rfl, _, rfl, ?_⟩
      refine extra_to (ni := C.ni) (nr := C.regs.length) (ng := n) rfl rfl rfl ho13 gG oko gok fun l H14 v g' s14 nl el hv' og' => ?_
      have t14 := U13.tup S4
      have g13 := gP.keep (.of s14)
      refine ⟨L, l, _, _, rfl, rfl, s14 _ _ eL, el, (by show 4 + 1 ≤ sizeLine; decide), fun Lc nLc => ?_⟩
      have nLcs := But.st_new (o := .tup []) (S13.keep s14) nLc
      have s15 := same_new (o := .lst ([.ref p3, .ref q3, .ref r3, y1] ++ [v])) nLc
      have s145 := s14.trans s15
      refine ⟨st, lg, cl, Lc, _, [.ref p3, .ref q3, .ref r3, y1] ++ [v], rfl, (by show 0 < 5; decide), (by show 5 ≤ 1000; decide), nLcs.1, nLcs.2, .inl (.inl upd_same), (show t + 40 * most + 60 + 1 + 1 + 2 * i + 1 < 1000000000 by omega), S13.keep s145, fun x H16 hx S16 U16 => ?_⟩
      have k16 := (TupKeep.of s145).trans (U16.tup (S13.keep s145))
      have eD16 := U16 _ _ (s145 _ _ eD13) nDs.1 nDs.2
      have hx16 : ∃ gx, GateAt H16 x gx ∧ gx.ok C.ni C.regs.length n := by
        have two : ∀ s ∈ [sf, Src.gate ((i + 1) % n)], s.ok C.ni C.regs.length n := fun s hs => by
          simp only [List.mem_cons, List.not_mem_nil, or_false] at hs
          rcases hs with z | z <;> rw [z]
          · exact okf
          · exact oko
        simp only [List.cons_append, List.nil_append, List.mem_cons, List.not_mem_nil, or_false] at hx
        rcases hx with z | z | z | z | z <;> rw [z]
        · exact ⟨_, gP.keep k16, (by show 2 ≤ 4; decide), rfl, two⟩
        · exact ⟨_, gQ.keep k16, (by show 2 ≤ 4; decide), rfl, two⟩
        · exact ⟨_, gR.keep k16, (by show 3 ≤ 4; decide), rfl, fun s hs => by
            simp only [List.mem_cons, List.not_mem_nil, or_false] at hs
            rcases hs with z | z | z <;> rw [z]
            · exact okf
            · exact oko
            · show kn < n
              omega⟩
        · exact ⟨_, gG.keep k16, gok⟩
        · exact ⟨_, hv'.keep ((TupKeep.of s15).trans (U16.tup (S13.keep s145))), og'⟩
      obtain ⟨gx, hgx, ogx⟩ := hx16
      have hv16 : AllAt GateAt H16 vs xs := all_ext (fun _ _ r => r.keep k16) hv13
      have tu : TupKeep H16 (L2.upd H16 D (.lst (vs ++ [x]))) := TupKeep.upd eD16 fun xs z => by cases z
      refine ⟨D, vs, x, rfl, rfl, eD16, by rw [lvs, sizeLine_eq]; omega, _, _, _, _, vs ++ [x], xs ++ [gx], rfl, fun b o e m1 m2 => ?_, upd_same, by rw [List.length_append, lvs]; rfl, paired_snoc (all_ext (fun _ _ r => r.keep tu) hv16) (hgx.keep tu), fun z hz => ?_, (S16.upd nDs.1 nDs.2 nDc).up (by omega)⟩
      · rw [upd_ne (ne_of_none e nD)]
        exact (U13.trans ((But.of s145).trans U16)) _ _ e m1 m2
      · rcases List.mem_append.mp hz with w | w
        · exact hok z w
        · rw [List.mem_singleton.mp w]
          exact ogx
    · obtain ⟨y11, y12, y13, y14, vs, xs, rfl, Ux, eDx, lvs, hvs, hok, Sx⟩ := hh
      have kx := Ux.tup S4
      refine ⟨_, rfl, _, rfl, _, rfl, D, vs, rfl, .inl ⟨.inl (.inl eDx), fun p np => ?_⟩⟩
      have s6 := same_new (o := .tup vs) np
      have ep : (L2.upd Hx p (.tup vs)) p = some (.tup vs) := upd_same
      have hv6 : AllAt GateAt (L2.upd Hx p (.tup vs)) vs xs := all_ext (fun _ _ r => r.keep (.of s6)) hvs
      generalize L2.upd Hx p (.tup vs) = H6 at s6 ep hv6
      refine ⟨_, rfl, (by show 4 ≤ sizeLine; decide), fun tq ntq => ?_⟩
      have s7 := same_new (o := .tup [.int (C.ni : Int), .ref ra, .ref p, .ref oa]) ntq
      have s67 := s6.trans s7
      have k7 := kx.trans (TupKeep.of s67)
      have lxs : xs.length = n := by rw [← Paired.length hvs, lvs, lg']
      have ok' : Circ.ok ⟨C.ni, C.regs, xs, C.outs⟩ := ⟨ok.ni, ok.nr, by show xs.length ≤ 2000; omega, ok.no, fun r hr => by
        show r.2.ok C.ni C.regs.length xs.length
        rw [lxs, ← hn]
        exact ok.regs r hr, fun g hg => by
        show g.ok C.ni C.regs.length xs.length
        rw [lxs]
        exact hok g hg, fun s hs => by
        show s.ok C.ni C.regs.length xs.length
        rw [lxs, ← hn]
        exact ok.outs s hs⟩
      refine q (.ref tq) ⟨C.ni, C.regs, xs, C.outs⟩ _ ⟨tq, ra, p, oa, rs, vs, os, rfl, upd_same, k7 _ _ er4, s7 _ _ ep, k7 _ _ eo4, all_ext (fun _ _ r => r.keep k7) hrs4, all_ext (fun _ _ r => r.keep (.of s7)) hv6, all_ext (fun _ _ r => r.keep k7) hos4⟩ ok' (by show 1 ≤ xs.length; omega) (by show xs.length ≤ most; omega) nr2 no3 ((Sx.keep s67).up (by omega)) (U04.trans (Ux.trans (But.of s67)))
end
end K02

set_option Elab.async false
set_option linter.all false
set_option maxRecDepth 100000
set_option maxHeartbeats 4000000
/-! Rings in which each gate reads one a step further on. -/
namespace K02
open PySem PySem.Spec L2
open PyProof.Rows GenW GxR EZ TK
open LamX (ExtN)
def stepG (n d i : Nat) : Gate := ([.gate ((i + d) % n)], [true, false])
def longC (n d : Nat) : Circ := ⟨0, [], (List.range n).map (stepG n d), []⟩
theorem longC_len (n d : Nat) : (longC n d).gates.length = n := by
  show ((List.range n).map (stepG n d)).length = n
  rw [List.length_map, List.length_range]
theorem long_suc {n d u : Nat} (h : u < n) : KM.suc (leadsC (longC n d)) u = [(u + d) % n] := by
  unfold KM.suc leadsC longC
  rw [List.getD_eq_getElem?_getD, List.getElem?_map, List.getElem?_map, List.getElem?_range h]
  rfl
theorem add_steps {n u d j : Nat} : ((u + j * d) % n + d) % n = (u + (j + 1) * d) % n := by
  rw [Nat.mod_add_mod, Nat.succ_mul, Nat.add_assoc]
theorem long_reach {n d u v : Nat} (h : u < n) : KM.Reach (leadsC (longC n d)) u v ↔ ∃ j, v = (u + j * d) % n := by
  have hn : 0 < n := by omega
  constructor
  · intro r
    induction r with
    | refl => exact ⟨0, by rw [Nat.zero_mul, Nat.add_zero, Nat.mod_eq_of_lt h]⟩
    | tail r w ih =>
      obtain ⟨j, rfl⟩ := ih
      rw [long_suc (Nat.mod_lt _ hn), List.mem_singleton] at w
      exact ⟨j + 1, by rw [w, add_steps]⟩
  · rintro ⟨j, rfl⟩
    induction j with
    | zero =>
      rw [Nat.zero_mul, Nat.add_zero, Nat.mod_eq_of_lt h]
      exact .refl _
    | succ j ih =>
      refine .tail ih ?_
      rw [long_suc (Nat.mod_lt _ hn), add_steps]
      exact List.mem_singleton.mpr rfl
theorem round_all {n u d : Nat} (h : u < n) : (u + n * d) % n = u := by
  rw [Nat.add_mul_mod_self_left, Nat.mod_eq_of_lt h]
theorem long_ring {n d u : Nat} (h : u < n) : KM.OnRing (leadsC (longC n d)) u := by
  have hn : 0 < n := by omega
  refine ⟨(u + d) % n, by rw [long_suc h]; exact List.mem_singleton.mpr rfl, (long_reach (Nat.mod_lt _ hn)).mpr ⟨n - 1, ?_⟩⟩
  rw [Nat.mod_add_mod]
  have e : u + d + (n - 1) * d = u + n * d := by
    obtain ⟨m, rfl⟩ : ∃ m, n = m + 1 := ⟨n - 1, by omega⟩
    rw [Nat.add_sub_cancel, Nat.succ_mul]
    omega
  rw [e, round_all h]
theorem long_sym {n d u v : Nat} (h : u < n) (r : KM.Reach (leadsC (longC n d)) u v) : KM.Reach (leadsC (longC n d)) v u := by
  have hn : 0 < n := by omega
  obtain ⟨j, rfl⟩ := (long_reach h).mp r
  refine (long_reach (Nat.mod_lt _ hn)).mpr ⟨j * (n - 1), ?_⟩
  rw [Nat.mod_add_mod]
  have e : u + j * d + j * (n - 1) * d = u + n * (j * d) := by
    obtain ⟨m, rfl⟩ : ∃ m, n = m + 1 := ⟨n - 1, by omega⟩
    rw [Nat.add_sub_cancel, Nat.succ_mul, Nat.mul_assoc, Nat.mul_left_comm]
    omega
  rw [e, round_all h]
/-- the law's walk from f, k steps long -/
structure WalkI (n d f k : Nat) : Prop where
  k1 : 1 ≤ k
  no : ∀ j, 1 ≤ j → j < k → (f + j * d) % n ≠ f
theorem WalkI.one {n d f : Nat} : WalkI n d f 1 := ⟨Nat.le_refl _, fun j a b => by omega⟩
theorem WalkI.next {n d f k : Nat} (w : WalkI n d f k) (h : (f + k * d) % n ≠ f) : WalkI n d f (k + 1) := ⟨by omega, fun j a b => by
  by_cases e : j = k
  · rw [e]
    exact h
  · exact w.no j a (by omega)⟩
theorem WalkI.le {n d f k : Nat} (hf : f < n) (w : WalkI n d f k) : k ≤ n := by
  refine Nat.le_of_not_lt fun h => ?_
  exact w.no n (by omega) h (round_all hf)
def lineF (n d f k : Nat) : List Nat := (List.range k).map fun j => (f + j * d) % n
theorem lineF_succ (n d f k : Nat) : lineF n d f (k + 1) = lineF n d f k ++ [(f + k * d) % n] := by
  unfold lineF
  rw [List.range_succ, List.map_append]
  rfl
theorem same_rest {n f a b : Nat} (hf : f < n) (h : (f + a + b) % n = (f + a) % n) : (f + b) % n = f := by
  have z := Nat.sub_mod_eq_zero_of_mod_eq h
  rw [Nat.add_sub_cancel_left] at z
  rw [Nat.add_mod, z, Nat.add_zero, Nat.mod_mod, Nat.mod_eq_of_lt hf]
theorem WalkI.nodup {n d f k : Nat} (hf : f < n) (w : WalkI n d f k) : (lineF n d f k).Nodup := by
  unfold lineF
  have lt : ∀ a b, a < b → b < k → (f + a * d) % n ≠ (f + b * d) % n := fun a b hab hb e => by
    refine w.no (b - a) (by omega) (by omega) (same_rest (a := a * d) hf ?_)
    have e2 : f + a * d + (b - a) * d = f + b * d := by
      obtain ⟨m, rfl⟩ : ∃ m, b = a + m := ⟨b - a, by omega⟩
      rw [Nat.add_sub_cancel_left, Nat.add_mul]
      omega
    rw [e2, e]
  refine List.pairwise_map.mpr (List.Pairwise.imp_of_mem (fun {a b} ha hb hab => ?_) (List.pairwise_lt_range (n := k)))
  exact lt a b hab (List.mem_range.mp hb)
theorem WalkI.mem {n d f k : Nat} (hf : f < n) (w : WalkI n d f k) (h : (f + k * d) % n = f) (x : Nat) : x ∈ lineF n d f k ↔ KM.Reach (leadsC (longC n d)) f x := by
  rw [long_reach hf]
  unfold lineF
  rw [List.mem_map]
  constructor
  · rintro ⟨j, _, rfl⟩
    exact ⟨j, rfl⟩
  · rintro ⟨j, rfl⟩
    have hk : 0 < k := w.k1
    refine ⟨j % k, List.mem_range.mpr (Nat.mod_lt _ hk), ?_⟩
    have z : (k * d) % n = 0 := by
      have h0 : (f + k * d) % n = f % n := by rw [h, Nat.mod_eq_of_lt hf]
      have y := Nat.sub_mod_eq_zero_of_mod_eq h0
      rwa [Nat.add_sub_cancel_left] at y
    obtain ⟨q, hq⟩ := Nat.dvd_of_mod_eq_zero z
    have e : f + j * d = f + j % k * d + n * (q * (j / k)) := by
      have e1 := Nat.div_add_mod j k
      have e2 : j * d = k * (j / k) * d + j % k * d := by
        rw [← Nat.add_mul, e1]
      have e3 : k * (j / k) * d = n * (q * (j / k)) := by
        rw [Nat.mul_right_comm, hq, Nat.mul_assoc]
      omega
    show (f + j % k * d) % n = (f + j * d) % n
    rw [e, Nat.add_mul_mod_self_left]
/-- the law's lots, of the first i nodes -/
structure LotsI (n d i : Nat) (lots : List (List Nat)) : Prop where
  c : ∀ lot ∈ lots, ∃ f, f < n ∧ lot.Pairwise (· < ·) ∧ ∀ x, x ∈ lot ↔ KM.Reach (leadsC (longC n d)) f x
  d : lots.Nodup
  a : ∀ f, f < i → ∃ lot ∈ lots, f ∈ lot
theorem LotsI.skip {n d i : Nat} {lots : List (List Nat)} (L : LotsI n d i lots) (h : ∃ lot ∈ lots, i ∈ lot) : LotsI n d (i + 1) lots := ⟨L.c, L.d, fun f hf => by
  by_cases e : f = i
  · rw [e]
    exact h
  · exact L.a f (by omega)⟩
theorem LotsI.add {n d i : Nat} {lots : List (List Nat)} {lot : List Nat} (L : LotsI n d i lots) (hi : i < n) (asc : lot.Pairwise (· < ·)) (m : ∀ x, x ∈ lot ↔ KM.Reach (leadsC (longC n d)) i x) (h : lot ∉ lots) : LotsI n d (i + 1) (lots ++ [lot]) := by
  refine ⟨fun l hl => ?_, List.nodup_append.mpr ⟨L.d, List.nodup_cons.mpr ⟨fun z => (nomatch z), List.nodup_nil⟩, fun a ha b hb e => ?_⟩, fun f hf => ?_⟩
  · rcases List.mem_append.mp hl with z | z
    · exact L.c l z
    · rw [List.mem_singleton.mp z]
      exact ⟨i, hi, asc, m⟩
  · rw [List.mem_singleton.mp hb] at e
    rw [e] at ha
    exact h ha
  · by_cases e : f = i
    · rw [e]
      exact ⟨lot, List.mem_append_right _ (List.mem_singleton.mpr rfl), (m i).mpr (.refl _)⟩
    · obtain ⟨l, hl, z⟩ := L.a f (by omega)
      exact ⟨l, List.mem_append_left _ hl, z⟩
theorem LotsI.done {n d : Nat} {lots : List (List Nat)} (hd : 0 < d) (hdn : d ≤ n) (L : LotsI n d d lots) : RingLots (leadsC (longC n d)) lots := by
  have gl : (leadsC (longC n d)).length = n := by rw [leadsC_len, longC_len]
  have lt : ∀ {f x}, f < n → KM.Reach (leadsC (longC n d)) f x → x < n := fun {f x} hf r => by
    obtain ⟨j, rfl⟩ := (long_reach hf).mp r
    exact Nat.mod_lt _ (by omega)
  refine ⟨fun lot hl => ?_, L.d, fun v hv _ => ?_⟩
  · obtain ⟨f, hf, asc, m⟩ := L.c lot hl
    refine ⟨fun z => ?_, asc, fun v hv => ?_⟩
    · have := (m f).mpr (.refl _)
      rw [z] at this
      cases this
    · have r := (m v).mp hv
      have vl := lt hf r
      have s := long_sym hf r
      refine ⟨by rw [gl]; exact vl, long_ring vl, fun w => (m w).trans ⟨fun z => ⟨s.trans z, long_sym vl (s.trans z)⟩, fun z => r.trans z.1⟩⟩
  · rw [gl] at hv
    obtain ⟨lot, hl, m⟩ := L.a (v % d) (Nat.mod_lt _ hd)
    obtain ⟨f, hf, asc, mm⟩ := L.c lot hl
    have vd : v % d < n := by
      have := Nat.mod_lt v hd
      omega
    refine ⟨lot, hl, (mm v).mpr (((mm _).mp m).trans ((long_reach vd).mpr ⟨v / d, ?_⟩))⟩
    have e : v % d + v / d * d = v := by
      rw [Nat.mul_comm]
      exact Nat.mod_add_div v d
    rw [e, Nat.mod_eq_of_lt hv]
theorem long_ok {n d : Nat} (h0 : 0 < n) (h : n ≤ 2000) : (longC n d).ok := by
  refine ⟨(by show 0 ≤ 8; decide), (by show 0 ≤ 60; decide), by rw [longC_len]; exact h, (by show 0 ≤ 60; decide), fun r hr => (by cases hr), fun x hx => ?_, fun s hs => (by cases hs)⟩
  rw [longC_len]
  obtain ⟨i, _, rfl⟩ := List.mem_map.mp (show x ∈ (List.range n).map (stepG n d) from hx)
  refine ⟨(by show 1 ≤ 4; decide), rfl, fun s hs => ?_⟩
  rw [List.mem_singleton.mp hs]
  exact Nat.mod_lt _ h0
/-- broken up at the last gate -/
def brokeC (n d : Nat) : Circ := ⟨0, [], ((List.range n).map (stepG n d)).take (n - 1) ++ [([.bit true], [false, true])], []⟩
theorem broke_len {n d : Nat} (h0 : 0 < n) : (brokeC n d).gates.length = n := by
  show (((List.range n).map (stepG n d)).take (n - 1) ++ [_]).length = n
  rw [List.length_append, List.length_take, List.length_map, List.length_range, List.length_singleton]
  omega
theorem broke_ok {n d : Nat} (h0 : 0 < n) (h : n ≤ 2000) : (brokeC n d).ok := by
  refine ⟨(by show 0 ≤ 8; decide), (by show 0 ≤ 60; decide), by rw [broke_len h0]; exact h, (by show 0 ≤ 60; decide), fun r hr => (by cases hr), fun x hx => ?_, fun s hs => (by cases hs)⟩
  rw [broke_len h0]
  rcases List.mem_append.mp (show x ∈ ((List.range n).map (stepG n d)).take (n - 1) ++ [_] from hx) with z | z
  · obtain ⟨i, _, rfl⟩ := List.mem_map.mp (List.mem_of_mem_take z)
    refine ⟨(by show 1 ≤ 4; decide), rfl, fun s hs => ?_⟩
    rw [List.mem_singleton.mp hs]
    exact Nat.mod_lt _ h0
  · rw [List.mem_singleton.mp z]
    exact ⟨(by show 1 ≤ 4; decide), rfl, fun s hs => by rw [List.mem_singleton.mp hs]; trivial⟩
theorem broke_suc {n u w : Nat} (h0 : 0 < n) (h : w ∈ KM.suc (leadsC (brokeC n 1)) u) : w = u + 1 := by
  unfold KM.suc leadsC brokeC at h
  rw [List.getD_eq_getElem?_getD, List.getElem?_map] at h
  by_cases c : u < n - 1
  · rw [List.getElem?_append_left (by rw [List.length_take, List.length_map, List.length_range]; omega), List.getElem?_take_of_lt c, List.getElem?_map, List.getElem?_range (by omega)] at h
    have h : w ∈ [(u + 1) % n] := h
    rw [List.mem_singleton, Nat.mod_eq_of_lt (by omega)] at h
    exact h
  · rw [List.getElem?_append_right (by rw [List.length_take, List.length_map, List.length_range]; omega)] at h
    generalize hk : u - ((List.map (stepG n 1) (List.range n)).take (n - 1)).length = k at h
    match k, h with
    | 0, h => cases h
    | k + 1, h => cases h
theorem broke_none {n : Nat} (h0 : 0 < n) {lots : List (List Nat)} (h : RingsTold (leadsC (brokeC n 1)) lots) : lots = [] := by
  have up : ∀ u v, KM.Reach (leadsC (brokeC n 1)) u v → u ≤ v := fun u v r => by
    induction r with
    | refl => exact Nat.le_refl _
    | tail r w ih =>
      have := broke_suc h0 w
      omega
  refine List.eq_nil_iff_forall_not_mem.mpr fun lot hl => ?_
  obtain ⟨ne, _, hv⟩ := h.1.c lot hl
  obtain ⟨v, r, rfl⟩ : ∃ v r, lot = v :: r := by
    cases lot with
    | nil => exact absurd rfl ne
    | cons v r => exact ⟨v, r, rfl⟩
  obtain ⟨s, h1, h2⟩ := (hv v List.mem_cons_self).2.1
  have a := broke_suc h0 h1
  have b := up _ _ h2
  omega
end K02

set_option Elab.async false
set_option linter.all false
set_option maxRecDepth 100000
set_option maxHeartbeats 4000000
/-! _law_long. -/
namespace K02
open PySem PySem.Spec L2
open PyProof.Rows GenW GxR EZ TK
open LamX (ExtN)
abbrev sLong : Stmt := top 47 -- _law_long
abbrev nLo : List Str := ["state", "size_here", "step", "gates", "lots", "left", "first", "line", "here", "broken", "spot"]
theorem scLo : FnScope nLo ["state"] (defScope sLong) := ⟨rfl, rfl, rfl, by decide +kernel, rfl, by decide +kernel, by decide +kernel⟩
section
variable {P : Program} {w : World} {K : PySem.W.Frag} {mg : Str → Option Value} {base : Heap}
def spLong (TT : List Addr) : Sp := fun vs H Q _ => ∃ (st lg cl : Addr) (t : Nat), vs = [.ref st] ∧ t + 100 < 1000000000 ∧ StOk H st lg cl t ∧ TabsG TT H ∧
  ∀ H1 H', But st lg H H1 → StOk H1 st lg cl (t + 2) → Ex TT H1 H' → Q (.bl true) H'
theorem ok_long {TT : List Addr} {CC f : Addr} {fd : FuncData} (F : Fun K "_law_long" "_law_long" sLong f fd) (mint : mg "int" = none) (mrange : mg "range" = none) (mtuple : mg "tuple" = none) (msorted : mg "sorted" = none) (mlist : mg "list" = none)
    (cD : Cal P w K mg base CX0 1 "_law_draw" ["state", "size_here"] spDraw) (cRO : Cal P w K mg base (L2.CX P w) 10 "rings_of" ["circuit"] (spROf TT CC)) : FnOk P w K mg base CX0 11 f fd ["state"] (spLong TT) := by
  obtain ⟨fD, fdD, GD, kD, bD, mD⟩ := cD
  obtain ⟨fRO, fdRO, GRO, kRO, bRO, mRO⟩ := cRO
  refine F.ok scLo (fun vs H Q E h => ?_) (fun cdv A outer s H vs Q E hr h => ?_)
  · obtain ⟨st, lg, cl, t, rfl, _⟩ := h
    rfl
  · obtain ⟨st, lg, cl, t, rfl, ht, S, hT, q⟩ := h
    have hu64 := hr.units
    have hu65 := units65 hr
    refine ⟨_, (pss_cons (ps_asg (pe_tup (pa_cons (pe_op op_add pe_int (pe_call GD (hr.mono (by decide)) (by rfl) mD kD bD .nil pass0 (pa_cons (pv 0) (pa_cons pe_int pa_nil)))) (pa_cons (pe_op op_add pe_int (pe_call GD (hr.mono (by decide)) (by rfl) mD kD bD .nil pass0 (pa_cons (pv 0) (pa_cons pe_int pa_nil)))) pa_nil))) (pg_tup rfl (pgs_cons (pg_name (i := 1) scLo.nd rfl (Or.inr rfl)) (pgs_cons (pg_name (i := 2) scLo.nd rfl (Or.inr rfl)) pgs_nil))))
      (pss_cons (ps_setLc (i := 3) (own := [("spot", 10)]) (g := gName 10) (tt := tYes) rfl scLo.nd rfl rfl (sw_true rfl rfl rfl (by decide +kernel)) (pi_range1 (by rfl) mrange (pa_cons (pv 1) pa_nil)) (blkOk_by (N := nLo) (sc := defScope sLong) (by decide +kernel)) (fun _ _ _ _ _ => (pg_name (i := 10) scLo.nd rfl (Or.inl rfl))) (fun _ _ _ _ _ => pts_nil) (fun _ _ _ _ _ => (pe_tup (pa_cons (pe_tup (pa_cons (pe_tup (pa_cons pe_str (pa_cons (pe_op op_mod (pe_callTy call_int1 (by rfl) mint (by decide +kernel) (pa_cons (pe_op op_add (pv 10) (pv 2)) pa_nil)) (pv 1)) pa_nil))) pa_nil)) (pa_cons (pe_tup (pa_cons pe_int (pa_cons pe_int pa_nil))) pa_nil)))))
      (pss_cons (ps_par (i := 4) (j := 5) rfl scLo.nd rfl rfl (by decide) rfl rfl (pa_cons (pe_lst pa_nil) (pa_cons (pe_listRg rfl (by rfl) mlist (prg_1 (by rfl) mrange (pv 1))) pa_nil)) (by rfl))
      (pss_cons (ps_for PassesOwn.never rfl (pi_range1 (by rfl) mrange (pa_cons (pv 2) pa_nil)) (pg_name (i := 6) scLo.nd rfl (Or.inl rfl))
        (pss_cons (ps_par (i := 7) (j := 8) rfl scLo.nd rfl rfl (by decide) rfl rfl (pa_cons (pe_lst (pa_cons (pv 6) pa_nil)) (pa_cons (pe_op op_mod (pe_callTy call_int1 (by rfl) mint (by decide +kernel) (pa_cons (pe_op op_add (pv 6) (pv 2)) pa_nil)) (pv 1)) pa_nil)) (by rfl))
        (pss_cons (ps_while PassesOwn.never (pt_cmpR op_ne (pv 8) (pv 6) (nomark _))
          (pss_cons (ps_expr (pe_bm PySem.F.plainAttrs_list PySem.F.slot_list_append PySem.F.type_list_append mt_append (pv 7) (pa_cons (pv 8) pa_nil)))
          (pss_one (ps_set (i := 8) scLo.nd rfl (Or.inl rfl) (pe_op op_mod (pe_callTy call_int1 (by rfl) mint (by decide +kernel) (pa_cons (pe_op op_add (pv 8) (pv 2)) pa_nil)) (pv 1))))))
        (pss_one (ps_if (pt_cmpR (op_notInD hu65) (pe_callTy call_tuple_of (by rfl) mtuple (by decide +kernel) (pa_cons (pe_callB cr_sortedI (by rfl) msorted (by decide +kernel) (pa_cons (pv 7) pa_nil)) pa_nil)) (pv 4) (by rfl)) (pss_one (ps_expr (pe_bm PySem.F.plainAttrs_list PySem.F.slot_list_append PySem.F.type_list_append mt_append (pv 4) (pa_cons (pe_callTy call_tuple_of (by rfl) mtuple (by decide +kernel) (pa_cons (pe_callB cr_sortedI (by rfl) msorted (by decide +kernel) (pa_cons (pv 7) pa_nil)) pa_nil)) pa_nil)))) pss_nil)))))
      (pss_cons (ps_set (i := 9) scLo.nd rfl (Or.inl rfl) (pe_op op_cat (pe_slice sl_list (pv 3) po_none (po_some (pe_un un_neg pe_int))) (pe_lst (pa_cons (pe_tup (pa_cons (pe_tup (pa_cons (pe_tup (pa_cons pe_str (pa_cons pe_int pa_nil))) pa_nil)) (pa_cons (pe_tup (pa_cons pe_int (pa_cons pe_int pa_nil))) pa_nil))) pa_nil))))
      (pss_one (ps_ret (pe_and (pe_cmpR (op_eqD hu64) (pe_call GRO (hr.mono (by decide)) (by rfl) mRO kRO bRO .nil passNone (pa_cons (pe_tup (pa_cons pe_int (pa_cons (pe_tup pa_nil) (pa_cons (pe_callTy call_tuple_of (by rfl) mtuple (by decide +kernel) (pa_cons (pv 3) pa_nil)) (pa_cons (pe_tup pa_nil) pa_nil))))) pa_nil)) (pe_callB SN.cr_sortN (by rfl) msorted (by decide +kernel) (pa_cons (pv 4) pa_nil)) (nomark _)) (pe_one (pe_or (pe_cmpR op_gt (pv 2) pe_int (nomark _)) (pe_one (pe_cmpR (op_eqD hu64) (pe_call GRO (hr.mono (by decide)) (by rfl) mRO kRO bRO .nil passNone (pa_cons (pe_tup (pa_cons pe_int (pa_cons (pe_tup pa_nil) (pa_cons (pe_callTy call_tuple_of (by rfl) mtuple (by decide +kernel) (pa_cons (pv 9) pa_nil)) (pa_cons (pe_tup pa_nil) pa_nil))))) pa_nil)) (pe_lst pa_nil) (nomark _))))))))))))), ?_⟩
    -- size_here, step
    refine ⟨_, rfl, st, lg, cl, t, 500, rfl, by decide, by decide, by omega, S, fun k1 H1 a0 a1 S1 U1 => ⟨_, _, rfl, rfl, _, rfl, st, lg, cl, t + 1, 3, rfl, by decide, by decide, by omega, S1, fun k2 H2 b0 b1 S2 U2 => ⟨_, _, rfl, rfl, (by show 2 ≤ sizeLine; decide), fun T nT => ?_⟩⟩⟩
    obtain ⟨n, en, n1, n2⟩ : ∃ n : Nat, 400 + k1 = (n : Int) ∧ 400 ≤ n ∧ n ≤ 899 := ⟨(400 + k1).toNat, by omega, by omega, by omega⟩
    obtain ⟨d, ed, d1, d2⟩ : ∃ n : Nat, 1 + k2 = (n : Int) ∧ 1 ≤ n ∧ n ≤ 3 := ⟨(1 + k2).toNat, by omega, by omega, by omega⟩
    have s3 := same_new (o := .tup [.int (400 + k1), .int (1 + k2)]) nT
    have eT : (L2.upd H2 T (.tup [.int (400 + k1), .int (1 + k2)])) T = some (.tup [.int (400 + k1), .int (1 + k2)]) := upd_same
    have S3 := S2.keep s3
    have U3 := (U1.trans U2).trans (But.of s3)
    generalize L2.upd H2 T (.tup [.int (400 + k1), .int (1 + k2)]) = H3 at s3 eT S3 U3
    rw [en, ed] at eT
    refine ⟨T, _, rfl, .inl (.inl eT), rfl, _, _, rfl, _, _, rfl, rfl, ?_⟩
    have hT3 : TabsG TT H3 := fun P hP => by
      obtain ⟨ps, e, r⟩ := hT P hP
      exact ⟨ps, U3.keepO S e (fun _ z => by cases z) (fun _ z => by cases z), r⟩
    clear eT s3 S1 S2 U1 U2 nT
    show tSeq _ _ _ [some (V.ref st), some (V.int (n : Int)), some (V.int (d : Int)), none, none, none, none, none, none, none, none] H3
    -- gates
    refine ⟨_, rfl, (n : Int), rfl, by omega, by omega, fun G nG => ?_⟩
    rw [Int.toNat_natCast]
    refine lc_range (fun i Hx => Same H3 Hx ∧ ∃ vs, Hx G = some (.lst vs) ∧ vs.length = i ∧ AllAt GateAt Hx vs ((List.range i).map (stepG n d))) ⟨same_new nG, [], upd_same, rfl, .nil⟩ (fun i Hx hi ⟨s4, vs, eG, lv, hv⟩ => ?_) (fun Hx ⟨s4, vs, eG, lv, hv⟩ => ?_)
    · refine ⟨rfl, _, rfl, _, rfl, _, _, rfl, rfl, .inl ⟨_, rfl, _, rfl, _, _, rfl, rfl, (by show (0 : Int) < (n : Int); omega), (by show 2 ≤ sizeLine; decide), fun p1 np1 => ⟨(by show 1 ≤ sizeLine; decide), fun p2 np2 => ⟨(by show 2 ≤ sizeLine; decide), fun p3 np3 => ⟨(by show 2 ≤ sizeLine; decide), fun p4 np4 => ?_⟩⟩⟩⟩⟩
      have emod : (0 + (i : Int) + (d : Int)) % (n : Int) = (((i + d) % n : Nat) : Int) := by
        rw [Int.natCast_emod, Int.zero_add]
        rfl
      dsimp only at np2 np3 np4 ⊢
      rw [emod] at np2 np3 np4 ⊢
      have t1 := same_new (o := .tup [.str "gate", .int (((i + d) % n : Nat) : Int)]) np1
      have f1 : SrcAt (L2.upd Hx p1 (.tup [.str "gate", .int (((i + d) % n : Nat) : Int)])) (.ref p1) (.gate ((i + d) % n)) := ⟨p1, rfl, upd_same⟩
      generalize L2.upd Hx p1 (.tup [.str "gate", .int (((i + d) % n : Nat) : Int)]) = Ha at t1 f1 np2 np3 np4
      obtain ⟨H5, e5, s5, g5⟩ := gate_upd (vs := [.ref p1]) (ss := [.gate ((i + d) % n)]) (bs := [true, false]) np2 np3 np4 (.cons f1 .nil) rfl
      rw [e5]
      have s15 := t1.trans s5
      have eG5 := s15 _ _ eG
      have tu : TupKeep H5 (L2.upd H5 G (.lst (vs ++ [.ref p4]))) := TupKeep.upd eG5 fun xs z => by cases z
      refine ⟨vs, eG5, by rw [lv, sizeLine_eq]; omega, fun b o e => ?_, vs ++ [.ref p4], upd_same, by rw [List.length_append, lv]; rfl, ?_⟩
      · rw [upd_ne (ne_of_none e nG)]
        exact s15 _ _ (s4 _ _ e)
      · rw [List.range_succ, List.map_append]
        exact paired_snoc (all_ext (fun v x r => r.keep ((TupKeep.of s15).trans tu)) hv) (g5.keep tu)
    have S4 := S3.keep s4
    have U4 := U3.trans (But.of s4)
    have hT4 := (Ex.same s4).tabs hT3
    clear s4 S3 U3 hT3
    show tSeq _ _ _ [some (V.ref st), some (V.int (n : Int)), some (V.int (d : Int)), some (V.ref G), none, none, none, none, none, none, none] Hx
    -- lots, left
    refine ⟨Nat.zero_le _, fun LT nLT => ⟨_, rfl, _, rfl, RgOk.of_le (by decide) (by omega) (by decide) (by omega), fun LL nLL => ⟨_, _, rfl, ?_⟩⟩⟩
    have s5 := same_new (o := .lst []) nLT
    have eLT5 : (L2.upd Hx LT (.lst [])) LT = some (.lst []) := upd_same
    generalize L2.upd Hx LT (.lst []) = H5 at s5 eLT5 nLL
    have s6 := same_new (o := .lst (rgV 0 (n : Int))) nLL
    have eLT6 := s6 _ _ eLT5
    have s56 := s5.trans s6
    generalize L2.upd H5 LL (.lst (rgV 0 (n : Int))) = H6 at s6 eLT6 s56
    clear s5 s6 eLT5 nLL
    show tSeq _ _ _ [some (V.ref st), some (V.int (n : Int)), some (V.int (d : Int)), some (V.ref G), some (V.ref LT), some (V.ref LL), none, none, none, none, none] H6
    have LG : G ≠ LT := ne_of_none eG nLT
    -- lots
    refine ⟨_, rfl, (d : Int), rfl, by omega, by omega, ?_⟩
    rw [Int.toNat_natCast]
    refine for_range (fun i σ Hy => ∃ (y6 y7 y8 : Option V) (us : List V) (lots : List (List Nat)), σ = [some (.ref st), some (.int (n : Int)), some (.int (d : Int)), some (.ref G), some (.ref LT), some (.ref LL), y6, y7, y8, none, none] ∧ (∀ b o, b ≠ LT → H6 b = some o → Hy b = some o) ∧ Hy LT = some (.lst us) ∧ us.length ≤ i ∧ AllAt TupN Hy us lots ∧ LotsI n d i lots)
      ⟨none, none, none, [], [], rfl, fun _ _ _ e => e, eLT6, Nat.le_refl _, .nil, ⟨fun l z => (nomatch z), List.nodup_nil, fun f z => absurd z (Nat.not_lt_zero _)⟩⟩ (fun i σ Hy hi hh => ?_) (fun σ Hy hh => ?_)
    · obtain ⟨y6, y7, y8, us, lots, rfl, ky, eLy, lus, aus, LI⟩ := hh
      have hin : i < n := by omega
      have e0 : (0 : Int) + (i : Int) = ((i : Nat) : Int) := Int.zero_add _
      rw [e0]
      refine ⟨_, rfl, (by show 1 ≤ sizeLine; decide), fun LN nLN => ⟨_, rfl, _, rfl, _, _, rfl, rfl, .inl ⟨_, rfl, _, rfl, _, _, rfl, rfl, (by show (0 : Int) < (n : Int); omega), _, _, rfl, ?_⟩⟩⟩
      have s7 := same_new (o := .lst [V.int ((i : Nat) : Int)]) nLN
      have eLN : (L2.upd Hy LN (.lst [V.int ((i : Nat) : Int)])) LN = some (.lst (nV (lineF n d i 1))) := by
        rw [upd_same]
        unfold lineF
        show some (HO.lst [V.int ((i : Nat) : Int)]) = some (HO.lst [V.int (((i + 0 * d) % n : Nat) : Int)])
        rw [Nat.zero_mul, Nat.add_zero, Nat.mod_eq_of_lt hin]
      generalize L2.upd Hy LN (.lst [V.int ((i : Nat) : Int)]) = H7 at s7 eLN
      have emod : ((i : Nat) : Int) + (d : Int) = ((i + d : Nat) : Int) := rfl
      refine ⟨fun m σ Hw => ∃ k, σ = [some (.ref st), some (.int (n : Int)), some (.int (d : Int)), some (.ref G), some (.ref LT), some (.ref LL), some (.int ((i : Nat) : Int)), some (.ref LN), some (.int (((i + k * d) % n : Nat) : Int)), none, none] ∧ Same Hy Hw ∧ Hw LN = some (.lst (nV (lineF n d i k))) ∧ WalkI n d i k ∧ n + 1 - k = m,
        ⟨_, 1, by rw [Nat.one_mul]; rfl, s7, eLN, .one, rfl⟩, fun m σ Hw hW => ?_⟩
      obtain ⟨k, rfl, kw, eLNw, WI, hm⟩ := hW
      have kn := WI.le hin
      refine ⟨_, rfl, _, rfl, rfl, _, rfl, ?_⟩
      by_cases hc : (i + k * d) % n = i
      · refine iteF' (by rw [hc]; simp) ?_
        have kyw : ∀ b o, b ≠ LT → H6 b = some o → Hw b = some o := fun b o nb e => kw _ _ (ky b o nb e)
        have eLTw := kw _ _ eLy
        have ausw : AllAt TupN Hw us lots := all_ext (fun _ _ r => r.keep (.of kw)) aus
        have memL : ∀ {l : List Nat}, l.Perm (lineF n d i k) → ∀ x, x ∈ l ↔ KM.Reach (leadsC (longC n d)) i x := fun pm x => pm.mem_iff.trans (WI.mem hin hc x)
        have strict : ∀ {l : List Nat}, l.Perm (lineF n d i k) → l.Pairwise (· ≤ ·) → l.Pairwise (· < ·) := fun pm as => (as.and (pm.nodup_iff.mpr (WI.nodup hin))).imp fun z => Nat.lt_of_le_of_ne z.1 z.2
        refine ⟨_, rfl, LN, _, rfl, by rw [← nV_ints]; exact .inl (.inl eLNw), fun ns1 p1 perm1 asc1 np1 => ?_⟩
        obtain ⟨l1, e1, pm1, as1⟩ := perm_nats perm1 asc1
        rw [e1]
        have t1 := same_new (o := .lst (nV l1)) np1
        have f1 : (L2.upd Hw p1 (.lst (nV l1))) p1 = some (.lst (nV l1)) := upd_same
        generalize L2.upd Hw p1 (.lst (nV l1)) = Ha at t1 f1
        refine ⟨p1, _, rfl, .inl ⟨.inl (.inl f1), fun q1 nq1 => ?_⟩⟩
        have t2 := same_new (o := .tup (nV l1)) nq1
        have f2 : (L2.upd Ha q1 (.tup (nV l1))) q1 = some (.tup (nV l1)) := upd_same
        generalize L2.upd Ha q1 (.tup (nV l1)) = Hb at t2 f2
        have t12 := t1.trans t2
        have eLTb := t12 _ _ eLTw
        have ausb : AllAt TupN Hb us lots := all_ext (fun _ _ r => r.keep (.of t12)) ausw
        refine ⟨_, rfl, natsT l1, lots.map natsT, dp_natsT ⟨q1, rfl, f2⟩, .lst (.inl (.inl eLTb)) (dp_natsL ausb), layN_shaped (lay_natsT _) (by decide), shape_natsL _, _, rfl, ?_⟩
        rw [any_nats]
        by_cases hl : l1 ∈ lots
        · rw [decide_eq_true hl]
          refine iteF ?_
          exact ⟨_, _, _, us, lots, rfl, fun b o nb e => t12 _ _ (kyw b o nb e), eLTb, by omega, ausb, LI.skip ⟨l1, hl, (memL pm1 i).mpr (.refl _)⟩⟩
        · rw [decide_eq_false hl]
          refine iteT ?_
          refine ⟨_, rfl, .inl ⟨rfl, us, .inl (.inl eLTb)⟩, _, rfl, LN, _, rfl, by rw [← nV_ints]; exact .inl (.inl (t12 _ _ eLNw)), fun ns2 p2 perm2 asc2 np2 => ?_⟩
          obtain ⟨l2, e2, pm2, as2⟩ := perm_nats perm2 asc2
          have el : l2 = l1 := SN.sorted_one (le := fun a b : Nat => a ≤ b) (fun a b h k => Nat.le_antisymm h k) (pm2.trans pm1.symm) as2 as1
          subst el
          rw [e2]
          have t3 := same_new (o := .lst (nV l2)) np2
          have f3 : (L2.upd Hb p2 (.lst (nV l2))) p2 = some (.lst (nV l2)) := upd_same
          generalize L2.upd Hb p2 (.lst (nV l2)) = Hc at t3 f3
          refine ⟨p2, _, rfl, .inl ⟨.inl (.inl f3), fun q2 nq2 => ?_⟩⟩
          have t4 := same_new (o := .tup (nV l2)) nq2
          have f4 : (L2.upd Hc q2 (.tup (nV l2))) q2 = some (.tup (nV l2)) := upd_same
          generalize L2.upd Hc q2 (.tup (nV l2)) = Hd at t4 f4
          have t34 := t3.trans t4
          have eLTd := t34 _ _ eLTb
          have tu : TupKeep Hd (L2.upd Hd LT (.lst (us ++ [.ref q2]))) := TupKeep.upd eLTd fun xs z => by cases z
          refine ⟨LT, us, _, rfl, rfl, eLTd, by rw [sizeLine_eq]; omega, _, _, _, us ++ [.ref q2], lots ++ [l2], rfl, fun b o nb e => ?_, upd_same, by rw [List.length_append]; simp only [List.length_cons, List.length_nil]; omega, paired_snoc (all_ext (fun _ _ r => r.keep ((TupKeep.of t34).trans tu)) ausb) ⟨q2, rfl, tu _ _ f4⟩, LI.add hin (strict pm2 as2) (memL pm2) hl⟩
          rw [upd_ne nb]
          exact t34 _ _ (t12 _ _ (kyw b o nb e))
      · have z0 : ¬ (V.int (((i + k * d) % n : Nat) : Int) = V.int ((i : Nat) : Int)) := fun z => hc (Int.ofNat.inj (V.int.inj z))
        refine iteT' (by rw [decide_eq_false z0]; rfl) ⟨fun σ' H' => ∃ m', m' < m ∧ _, fun _ _ h => h, ?_⟩
        have LNy : Hy LN = none := nLN
        have lll : (nV (lineF n d i k)).length = k := by
          unfold nV lineF
          rw [List.length_map, List.length_map, List.length_range]
        refine ⟨_, rfl, .inl ⟨rfl, _, .inl (.inl eLNw)⟩, _, rfl, LN, _, _, rfl, rfl, eLNw, by rw [lll, sizeLine_eq]; omega, ?_⟩
        have kx : Same Hy (L2.upd Hw LN (.lst (nV (lineF n d i k) ++ [V.int (((i + k * d) % n : Nat) : Int)]))) := fun b o e => by
          rw [upd_ne (ne_of_none e LNy)]
          exact kw _ _ e
        have ex : (L2.upd Hw LN (.lst (nV (lineF n d i k) ++ [V.int (((i + k * d) % n : Nat) : Int)]))) LN = some (.lst (nV (lineF n d i (k + 1)))) := by
          rw [upd_same, lineF_succ, nV_snoc]
        generalize L2.upd Hw LN (.lst (nV (lineF n d i k) ++ [V.int (((i + k * d) % n : Nat) : Int)])) = Hx2 at kx ex
        refine ⟨_, rfl, _, rfl, _, _, rfl, rfl, .inl ⟨_, rfl, _, rfl, _, _, rfl, rfl, (by show (0 : Int) < (n : Int); omega), ?_⟩⟩
        have WI2 := WI.next hc
        have kn2 := WI2.le hin
        refine ⟨n + 1 - (k + 1), by omega, k + 1, ?_, kx, ex, WI2, rfl⟩
        rw [← add_steps]
        rfl
    · obtain ⟨y6, y7, y8, us, lots, rfl, ky, eLy, lus, aus, LI⟩ := hh
      have RL := LI.done (by omega) (by omega)
      -- broken
      have eGy := ky _ _ LG (s56 _ _ eG)
      refine ⟨_, rfl, _, rfl, _, rfl, G, vs, rfl, .inl (.inl eGy), fun p np => ?_⟩
      have ecut : cutV vs none (some (-1)) = vs.take (n - 1) := by
        unfold cutV
        have a0 : HT.sIx vs.length 0 none = 0 := rfl
        have a1 : HT.sIx vs.length vs.length (some (-1)) = n - 1 := by
          rw [lv]
          unfold HT.sIx
          simp
          omega
        rw [a0, a1]
        rfl
      show (fun x H1 => _) (V.ref p) (L2.upd Hy p (.lst (cutV vs none (some (-1)))))
      rw [ecut]
      have s8 := same_new (o := .lst (vs.take (n - 1))) np
      have ep : (L2.upd Hy p (.lst (vs.take (n - 1)))) p = some (.lst (vs.take (n - 1))) := upd_same
      generalize L2.upd Hy p (.lst (vs.take (n - 1))) = H8 at s8 ep
      refine ⟨(by show 2 ≤ sizeLine; decide), fun q1 nq1 => ⟨(by show 1 ≤ sizeLine; decide), fun q2 nq2 => ⟨(by show 2 ≤ sizeLine; decide), fun q3 nq3 => ⟨(by show 2 ≤ sizeLine; decide), fun q4 nq4 => ⟨(by show 1 ≤ sizeLine; decide), fun q5 nq5 => ?_⟩⟩⟩⟩⟩
      have t1 := same_new (o := .tup [.str "bit", .int 1]) nq1
      have f1 : SrcAt (L2.upd H8 q1 (.tup [.str "bit", .int 1])) (.ref q1) (.bit true) := ⟨q1, rfl, upd_same⟩
      generalize L2.upd H8 q1 (.tup [.str "bit", .int 1]) = Ha at t1 f1 nq2 nq3 nq4 nq5
      obtain ⟨H9, e9, s9, g9⟩ := gate_upd (vs := [.ref q1]) (ss := [.bit true]) (bs := [false, true]) nq2 nq3 nq4 (.cons f1 .nil) rfl
      rw [e9] at nq5 ⊢
      have t5 := same_new (o := .lst [.ref q4]) nq5
      have f5 : (L2.upd H9 q5 (.lst [.ref q4])) q5 = some (.lst [.ref q4]) := upd_same
      have g10 := g9.keep (.of t5)
      have s810 := t1.trans (s9.trans t5)
      generalize L2.upd H9 q5 (.lst [.ref q4]) = H10 at t5 f5 g10 s810
      refine ⟨p, q5, _, _, rfl, rfl, s810 _ _ ep, f5, by rw [List.length_take, sizeLine_eq]; simp only [List.length_cons, List.length_nil]; omega, fun br nbr => ?_⟩
      have s11 := s810.trans (same_new (o := .lst (vs.take (n - 1) ++ [.ref q4])) nbr)
      have ebr : (L2.upd H10 br (.lst (vs.take (n - 1) ++ [.ref q4]))) br = some (.lst (vs.take (n - 1) ++ [.ref q4])) := upd_same
      have g11 := g10.keep (.of (same_new (o := .lst (vs.take (n - 1) ++ [.ref q4])) nbr))
      have sy := s8.trans s11
      generalize L2.upd H10 br (.lst (vs.take (n - 1) ++ [.ref q4])) = H11 at s11 ebr g11 sy
      clear s810 g10 g9 f5 t5 e9 s9 t1 f1 s8 ep np nq1 nq2 nq3 nq4 nbr
      have k11 : ∀ b o, b ≠ LT → H6 b = some o → H11 b = some o := fun b o nb e => sy _ _ (ky b o nb e)
      have eG11 := sy _ _ eGy
      have eLT11 := sy _ _ eLy
      have nLTx : ∀ b o, Hx b = some o → H6 b = some o ∧ b ≠ LT := fun b o e => ⟨s56 _ _ e, ne_of_none e nLT⟩
      have hv11 : AllAt GateAt H11 vs ((List.range n).map (stepG n d)) := all_ext (fun _ _ r => r.keep fun b xs e => k11 _ _ (nLTx _ _ e).2 (nLTx _ _ e).1) hv
      have aus11 : AllAt TupN H11 us lots := all_ext (fun _ _ r => r.keep (.of sy)) aus
      have kx11 : Same Hx H11 := fun b o e => k11 _ _ (nLTx _ _ e).2 (nLTx _ _ e).1
      have S11 := S4.keep kx11
      have hT11 := (Ex.same kx11).tabs hT4
      have U11 := U4.trans (But.of kx11)
      have rsok : ∀ ms : List (List Nat), PyData.eqv (.list (ms.map natsT)) (.list (ms.map natsT)) = true := fun ms => PySem.SeqAt.eqv_refl _ (layN_list fun d hd => by
        obtain ⟨l, _, rfl⟩ := List.mem_map.mp hd
        exact lay_natsT l).1
      -- rings_of(..) == sorted(lots)
      refine ⟨Nat.zero_le _, fun e1 ne1 => ⟨_, rfl, G, vs, rfl, .inl ⟨.inl (.inl ((same_new ne1) _ _ eG11)), fun ap nap => ⟨Nat.zero_le _, fun e2 ne2 => ⟨(by show 4 ≤ sizeLine; decide), fun tq ntq => ?_⟩⟩⟩⟩⟩
      have k1 := same_new (o := .tup []) ne1
      have f1 : (L2.upd H11 e1 (.tup [])) e1 = some (.tup []) := upd_same
      generalize L2.upd H11 e1 (.tup []) = Ha at k1 f1 nap ne2 ntq
      have k2 := same_new (o := .tup vs) nap
      have f2 : (L2.upd Ha ap (.tup vs)) ap = some (.tup vs) := upd_same
      generalize L2.upd Ha ap (.tup vs) = Hb at k2 f2 ne2 ntq
      have k3 := same_new (o := .tup []) ne2
      have f3 : (L2.upd Hb e2 (.tup [])) e2 = some (.tup []) := upd_same
      generalize L2.upd Hb e2 (.tup []) = Hc at k3 f3 ntq
      have k4 := same_new (o := .tup [.int 0, .ref e1, .ref ap, .ref e2]) ntq
      have f4 : (L2.upd Hc tq (.tup [.int 0, .ref e1, .ref ap, .ref e2])) tq = some (.tup [.int 0, .ref e1, .ref ap, .ref e2]) := upd_same
      generalize L2.upd Hc tq (.tup [.int 0, .ref e1, .ref ap, .ref e2]) = Hd at k4 f4
      have k24 := k2.trans (k3.trans k4)
      have k14 := k1.trans k24
      have hCl : CircAt Hd (.ref tq) (longC n d) := ⟨tq, e1, ap, e2, [], vs, [], rfl, f4, k24 _ _ f1, (k3.trans k4) _ _ f2, k4 _ _ f3, .nil, all_ext (fun _ _ r => r.keep (.of k14)) hv11, .nil⟩
      have hTd := (Ex.same k14).tabs hT11
      dsimp only [tNil]
      refine ⟨.ref tq, rfl, hTd, .inr ⟨longC n d, hCl, long_ok (by omega) (by omega), fun rp I1 us1 ms x1 er1 ar1 R1 => ?_⟩⟩
      have xk : ExtN H11 I1 := fun b o e nn => x1.extN hTd b o (k14 b o e) nn
      have eLT1 := xk _ _ eLT11 (fun _ z => by cases z)
      have aus1 : AllAt TupN I1 us lots := all_ext (fun _ _ r => r.keep fun b xs e => xk _ _ e (fun _ z => by cases z)) aus11
      refine ⟨_, rfl, ?_⟩
      dsimp only [tNil]
      show SN.rSortN K [.ref LT] I1 _
      refine sortN_to eLT1 aus1 (fun lot hl => (RL.c lot hl).1) fun p2 I2 ys ms2 si np2 ep2 a2 pm so => ?_
      have em : ms = ms2 := R1.one ⟨RL.of_perm pm, so⟩
      subst em
      refine ⟨.list (ms.map natsT), .list (ms.map natsT), .lst (.inl (.inl (si _ _ er1))) (dp_natsL (all_ext (fun _ _ r => r.keep (.of si)) ar1)), .lst (.inl (.inl ep2)) (dp_natsL a2), shape_natsL _, shape_natsL _, _, rfl, ?_⟩
      rw [rsok]
      refine iteT ?_
      have xTT : Ex TT H11 I2 := (Ex.same k14).trans (x1.trans (Ex.same si))
      have hT2 := xTT.tabs hT11
      have xk2 := xTT.extN hT11
      -- step > 1 or ..
      refine ⟨_, rfl, _, _, rfl, rfl, _, rfl, ?_⟩
      by_cases hd1 : d = 1
      · subst hd1
        rw [show decide ((1 : Int) < ((1 : Nat) : Int)) = false from rfl]
        refine iteF ?_
        have ebr2 := xk2 _ _ ebr (fun _ z => by cases z)
        have hb2 : AllAt GateAt I2 (vs.take (n - 1) ++ [.ref q4]) (brokeC n 1).gates := by
          have h1 : AllAt GateAt I2 vs ((List.range n).map (stepG n 1)) := all_ext (fun _ _ r => r.ext xk2) hv11
          exact paired_snoc (paired_take h1 (n - 1)) (g11.ext xk2)
        refine ⟨Nat.zero_le _, fun e1 ne1 => ⟨_, rfl, br, _, rfl, .inl ⟨.inl (.inl ((same_new ne1) _ _ ebr2)), fun ap nap => ⟨Nat.zero_le _, fun e2 ne2 => ⟨(by show 4 ≤ sizeLine; decide), fun tq ntq => ?_⟩⟩⟩⟩⟩
        have k1 := same_new (o := .tup []) ne1
        have f1 : (L2.upd I2 e1 (.tup [])) e1 = some (.tup []) := upd_same
        generalize L2.upd I2 e1 (.tup []) = Ha at k1 f1 nap ne2 ntq
        have k2 := same_new (o := .tup (vs.take (n - 1) ++ [.ref q4])) nap
        have f2 : (L2.upd Ha ap (.tup (vs.take (n - 1) ++ [.ref q4]))) ap = some (.tup (vs.take (n - 1) ++ [.ref q4])) := upd_same
        generalize L2.upd Ha ap (.tup (vs.take (n - 1) ++ [.ref q4])) = Hb at k2 f2 ne2 ntq
        have k3 := same_new (o := .tup []) ne2
        have f3 : (L2.upd Hb e2 (.tup [])) e2 = some (.tup []) := upd_same
        generalize L2.upd Hb e2 (.tup []) = Hc at k3 f3 ntq
        have k4 := same_new (o := .tup [.int 0, .ref e1, .ref ap, .ref e2]) ntq
        have f4 : (L2.upd Hc tq (.tup [.int 0, .ref e1, .ref ap, .ref e2])) tq = some (.tup [.int 0, .ref e1, .ref ap, .ref e2]) := upd_same
        generalize L2.upd Hc tq (.tup [.int 0, .ref e1, .ref ap, .ref e2]) = Hd2 at k4 f4
        have k24 := k2.trans (k3.trans k4)
        have k14 := k1.trans k24
        have hCb : CircAt Hd2 (.ref tq) (brokeC n 1) := ⟨tq, e1, ap, e2, [], vs.take (n - 1) ++ [.ref q4], [], rfl, f4, k24 _ _ f1, (k3.trans k4) _ _ f2, k4 _ _ f3, .nil, all_ext (fun _ _ r => r.keep (.of k14)) hb2, .nil⟩
        have hTe := (Ex.same k14).tabs hT2
        dsimp only [tNil]
        refine ⟨.ref tq, rfl, hTe, .inr ⟨brokeC n 1, hCb, broke_ok (by omega) (by omega), fun rp2 I3 us3 ms3 x3 er3 ar3 R3 => ?_⟩⟩
        have em := broke_none (by omega) R3
        subst em
        cases ar3
        refine ⟨Nat.zero_le _, fun qe nqe => ⟨.list [], .list [], .lst (.inl (.inl ((same_new nqe) _ _ er3))) .nil, .lst (.inl (.inl upd_same)) .nil, rfl, rfl, ?_⟩⟩
        exact q H11 _ U11 S11 (xTT.trans ((Ex.same k14).trans (x3.trans (Ex.same (same_new nqe)))))
      · rw [show decide ((1 : Int) < (d : Int)) = true from decide_eq_true (by omega)]
        refine iteT ?_
        exact q H11 I2 U11 S11 xTT
end
end K02

set_option Elab.async false
set_option linter.all false
set_option maxRecDepth 100000
set_option maxHeartbeats 4000000
/-! What is no circuit. -/
namespace K02
open PySem PySem.Spec L2
open PyProof.Rows GenW GxR EZ TK
open LamX (ExtN)
abbrev sBadC : Stmt := top 46 -- _law_bad_circuit
abbrev nBC : List Str := ["state", "some"]
theorem scBC : FnScope nBC ["state"] (defScope sBadC) := ⟨rfl, rfl, rfl, by decide +kernel, rfl, by decide +kernel, by decide +kernel⟩
def badC0 : List PyData := [.none, .int 5, .str "circuit", .tuple [], .tuple [.int 0, .tuple [], .tuple []], .list [.int 0, .tuple [], .tuple [], .tuple []], .tuple [.int 9, .tuple [], .tuple [], .tuple []], .tuple [.int (-1), .tuple [], .tuple [], .tuple []], .tuple [.bool true, .tuple [], .tuple [], .tuple []], .tuple [.int 0, .list [], .tuple [], .tuple []], .tuple [.int 0, .tuple [], .list [], .tuple []]]
def badC1 : List PyData := [.tuple [.int 0, .tuple [], .tuple [.tuple [.tuple [], .tuple [.int 0, .int 1]]], .tuple []], .tuple [.int 1, .tuple [], .tuple [.tuple [.tuple [.tuple [.str "in", .int 1]], .tuple [.int 0, .int 1]]], .tuple []], .tuple [.int 0, .tuple [.tuple [.int 2, .tuple [.str "bit", .int 0]]], .tuple [], .tuple []], .tuple [.int 0, .tuple [], .tuple [], .tuple [.tuple [.str "gate", .int 0]]]]
def badC2 : List PyData := [.tuple [.int 0, .tuple [], .tuple [.tuple [.tuple [.tuple [.str "bit", .int 0]], .tuple [.int 0, .bool true]]], .tuple []], .tuple [.int 0, .tuple [.tuple [.int 0, .tuple [.str "reg", .int 1]]], .tuple [], .tuple []], .tuple [.int 1, .tuple [], .tuple [], .tuple [.tuple [.str "bit", .int 2]]], .tuple [.int 0, .tuple [], .tuple [.tuple [.tuple [.str "bit", .int 0], .tuple [.int 0, .int 1]]], .tuple []]]
theorem badC_no : ((badC0 ++ badC1 ++ badC2).all fun d => circKB (vwD d) && !circD (vwD d)) = true := by decide +kernel
section
variable {P : Program} {w : World} {K : PySem.W.Frag} {mg : Str → Option Value} {base : Heap}
def spBadC : Sp := fun vs H Q _ => ∃ (st lg cl : Addr) (t : Nat), vs = [.ref st] ∧ t + 100 < 1000000000 ∧ StOk H st lg cl t ∧
  ∀ v d H', But st lg H H' → StOk H' st lg cl (t + 1) → Vw H' v d → CircK d → circD d = false → Q v H'
theorem ok_badC {f fK : Addr} {fd fdK : FuncData} (F : Fun K "_law_bad_circuit" "_law_bad_circuit" sBadC f fd)
    (GK : FnOk P w K mg base CX0 2 fK fdK ["state", "several"] (spPick K)) (kK : PySem.W.keepIn K (.ref fK) = true) (bK : Binds K fdK ["state", "several"] []) (mK : mg "_law_pick" = some (.ref fK)) :
    FnOk P w K mg base CX0 3 f fd ["state"] spBadC := by
  refine F.ok scBC (fun vs H Q E h => ?_) (fun cdv A outer s H vs Q E hr h => ?_)
  · obtain ⟨st, lg, cl, t, rfl, _⟩ := h
    rfl
  · obtain ⟨st, lg, cl, t, rfl, ht, S, q⟩ := h
    refine ⟨_, (pss_cons (ps_set (i := 1) scBC.nd rfl (Or.inl rfl) (pe_lst (pa_cons pe_non (pa_cons pe_int (pa_cons pe_str (pa_cons (pe_tup pa_nil) (pa_cons (pe_tup (pa_cons pe_int (pa_cons (pe_tup pa_nil) (pa_cons (pe_tup pa_nil) pa_nil)))) (pa_cons (pe_lst (pa_cons pe_int (pa_cons (pe_tup pa_nil) (pa_cons (pe_tup pa_nil) (pa_cons (pe_tup pa_nil) pa_nil))))) (pa_cons (pe_tup (pa_cons pe_int (pa_cons (pe_tup pa_nil) (pa_cons (pe_tup pa_nil) (pa_cons (pe_tup pa_nil) pa_nil))))) (pa_cons (pe_tup (pa_cons (pe_un un_neg pe_int) (pa_cons (pe_tup pa_nil) (pa_cons (pe_tup pa_nil) (pa_cons (pe_tup pa_nil) pa_nil))))) (pa_cons (pe_tup (pa_cons pe_bl (pa_cons (pe_tup pa_nil) (pa_cons (pe_tup pa_nil) (pa_cons (pe_tup pa_nil) pa_nil))))) (pa_cons (pe_tup (pa_cons pe_int (pa_cons (pe_lst pa_nil) (pa_cons (pe_tup pa_nil) (pa_cons (pe_tup pa_nil) pa_nil))))) (pa_cons (pe_tup (pa_cons pe_int (pa_cons (pe_tup pa_nil) (pa_cons (pe_lst pa_nil) (pa_cons (pe_tup pa_nil) pa_nil))))) pa_nil)))))))))))))
      (pss_cons (ps_set (i := 1) scBC.nd rfl (Or.inl rfl) (pe_op op_cat (pv 1) (pe_lst (pa_cons (pe_tup (pa_cons pe_int (pa_cons (pe_tup pa_nil) (pa_cons (pe_tup (pa_cons (pe_tup (pa_cons (pe_tup pa_nil) (pa_cons (pe_tup (pa_cons pe_int (pa_cons pe_int pa_nil))) pa_nil))) pa_nil)) (pa_cons (pe_tup pa_nil) pa_nil))))) (pa_cons (pe_tup (pa_cons pe_int (pa_cons (pe_tup pa_nil) (pa_cons (pe_tup (pa_cons (pe_tup (pa_cons (pe_tup (pa_cons (pe_tup (pa_cons pe_str (pa_cons pe_int pa_nil))) pa_nil)) (pa_cons (pe_tup (pa_cons pe_int (pa_cons pe_int pa_nil))) pa_nil))) pa_nil)) (pa_cons (pe_tup pa_nil) pa_nil))))) (pa_cons (pe_tup (pa_cons pe_int (pa_cons (pe_tup (pa_cons (pe_tup (pa_cons pe_int (pa_cons (pe_tup (pa_cons pe_str (pa_cons pe_int pa_nil))) pa_nil))) pa_nil)) (pa_cons (pe_tup pa_nil) (pa_cons (pe_tup pa_nil) pa_nil))))) (pa_cons (pe_tup (pa_cons pe_int (pa_cons (pe_tup pa_nil) (pa_cons (pe_tup pa_nil) (pa_cons (pe_tup (pa_cons (pe_tup (pa_cons pe_str (pa_cons pe_int pa_nil))) pa_nil)) pa_nil))))) pa_nil)))))))
      (pss_one (ps_ret (pe_call GK (hr.mono (by decide)) (by rfl) mK kK bK .nil pass0 (pa_cons (pv 0) (pa_cons (pe_op op_cat (pv 1) (pe_lst (pa_cons (pe_tup (pa_cons pe_int (pa_cons (pe_tup pa_nil) (pa_cons (pe_tup (pa_cons (pe_tup (pa_cons (pe_tup (pa_cons (pe_tup (pa_cons pe_str (pa_cons pe_int pa_nil))) pa_nil)) (pa_cons (pe_tup (pa_cons pe_int (pa_cons pe_bl pa_nil))) pa_nil))) pa_nil)) (pa_cons (pe_tup pa_nil) pa_nil))))) (pa_cons (pe_tup (pa_cons pe_int (pa_cons (pe_tup (pa_cons (pe_tup (pa_cons pe_int (pa_cons (pe_tup (pa_cons pe_str (pa_cons pe_int pa_nil))) pa_nil))) pa_nil)) (pa_cons (pe_tup pa_nil) (pa_cons (pe_tup pa_nil) pa_nil))))) (pa_cons (pe_tup (pa_cons pe_int (pa_cons (pe_tup pa_nil) (pa_cons (pe_tup pa_nil) (pa_cons (pe_tup (pa_cons (pe_tup (pa_cons pe_str (pa_cons pe_int pa_nil))) pa_nil)) pa_nil))))) (pa_cons (pe_tup (pa_cons pe_int (pa_cons (pe_tup pa_nil) (pa_cons (pe_tup (pa_cons (pe_tup (pa_cons (pe_tup (pa_cons pe_str (pa_cons pe_int pa_nil))) (pa_cons (pe_tup (pa_cons pe_int (pa_cons pe_int pa_nil))) pa_nil))) pa_nil)) (pa_cons (pe_tup pa_nil) pa_nil))))) pa_nil)))))) pa_nil))))))), ?_⟩
    have hN := st_here S
    refine asg_of (N := NS st lg) (d := .list badC0) (fk_lst hN (fk_cons fk_non (fk_cons (fk_int _) (fk_cons (fk_str _) (fk_cons (fk_tup hN fk_nil (by show 0 ≤ 1000; omega)) (fk_cons (fk_tup hN (fk_cons (fk_int _) (fk_cons (fk_tup hN fk_nil (by show 0 ≤ 1000; omega)) (fk_cons (fk_tup hN fk_nil (by show 0 ≤ 1000; omega)) fk_nil))) (by show 3 ≤ 1000; omega)) (fk_cons (fk_lst hN (fk_cons (fk_int _) (fk_cons (fk_tup hN fk_nil (by show 0 ≤ 1000; omega)) (fk_cons (fk_tup hN fk_nil (by show 0 ≤ 1000; omega)) (fk_cons (fk_tup hN fk_nil (by show 0 ≤ 1000; omega)) fk_nil)))) (by show 4 ≤ 1000; omega)) (fk_cons (fk_tup hN (fk_cons (fk_int _) (fk_cons (fk_tup hN fk_nil (by show 0 ≤ 1000; omega)) (fk_cons (fk_tup hN fk_nil (by show 0 ≤ 1000; omega)) (fk_cons (fk_tup hN fk_nil (by show 0 ≤ 1000; omega)) fk_nil)))) (by show 4 ≤ 1000; omega)) (fk_cons (fk_tup hN (fk_cons (fk_neg (fk_int _)) (fk_cons (fk_tup hN fk_nil (by show 0 ≤ 1000; omega)) (fk_cons (fk_tup hN fk_nil (by show 0 ≤ 1000; omega)) (fk_cons (fk_tup hN fk_nil (by show 0 ≤ 1000; omega)) fk_nil)))) (by show 4 ≤ 1000; omega)) (fk_cons (fk_tup hN (fk_cons (fk_bl _) (fk_cons (fk_tup hN fk_nil (by show 0 ≤ 1000; omega)) (fk_cons (fk_tup hN fk_nil (by show 0 ≤ 1000; omega)) (fk_cons (fk_tup hN fk_nil (by show 0 ≤ 1000; omega)) fk_nil)))) (by show 4 ≤ 1000; omega)) (fk_cons (fk_tup hN (fk_cons (fk_int _) (fk_cons (fk_lst hN fk_nil (by show 0 ≤ 1000; omega)) (fk_cons (fk_tup hN fk_nil (by show 0 ≤ 1000; omega)) (fk_cons (fk_tup hN fk_nil (by show 0 ≤ 1000; omega)) fk_nil)))) (by show 4 ≤ 1000; omega)) (fk_cons (fk_tup hN (fk_cons (fk_int _) (fk_cons (fk_tup hN fk_nil (by show 0 ≤ 1000; omega)) (fk_cons (fk_lst hN fk_nil (by show 0 ≤ 1000; omega)) (fk_cons (fk_tup hN fk_nil (by show 0 ≤ 1000; omega)) fk_nil)))) (by show 4 ≤ 1000; omega)) fk_nil))))))))))) (by show 11 ≤ 1000; omega)) fun v1 H1 s1 g1 => ?_
    have S1 := S.keep s1
    have hN1 := st_here S1
    refine asg_of (N := NS st lg) (d := .list (badC0 ++ badC1)) (fk_lcat hN1 (fk_var (i := 1) rfl g1) (fk_lst hN1 (fk_cons (fk_tup hN1 (fk_cons (fk_int _) (fk_cons (fk_tup hN1 fk_nil (by show 0 ≤ 1000; omega)) (fk_cons (fk_tup hN1 (fk_cons (fk_tup hN1 (fk_cons (fk_tup hN1 fk_nil (by show 0 ≤ 1000; omega)) (fk_cons (fk_tup hN1 (fk_cons (fk_int _) (fk_cons (fk_int _) fk_nil)) (by show 2 ≤ 1000; omega)) fk_nil)) (by show 2 ≤ 1000; omega)) fk_nil) (by show 1 ≤ 1000; omega)) (fk_cons (fk_tup hN1 fk_nil (by show 0 ≤ 1000; omega)) fk_nil)))) (by show 4 ≤ 1000; omega)) (fk_cons (fk_tup hN1 (fk_cons (fk_int _) (fk_cons (fk_tup hN1 fk_nil (by show 0 ≤ 1000; omega)) (fk_cons (fk_tup hN1 (fk_cons (fk_tup hN1 (fk_cons (fk_tup hN1 (fk_cons (fk_tup hN1 (fk_cons (fk_str _) (fk_cons (fk_int _) fk_nil)) (by show 2 ≤ 1000; omega)) fk_nil) (by show 1 ≤ 1000; omega)) (fk_cons (fk_tup hN1 (fk_cons (fk_int _) (fk_cons (fk_int _) fk_nil)) (by show 2 ≤ 1000; omega)) fk_nil)) (by show 2 ≤ 1000; omega)) fk_nil) (by show 1 ≤ 1000; omega)) (fk_cons (fk_tup hN1 fk_nil (by show 0 ≤ 1000; omega)) fk_nil)))) (by show 4 ≤ 1000; omega)) (fk_cons (fk_tup hN1 (fk_cons (fk_int _) (fk_cons (fk_tup hN1 (fk_cons (fk_tup hN1 (fk_cons (fk_int _) (fk_cons (fk_tup hN1 (fk_cons (fk_str _) (fk_cons (fk_int _) fk_nil)) (by show 2 ≤ 1000; omega)) fk_nil)) (by show 2 ≤ 1000; omega)) fk_nil) (by show 1 ≤ 1000; omega)) (fk_cons (fk_tup hN1 fk_nil (by show 0 ≤ 1000; omega)) (fk_cons (fk_tup hN1 fk_nil (by show 0 ≤ 1000; omega)) fk_nil)))) (by show 4 ≤ 1000; omega)) (fk_cons (fk_tup hN1 (fk_cons (fk_int _) (fk_cons (fk_tup hN1 fk_nil (by show 0 ≤ 1000; omega)) (fk_cons (fk_tup hN1 fk_nil (by show 0 ≤ 1000; omega)) (fk_cons (fk_tup hN1 (fk_cons (fk_tup hN1 (fk_cons (fk_str _) (fk_cons (fk_int _) fk_nil)) (by show 2 ≤ 1000; omega)) fk_nil) (by show 1 ≤ 1000; omega)) fk_nil)))) (by show 4 ≤ 1000; omega)) fk_nil)))) (by show 4 ≤ 1000; omega)) (by decide)) fun v2 H2 s2 g2 => ?_
    have S2 := S1.keep s2
    have hN2 := st_here S2
    refine ret_of' (pick_of (ds := badC0 ++ badC1 ++ badC2) S2 (by omega) (fun H1 Q1 q => ⟨_, rfl, q⟩) (fk_lcat hN2 (fk_var (i := 1) rfl g2) (fk_lst hN2 (fk_cons (fk_tup hN2 (fk_cons (fk_int _) (fk_cons (fk_tup hN2 fk_nil (by show 0 ≤ 1000; omega)) (fk_cons (fk_tup hN2 (fk_cons (fk_tup hN2 (fk_cons (fk_tup hN2 (fk_cons (fk_tup hN2 (fk_cons (fk_str _) (fk_cons (fk_int _) fk_nil)) (by show 2 ≤ 1000; omega)) fk_nil) (by show 1 ≤ 1000; omega)) (fk_cons (fk_tup hN2 (fk_cons (fk_int _) (fk_cons (fk_bl _) fk_nil)) (by show 2 ≤ 1000; omega)) fk_nil)) (by show 2 ≤ 1000; omega)) fk_nil) (by show 1 ≤ 1000; omega)) (fk_cons (fk_tup hN2 fk_nil (by show 0 ≤ 1000; omega)) fk_nil)))) (by show 4 ≤ 1000; omega)) (fk_cons (fk_tup hN2 (fk_cons (fk_int _) (fk_cons (fk_tup hN2 (fk_cons (fk_tup hN2 (fk_cons (fk_int _) (fk_cons (fk_tup hN2 (fk_cons (fk_str _) (fk_cons (fk_int _) fk_nil)) (by show 2 ≤ 1000; omega)) fk_nil)) (by show 2 ≤ 1000; omega)) fk_nil) (by show 1 ≤ 1000; omega)) (fk_cons (fk_tup hN2 fk_nil (by show 0 ≤ 1000; omega)) (fk_cons (fk_tup hN2 fk_nil (by show 0 ≤ 1000; omega)) fk_nil)))) (by show 4 ≤ 1000; omega)) (fk_cons (fk_tup hN2 (fk_cons (fk_int _) (fk_cons (fk_tup hN2 fk_nil (by show 0 ≤ 1000; omega)) (fk_cons (fk_tup hN2 fk_nil (by show 0 ≤ 1000; omega)) (fk_cons (fk_tup hN2 (fk_cons (fk_tup hN2 (fk_cons (fk_str _) (fk_cons (fk_int _) fk_nil)) (by show 2 ≤ 1000; omega)) fk_nil) (by show 1 ≤ 1000; omega)) fk_nil)))) (by show 4 ≤ 1000; omega)) (fk_cons (fk_tup hN2 (fk_cons (fk_int _) (fk_cons (fk_tup hN2 fk_nil (by show 0 ≤ 1000; omega)) (fk_cons (fk_tup hN2 (fk_cons (fk_tup hN2 (fk_cons (fk_tup hN2 (fk_cons (fk_str _) (fk_cons (fk_int _) fk_nil)) (by show 2 ≤ 1000; omega)) (fk_cons (fk_tup hN2 (fk_cons (fk_int _) (fk_cons (fk_int _) fk_nil)) (by show 2 ≤ 1000; omega)) fk_nil)) (by show 2 ≤ 1000; omega)) fk_nil) (by show 1 ≤ 1000; omega)) (fk_cons (fk_tup hN2 fk_nil (by show 0 ≤ 1000; omega)) fk_nil)))) (by show 4 ≤ 1000; omega)) fk_nil)))) (by show 4 ≤ 1000; omega)) (by decide)) (by decide) (by decide) fun v d H3 hd U3 S3 g3 => ?_)
    have z := List.all_eq_true.mp badC_no d hd
    rw [Bool.and_eq_true, Bool.not_eq_true'] at z
    exact q v (vwD d) H3 (((But.of s1).trans (But.of s2)).trans U3) S3 (Fw.vw _ _ g3.unmask) (circK_by z.1) z.2
end
end K02

set_option Elab.async false
set_option linter.all false
set_option maxRecDepth 100000
set_option maxHeartbeats 2000000
/-! _law_caught(lambda: ..). -/
namespace K02
open PySem PySem.Spec L2
open PyProof.Rows GenW GxR LamX CE
abbrev sCaught : Stmt := top 37 -- _law_caught
abbrev nCaught : List Str := ["work", "caught", "error"]
theorem scCaught : FnScope nCaught ["work"] (defScope sCaught) := ⟨rfl, rfl, rfl, by decide +kernel, rfl, by decide +kernel, by decide +kernel⟩
theorem caught_gives {X : Cx} {g CS : Addr} {cdg : Value} {q : Str} (hm : X.mg "RestError" = some (.ref CS)) : GivesTo X nCaught "_law_caught" (defScope sCaught) g cdg (defBody sCaught) "work" q (TCau X.K CS) := by
  intro f c' s H Q tl act hc h
  refine ⟨_, pss_cons (ps_set (i := 1) scCaught.nd rfl (Or.inl rfl) pe_non)
    (pss_cons (ps_try_kept (X := (cxOf C8.CX0 X.prog X.w X.K X.mg X.base nCaught "_law_caught" (defScope sCaught) g cdg X.A X.stack s H C8.E0).nox) (c := .ref CS) (i := 2) (Wout := fun _ _ _ _ => False)
      (tb := fun W D σ H => ∃ Ech : XK, (∀ cls d σ' H', σ'.length = 3 → Ech cls d H' → W cls d σ' H') ∧ σ = [some (.ref f), some .non, Option.none] ∧ H c' = some (CodeO c' q) ∧ tl Ech H fun _ H' => D.nx σ H')
      (ts := fun a _ _ => fun D σ H => D.nx (σ.set 1 (some (.ref a))) H ∧ σ[2]? = some (some (.ref a)))
      rfl rfl rfl scCaught.nd rfl (by rfl) ⟨by rfl, by decide, .inl hm⟩ LamX.takes0 (fun W pn xe tk _ => ?body) (fun a oe cls d pn => ?suite))
    (pss_one (ps_ret (pv 1)))), ?q⟩
  case body =>
    refine ⟨fun pins s' σ H' D I h' => ?_⟩
    obtain ⟨Ech, hW, h1, h2, h3⟩ := h'
    exact (pss_one (ps_expr (act _ pn xe Ech _ _ (takes_len tk) (fun cls d σ' H' e l => hW cls d σ' H' l e)))).run pins s' σ H' D I ⟨by rw [h1]; rfl, h2, h3⟩
  case suite =>
    refine ⟨fun pins s' σ H' D I h' => ?_⟩
    exact (pss_one (ps_set (i := 1) scCaught.nd rfl (Or.inl rfl) (pv 2))).run pins s' σ H' D I ⟨_, h'.2, h'.1⟩
  case q =>
    refine ⟨fun cls d H' => ∃ b, PySem.W.exmOne X.K cls (.ref CS) = some b ∧ (b = true → ∀ a, H' a = none → Q (.ref a) (upd H' a (CauO cls d a))) ∧ (b = false → False), fun cls d σ' H' hl ⟨b, e1, e2, e3⟩ => ⟨b, e1, fun hb a na => ?_, fun hb => e3 hb⟩, rfl, hc, ?_⟩
    · obtain ⟨x, y, z, rfl⟩ := three hl
      exact ⟨⟨_, rfl, e2 hb a na⟩, rfl⟩
    · show tl _ H fun _ H' => ∃ v, ([some (V.ref f), some V.non, Option.none] : L2.St)[1]? = some (some v) ∧ Q v H'
      have e : (fun (_ : V) (H' : Hp) => ∃ v, ([some (V.ref f), some V.non, Option.none] : L2.St)[1]? = some (some v) ∧ Q v H') = fun _ H' => Q .non H' :=
        funext fun _ => funext fun H' => propext ⟨fun ⟨v, e, q⟩ => by cases e; exact q, fun q => ⟨_, rfl, q⟩⟩
      rw [e]
      exact h
end K02

set_option Elab.async false
set_option linter.all false
set_option maxRecDepth 100000
set_option maxHeartbeats 4000000
/-! The law. -/
namespace K02
open PySem PySem.Spec L2
open PyProof.Rows GenW GxR EZ TK CE LamX
abbrev sLaw : Stmt := top 48 -- law
abbrev nLaw49 : List Str := ["script", "state", "turn", "circuit", "due", "kept", "told", "inside", "lot", "bad"]
theorem scLaw : FnScope nLaw49 ["script"] (defScope sLaw) := ⟨rfl, rfl, rfl, by decide +kernel, rfl, by decide +kernel, by decide +kernel⟩
def kwA {α : Type} : List α → List α → List α
  | [], [a] => [a]
  | _, _ => []
/-- where the law's helpers stand -/
structure LawF49 (P : Program) (w : World) (K : PySem.W.Frag) (mg : Str → Option Value) (base : Heap) (TT : List Addr) (CC CS : Addr) : Prop where
  begun : Cal P w K mg base CX0 1 "_law_begun" ["script"] (spBegun K)
  circ : Cal P w K mg base CX0 5 "_law_ringed" ["state", "most"] spRinged49
  long : Cal P w K mg base CX0 11 "_law_long" ["state"] (spLong TT)
  rings : Cal P w K mg base CX0 2 "_law_rings" ["circuit"] spLRings
  down : Cal P w K mg base CX0 1 "_law_down" ["circuit"] spDown
  bad : Cal P w K mg base CX0 3 "_law_bad_circuit" ["state"] spBadC
  ro : ∃ f fd, FnOk P w K mg base (L2.CX P w) 10 f fd ["circuit"] (spROf TT CC) ∧ PySem.W.keepIn K (.ref f) = true ∧ Binds K fd ["circuit"] [] ∧ mg "rings_of" = some (.ref f) ∧ KBinds K fd ["circuit"] ["circuit"] kwA kwA
  rl : Cal P w K mg base (L2.CX P w) 10 "is_ringless" ["circuit"] (spRingless TT CC)
  rg : Cal P w K mg base (L2.CX P w) 10 "ring_gates" ["circuit"] (spRingGates TT CC)
  caught : ∃ g fd, Fun K "_law_caught" "_law_caught" sCaught g fd ∧ PySem.W.keepIn K (.ref g) = true ∧ Binds K fd ["work"] [] ∧ mg "_law_caught" = some (.ref g)
  gS : mg "RestError" = some (.ref CS)
  gC : mg "BadCircuit" = some (.ref CC)
  eC : PySem.W.exmOne K (.ref CC) (.ref CS) = some true
  cC : ExcC K CC
  iC : PySem.W.kitOne K (.ref CC) (.ref CC) = some true
theorem ne_self (z : Str) : (!decide (V.str z = V.str z)) = false := by simp
theorem seq_keep {K : PySem.W.Frag} {H H' : Hp} {a : Addr} {xs : List V} (h : SqL K H a xs) (k : ∀ o, H a = some o → (∀ t, o ≠ .tbl t) → H' a = some o) : SqL K H' a xs := by
  rcases h with (h | ⟨o, h⟩) | h
  · exact .inl (.inl (k _ h fun _ z => by cases z))
  · exact .inl (.inr ⟨o, k _ h fun _ z => by cases z⟩)
  · exact .inr h
theorem rings_flat {g : KM.Gr} {lots : List (List Nat)} (R : RingLots g lots) : lots.flatten.Nodup ∧ ∀ x, x ∈ lots.flatten ↔ x < g.length ∧ KM.OnRing g x := by
  refine ⟨?_, fun x => ?_⟩
  · rw [List.Nodup, List.pairwise_flatten]
    refine ⟨fun lot hl => ((R.c lot hl).2.1).imp fun h => Nat.ne_of_lt h, List.Pairwise.imp_of_mem (fun {a b} ha hb hab => fun x hx y hy e => ?_) R.d⟩
    subst e
    obtain ⟨_, a1, a2⟩ := R.c a ha
    obtain ⟨_, b1, b2⟩ := R.c b hb
    exact hab (asc_one a1 b1 fun w => ((a2 x hx).2.2 w).trans ((b2 x hy).2.2 w).symm)
  · rw [List.mem_flatten]
    constructor
    · rintro ⟨lot, h1, h2⟩
      obtain ⟨a, b, _⟩ := (R.c lot h1).2.2 x h2
      exact ⟨a, b⟩
    · rintro ⟨a, b⟩
      exact R.a x a b
theorem rings_empty {g : KM.Gr} {lots : List (List Nat)} (n : ∀ u w, w ∈ KM.suc g u → w < g.length) (R : RingLots g lots) : lots = [] ↔ ¬ ∃ x, KM.OnRing g x := by
  constructor
  · rintro rfl ⟨x, s, h1, h2⟩
    have xl : x < g.length := by
      unfold KM.suc at h1
      rw [List.getD_eq_getElem?_getD] at h1
      cases e : g[x]? with
      | none =>
        rw [e] at h1
        cases h1
      | some r => exact (List.getElem?_eq_some_iff.mp e).1
    obtain ⟨_, h, _⟩ := R.a x xl ⟨s, h1, h2⟩
    cases h
  · intro h
    refine List.eq_nil_iff_forall_not_mem.mpr fun lot hl => ?_
    obtain ⟨ne, _, hv⟩ := R.c lot hl
    cases lot with
    | nil => exact ne rfl
    | cons v r => exact h ⟨v, (hv v List.mem_cons_self).2.1⟩
theorem eqv_lots (ms : List (List Nat)) : PyData.eqv (.list (ms.map natsT)) (.list (ms.map natsT)) = true := PySem.SeqAt.eqv_refl _ (layN_list fun d hd => by
  obtain ⟨l, _, rfl⟩ := List.mem_map.mp hd
  exact lay_natsT l).1
section
variable {P : Program} {w : World} {K : PySem.W.Frag} {mg : Str → Option Value} {base : Heap}
def spLaw49 (K : PySem.W.Frag) (TT : List Addr) (Pl : Addr) : Sp := fun vs H Q _ => ∃ (a : Addr) (ns : List Int), vs = [.ref a] ∧ SqL K H a (ns.map V.int) ∧ ns.length ≤ 63 ∧ TabsG TT H ∧ LamX.TabS H Pl lawQ ∧ Pl ∉ TT ∧ ∀ H', Q (.bl true) H'
theorem ok_law49 {TT : List Addr} {f c Pl CC CS : Addr} {fd : FuncData} (F : Fun K "law" "law" sLaw f fd) (hc : fd.code = .ref c) (TB : LamX.TabB base mg c Pl) (L : LawF49 P w K mg base TT CC CS)
    (mrange : mg "range" = none) (mmin : mg "min" = none) (mlen : mg "len" = none) (mrp : mg "repr" = none) (mtuple : mg "tuple" = none) (mi : mg "isinstance" = none) (mlist : mg "list" = none) (msorted : mg "sorted" = none) : GE.FnG P w K mg base CX0 15 f fd ["script"] (spLaw49 K TT Pl) := by
  obtain ⟨fB, fdB, GB, kB, bB, mB⟩ := L.begun
  obtain ⟨fI, fdI, GI, kI, bI, mI⟩ := L.circ
  obtain ⟨fLG, fdLG, GLG, kLG, bLG, mLG⟩ := L.long
  obtain ⟨fJ, fdJ, GJ, kJ, bJ, mJ⟩ := L.rings
  obtain ⟨fDN, fdDN, GDN, kDN, bDN, mDN⟩ := L.down
  obtain ⟨fW, fdW, GW, kW, bW, mW⟩ := L.bad
  obtain ⟨fRO, fdRO, GRO, kRO, bRO, mRO, hRO⟩ := L.ro
  obtain ⟨fRL, fdRL, GRL, kRL, bRL, mRL⟩ := L.rl
  obtain ⟨fRG, fdRG, GRG, kRG, bRG, mRG⟩ := L.rg
  obtain ⟨fC, fdC, FC, kC, bC, mC⟩ := L.caught
  obtain ⟨oc, od, kV, doc, pm, an, cdv, ct, osl, rfl, lkC, hcdC⟩ := FC.ex
  refine okGN F hc scLaw (fun vs H Q E h => ?_) (fun A outer s H vs Q E hg hr h => ?_)
  · obtain ⟨a, ns, rfl, _⟩ := h
    rfl
  · obtain ⟨a, ns, rfl, hS, hl, hT, hP, hPT, q⟩ := h
    have hu64 := hr.units
    refine ⟨_, (pss_cons (ps_set (i := 1) scLaw.nd rfl (Or.inl rfl) (pe_call GB (hr.mono (by decide)) (by rfl) mB kB bB .nil pass0 (pa_cons (pv 0) pa_nil)))
      (pss_cons (ps_if (pt_not (pt_val (pe_call GLG (hr.mono (by decide)) (by rfl) mLG kLG bLG .nil pass0 (pa_cons (pv 1) pa_nil)))) (pss_one (ps_ret pe_bl)) pss_nil)
      (pss_cons (ps_for PassesOwn.never rfl (pi_range1 (by rfl) mrange (pa_cons (pe_op op_add pe_int (pe_callB (call_min2 rfl) (by rfl) mmin (by decide +kernel) (pa_cons (pe_callB call_len_seq (by rfl) mlen PySem.boot_len (pa_cons (pv 0) pa_nil)) (pa_cons pe_int pa_nil)))) pa_nil)) (pg_name (i := 2) scLaw.nd rfl (Or.inl rfl))
        (pss_cons (ps_set (i := 3) scLaw.nd rfl (Or.inl rfl) (pe_call GI (hr.mono (by decide)) (by rfl) mI kI bI .nil pass0 (pa_cons (pv 1) (pa_cons pe_int pa_nil))))
        (pss_cons (ps_par (i := 4) (j := 5) rfl scLaw.nd rfl rfl (by decide) rfl rfl (pa_cons (pe_call GJ (hr.mono (by decide)) (by rfl) mJ kJ bJ .nil pass0 (pa_cons (pv 3) pa_nil)) (pa_cons (pe_callB (r := RU.rReprU K) (id := "repr") (RU.call_reprU hg hu64) (by rfl) mrp (by decide +kernel) (pa_cons (pv 3) pa_nil)) pa_nil)) (by rfl))
        (pss_cons (ps_set (i := 6) scLaw.nd rfl (Or.inl rfl) (pe_call GRO (hr.mono (by decide)) (by rfl) mRO kRO bRO .nil passNone (pa_cons (pv 3) pa_nil)))
        (pss_cons (ps_if (pw_or (pt_not (pt_val (pe_callB call_isi (by rfl) mi (by decide +kernel) (pa_cons (pv 6) (pa_cons (pe_bltn (v := .ty "list") (u := .type "list") (by rfl) mlist (by decide +kernel) rfl) pa_nil))))) (pw_or (pt_cmpR (op_neD hu64) (pv 6) (pv 4) (nomark _)) (pw_or (pt_cmpR (op_neD hu64) (pe_callK0 GRO (hr.mono (by decide)) (by rfl) mRO kRO hRO passNone (pk_cons (pv 3) pk_nil)) (pv 4) (nomark _)) (pw_or1 (pt_cmpR op_ne (pe_callB (r := RU.rReprU K) (id := "repr") (RU.call_reprU hg hu64) (by rfl) mrp (by decide +kernel) (pa_cons (pv 3) pa_nil)) (pv 5) (nomark _)))))).pt (pss_one (ps_ret pe_bl)) pss_nil)
        (pss_cons (ps_set (i := 7) scLaw.nd rfl (Or.inl rfl) (pe_lst pa_nil))
        (pss_cons (ps_for PassesOwn.never rfl (pi_list (pv 6)) (pg_name (i := 8) scLaw.nd rfl (Or.inl rfl))
          (pss_one (ps_set (i := 7) scLaw.nd rfl (Or.inl rfl) (pe_op op_cat (pv 7) (pe_callTy call_list_of (by rfl) mlist (by decide +kernel) (pa_cons (pv 8) pa_nil))))))
        (pss_cons (ps_if (pw_or (pt_cmpR (op_neD hu64) (pe_callTy call_tuple_of (by rfl) mtuple (by decide +kernel) (pa_cons (pe_callB cr_sortedI (by rfl) msorted (by decide +kernel) (pa_cons (pv 7) pa_nil)) pa_nil)) (pe_call GRG (hr.mono (by decide)) (by rfl) mRG kRG bRG .nil passNone (pa_cons (pv 3) pa_nil)) (nomark _)) (pw_or (pt_cmpR op_ne (pe_callB (r := RU.rReprU K) (id := "repr") (RU.call_reprU hg hu64) (by rfl) mrp (by decide +kernel) (pa_cons (pe_call GRL (hr.mono (by decide)) (by rfl) mRL kRL bRL .nil passNone (pa_cons (pv 3) pa_nil)) pa_nil)) (pe_callB (r := RU.rReprU K) (id := "repr") (RU.call_reprU hg hu64) (by rfl) mrp (by decide +kernel) (pa_cons (pe_cmpR (op_eqD hu64) (pv 4) (pe_lst pa_nil) (nomark _)) pa_nil)) (nomark _)) (pw_or1 (pt_cmpR op_ne (pe_cmpR op_isN (pe_call GDN (hr.mono (by decide)) (by rfl) mDN kDN bDN .nil pass0 (pa_cons (pv 3) pa_nil)) pe_non (nomark _)) (pe_cmpR (op_neD hu64) (pv 4) (pe_lst pa_nil) (nomark _)) (nomark _))))).pt (pss_one (ps_ret pe_bl)) pss_nil)
        (pss_cons (ps_set (i := 9) scLaw.nd rfl (Or.inr rfl) (pe_call GW (hr.mono (by decide)) (by rfl) mW kW bW .nil pass0 (pa_cons (pv 1) pa_nil)))
        (pss_one (ps_if (pt_not (pt_val (pe_callB (call_isCau L.cC) (by rfl) mi (by decide +kernel) (pa_cons (pe_lamP (k := 12) (Ng := nCaught) (by rfl) mC kC lkC hcdC bC scCaught rfl (.inl rfl) (caught_gives L.gS) TB rfl hr (lamS_by (by show lamSB (defScope sLaw) _ = true; decide +kernel)) rfl (fun _ _ _ _ _ => rfl)
            (fun A outer s H E f c' hr2 => pe_call (E := E) GRO (hr2.mono (by decide)) (by rfl) mRO kRO bRO .nil (L2.passes_call (L2.takes_of rfl rfl rfl rfl) (fun _ _ _ _ e => e)) (pa_cons (pv 9) pa_nil))) (pa_cons (pe_glob (v := .ref CC) (by rfl) L.gC rfl) pa_nil))))) (pss_one (ps_ret pe_bl)) pss_nil)))))))))))
      (pss_one (ps_ret pe_bl))))), ?_⟩
    -- begun
    refine ⟨_, rfl, a, ns, rfl, hS, hl, fun st lg cl H1 S1 k1 n1 n2 n3 => ?_⟩
    have B1 : Between st lg cl Pl TT H1 0 := ⟨S1, (Ex.same k1).tabs hT, hP.ext k1⟩
    -- _law_long
    refine ⟨_, rfl, st, lg, cl, 0, rfl, by omega, S1, B1.tt, fun H2 H3 U2 S2 x3 => ?_⟩
    have B3 := (B1.but S2 U2).ex hPT x3
    refine ⟨_, rfl, iteF ?_⟩
    refine next_of ?_
    dsimp only
    have hS3 : SqL K H3 a (ns.map V.int) := seq_keep hS fun o e n => x3.extN (B1.but S2 U2).tt _ _ (U2 _ _ (k1 _ _ e) (ne_of_none e n1) (ne_of_none e n2)) n
    refine ⟨_, rfl, a, _, rfl, .inl hS3, ⟨_, _, rfl, _, _, rfl, rfl, _, rfl, ?_, ?_, ?_⟩⟩
    · show -(2 ^ 62) ≤ (6 : Int) + (if (8 : Int) < ((ns.map V.int).length : Int) then 8 else ((ns.map V.int).length : Int))
      split <;> omega
    · show (6 : Int) + (if (8 : Int) < ((ns.map V.int).length : Int) then 8 else ((ns.map V.int).length : Int)) < 2 ^ 62
      split <;> omega
    have hM : (6 + (if (8 : Int) < ((ns.map V.int).length : Int) then 8 else ((ns.map V.int).length : Int))).toNat ≤ 14 := by
      split <;> omega
    generalize (6 + (if (8 : Int) < ((ns.map V.int).length : Int) then 8 else ((ns.map V.int).length : Int))).toNat = M at hM
    refine for_range (fun i σ Hx => ∃ y2 y3 y4 y5 y6 y7 y8 y9 : Option V, σ = [some (.ref a), some (.ref st), y2, y3, y4, y5, y6, y7, y8, y9] ∧ Between st lg cl Pl TT Hx (2 + 500 * i)) ⟨none, none, none, none, none, none, none, none, rfl, B3⟩ (fun i σ Hx hi hh => ?turn) (fun σ Hx hh => ?done)
    case done =>
      obtain ⟨_, _, _, _, _, _, _, _, rfl, _⟩ := hh
      exact q Hx
    case turn =>
      obtain ⟨y2, y3, y4, y5, y6, y7, y8, y9, rfl, B⟩ := hh
      clear hS3 B3 B1 x3 U2 S2 k1 hS hT hP n1 n2 n3 S1
      -- a circuit
      refine ⟨_, rfl, st, lg, cl, 2 + 500 * i, 7, rfl, by decide, by decide, by omega, B.s, fun y C H4 hC ok ng1 ng7 nr2 no3 S4 U4 => ?_⟩
      have B4 := B.but S4 U4
      clear U4 S4 B
      have oC := circ_okD ok (by omega)
      have nC : ∀ j, circDat C ≠ .int j := fun j z => nomatch z
      -- due, kept
      refine ⟨_, rfl, y, C, rfl, hC, ok, fun p1 H5 us lots s5 np1 ep1 al1 R1 => ⟨_, rfl, ?_⟩⟩
      have B5 := B4.same s5
      have hC5 := hC.keep (.of s5)
      dsimp only [tNil]
      show RU.rReprU K [y] H5 _
      refine repr_one (dp_circ hC5.q) oC (by decide) (by decide) nC ?_
      refine ⟨_, _, rfl, ?_⟩
      clear hC B4 s5 np1
      -- told
      refine ⟨_, rfl, y, rfl, B5.tt, .inr ⟨C, hC5, ok, fun p2 H6 us2 lots2 x6 ep2 al2 R2 => ?_⟩⟩
      have e2 := R2.one R1
      subst e2
      have k6 := x6.extN B5.tt
      have B6 := B5.ex hPT x6
      have hC6 := hC5.ext k6
      have ep16 := k6 _ _ ep1 (fun _ z => by cases z)
      have al16 : AllAt TupN H6 us lots2 := all_ext (fun _ _ r => r.keep fun b xs e => k6 _ _ e (fun _ z => by cases z)) al1
      clear x6 k6 B5 hC5 ep1 al1 R2
      refine ⟨_, rfl, .ref p2, .ty "list", _, _, _, rfl, .ty "list", (ty_lst (K := K) ep2).ty, kit_of1 (ty_lst (K := K) ep2).mem (by decide), _, rfl, ?_⟩
      rw [show kitR "list" "list" = true from by decide +kernel]
      refine iteF ?_
      refine ⟨_, rfl, _, rfl, .list (lots2.map natsT), .list (lots2.map natsT), .lst (.inl (.inl ep2)) (dp_natsL al2), .lst (.inl (.inl ep16)) (dp_natsL al16), shape_natsL _, shape_natsL _, _, rfl, ?_⟩
      rw [eqv_lots]
      refine iteF ?_
      refine ⟨_, rfl, y, rfl, B6.tt, .inr ⟨C, hC6, ok, fun p3 H7 us3 lots3 x7 ep3 al3 R3 => ?_⟩⟩
      have e3 := R3.one R1
      subst e3
      have k7 := x7.extN B6.tt
      have kt7 : TupKeep H6 H7 := fun b xs e => k7 _ _ e (fun _ z => by cases z)
      have B7 := B6.ex hPT x7
      have hC7 := hC6.ext k7
      have ep17 := k7 _ _ ep16 (fun _ z => by cases z)
      have al17 : AllAt TupN H7 us lots3 := all_ext (fun _ _ r => r.keep kt7) al16
      have ep27 := k7 _ _ ep2 (fun _ z => by cases z)
      have al27 : AllAt TupN H7 us2 lots3 := all_ext (fun _ _ r => r.keep kt7) al2
      refine ⟨_, rfl, .list (lots3.map natsT), .list (lots3.map natsT), .lst (.inl (.inl ep3)) (dp_natsL al3), .lst (.inl (.inl ep17)) (dp_natsL al17), shape_natsL _, shape_natsL _, _, rfl, ?_⟩
      rw [eqv_lots]
      refine iteF ?_
      refine ⟨_, rfl, ?_⟩
      dsimp only [tNil]
      show RU.rReprU K [y] H7 _
      refine repr_one (dp_circ hC7.q) oC (by decide) (by decide) nC ?_
      refine ⟨_, rfl, rfl, _, rfl, ?_⟩
      rw [ne_self]
      refine iteF ?_
      clear x7 k7 kt7 B6 hC6 ep16 al16 ep2 al2 ep3 al3 R3
      refine next_of ?_
      dsimp only
      have n := leadsC_lt ok
      obtain ⟨fnd, fmem⟩ := rings_flat R1.1
      have flen : lots3.flatten.length ≤ 7 := by
        have z := KM.nodup_len (leadsC C).length _ fnd fun x hx => ((fmem x).mp hx).1
        rw [leadsC_len] at z
        omega
      -- inside
      refine ⟨Nat.zero_le _, fun i0 ni0 => ?_⟩
      have s8 := same_new (o := .lst []) ni0
      have ei8 : (L2.upd H7 i0 (.lst [])) i0 = some (.lst (nV (lots3.take 0).flatten)) := upd_same
      have B8 := B7.same s8
      have hC8 := hC7.keep (.of s8)
      have ep18 := s8 _ _ ep17
      have ep28 := s8 _ _ ep27
      have al18 : AllAt TupN (L2.upd H7 i0 (.lst [])) us lots3 := all_ext (fun _ _ r => r.keep (.of s8)) al17
      have al28 : AllAt TupN (L2.upd H7 i0 (.lst [])) us2 lots3 := all_ext (fun _ _ r => r.keep (.of s8)) al27
      generalize L2.upd H7 i0 (.lst []) = H8 at s8 ei8 B8 hC8 ep18 ep28 al18 al28
      clear s8 ni0 B7 hC7 ep17 ep27 al17 al27
      have lus : us2.length = lots3.length := Paired.length al28
      show tSeq _ _ _ [some (V.ref a), some (V.ref st), some (V.int (0 + (i : Int))), some y, some (V.ref p1), some (V.str (circDat C).shown), some (V.ref p2), some (V.ref i0), y8, y9] H8
      refine ⟨_, rfl, p2, rfl, ⟨us2, .inl (.inl ep28)⟩, for_list (xs := us2) (fun j σ Hx => ∃ (ia : Addr) (y8 : Option V), σ = [some (V.ref a), some (V.ref st), some (V.int (0 + (i : Int))), some y, some (V.ref p1), some (V.str (circDat C).shown), some (V.ref p2), some (V.ref ia), y8, y9] ∧ Same H8 Hx ∧ Hx ia = some (.lst (nV (lots3.take j).flatten)))
        ⟨i0, y8, rfl, fun _ _ e => e, ei8⟩ (fun j σ Hx _ hh => ?_) (fun j x σ Hx hx hh => ?_) (fun σ Hx hh => ?_)⟩
      · obtain ⟨_, _, _, k, _⟩ := hh
        exact .inl (.inl (k _ _ ep28))
      · obtain ⟨ia, y8', rfl, kx, eia⟩ := hh
        obtain ⟨lot, hl, tl, rfl, etl⟩ := all_get al28 hx
        have step : (lots3.take (j + 1)).flatten = (lots3.take j).flatten ++ lot := by
          rw [take_snoc hl, List.flatten_append, List.flatten_cons, List.flatten_nil, List.append_nil]
        have ls : (lots3.take (j + 1)).flatten.length ≤ lots3.flatten.length := by
          conv => rhs; rw [← List.take_append_drop (j + 1) lots3, List.flatten_append, List.length_append]
          exact Nat.le_add_right _ _
        have lnV : ∀ l : List Nat, (nV l).length = l.length := fun l => by unfold nV; rw [List.length_map]
        rw [step, List.length_append] at ls
        refine ⟨_, rfl, _, rfl, tl, _, rfl, .inr (.inl (.inl (kx _ _ etl))), fun l nl => ?_⟩
        have t1 := same_new (o := .lst (nV lot)) nl
        refine ⟨ia, l, _, _, rfl, rfl, t1 _ _ eia, upd_same, by rw [lnV, lnV, sizeLine_eq]; omega, fun p np => ?_⟩
        refine ⟨p, _, rfl, kx.trans (t1.trans (same_new np)), ?_⟩
        rw [upd_same, step]
        unfold nV
        rw [List.map_append]
      obtain ⟨ia, y8', rfl, kx, eia⟩ := hh
      rw [lus, List.take_length] at eia
      have B9 := B8.same kx
      have hC9 := hC8.keep (.of kx)
      have ep19 := kx _ _ ep18
      have al19 : AllAt TupN Hx us lots3 := all_ext (fun _ _ r => r.keep (.of kx)) al18
      clear kx B8 hC8 ep18 ep28 al18 al28 ei8
      -- tuple(sorted(inside)) != ring_gates(circuit)
      refine ⟨_, rfl, ia, _, rfl, by rw [← nV_ints]; exact .inl (.inl eia), fun ns1 q1 perm asc nq1 => ?_⟩
      obtain ⟨l1, e1, pm1, as1⟩ := perm_nats perm asc
      rw [e1]
      have t1 := same_new (o := .lst (nV l1)) nq1
      have f1 : (L2.upd Hx q1 (.lst (nV l1))) q1 = some (.lst (nV l1)) := upd_same
      generalize L2.upd Hx q1 (.lst (nV l1)) = Ha at t1 f1
      refine ⟨q1, _, rfl, .inl ⟨.inl (.inl f1), fun q2 nq2 => ?_⟩⟩
      have t2 := same_new (o := .tup (nV l1)) nq2
      have f2 : (L2.upd Ha q2 (.tup (nV l1))) q2 = some (.tup (nV l1)) := upd_same
      generalize L2.upd Ha q2 (.tup (nV l1)) = Hb at t2 f2
      have t12 := t1.trans t2
      have B10 := B9.same t12
      have hC10 := hC9.keep (.of t12)
      have ep110 := t12 _ _ ep19
      have al110 : AllAt TupN Hb us lots3 := all_ext (fun _ _ r => r.keep (.of t12)) al19
      clear t1 t2 t12 f1 nq1 nq2 B9 hC9 ep19 al19
      refine ⟨_, rfl, y, rfl, B10.tt, .inr ⟨C, hC10, ok, fun p4 H11 rs x11 ep4 Rr => ?_⟩⟩
      have el : l1 = rs := asc_one ((as1.and (pm1.nodup_iff.mpr fnd)).imp fun z => Nat.lt_of_le_of_ne z.1 z.2) Rr.1 fun v => (pm1.mem_iff.trans (fmem v)).trans (Rr.2 v).symm
      subst el
      have k11 := x11.extN B10.tt
      have kt11 : TupKeep Hb H11 := fun b xs e => k11 _ _ e (fun _ z => by cases z)
      have B11 := B10.ex hPT x11
      have hC11 := hC10.ext k11
      have ep111 := k11 _ _ ep110 (fun _ z => by cases z)
      have al111 : AllAt TupN H11 us lots3 := all_ext (fun _ _ r => r.keep kt11) al110
      refine ⟨natsT l1, natsT l1, dp_natsT ⟨q2, rfl, kt11 _ _ f2⟩, dp_natsT ⟨p4, rfl, ep4⟩, layN_shaped (lay_natsT _) (by decide), layN_shaped (lay_natsT _) (by decide), _, rfl, ?_⟩
      rw [eqv_natsT, decide_eq_true rfl]
      refine iteF ?_
      clear k11 kt11 x11 B10 hC10 ep110 al110 f2 ep4
      have rE : l1 = [] ↔ lots3 = [] := by
        refine Iff.trans ?_ (rings_empty n R1.1).symm
        rw [List.eq_nil_iff_forall_not_mem]
        constructor
        · rintro z ⟨x, hx⟩
          refine z x ((Rr.2 x).mpr ⟨?_, hx⟩)
          obtain ⟨s0, h1, _⟩ := hx
          unfold KM.suc at h1
          rw [List.getD_eq_getElem?_getD] at h1
          cases e : (leadsC C)[x]? with
          | none =>
            rw [e] at h1
            cases h1
          | some r => exact (List.getElem?_eq_some_iff.mp e).1
        · exact fun z x hx => z ⟨x, ((Rr.2 x).mp hx).2⟩
      -- is_ringless
      refine ⟨_, rfl, y, rfl, B11.tt, .inr ⟨C, hC11, ok, fun H12 rs' x12 Rr' => ?_⟩⟩
      have er := Rr'.one Rr
      subst er
      have k12 := x12.extN B11.tt
      have B12 := B11.ex hPT x12
      have hC12 := hC11.ext k12
      have ep112 := k12 _ _ ep111 (fun _ z => by cases z)
      have al112 : AllAt TupN H12 us lots3 := all_ext (fun _ _ r => r.keep fun b xs e => k12 _ _ e (fun _ z => by cases z)) al111
      clear k12 x12 B11 hC11 ep111 al111
      dsimp only [tNil]
      have ob : ∀ b : Bool, One yesD 0 0 (.bool b) := fun b => ⟨⟨rfl, rfl, rfl, rfl⟩, Nat.le_refl _, Nat.le_refl _, rfl⟩
      show RU.rReprU K [.bl (decide (rs' = []))] H12 _
      refine repr_one (.bl _) (ob _) (by decide) (by decide) (fun i z => nomatch z) ?_
      refine ⟨_, rfl, Nat.zero_le _, fun pe npe => ⟨.list (lots3.map natsT), .list [], .lst (.inl (.inl ((same_new npe) _ _ ep112))) (dp_natsL (all_ext (fun _ _ r => r.keep (.of (same_new npe))) al112)), .lst (.inl (.inl upd_same)) .nil, shape_natsL _, rfl, ?_⟩⟩
      rw [eqv_nilL]
      have sE := same_new (o := .lst []) npe
      generalize L2.upd H12 pe (.lst []) = H13 at sE
      have bE : decide (rs' = []) = (lots3.map natsT).isEmpty := by
        cases lots3 with
        | nil => rw [rE.mpr rfl]; rfl
        | cons z r => exact decide_eq_false fun h => nomatch (rE.mp h)
      rw [← bE]
      dsimp only [tNil]
      show RU.rReprU K [.bl (decide (rs' = []))] H13 _
      refine repr_one (.bl _) (ob _) (by decide) (by decide) (fun i z => nomatch z) ?_
      refine ⟨rfl, _, rfl, ?_⟩
      rw [ne_self]
      refine iteF ?_
      have B13 := B12.same sE
      have hC13 := hC12.keep (.of sE)
      have ep113 := sE _ _ ep112
      have al113 : AllAt TupN H13 us lots3 := all_ext (fun _ _ r => r.keep (.of sE)) al112
      clear sE npe B12 hC12 ep112 al112
      -- _law_down
      refine ⟨_, rfl, y, C, rfl, hC13, ok, fun v H14 sD hiff => ⟨rfl, _, rfl, Nat.zero_le _, fun pe npe => ⟨.list (lots3.map natsT), .list [], .lst (.inl (.inl ((same_new npe) _ _ (sD _ _ ep113)))) (dp_natsL (all_ext (fun _ _ r => r.keep (.of (sD.trans (same_new npe)))) al113)), .lst (.inl (.inl upd_same)) .nil, shape_natsL _, rfl, ?_⟩⟩⟩
      rw [eqv_nilL]
      have sE := sD.trans (same_new (o := .lst []) npe)
      generalize L2.upd H14 pe (.lst []) = H15 at sE
      have bD : decide (v = V.non) = !(lots3.map natsT).isEmpty := by
        have z := rings_empty n R1.1
        cases lots3 with
        | nil => exact decide_eq_false fun h => z.mp rfl (hiff.mp (decide_eq_true h))
        | cons z' r =>
          refine hiff.mpr (Classical.byContradiction fun h => ?_)
          cases z.mpr h
      rw [bD]
      refine ⟨rfl, _, rfl, iteF' ?_ ?_⟩
      · cases (lots3.map natsT).isEmpty <;> decide
      have B15 := B13.same sE
      clear sE bD hiff npe B13 hC13 ep113 al113
      clear rE R1 fnd fmem flen lus
      refine next_of ?_
      dsimp only
      -- bad
      refine ⟨_, rfl, st, lg, cl, _, rfl, by omega, B15.s, fun v2 d H16 U S16 hv hk hb => ?_⟩
      have B16 := B15.but S16 U
      clear U S16 B15
      refine ⟨B16.tl, fun H3 bp T3 => ?_⟩
      have T3' : LamX.TabS H3 Pl lawQ := T3
      have l3 := B16.lam (H4 := H3) (ad := 0) (o := .tup []) hPT bp T3'
      refine ⟨_, rfl, v2, rfl, l3.1, .inl ⟨d, hv.ext l3.2.1, hk, hb, fun H4 x4 => ⟨true, L.eC, fun _ ad nad => ?_, fun z => (nomatch z)⟩⟩⟩
      obtain ⟨B5, x5⟩ := (B16.lam (ad := ad) (o := CauO (.ref CC) none ad) hPT bp T3').2.2 x4 nad
      refine ⟨ad, .ref CC, .ref CC, true, rfl, upd_same, fun u h => h, L.iC, _, rfl, iteF ?_⟩
      exact ⟨_, _, _, _, _, _, _, _, rfl, B5.s.up (by omega), B5.tt, B5.tl⟩
end
end K02

set_option Elab.async false
set_option linter.all false
set_option maxRecDepth 100000
set_option maxHeartbeats 4000000
/-! All facts put together. -/
namespace K02
open PySem PySem.Spec L2
open PyProof.Rows GenW GxR EZ TK CE
theorem excC_of {K : PySem.W.Frag} {D : Addr} (a : PySem.W.findIn K (.ref D) "__getattribute__" = some (some (.builtin "BaseException.__getattribute__"))) (b : PySem.W.findIn K (.ref D) "__getattr__" = some none) (c : PySem.W.subIn K (.ref D) (.type "BaseException") = some true) (d : PySem.W.hasDictIn K D = true)
    (e : PySem.W.findIn K (.ref D) "__class__" = some (some (.builtin "object.__class__"))) (f : PySem.W.specialIn K (.builtin "object.__class__") "__get__" = some (some (.builtin "getset_descriptor.__get__"))) (g : PySem.W.takesIn K (.builtin "object.__class__") = some true) (h : PySem.W.mroIn K D (.type "object") = some true) : ExcC K D := ⟨a, b, c, d, e, f, g, h⟩
theorem kb_rings_of {K : PySem.W.Frag} {f : Addr} {fd : FuncData} (F : Fun K "rings_of" "rings_of" sROf f fd) : KBinds K fd ["circuit"] ["circuit"] kwA kwA := by
  obtain ⟨oc, od, kV, doc, pm, an, cdv, ct, osl, rfl, lk, hcd⟩ := F.ex
  refine ⟨fun s us ws _ hl => ?_, fun {vs us zs ws} r rz => ?_⟩
  · match us, ws, hl with
    | [], [a0], _ => exact .of_eq rfl
  · rcases r with _ | ⟨_, _⟩
    · rcases rz with _ | ⟨r0, _ | ⟨r1, r2⟩⟩
      · exact .nil
      · exact .cons r0 .nil
      · exact .nil
    · exact .nil
theorem all_mk {l : PySem.W.OpenLaw} {w : World} {K : PySem.W.Frag} {h : Heap} {mg : Str → Option Value} {fa : Addr} {names : List Str} (X : K.In h) (G : h.Ns mainGlobals mg) (hfa : mg "law" = some (.ref fa)) (own : ∀ y ∈ names, ∀ f, mg y = some (.ref f) → LamX.OwnTab K f h)
    (m4 : ("is_bits" : Str) ∈ names) (m12 : ("is_gate" : Str) ∈ names) (m13 : ("is_circuit" : Str) ∈ names) (m35 : ("law" : Str) ∈ names)
    {f0 f1 f2 f3 f4 f5 f6 f7 f8 f9 f10 f11 f12 f13 f14 f15 f16 f17 f18 f19 f20 f21 f22 f23 f24 f25 f26 f27 f28 f29 f30 f31 f32 f33 f34 f35 c4 c12 c13 c35 c14 P4 P12 P13 P35 CS CC : Addr} {oc0 kV0 dc0 pm0 ct0 cd0 oc1 kV1 dc1 pm1 ct1 cd1 oc2 kV2 dc2 pm2 ct2 cd2 oc3 kV3 dc3 pm3 ct3 cd3 oc4 kV4 dc4 pm4 ct4 oc5 kV5 dc5 pm5 ct5 cd5 oc6 kV6 dc6 pm6 ct6 cd6 oc7 kV7 dc7 pm7 ct7 cd7 oc8 kV8 dc8 pm8 ct8 cd8 oc9 kV9 dc9 pm9 ct9 cd9 oc10 kV10 dc10 pm10 ct10 cd10 oc11 kV11 dc11 pm11 ct11 cd11 oc12 kV12 dc12 pm12 ct12 oc13 kV13 dc13 pm13 ct13 oc14 kV14 dc14 pm14 ct14 oc15 kV15 dc15 pm15 ct15 cd15 oc16 kV16 dc16 pm16 ct16 cd16 oc17 kV17 dc17 pm17 ct17 cd17 oc18 kV18 dc18 pm18 ct18 cd18 oc19 kV19 dc19 pm19 ct19 cd19 oc20 kV20 dc20 pm20 ct20 cd20 oc21 kV21 dc21 pm21 ct21 cd21 oc22 kV22 dc22 pm22 ct22 cd22 oc23 kV23 dc23 pm23 ct23 cd23 oc24 kV24 dc24 pm24 ct24 cd24 oc25 kV25 dc25 pm25 ct25 cd25 oc26 kV26 dc26 pm26 ct26 cd26 oc27 kV27 dc27 pm27 ct27 cd27 oc28 kV28 dc28 pm28 ct28 cd28 oc29 kV29 dc29 pm29 ct29 cd29 oc30 kV30 dc30 pm30 ct30 cd30 oc31 kV31 dc31 pm31 ct31 cd31 oc32 kV32 dc32 pm32 ct32 cd32 oc33 kV33 dc33 pm33 ct33 cd33 oc34 kV34 dc34 pm34 ct34 cd34 oc35 kV35 dc35 pm35 ct35 ce4 ce12 ce13 ce35 : Value} {od0 an0 od1 an1 od2 an2 od3 an3 od4 an4 od5 an5 od6 an6 od7 an7 od8 an8 od9 an9 od10 an10 od11 an11 od12 an12 od13 an13 od14 an14 od15 an15 od16 an16 od17 an17 od18 an18 od19 an19 od20 an20 od21 an21 od22 an22 od23 an23 od24 an24 od25 an25 od26 an26 od27 an27 od28 an28 od29 an29 od30 an30 od31 an31 od32 an32 od33 an33 od34 an34 od35 an35 cdd4 cdd12 cdd13 cdd35 : Option Addr} {sl0 sl1 sl2 sl3 sl4 sl5 sl6 sl7 sl8 sl9 sl10 sl11 sl12 sl13 sl14 sl15 sl16 sl17 sl18 sl19 sl20 sl21 sl22 sl23 sl24 sl25 sl26 sl27 sl28 sl29 sl30 sl31 sl32 sl33 sl34 sl35 csl4 csl12 csl13 csl35 : Array (Option Value)} {vs4 vs12 vs13 vs35 : Array Value} {tk0 tk1 tk2 tk3 tk4 : Tok}
    (a0 : PySem.W.nsIn K mainGlobals "is_number" = some (some (.ref f0))) (l0 : K.lookup f0 = some ⟨oc0, od0, .func (PySem.W.fnOf "is_number" "is_number" (defArgs sIsNumber) (defBody sIsNumber) (defScope sIsNumber) .none kV0 dc0 pm0 an0 cd0 ct0), sl0⟩) (c0' : PySem.W.codeIn K cd0 "is_number" = true) (k0 : PySem.W.keepIn K (.ref f0) = true)
    (a1 : PySem.W.nsIn K mainGlobals "is_below" = some (some (.ref f1))) (l1 : K.lookup f1 = some ⟨oc1, od1, .func (PySem.W.fnOf "is_below" "is_below" (defArgs sIsBelow) (defBody sIsBelow) (defScope sIsBelow) .none kV1 dc1 pm1 an1 cd1 ct1), sl1⟩) (c1' : PySem.W.codeIn K cd1 "is_below" = true) (k1 : PySem.W.keepIn K (.ref f1) = true)
    (a2 : PySem.W.nsIn K mainGlobals "is_bit" = some (some (.ref f2))) (l2 : K.lookup f2 = some ⟨oc2, od2, .func (PySem.W.fnOf "is_bit" "is_bit" (defArgs sIsBit) (defBody sIsBit) (defScope sIsBit) .none kV2 dc2 pm2 an2 cd2 ct2), sl2⟩) (c2' : PySem.W.codeIn K cd2 "is_bit" = true) (k2 : PySem.W.keepIn K (.ref f2) = true)
    (a3 : PySem.W.nsIn K mainGlobals "is_tuple_of" = some (some (.ref f3))) (l3 : K.lookup f3 = some ⟨oc3, od3, .func (PySem.W.fnOf "is_tuple_of" "is_tuple_of" (defArgs sIsTupleOf) (defBody sIsTupleOf) (defScope sIsTupleOf) .none kV3 dc3 pm3 an3 cd3 ct3), sl3⟩) (c3' : PySem.W.codeIn K cd3 "is_tuple_of" = true) (k3 : PySem.W.keepIn K (.ref f3) = true)
    (a4 : PySem.W.nsIn K mainGlobals "is_bits" = some (some (.ref f4))) (l4 : K.lookup f4 = some ⟨oc4, od4, .func (PySem.W.fnOf "is_bits" "is_bits" (defArgs sIsBits) (defBody sIsBits) (defScope sIsBits) .none kV4 dc4 pm4 an4 (.ref c4) ct4), sl4⟩) (c4' : PySem.W.codeIn K (.ref c4) "is_bits" = true) (k4 : PySem.W.keepIn K (.ref f4) = true)
    (x4 : K.lookup c4 = some ⟨ce4, cdd4, .fields vs4, csl4⟩) (p4 : vs4[11]? = some (.ref P4)) (n4 : K.lookup P4 = none) (o4 : PySem.W.codeHdIn K c4 P4 = true)
    (a5 : PySem.W.nsIn K mainGlobals "knots" = some (some (.ref f5))) (l5 : K.lookup f5 = some ⟨oc5, od5, .func (PySem.W.fnOf "knots" "knots" (defArgs sKnots) (defBody sKnots) (defScope sKnots) .none kV5 dc5 pm5 an5 cd5 ct5), sl5⟩) (c5' : PySem.W.codeIn K cd5 "knots" = true) (k5 : PySem.W.keepIn K (.ref f5) = true)
    (a6 : PySem.W.nsIn K mainGlobals "leaving_order" = some (some (.ref f6))) (l6 : K.lookup f6 = some ⟨oc6, od6, .func (PySem.W.fnOf "leaving_order" "leaving_order" (defArgs sLeaving) (defBody sLeaving) (defScope sLeaving) .none kV6 dc6 pm6 an6 cd6 ct6), sl6⟩) (c6' : PySem.W.codeIn K cd6 "leaving_order" = true) (k6 : PySem.W.keepIn K (.ref f6) = true)
    (a7 : PySem.W.nsIn K mainGlobals "turned_round" = some (some (.ref f7))) (l7 : K.lookup f7 = some ⟨oc7, od7, .func (PySem.W.fnOf "turned_round" "turned_round" (defArgs sTurned) (defBody sTurned) (defScope sTurned) .none kV7 dc7 pm7 an7 cd7 ct7), sl7⟩) (c7' : PySem.W.codeIn K cd7 "turned_round" = true) (k7 : PySem.W.keepIn K (.ref f7) = true)
    (a8 : PySem.W.nsIn K mainGlobals "gathered" = some (some (.ref f8))) (l8 : K.lookup f8 = some ⟨oc8, od8, .func (PySem.W.fnOf "gathered" "gathered" (defArgs sGathered) (defBody sGathered) (defScope sGathered) .none kV8 dc8 pm8 an8 cd8 ct8), sl8⟩) (c8' : PySem.W.codeIn K cd8 "gathered" = true) (k8 : PySem.W.keepIn K (.ref f8) = true)
    (a9 : PySem.W.nsIn K mainGlobals "is_tuple_up_to" = some (some (.ref f9))) (l9 : K.lookup f9 = some ⟨oc9, od9, .func (PySem.W.fnOf "is_tuple_up_to" "is_tuple_up_to" (defArgs sUpTo) (defBody sUpTo) (defScope sUpTo) .none kV9 dc9 pm9 an9 cd9 ct9), sl9⟩) (c9' : PySem.W.codeIn K cd9 "is_tuple_up_to" = true) (k9 : PySem.W.keepIn K (.ref f9) = true)
    (a10 : PySem.W.nsIn K mainGlobals "is_source" = some (some (.ref f10))) (l10 : K.lookup f10 = some ⟨oc10, od10, .func (PySem.W.fnOf "is_source" "is_source" (defArgs sIsSource) (defBody sIsSource) (defScope sIsSource) .none kV10 dc10 pm10 an10 cd10 ct10), sl10⟩) (c10' : PySem.W.codeIn K cd10 "is_source" = true) (k10 : PySem.W.keepIn K (.ref f10) = true)
    (a11 : PySem.W.nsIn K mainGlobals "is_register" = some (some (.ref f11))) (l11 : K.lookup f11 = some ⟨oc11, od11, .func (PySem.W.fnOf "is_register" "is_register" (defArgs sIsRegister) (defBody sIsRegister) (defScope sIsRegister) .none kV11 dc11 pm11 an11 cd11 ct11), sl11⟩) (c11' : PySem.W.codeIn K cd11 "is_register" = true) (k11 : PySem.W.keepIn K (.ref f11) = true)
    (a12 : PySem.W.nsIn K mainGlobals "is_gate" = some (some (.ref f12))) (l12 : K.lookup f12 = some ⟨oc12, od12, .func (PySem.W.fnOf "is_gate" "is_gate" (defArgs sIsGate) (defBody sIsGate) (defScope sIsGate) .none kV12 dc12 pm12 an12 (.ref c12) ct12), sl12⟩) (c12' : PySem.W.codeIn K (.ref c12) "is_gate" = true) (k12 : PySem.W.keepIn K (.ref f12) = true)
    (x12 : K.lookup c12 = some ⟨ce12, cdd12, .fields vs12, csl12⟩) (p12 : vs12[11]? = some (.ref P12)) (n12 : K.lookup P12 = none) (o12 : PySem.W.codeHdIn K c12 P12 = true)
    (a13 : PySem.W.nsIn K mainGlobals "is_circuit" = some (some (.ref f13))) (l13 : K.lookup f13 = some ⟨oc13, od13, .func (PySem.W.fnOf "is_circuit" "is_circuit" (defArgs sIsCircuit) (defBody sIsCircuit) (defScope sIsCircuit) .none kV13 dc13 pm13 an13 (.ref c13) ct13), sl13⟩) (c13' : PySem.W.codeIn K (.ref c13) "is_circuit" = true) (k13 : PySem.W.keepIn K (.ref f13) = true)
    (x13 : K.lookup c13 = some ⟨ce13, cdd13, .fields vs13, csl13⟩) (p13 : vs13[11]? = some (.ref P13)) (n13 : K.lookup P13 = none) (o13 : PySem.W.codeHdIn K c13 P13 = true)
    (a14 : PySem.W.nsIn K mainGlobals "check_circuit" = some (some (.ref f14))) (l14 : K.lookup f14 = some ⟨oc14, od14, .func (PySem.W.fnOf "check_circuit" "check_circuit" (defArgs sCheckCircuit) (defBody sCheckCircuit) (defScope sCheckCircuit) .none kV14 dc14 pm14 an14 (.ref c14) ct14), sl14⟩) (c14' : PySem.W.codeIn K (.ref c14) "check_circuit" = true) (k14 : PySem.W.keepIn K (.ref f14) = true)
    (a15 : PySem.W.nsIn K mainGlobals "gate_leads" = some (some (.ref f15))) (l15 : K.lookup f15 = some ⟨oc15, od15, .func (PySem.W.fnOf "gate_leads" "gate_leads" (defArgs sGateLeads) (defBody sGateLeads) (defScope sGateLeads) .none kV15 dc15 pm15 an15 cd15 ct15), sl15⟩) (c15' : PySem.W.codeIn K cd15 "gate_leads" = true) (k15 : PySem.W.keepIn K (.ref f15) = true)
    (a16 : PySem.W.nsIn K mainGlobals "ringed" = some (some (.ref f16))) (l16 : K.lookup f16 = some ⟨oc16, od16, .func (PySem.W.fnOf "ringed" "ringed" (defArgs sRinged) (defBody sRinged) (defScope sRinged) .none kV16 dc16 pm16 an16 cd16 ct16), sl16⟩) (c16' : PySem.W.codeIn K cd16 "ringed" = true) (k16 : PySem.W.keepIn K (.ref f16) = true)
    (a17 : PySem.W.nsIn K mainGlobals "is_ringless" = some (some (.ref f17))) (l17 : K.lookup f17 = some ⟨oc17, od17, .func (PySem.W.fnOf "is_ringless" "is_ringless" (defArgs sRingless) (defBody sRingless) (defScope sRingless) .none kV17 dc17 pm17 an17 cd17 ct17), sl17⟩) (c17' : PySem.W.codeIn K cd17 "is_ringless" = true) (k17 : PySem.W.keepIn K (.ref f17) = true)
    (a18 : PySem.W.nsIn K mainGlobals "ring_gates" = some (some (.ref f18))) (l18 : K.lookup f18 = some ⟨oc18, od18, .func (PySem.W.fnOf "ring_gates" "ring_gates" (defArgs sRingGates) (defBody sRingGates) (defScope sRingGates) .none kV18 dc18 pm18 an18 cd18 ct18), sl18⟩) (c18' : PySem.W.codeIn K cd18 "ring_gates" = true) (k18 : PySem.W.keepIn K (.ref f18) = true)
    (a19 : PySem.W.nsIn K mainGlobals "rings_told" = some (some (.ref f19))) (l19 : K.lookup f19 = some ⟨oc19, od19, .func (PySem.W.fnOf "rings_told" "rings_told" (defArgs sRTold) (defBody sRTold) (defScope sRTold) .none kV19 dc19 pm19 an19 cd19 ct19), sl19⟩) (c19' : PySem.W.codeIn K cd19 "rings_told" = true) (k19 : PySem.W.keepIn K (.ref f19) = true)
    (a20 : PySem.W.nsIn K mainGlobals "rings_of" = some (some (.ref f20))) (l20 : K.lookup f20 = some ⟨oc20, od20, .func (PySem.W.fnOf "rings_of" "rings_of" (defArgs sROf) (defBody sROf) (defScope sROf) .none kV20 dc20 pm20 an20 cd20 ct20), sl20⟩) (c20' : PySem.W.codeIn K cd20 "rings_of" = true) (k20 : PySem.W.keepIn K (.ref f20) = true)
    (a21 : PySem.W.nsIn K mainGlobals "_law_begun" = some (some (.ref f21))) (l21 : K.lookup f21 = some ⟨oc21, od21, .func (PySem.W.fnOf "_law_begun" "_law_begun" (defArgs sBegun) (defBody sBegun) (defScope sBegun) .none kV21 dc21 pm21 an21 cd21 ct21), sl21⟩) (c21' : PySem.W.codeIn K cd21 "_law_begun" = true) (k21 : PySem.W.keepIn K (.ref f21) = true)
    (a22 : PySem.W.nsIn K mainGlobals "_law_draw" = some (some (.ref f22))) (l22 : K.lookup f22 = some ⟨oc22, od22, .func (PySem.W.fnOf "_law_draw" "_law_draw" (defArgs sDraw) (defBody sDraw) (defScope sDraw) .none kV22 dc22 pm22 an22 cd22 ct22), sl22⟩) (c22' : PySem.W.codeIn K cd22 "_law_draw" = true) (k22 : PySem.W.keepIn K (.ref f22) = true)
    (a23 : PySem.W.nsIn K mainGlobals "_law_pick" = some (some (.ref f23))) (l23 : K.lookup f23 = some ⟨oc23, od23, .func (PySem.W.fnOf "_law_pick" "_law_pick" (defArgs sPick) (defBody sPick) (defScope sPick) .none kV23 dc23 pm23 an23 cd23 ct23), sl23⟩) (c23' : PySem.W.codeIn K cd23 "_law_pick" = true) (k23 : PySem.W.keepIn K (.ref f23) = true)
    (a24 : PySem.W.nsIn K mainGlobals "_law_caught" = some (some (.ref f24))) (l24 : K.lookup f24 = some ⟨oc24, od24, .func (PySem.W.fnOf "_law_caught" "_law_caught" (defArgs sCaught) (defBody sCaught) (defScope sCaught) .none kV24 dc24 pm24 an24 cd24 ct24), sl24⟩) (c24' : PySem.W.codeIn K cd24 "_law_caught" = true) (k24 : PySem.W.keepIn K (.ref f24) = true)
    (a25 : PySem.W.nsIn K mainGlobals "_law_power" = some (some (.ref f25))) (l25 : K.lookup f25 = some ⟨oc25, od25, .func (PySem.W.fnOf "_law_power" "_law_power" (defArgs sPower) (defBody sPower) (defScope sPower) .none kV25 dc25 pm25 an25 cd25 ct25), sl25⟩) (c25' : PySem.W.codeIn K cd25 "_law_power" = true) (k25 : PySem.W.keepIn K (.ref f25) = true)
    (a26 : PySem.W.nsIn K mainGlobals "_law_some_source" = some (some (.ref f26))) (l26 : K.lookup f26 = some ⟨oc26, od26, .func (PySem.W.fnOf "_law_some_source" "_law_some_source" (defArgs sSomeSource) (defBody sSomeSource) (defScope sSomeSource) .none kV26 dc26 pm26 an26 cd26 ct26), sl26⟩) (c26' : PySem.W.codeIn K cd26 "_law_some_source" = true) (k26 : PySem.W.keepIn K (.ref f26) = true)
    (a27 : PySem.W.nsIn K mainGlobals "_law_table" = some (some (.ref f27))) (l27 : K.lookup f27 = some ⟨oc27, od27, .func (PySem.W.fnOf "_law_table" "_law_table" (defArgs sLTable) (defBody sLTable) (defScope sLTable) .none kV27 dc27 pm27 an27 cd27 ct27), sl27⟩) (c27' : PySem.W.codeIn K cd27 "_law_table" = true) (k27 : PySem.W.keepIn K (.ref f27) = true)
    (a28 : PySem.W.nsIn K mainGlobals "_law_circuit" = some (some (.ref f28))) (l28 : K.lookup f28 = some ⟨oc28, od28, .func (PySem.W.fnOf "_law_circuit" "_law_circuit" (defArgs sLCircuit) (defBody sLCircuit) (defScope sLCircuit) .none kV28 dc28 pm28 an28 cd28 ct28), sl28⟩) (c28' : PySem.W.codeIn K cd28 "_law_circuit" = true) (k28 : PySem.W.keepIn K (.ref f28) = true)
    (a29 : PySem.W.nsIn K mainGlobals "_law_leans" = some (some (.ref f29))) (l29 : K.lookup f29 = some ⟨oc29, od29, .func (PySem.W.fnOf "_law_leans" "_law_leans" (defArgs sLeans) (defBody sLeans) (defScope sLeans) .none kV29 dc29 pm29 an29 cd29 ct29), sl29⟩) (c29' : PySem.W.codeIn K cd29 "_law_leans" = true) (k29 : PySem.W.keepIn K (.ref f29) = true)
    (a30 : PySem.W.nsIn K mainGlobals "_law_rings" = some (some (.ref f30))) (l30 : K.lookup f30 = some ⟨oc30, od30, .func (PySem.W.fnOf "_law_rings" "_law_rings" (defArgs sLRings) (defBody sLRings) (defScope sLRings) .none kV30 dc30 pm30 an30 cd30 ct30), sl30⟩) (c30' : PySem.W.codeIn K cd30 "_law_rings" = true) (k30 : PySem.W.keepIn K (.ref f30) = true)
    (a31 : PySem.W.nsIn K mainGlobals "_law_down" = some (some (.ref f31))) (l31 : K.lookup f31 = some ⟨oc31, od31, .func (PySem.W.fnOf "_law_down" "_law_down" (defArgs sDown) (defBody sDown) (defScope sDown) .none kV31 dc31 pm31 an31 cd31 ct31), sl31⟩) (c31' : PySem.W.codeIn K cd31 "_law_down" = true) (k31 : PySem.W.keepIn K (.ref f31) = true)
    (a32 : PySem.W.nsIn K mainGlobals "_law_ringed" = some (some (.ref f32))) (l32 : K.lookup f32 = some ⟨oc32, od32, .func (PySem.W.fnOf "_law_ringed" "_law_ringed" (defArgs sRinged49) (defBody sRinged49) (defScope sRinged49) .none kV32 dc32 pm32 an32 cd32 ct32), sl32⟩) (c32' : PySem.W.codeIn K cd32 "_law_ringed" = true) (k32 : PySem.W.keepIn K (.ref f32) = true)
    (a33 : PySem.W.nsIn K mainGlobals "_law_bad_circuit" = some (some (.ref f33))) (l33 : K.lookup f33 = some ⟨oc33, od33, .func (PySem.W.fnOf "_law_bad_circuit" "_law_bad_circuit" (defArgs sBadC) (defBody sBadC) (defScope sBadC) .none kV33 dc33 pm33 an33 cd33 ct33), sl33⟩) (c33' : PySem.W.codeIn K cd33 "_law_bad_circuit" = true) (k33 : PySem.W.keepIn K (.ref f33) = true)
    (a34 : PySem.W.nsIn K mainGlobals "_law_long" = some (some (.ref f34))) (l34 : K.lookup f34 = some ⟨oc34, od34, .func (PySem.W.fnOf "_law_long" "_law_long" (defArgs sLong) (defBody sLong) (defScope sLong) .none kV34 dc34 pm34 an34 cd34 ct34), sl34⟩) (c34' : PySem.W.codeIn K cd34 "_law_long" = true) (k34 : PySem.W.keepIn K (.ref f34) = true)
    (a35 : PySem.W.nsIn K mainGlobals "law" = some (some (.ref f35))) (l35 : K.lookup f35 = some ⟨oc35, od35, .func (PySem.W.fnOf "law" "law" (defArgs sLaw) (defBody sLaw) (defScope sLaw) .none kV35 dc35 pm35 an35 (.ref c35) ct35), sl35⟩) (c35' : PySem.W.codeIn K (.ref c35) "law" = true) (k35 : PySem.W.keepIn K (.ref f35) = true)
    (x35 : K.lookup c35 = some ⟨ce35, cdd35, .fields vs35, csl35⟩) (p35 : vs35[11]? = some (.ref P35)) (n35 : K.lookup P35 = none) (o35 : PySem.W.codeHdIn K c35 P35 = true)
    (pd : P35 ∉ [P4, P12, P13])
    (z_int : PySem.W.nsIn K mainGlobals "int" = some none)
    (z_len : PySem.W.nsIn K mainGlobals "len" = some none)
    (z_abs : PySem.W.nsIn K mainGlobals "abs" = some none)
    (z_all : PySem.W.nsIn K mainGlobals "all" = some none)
    (z_isinstance : PySem.W.nsIn K mainGlobals "isinstance" = some none)
    (z_list : PySem.W.nsIn K mainGlobals "list" = some none)
    (z_tuple : PySem.W.nsIn K mainGlobals "tuple" = some none)
    (z_bool : PySem.W.nsIn K mainGlobals "bool" = some none)
    (z_range : PySem.W.nsIn K mainGlobals "range" = some none)
    (z_min : PySem.W.nsIn K mainGlobals "min" = some none)
    (z_sorted : PySem.W.nsIn K mainGlobals "sorted" = some none)
    (z_repr : PySem.W.nsIn K mainGlobals "repr" = some none)
    (z_str : PySem.W.nsIn K mainGlobals "str" = some none)
    (z_enumerate : PySem.W.nsIn K mainGlobals "enumerate" = some none)
    (z_reversed : PySem.W.nsIn K mainGlobals "reversed" = some none)
    (v0 : PySem.W.nsIn K mainGlobals "MOST_INPUTS" = some (some (.int 8 tk0)))
    (v1 : PySem.W.nsIn K mainGlobals "MOST_REGISTERS" = some (some (.int 60 tk1)))
    (v2 : PySem.W.nsIn K mainGlobals "MOST_GATES" = some (some (.int 2000 tk2)))
    (v3 : PySem.W.nsIn K mainGlobals "MOST_OUTPUTS" = some (some (.int 60 tk3)))
    (v4 : PySem.W.nsIn K mainGlobals "MOST_SOURCES" = some (some (.int 4 tk4)))
    (aS : PySem.W.nsIn K mainGlobals "RestError" = some (some (.ref CS)))
    (aCC : PySem.W.nsIn K mainGlobals "BadCircuit" = some (some (.ref CC))) (xCC : PySem.W.excIn K CC [.type "ValueError", .type "Exception", .type "BaseException", .type "object"] "ValueError.__new__" = true) (kCC : PySem.W.keepIn K (.ref CC) = true) (bCC : PySem.W.subIn K (.ref CC) (.type "BaseException") = some true) (tCC : PySem.W.typeIn K (.ref CC) = some (.type "type"))
    (eCC : PySem.W.exmOne K (.ref CC) (.ref CS) = some true) (iCC : PySem.W.kitOne K (.ref CC) (.ref CC) = some true) (qCC1 : PySem.W.findIn K (.ref CC) "__getattribute__" = some (some (.builtin "BaseException.__getattribute__"))) (qCC2 : PySem.W.findIn K (.ref CC) "__getattr__" = some none) (qCC3 : PySem.W.hasDictIn K CC = true)
    (qCC4 : PySem.W.findIn K (.ref CC) "__class__" = some (some (.builtin "object.__class__"))) (qCC5 : PySem.W.mroIn K CC (.type "object") = some true)
    (r1 : PySem.W.specialIn K (.builtin "object.__class__") "__get__" = some (some (.builtin "getset_descriptor.__get__"))) (r2 : PySem.W.takesIn K (.builtin "object.__class__") = some true) :
    GE.LawAtG l w K CX0 15 63 "script" mg fa h := by
  have e := hfa.symm.trans (PySem.W.mg_of X G a35)
  cases e
  have F0 := fun_mk (st := sIsNumber) l0 c0' k0
  have b0 := F0.binds (ps := ["thing"]) fun _ _ _ _ _ _ us hl => match us, hl with | [_], _ => rfl
  have g_0 := PySem.W.mg_of X G a0
  have F1 := fun_mk (st := sIsBelow) l1 c1' k1
  have b1 := F1.binds (ps := ["thing", "limit"]) fun _ _ _ _ _ _ us hl => match us, hl with | [_, _], _ => rfl
  have g_1 := PySem.W.mg_of X G a1
  have F2 := fun_mk (st := sIsBit) l2 c2' k2
  have b2 := F2.binds (ps := ["thing"]) fun _ _ _ _ _ _ us hl => match us, hl with | [_], _ => rfl
  have g_2 := PySem.W.mg_of X G a2
  have F3 := fun_mk (st := sIsTupleOf) l3 c3' k3
  have b3 := F3.binds (ps := ["thing", "many"]) fun _ _ _ _ _ _ us hl => match us, hl with | [_, _], _ => rfl
  have g_3 := PySem.W.mg_of X G a3
  have F4 := fun_mk (st := sIsBits) l4 c4' k4
  have b4 := F4.binds (ps := ["thing", "many"]) fun _ _ _ _ _ _ us hl => match us, hl with | [_, _], _ => rfl
  have g_4 := PySem.W.mg_of X G a4
  have F5 := fun_mk (st := sKnots) l5 c5' k5
  have b5 := F5.binds (ps := ["leads"]) fun _ _ _ _ _ _ us hl => match us, hl with | [_], _ => rfl
  have g_5 := PySem.W.mg_of X G a5
  have F6 := fun_mk (st := sLeaving) l6 c6' k6
  have b6 := F6.binds (ps := ["leads"]) fun _ _ _ _ _ _ us hl => match us, hl with | [_], _ => rfl
  have g_6 := PySem.W.mg_of X G a6
  have F7 := fun_mk (st := sTurned) l7 c7' k7
  have b7 := F7.binds (ps := ["leads"]) fun _ _ _ _ _ _ us hl => match us, hl with | [_], _ => rfl
  have g_7 := PySem.W.mg_of X G a7
  have F8 := fun_mk (st := sGathered) l8 c8' k8
  have b8 := F8.binds (ps := ["leads", "start", "taken"]) fun _ _ _ _ _ _ us hl => match us, hl with | [_, _, _], _ => rfl
  have g_8 := PySem.W.mg_of X G a8
  have F9 := fun_mk (st := sUpTo) l9 c9' k9
  have b9 := F9.binds (ps := ["thing", "most"]) fun _ _ _ _ _ _ us hl => match us, hl with | [_, _], _ => rfl
  have g_9 := PySem.W.mg_of X G a9
  have F10 := fun_mk (st := sIsSource) l10 c10' k10
  have b10 := F10.binds (ps := ["thing", "sizes"]) fun _ _ _ _ _ _ us hl => match us, hl with | [_, _], _ => rfl
  have g_10 := PySem.W.mg_of X G a10
  have F11 := fun_mk (st := sIsRegister) l11 c11' k11
  have b11 := F11.binds (ps := ["thing", "sizes"]) fun _ _ _ _ _ _ us hl => match us, hl with | [_, _], _ => rfl
  have g_11 := PySem.W.mg_of X G a11
  have F12 := fun_mk (st := sIsGate) l12 c12' k12
  have b12 := F12.binds (ps := ["thing", "sizes"]) fun _ _ _ _ _ _ us hl => match us, hl with | [_, _], _ => rfl
  have g_12 := PySem.W.mg_of X G a12
  have F13 := fun_mk (st := sIsCircuit) l13 c13' k13
  have b13 := F13.binds (ps := ["thing"]) fun _ _ _ _ _ _ us hl => match us, hl with | [_], _ => rfl
  have g_13 := PySem.W.mg_of X G a13
  have F14 := fun_mk (st := sCheckCircuit) l14 c14' k14
  have b14 := F14.binds (ps := ["circuit"]) fun _ _ _ _ _ _ us hl => match us, hl with | [_], _ => rfl
  have g_14 := PySem.W.mg_of X G a14
  have F15 := fun_mk (st := sGateLeads) l15 c15' k15
  have b15 := F15.binds (ps := ["circuit"]) fun _ _ _ _ _ _ us hl => match us, hl with | [_], _ => rfl
  have g_15 := PySem.W.mg_of X G a15
  have F16 := fun_mk (st := sRinged) l16 c16' k16
  have b16 := F16.binds (ps := ["circuit"]) fun _ _ _ _ _ _ us hl => match us, hl with | [_], _ => rfl
  have g_16 := PySem.W.mg_of X G a16
  have F17 := fun_mk (st := sRingless) l17 c17' k17
  have b17 := F17.binds (ps := ["circuit"]) fun _ _ _ _ _ _ us hl => match us, hl with | [_], _ => rfl
  have g_17 := PySem.W.mg_of X G a17
  have F18 := fun_mk (st := sRingGates) l18 c18' k18
  have b18 := F18.binds (ps := ["circuit"]) fun _ _ _ _ _ _ us hl => match us, hl with | [_], _ => rfl
  have g_18 := PySem.W.mg_of X G a18
  have F19 := fun_mk (st := sRTold) l19 c19' k19
  have b19 := F19.binds (ps := ["circuit"]) fun _ _ _ _ _ _ us hl => match us, hl with | [_], _ => rfl
  have g_19 := PySem.W.mg_of X G a19
  have F20 := fun_mk (st := sROf) l20 c20' k20
  have b20 := F20.binds (ps := ["circuit"]) fun _ _ _ _ _ _ us hl => match us, hl with | [_], _ => rfl
  have g_20 := PySem.W.mg_of X G a20
  have F21 := fun_mk (st := sBegun) l21 c21' k21
  have b21 := F21.binds (ps := ["script"]) fun _ _ _ _ _ _ us hl => match us, hl with | [_], _ => rfl
  have g_21 := PySem.W.mg_of X G a21
  have F22 := fun_mk (st := sDraw) l22 c22' k22
  have b22 := F22.binds (ps := ["state", "size_here"]) fun _ _ _ _ _ _ us hl => match us, hl with | [_, _], _ => rfl
  have g_22 := PySem.W.mg_of X G a22
  have F23 := fun_mk (st := sPick) l23 c23' k23
  have b23 := F23.binds (ps := ["state", "several"]) fun _ _ _ _ _ _ us hl => match us, hl with | [_, _], _ => rfl
  have g_23 := PySem.W.mg_of X G a23
  have F24 := fun_mk (st := sCaught) l24 c24' k24
  have b24 := F24.binds (ps := ["work"]) fun _ _ _ _ _ _ us hl => match us, hl with | [_], _ => rfl
  have g_24 := PySem.W.mg_of X G a24
  have F25 := fun_mk (st := sPower) l25 c25' k25
  have b25 := F25.binds (ps := ["number"]) fun _ _ _ _ _ _ us hl => match us, hl with | [_], _ => rfl
  have g_25 := PySem.W.mg_of X G a25
  have F26 := fun_mk (st := sSomeSource) l26 c26' k26
  have b26 := F26.binds (ps := ["state", "inputs", "registers", "gates"]) fun _ _ _ _ _ _ us hl => match us, hl with | [_, _, _, _], _ => rfl
  have g_26 := PySem.W.mg_of X G a26
  have F27 := fun_mk (st := sLTable) l27 c27' k27
  have b27 := F27.binds (ps := ["state", "size"]) fun _ _ _ _ _ _ us hl => match us, hl with | [_, _], _ => rfl
  have g_27 := PySem.W.mg_of X G a27
  have F28 := fun_mk (st := sLCircuit) l28 c28' k28
  have b28 := F28.binds (ps := ["state", "most", "branches"]) fun _ _ _ _ _ _ us hl => match us, hl with | [_, _, _], _ => rfl
  have g_28 := PySem.W.mg_of X G a28
  have F29 := fun_mk (st := sLeans) l29 c29' k29
  have b29 := F29.binds (ps := ["circuit"]) fun _ _ _ _ _ _ us hl => match us, hl with | [_], _ => rfl
  have g_29 := PySem.W.mg_of X G a29
  have F30 := fun_mk (st := sLRings) l30 c30' k30
  have b30 := F30.binds (ps := ["circuit"]) fun _ _ _ _ _ _ us hl => match us, hl with | [_], _ => rfl
  have g_30 := PySem.W.mg_of X G a30
  have F31 := fun_mk (st := sDown) l31 c31' k31
  have b31 := F31.binds (ps := ["circuit"]) fun _ _ _ _ _ _ us hl => match us, hl with | [_], _ => rfl
  have g_31 := PySem.W.mg_of X G a31
  have F32 := fun_mk (st := sRinged49) l32 c32' k32
  have b32 := F32.binds (ps := ["state", "most"]) fun _ _ _ _ _ _ us hl => match us, hl with | [_, _], _ => rfl
  have g_32 := PySem.W.mg_of X G a32
  have F33 := fun_mk (st := sBadC) l33 c33' k33
  have b33 := F33.binds (ps := ["state"]) fun _ _ _ _ _ _ us hl => match us, hl with | [_], _ => rfl
  have g_33 := PySem.W.mg_of X G a33
  have F34 := fun_mk (st := sLong) l34 c34' k34
  have b34 := F34.binds (ps := ["state"]) fun _ _ _ _ _ _ us hl => match us, hl with | [_], _ => rfl
  have g_34 := PySem.W.mg_of X G a34
  have F35 := fun_mk (st := sLaw) l35 c35' k35
  have b35 := F35.binds (ps := ["script"]) fun _ _ _ _ _ _ us hl => match us, hl with | [_], _ => rfl
  have g_35 := PySem.W.mg_of X G a35
  have y_int := PySem.W.mg_none_of X G z_int
  have y_len := PySem.W.mg_none_of X G z_len
  have y_abs := PySem.W.mg_none_of X G z_abs
  have y_all := PySem.W.mg_none_of X G z_all
  have y_isinstance := PySem.W.mg_none_of X G z_isinstance
  have y_list := PySem.W.mg_none_of X G z_list
  have y_tuple := PySem.W.mg_none_of X G z_tuple
  have y_bool := PySem.W.mg_none_of X G z_bool
  have y_range := PySem.W.mg_none_of X G z_range
  have y_min := PySem.W.mg_none_of X G z_min
  have y_sorted := PySem.W.mg_none_of X G z_sorted
  have y_repr := PySem.W.mg_none_of X G z_repr
  have y_str := PySem.W.mg_none_of X G z_str
  have y_enumerate := PySem.W.mg_none_of X G z_enumerate
  have y_reversed := PySem.W.mg_none_of X G z_reversed
  have ECC : ExcC K CC := excC_of qCC1 qCC2 bCC qCC3 qCC4 r1 r2 qCC5
  have hw_rings_of := kb_rings_of F20
  refine ⟨PySem.W.fnOf "law" "law" (defArgs sLaw) (defBody sLaw) (defScope sLaw) .none kV35 dc35 pm35 an35 (.ref c35) ct35, [(c35, P35), (c4, P4), (c12, P12), (c13, P13)], spLaw49 K [P4, P12, P13] P35, fun p hp => ?_, fun p hp => ?_, fun p hp => ?_, fun s u => .of_eq rfl, fun H a ns hl _ hT hS => ?_, fun base KB GB TB => ?_⟩
  · simp only [List.mem_cons, List.not_mem_nil, or_false] at hp
    rcases hp with rfl | rfl | rfl | rfl
    · exact own _ m35 _ g_35 c35 P35 _ _ _ _ _ _ l35 rfl rfl x35 p35
    · exact own _ m4 _ g_4 c4 P4 _ _ _ _ _ _ l4 rfl rfl x4 p4
    · exact own _ m12 _ g_12 c12 P12 _ _ _ _ _ _ l12 rfl rfl x12 p12
    · exact own _ m13 _ g_13 c13 P13 _ _ _ _ _ _ l13 rfl rfl x13 p13
  · simp only [List.mem_cons, List.not_mem_nil, or_false] at hp
    rcases hp with rfl | rfl | rfl | rfl
    · exact n35
    · exact n4
    · exact n12
    · exact n13
  · simp only [List.mem_cons, List.not_mem_nil, or_false] at hp
    rcases hp with rfl | rfl | rfl | rfl
    · exact PySem.W.codeHd_of_K X o35
    · exact PySem.W.codeHd_of_K X o4
    · exact PySem.W.codeHd_of_K X o12
    · exact PySem.W.codeHd_of_K X o13
  · have hP : ∀ P ∈ [P35, P4, P12, P13], H P = some (.tbl #[]) := fun P hP => by
      simp only [List.mem_cons, List.not_mem_nil, or_false] at hP
      rcases hP with e | e | e | e
      · rw [e]
        exact hT (c35, P35) (by simp)
      · rw [e]
        exact hT (c4, P4) (by simp)
      · rw [e]
        exact hT (c12, P12) (by simp)
      · rw [e]
        exact hT (c13, P13) (by simp)
    exact ⟨a, ns, rfl, hS, hl, fun P h => ⟨#[], hP P (List.mem_cons_of_mem _ h), True.intro⟩, LamX.TabS.nil (hP _ List.mem_cons_self), pd, fun _ => rfl⟩
  · have TL := TB (c35, P35) (by simp)
    have T4 := TB (c4, P4) (by simp)
    have U4 : GxR.TabB base mg c4 P4 := ⟨T4.code, T4.bm, T4.gP⟩
    have T12 := TB (c12, P12) (by simp)
    have U12 : GxR.TabB base mg c12 P12 := ⟨T12.code, T12.bm, T12.gP⟩
    have T13 := TB (c13, P13) (by simp)
    have U13 : GxR.TabB base mg c13 P13 := ⟨T13.code, T13.bm, T13.gP⟩
    have G0 := ok_number (P := l.prog) (w := w) (mg := mg) (base := base) F0 y_isinstance y_int y_bool
    have G1 := ok_below F1 G0 F0.kp b0 g_0
    have G2 := ok_bit F2 G1 F1.kp b1 g_1
    have G3 := ok_tupleOf (P := l.prog) (w := w) (mg := mg) (base := base) F3 y_isinstance y_tuple y_len
    have G4 := ok_bits (TT := [P4, P12, P13]) F4 rfl U4 (by simp) y_all G3 F3.kp b3 g_3 G2 F2.kp b2 g_2
    have G6 := ok_leaving (P := l.prog) (w := w) (mg := mg) (base := base) F6 y_len y_range
    have G7 := ok_turned (P := l.prog) (w := w) (mg := mg) (base := base) F7 y_enumerate
    have G8 := ok_gathered (P := l.prog) (w := w) (mg := mg) (base := base) F8
    have G5 := ok_knots F5 y_len y_reversed y_sorted G7 F7.kp b7 g_7 G6 F6.kp b6 g_6 G8 F8.kp b8 g_8
    have G9 := ok_upTo (P := l.prog) (w := w) (mg := mg) (base := base) F9 y_isinstance y_tuple y_len
    have G10 := ok_sourceD F10 G3 F3.kp b3 g_3 G1 F1.kp b1 g_1 G2 F2.kp b2 g_2
    have G11 := ok_registerD F11 G3 F3.kp b3 g_3 G10 F10.kp b10 g_10 G2 F2.kp b2 g_2
    have G12 := ok_gateD (TT := [P4, P12, P13]) F12 rfl U12 (by simp) y_all y_len (PySem.W.mg_of X G v4) G3 F3.kp b3 g_3 G9 F9.kp b9 g_9 G4 F4.kp b4 g_4 G10 F10.kp b10 g_10
    have G13 := ok_circuitD (TT := [P4, P12, P13]) F13 rfl U13 (by simp) y_all y_len (PySem.W.mg_of X G v0) (PySem.W.mg_of X G v1) (PySem.W.mg_of X G v2) (PySem.W.mg_of X G v3) G3 F3.kp b3 g_3 G9 F9.kp b9 g_9 G1 F1.kp b1 g_1 G11 F11.kp b11 g_11 G12 F12.kp b12 g_12 G10 F10.kp b10 g_10
    have G14 := ok_checkCD (TT := [P4, P12, P13]) F14 rfl xCC (PySem.W.mg_of X G aCC) kCC bCC tCC G13 F13.kp b13 g_13
    have G15 := ok_gLeads (P := l.prog) (w := w) (mg := mg) (base := base) F15
    have G16 := ok_ringed F16 y_len y_sorted G15 F15.kp b15 g_15 G5 F5.kp b5 g_5
    have G17 := ok_ringless F17 G14 F14.kp b14 g_14 G16 F16.kp b16 g_16
    have G18 := ok_ringGates F18 y_tuple G14 F14.kp b14 g_14 G16 F16.kp b16 g_16
    have G21 := ok_begun (P := l.prog) (w := w) (mg := mg) (base := base) F21 y_abs
    have G22 := ok_draw (P := l.prog) (w := w) (mg := mg) (base := base) F22 y_int y_len
    have G23 := ok_pick F23 y_len G22 F22.kp b22 g_22
    have G25 := ok_power (P := l.prog) (w := w) (mg := mg) (base := base) F25 y_range
    have G26 := ok_someS F26 ⟨_, _, G22, F22.kp, b22, g_22⟩ ⟨_, _, G23, F23.kp, b23, g_23⟩
    have G27 := ok_ltable F27 y_tuple y_range G22 F22.kp b22 g_22 G25 F25.kp b25 g_25
    have G28 := ok_lcirc F28 y_range y_min y_tuple ⟨_, _, G22, F22.kp, b22, g_22⟩ ⟨_, _, G23, F23.kp, b23, g_23⟩ ⟨_, _, G26, F26.kp, b26, g_26⟩ ⟨_, _, G27, F27.kp, b27, g_27⟩
    have G19 := ok_rtold (P := l.prog) (w := w) (mg := mg) (base := base) F19 y_len y_reversed G15 F15.kp b15 g_15 G5 F5.kp b5 g_5
    have G20 := ok_rof F20 y_tuple y_sorted G14 F14.kp b14 g_14 G19 F19.kp b19 g_19
    have G29 := ok_leans (P := l.prog) (w := w) (mg := mg) (base := base) F29 y_range y_len y_list
    have G30 := ok_lrings F30 y_range y_len y_tuple y_enumerate y_sorted G29 F29.kp b29 g_29
    have G31 := ok_down (P := l.prog) (w := w) (mg := mg) (base := base) F31 y_range y_len y_list
    have G32 := ok_ringed49 F32 y_int y_len y_enumerate y_tuple ⟨_, _, G28, F28.kp, b28, g_28⟩ ⟨_, _, G22, F22.kp, b22, g_22⟩ ⟨_, _, G23, F23.kp, b23, g_23⟩
    have G33 := ok_badC F33 G23 F23.kp b23 g_23
    have G34 := ok_long F34 y_int y_range y_tuple y_sorted y_list ⟨_, _, G22, F22.kp, b22, g_22⟩ ⟨_, _, G20, F20.kp, b20, g_20⟩
    have LF : LawF49 l.prog w K mg base [P4, P12, P13] CC CS := {
      begun := ⟨_, _, G21, F21.kp, b21, g_21⟩
      circ := ⟨_, _, G32, F32.kp, b32, g_32⟩
      long := ⟨_, _, G34, F34.kp, b34, g_34⟩
      rings := ⟨_, _, G30, F30.kp, b30, g_30⟩
      down := ⟨_, _, G31, F31.kp, b31, g_31⟩
      bad := ⟨_, _, G33, F33.kp, b33, g_33⟩
      ro := ⟨_, _, G20, F20.kp, b20, g_20, hw_rings_of⟩
      rl := ⟨_, _, G17, F17.kp, b17, g_17⟩
      rg := ⟨_, _, G18, F18.kp, b18, g_18⟩
      caught := ⟨_, _, F24, F24.kp, b24, g_24⟩
      gS := PySem.W.mg_of X G aS
      gC := PySem.W.mg_of X G aCC
      eC := eCC
      cC := ECC
      iC := iCC }
    exact ok_law49 F35 rfl TL LF y_range y_min y_len y_repr y_tuple y_isinstance y_list y_sorted
end K02

open PySem PySem.W PyProof.Rows
set_option Elab.async false
set_option maxRecDepth 100000 in
set_option maxHeartbeats 0 in
theorem PySem.Challenge.cw_restsure_k49_rings_told_holds : PySem.Challenge.rw_restsure_k49_rings_told.Holds := by
  w_on; o_law; k_head; (case hw => w_witness2)
  k_fill
  refine GE.walk_tabsG (l := PySem.Challenge.rw_restsure_k49_rings_told) (n := 63) (k := 15) (x := "script") (CX := fun _ => L2.CX0) ["is_bits", "is_gate", "is_circuit", "law"] rfl (by decide) rfl ⟨rfl, by decide, by decide⟩ (by decide +kernel) (fun w h Y => PySem.W.km_in_of Y) ?F (fun _ _ _ _ _ z => z)
  case F =>
    intro w mg fa h Y KX G hmg own
    refine' K02.all_mk KX G hmg own (by simp) (by simp) (by simp) (by simp) ?a0 ?l0 ?c0' ?k0 ?a1 ?l1 ?c1' ?k1 ?a2 ?l2 ?c2' ?k2 ?a3 ?l3 ?c3' ?k3 ?a4 ?l4 ?c4' ?k4 ?x4 ?p4 ?n4 ?o4 ?a5 ?l5 ?c5' ?k5 ?a6 ?l6 ?c6' ?k6 ?a7 ?l7 ?c7' ?k7 ?a8 ?l8 ?c8' ?k8 ?a9 ?l9 ?c9' ?k9 ?a10 ?l10 ?c10' ?k10 ?a11 ?l11 ?c11' ?k11 ?a12 ?l12 ?c12' ?k12 ?x12 ?p12 ?n12 ?o12 ?a13 ?l13 ?c13' ?k13 ?x13 ?p13 ?n13 ?o13 ?a14 ?l14 ?c14' ?k14 ?a15 ?l15 ?c15' ?k15 ?a16 ?l16 ?c16' ?k16 ?a17 ?l17 ?c17' ?k17 ?a18 ?l18 ?c18' ?k18 ?a19 ?l19 ?c19' ?k19 ?a20 ?l20 ?c20' ?k20 ?a21 ?l21 ?c21' ?k21 ?a22 ?l22 ?c22' ?k22 ?a23 ?l23 ?c23' ?k23 ?a24 ?l24 ?c24' ?k24 ?a25 ?l25 ?c25' ?k25 ?a26 ?l26 ?c26' ?k26 ?a27 ?l27 ?c27' ?k27 ?a28 ?l28 ?c28' ?k28 ?a29 ?l29 ?c29' ?k29 ?a30 ?l30 ?c30' ?k30 ?a31 ?l31 ?c31' ?k31 ?a32 ?l32 ?c32' ?k32 ?a33 ?l33 ?c33' ?k33 ?a34 ?l34 ?c34' ?k34 ?a35 ?l35 ?c35' ?k35 ?x35 ?p35 ?n35 ?o35 ?pd ?z_int ?z_len ?z_abs ?z_all ?z_isinstance ?z_list ?z_tuple ?z_bool ?z_range ?z_min ?z_sorted ?z_repr ?z_str ?z_enumerate ?z_reversed ?v0 ?v1 ?v2 ?v3 ?v4 ?aS ?aCC ?xCC ?kCC ?bCC ?tCC ?eCC ?iCC ?qCC1 ?qCC2 ?qCC3 ?qCC4 ?qCC5 ?r1 ?r2
    (case a0 => first | k_is | decide +kernel)
    (case l0 => first | k_is | decide +kernel)
    (case c0' => first | k_is | decide +kernel)
    (case k0 => first | k_is | decide +kernel)
    (case a1 => first | k_is | decide +kernel)
    (case l1 => first | k_is | decide +kernel)
    (case c1' => first | k_is | decide +kernel)
    (case k1 => first | k_is | decide +kernel)
    (case a2 => first | k_is | decide +kernel)
    (case l2 => first | k_is | decide +kernel)
    (case c2' => first | k_is | decide +kernel)
    (case k2 => first | k_is | decide +kernel)
    (case a3 => first | k_is | decide +kernel)
    (case l3 => first | k_is | decide +kernel)
    (case c3' => first | k_is | decide +kernel)
    (case k3 => first | k_is | decide +kernel)
    (case a4 => first | k_is | decide +kernel)
    (case l4 => first | k_is | decide +kernel)
    (case c4' => first | k_is | decide +kernel)
    (case k4 => first | k_is | decide +kernel)
    (case x4 => first | k_is | decide +kernel)
    (case p4 => rfl)
    (case n4 => first | kernel_rfl | rfl)
    (case o4 => first | kernel_rfl | rfl)
    (case a5 => first | k_is | decide +kernel)
    (case l5 => first | k_is | decide +kernel)
    (case c5' => first | k_is | decide +kernel)
    (case k5 => first | k_is | decide +kernel)
    (case a6 => first | k_is | decide +kernel)
    (case l6 => first | k_is | decide +kernel)
    (case c6' => first | k_is | decide +kernel)
    (case k6 => first | k_is | decide +kernel)
    (case a7 => first | k_is | decide +kernel)
    (case l7 => first | k_is | decide +kernel)
    (case c7' => first | k_is | decide +kernel)
    (case k7 => first | k_is | decide +kernel)
    (case a8 => first | k_is | decide +kernel)
    (case l8 => first | k_is | decide +kernel)
    (case c8' => first | k_is | decide +kernel)
    (case k8 => first | k_is | decide +kernel)
    (case a9 => first | k_is | decide +kernel)
    (case l9 => first | k_is | decide +kernel)
    (case c9' => first | k_is | decide +kernel)
    (case k9 => first | k_is | decide +kernel)
    (case a10 => first | k_is | decide +kernel)
    (case l10 => first | k_is | decide +kernel)
    (case c10' => first | k_is | decide +kernel)
    (case k10 => first | k_is | decide +kernel)
    (case a11 => first | k_is | decide +kernel)
    (case l11 => first | k_is | decide +kernel)
    (case c11' => first | k_is | decide +kernel)
    (case k11 => first | k_is | decide +kernel)
    (case a12 => first | k_is | decide +kernel)
    (case l12 => first | k_is | decide +kernel)
    (case c12' => first | k_is | decide +kernel)
    (case k12 => first | k_is | decide +kernel)
    (case x12 => first | k_is | decide +kernel)
    (case p12 => rfl)
    (case n12 => first | kernel_rfl | rfl)
    (case o12 => first | kernel_rfl | rfl)
    (case a13 => first | k_is | decide +kernel)
    (case l13 => first | k_is | decide +kernel)
    (case c13' => first | k_is | decide +kernel)
    (case k13 => first | k_is | decide +kernel)
    (case x13 => first | k_is | decide +kernel)
    (case p13 => rfl)
    (case n13 => first | kernel_rfl | rfl)
    (case o13 => first | kernel_rfl | rfl)
    (case a14 => first | k_is | decide +kernel)
    (case l14 => first | k_is | decide +kernel)
    (case c14' => first | k_is | decide +kernel)
    (case k14 => first | k_is | decide +kernel)
    (case a15 => first | k_is | decide +kernel)
    (case l15 => first | k_is | decide +kernel)
    (case c15' => first | k_is | decide +kernel)
    (case k15 => first | k_is | decide +kernel)
    (case a16 => first | k_is | decide +kernel)
    (case l16 => first | k_is | decide +kernel)
    (case c16' => first | k_is | decide +kernel)
    (case k16 => first | k_is | decide +kernel)
    (case a17 => first | k_is | decide +kernel)
    (case l17 => first | k_is | decide +kernel)
    (case c17' => first | k_is | decide +kernel)
    (case k17 => first | k_is | decide +kernel)
    (case a18 => first | k_is | decide +kernel)
    (case l18 => first | k_is | decide +kernel)
    (case c18' => first | k_is | decide +kernel)
    (case k18 => first | k_is | decide +kernel)
    (case a19 => first | k_is | decide +kernel)
    (case l19 => first | k_is | decide +kernel)
    (case c19' => first | k_is | decide +kernel)
    (case k19 => first | k_is | decide +kernel)
    (case a20 => first | k_is | decide +kernel)
    (case l20 => first | k_is | decide +kernel)
    (case c20' => first | k_is | decide +kernel)
    (case k20 => first | k_is | decide +kernel)
    (case a21 => first | k_is | decide +kernel)
    (case l21 => first | k_is | decide +kernel)
    (case c21' => first | k_is | decide +kernel)
    (case k21 => first | k_is | decide +kernel)
    (case a22 => first | k_is | decide +kernel)
    (case l22 => first | k_is | decide +kernel)
    (case c22' => first | k_is | decide +kernel)
    (case k22 => first | k_is | decide +kernel)
    (case a23 => first | k_is | decide +kernel)
    (case l23 => first | k_is | decide +kernel)
    (case c23' => first | k_is | decide +kernel)
    (case k23 => first | k_is | decide +kernel)
    (case a24 => first | k_is | decide +kernel)
    (case l24 => first | k_is | decide +kernel)
    (case c24' => first | k_is | decide +kernel)
    (case k24 => first | k_is | decide +kernel)
    (case a25 => first | k_is | decide +kernel)
    (case l25 => first | k_is | decide +kernel)
    (case c25' => first | k_is | decide +kernel)
    (case k25 => first | k_is | decide +kernel)
    (case a26 => first | k_is | decide +kernel)
    (case l26 => first | k_is | decide +kernel)
    (case c26' => first | k_is | decide +kernel)
    (case k26 => first | k_is | decide +kernel)
    (case a27 => first | k_is | decide +kernel)
    (case l27 => first | k_is | decide +kernel)
    (case c27' => first | k_is | decide +kernel)
    (case k27 => first | k_is | decide +kernel)
    (case a28 => first | k_is | decide +kernel)
    (case l28 => first | k_is | decide +kernel)
    (case c28' => first | k_is | decide +kernel)
    (case k28 => first | k_is | decide +kernel)
    (case a29 => first | k_is | decide +kernel)
    (case l29 => first | k_is | decide +kernel)
    (case c29' => first | k_is | decide +kernel)
    (case k29 => first | k_is | decide +kernel)
    (case a30 => first | k_is | decide +kernel)
    (case l30 => first | k_is | decide +kernel)
    (case c30' => first | k_is | decide +kernel)
    (case k30 => first | k_is | decide +kernel)
    (case a31 => first | k_is | decide +kernel)
    (case l31 => first | k_is | decide +kernel)
    (case c31' => first | k_is | decide +kernel)
    (case k31 => first | k_is | decide +kernel)
    (case a32 => first | k_is | decide +kernel)
    (case l32 => first | k_is | decide +kernel)
    (case c32' => first | k_is | decide +kernel)
    (case k32 => first | k_is | decide +kernel)
    (case a33 => first | k_is | decide +kernel)
    (case l33 => first | k_is | decide +kernel)
    (case c33' => first | k_is | decide +kernel)
    (case k33 => first | k_is | decide +kernel)
    (case a34 => first | k_is | decide +kernel)
    (case l34 => first | k_is | decide +kernel)
    (case c34' => first | k_is | decide +kernel)
    (case k34 => first | k_is | decide +kernel)
    (case a35 => first | k_is | decide +kernel)
    (case l35 => first | k_is | decide +kernel)
    (case c35' => first | k_is | decide +kernel)
    (case k35 => first | k_is | decide +kernel)
    (case x35 => first | k_is | decide +kernel)
    (case p35 => rfl)
    (case n35 => first | kernel_rfl | rfl)
    (case o35 => first | kernel_rfl | rfl)
    (case pd => decide)
    (case z_int => first | k_is | decide +kernel)
    (case z_len => first | k_is | decide +kernel)
    (case z_abs => first | k_is | decide +kernel)
    (case z_all => first | k_is | decide +kernel)
    (case z_isinstance => first | k_is | decide +kernel)
    (case z_list => first | k_is | decide +kernel)
    (case z_tuple => first | k_is | decide +kernel)
    (case z_bool => first | k_is | decide +kernel)
    (case z_range => first | k_is | decide +kernel)
    (case z_min => first | k_is | decide +kernel)
    (case z_sorted => first | k_is | decide +kernel)
    (case z_repr => first | k_is | decide +kernel)
    (case z_str => first | k_is | decide +kernel)
    (case z_enumerate => first | k_is | decide +kernel)
    (case z_reversed => first | k_is | decide +kernel)
    (case v0 => first | k_is | decide +kernel)
    (case v1 => first | k_is | decide +kernel)
    (case v2 => first | k_is | decide +kernel)
    (case v3 => first | k_is | decide +kernel)
    (case v4 => first | k_is | decide +kernel)
    (case aS => first | k_is | decide +kernel)
    (case aCC => first | k_is | decide +kernel)
    (case xCC => first | k_exc | k_is | decide +kernel)
    (case kCC => first | k_is | decide +kernel)
    (case bCC => first | k_is | decide +kernel)
    (case tCC => first | k_is | decide +kernel)
    (case eCC => first | k_is | rfl | decide +kernel)
    (case iCC => first | k_is | rfl | decide +kernel)
    (case qCC1 => first | k_is | decide +kernel)
    (case qCC2 => first | k_is | decide +kernel)
    (case qCC3 => first | k_is | decide +kernel)
    (case qCC4 => first | k_is | decide +kernel)
    (case qCC5 => first | k_is | decide +kernel)
    (case r1 => first | k_is | decide +kernel)
    (case r2 => first | k_is | decide +kernel)

