import PyProof.Rows.All
import Wide.All
import OpenK.AllK
import Wide.FinOn
import HandS.ForMost
import HandS.AnyAll
import HandS.Nested
import HandS.GenList
import KE.KEqSeq
import HandS.IsInst
import HandS.Flow
import HandS.ForExc
import HandS.Lambda
import HandS.ExcIs
import KE.KDictKeyed
import KE.KDictCopyH
import KE.GoesNew
import KE.GoesMore
import KE.GoesZip
import KE.GoesEnum
import HandS.Sort
import HandS.TupSets
import HandS.Walk
import HandS.TupAny
import HandS.RaiseMore
import HandS.TupMul
import HandS.SetFor
import HandS.SortInts
import HandS.Strs
import HandS.Conv
import HandS.CallLocal
import HandS.Zip
import HandS.EndBits
import HandS.EndTab
import HandS.EndOwn
import PyProof.ReprRoads
import PyProof.Rows.RegFStrParts
import PySem.Challenge.RW_restsure_k03_whole_sure_readings_are_lea
set_option Elab.async false
set_option linter.all false
set_option maxRecDepth 100000
/-! all(e for x in xs), any(e for x in xs): the generator expression's own frame, its element any expression that HandS has rules for (calls too). -/
namespace GX
open PySem PySem.Spec L2
open PyProof.Rows GenW GxR NdefX

/-- only the generators differ -/
def Regen (s t : Shared) : Prop := ∃ G : Array GenState, AllBare G ∧ t = { s with gens := G }

/-- the frame of a generator expression that is walked from the around A, begun at s -/
abbrev gcx (X : Cx) (A : Around) (s : Shared) (H : Hp) (cenv : Env) (fp : List Addr) (pn : List (Addr × Obj)) : Cx :=
  { X with
    A := A.deeper cenv
    s_0 := s
    H_0 := H
    env := cenv
    outer := X.stack
    stack := cenv :: X.stack
    ex := fp
    fn := fun _ => false
    pn := pn
    xe := fun _ _ => False }

theorem over_gen {A : Around} {elt : Expr} {gs : List Comprehension} {sc : Scope} {pos : Pos} {it acc : Value} {env : Env} :
    A.over (.compLoop (.GeneratorExp elt gs sc pos) 0 it acc env) [] = A.deeper env := by
  first
    | rfl
    | (cases A; simp [Around.over, Around.deeper, marksOver, frameCount, unitsOf, envsOf, guardsOf, pushEnvs, pushGuards, Code.envs, Code.env?, Code.isFrame, Code.guards, Code.isGuard, Code.weight, Code.frames, Code.isCreation, Code.isCaller, Code.cUnits])
theorem over_start {A : Around} {elt : Expr} {gs : List Comprehension} {sc : Scope} {pos : Pos} {it acc : Value} {env : Env} :
    A.over (.compStart (.GeneratorExp elt gs sc pos) 0 it acc env) [] = A.deeper env := by
  first
    | rfl
    | (cases A; simp [Around.over, Around.deeper, marksOver, frameCount, unitsOf, envsOf, guardsOf, pushEnvs, pushGuards, Code.envs, Code.env?, Code.isFrame, Code.guards, Code.isGuard, Code.weight, Code.frames, Code.isCreation, Code.isCaller, Code.cUnits])

section
variable {X : Cx} {pins : List (Addr × Obj)} {σ : L2.St} {H : Hp} {s t : Shared}
theorem Regen.inv (r : Regen s t) (I : Inv X pins σ H s) : Inv X pins σ H t := by
  obtain ⟨G, hG, rfl⟩ := r
  exact ⟨I.ok, I.os, hG, I.base, I.loc, I.cell, I.free, I.freeC, I.pin, I.hok, I.len⟩

/-- what a generator expression's own frame is like when it is woken first -/
theorem gen_start {scope : Scope} {own : List (Str × Nat)} {fp : List Addr} {A : Around} {cenv : Env} {m : Str → Option Value} {a : Addr} {go : Obj}
    (I : Inv X pins σ H s) (ok : BlkOk X.N X.env.scope scope own) (hN : X.N.Nodup)
    (hcell : ∀ y ∈ scope.names, y.2 ≠ .cell) (hA : A.handled = none) (hfr : A.frames = some X.stack)
    (hfp : ∀ b ∈ fp, FpOk X pins H b ∧ b < s.heap.objs.size)
    (e1 : cenv.scope = scope) (e2 : cenv.locals = s.heap.objs.size) (e3 : cenv.globals = mainGlobals) (e4 : cenv.builtins = builtinsNs)
    (e5 : cenv.cells = cloFrom X.env.cells scope.names []) (e6 : cenv.frame = some s.heap.objs.size)
    (os' : t.os = s.os) (hb : AllBare t.gens) (kp : ∀ b o, s.heap.get? b = some o → t.heap.get? b = some o)
    (ns : t.heap.Ns s.heap.objs.size m) (ha : t.heap.get? a = some go) (hlt : s.heap.objs.size < a) (hd : ∀ v, go.data ≠ .cell v) :
    Inv (gcx X A s H cenv fp [(a, go)]) [] (wipe σ (own.map (·.2))) H t := by
  have hfree : ∀ y ∈ scope.names, y.2 = .free → ∃ c, X.env.cells.lookup y.1 = some c := fun y hy e => by
    rcases ok.free y hy e with k | k
    · exact I.ok.has _ (.inl k)
    · exact I.ok.has _ (.inr k)
  have back : ∀ {y : Str} {c : Addr}, cenv.cells.lookup y = some c → X.env.cells.lookup y = some c := fun {y c} e => by
    rw [e5] at e
    exact clo_cm hfree e
  have old : ∀ {y : Str} {c : Addr}, cenv.cells.lookup y = some c → c < s.heap.objs.size := fun {y c} e => by
    obtain ⟨v, z⟩ := I.cell y c (back e)
    exact z.lt
  have has : ∀ {y : Str}, scope.names.lookup y = some .free → ∃ c, cenv.cells.lookup y = some c ∧ X.env.cells.lookup y = some c := fun {y} hl => by
    have hy : (y, NameKind.free) ∈ scope.names := PySem.mem_of_lookup hl
    obtain ⟨c, hc⟩ := hfree _ hy rfl
    refine ⟨c, ?_, hc⟩
    rw [e5]
    exact clo_has hfree hy hc
  have kindIs : ∀ y : Str, cenv.kindOf y = scope.names.lookup y := fun y => by
    unfold Env.kindOf
    rw [e1]
  have aNew : H a = none := I.hok.fresh (Nat.le_of_lt hlt)
  have aFs : a ∉ frs X.stack := fun hm => by
    rcases List.mem_cons.mp (I.stkSub a hm) with z | z
    · have h1 := I.lt
      rw [← z] at h1
      exact absurd (Nat.lt_trans hlt h1) (Nat.lt_irrefl _)
    · exact I.nofs (Nat.le_of_lt hlt) z
  have okZ : (gcx X A s H cenv fp [(a, go)]).Ok := by
    refine ⟨I.ok.mod, ?_, e3, e4, Nat.le_of_eq e2.symm, fun y z c q1 q2 => I.ok.inj y z c (back q1) (back q2), fun y hy => ?_, fun y c q _ => (nomatch q), fun _ => hA,
      Around.frames_deeper hfr, .inr ⟨rfl, ?_⟩, fun b hb => ⟨?_, fun y c e z => ?_⟩, I.bs, Nat.le_trans I.ok.bsz I.sz, fun b o e hb => ?_, fun b hb z => ?_, I.stack, I.stkFree⟩
    · show cenv.scope.kind = _
      rw [e1]
      exact ok.kind
    · have hy : cenv.kindOf y = some .cell ∨ cenv.kindOf y = some .free := hy
      rw [kindIs y] at hy
      rcases hy with hy | hy
      · exact absurd rfl (hcell _ (PySem.mem_of_lookup hy))
      · obtain ⟨c, q, _⟩ := has hy
        exact ⟨c, q⟩
    · show cenv.frame = some cenv.locals
      rw [e6, e2]
    · show b ≠ cenv.locals
      rw [e2]
      exact Nat.ne_of_lt (hfp b hb).2
    · exact (hfp b hb).1.2.2.2.2.1 y c (back e) z
    · rcases (hfp b hb).1.2.2.2.1 with z | z
      · exact I.ok.noex b o e z
      · exact absurd (Nat.lt_of_lt_of_le (Heap.lt_size e) (Nat.le_trans I.ok.bsz z)) (Nat.lt_irrefl _)
    · rcases List.mem_cons.mp (I.stkSub b z) with z | z
      · exact (hfp b hb).1.2.1 z
      · exact (hfp b hb).1.2.2.1 z
  refine ⟨okZ, os', hb, Un.kept kp, ⟨m, ?_, fun i y av q1 q2 q3 => ?_⟩, fun y c e => ?_, ?_, fun y c e => I.freeC y c (back e), fun p hp => ?_, I.hok.kept kp, by rw [wipe_length]; exact I.len⟩
  · show t.heap.Ns cenv.locals m
    rw [e2]
    exact ns
  · obtain ⟨q2, hne⟩ := wipe_some q2
    have q3 : Vis cenv.scope y := q3
    rw [e1] at q3
    have hfr : scope.names.lookup y = some .free := by
      rcases q3 with q3 | q3 | q3
      · rcases ok.own _ (PySem.mem_of_lookup q3) (.inl rfl) with e' | e'
        · obtain ⟨p, hp, hpy⟩ := List.mem_map.mp e'
          have e8 := ok.ix p hp
          have e9 : p.1 = y := hpy
          rw [e9] at e8
          exact absurd (List.mem_map.mpr ⟨p, hp, nodup_ix hN e8 q1⟩) hne
        · exact absurd (List.mem_of_getElem? q1) e'
      · exact absurd rfl (hcell _ (PySem.mem_of_lookup q3))
      · exact q3
    obtain ⟨m0, hn, hl⟩ := I.loc
    have hvis : Vis X.env.scope y := (ok.free _ (PySem.mem_of_lookup hfr) rfl).elim (fun k => .inr (.inl k)) (fun k => .inr (.inr k))
    obtain ⟨w, r, q⟩ := hl i y av q1 q2 hvis
    obtain ⟨c, c1, c2⟩ := has hfr
    refine ⟨w, r, .inr ⟨.inr (by show cenv.kindOf y = _; rw [kindIs y]; exact hfr), c, c1, ?_⟩⟩
    rcases q with ⟨k, _⟩ | ⟨_, c', e', z⟩
    · have k : X.env.scope.names.lookup y = some .local := k
      rcases ok.free _ (PySem.mem_of_lookup hfr) rfl with k' | k'
      · rw [show X.env.scope.names.lookup y = _ from k'] at k
        cases k
      · rw [show X.env.scope.names.lookup y = _ from k'] at k
        cases k
    · rw [c2] at e'
      cases e'
      exact z.keeps kp
  · obtain ⟨w, z⟩ := I.cell y c (back e)
    exact ⟨w, z.keeps kp⟩
  · show H cenv.locals = none
    rw [e2]
    exact I.hok.fresh (Nat.le_refl _)
  · rcases List.mem_append.mp hp with hp | hp
    · rw [List.mem_singleton.mp hp]
      refine ⟨ha, aNew, ?_, aFs, hd⟩
      show a ≠ cenv.locals
      rw [e2]
      exact Nat.ne_of_gt hlt
    · cases hp
end

/-! ### the frame's segments -/
/-- handed out: a truth value; the consumer stops at stop -/
def gYld (Z : Cx) (τ : L2.St) (stop : Bool) (Q : VK) : Protocol := fun _ _ v s kap =>
  ∃ (c : Bool) (H : Hp), v = .bool c ∧ Inv Z [] τ H s ∧ (c = stop → Q (.bl stop) H) ∧ (c ≠ stop → ∀ t, Regen s t → kap (.send .none) t)
def gFin (Z : Cx) (τ : L2.St) (stop : Bool) (Q : VK) : Nat → Shared → Shared → Prop := fun _ _ s => ∃ H, Inv Z [] τ H s ∧ Q (.bl (!stop)) H
abbrev gEnd (Z : Cx) (τ : L2.St) (stop : Bool) (Q : VK) : GenEnd := fun n s₀ r s₁ => r = .ok .next ∧ gFin Z τ stop Q n s₀ s₁

/-- the loop as it is asked of a prover -/
def TurnsOf (J : It) (g : TG) (tt : TT) (te : TE) (vs : List Nat) (τ : L2.St) (stop : Bool) (Q : VK) (W : Nat → Nat → Hp → Prop) : Prop :=
  ∀ i m H, W i m H → (J.stop i H ∧ Q (.bl (!stop)) H) ∨ (J.go i H ∧ ∃ Nx : Hp → Prop, (∀ H', Nx H' → ∃ m', m' < m ∧ W (i + 1) m' H') ∧
    ∀ x H', J.yld i H x H' → g x τ H' fun σ2 H2 => wipe σ2 vs = τ ∧ tt σ2 H2 fun b H3 =>
      if b = true then te σ2 H3 fun y H4 => ∃ c : Bool, y = .bl c ∧ (c = stop → Q (.bl stop) H4) ∧ (c ≠ stop → Nx H4) else Nx H3)

section
variable {X : Cx} {A : Around} {s₁ : Shared} {H₁ : Hp} {cenv : Env} {fp : List Addr} {pn : List (Addr × Obj)} {tg elt iter : Expr} {ifs : List Expr} {scope : Scope} {pos : Pos} {it : Addr} {tn : Nat → Heap → Prop} {J : It} {g : TG} {tt : TT} {te : TE} {vs : List Nat} {τ : L2.St} {stop : Bool} {Q : VK} {W : Nat → Nat → Hp → Prop}
theorem seg_gx (hcalm : X.calm = true) (pg : PG (gcx X A s₁ H₁ cenv fp pn) tg g) (pt : PTs (gcx X A s₁ H₁ cenv fp pn) ifs tt) (pe : PE (gcx X A s₁ H₁ cenv fp pn) elt te)
    (T : Turn X.prog X.w X.K tg J fp it tn) (hco : cenv.scope.isCoroutine = false) (turn : TurnsOf J g tt te vs τ stop Q W) (hnp : ∀ p ∈ pn, p.1 ∉ fp) :
    ∀ (m n : Nat), m < n → ∀ (i : Nat) (s₀ s : Shared) (H : Hp), W i m H → Inv (gcx X A s₁ H₁ cenv fp pn) [] τ H s → tn i s.heap → (∀ b ∈ fp, H b = none) →
      Seg (model X.prog X.w) A (gEnd (gcx X A s₁ H₁ cenv fp pn) τ stop Q) (gYld (gcx X A s₁ H₁ cenv fp pn) τ stop Q) n s₀
        (.compLoop (.GeneratorExp elt [⟨tg, iter, ifs, 0⟩] scope pos) 0 (.ref it) .none cenv)
        ((model X.prog X.w).den (.compLoop (.GeneratorExp elt [⟨tg, iter, ifs, 0⟩] scope pos) 0 (.ref it) .none cenv)) [] s := by
  have stat : ∀ {σ' : L2.St} {H' : Hp} {s' : Shared}, Inv (gcx X A s₁ H₁ cenv fp pn) [] σ' H' s' → (∀ b ∈ fp, H' b = none) → ∀ b ∈ fp, FpOk (gcx X A s₁ H₁ cenv fp pn) [] H' b :=
    fun {σ' H' s'} I' hn b hb => ⟨hn b hb, (I'.ok.exf b hb).1, I'.ok.exfs b hb, .inl hb, fun x c e => (I'.ok.exf b hb).2 x c e, fun p hp z => by
      rcases List.mem_append.mp hp with hp | hp
      · exact hnp p hp (by rw [z]; exact hb)
      · cases hp⟩
  have noE : ∀ {α : Type} {u : Sem α} {q q' : α → Shared → Prop} {E : Value → Shared → Prop} {s' : Shared}, wpAny (model X.prog X.w) (gcx X A s₁ H₁ cenv fp pn).A u q (fun _ _ => False) s' → (∀ r s6, q r s6 → q' r s6) →
      wpAny (model X.prog X.w) (A.over (.compLoop (.GeneratorExp elt [⟨tg, iter, ifs, 0⟩] scope pos) 0 (.ref it) .none cenv) []) u q' E s' := fun {α u q q' E s'} h k => by
    rw [over_gen]
    exact wpAny_mono h k fun _ _ z => False.elim z
  intro m
  induction m using Nat.strongRecOn with
  | ind m ih =>
    intro n hmn i s₀ s H w I st hn
    show Seg _ A _ _ _ s₀ _ ((compTurn (.GeneratorExp elt [⟨tg, iter, ifs, 0⟩] scope pos) 0 (.ref it) .none cenv).onRaise (leaving cenv)) [] s
    rw [compTurn_gen, Sem.onRaise_eq_wrap]
    refine seg_bind_wrap (wpAny_standAt ?_)
    rcases turn i m H w with ⟨hs, qq⟩ | ⟨hgo, Nx, hNx, step⟩
    · refine seg_bind_wrap (noE (T.done (gcx X A s₁ H₁ cenv fp pn) rfl rfl rfl hcalm i [] s _ H (fun _ _ => False) I (stat I hn) st hs) fun r s6 ⟨hr, I6⟩ => ?_)
      subst hr
      exact seg_end (.ok .next) ⟨rfl, H, I6, qq⟩
    · refine seg_bind_wrap (noE (T.item (gcx X A s₁ H₁ cenv fp pn) rfl rfl rfl hcalm i [] s _ H (fun _ _ => False) I (stat I hn) st hgo) fun r s6 ⟨u, hr, h6⟩ => ?_)
      subst hr
      refine seg_bind_wrap (noE h6 fun _ s7 ⟨x, H7, I7, r7, y7, st7, n7⟩ => ?_)
      have I7' := I7.pinned (stat I7 n7) (T.obj _ _ st7)
      refine seg_bind_wrap (noE (pg.run _ s7 _ H7 x u _ I7' r7 (step x H7 y7)) fun _ s8 ⟨σ8, H8, I8, hw8, q8⟩ => ?_)
      refine seg_bind_wrap (noE (pt.run _ s8 σ8 H8 _ I8 q8) fun b s9 ⟨H9, I9, q9⟩ => ?_)
      -- back to the loop's own words
      have tidy : ∀ {s' : Shared} {H' : Hp}, Inv (gcx X A s₁ H₁ cenv fp pn) ([] ++ pinsAt fp s7.heap) σ8 H' s' →
          Inv (gcx X A s₁ H₁ cenv fp pn) [] τ H' s' ∧ tn (i + 1) s'.heap ∧ ∀ b ∈ fp, H' b = none := fun {s' H'} I' => by
        have pin' : ∀ b ∈ fp, ∀ o, s7.heap.get? b = some o → s'.heap.get? b = some o ∧ H' b = none := fun b hb o e =>
          let z := I'.pin (b, o) (List.mem_append_right _ (List.mem_append_right _ (mem_pinsAt hb e)))
          ⟨z.1, z.2.1⟩
        have hl : τ.length = σ8.length := by rw [← hw8, wipe_length]
        refine ⟨(I'.unpinned (pins := [])).weak hl (fun j v e => ?_), T.keep _ _ _ st7 fun b hb o e => (pin' b hb o e).1, fun b hb => ?_⟩
        · rw [← hw8] at e
          exact (wipe_some e).1
        · obtain ⟨o, e, _⟩ := T.obj _ _ st7 b hb
          exact (pin' b hb o e).2
      cases b with
      | false =>
        simp only [Bool.false_eq_true, if_false] at q9 ⊢
        obtain ⟨m', hm', w'⟩ := hNx H9 q9
        obtain ⟨J1, J2, J3⟩ := tidy I9
        exact seg_again rfl (ih m' hm' n (Nat.lt_trans hm' hmn) (i + 1) s₀ s9 H9 w' J1 J2 J3)
      | true =>
        simp only [if_true] at q9 ⊢
        have hy : ∀ v, yieldOut cenv v = yieldValue v := fun v => by simp only [yieldOut, hco, Bool.false_eq_true, if_false]
        simp only [hy]
        rw [Sem.bind_eq_wrap', Sem.bind_eq_wrap', Sem.wrap_wrap, Sem.wrap_wrap]
        refine seg_wrap (noE (pe.run _ s9 σ8 H9 _ I9 q9) fun z s10 ⟨yv, H10, I10, r10, c, ec, h1, h2⟩ => ?_)
        subst ec
        have ez : z = Value.bool c := r10
        subst ez
        obtain ⟨J1, J2, J3⟩ := tidy I10
        have pos' : ∃ n', n = n' + 1 := ⟨n - 1, by omega⟩
        obtain ⟨n', rfl⟩ := pos'
        refine seg_at (seg_yield rfl rfl rfl ⟨c, H10, rfl, J1, h1, fun hc s'' hr => ?_⟩)
        obtain ⟨m', hm', w'⟩ := hNx H10 (h2 hc)
        have hh : s''.heap = s10.heap := by
          obtain ⟨G, _, rfl⟩ := hr
          rfl
        exact seg_again rfl (ih m' hm' n' (by omega) (i + 1) s'' s'' H10 w' (hr.inv J1) (by rw [hh]; exact J2) J3)
end

/-! ### who asks: all(..), any(..) -/
section
variable {Z : Cx} {τ : L2.St} {Q : VK} {A : Around} {a : Addr} {g : Nat} {go : Obj} {R : Result → Shared → Prop}
theorem all_loop (hh : A.handled = none) (hd : A.depth < recursionLimit) (hpn : (a, go) ∈ Z.pn) (hgo : ∀ h : Heap, h.get? a = some go → h.IsGen a g)
    (hend : ∀ (b : Bool) (H : Hp) (s1 s' : Shared), Inv Z [] τ H s1 → Q (.bl b) H → s'.os = s1.os → AllBare s'.gens → (∀ x o, s1.heap.get? x = some o → s'.heap.get? x = some o) → R (.ok (.ret (.bool b))) s') :
    ∀ (n : Nat) (s : Shared) (gs : GenState), s.gens[g]? = some gs →
      gs.Goes (model Z.prog Z.w) A.in1.in1 (gEnd Z τ false Q) (gYld Z τ false Q) n (.send .none) (s.setGen g .running) → s.heap.get? a = some go → s.heap.NoLimit →
      codeAny (model Z.prog Z.w) A (.builtin "all.loop" ⟨[.ref a], []⟩) R s := by
  intro n
  induction n with
  | zero =>
    intro s gs hgs hG hga hl
    refine codeAny_builtin F.entry_all_loop ?_
    rw [Around.under_plainId F.plain_all_loop _]
    show wpAny _ A.in1 (pyNext (.ref a) >>= _) _ _ s
    refine wpAny_bind (wpAny_pyNext_genexpQ (A := A.in1) (P := gFin Z τ false Q) hh hl hd (hgo _ hga) hgs hG (fun v s₁ gs' hb hv => ?_) (fun s₁ hp h' hk => ?_))
    · obtain ⟨c, H, rfl, I, h1, h2⟩ := hv
      refine wpAny_bind (wpAny_holding (wpAny_truthy_bool ?_))
      refine wpAny_bind (wpAny_letGo ?_)
      cases c with
      | false =>
        simp only [Bool.false_eq_true, if_false]
        exact wpAny_bind (wpAny_rule (wpAny_pure (hend false H s₁ _ I (h1 rfl) rfl (allBare_setGen I.bare hb) fun _ _ e => e)))
      | true => exact False.elim (h2 (by decide) s₁ ⟨s₁.gens, I.bare, rfl⟩)
    · obtain ⟨H, I, q⟩ := hp
      exact wpAny_bind (wpAny_rule (wpAny_pure (hend true H s₁ _ I q rfl (allBare_setGen I.bare rfl) hk)))
  | succ n ih =>
    intro s gs hgs hG hga hl
    have hgl : g < s.gens.size := (Array.getElem?_eq_some_iff.mp hgs).1
    refine codeAny_builtin F.entry_all_loop ?_
    rw [Around.under_plainId F.plain_all_loop _]
    show wpAny _ A.in1 (pyNext (.ref a) >>= _) _ _ s
    refine wpAny_bind (wpAny_gsz (n := g + 1) hgl (wpAny_pyNext_genexpQ (A := A.in1) (P := gFin Z τ false Q) hh hl hd (hgo _ hga) hgs hG (fun v s₁ gs' hb hv => ?_) (fun s₁ hp h' hk => ?_)))
    · intro hsz
      obtain ⟨c, H, rfl, I, h1, h2⟩ := hv
      refine wpAny_bind (wpAny_holding (wpAny_truthy_bool ?_))
      refine wpAny_bind (wpAny_letGo ?_)
      cases c with
      | false =>
        simp only [Bool.false_eq_true, if_false]
        exact wpAny_bind (wpAny_rule (wpAny_pure (hend false H s₁ _ I (h1 rfl) rfl (allBare_setGen I.bare hb) fun _ _ e => e)))
      | true =>
        simp only [if_true]
        have hsz1 : g < s₁.gens.size := by
          have q : (s₁.setGen g gs').gens.size = s₁.gens.size := setGen_size _ _ _
          have hsz' : g + 1 ≤ (s₁.setGen g gs').gens.size := hsz
          omega
        have bare2 : AllBare (s₁.setGen g gs').gens := allBare_setGen I.bare hb
        exact wpAny_pure ⟨plainId_quiet F.plain_all_loop _, ih (s₁.setGen g gs') gs' (setGen_at hsz1) (h2 (by decide) _ ⟨_, allBare_setGen (s := s₁.setGen g gs') bare2 rfl, rfl⟩) (I.pin (a, go) (List.mem_append_left _ hpn)).1 I.nolimit⟩
    · intro _
      obtain ⟨H, I, q⟩ := hp
      exact wpAny_bind (wpAny_rule (wpAny_pure (hend true H s₁ _ I q rfl (allBare_setGen I.bare rfl) hk)))
theorem any_loop (hh : A.handled = none) (hd : A.depth < recursionLimit) (hpn : (a, go) ∈ Z.pn) (hgo : ∀ h : Heap, h.get? a = some go → h.IsGen a g)
    (hend : ∀ (b : Bool) (H : Hp) (s1 s' : Shared), Inv Z [] τ H s1 → Q (.bl b) H → s'.os = s1.os → AllBare s'.gens → (∀ x o, s1.heap.get? x = some o → s'.heap.get? x = some o) → R (.ok (.ret (.bool b))) s') :
    ∀ (n : Nat) (s : Shared) (gs : GenState), s.gens[g]? = some gs →
      gs.Goes (model Z.prog Z.w) A.in1.in1 (gEnd Z τ true Q) (gYld Z τ true Q) n (.send .none) (s.setGen g .running) → s.heap.get? a = some go → s.heap.NoLimit →
      codeAny (model Z.prog Z.w) A (.builtin "any.loop" ⟨[.ref a], []⟩) R s := by
  intro n
  induction n with
  | zero =>
    intro s gs hgs hG hga hl
    refine codeAny_builtin F.entry_any_loop ?_
    rw [Around.under_plainId F.plain_any_loop _]
    show wpAny _ A.in1 (pyNext (.ref a) >>= _) _ _ s
    refine wpAny_bind (wpAny_pyNext_genexpQ (A := A.in1) (P := gFin Z τ true Q) hh hl hd (hgo _ hga) hgs hG (fun v s₁ gs' hb hv => ?_) (fun s₁ hp h' hk => ?_))
    · obtain ⟨c, H, rfl, I, h1, h2⟩ := hv
      refine wpAny_bind (wpAny_holding (wpAny_truthy_bool ?_))
      refine wpAny_bind (wpAny_letGo ?_)
      cases c with
      | true =>
        simp only [if_true]
        exact wpAny_bind (wpAny_rule (wpAny_pure (hend true H s₁ _ I (h1 rfl) rfl (allBare_setGen I.bare hb) fun _ _ e => e)))
      | false => exact False.elim (h2 (by decide) s₁ ⟨s₁.gens, I.bare, rfl⟩)
    · obtain ⟨H, I, q⟩ := hp
      exact wpAny_bind (wpAny_rule (wpAny_pure (hend false H s₁ _ I q rfl (allBare_setGen I.bare rfl) hk)))
  | succ n ih =>
    intro s gs hgs hG hga hl
    have hgl : g < s.gens.size := (Array.getElem?_eq_some_iff.mp hgs).1
    refine codeAny_builtin F.entry_any_loop ?_
    rw [Around.under_plainId F.plain_any_loop _]
    show wpAny _ A.in1 (pyNext (.ref a) >>= _) _ _ s
    refine wpAny_bind (wpAny_gsz (n := g + 1) hgl (wpAny_pyNext_genexpQ (A := A.in1) (P := gFin Z τ true Q) hh hl hd (hgo _ hga) hgs hG (fun v s₁ gs' hb hv => ?_) (fun s₁ hp h' hk => ?_)))
    · intro hsz
      obtain ⟨c, H, rfl, I, h1, h2⟩ := hv
      refine wpAny_bind (wpAny_holding (wpAny_truthy_bool ?_))
      refine wpAny_bind (wpAny_letGo ?_)
      cases c with
      | true =>
        simp only [if_true]
        exact wpAny_bind (wpAny_rule (wpAny_pure (hend true H s₁ _ I (h1 rfl) rfl (allBare_setGen I.bare hb) fun _ _ e => e)))
      | false =>
        simp only [Bool.false_eq_true, if_false]
        have hsz1 : g < s₁.gens.size := by
          have q : (s₁.setGen g gs').gens.size = s₁.gens.size := setGen_size _ _ _
          have hsz' : g + 1 ≤ (s₁.setGen g gs').gens.size := hsz
          omega
        have bare2 : AllBare (s₁.setGen g gs').gens := allBare_setGen I.bare hb
        exact wpAny_pure ⟨plainId_quiet F.plain_any_loop _, ih (s₁.setGen g gs') gs' (setGen_at hsz1) (h2 (by decide) _ ⟨_, allBare_setGen (s := s₁.setGen g gs') bare2 rfl, rfl⟩) (I.pin (a, go) (List.mem_append_left _ hpn)).1 I.nolimit⟩
    · intro _
      obtain ⟨H, I, q⟩ := hp
      exact wpAny_bind (wpAny_rule (wpAny_pure (hend false H s₁ _ I q rfl (allBare_setGen I.bare rfl) hk)))
end

/-! ### the expression -/
/-- all(elt for tg in iter if ..) (stop := false), any(..) (stop := true): P the table of the running def's code object, which may grow -/
def tAsk (stop : Bool) (P : Addr) (wi : TI) (g : TG) (tt : TT) (te : TE) (vs : List Nat) : TE := fun σ H Q => wi σ H fun J H1 => TabG H1 P ∧ ∀ H2, Tabbed P H1 H2 →
  ∃ W : Nat → Nat → Hp → Prop, (∃ m, W 0 m H2) ∧ TurnsOf J g tt te vs (wipe σ vs) stop Q W

section
variable {X : Cx} {pins : List (Addr × Obj)} {σ : L2.St} {H : Hp} {s : Shared} {tg elt iter : Expr} {ifs : List Expr} {scope : Scope} {pos : Pos} {wi : TI} {g : TG} {tt : TT} {te : TE} {own : List (Str × Nat)} {c P : Addr} {k : Nat} {stop : Bool} {Q : VK}
/-- the generator is made; it goes when it is woken -/
theorem gen_made {Q' : Value → Shared → Prop} (hr : Room (k + 1) X.A) (TB : TabB X.base X.mg c P) (hcode : X.env.code = .ref c) (hc : X.calm = true) (hN : X.N.Nodup) (hi : PI X tg iter wi) (ok : BlkOk X.N X.env.scope scope own)
    (hcell : ∀ y ∈ scope.names, y.2 ≠ .cell) (hdot : scope.names.lookup (".0" : Str) = some NameKind.local) (hco : scope.isCoroutine = false)
    (hg : ∀ (A : Around) (s : Shared) (H : Hp) (C : Addr) (code : Value) (fp : List Addr) (pn : List (Addr × Obj)), PG (gcx X A s H (genEnv scope (cloFrom X.env.cells scope.names []) C code builtinsNs X.env) fp pn) tg g)
    (ht : ∀ (A : Around) (s : Shared) (H : Hp) (C : Addr) (code : Value) (fp : List Addr) (pn : List (Addr × Obj)), Room k (A.deeper (genEnv scope (cloFrom X.env.cells scope.names []) C code builtinsNs X.env)) → PTs (gcx X A s H (genEnv scope (cloFrom X.env.cells scope.names []) C code builtinsNs X.env) fp pn) ifs tt)
    (he : ∀ (A : Around) (s : Shared) (H : Hp) (C : Addr) (code : Value) (fp : List Addr) (pn : List (Addr × Obj)), Room k (A.deeper (genEnv scope (cloFrom X.env.cells scope.names []) C code builtinsNs X.env)) → PE (gcx X A s H (genEnv scope (cloFrom X.env.cells scope.names []) C code builtinsNs X.env) fp pn) elt te)
    (hs : ∀ v, genFold iter X.env v = pure v) (I : Inv X pins σ H s) (h : tAsk stop P wi g tt te (own.map (·.2)) σ H Q)
    (hQ : ∀ (Z : Cx) (τ : L2.St) (a : Addr) (j n : Nat) (go : Obj) (gs : GenState) (s5 : Shared), Z.prog = X.prog → Z.w = X.w → (a, go) ∈ Z.pn → (∀ h : Heap, h.get? a = some go → h.IsGen a j) → s5.gens[j]? = some gs →
      gs.Goes (model X.prog X.w) X.A.in1.in1 (gEnd Z τ stop Q) (gYld Z τ stop Q) n (.send .none) (s5.setGen j .running) → s5.heap.get? a = some go → s5.heap.NoLimit →
      (∀ (b : Bool) (H' : Hp) (s1 s' : Shared), Inv Z [] τ H' s1 → Q (.bl b) H' → s'.os = s1.os → AllBare s'.gens → (∀ x o, s1.heap.get? x = some o → s'.heap.get? x = some o) → EP X pins σ Q (.bool b) s') → Q' (.ref a) s5) :
    wpAny (model X.prog X.w) X.A (eval (.GeneratorExp elt [⟨tg, iter, ifs, 0⟩] scope pos) X.env) Q' X.xe s := by
  have hfree : ∀ y ∈ scope.names, y.2 = .free → ∃ c, X.env.cells.lookup y.1 = some c := fun y hy e => by
    rcases ok.free y hy e with q | q
    · exact I.ok.has _ (.inl q)
    · exact I.ok.has _ (.inr q)
  refine wpAny_GeneratorExp_make hco (closure_ok hfree) hcell hdot ok.kind (by have := hr.dp; omega) ?_ hs
  refine thn (hi.run pins s σ H _ I h) fun xv s1 hx => thn hx fun itv s2 h2 => ?_
  obtain ⟨it, fp, tn, J, H2, rfl, I2, T, st2, f2, ⟨ps, hP, htri⟩, hW⟩ := h2
  have hPs : s2.heap.get? P = some { cls := .none, data := .fields ps } := I2.hok P _ hP
  have cd : PySem.W.CodeHd s2.heap c P := TB.code.keeps I2.bk
  have neP : ∀ b ∈ fp, b ≠ P := fun b hb z => by
    have q := (f2 b hb).1
    rw [z, hP] at q
    cases q
  refine ⟨I2.nolimit, ?_⟩
  have cont : ∀ (code : Value) (h3 : Heap) (tk : Nat) (more : Array Value), Heap.ExtBut P s2.heap h3 → s2.heap.objs.size ≤ h3.objs.size → h3.get? P = some { cls := .none, data := .fields (ps ++ more) } → TriplesOk (ps ++ more).toList →
      wpAny (model X.prog X.w) X.A (builtinsFor X.env.globals X.env.builtins) (fun bi s₄ => ∀ h', h'.Ns s₄.heap.objs.size (fun y => if y = ".0" then some (.ref it) else none) → Heap.SameBut s₄.heap.objs.size (s₄.heap.push { cls := .type "frame", data := .dict #[] }) h' →
          Q' (.ref h'.objs.size) { s₄ with
            gens := s₄.gens.push (.fresh (.compStart (.GeneratorExp elt [⟨tg, iter, ifs, 0⟩] scope pos) 0 (.ref it) .none (genEnv scope (cloFrom X.env.cells scope.names []) s₄.heap.objs.size code bi X.env))),
            toks := s₄.toks + 1 + 1 + 1,
            heap := h'.push { cls := .type "generator", data := .fields #[.int s₄.gens.size 0, .str "<genexpr>" (s₄.toks + 1), .str (X.env.qual ++ "<genexpr>") (s₄.toks + 1 + 1)] } }) X.xe { s2 with heap := h3, toks := tk } := by
    intro code h3 tk more hx hsz hP3 htri3
    have I3 : Inv X pins σ (upd H2 P (.tbl (ps ++ more))) { s2 with heap := h3, toks := tk } := inv_tab (g' := s2.gens) (d' := s2.drawn) (t' := tk) I2 hP (fun b u hb e => hx b u hb e) hP3 I2.bare
    have hT : Tabbed P H2 (upd H2 P (.tbl (ps ++ more))) := ⟨⟨ps ++ more, upd_same, htri3⟩, fun b hb => upd_ne hb⟩
    obtain ⟨W, ⟨m0, w0⟩, turn⟩ := hW _ hT
    generalize hH3 : upd H2 P (.tbl (ps ++ more)) = H3 at I3 w0
    have n3 : ∀ b ∈ fp, H3 b = none := fun b hb => by
      rw [← hH3, upd_ne (neP b hb)]
      exact (f2 b hb).1
    generalize hs3 : ({ s2 with heap := h3, toks := tk } : Shared) = s3 at I3 ⊢
    have e3 : s3.heap = h3 := by rw [← hs3]
    have f3 : ∀ b ∈ fp, FpOk X pins H3 b ∧ b < s3.heap.objs.size := fun b hb => by
      obtain ⟨o, e, _⟩ := T.obj _ _ st2 b hb
      refine ⟨⟨n3 b hb, (f2 b hb).2⟩, ?_⟩
      rw [e3]
      exact Nat.lt_of_lt_of_le (Heap.lt_size e) hsz
    have st3 : tn 0 s3.heap := T.keep _ _ _ st2 fun b hb o e => by
      rw [e3]
      exact hx b o (neP b hb) e
    obtain ⟨bm, ob, b1, b2, b3, b4, b5, b6, b7, b8⟩ := TB.bm
    refine wpAny_builtinsFor (m := X.mg) (by rw [I3.ok.glob]; exact I3.mod.glob.keeps I3.bk) b1 b2 (I3.bk _ _ b5) b6 b7 b8 ?_
    intro h' hn' hs'
    have hsz' : h'.objs.size = s3.heap.objs.size + 1 := by rw [hs'.1, Heap.size_push]
    have keep' : ∀ b o, s3.heap.get? b = some o → h'.get? b = some o := fun b o e => hs'.extBut b o (Nat.ne_of_lt (Heap.lt_size e)) (Heap.get?_push_of_some _ e)
    generalize hgo : ({ cls := .type "generator", data := .fields #[.int s3.gens.size 0, .str "<genexpr>" (s3.toks + 1), .str (X.env.qual ++ "<genexpr>") (s3.toks + 1 + 1)] } : Obj) = go
    generalize hce : genEnv scope (cloFrom X.env.cells scope.names []) s3.heap.objs.size code builtinsNs X.env = ce
    have keep5 : ∀ b o, s3.heap.get? b = some o → (h'.push go).get? b = some o := fun b o e => Heap.get?_push_of_some _ (keep' b o e)
    have hget : (h'.push go).get? h'.objs.size = some go := Heap.get?_push_size _ (by rw [← hgo]; rfl)
    have hgd : ∀ v, go.data ≠ .cell v := fun v q => by
      rw [← hgo] at q
      cases q
    have hgen : ∀ h : Heap, h.get? h'.objs.size = some go → h.IsGen h'.objs.size s3.gens.size := fun h e => ⟨go, _, _, e, by rw [← hgo], by rw [← hgo], by rw [← hgo]⟩
    have hA : X.A.in1.in1.handled = none := hr.hd
    have hfr : X.A.in1.in1.frames = some X.stack := I3.ok.frames
    have hroom : Room k (X.A.in1.in1.deeper ce) := ⟨hr.hd, by
      have := hr.dp
      show X.A.depth + 1 + 3 * k + 5 < _
      omega, by
      have := hr.un
      show X.A.units + 1 + 1 + 3 + 16 * k + 200 < _
      omega⟩
    have start : ∀ t : Shared, t.os = s3.os → AllBare t.gens → t.heap = h'.push go → Inv (gcx X X.A.in1.in1 s3 H3 ce fp [(h'.objs.size, go)]) [] (wipe σ (own.map (·.2))) H3 t := fun t q1 q2 q3 => by
      have nsF : t.heap.Ns s3.heap.objs.size (fun y => if y = ".0" then some (.ref it) else none) := by
        rw [q3]
        exact hn'.push _
      subst hce
      exact gen_start I3 ok hN hcell hA hfr f3 rfl rfl I3.ok.glob rfl rfl rfl q1 q2 (fun b o e => by rw [q3]; exact keep5 b o e) nsF (by rw [q3]; exact hget) (by rw [hsz']; exact Nat.lt_succ_self _) hgd
    have notFp : ∀ p ∈ [(h'.objs.size, go)], p.1 ∉ fp := fun p hp hm => by
      rw [List.mem_singleton.mp hp] at hm
      have z := (f3 _ hm).2
      rw [hsz'] at z
      exact absurd (Nat.lt_of_succ_lt z) (Nat.lt_irrefl _)
    refine hQ (gcx X X.A.in1.in1 s3 H3 ce fp [(h'.objs.size, go)]) (wipe σ (own.map (·.2))) h'.objs.size s3.gens.size (m0 + 1) go _ _ rfl rfl (List.mem_singleton.mpr rfl) hgen (Array.getElem?_push_size ..) ⟨rfl, ?_⟩ hget (I3.nolimit.keeps keep5) fun b H' t1 t' I' q' qo qb qk => ?_
    · have pgZ : PG (gcx X X.A.in1.in1 s3 H3 ce fp [(h'.objs.size, go)]) tg g := by
        subst hce
        exact hg _ _ _ _ _ _ _
      have ptZ : PTs (gcx X X.A.in1.in1 s3 H3 ce fp [(h'.objs.size, go)]) ifs tt := by
        subst hce
        exact ht _ _ _ _ _ _ _ hroom
      have peZ : PE (gcx X X.A.in1.in1 s3 H3 ce fp [(h'.objs.size, go)]) elt te := by
        subst hce
        exact he _ _ _ _ _ _ _ hroom
      have hco' : ce.scope.isCoroutine = false := by
        rw [← hce]
        exact hco
      have woken : ∀ t : Shared, t.os = s3.os → AllBare t.gens → t.heap = h'.push go → Seg (model X.prog X.w) X.A.in1.in1 (gEnd (gcx X X.A.in1.in1 s3 H3 ce fp [(h'.objs.size, go)]) (wipe σ (own.map (·.2))) stop Q) (gYld (gcx X X.A.in1.in1 s3 H3 ce fp [(h'.objs.size, go)]) (wipe σ (own.map (·.2))) stop Q) (m0 + 1) t
          (.compStart (.GeneratorExp elt [⟨tg, iter, ifs, 0⟩] scope pos) 0 (.ref it) .none ce) ((model X.prog X.w).den (.compStart (.GeneratorExp elt [⟨tg, iter, ifs, 0⟩] scope pos) 0 (.ref it) .none ce)) [] t := fun t q1 q2 q3 => by
        have st5 : tn 0 t.heap := T.keep _ _ _ st3 fun b _ o e => by
          rw [q3]
          exact keep5 b o e
        have loop := seg_gx (iter := iter) (scope := scope) (pos := pos) hc pgZ ptZ peZ T hco' turn notFp m0 (m0 + 1) (Nat.lt_succ_self _) 0 t t H3 w0 (start t q1 q2 q3) st5 n3
        show Seg _ X.A.in1.in1 _ _ _ t _ ((compStart (.GeneratorExp elt [⟨tg, iter, ifs, 0⟩] scope pos) 0 (.ref it) .none ce).onRaise (leaving ce)) [] t
        unfold compStart
        rw [Sem.onRaise_eq_wrap]
        show Seg _ X.A.in1.in1 _ _ _ t _ ((ask >>= _).wrap _ _ _ _) [] t
        refine seg_bind_wrap (wpAny_askSetting ?_)
        split
        · exact seg_again rfl loop
        · first
            | exact seg_bind_wrap (wpAny_rule (seg_bind_wrap (wpAny_standAt (seg_bind_wrap (T.self _ 0 t _ _ st5 (seg_again rfl loop))))))
            | (refine seg_bind_wrap (wpAny_rule ?_)
               show Seg _ X.A.in1.in1 _ _ _ t _ ((standAt iter.pos >>= _).wrap _ _ _ _) [] t
               exact seg_bind_wrap (wpAny_standAt (seg_bind_wrap (T.self _ 0 t _ _ st5 (seg_again rfl loop)))))
      exact woken _ rfl (allBare_setGen (s := { s3 with gens := s3.gens.push _, heap := h'.push go, toks := s3.toks + 1 + 1 + 1 }) (AllBare.push I3.bare rfl) rfl) rfl
    · have hfpX : ∀ b ∈ fp, (b ∈ X.ex ∨ X.s_0.heap.objs.size ≤ b) ∧ b ≠ X.env.locals ∧ (∀ x c, X.env.cells.lookup x = some c → c ≠ b) ∧ ∀ p ∈ X.pn ++ pins, p.1 ≠ b := fun b hb =>
        ⟨(f3 b hb).1.2.2.2.1, (f3 b hb).1.2.1, (f3 b hb).1.2.2.2.2.1, (f3 b hb).1.2.2.2.2.2⟩
      have un : Un (frs X.stack) fp H3 H' s3.heap t1.heap := I'.base
      have un2 : Un (frs X.stack) fp H3 H' s3.heap t'.heap := un.trans (Un.kept qk)
      exact ⟨.bl b, H', I3.call' (ch := fp) (qo.trans I'.os) un2 (I'.hok.kept qk) qb hfpX, rfl, q'⟩
  cases hf : codeAmong pos ps.toList with
  | none =>
    refine wpAny_genexprCodeX hcode (cd.code hPs htri) (cd.tab hPs) hf fun c' h3 tk hx hge hlt hco' _ htab' _ => ?_
    obtain ⟨o1, vs, f1, tf, fl, tg', inF, tx, tt', op, _, _, _, _, _, _, _, _, _, htr, _⟩ := hco'
    exact cont _ h3 tk _ hx (Nat.le_trans hge (Nat.le_of_lt hlt)) htab'.2 htr
  | some cv =>
    refine wpAny_genexprCode_hit hcode (cd.code hPs htri) hf ?_
    exact cont cv s2.heap s2.toks #[] (Heap.ExtBut.refl _ _) (Nat.le_refl _) (by simpa using hPs) (by simpa using htri)
/-- what is asked of the generator expression's own names -/
structure GenNames (scope : Scope) : Prop where
  nocell : ∀ y ∈ scope.names, y.2 ≠ .cell
  dot : scope.names.lookup (".0" : Str) = some NameKind.local
  plain : scope.isCoroutine = false
def genNamesB (scope : Scope) : Bool := (scope.names.all fun y => decide (y.2 ≠ .cell)) && decide (scope.names.lookup (".0" : Str) = some NameKind.local) && !scope.isCoroutine
theorem genNames_by (h : genNamesB scope = true) : GenNames scope := by
  unfold genNamesB at h
  simp only [Bool.and_eq_true, List.all_eq_true, decide_eq_true_eq, Bool.not_eq_true'] at h
  exact ⟨h.1.1, h.1.2, h.2⟩
theorem pe_all {p pos' : Pos} (hr : Room (k + 1) X.A) (hl : Gl X "all") (hm : X.mg "all" = none) (TB : TabB X.base X.mg c P) (hcode : X.env.code = .ref c) (hc : X.calm = true) (hN : X.N.Nodup) (hi : PI X tg iter wi) (ok : BlkOk X.N X.env.scope scope own) (gn : GenNames scope)
    (hg : ∀ (A : Around) (s : Shared) (H : Hp) (C : Addr) (code : Value) (fp : List Addr) (pn : List (Addr × Obj)), PG (gcx X A s H (genEnv scope (cloFrom X.env.cells scope.names []) C code builtinsNs X.env) fp pn) tg g)
    (ht : ∀ (A : Around) (s : Shared) (H : Hp) (C : Addr) (code : Value) (fp : List Addr) (pn : List (Addr × Obj)), Room k (A.deeper (genEnv scope (cloFrom X.env.cells scope.names []) C code builtinsNs X.env)) → PTs (gcx X A s H (genEnv scope (cloFrom X.env.cells scope.names []) C code builtinsNs X.env) fp pn) ifs tt)
    (he : ∀ (A : Around) (s : Shared) (H : Hp) (C : Addr) (code : Value) (fp : List Addr) (pn : List (Addr × Obj)), Room k (A.deeper (genEnv scope (cloFrom X.env.cells scope.names []) C code builtinsNs X.env)) → PE (gcx X A s H (genEnv scope (cloFrom X.env.cells scope.names []) C code builtinsNs X.env) fp pn) elt te)
    (hs : ∀ v, genFold iter X.env v = pure v := by intro _; rfl) (hb : bootBuiltins "all" = some (.builtin "all") := by decide +kernel)
    (hst : starEach [.GeneratorExp elt [⟨tg, iter, ifs, 0⟩] scope pos] X.env = (false, eval (.GeneratorExp elt [⟨tg, iter, ifs, 0⟩] scope pos) X.env) :: starEach [] X.env := by rfl) :
    PE X (.Call (.Name "all" p) [.GeneratorExp elt [⟨tg, iter, ifs, 0⟩] scope pos] [] pos') (tAsk false P wi g tt te (own.map (·.2))) := by
  refine ⟨fun pins s σ H Q I h => ?_⟩
  refine wpAny_Call_Name_kw (ld_blt I hl hm hb ?_)
  refine callWith_builtin1 ?_ hst (by rfl)
  rw [hst]
  show wpAny _ _ (spliced ((false, eval (.GeneratorExp elt [⟨tg, iter, ifs, 0⟩] scope pos) X.env) :: backTo pos' (starEach [] X.env))) _ _ s
  refine Calls.spliced_cons (gen_made hr TB hcode hc hN hi ok gn.nocell gn.dot gn.plain hg ht he hs I h fun Z τ a j n go gs s5 hp hw hpn hgo hgs hG hga hlim hend => ?_)
  refine Calls.spliced_nil (call_function_tree F.kind_all F.plain_all F.entry_all (F.args_all1 _) ?_)
  unfold Builtin.«all»
  refine wpAny_bind (m := oneArg "all" _) (wpAny_pure (wpAny_bind (wpAny_pyIter_gen (hgo _ hga) ?_)))
  refine wpAny_pure ⟨plainId_quiet F.plain_all_loop _, ?_⟩
  rw [← hp, ← hw] at hG ⊢
  exact all_loop (A := X.A) hr.hd hr.depth hpn hgo hend n s5 gs hgs hG hga hlim
theorem pe_any {p pos' : Pos} (hr : Room (k + 1) X.A) (hl : Gl X "any") (hm : X.mg "any" = none) (TB : TabB X.base X.mg c P) (hcode : X.env.code = .ref c) (hc : X.calm = true) (hN : X.N.Nodup) (hi : PI X tg iter wi) (ok : BlkOk X.N X.env.scope scope own) (gn : GenNames scope)
    (hg : ∀ (A : Around) (s : Shared) (H : Hp) (C : Addr) (code : Value) (fp : List Addr) (pn : List (Addr × Obj)), PG (gcx X A s H (genEnv scope (cloFrom X.env.cells scope.names []) C code builtinsNs X.env) fp pn) tg g)
    (ht : ∀ (A : Around) (s : Shared) (H : Hp) (C : Addr) (code : Value) (fp : List Addr) (pn : List (Addr × Obj)), Room k (A.deeper (genEnv scope (cloFrom X.env.cells scope.names []) C code builtinsNs X.env)) → PTs (gcx X A s H (genEnv scope (cloFrom X.env.cells scope.names []) C code builtinsNs X.env) fp pn) ifs tt)
    (he : ∀ (A : Around) (s : Shared) (H : Hp) (C : Addr) (code : Value) (fp : List Addr) (pn : List (Addr × Obj)), Room k (A.deeper (genEnv scope (cloFrom X.env.cells scope.names []) C code builtinsNs X.env)) → PE (gcx X A s H (genEnv scope (cloFrom X.env.cells scope.names []) C code builtinsNs X.env) fp pn) elt te)
    (hs : ∀ v, genFold iter X.env v = pure v := by intro _; rfl) (hb : bootBuiltins "any" = some (.builtin "any") := by decide +kernel)
    (hst : starEach [.GeneratorExp elt [⟨tg, iter, ifs, 0⟩] scope pos] X.env = (false, eval (.GeneratorExp elt [⟨tg, iter, ifs, 0⟩] scope pos) X.env) :: starEach [] X.env := by rfl) :
    PE X (.Call (.Name "any" p) [.GeneratorExp elt [⟨tg, iter, ifs, 0⟩] scope pos] [] pos') (tAsk true P wi g tt te (own.map (·.2))) := by
  refine ⟨fun pins s σ H Q I h => ?_⟩
  refine wpAny_Call_Name_kw (ld_blt I hl hm hb ?_)
  refine callWith_builtin1 ?_ hst (by rfl)
  rw [hst]
  show wpAny _ _ (spliced ((false, eval (.GeneratorExp elt [⟨tg, iter, ifs, 0⟩] scope pos) X.env) :: backTo pos' (starEach [] X.env))) _ _ s
  refine Calls.spliced_cons (gen_made hr TB hcode hc hN hi ok gn.nocell gn.dot gn.plain hg ht he hs I h fun Z τ a j n go gs s5 hp hw hpn hgo hgs hG hga hlim hend => ?_)
  refine Calls.spliced_nil (call_function_tree F.kind_any F.plain_any F.entry_any (F.args_any1 _) ?_)
  unfold Builtin.«any»
  refine wpAny_bind (m := oneArg "any" _) (wpAny_pure (wpAny_bind (wpAny_pyIter_gen (hgo _ hga) ?_)))
  refine wpAny_pure ⟨plainId_quiet F.plain_any_loop _, ?_⟩
  rw [← hp, ← hw] at hG ⊢
  exact any_loop (A := X.A) hr.hd hr.depth hpn hgo hend n s5 gs hgs hG hga hlim
end
end GX

set_option Elab.async false
set_option linter.all false
set_option maxRecDepth 100000
/-! The law's drawing: _law_begun, _law_draw, _law_pick. -/
namespace K02
open PySem PySem.Spec L2
open PyProof.Rows
def top (i : Nat) : Stmt := PySem.Challenge.pw_restsure_k03_whole_sure_readings_are_lea.main.body.getD i (.Pass ⟨0, 0, 0, 0⟩)
abbrev sBegun : Stmt := top 37 -- _law_begun
abbrev sDraw : Stmt := top 38 -- _law_draw
abbrev sPick : Stmt := top 39 -- _law_pick

/-! ### the state of the draws -/
abbrev kLarge : Key := Sum.inr ("large" : Str)
abbrev kCells : Key := Sum.inr ("cells" : Str)
abbrev kLeft : Key := Sum.inr ("left" : Str)
abbrev kTurn : Key := Sum.inr ("turn" : Str)
def stD (lg cl : Addr) (left turn : Int) : List (Key × V) := [(kLarge, .ref lg), (kCells, .ref cl), (kLeft, .int left), (kTurn, .int turn)]
theorem sne1 : ¬ ("large" : Str) = "cells" := by decide +kernel
theorem sne2 : ¬ ("large" : Str) = "left" := by decide +kernel
theorem sne3 : ¬ ("large" : Str) = "turn" := by decide +kernel
theorem sne4 : ¬ ("cells" : Str) = "left" := by decide +kernel
theorem sne5 : ¬ ("cells" : Str) = "turn" := by decide +kernel
theorem sne6 : ¬ ("left" : Str) = "turn" := by decide +kernel
theorem sne7 : ¬ ("turn" : Str) = "left" := by decide +kernel
theorem kne1 : ¬ kLarge = kCells := fun z => sne1 (Sum.inr.inj z)
theorem kne2 : ¬ kLarge = kLeft := fun z => sne2 (Sum.inr.inj z)
theorem kne3 : ¬ kLarge = kTurn := fun z => sne3 (Sum.inr.inj z)
theorem kne4 : ¬ kCells = kLeft := fun z => sne4 (Sum.inr.inj z)
theorem kne5 : ¬ kCells = kTurn := fun z => sne5 (Sum.inr.inj z)
theorem kne6 : ¬ kLeft = kTurn := fun z => sne6 (Sum.inr.inj z)
theorem st_large (lg cl : Addr) (a b : Int) : valV (stD lg cl a b) kLarge = some (.ref lg) := valV_pos rfl
theorem st_cells (lg cl : Addr) (a b : Int) : valV (stD lg cl a b) kCells = some (.ref cl) := by
  unfold stD
  rw [valV_neg kne1]
  exact valV_pos rfl
theorem st_left (lg cl : Addr) (a b : Int) : valV (stD lg cl a b) kLeft = some (.int a) := by
  unfold stD
  rw [valV_neg kne2, valV_neg kne4]
  exact valV_pos rfl
theorem st_turn (lg cl : Addr) (a b : Int) : valV (stD lg cl a b) kTurn = some (.int b) := by
  unfold stD
  rw [valV_neg kne3, valV_neg kne5, valV_neg kne6]
  exact valV_pos rfl
theorem put_left (lg cl : Addr) (a b c : Int) : putK (stD lg cl a b) kLeft (.int c) = stD lg cl c b := by
  unfold putK stD
  simp [sne2, sne4, sne7]
theorem put_turn (lg cl : Addr) (a b c : Int) : putK (stD lg cl a b) kTurn (.int c) = stD lg cl a c := by
  unfold putK stD
  simp [sne3, sne5, sne6]

theorem merge_st (lg cl : Addr) (a b : Int) : mergeK [] (stD lg cl a b) = stD lg cl a b := by
  unfold mergeK putK stD
  simp [sne1, sne2, sne3, sne4, sne5, sne6]
structure StAt (H : Hp) (st lg cl : Addr) (ls cs : List Int) (left turn : Int) (t : Nat) : Prop where
  d : H st = some (.dK (stD lg cl left turn))
  l : H lg = some (.lst (ls.map V.int))
  c : H cl = some (.lst (cs.map V.int))
  lp : ∀ x ∈ ls, 0 ≤ x
  l0 : 0 ≤ left
  t0 : 0 ≤ turn
  tt : turn ≤ t
  ll : ls.length ≤ 63
  cc : cs.length ≤ 63
  ne : lg ≠ cl
/-- the state of the draws stands at st, its lists at lg and cl; at most t turns are done -/
def StOk (H : Hp) (st lg cl : Addr) (t : Nat) : Prop := ∃ ls cs left turn, StAt H st lg cl ls cs left turn t
theorem StAt.ne1 {H : Hp} {st lg cl : Addr} {ls cs : List Int} {left turn : Int} {t : Nat} (S : StAt H st lg cl ls cs left turn t) : lg ≠ st := ne_of S.l S.d (by intro z; cases z)
theorem StAt.ne2 {H : Hp} {st lg cl : Addr} {ls cs : List Int} {left turn : Int} {t : Nat} (S : StAt H st lg cl ls cs left turn t) : cl ≠ st := ne_of S.c S.d (by intro z; cases z)
theorem StAt.keep {H H' : Hp} {st lg cl : Addr} {ls cs : List Int} {left turn : Int} {t : Nat} (S : StAt H st lg cl ls cs left turn t) (k : Same H H') : StAt H' st lg cl ls cs left turn t :=
  ⟨k _ _ S.d, k _ _ S.l, k _ _ S.c, S.lp, S.l0, S.t0, S.tt, S.ll, S.cc, S.ne⟩
theorem StOk.keep {H H' : Hp} {st lg cl : Addr} {t : Nat} (S : StOk H st lg cl t) (k : Same H H') : StOk H' st lg cl t := by
  obtain ⟨ls, cs, left, turn, S⟩ := S
  exact ⟨ls, cs, left, turn, S.keep k⟩
/-- all but the state of the draws is as it was -/
def But (st lg : Addr) (H H' : Hp) : Prop := ∀ b o, H b = some o → b ≠ st → b ≠ lg → H' b = some o
theorem But.refl (st lg : Addr) (H : Hp) : But st lg H H := fun _ _ h _ _ => h
theorem But.trans {st lg : Addr} {H H1 H2 : Hp} (a : But st lg H H1) (b : But st lg H1 H2) : But st lg H H2 := fun c o h n1 n2 => b c o (a c o h n1 n2) n1 n2
theorem But.of {st lg : Addr} {H H' : Hp} (k : Same H H') : But st lg H H' := fun c o h _ _ => k c o h
theorem same_new {H : Hp} {p : Addr} {o : HO} (h : H p = none) : Same H (upd H p o) := fun b x e => by
  rw [upd_ne (ne_of_none e h)]
  exact e
theorem but_st {st lg : Addr} {H : Hp} {o : HO} : But st lg H (upd H st o) := fun b x e n1 _ => by
  rw [upd_ne n1]
  exact e
theorem but_lg {st lg : Addr} {H : Hp} {o : HO} : But st lg H (upd H lg o) := fun b x e _ n2 => by
  rw [upd_ne n2]
  exact e

theorem StAt.gLarge {H : Hp} {st lg cl : Addr} {ls cs : List Int} {left turn : Int} {t : Nat} (S : StAt H st lg cl ls cs left turn t) : DGet H st (.str "large") (some (.ref lg)) := by
  rw [← st_large lg cl left turn]
  exact DGet.k (k := kLarge) S.d
theorem StAt.gCells {H : Hp} {st lg cl : Addr} {ls cs : List Int} {left turn : Int} {t : Nat} (S : StAt H st lg cl ls cs left turn t) : DGet H st (.str "cells") (some (.ref cl)) := by
  rw [← st_cells lg cl left turn]
  exact DGet.k (k := kCells) S.d
theorem StAt.gLeft {H : Hp} {st lg cl : Addr} {ls cs : List Int} {left turn : Int} {t : Nat} (S : StAt H st lg cl ls cs left turn t) : DGet H st (.str "left") (some (.int left)) := by
  rw [← st_left lg cl left turn]
  exact DGet.k (k := kLeft) S.d
theorem StAt.gTurn {H : Hp} {st lg cl : Addr} {ls cs : List Int} {left turn : Int} {t : Nat} (S : StAt H st lg cl ls cs left turn t) : DGet H st (.str "turn") (some (.int turn)) := by
  rw [← st_turn lg cl left turn]
  exact DGet.k (k := kTurn) S.d
theorem StAt.pLeft {H : Hp} {st lg cl : Addr} {ls cs : List Int} {left turn : Int} {t : Nat} (S : StAt H st lg cl ls cs left turn t) (v : Int) : DPut H st (.str "left") (.int v) (upd H st (.dK (stD lg cl v turn))) := by
  rw [← put_left lg cl left turn v]
  exact DPut.k (k := kLeft) S.d (small1000 (by show 4 ≤ 1000; decide))
theorem StAt.pTurn {H : Hp} {st lg cl : Addr} {ls cs : List Int} {left turn : Int} {t : Nat} (S : StAt H st lg cl ls cs left turn t) (v : Int) : DPut H st (.str "turn") (.int v) (upd H st (.dK (stD lg cl left v))) := by
  rw [← put_turn lg cl left turn v]
  exact DPut.k (k := kTurn) S.d (small1000 (by show 4 ≤ 1000; decide))
theorem StAt.setLeft {H : Hp} {st lg cl : Addr} {ls cs : List Int} {left turn : Int} {t : Nat} (S : StAt H st lg cl ls cs left turn t) {v : Int} (hv : 0 ≤ v) : StAt (upd H st (.dK (stD lg cl v turn))) st lg cl ls cs v turn t :=
  ⟨upd_same, by rw [upd_ne S.ne1]; exact S.l, by rw [upd_ne S.ne2]; exact S.c, S.lp, hv, S.t0, S.tt, S.ll, S.cc, S.ne⟩
theorem StAt.setTurn {H : Hp} {st lg cl : Addr} {ls cs : List Int} {left turn : Int} {t : Nat} (S : StAt H st lg cl ls cs left turn t) : StAt (upd H st (.dK (stD lg cl left (turn + 1)))) st lg cl ls cs left (turn + 1) (t + 1) :=
  ⟨upd_same, by rw [upd_ne S.ne1]; exact S.l, by rw [upd_ne S.ne2]; exact S.c, S.lp, S.l0, Int.le_add_one S.t0, by have := S.tt; omega, S.ll, S.cc, S.ne⟩
theorem StAt.pop {H : Hp} {st lg cl : Addr} {x : Int} {ls cs : List Int} {left turn : Int} {t : Nat} (S : StAt H st lg cl (x :: ls) cs left turn t) : StAt (upd H lg (.lst (ls.map V.int))) st lg cl ls cs left turn t :=
  ⟨by rw [upd_ne S.ne1.symm]; exact S.d, upd_same, by rw [upd_ne S.ne.symm]; exact S.c, fun y hy => S.lp y (List.mem_cons_of_mem _ hy), S.l0, S.t0, S.tt, Nat.le_of_succ_le S.ll, S.cc, S.ne⟩

theorem StAt.more {H : Hp} {st lg cl : Addr} {ls cs : List Int} {left turn : Int} {t : Nat} (S : StAt H st lg cl ls cs left turn t) : StAt H st lg cl ls cs left turn (t + 1) :=
  ⟨S.d, S.l, S.c, S.lp, S.l0, S.t0, by have := S.tt; omega, S.ll, S.cc, S.ne⟩
theorem StAt.lstL {K : PySem.W.Frag} {H : Hp} {st lg cl : Addr} {ls cs : List Int} {left turn : Int} {t : Nat} (S : StAt H st lg cl ls cs left turn t) : SqL K H lg (ls.map V.int) := .inl (.inl S.l)
theorem StAt.lstC {K : PySem.W.Frag} {H : Hp} {st lg cl : Addr} {ls cs : List Int} {left turn : Int} {t : Nat} (S : StAt H st lg cl ls cs left turn t) : SqL K H cl (cs.map V.int) := .inl (.inl S.c)

theorem seq0 (n : Nat) : seqIndex? 0 (n + 1) = some 0 := by
  unfold seqIndex?
  simp
theorem dp_ints {K : PySem.W.Frag} {H : Hp} : ∀ ns : List Int, DpAll K H (ns.map V.int) (ns.map PyData.int)
  | [] => .nil
  | n :: r => .cons (.int n) (dp_ints r)
theorem eqv_nil (ns : List Int) : PyData.eqv (.list (ns.map PyData.int)) (.list []) = ns.isEmpty := by
  cases ns with
  | nil => rfl
  | cons n r => rfl

def spDraw : Sp := fun vs H Q _ => ∃ (st lg cl : Addr) (t : Nat) (n : Int), vs = [.ref st, .int n] ∧ 0 < n ∧ n < 1073741824 ∧ t < 1000000000 ∧ StOk H st lg cl t ∧
  ∀ (k : Int) (H' : Hp), 0 ≤ k → k < n → StOk H' st lg cl (t + 1) → But st lg H H' → Q (.int k) H'

theorem small1 (z : Int) {turn : Int} {t : Nat} (t0 : 0 ≤ turn) (tb : turn ≤ t) (ht : t < 1000000000) : (z % 2147483563 + 40692 * (turn + 1) + 24681).natAbs < 2 ^ 64 := by
  have h1 : 0 ≤ z % 2147483563 := Int.emod_nonneg _ (by decide)
  have h2 : z % 2147483563 < 2147483563 := Int.emod_lt_of_pos _ (by decide)
  omega
theorem small2 (z : Int) {turn : Int} {t : Nat} (t0 : 0 ≤ turn) (tb : turn ≤ t) (ht : t < 1000000000) : (z % 2147483629 + 104917 * (turn + 1)).natAbs < 2 ^ 64 := by
  have h1 : 0 ≤ z % 2147483629 := Int.emod_nonneg _ (by decide)
  have h2 : z % 2147483629 < 2147483629 := Int.emod_lt_of_pos _ (by decide)
  omega

section
variable {P : Program} {w : World} {K : PySem.W.Frag} {mg : Str → Option Value} {base : Heap}
theorem scDraw : FnScope ["state", "size_here", "found", "turn", "cell", "mixed"] ["state", "size_here"] (defScope sDraw) := ⟨rfl, rfl, rfl, by decide +kernel, rfl, by decide +kernel, by decide +kernel⟩
theorem ok_draw {f : Addr} {fd : FuncData} (F : Fun K "_law_draw" "_law_draw" sDraw f fd) (mint : mg "int" = none) (mlen : mg "len" = none) : FnOk P w K mg base CX0 1 f fd ["state", "size_here"] spDraw := by
  refine F.ok scDraw (fun vs H Q E h => ?_) (fun cdv A outer s H vs Q E hr h => ?_)
  · obtain ⟨st, lg, cl, t, n, rfl, _⟩ := h
    rfl
  · obtain ⟨st, lg, cl, t, n, rfl, hn0, hn1, ht, S, q⟩ := h
    have hu := hu_of hr
    have hu64 := hr.units
    refine ⟨_, pss_cons (ps_while PassesOwn.never (pw_and (pt_cmpR op_eq (pe_dget hu (pv 0) pe_str (fun _ _ => rfl)) pe_int (nomark _)) (pw_and1 (pt_cmpR (op_neD hu64) (pe_dget hu (pv 0) pe_str (fun _ _ => rfl)) (pe_lst pa_nil) (nomark _)))).pt
        (pss_one (ps_dput hu (pv 0) pe_str (pe_bm PySem.F.plainAttrs_list PySem.F.slot_list_pop PySem.F.type_list_pop mt_popAt (pe_dget hu (pv 0) pe_str (fun _ _ => rfl)) (pa_cons pe_int pa_nil)) rfl)))
      (pss_cons (ps_if (pt_cmpR op_gt (pe_dget hu (pv 0) pe_str (fun _ _ => rfl)) pe_int (nomark _))
        (pss_cons (ps_set (i := 2) scDraw.nd rfl (Or.inl rfl) (pe_op op_mod (pe_callTy call_int1 (by rfl) mint (by decide +kernel) (pa_cons (pe_dget hu (pv 0) pe_str (fun _ _ => rfl)) pa_nil)) (pv 1)))
          (pss_cons (ps_dput hu (pv 0) pe_str (pe_op op_fdiv (pe_dget hu (pv 0) pe_str (fun _ _ => rfl)) (pv 1)) rfl)
            (pss_one (ps_ret (pv 2))))) pss_nil)
      (pss_cons (ps_set (i := 3) scDraw.nd rfl (Or.inl rfl) (pe_op op_add (pe_dget hu (pv 0) pe_str (fun _ _ => rfl)) pe_int))
      (pss_cons (ps_dput hu (pv 0) pe_str (pv 3) rfl)
      (pss_cons (ps_set (i := 4) scDraw.nd rfl (Or.inl rfl) (pe_ifExp (pt_cmpR (op_neD hu64) (pe_dget hu (pv 0) pe_str (fun _ _ => rfl)) (pe_lst pa_nil) (nomark _))
        (pe_ix ix_list (pe_dget hu (pv 0) pe_str (fun _ _ => rfl)) (pe_op op_mod (pe_callTy call_int1 (by rfl) mint (by decide +kernel) (pa_cons (pv 3) pa_nil)) (pe_callB call_len_seq (by rfl) mlen PySem.boot_len (pa_cons (pe_dget hu (pv 0) pe_str (fun _ _ => rfl)) pa_nil))) (fun _ _ => rfl)) pe_int))
      (pss_cons (ps_set (i := 5) scDraw.nd rfl (Or.inl rfl) (pe_op op_mod (pe_callTy call_int1 (by rfl) mint (by decide +kernel) (pa_cons (pe_op op_pow (pe_op op_add (pe_op op_add (pe_op op_mod (pe_callTy call_int1 (by rfl) mint (by decide +kernel) (pa_cons (pv 4) pa_nil)) pe_int) (pe_op op_mul pe_int (pv 3))) pe_int) pe_int) pa_nil)) pe_int))
      (pss_one (ps_ret (pe_op op_mod (pe_callTy call_int1 (by rfl) mint (by decide +kernel) (pa_cons (pe_op op_fdiv (pe_op op_mod (pe_callTy call_int1 (by rfl) mint (by decide +kernel) (pa_cons (pe_op op_pow (pe_op op_add (pv 5) (pe_op op_mul pe_int (pv 3))) pe_int) pa_nil)) pe_int) pe_int) pa_nil)) (pv 1))))))))), ?_⟩
    obtain ⟨ls0, cs, left0, turn, S0⟩ := S
    refine ⟨fun m σ H1 => σ = [some (.ref st), some (.int n), none, none, none, none] ∧ ∃ ls left, m = ls.length ∧ StAt H1 st lg cl ls cs left turn t ∧ But st lg H H1, ⟨_, rfl, ls0, left0, rfl, S0, But.refl _ _ _⟩, fun m σ H1 hW => ?_⟩
    obtain ⟨rfl, ls, left, rfl, S1, B1⟩ := hW
    refine ⟨_, rfl, st, _, rfl, S1.gLeft, rfl, _, rfl, ite2 (fun e => ?ga) (fun e => iteF ?gb)⟩
    case' ga =>
      refine ⟨_, rfl, st, _, rfl, S1.gLarge, Nat.zero_le _, fun p np => ⟨.list (ls.map PyData.int), .list [], .lst (S1.keep (same_new np)).lstL (dp_ints ls), .lst (.inl (.inl upd_same)) .nil, PySem.W.ke_shaped_ints ls, PySem.W.ke_shaped_ints [], _, rfl, ?_⟩⟩
      have S1 := S1.keep (same_new (o := .lst []) np)
      have B1 := B1.trans (But.of (same_new (o := .lst []) np))
      rcases ls with _ | ⟨x, r⟩
      case cons =>
        refine iteT ⟨fun σ' H' => σ' = [some (.ref st), some (.int n), none, none, none, none] ∧ ∃ left', StAt H' st lg cl r cs left' turn t ∧ But st lg H H', fun σ' H' ⟨e', left', S', B'⟩ => ⟨r.length, Nat.lt_succ_self _, e', r, left', rfl, S', B'⟩, ?_⟩
        have S3 := S1.pop
        exact ⟨_, rfl, st, _, rfl, S1.gLarge, .inl ⟨rfl, _, S1.lstL⟩, lg, _, 0, 0, .int x, rfl, rfl, S1.l, by decide, by decide, seq0 _, rfl, _, rfl, st, _, rfl, S3.pLeft x, rfl, x, S3.setLeft (S1.lp x (List.mem_cons_self ..)), B1.trans (but_lg.trans but_st)⟩
      refine iteF ?_
    all_goals
      -- if state['left'] > 0
      refine ⟨_, rfl, st, _, rfl, S1.gLeft, _, _, rfl, rfl, _, rfl, ite2 (fun e => ?_) (fun e => ?_)⟩
      · -- some are left
        refine ⟨_, rfl, st, _, rfl, S1.gLeft, .inl ⟨_, rfl, _, rfl, _, _, rfl, rfl, hn0, ?_⟩⟩
        refine ⟨_, rfl, st, _, rfl, S1.gLeft, _, rfl, _, _, rfl, rfl, ⟨hn0, hn1⟩, _, rfl, st, _, rfl, S1.pLeft _, _, rfl, ?_⟩
        exact q _ _ (Int.emod_nonneg _ (Int.ne_of_gt hn0)) (Int.emod_lt_of_pos _ hn0) ⟨_, _, _, _, (S1.setLeft (Int.ediv_nonneg S1.l0 (Int.le_of_lt hn0))).more⟩ (B1.trans but_st)
      · -- turn = state['turn'] + 1; state['turn'] = turn
        refine ⟨_, rfl, st, _, rfl, S1.gTurn, _, _, rfl, rfl, _, rfl, _, rfl, st, _, rfl, S1.pTurn _, ?_⟩
        have S2 := S1.setTurn
        have B2 := B1.trans (but_st (o := .dK (stD lg cl left (turn + 1))))
        refine ⟨_, rfl, st, _, rfl, S2.gCells, Nat.zero_le _, fun p2 np2 => ⟨.list (cs.map PyData.int), .list [], .lst (S2.keep (same_new np2)).lstC (dp_ints cs), .lst (.inl (.inl upd_same)) .nil, PySem.W.ke_shaped_ints cs, PySem.W.ke_shaped_ints [], _, rfl, ?_⟩⟩
        have S3 := S2.keep (same_new (o := .lst []) np2)
        have B3 := B2.trans (But.of (same_new (o := .lst []) np2))
        have tb := S1.tt
        have t0 := S1.t0
        rcases cs with _ | ⟨y, r⟩
        case' cons =>
          have hpos : (0 : Int) < ((y :: r).map V.int).length := by
            rw [List.length_map, List.length_cons]
            omega
          have i0 : 0 ≤ (turn + 1) % (((y :: r).map V.int).length : Int) := Int.emod_nonneg _ (Int.ne_of_gt hpos)
          have i1 : (turn + 1) % (((y :: r).map V.int).length : Int) < ((y :: r).map V.int).length := Int.emod_lt_of_pos _ hpos
          obtain ⟨j, hj⟩ : ∃ j : Nat, (turn + 1) % (((y :: r).map V.int).length : Int) = j := ⟨_, (Int.toNat_of_nonneg i0).symm⟩
          rw [hj] at i1
          have j1 : j < (y :: r).length := by
            rw [List.length_map] at i1
            omega
          have hat : atI ((y :: r).map V.int) ((turn + 1) % (((y :: r).map V.int).length : Int)) = some (.int ((y :: r)[j])) := by
            rw [hj]
            refine atI_nat ?_
            rw [List.getElem?_map, List.getElem?_eq_getElem j1]
            rfl
          refine iteT ⟨_, rfl, st, _, rfl, S3.gCells, _, rfl, .inl ⟨_, rfl, _, rfl, st, _, rfl, S3.gCells, cl, _, rfl, .inl S3.lstC, _, _, rfl, rfl, hpos, cl, _, _, _, rfl, rfl, S3.lstC, hat, ?_⟩⟩
        case' nil => refine iteF ?_
        all_goals
          -- mixed = ..
          refine ⟨_, rfl, .inl ⟨_, rfl, _, _, rfl, rfl, (by show (0 : Int) < 2147483563; decide), _, rfl, _, _, rfl, rfl, .inl ⟨by decide, by decide⟩, _, _, rfl, rfl, _, _, rfl, rfl, _, _, rfl, rfl, ⟨by decide, by decide, small1 _ t0 tb ht⟩, .inl ⟨_, rfl, _, _, rfl, rfl, (by show (0 : Int) < 2147483629; decide), ?_⟩⟩⟩
          -- return ..
          refine ⟨_, rfl, _, rfl, _, _, rfl, rfl, .inl ⟨by decide, by decide⟩, _, _, rfl, rfl, _, _, rfl, rfl, ⟨by decide, by decide, small2 _ t0 tb ht⟩, .inl ⟨_, rfl, _, _, rfl, rfl, (by show (0 : Int) < 2147483579; decide), _, _, rfl, rfl, ⟨by decide, by decide⟩, .inl ⟨_, rfl, _, rfl, _, _, rfl, rfl, hn0, ?_⟩⟩⟩
          exact q _ _ (Int.emod_nonneg _ (Int.ne_of_gt hn0)) (Int.emod_lt_of_pos _ hn0) ⟨_, _, _, _, S3⟩ B3
/-! ### _law_begun -/
def absI (z : Int) : Int := if z < 0 then -z else z
theorem absI_nonneg (z : Int) : 0 ≤ absI z := by
  unfold absI
  split <;> omega
def big (cs : List Int) : List Int := (cs.filter fun c => decide (10 ^ 18 ≤ c)).map fun c => c - 10 ^ 18
theorem big_nonneg (cs : List Int) : ∀ x ∈ big cs, 0 ≤ x := fun x hx => by
  obtain ⟨y, hy, rfl⟩ := List.mem_map.mp hx
  have h := of_decide_eq_true (List.mem_filter.mp hy).2
  omega
theorem big_len (cs : List Int) : (big cs).length ≤ cs.length := by
  unfold big
  rw [List.length_map]
  exact List.length_filter_le _ _
theorem big_snoc (cs : List Int) (c : Int) : big (cs ++ [c]) = if (10 ^ 18 ≤ c) then big cs ++ [c - 10 ^ 18] else big cs := by
  unfold big
  rw [List.filter_append, List.map_append]
  by_cases h : (10 ^ 18 : Int) ≤ c
  · rw [if_pos h, List.filter_cons_of_pos (by simpa using h)]
    rfl
  · rw [if_neg h, List.filter_cons_of_neg (by simpa using h)]
    simp
theorem take_snoc {α : Type} {xs : List α} {i : Nat} {x : α} (h : xs[i]? = some x) : xs.take (i + 1) = xs.take i ++ [x] := by
  rw [List.take_add_one, h]
  rfl
def spBegun (K : PySem.W.Frag) : Sp := fun vs H Q _ => ∃ (a : Addr) (ns : List Int), vs = [.ref a] ∧ SqL K H a (ns.map V.int) ∧ ns.length ≤ 63 ∧
  ∀ (st lg cl : Addr) (H' : Hp), StOk H' st lg cl 0 → Same H H' → H st = none → H lg = none → H cl = none → Q (.ref st) H'
theorem scBegun : FnScope ["script", "cells_here", "large", "cell"] ["script"] (defScope sBegun) := ⟨rfl, rfl, rfl, by decide +kernel, rfl, by decide +kernel, by decide +kernel⟩
theorem ok_begun {f : Addr} {fd : FuncData} (F : Fun K "_law_begun" "_law_begun" sBegun f fd) (mabs : mg "abs" = none) : FnOk P w K mg base CX0 1 f fd ["script"] (spBegun K) := by
  refine F.ok scBegun (fun vs H Q E h => ?_) (fun cdv A outer s H vs Q E hr h => ?_)
  · obtain ⟨a, ns, rfl, _⟩ := h
    rfl
  · obtain ⟨a, ns, rfl, hS, hl, q⟩ := h
    refine ⟨_, pss_cons (ps_setLc (i := 1) (own := [("cell", 3)]) (g := gName 3) (tt := tYes) rfl scBegun.nd rfl rfl (sw_true rfl rfl rfl (by decide +kernel)) (pi_list (pv 0)) (blkOk_by (N := ["script", "cells_here", "large", "cell"]) (sc := defScope sBegun) (by decide +kernel))
        (fun _ _ _ _ _ => pg_name (i := 3) scBegun.nd rfl (Or.inl rfl)) (fun _ _ _ _ _ => pts_nil) (fun _ _ _ _ _ => pe_callB call_abs (by rfl) mabs (by decide +kernel) (pa_cons (pv 3) pa_nil)))
      (pss_cons (ps_setLc (i := 2) (own := [("cell", 3)]) (g := gName 3) rfl scBegun.nd rfl rfl (sw_true rfl rfl rfl (by decide +kernel)) (pi_list (pv 1)) (blkOk_by (N := ["script", "cells_here", "large", "cell"]) (sc := defScope sBegun) (by decide +kernel))
        (fun _ _ _ _ _ => pg_name (i := 3) scBegun.nd rfl (Or.inl rfl)) (fun _ _ _ _ _ => pts_one (pt_cmpR op_ge (pv 3) (pe_op op_pow pe_int pe_int) (nomark _))) (fun _ _ _ _ _ => pe_op op_sub (pv 3) (pe_op op_pow pe_int pe_int)))
      (pss_one (ps_ret (pe_disp (pps_cons pe_str (pv 2) (pps_cons pe_str (pv 1) (pps_cons pe_str pe_int (pps_cons pe_str pe_int pps_nil)))) (by rfl) (by rfl) (fun z => by cases z) (by decide))))), ?_⟩
    refine ⟨_, rfl, a, rfl, ⟨_, hS⟩, fun D nD => lc_list (K := K) (a := a) (xs := ns.map V.int) (fun i H1 => Same H H1 ∧ H1 D = some (.lst (((ns.take i).map absI).map V.int))) ⟨same_new nD, upd_same⟩ (fun i H1 _ h1 => h1.1.seq hS) (fun i x H1 hi ⟨s1, e1⟩ => ?_) (fun H1 ⟨s1, e1⟩ => ?_)⟩
    · rw [List.getElem?_map] at hi
      obtain ⟨z, hz, rfl⟩ := Option.map_eq_some_iff.mp hi
      have hlt : i < ns.length := (List.getElem?_eq_some_iff.mp hz).1
      refine ⟨rfl, _, rfl, z, rfl, _, e1, ?_, fun b o e => ?_, ?_⟩
      · rw [List.length_map, List.length_map, List.length_take]
        exact small1000 (by omega)
      · rw [upd_ne (ne_of_none e nD)]
        exact s1 b o e
      · rw [upd_same, take_snoc hz, List.map_append, List.map_append]
        rfl
    · have e1' : H1 D = some (.lst ((ns.map absI).map V.int)) := by
        rw [List.length_map, List.take_length] at e1
        exact e1
      clear e1
      have hS1 : SqL K H1 D ((ns.map absI).map V.int) := .inl (.inl e1')
      refine ⟨_, rfl, D, rfl, ⟨_, hS1⟩, fun D2 nD2 => lc_list (K := K) (a := D) (xs := (ns.map absI).map V.int) (fun i H2 => Same H1 H2 ∧ H2 D2 = some (.lst ((big ((ns.map absI).take i)).map V.int))) ⟨same_new nD2, upd_same⟩ (fun i H2 _ h2 => h2.1.seq hS1) (fun i x H2 hi ⟨s2, e2⟩ => ?_) (fun H2 ⟨s2, e2⟩ => ?_)⟩
      · rw [List.getElem?_map] at hi
        obtain ⟨z, hz, rfl⟩ := Option.map_eq_some_iff.mp hi
        have hlen : ((big ((ns.map absI).take i)).map V.int).length < sizeLine := by
          have h1 := big_len ((ns.map absI).take i)
          rw [List.length_take, List.length_map] at h1
          rw [List.length_map]
          exact small1000 (by omega)
        refine ⟨rfl, _, rfl, _, _, rfl, rfl, ⟨by decide, by decide, by decide⟩, _, _, rfl, rfl, _, rfl, ite2 (fun hc => ?_) (fun hc => ?_)⟩
        · have hc : (10 ^ 18 : Int) ≤ z := of_decide_eq_true hc
          refine ⟨_, rfl, _, _, rfl, rfl, ⟨by decide, by decide, by decide⟩, _, _, rfl, rfl, _, e2, hlen, fun b o e => ?_, ?_⟩
          · rw [upd_ne (ne_of_none e nD2)]
            exact s2 b o e
          · rw [upd_same, take_snoc hz, big_snoc, if_pos hc, List.map_append]
            rfl
        · have hc : ¬ (10 ^ 18 : Int) ≤ z := fun z' => hc (decide_eq_true z')
          refine ⟨s2, ?_⟩
          rw [take_snoc hz, big_snoc, if_neg hc]
          exact e2
      · have e2' : H2 D2 = some (.lst ((big (ns.map absI)).map V.int)) := by
          rw [List.length_map, List.take_length] at e2
          exact e2
        have e1'' : H2 D = some (.lst ((ns.map absI).map V.int)) := s2 _ _ e1'
        intro p np
        refine ⟨_, rfl, _, rfl, upd_same, stD D2 D 0 0, rfl, (by show 4 ≤ 15; decide), ?_⟩
        rw [merge_st]
        have n1 : D ≠ D2 := fun z => by
          rw [z, nD2] at e1'
          cases e1'
        have up : upd (upd H2 p (HO.dK [])) p (.dK (stD D2 D 0 0)) = upd H2 p (.dK (stD D2 D 0 0)) := by
          funext b
          by_cases hb : b = p
          · rw [hb, upd_same, upd_same]
          · rw [upd_ne hb, upd_ne hb, upd_ne hb]
        rw [up]
        refine q p D2 D _ ⟨big (ns.map absI), ns.map absI, 0, 0, upd_same, ?_, ?_, big_nonneg _, Int.le_refl _, Int.le_refl _, Int.le_refl _, ?_, ?_, n1.symm⟩ (fun b o e => same_new np _ _ (s2 _ _ (s1 _ _ e))) (s1.free (s2.free np)) (s1.free nD2) nD
        · rw [upd_ne (ne_of_none e2' np)]
          exact e2'
        · rw [upd_ne (ne_of_none e1'' np)]
          exact e1''
        · have h1 := big_len (ns.map absI)
          rw [List.length_map] at h1
          omega
        · rw [List.length_map]
          exact hl

/-! ### _law_pick -/
def spPick (K : PySem.W.Frag) : Sp := fun vs H Q _ => ∃ (st lg cl a : Addr) (t : Nat) (xs : List V), vs = [.ref st, .ref a] ∧ 0 < xs.length ∧ xs.length ≤ 1000 ∧ a ≠ st ∧ a ≠ lg ∧ SqL K H a xs ∧ t < 1000000000 ∧ StOk H st lg cl t ∧
  ∀ (x : V) (H' : Hp), x ∈ xs → StOk H' st lg cl (t + 1) → But st lg H H' → Q x H'
theorem But.seq {st lg a : Addr} {H H' : Hp} {xs : List V} (k : But st lg H H') (n1 : a ≠ st) (n2 : a ≠ lg) (h : SqL K H a xs) : SqL K H' a xs := by
  rcases h with (h | ⟨o, h⟩) | h
  · exact .inl (.inl (k _ _ h n1 n2))
  · exact .inl (.inr ⟨o, k _ _ h n1 n2⟩)
  · exact .inr h
theorem scPick : FnScope ["state", "several"] ["state", "several"] (defScope sPick) := ⟨rfl, rfl, rfl, by decide +kernel, rfl, by decide +kernel, by decide +kernel⟩
theorem ok_pick {f fD : Addr} {fd fdD : FuncData} (F : Fun K "_law_pick" "_law_pick" sPick f fd) (mlen : mg "len" = none) (GD : FnOk P w K mg base CX0 1 fD fdD ["state", "size_here"] spDraw) (kD : PySem.W.keepIn K (.ref fD) = true) (bD : Binds K fdD ["state", "size_here"] []) (mD : mg "_law_draw" = some (.ref fD)) :
    FnOk P w K mg base CX0 2 f fd ["state", "several"] (spPick K) := by
  refine F.ok scPick (fun vs H Q E h => ?_) (fun cdv A outer s H vs Q E hr h => ?_)
  · obtain ⟨st, lg, cl, a, t, xs, rfl, _⟩ := h
    rfl
  · obtain ⟨st, lg, cl, a, t, xs, rfl, h0, h1, n1, n2, hS, ht, S, q⟩ := h
    refine ⟨_, pss_one (ps_ret (pe_ix ix_list (pv 1) (pe_call GD hr (by rfl) mD kD bD .nil pass0 (pa_cons (pv 0) (pa_cons (pe_callB call_len_seq (by rfl) mlen PySem.boot_len (pa_cons (pv 1) pa_nil)) pa_nil))) (fun _ _ => rfl))), ?_⟩
    refine ⟨_, rfl, _, rfl, _, rfl, a, xs, rfl, .inl hS, st, lg, cl, t, _, rfl, by omega, by omega, ht, S, fun k H' k0 k1 S' B' => ?_⟩
    obtain ⟨j, rfl⟩ : ∃ j : Nat, k = j := ⟨k.toNat, (Int.toNat_of_nonneg k0).symm⟩
    have j1 : j < xs.length := by omega
    exact ⟨a, xs, _, xs[j], rfl, rfl, B'.seq n1 n2 hS, atI_nat (List.getElem?_eq_getElem j1), q _ _ (List.getElem_mem j1) S' B'⟩
end
end K02

set_option Elab.async false
set_option linter.all false
set_option maxRecDepth 100000
/-! What counts as a number, a bit, a reading, a tuple of bits. -/
namespace K02
open PySem PySem.Spec L2
open PyProof.Rows GenW GxR
open LamX (ExtN)
abbrev sIsNumber : Stmt := top 6 -- is_number
abbrev sIsBelow : Stmt := top 7 -- is_below
abbrev sIsBit : Stmt := top 8 -- is_bit
abbrev sIsReading : Stmt := top 9 -- is_reading
abbrev sIsTupleOf : Stmt := top 10 -- is_tuple_of
abbrev sIsBits : Stmt := top 11 -- is_bits

/-! ### kinds of values -/
def kindsL : List String := ["NoneType", "bool", "int", "str", "list", "tuple", "dict"]
def kitR (t u : String) : Bool := decide (t = u) || (decide (t = "bool") && decide (u = "int"))
theorem kit_all : (kindsL.all fun t => ["int", "bool", "list", "tuple"].all fun u => decide (kitB t u = some (kitR t u))) = true := by decide +kernel
theorem kit_of1 {K : PySem.W.Frag} {t u : String} (ht : t ∈ kindsL) (hu : u ∈ ["int", "bool", "list", "tuple"]) : PySem.W.kitOne K (.type t) (.type u) = some (kitR t u) := by
  have h1 := List.all_eq_true.mp kit_all t ht
  exact kit_ty (of_decide_eq_true (List.all_eq_true.mp h1 u hu))
/-- x is of the kind t -/
structure Ty1 (K : PySem.W.Frag) (H : Hp) (x : V) (t : String) : Prop where
  ty : TyX K H x (.type t)
  mem : t ∈ kindsL
def bel (x : V) (l : Int) : Bool := match x with
  | .int i => decide (0 ≤ i) && decide (i < l)
  | _ => false
theorem tyInt {K : PySem.W.Frag} {H : Hp} {x : V} {tv : Value} (h : TyX K H x tv) (e : tv = .type "int") : ∃ i, x = .int i := by
  cases h with
  | base b =>
    cases b <;> first
      | exact ⟨_, rfl⟩
      | exact absurd (Value.type.inj e) (by decide)
      | cases e
  | byt => exact absurd (Value.type.inj e) (by decide)
  | set => exact absurd (Value.type.inj e) (by decide)
  | kList => exact absurd (Value.type.inj e) (by decide)
  | kTuple => exact absurd (Value.type.inj e) (by decide)
  | kDict => exact absurd (Value.type.inj e) (by decide)
  | fTuple => exact absurd (Value.type.inj e) (by decide)
  | fDict => exact absurd (Value.type.inj e) (by decide)
theorem Ty1.int {K : PySem.W.Frag} {H : Hp} {x : V} (h : Ty1 K H x "int") : ∃ i, x = .int i := tyInt h.ty rfl
theorem Ty1.notInt {K : PySem.W.Frag} {H : Hp} {x : V} {t : String} (h : Ty1 K H x t) (n : t ≠ "int") (l : Int) : bel x l = false := by
  obtain ⟨h, _⟩ := h
  cases x with
  | int i =>
    cases h with
    | base b =>
      cases b
      exact absurd rfl n
  | _ => rfl
theorem Ty1.ext {K : PySem.W.Frag} {H H' : Hp} {x : V} {t : String} (h : Ty1 K H x t) (e : ExtN H H') : Ty1 K H' x t := by
  obtain ⟨h, m⟩ := h
  refine ⟨?_, m⟩
  cases h with
  | base b =>
    refine .base ?_
    cases b with
    | non => exact .non
    | bl b => exact .bl b
    | int i => exact .int i
    | str z => exact .str z
    | flt z => exact .flt z
    | lst q => exact .lst (e _ _ q fun ps z => by cases z)
    | frz q => exact .frz (e _ _ q fun ps z => by cases z)
    | tup q => exact .tup (e _ _ q fun ps z => by cases z)
    | dK q => exact .dK (e _ _ q fun ps z => by cases z)
    | dT q => exact .dT (e _ _ q fun ps z => by cases z)
  | byt b => exact .byt b
  | set q => exact .set (e _ _ q fun ps z => by cases z)
  | kList q c => exact .kList q c
  | kTuple q c => exact .kTuple q c
  | kDict q c => exact .kDict q c
  | fTuple q => exact .fTuple (e _ _ q fun ps z => by cases z)
  | fDict q => exact .fDict (e _ _ q fun ps z => by cases z)
theorem extN_seqT {K : PySem.W.Frag} {H H' : Hp} {a : Addr} {xs : List V} (e : ExtN H H') (h : SqT K H a xs) : SqT K H' a xs := by
  rcases h with (h | ⟨o, h⟩) | h
  · exact .inl (.inl (e _ _ h fun ps z => by cases z))
  · exact .inl (.inr ⟨o, e _ _ h fun ps z => by cases z⟩)
  · exact .inr h
theorem extN_seqL {K : PySem.W.Frag} {H H' : Hp} {a : Addr} {xs : List V} (e : ExtN H H') (h : SqL K H a xs) : SqL K H' a xs := by
  rcases h with (h | ⟨o, h⟩) | h
  · exact .inl (.inl (e _ _ h fun ps z => by cases z))
  · exact .inl (.inr ⟨o, e _ _ h fun ps z => by cases z⟩)
  · exact .inr h
theorem extN_same {H H' : Hp} (k : Same H H') : ExtN H H' := fun b o e _ => k b o e
theorem extN_tabbed {H H' : Hp} {P : Addr} (k : Tabbed P H H') (t : TabG H P) : ExtN H H' := fun b o e n => by
  by_cases hb : b = P
  · obtain ⟨ps, q, _⟩ := t
    rw [hb, q] at e
    exact absurd (Option.some.inj e).symm (n ps)
  · rw [k.2 b hb]
    exact e

/-! ### what stands but the tables of code objects, which may grow -/
def TabsG (TT : List Addr) (H : Hp) : Prop := ∀ P ∈ TT, TabG H P
structure Ex (TT : List Addr) (H H' : Hp) : Prop where
  keep : ∀ b o, b ∉ TT → H b = some o → H' b = some o
  tabs : TabsG TT H → TabsG TT H'
theorem Ex.refl (TT : List Addr) (H : Hp) : Ex TT H H := ⟨fun _ _ _ e => e, fun t => t⟩
theorem Ex.trans {TT : List Addr} {H H1 H2 : Hp} (a : Ex TT H H1) (b : Ex TT H1 H2) : Ex TT H H2 := ⟨fun c o n e => b.keep c o n (a.keep c o n e), fun t => b.tabs (a.tabs t)⟩
theorem Ex.same {TT : List Addr} {H H' : Hp} (k : Same H H') : Ex TT H H' := ⟨fun b o _ e => k b o e, fun t P hP => by
  obtain ⟨ps, q, r⟩ := t P hP
  exact ⟨ps, k _ _ q, r⟩⟩
theorem Ex.extN {TT : List Addr} {H H' : Hp} (x : Ex TT H H') (t : TabsG TT H) : ExtN H H' := fun b o e n => by
  by_cases hb : b ∈ TT
  · obtain ⟨ps, q, _⟩ := t b hb
    rw [q] at e
    exact absurd (Option.some.inj e).symm (n ps)
  · exact x.keep b o hb e
theorem Ex.tabbed {TT : List Addr} {H H' : Hp} {P : Addr} (hP : P ∈ TT) (k : Tabbed P H H') : Ex TT H H' := ⟨fun b o n e => by
  rw [k.2 b fun z => n (by rw [z]; exact hP)]
  exact e, fun t Q hQ => by
  by_cases hb : Q = P
  · rw [hb]
    exact k.1
  · obtain ⟨ps, q, r⟩ := t Q hQ
    exact ⟨ps, by rw [k.2 Q hb]; exact q, r⟩⟩

section
variable {P : Program} {w : World} {K : PySem.W.Frag} {mg : Str → Option Value} {base : Heap}
/-- a def that makes generator expressions: its code object stands at c -/
theorem okC {x qual : Str} {st : Stmt} {f c : Addr} {fd : FuncData} {N ps : List Str} {k : Nat} {sp : Sp} (F : Fun K x qual st f fd) (hc : fd.code = .ref c) (S : FnScope N ps (defScope st)) (len : ∀ vs H Q E, sp vs H Q E → vs.length = ps.length)
    (hbody : ∀ (A : Around) (outer : List Env) (s : Shared) (H : Hp) (vs : List V) (Q : VK) (E : XK), Room k (A.deeper (envOfC qual (defScope st) s.heap.objs.size f (.ref c))) → sp vs H Q E →
      ∃ t, PSs (cxOf CX0 P w K mg base N qual (defScope st) f (.ref c) A outer s H E).nox (defBody st) t ∧ t { nx := fun _ H' => Q .non H', rt := Q } (start N vs) H) : FnOk P w K mg base CX0 (k + 1) f fd ps sp := by
  obtain ⟨oc, od, kV, doc, pm, an, cdv, ct, osl, rfl, lk, hcd⟩ := F.ex
  have e : cdv = .ref c := hc
  subst e
  refine fn_of lk hcd S len fun A outer s H vs Q E hr hsp => ?_
  obtain ⟨t, h, q⟩ := hbody A outer s H vs Q E hr hsp
  exact ⟨t, h.nox, q⟩

def spNumber (K : PySem.W.Frag) : Sp := fun vs H Q _ => ∃ (x : V) (t : String), vs = [x] ∧ Ty1 K H x t ∧ Q (.bl (decide (t = "int"))) H
theorem scNumber : FnScope ["thing"] ["thing"] (defScope sIsNumber) := ⟨rfl, rfl, rfl, by decide +kernel, rfl, by decide +kernel, by decide +kernel⟩
theorem ok_number {f : Addr} {fd : FuncData} (F : Fun K "is_number" "is_number" sIsNumber f fd) (mi : mg "isinstance" = none) (mint : mg "int" = none) (mbool : mg "bool" = none) : FnOk P w K mg base CX0 1 f fd ["thing"] (spNumber K) := by
  refine F.ok scNumber (fun vs H Q E h => ?_) (fun cdv A outer s H vs Q E hr h => ?_)
  · obtain ⟨x, t, rfl, _⟩ := h
    rfl
  · obtain ⟨x, t, rfl, ht, q⟩ := h
    refine ⟨_, pss_one (ps_ret (pe_and (pe_callB call_isi (by rfl) mi (by decide +kernel) (pa_cons (pv 0) (pa_cons (pe_bltn (v := .ty "int") (u := .type "int") (by rfl) mint (by decide +kernel) rfl) pa_nil)))
      (pe_one (pe_not (pe_callB call_isi (by rfl) mi (by decide +kernel) (pa_cons (pv 0) (pa_cons (pe_bltn (v := .ty "bool") (u := .type "bool") (by rfl) mbool (by decide +kernel) rfl) pa_nil))))))), ?_⟩
    refine ⟨_, rfl, x, .ty "int", _, _, _, rfl, .ty "int", ht.ty, kit_of1 ht.mem (by decide), _, rfl, ?_⟩
    by_cases h1 : t = "int"
    · subst h1
      exact ⟨_, rfl, x, .ty "bool", _, _, _, rfl, .ty "bool", ht.ty, kit_of1 ht.mem (by decide), _, rfl, q⟩
    · by_cases h2 : t = "bool"
      · subst h2
        exact ⟨_, rfl, x, .ty "bool", _, _, _, rfl, .ty "bool", ht.ty, kit_of1 ht.mem (by decide), _, rfl, q⟩
      · have e : kitR t "int" = false := by
          unfold kitR
          rw [decide_eq_false h1, decide_eq_false h2]
          rfl
        rw [e]
        rw [decide_eq_false h1] at q
        exact iteF q

def spBelow (K : PySem.W.Frag) : Sp := fun vs H Q _ => ∃ (x : V) (t : String) (l : Int), vs = [x, .int l] ∧ Ty1 K H x t ∧ Q (.bl (bel x l)) H
theorem scBelow : FnScope ["thing", "limit"] ["thing", "limit"] (defScope sIsBelow) := ⟨rfl, rfl, rfl, by decide +kernel, rfl, by decide +kernel, by decide +kernel⟩
theorem ok_below {f fN : Addr} {fd fdN : FuncData} (F : Fun K "is_below" "is_below" sIsBelow f fd) (GN : FnOk P w K mg base CX0 1 fN fdN ["thing"] (spNumber K)) (kN : PySem.W.keepIn K (.ref fN) = true) (bN : Binds K fdN ["thing"] []) (mN : mg "is_number" = some (.ref fN)) :
    FnOk P w K mg base CX0 2 f fd ["thing", "limit"] (spBelow K) := by
  refine F.ok scBelow (fun vs H Q E h => ?_) (fun cdv A outer s H vs Q E hr h => ?_)
  · obtain ⟨x, t, l, rfl, _⟩ := h
    rfl
  · obtain ⟨x, t, l, rfl, ht, q⟩ := h
    refine ⟨_, pss_one (ps_ret (pe_and (pe_call GN hr (by rfl) mN kN bN .nil pass0 (pa_cons (pv 0) pa_nil)) (pe_one (pe_chain op_le op_lt pe_int (pv 0) (pv 1))))), ?_⟩
    refine ⟨_, rfl, x, t, rfl, ht, _, rfl, ?_⟩
    by_cases h1 : t = "int"
    · subst h1
      obtain ⟨i, rfl⟩ := ht.int
      refine ⟨_, rfl, _, _, rfl, rfl, _, rfl, ite2 (fun hc => ?_) (fun hc => ?_)⟩
      · refine ⟨_, rfl, _, _, rfl, rfl, ?_⟩
        have e : bel (.int i) l = decide (i < l) := by
          show (decide (0 ≤ i) && decide (i < l)) = _
          rw [hc]
          rfl
        rw [e] at q
        exact q
      · have e : bel (.int i) l = false := by
          show (decide (0 ≤ i) && decide (i < l)) = _
          rw [Bool.not_eq_true] at hc
          rw [hc]
          rfl
        rw [e] at q
        exact q
    · rw [ht.notInt h1] at q
      rw [decide_eq_false h1]
      exact iteF q

def spBit (K : PySem.W.Frag) : Sp := fun vs H Q _ => ∃ (x : V) (t : String), vs = [x] ∧ Ty1 K H x t ∧ Q (.bl (bel x 2)) H
theorem scBit : FnScope ["thing"] ["thing"] (defScope sIsBit) := ⟨rfl, rfl, rfl, by decide +kernel, rfl, by decide +kernel, by decide +kernel⟩
theorem ok_bit {f fB : Addr} {fd fdB : FuncData} (F : Fun K "is_bit" "is_bit" sIsBit f fd) (GB : FnOk P w K mg base CX0 2 fB fdB ["thing", "limit"] (spBelow K)) (kB : PySem.W.keepIn K (.ref fB) = true) (bB : Binds K fdB ["thing", "limit"] []) (mB : mg "is_below" = some (.ref fB)) :
    FnOk P w K mg base CX0 3 f fd ["thing"] (spBit K) := by
  refine F.ok scBit (fun vs H Q E h => ?_) (fun cdv A outer s H vs Q E hr h => ?_)
  · obtain ⟨x, t, rfl, _⟩ := h
    rfl
  · obtain ⟨x, t, rfl, ht, q⟩ := h
    refine ⟨_, pss_one (ps_ret (pe_call GB hr (by rfl) mB kB bB .nil pass0 (pa_cons (pv 0) (pa_cons pe_int pa_nil)))), ?_⟩
    exact ⟨_, rfl, x, t, 2, rfl, ht, q⟩

def rdB (x : V) : Bool := decide (x = .non) || bel x 2
def spReading (K : PySem.W.Frag) : Sp := fun vs H Q _ => ∃ (x : V) (t : String), vs = [x] ∧ Ty1 K H x t ∧ Q (.bl (rdB x)) H
theorem scReading : FnScope ["thing"] ["thing"] (defScope sIsReading) := ⟨rfl, rfl, rfl, by decide +kernel, rfl, by decide +kernel, by decide +kernel⟩
theorem ok_reading {f fB : Addr} {fd fdB : FuncData} (F : Fun K "is_reading" "is_reading" sIsReading f fd) (GB : FnOk P w K mg base CX0 3 fB fdB ["thing"] (spBit K)) (kB : PySem.W.keepIn K (.ref fB) = true) (bB : Binds K fdB ["thing"] []) (mB : mg "is_bit" = some (.ref fB)) :
    FnOk P w K mg base CX0 4 f fd ["thing"] (spReading K) := by
  refine F.ok scReading (fun vs H Q E h => ?_) (fun cdv A outer s H vs Q E hr h => ?_)
  · obtain ⟨x, t, rfl, _⟩ := h
    rfl
  · obtain ⟨x, t, rfl, ht, q⟩ := h
    refine ⟨_, pss_one (ps_ret (pe_or (pe_cmpR op_isN (pv 0) pe_non (nomark _)) (pe_one (pe_call GB hr (by rfl) mB kB bB .nil pass0 (pa_cons (pv 0) pa_nil))))), ?_⟩
    refine ⟨_, rfl, rfl, _, rfl, ite2 (fun hc => ?_) (fun hc => ?_)⟩
    · have e : rdB x = true := by
        unfold rdB
        rw [hc]
        rfl
      rw [e] at q
      exact q
    · refine ⟨_, rfl, x, t, rfl, ht, ?_⟩
      have e : rdB x = bel x 2 := by
        unfold rdB
        rw [Bool.not_eq_true] at hc
        rw [hc]
        rfl
      rw [e] at q
      exact q

/-- where x is a tuple, xs are its items -/
def TupV (K : PySem.W.Frag) (H : Hp) (x : V) (t : String) (xs : List V) : Prop := t = "tuple" → ∃ a, x = .ref a ∧ SqT K H a xs
theorem TupV.ext {H H' : Hp} {x : V} {t : String} {xs : List V} (h : TupV K H x t xs) (e : ExtN H H') : TupV K H' x t xs := fun ht => by
  obtain ⟨a, q, s⟩ := h ht
  exact ⟨a, q, extN_seqT e s⟩
def spTupleOf (K : PySem.W.Frag) : Sp := fun vs H Q _ => ∃ (x : V) (t : String) (xs : List V) (n : Int), vs = [x, .int n] ∧ Ty1 K H x t ∧ TupV K H x t xs ∧ Q (.bl (decide (t = "tuple") && decide ((xs.length : Int) = n))) H
theorem scTupleOf : FnScope ["thing", "many"] ["thing", "many"] (defScope sIsTupleOf) := ⟨rfl, rfl, rfl, by decide +kernel, rfl, by decide +kernel, by decide +kernel⟩
theorem ok_tupleOf {f : Addr} {fd : FuncData} (F : Fun K "is_tuple_of" "is_tuple_of" sIsTupleOf f fd) (mi : mg "isinstance" = none) (mtuple : mg "tuple" = none) (mlen : mg "len" = none) : FnOk P w K mg base CX0 1 f fd ["thing", "many"] (spTupleOf K) := by
  refine F.ok scTupleOf (fun vs H Q E h => ?_) (fun cdv A outer s H vs Q E hr h => ?_)
  · obtain ⟨x, t, xs, n, rfl, _⟩ := h
    rfl
  · obtain ⟨x, t, xs, n, rfl, ht, hx, q⟩ := h
    refine ⟨_, pss_one (ps_ret (pe_and (pe_callB call_isi (by rfl) mi (by decide +kernel) (pa_cons (pv 0) (pa_cons (pe_bltn (v := .ty "tuple") (u := .type "tuple") (by rfl) mtuple (by decide +kernel) rfl) pa_nil)))
      (pe_one (pe_cmpR op_eq (pe_callB call_len_seq (by rfl) mlen PySem.boot_len (pa_cons (pv 0) pa_nil)) (pv 1) (nomark _))))), ?_⟩
    refine ⟨_, rfl, x, .ty "tuple", _, _, _, rfl, .ty "tuple", ht.ty, kit_of1 ht.mem (by decide), _, rfl, ?_⟩
    by_cases h1 : t = "tuple"
    · obtain ⟨a, rfl, hS⟩ := hx h1
      subst h1
      refine ⟨_, rfl, a, xs, rfl, .inr hS, _, rfl, rfl, ?_⟩
      have e : decide (V.int (xs.length : Int) = V.int n) = decide ((xs.length : Int) = n) := by
        by_cases h2 : (xs.length : Int) = n
        · rw [h2, decide_eq_true rfl, decide_eq_true rfl]
        · rw [decide_eq_false h2, decide_eq_false fun z => h2 (V.int.inj z)]
      rw [e]
      exact q
    · have e : kitR t "tuple" = false := by
        unfold kitR
        rw [decide_eq_false h1]
        simp
      rw [e]
      rw [decide_eq_false h1] at q
      exact iteF q

def spBits (K : PySem.W.Frag) (TT : List Addr) : Sp := fun vs H Q _ => ∃ (x : V) (t : String) (xs : List V) (n : Int), vs = [x, .int n] ∧ Ty1 K H x t ∧ TupV K H x t xs ∧ (t = "tuple" → ∀ y ∈ xs, ∃ ty, Ty1 K H y ty) ∧ TabsG TT H ∧
  ∀ H', Ex TT H H' → Q (.bl (decide (t = "tuple") && decide ((xs.length : Int) = n) && xs.all fun y => bel y 2)) H'
theorem scBits : FnScope ["thing", "many", "item"] ["thing", "many"] (defScope sIsBits) := ⟨rfl, rfl, rfl, by decide +kernel, rfl, by decide +kernel, by decide +kernel⟩
theorem ok_bits {TT : List Addr} {f fT fB c T : Addr} {fd fdT fdB : FuncData} (F : Fun K "is_bits" "is_bits" sIsBits f fd) (hc : fd.code = .ref c) (TB : TabB base mg c T) (hTT : T ∈ TT) (mall : mg "all" = none)
    (GT : FnOk P w K mg base CX0 1 fT fdT ["thing", "many"] (spTupleOf K)) (kT : PySem.W.keepIn K (.ref fT) = true) (bT : Binds K fdT ["thing", "many"] []) (mT : mg "is_tuple_of" = some (.ref fT))
    (GB : FnOk P w K mg base CX0 3 fB fdB ["thing"] (spBit K)) (kB : PySem.W.keepIn K (.ref fB) = true) (bB : Binds K fdB ["thing"] []) (mB : mg "is_bit" = some (.ref fB)) :
    FnOk P w K mg base CX0 5 f fd ["thing", "many"] (spBits K TT) := by
  refine okC F hc scBits (fun vs H Q E h => ?_) (fun A outer s H vs Q E hr h => ?_)
  · obtain ⟨x, t, xs, n, rfl, _⟩ := h
    rfl
  · obtain ⟨x, t, xs, n, rfl, ht, hx, hys, hT, q⟩ := h
    refine ⟨_, pss_one (ps_ret (pe_and (pe_call GT (hr.mono (by decide)) (by rfl) mT kT bT .nil pass0 (pa_cons (pv 0) (pa_cons (pv 1) pa_nil)))
      (pe_one (GX.pe_all (own := [("item", 2)]) (k := 3) hr (by rfl) mall TB rfl rfl scBits.nd (pi_tup (pv 0)) (blkOk_by (N := ["thing", "many", "item"]) (sc := defScope sIsBits) (by decide +kernel)) (GX.genNames_by (by decide +kernel))
        (fun _ _ _ _ _ _ _ => pg_name (i := 2) scBits.nd rfl (Or.inl rfl)) (fun _ _ _ _ _ _ _ _ => pts_nil) (fun _ _ _ _ _ _ _ hr2 => pe_call GB hr2 (by rfl) mB kB bB .nil pass0 (pa_cons (pv 2) pa_nil)))))), ?_⟩
    refine ⟨_, rfl, _, rfl, x, t, xs, n, rfl, ht, hx, _, rfl, ite2 (fun hb => ?_) (fun hb => ?_)⟩
    · obtain ⟨h1, h2⟩ := (Bool.and_eq_true _ _).mp hb
      have h1 := of_decide_eq_true h1
      obtain ⟨a, rfl, hS⟩ := hx h1
      subst h1
      have q2 : ∀ H', Ex TT H H' → Q (.bl (xs.all fun y => bel y 2)) H' := fun H' e1 => by
        have z := q H' e1
        rw [h2] at z
        exact z
      have hys := hys rfl
      refine ⟨_, rfl, a, rfl, ⟨_, hS⟩, hT T hTT, fun H2 hT2 => ⟨fun i m H3 => m + i = xs.length ∧ Ex TT H H3 ∧ ((xs.take i).all fun y => bel y 2) = true, ⟨xs.length, rfl, Ex.tabbed hTT hT2, rfl⟩, fun i m H3 hW => ?_⟩⟩
      obtain ⟨em, x3, ha⟩ := hW
      have e3 := x3.extN hT
      by_cases hi : i < xs.length
      · refine .inr ⟨⟨xs, xs[i], extN_seqT e3 hS, List.getElem?_eq_getElem hi⟩, fun H4 => Ex TT H H4 ∧ ((xs.take (i + 1)).all fun y => bel y 2) = true, fun H4 ⟨x4, a4⟩ => ⟨m - 1, by omega, by omega, x4, a4⟩, fun y H4 hy => ?_⟩
        obtain ⟨rfl, hy⟩ := hy
        have ey := hy _ (extN_seqT e3 hS)
        obtain ⟨ty, hty⟩ := hys y (List.mem_of_getElem? ey)
        refine ⟨rfl, _, rfl, y, ty, rfl, hty.ext e3, _, rfl, fun hc => ?_, fun hc => ⟨x3, ?_⟩⟩
        · have z := q2 H4 x3
          have e : (xs.all fun y => bel y 2) = false := by
            rw [Bool.eq_false_iff]
            intro z
            have z2 := List.all_eq_true.mp z y (List.mem_of_getElem? ey)
            rw [z2] at hc
            cases hc
          rw [e] at z
          exact z
        · rw [take_snoc ey, List.all_append, ha]
          simpa using hc
      · refine .inl ⟨⟨xs, extN_seqT e3 hS, by omega⟩, ?_⟩
        have z := q2 H3 x3
        rw [List.take_of_length_le (by omega)] at ha
        rw [ha] at z
        exact z
    · rw [Bool.not_eq_true] at hb
      have z := q H (Ex.refl TT H)
      rw [hb] at z
      exact z
end
end K02

set_option Elab.async false
set_option linter.all false
set_option maxRecDepth 100000
/-! The reading of a gate by the program's own sums of places. -/
namespace K02
open PySem PySem.Spec L2
open PyProof.Rows GenW GxR
open LamX (ExtN)
abbrev sTable : Stmt := top 28 -- table_reading

/-! ### a list or a tuple is walked -/
def SeqJ (K : PySem.W.Frag) (H : Hp) (a : Addr) (xs : List V) (J : It) : Prop := (J = Itl K a ∧ SqL K H a xs) ∨ (J = Itt K a ∧ SqT K H a xs)
def iSeq (K : PySem.W.Frag) (tl : TE) : TI := fun σ H R => tl σ H fun x H1 => ∃ (a : Addr) (xs : List V) (J : It), x = .ref a ∧ SeqJ K H1 a xs J ∧ R J H1
theorem pi_seq {X : Cx} {tg l : Expr} {tl : TE} (hl : PE X l tl) : PI X tg l (iSeq X.K tl) := by
  refine ⟨fun pins s σ H R I h => thn (hl.run pins s σ H _ I h) fun v s1 ⟨x, H1, I1, r1, a, xs, J, ex, hJ, q⟩ => ?_⟩
  subst ex
  cases r1
  have fp : ∀ b ∈ [s1.heap.objs.size], FpOk X pins H1 b := fun b hb => by
    rw [List.mem_singleton.mp hb]
    exact I1.fpOk (Nat.le_refl _) (I1.hok.fresh (Nat.le_refl _))
  rcases hJ with ⟨rfl, hq⟩ | ⟨rfl, hq⟩
  · obtain ⟨its, rv, p, hz⟩ := I1.list hq
    exact wpAny_pyIter_list p.isList ⟨_, [s1.heap.objs.size], _, _, H1, rfl, I1.kept (t' := s1.toks) (fun b o e => Heap.get?_push_of_some _ e), turn_list a _, ⟨_, Heap.get?_push_size _ rfl, rfl, rfl⟩, fp, q⟩
  · obtain ⟨its, rv, p, hz⟩ := I1.tuple hq
    exact wpAny_pyIter_tuple (show s1.heap.IsTuple a its.toArray from p) ⟨_, [s1.heap.objs.size], _, _, H1, rfl, I1.kept (t' := s1.toks) (fun b o e => Heap.get?_push_of_some _ e), turn_tuple a _, ⟨_, Heap.get?_push_size _ rfl, rfl, rfl⟩, fp, q⟩
theorem SeqJ.ext {K : PySem.W.Frag} {H H' : Hp} {a : Addr} {xs : List V} {J : It} (h : SeqJ K H a xs J) (e : ExtN H H') : SeqJ K H' a xs J := by
  rcases h with ⟨e1, h⟩ | ⟨e1, h⟩
  · exact .inl ⟨e1, extN_seqL e h⟩
  · exact .inr ⟨e1, extN_seqT e h⟩
theorem for_seq {K : PySem.W.Frag} {a : Addr} {xs : List V} {J : It} {g : TG} {tb : TS} {D : Ends} {σ : L2.St} {H : Hp} (Pv : Nat → L2.St → Hp → Prop) (hJ : SeqJ K H a xs J) (h0 : Pv 0 σ H)
    (hl : ∀ i σ' H', i ≤ xs.length → Pv i σ' H' → SeqJ K H' a xs J)
    (hs : ∀ i x σ H, xs[i]? = some x → Pv i σ H → g x σ H fun σ2 H2 => tb { D with nx := Pv (i + 1), ct := Pv (i + 1), bk := D.nx } σ2 H2) (hd : ∀ σ H, Pv xs.length σ H → D.nx σ H) :
    ∃ W : Nat → Nat → L2.St → Hp → Prop, (∃ m, W 0 m σ H) ∧ ∀ i m σ H, W i m σ H →
      (J.stop i H ∧ D.nx σ H) ∨ (J.go i H ∧ ∃ N : L2.St → Hp → Prop, (∀ σ' H', N σ' H' → ∃ m', m' < m ∧ W (i + 1) m' σ' H') ∧ ∀ x H', J.yld i H x H' → g x σ H' fun σ2 H2 => tb { D with nx := N, ct := N, bk := D.nx } σ2 H2) := by
  refine ⟨fun i m σ H => m + i = xs.length ∧ Pv i σ H, ⟨xs.length, rfl, h0⟩, ?_⟩
  rintro i m σ1 H1 ⟨em, p⟩
  have hJ1 := hl i σ1 H1 (by omega) p
  by_cases hi : i < xs.length
  · have step : ∀ x, xs[i]? = some x → g x σ1 H1 fun σ2 H2 => tb { D with nx := Pv (i + 1), ct := Pv (i + 1), bk := D.nx } σ2 H2 := fun x hx => hs i x σ1 H1 hx p
    have nxt : ∀ σ' H', Pv (i + 1) σ' H' → ∃ m', m' < m ∧ m' + (i + 1) = xs.length ∧ Pv (i + 1) σ' H' := fun σ' H' p' => ⟨m - 1, by omega, by omega, p'⟩
    rcases hJ1 with ⟨rfl, hq⟩ | ⟨rfl, hq⟩
    · exact .inr ⟨⟨xs, xs[i], hq, List.getElem?_eq_getElem hi⟩, Pv (i + 1), nxt, fun x H' ⟨e, y⟩ => by subst e; exact step x (y xs hq)⟩
    · exact .inr ⟨⟨xs, xs[i], hq, List.getElem?_eq_getElem hi⟩, Pv (i + 1), nxt, fun x H' ⟨e, y⟩ => by subst e; exact step x (y xs hq)⟩
  · have ei : i = xs.length := by omega
    subst ei
    rcases hJ1 with ⟨rfl, hq⟩ | ⟨rfl, hq⟩
    · exact .inl ⟨⟨xs, hq, Nat.le_refl _⟩, hd σ1 H1 p⟩
    · exact .inl ⟨⟨xs, hq, Nat.le_refl _⟩, hd σ1 H1 p⟩

/-! ### the mathematics -/
def bitZ (b : Bool) : Int := if b then 1 else 0
def bitV (b : Bool) : V := .int (bitZ b)
def rdV : Option Bool → V
  | none => .non
  | some b => bitV b
theorem bitZ_inj {a b : Bool} (h : bitZ a = bitZ b) : a = b := by
  cases a <;> cases b <;> first | rfl | (exact absurd h (by decide))
/-- bits in the place of all None -/
inductive Comp : List (Option Bool) → List Bool → Prop
  | nil : Comp [] []
  | free {r : List (Option Bool)} {bs : List Bool} (b : Bool) : Comp r bs → Comp (none :: r) (b :: bs)
  | told {r : List (Option Bool)} {bs : List Bool} (b : Bool) : Comp r bs → Comp (some b :: r) (b :: bs)
def idx : List Bool → Nat
  | [] => 0
  | b :: r => (if b then 1 else 0) + 2 * idx r
theorem Comp.length {rs : List (Option Bool)} {bs : List Bool} (h : Comp rs bs) : bs.length = rs.length := by
  induction h with
  | nil => rfl
  | free b _ ih => simp [ih]
  | told b _ ih => simp [ih]
theorem idx_lt (bs : List Bool) : idx bs < 2 ^ bs.length := by
  induction bs with
  | nil => decide
  | cons b r ih =>
    have : 2 ^ (b :: r).length = 2 * 2 ^ r.length := by rw [List.length_cons, Nat.pow_succ, Nat.mul_comm]
    unfold idx
    split <;> omega
/-- what one source does to the places -/
def stp (x : Nat × List Nat) (r : Option Bool) : Nat × List Nat := (2 * x.1, match r with
  | none => x.2 ++ x.2.map (· + x.1)
  | some true => x.2.map (· + x.1)
  | some false => x.2)
def plc (rs : List (Option Bool)) : Nat × List Nat := rs.foldl stp (1, [0])
theorem plc_gen (rs : List (Option Bool)) : ∀ (w : Nat) (ps : List Nat), (rs.foldl stp (w, ps)).1 = w * 2 ^ rs.length ∧ ∀ p, p ∈ (rs.foldl stp (w, ps)).2 ↔ ∃ q ∈ ps, ∃ bs, Comp rs bs ∧ p = q + w * idx bs := by
  induction rs with
  | nil =>
    intro w ps
    refine ⟨by simp, fun p => ⟨fun h => ⟨p, h, [], .nil, by simp [idx]⟩, fun ⟨q, hq, bs, hc, e⟩ => ?_⟩⟩
    cases hc
    simp [idx] at e
    rw [e]
    exact hq
  | cons r rs ih =>
    intro w ps
    obtain ⟨h1, h2⟩ := ih (2 * w) (stp (w, ps) r).2
    have e0 : (r :: rs).foldl stp (w, ps) = rs.foldl stp (2 * w, (stp (w, ps) r).2) := rfl
    rw [e0]
    refine ⟨by rw [h1, List.length_cons, Nat.pow_succ, Nat.mul_comm 2 w, Nat.mul_assoc, Nat.mul_comm 2], fun p => ?_⟩
    rw [h2 p]
    have a0 : ∀ k : Nat, w * (0 + 2 * k) = 2 * w * k := fun k => by
      rw [Nat.zero_add, ← Nat.mul_assoc, Nat.mul_comm w 2]
    have a1 : ∀ k : Nat, w * (1 + 2 * k) = w + 2 * w * k := fun k => by
      rw [Nat.mul_add, ← Nat.mul_assoc, Nat.mul_comm w 2, Nat.mul_one]
    have i0 : ∀ bs : List Bool, w * idx (false :: bs) = 2 * w * idx bs := fun bs => a0 _
    have i1 : ∀ bs : List Bool, w * idx (true :: bs) = w + 2 * w * idx bs := fun bs => a1 _
    constructor
    · rintro ⟨q, hq, bs, hc, e⟩
      rcases r with _ | _ | _
      · rcases List.mem_append.mp hq with hq | hq
        · exact ⟨q, hq, false :: bs, .free _ hc, by rw [i0, e]⟩
        · obtain ⟨q', hq', rfl⟩ := List.mem_map.mp hq
          exact ⟨q', hq', true :: bs, .free _ hc, by rw [i1, e]; exact Nat.add_assoc ..⟩
      · exact ⟨q, hq, false :: bs, .told _ hc, by rw [i0, e]⟩
      · obtain ⟨q', hq', rfl⟩ := List.mem_map.mp hq
        exact ⟨q', hq', true :: bs, .told _ hc, by rw [i1, e]; exact Nat.add_assoc ..⟩
    · rintro ⟨q, hq, bs, hc, e⟩
      cases hc with
      | @free _ bs b hc =>
        cases b with
        | false => exact ⟨q, List.mem_append_left _ hq, bs, hc, by rw [i0] at e; exact e⟩
        | true => exact ⟨q + w, List.mem_append_right _ (List.mem_map.mpr ⟨q, hq, rfl⟩), bs, hc, by rw [i1] at e; rw [e]; exact (Nat.add_assoc ..).symm⟩
      | @told _ bs b hc =>
        cases b with
        | false => exact ⟨q, hq, bs, hc, by rw [i0] at e; exact e⟩
        | true => exact ⟨q + w, List.mem_map.mpr ⟨q, hq, rfl⟩, bs, hc, by rw [i1] at e; rw [e]; exact (Nat.add_assoc ..).symm⟩
theorem plc_fst (rs : List (Option Bool)) : (plc rs).1 = 2 ^ rs.length := by
  have h := (plc_gen rs 1 [0]).1
  rw [Nat.one_mul] at h
  exact h
theorem plc_mem (rs : List (Option Bool)) (p : Nat) : p ∈ (plc rs).2 ↔ ∃ bs, Comp rs bs ∧ idx bs = p := by
  have h := (plc_gen rs 1 [0]).2 p
  unfold plc
  rw [h]
  constructor
  · rintro ⟨q, hq, bs, hc, e⟩
    rw [List.mem_singleton.mp hq] at e
    exact ⟨bs, hc, by omega⟩
  · rintro ⟨bs, hc, e⟩
    exact ⟨0, List.mem_singleton.mpr rfl, bs, hc, by omega⟩
theorem plc_lt {rs : List (Option Bool)} {p : Nat} (h : p ∈ (plc rs).2) : p < 2 ^ rs.length := by
  obtain ⟨bs, hc, rfl⟩ := (plc_mem rs p).mp h
  rw [← hc.length]
  exact idx_lt bs
theorem plc_len (rs : List (Option Bool)) : (plc rs).2.length ≤ 2 ^ rs.length ∧ 0 < (plc rs).2.length := by
  have gen : ∀ (l : List (Option Bool)) (x : Nat × List Nat), (l.foldl stp x).2.length ≤ x.2.length * 2 ^ l.length ∧ (0 < x.2.length → 0 < (l.foldl stp x).2.length) := by
    intro l
    induction l with
    | nil => intro x; simp
    | cons r l ih =>
      intro x
      have h := ih (stp x r)
      have e : (stp x r).2.length ≤ 2 * x.2.length ∧ (0 < x.2.length → 0 < (stp x r).2.length) := by
        rcases r with _ | _ | _
        · simp only [stp, List.length_append, List.length_map]
          omega
        · simp only [stp]
          omega
        · simp only [stp, List.length_map]
          omega
      refine ⟨?_, fun h0 => h.2 (e.2 h0)⟩
      show (l.foldl stp (stp x r)).2.length ≤ _
      rw [List.length_cons, Nat.pow_succ, Nat.mul_comm (2 ^ l.length) 2, ← Nat.mul_assoc, Nat.mul_comm x.2.length 2]
      exact Nat.le_trans h.1 (Nat.mul_le_mul_right _ e.1)
  have h := gen rs (1, [0])
  refine ⟨by simpa [plc] using h.1, h.2 (by decide)⟩
theorem plc_snoc (rs : List (Option Bool)) (r : Option Bool) : plc (rs ++ [r]) = stp (plc rs) r := by
  unfold plc
  rw [List.foldl_append]
  rfl
/-- the one bit that all have -/
def one (l : List Bool) : Option Bool := match l with
  | [] => none
  | b :: r => if r.all (fun x => x == b) then some b else none
theorem one_some {l : List Bool} {b : Bool} : one l = some b ↔ l ≠ [] ∧ ∀ x ∈ l, x = b := by
  cases l with
  | nil => simp [one]
  | cons a r =>
    have e : one (a :: r) = if (r.all fun x => x == a) = true then some a else none := rfl
    rw [e]
    by_cases hall : (r.all fun x => x == a) = true
    · rw [if_pos hall]
      have h2 : ∀ x ∈ r, x = a := fun x hx => by simpa using List.all_eq_true.mp hall x hx
      constructor
      · intro h
        have h : a = b := Option.some.inj h
        subst h
        refine ⟨by simp, fun x hx => ?_⟩
        rcases List.mem_cons.mp hx with hx | hx
        · exact hx
        · exact h2 x hx
      · rintro ⟨_, h⟩
        rw [h a (List.mem_cons_self ..)]
    · rw [if_neg hall]
      constructor
      · intro h
        cases h
      · rintro ⟨_, h⟩
        refine absurd (List.all_eq_true.mpr fun x hx => ?_) hall
        rw [h a (List.mem_cons_self ..), h x (List.mem_cons_of_mem _ hx)]
        simp
theorem one_congr {l m : List Bool} (h : ∀ b, b ∈ l ↔ b ∈ m) : one l = one m := by
  have ne : l ≠ [] ↔ m ≠ [] := by
    constructor
    · intro hl hm
      obtain ⟨x, r, rfl⟩ := List.exists_cons_of_ne_nil hl
      have z := (h x).mp (List.mem_cons_self ..)
      rw [hm] at z
      cases z
    · intro hm hl
      obtain ⟨x, r, rfl⟩ := List.exists_cons_of_ne_nil hm
      have z := (h x).mpr (List.mem_cons_self ..)
      rw [hl] at z
      cases z
  have key : ∀ b, one l = some b ↔ one m = some b := fun b => by
    rw [one_some, one_some, ne]
    exact and_congr_right fun _ => ⟨fun q x hx => q x ((h x).mpr hx), fun q x hx => q x ((h x).mp hx)⟩
  cases e : one l with
  | some b => rw [(key b).mp e]
  | none =>
    cases e2 : one m with
    | none => rfl
    | some b =>
      rw [(key b).mpr e2] at e
      cases e
/-- what a gate with this table reads -/
def gateR (tb : List Bool) (rs : List (Option Bool)) : Option Bool := one ((plc rs).2.map fun p => tb.getD p false)
theorem minmax_one {l : List Bool} {lo hi : Int} (h1 : lo ∈ l.map bitZ) (h2 : ∀ y, y ∈ l.map bitZ → lo ≤ y) (h3 : hi ∈ l.map bitZ) (h4 : ∀ y, y ∈ l.map bitZ → y ≤ hi) :
    (lo = hi → ∃ b r, l = b :: r ∧ one l = some b) ∧ (lo ≠ hi → one l = none) := by
  constructor
  · intro e
    obtain ⟨b, hb, eb⟩ := List.mem_map.mp h1
    have all : ∀ x ∈ l, bitZ x = lo := fun x hx => by
      have q1 := h2 _ (List.mem_map.mpr ⟨x, hx, rfl⟩)
      have q2 := h4 _ (List.mem_map.mpr ⟨x, hx, rfl⟩)
      omega
    cases l with
    | nil => cases hb
    | cons a r =>
      refine ⟨a, r, rfl, one_some.mpr ⟨by simp, fun x hx => bitZ_inj ((all x hx).trans (all a (List.mem_cons_self ..)).symm)⟩⟩
  · intro e
    cases q : one l with
    | none => rfl
    | some b =>
      obtain ⟨_, hall⟩ := one_some.mp q
      obtain ⟨x, hx, ex⟩ := List.mem_map.mp h1
      obtain ⟨y, hy, ey⟩ := List.mem_map.mp h3
      rw [hall x hx] at ex
      rw [hall y hy] at ey
      exact absurd (ex.symm.trans ey) e
def natV (ps : List Nat) : List V := ps.map fun p : Nat => V.int (Int.ofNat p)
theorem natV_len (ps : List Nat) : (natV ps).length = ps.length := List.length_map ..
theorem natV_get {ps : List Nat} {i : Nat} {x : V} (h : (natV ps)[i]? = some x) : ∃ p : Nat, ps[i]? = some p ∧ x = .int (p : Int) := by
  unfold natV at h
  rw [List.getElem?_map] at h
  obtain ⟨p, hp, e⟩ := Option.map_eq_some_iff.mp h
  exact ⟨p, hp, e.symm⟩
theorem pw2 (i : Nat) : ((2 ^ i : Nat) : Int) * 2 = ((2 ^ (i + 1) : Nat) : Int) := by
  rw [Nat.pow_succ, Int.natCast_mul]
  rfl
theorem pow16 {n : Nat} (h : n ≤ 4) : 2 ^ n ≤ 16 := Nat.pow_le_pow_right (by decide) h
theorem natV_app (a b : List Nat) : natV (a ++ b) = natV a ++ natV b := List.map_append ..
theorem get_snoc {α : Type} {xs : List α} {i : Nat} {x : α} (h : xs[i]? = some x) : xs.take (i + 1) = xs.take i ++ [x] := take_snoc h

section
variable {P : Program} {w : World} {K : PySem.W.Frag} {mg : Str → Option Value} {base : Heap}
/-- the answer, as a value -/
def spTable (K : PySem.W.Frag) : Sp := fun vs H Q _ => ∃ (a b : Addr) (tb : List Bool) (rs : List (Option Bool)) (J : It), vs = [.ref a, .ref b] ∧ SqT K H a (tb.map bitV) ∧ SeqJ K H b (rs.map rdV) J ∧ rs.length ≤ 4 ∧ tb.length = 2 ^ rs.length ∧
  ∀ H', Same H H' → Q (rdV (gateR tb rs)) H'
theorem scTable : FnScope ["table", "readings", "places", "worth", "reading", "bits", "place"] ["table", "readings"] (defScope sTable) := ⟨rfl, rfl, rfl, by decide +kernel, rfl, by decide +kernel, by decide +kernel⟩
theorem ok_table {f : Addr} {fd : FuncData} (F : Fun K "table_reading" "table_reading" sTable f fd) (mmin : mg "min" = none) (mmax : mg "max" = none) : FnOk P w K mg base CX0 1 f fd ["table", "readings"] (spTable K) := by
  refine F.ok scTable (fun vs H Q E h => ?_) (fun cdv A outer s H vs Q E hr h => ?_)
  · obtain ⟨a, b, tb, rs, J, rfl, _⟩ := h
    rfl
  · obtain ⟨a, b, tb, rs, J, rfl, hT, hR, hl4, hlt, q⟩ := h
    refine ⟨_, pss_cons (ps_set (i := 2) scTable.nd rfl (Or.inl rfl) (pe_lst (pa_cons pe_int pa_nil)))
      (pss_cons (ps_set (i := 3) scTable.nd rfl (Or.inr rfl) pe_int)
      (pss_cons (ps_for PassesOwn.never rfl (pi_seq (pv 1)) (pg_name (i := 4) scTable.nd rfl (Or.inl rfl))
        (pss_cons (ps_if (pt_cmpR op_isN (pv 4) pe_non (nomark _))
            (pss_one (ps_set (i := 2) scTable.nd rfl (Or.inl rfl) (pe_op op_cat (pv 2) (pe_lc (own := [("place", 6)]) (g := gName 6) (tt := tYes) rfl scTable.nd (pi_list (pv 2)) (blkOk_by (N := ["table", "readings", "places", "worth", "reading", "bits", "place"]) (sc := defScope sTable) (by decide +kernel))
              (fun _ _ _ _ _ => pg_name (i := 6) scTable.nd rfl (Or.inl rfl)) (fun _ _ _ _ _ => pts_nil) (fun _ _ _ _ _ => pe_op op_add (pv 6) (pv 3))))))
            (pss_one (ps_if (pt_cmpR op_eq (pv 4) pe_int (nomark _))
              (pss_one (ps_setLc (i := 2) (own := [("place", 6)]) (g := gName 6) (tt := tYes) rfl scTable.nd rfl rfl (sw_true rfl rfl rfl (by decide +kernel)) (pi_list (pv 2)) (blkOk_by (N := ["table", "readings", "places", "worth", "reading", "bits", "place"]) (sc := defScope sTable) (by decide +kernel))
                (fun _ _ _ _ _ => pg_name (i := 6) scTable.nd rfl (Or.inl rfl)) (fun _ _ _ _ _ => pts_nil) (fun _ _ _ _ _ => pe_op op_add (pv 6) (pv 3)))) pss_nil)))
          (pss_one (ps_set (i := 3) scTable.nd rfl (Or.inr rfl) (pe_op op_mul (pv 3) pe_int)))))
      (pss_cons (ps_setLc (i := 5) (own := [("place", 6)]) (g := gName 6) (tt := tYes) rfl scTable.nd rfl rfl (sw_true rfl rfl rfl (by decide +kernel)) (pi_list (pv 2)) (blkOk_by (N := ["table", "readings", "places", "worth", "reading", "bits", "place"]) (sc := defScope sTable) (by decide +kernel))
        (fun _ _ _ _ _ => pg_name (i := 6) scTable.nd rfl (Or.inl rfl)) (fun _ _ _ _ _ => pts_nil) (fun _ _ _ _ _ => pe_ix (r := rIxT K) ix_tup (pv 0) (pv 6) (fun _ _ => rfl)))
      (pss_cons (ps_if (pt_cmpR op_eq (pe_callB (cr_min rfl) (by rfl) mmin (by decide +kernel) (pa_cons (pv 5) pa_nil)) (pe_callB (cr_max rfl) (by rfl) mmax (by decide +kernel) (pa_cons (pv 5) pa_nil)) (nomark _)) (pss_one (ps_ret (pe_ix ix_list (pv 5) pe_int (fun _ _ => rfl)))) pss_nil)
      (pss_one (ps_ret pe_non)))))), ?_⟩
    refine ⟨by show 1 ≤ sizeLine; decide, fun p0 np0 => ?_⟩
    have s0 := same_new (o := .lst [.int 0]) np0
    refine ⟨_, rfl, b, rs.map rdV, J, rfl, hR.ext (extN_same s0), for_seq (fun i σ H1 => ∃ (pl : Addr) (y4 : Option V), σ = [some (.ref a), some (.ref b), some (.ref pl), some (.int (2 ^ i : Nat)), y4, none, none] ∧ Same H H1 ∧ H1 pl = some (.lst (natV (plc (rs.take i)).2))) (hR.ext (extN_same s0)) ⟨p0, none, rfl, s0, upd_same⟩
      (fun i σ' H' _ ⟨pl, y4, _, s1, _⟩ => hR.ext (extN_same s1)) (fun i x σ H1 hx ⟨pl, y4, e, s1, e1⟩ => ?_) (fun σ H1 ⟨pl, y4, e, s1, e1⟩ => ?_)⟩
    · subst e
      rw [List.getElem?_map] at hx
      obtain ⟨r, hr1, rfl⟩ := Option.map_eq_some_iff.mp hx
      have hi : i < rs.length := (List.getElem?_eq_some_iff.mp hr1).1
      have hlen : (rs.take i).length = i := by
        rw [List.length_take]
        omega
      have hfst : (plc (rs.take i)).1 = 2 ^ i := by rw [plc_fst, hlen]
      have hsz : (plc (rs.take i)).2.length ≤ 16 := by
        have h1 := (plc_len (rs.take i)).1
        rw [hlen] at h1
        exact Nat.le_trans h1 (pow16 (by omega))
      have hsnoc : plc (rs.take (i + 1)) = stp (plc (rs.take i)) r := by rw [take_snoc hr1, plc_snoc]
      have hPl : SqL K H1 pl (natV (plc (rs.take i)).2) := .inl (.inl e1)
      -- [place + worth for place in places]
      have turn : ∀ (D : Addr), H1 D = none → ∀ (j : Nat) (x : V) (H2 : Hp), (natV (plc (rs.take i)).2)[j]? = some x → (Same H1 H2 ∧ H2 D = some (.lst (natV (((plc (rs.take i)).2.take j).map (· + 2 ^ i))))) →
          ∃ p : Nat, x = .int p ∧ (natV (((plc (rs.take i)).2.take j).map (· + 2 ^ i))).length < sizeLine ∧ Same H1 (upd H2 D (.lst (natV (((plc (rs.take i)).2.take j).map (· + 2 ^ i)) ++ [.int ((p : Int) + (2 ^ i : Nat))]))) ∧
            (upd H2 D (.lst (natV (((plc (rs.take i)).2.take j).map (· + 2 ^ i)) ++ [.int ((p : Int) + (2 ^ i : Nat))]))) D = some (.lst (natV (((plc (rs.take i)).2.take (j + 1)).map (· + 2 ^ i)))) := fun D nD j x H2 hj ⟨s2, e2⟩ => by
        obtain ⟨p, hp, rfl⟩ := natV_get hj
        refine ⟨p, rfl, ?_, fun b' o e => ?_, ?_⟩
        · rw [natV_len, List.length_map, List.length_take]
          exact small1000 (by omega)
        · rw [upd_ne (ne_of_none e nD)]
          exact s2 b' o e
        · rw [upd_same, take_snoc hp, List.map_append, natV_app]
          rfl
      have full : ∀ (D : Addr) (H2 : Hp), H2 D = some (.lst (natV (((plc (rs.take i)).2.take (natV (plc (rs.take i)).2).length).map (· + 2 ^ i)))) → H2 D = some (.lst (natV ((plc (rs.take i)).2.map (· + 2 ^ i)))) := fun D H2 e => by
        rw [natV_len, List.take_length] at e
        exact e
      cases r with
      | none =>
        refine ⟨_, rfl, rfl, _, rfl, ite2 (fun _ => ?_) (fun z => absurd (decide_eq_true rfl) z)⟩
        refine ⟨_, rfl, _, rfl, pl, rfl, ⟨_, hPl⟩, fun D nD => lc_list (K := K) (a := pl) (xs := natV (plc (rs.take i)).2) (fun j H2 => Same H1 H2 ∧ H2 D = some (.lst (natV (((plc (rs.take i)).2.take j).map (· + 2 ^ i))))) ⟨same_new nD, upd_same⟩ (fun j H2 _ h2 => h2.1.seq hPl) (fun j x H2 hj h2 => ?_) (fun H2 ⟨s2, e2⟩ => ?_)⟩
        · obtain ⟨p, rfl, z1, z2, z3⟩ := turn D nD j x H2 hj h2
          exact ⟨rfl, _, rfl, _, rfl, _, _, rfl, rfl, _, h2.2, z1, z2, z3⟩
        · have e2 := full D H2 e2
          refine ⟨pl, D, _, _, rfl, rfl, s2 _ _ e1, e2, ?_, fun p np => ⟨_, rfl, _, _, rfl, rfl, .inr ⟨by decide, by decide⟩, p, _, by rw [← pw2 i]; rfl, ?_, ?_⟩⟩
          · rw [natV_len, natV_len, List.length_map]
            exact Nat.le_of_lt (small1000 (by omega))
          · exact (s1.trans s2).trans (same_new np)
          · rw [upd_same, hsnoc, ← natV_app]
            show some (HO.lst (natV ((plc (rs.take i)).2 ++ (plc (rs.take i)).2.map (· + 2 ^ i)))) = some (HO.lst (natV ((plc (rs.take i)).2 ++ (plc (rs.take i)).2.map (· + (plc (rs.take i)).1))))
            rw [hfst]
      | some c =>
        refine ⟨_, rfl, rfl, _, rfl, ite2 (fun z => absurd (of_decide_eq_true z) (by intro z; cases z)) (fun _ => ?_)⟩
        cases c with
        | true =>
          refine ⟨_, rfl, rfl, _, rfl, ite2 (fun _ => ?_) (fun z => absurd (decide_eq_true rfl) z)⟩
          refine ⟨_, rfl, pl, rfl, ⟨_, hPl⟩, fun D nD => lc_list (K := K) (a := pl) (xs := natV (plc (rs.take i)).2) (fun j H2 => Same H1 H2 ∧ H2 D = some (.lst (natV (((plc (rs.take i)).2.take j).map (· + 2 ^ i))))) ⟨same_new nD, upd_same⟩ (fun j H2 _ h2 => h2.1.seq hPl) (fun j x H2 hj h2 => ?_) (fun H2 ⟨s2, e2⟩ => ?_)⟩
          · obtain ⟨p, rfl, z1, z2, z3⟩ := turn D nD j x H2 hj h2
            exact ⟨rfl, _, rfl, _, rfl, _, _, rfl, rfl, _, h2.2, z1, z2, z3⟩
          · have e2 := full D H2 e2
            refine ⟨_, rfl, _, _, rfl, rfl, .inr ⟨by decide, by decide⟩, D, _, by rw [← pw2 i]; rfl, s1.trans s2, ?_⟩
            rw [e2, hsnoc]
            show some (HO.lst (natV ((plc (rs.take i)).2.map (· + 2 ^ i)))) = some (HO.lst (natV ((plc (rs.take i)).2.map (· + (plc (rs.take i)).1))))
            rw [hfst]
        | false =>
          refine ⟨_, rfl, rfl, _, rfl, ite2 (fun z => absurd (V.int.inj (of_decide_eq_true z)) (by decide)) (fun _ => ?_)⟩
          refine ⟨_, rfl, _, _, rfl, rfl, .inr ⟨by decide, by decide⟩, pl, _, by rw [← pw2 i]; rfl, s1, ?_⟩
          rw [e1, hsnoc]
          rfl
    · subst e
      have e1' : H1 pl = some (.lst (natV (plc rs).2)) := by
        rw [List.length_map, List.take_length] at e1
        exact e1
      have hPl : SqL K H1 pl (natV (plc rs).2) := .inl (.inl e1')
      have hsz : (plc rs).2.length ≤ 16 := Nat.le_trans (plc_len rs).1 (pow16 hl4)
      have hT1 : SqT K H1 a (tb.map bitV) := extN_seqT (extN_same s1) hT
      generalize hL : ((plc rs).2.map fun p => tb.getD p false) = L
      have hgl : gateR tb rs = one L := by rw [← hL]; rfl
      refine ⟨_, rfl, pl, rfl, ⟨_, hPl⟩, fun D nD => lc_list (K := K) (a := pl) (xs := natV (plc rs).2) (fun j H2 => Same H1 H2 ∧ H2 D = some (.lst ((L.take j).map bitV))) ⟨same_new nD, upd_same⟩ (fun j H2 _ h2 => h2.1.seq hPl) (fun j x H2 hj ⟨s2, e2⟩ => ?_) (fun H2 ⟨s2, e2⟩ => ?_)⟩
      · obtain ⟨p, hp, rfl⟩ := natV_get hj
        have hlt2 : p < tb.length := by
          rw [hlt]
          exact plc_lt (List.mem_of_getElem? hp)
        have hL1 : L[j]? = some tb[p] := by
          rw [← hL, List.getElem?_map, hp]
          simp [List.getD_eq_getElem?_getD, List.getElem?_eq_getElem hlt2]
        refine ⟨rfl, _, rfl, _, rfl, a, _, _, bitV tb[p], rfl, rfl, extN_seqT (extN_same s2) hT1, atI_nat ?_, _, e2, ?_, fun b' o e => ?_, ?_⟩
        · rw [List.getElem?_map, List.getElem?_eq_getElem hlt2]
          rfl
        · rw [List.length_map, List.length_take, ← hL, List.length_map]
          exact small1000 (by omega)
        · rw [upd_ne (ne_of_none e nD)]
          exact s2 b' o e
        · rw [upd_same, take_snoc hL1, List.map_append]
          rfl
      · have hLlen : L.length = (plc rs).2.length := by rw [← hL, List.length_map]
        have e2' : H2 D = some (.lst (L.map bitV)) := by
          rw [natV_len, ← hLlen, List.take_length] at e2
          exact e2
        have hD : SqL K H2 D ((L.map bitZ).map V.int) := by
          refine .inl (.inl ?_)
          rw [e2', List.map_map]
          rfl
        have hpos : 0 < (L.map bitZ).length := by
          rw [List.length_map, hLlen]
          exact (plc_len rs).2
        refine ⟨_, rfl, D, _, rfl, hD, hpos, fun lo l1 l2 => ⟨_, rfl, D, _, rfl, hD, hpos, fun hi h1 h2 => ⟨rfl, _, rfl, ite2 (fun hc => ?_) (fun hc => ?_)⟩⟩⟩
        · obtain ⟨b', r, el, eo⟩ := (minmax_one l1 l2 h1 h2).1 (V.int.inj (of_decide_eq_true hc))
          have z := q H2 (s1.trans s2)
          rw [hgl, eo] at z
          refine ⟨_, rfl, D, _, 0, bitV b', rfl, rfl, hD, ?_, z⟩
          rw [el]
          exact atI_nat (j := 0) rfl
        · have eo := (minmax_one l1 l2 h1 h2).2 fun z => hc (decide_eq_true (congrArg V.int z))
          have z := q H2 (s1.trans s2)
          rw [hgl, eo] at z
          exact z
end
end K02

set_option Elab.async false
set_option linter.all false
set_option maxRecDepth 100000
set_option maxHeartbeats 1000000
/-! Circuits, as they stand: sources, registers. -/
namespace K02
open PySem PySem.Spec L2
open PyProof.Rows GenW GxR
open LamX (ExtN)
abbrev sUpTo : Stmt := top 19 -- is_tuple_up_to
abbrev sIsSource : Stmt := top 20 -- is_source
abbrev sIsRegister : Stmt := top 21 -- is_register
/-- a source -/
inductive Src
  | inp (i : Nat)
  | reg (i : Nat)
  | gate (i : Nat)
  | bit (b : Bool)
def Src.kind : Src → Str
  | .inp _ => "in"
  | .reg _ => "reg"
  | .gate _ => "gate"
  | .bit _ => "bit"
def Src.at_ : Src → Int
  | .inp i => i
  | .reg i => i
  | .gate i => i
  | .bit b => bitZ b
def Src.ok (ni nr ng : Nat) : Src → Prop
  | .inp i => i < ni
  | .reg i => i < nr
  | .gate i => i < ng
  | .bit _ => True
/-- y is the source s -/
def SrcAt (H : Hp) (y : V) (s : Src) : Prop := ∃ t, y = .ref t ∧ H t = some (.tup [.str s.kind, .int s.at_])
theorem SrcAt.ext {H H' : Hp} {y : V} {s : Src} (h : SrcAt H y s) (e : ExtN H H') : SrcAt H' y s := by
  obtain ⟨t, a, b⟩ := h
  exact ⟨t, a, e _ _ b fun _ z => by cases z⟩
section
variable {P : Program} {w : World} {K : PySem.W.Frag} {mg : Str → Option Value} {base : Heap}
theorem tyT {H : Hp} {a : Addr} {xs : List V} (h : H a = some (.tup xs)) : Ty1 K H (.ref a) "tuple" := ⟨.base (.tup h), by decide⟩
theorem tyI {H : Hp} (i : Int) : Ty1 K H (.int i) "int" := ⟨.base (.int i), by decide⟩
theorem bel_nat {i l : Nat} (h : i < l) : bel (.int (i : Int)) (l : Int) = true := by
  show (decide ((0 : Int) ≤ i) && decide ((i : Int) < l)) = true
  rw [decide_eq_true (Int.natCast_nonneg i), decide_eq_true (Int.ofNat_lt.mpr h)]
  rfl
def spUpTo (K : PySem.W.Frag) : Sp := fun vs H Q _ => ∃ (x : V) (t : String) (xs : List V) (n : Int), vs = [x, .int n] ∧ Ty1 K H x t ∧ TupV K H x t xs ∧ Q (.bl (decide (t = "tuple") && decide ((xs.length : Int) ≤ n))) H
theorem scUpTo : FnScope ["thing", "most"] ["thing", "most"] (defScope sUpTo) := ⟨rfl, rfl, rfl, by decide +kernel, rfl, by decide +kernel, by decide +kernel⟩
theorem ok_upTo {f : Addr} {fd : FuncData} (F : Fun K "is_tuple_up_to" "is_tuple_up_to" sUpTo f fd) (mi : mg "isinstance" = none) (mtuple : mg "tuple" = none) (mlen : mg "len" = none) : FnOk P w K mg base CX0 1 f fd ["thing", "most"] (spUpTo K) := by
  refine F.ok scUpTo (fun vs H Q E h => ?_) (fun cdv A outer s H vs Q E hr h => ?_)
  · obtain ⟨x, t, xs, n, rfl, _⟩ := h
    rfl
  · obtain ⟨x, t, xs, n, rfl, ht, hx, q⟩ := h
    refine ⟨_, pss_one (ps_ret (pe_and (pe_callB call_isi (by rfl) mi (by decide +kernel) (pa_cons (pv 0) (pa_cons (pe_bltn (v := .ty "tuple") (u := .type "tuple") (by rfl) mtuple (by decide +kernel) rfl) pa_nil)))
      (pe_one (pe_cmpR op_le (pe_callB call_len_seq (by rfl) mlen PySem.boot_len (pa_cons (pv 0) pa_nil)) (pv 1) (nomark _))))), ?_⟩
    refine ⟨_, rfl, x, .ty "tuple", _, _, _, rfl, .ty "tuple", ht.ty, kit_of1 ht.mem (by decide), _, rfl, ?_⟩
    by_cases h1 : t = "tuple"
    · obtain ⟨a, rfl, hS⟩ := hx h1
      subst h1
      exact ⟨_, rfl, a, xs, rfl, .inr hS, _, rfl, _, _, rfl, rfl, q⟩
    · have e : kitR t "tuple" = false := by
        unfold kitR
        rw [decide_eq_false h1]
        simp
      rw [e]
      rw [decide_eq_false h1] at q
      exact iteF q
def spSource : Sp := fun vs H Q _ => ∃ (y : V) (z : Addr) (s : Src) (ni nr ng : Nat), vs = [y, .ref z] ∧ SrcAt H y s ∧ H z = some (.tup [.int ni, .int nr, .int ng]) ∧ s.ok ni nr ng ∧ Q (.bl true) H
theorem scSource : FnScope ["thing", "sizes", "kind", "at"] ["thing", "sizes"] (defScope sIsSource) := ⟨rfl, rfl, rfl, by decide +kernel, rfl, by decide +kernel, by decide +kernel⟩
theorem ok_source {f fT fB f1 : Addr} {fd fdT fdB fd1 : FuncData} (F : Fun K "is_source" "is_source" sIsSource f fd)
    (GT : FnOk P w K mg base CX0 1 fT fdT ["thing", "many"] (spTupleOf K)) (kT : PySem.W.keepIn K (.ref fT) = true) (bT : Binds K fdT ["thing", "many"] []) (mT : mg "is_tuple_of" = some (.ref fT))
    (GB : FnOk P w K mg base CX0 2 fB fdB ["thing", "limit"] (spBelow K)) (kB : PySem.W.keepIn K (.ref fB) = true) (bB : Binds K fdB ["thing", "limit"] []) (mB : mg "is_below" = some (.ref fB))
    (G1 : FnOk P w K mg base CX0 3 f1 fd1 ["thing"] (spBit K)) (k1 : PySem.W.keepIn K (.ref f1) = true) (b1 : Binds K fd1 ["thing"] []) (m1 : mg "is_bit" = some (.ref f1)) : FnOk P w K mg base CX0 4 f fd ["thing", "sizes"] spSource := by
  refine F.ok scSource (fun vs H Q E h => ?_) (fun cdv A outer s H vs Q E hr h => ?_)
  · obtain ⟨y, z, s, ni, nr, ng, rfl, _⟩ := h
    rfl
  · obtain ⟨y, z, sr, ni, nr, ng, rfl, ⟨t, rfl, et⟩, ez, ok, q⟩ := h
    refine ⟨_, pss_cons (ps_if (pt_not (pt_val (pe_call GT (hr.mono (by decide)) (by rfl) mT kT bT .nil pass0 (pa_cons (pv 0) (pa_cons pe_int pa_nil))))) (pss_one (ps_ret pe_bl)) pss_nil)
      (pss_cons (ps_asg (pv 0) (pg_tup rfl (pgs_cons (pg_name (i := 2) scSource.nd rfl (Or.inl rfl)) (pgs_cons (pg_name (i := 3) scSource.nd rfl (Or.inl rfl)) pgs_nil))))
      (pss_cons (ps_if (pt_cmpR op_eq (pv 2) pe_str (nomark _)) (pss_one (ps_ret (pe_call GB (hr.mono (by decide)) (by rfl) mB kB bB .nil pass0 (pa_cons (pv 3) (pa_cons (pe_ix (r := rIxT K) ix_tup (pv 1) pe_int (fun _ _ => rfl)) pa_nil))))) pss_nil)
      (pss_cons (ps_if (pt_cmpR op_eq (pv 2) pe_str (nomark _)) (pss_one (ps_ret (pe_call GB (hr.mono (by decide)) (by rfl) mB kB bB .nil pass0 (pa_cons (pv 3) (pa_cons (pe_ix (r := rIxT K) ix_tup (pv 1) pe_int (fun _ _ => rfl)) pa_nil))))) pss_nil)
      (pss_cons (ps_if (pt_cmpR op_eq (pv 2) pe_str (nomark _)) (pss_one (ps_ret (pe_call GB (hr.mono (by decide)) (by rfl) mB kB bB .nil pass0 (pa_cons (pv 3) (pa_cons (pe_ix (r := rIxT K) ix_tup (pv 1) pe_int (fun _ _ => rfl)) pa_nil))))) pss_nil)
      (pss_one (ps_ret (pe_and (pe_cmpR op_eq (pv 2) pe_str (nomark _)) (pe_one (pe_call G1 hr (by rfl) m1 k1 b1 .nil pass0 (pa_cons (pv 3) pa_nil)))))))))), ?_⟩
    refine ⟨_, rfl, .ref t, "tuple", [.str sr.kind, .int sr.at_], 2, rfl, tyT et, fun _ => ⟨t, rfl, .inl (.inl et)⟩, _, rfl, ?_⟩
    refine iteF ⟨_, rfl, t, _, rfl, .inl (.inl et), rfl, _, _, rfl, _, _, rfl, rfl, ?_⟩
    have same_ : ∀ a : Str, decide (V.str a = V.str a) = true := fun a => decide_eq_true rfl
    have other : ∀ a b : Str, ¬ a = b → decide (V.str a = V.str b) = false := fun a b h => decide_eq_false fun z => h (V.str.inj z)
    cases sr with
    | inp i =>
      refine ⟨_, rfl, rfl, _, rfl, ?_⟩
      show (if decide (V.str ("in" : Str) = V.str "in") = true then _ else _)
      rw [same_]
      refine iteT ⟨_, rfl, _, rfl, z, _, 0, .int ni, rfl, rfl, .inl (.inl ez), rfl, .int (i : Int), "int", (ni : Int), rfl, tyI _, ?_⟩
      rw [bel_nat ok]
      exact q
    | reg i =>
      refine ⟨_, rfl, rfl, _, rfl, ?_⟩
      show (if decide (V.str ("reg" : Str) = V.str "in") = true then _ else _)
      rw [other _ _ (by decide +kernel)]
      refine iteF ⟨_, rfl, rfl, _, rfl, ?_⟩
      show (if decide (V.str ("reg" : Str) = V.str "reg") = true then _ else _)
      rw [same_]
      refine iteT ⟨_, rfl, _, rfl, z, _, 1, .int nr, rfl, rfl, .inl (.inl ez), rfl, .int (i : Int), "int", (nr : Int), rfl, tyI _, ?_⟩
      rw [bel_nat ok]
      exact q
    | gate i =>
      refine ⟨_, rfl, rfl, _, rfl, ?_⟩
      show (if decide (V.str ("gate" : Str) = V.str "in") = true then _ else _)
      rw [other _ _ (by decide +kernel)]
      refine iteF ⟨_, rfl, rfl, _, rfl, ?_⟩
      show (if decide (V.str ("gate" : Str) = V.str "reg") = true then _ else _)
      rw [other _ _ (by decide +kernel)]
      refine iteF ⟨_, rfl, rfl, _, rfl, ?_⟩
      show (if decide (V.str ("gate" : Str) = V.str "gate") = true then _ else _)
      rw [same_]
      refine iteT ⟨_, rfl, _, rfl, z, _, 2, .int ng, rfl, rfl, .inl (.inl ez), rfl, .int (i : Int), "int", (ng : Int), rfl, tyI _, ?_⟩
      rw [bel_nat ok]
      exact q
    | bit b =>
      refine ⟨_, rfl, rfl, _, rfl, ?_⟩
      show (if decide (V.str ("bit" : Str) = V.str "in") = true then _ else _)
      rw [other _ _ (by decide +kernel)]
      refine iteF ⟨_, rfl, rfl, _, rfl, ?_⟩
      show (if decide (V.str ("bit" : Str) = V.str "reg") = true then _ else _)
      rw [other _ _ (by decide +kernel)]
      refine iteF ⟨_, rfl, rfl, _, rfl, ?_⟩
      show (if decide (V.str ("bit" : Str) = V.str "gate") = true then _ else _)
      rw [other _ _ (by decide +kernel)]
      refine iteF ⟨_, rfl, rfl, _, rfl, ?_⟩
      show (if decide (V.str ("bit" : Str) = V.str "bit") = true then _ else _)
      rw [same_]
      refine iteT ⟨_, rfl, .int (bitZ b), "int", rfl, tyI _, ?_⟩
      have e : bel (.int (bitZ b)) 2 = true := by cases b <;> decide
      rw [e]
      exact q
/-- y is a register: its bit at the beginning, its source -/
def RegAt (H : Hp) (y : V) (r : Bool × Src) : Prop := ∃ t v, y = .ref t ∧ H t = some (.tup [bitV r.1, v]) ∧ SrcAt H v r.2
theorem RegAt.ext {H H' : Hp} {y : V} {r : Bool × Src} (h : RegAt H y r) (e : ExtN H H') : RegAt H' y r := by
  obtain ⟨t, v, a, b, c⟩ := h
  exact ⟨t, v, a, e _ _ b (fun _ z => by cases z), c.ext e⟩
theorem SrcAt.ty {H : Hp} {y : V} {s : Src} (h : SrcAt H y s) : Ty1 K H y "tuple" := by
  obtain ⟨t, rfl, e⟩ := h
  exact tyT e
def spRegister : Sp := fun vs H Q _ => ∃ (y : V) (z : Addr) (r : Bool × Src) (ni nr ng : Nat), vs = [y, .ref z] ∧ RegAt H y r ∧ H z = some (.tup [.int ni, .int nr, .int ng]) ∧ r.2.ok ni nr ng ∧ Q (.bl true) H
theorem scRegister : FnScope ["thing", "sizes"] ["thing", "sizes"] (defScope sIsRegister) := ⟨rfl, rfl, rfl, by decide +kernel, rfl, by decide +kernel, by decide +kernel⟩
theorem ok_register {f fT fS f1 : Addr} {fd fdT fdS fd1 : FuncData} (F : Fun K "is_register" "is_register" sIsRegister f fd)
    (GT : FnOk P w K mg base CX0 1 fT fdT ["thing", "many"] (spTupleOf K)) (kT : PySem.W.keepIn K (.ref fT) = true) (bT : Binds K fdT ["thing", "many"] []) (mT : mg "is_tuple_of" = some (.ref fT))
    (GS : FnOk P w K mg base CX0 4 fS fdS ["thing", "sizes"] spSource) (kS : PySem.W.keepIn K (.ref fS) = true) (bS : Binds K fdS ["thing", "sizes"] []) (mS : mg "is_source" = some (.ref fS))
    (G1 : FnOk P w K mg base CX0 3 f1 fd1 ["thing"] (spBit K)) (k1 : PySem.W.keepIn K (.ref f1) = true) (b1 : Binds K fd1 ["thing"] []) (m1 : mg "is_bit" = some (.ref f1)) : FnOk P w K mg base CX0 5 f fd ["thing", "sizes"] spRegister := by
  refine F.ok scRegister (fun vs H Q E h => ?_) (fun cdv A outer s H vs Q E hr h => ?_)
  · obtain ⟨y, z, r, ni, nr, ng, rfl, _⟩ := h
    rfl
  · obtain ⟨y, z, r, ni, nr, ng, rfl, ⟨t, v, rfl, et, hv⟩, ez, ok, q⟩ := h
    refine ⟨_, pss_one (ps_ret (pe_and (pe_call GT (hr.mono (by decide)) (by rfl) mT kT bT .nil pass0 (pa_cons (pv 0) (pa_cons pe_int pa_nil)))
      (pe_and (pe_call G1 (hr.mono (by decide)) (by rfl) m1 k1 b1 .nil pass0 (pa_cons (pe_ix (r := rIxT K) ix_tup (pv 0) pe_int (fun _ _ => rfl)) pa_nil))
        (pe_one (pe_call GS hr (by rfl) mS kS bS .nil pass0 (pa_cons (pe_ix (r := rIxT K) ix_tup (pv 0) pe_int (fun _ _ => rfl)) (pa_cons (pv 1) pa_nil))))))), ?_⟩
    refine ⟨_, rfl, .ref t, "tuple", [bitV r.1, v], 2, rfl, tyT et, fun _ => ⟨t, rfl, .inl (.inl et)⟩, _, rfl, ?_⟩
    refine iteT ⟨_, rfl, t, _, 0, bitV r.1, rfl, rfl, .inl (.inl et), rfl, bitV r.1, "int", rfl, tyI _, _, rfl, ?_⟩
    have e : bel (bitV r.1) 2 = true := by cases r.1 <;> decide
    rw [e]
    exact iteT ⟨_, rfl, t, _, 1, v, rfl, rfl, .inl (.inl et), rfl, _, rfl, v, z, r.2, ni, nr, ng, rfl, hv, ez, ok, q⟩
end
end K02

set_option Elab.async false
set_option linter.all false
set_option maxRecDepth 100000
set_option maxHeartbeats 1000000
/-! Circuits, as they stand: gates. -/
namespace K02
open PySem PySem.Spec L2
open PyProof.Rows GenW GxR
open LamX (ExtN)
abbrev sIsGate : Stmt := top 22 -- is_gate
/-- the items of vs are the things of xs -/
def AllAt {α : Type} (R : Hp → V → α → Prop) (H : Hp) (vs : List V) (xs : List α) : Prop := Paired (R H) vs xs
theorem all_get {α : Type} {R : V → α → Prop} {vs : List V} {xs : List α} (h : Paired R vs xs) : ∀ {i : Nat} {v : V}, vs[i]? = some v → ∃ x, xs[i]? = some x ∧ R v x := by
  induction h with
  | nil => intro i v hv; simp at hv
  | cons r t ih =>
    intro i v hv
    cases i with
    | zero =>
      cases hv
      exact ⟨_, rfl, r⟩
    | succ i => exact ih hv
theorem all_ext {α : Type} {R : Hp → V → α → Prop} {H H' : Hp} (hR : ∀ v x, R H v x → R H' v x) {vs : List V} {xs : List α} (h : AllAt R H vs xs) : AllAt R H' vs xs := by
  unfold AllAt at h ⊢
  induction h with
  | nil => exact .nil
  | cons r t ih => exact .cons (hR _ _ r) ih
abbrev Gate : Type := List Src × List Bool
def GateAt (H : Hp) (y : V) (g : Gate) : Prop := ∃ t a b vs, y = .ref t ∧ H t = some (.tup [.ref a, .ref b]) ∧ H a = some (.tup vs) ∧ AllAt SrcAt H vs g.1 ∧ H b = some (.tup (g.2.map bitV))
theorem GateAt.ext {H H' : Hp} {y : V} {g : Gate} (h : GateAt H y g) (e : ExtN H H') : GateAt H' y g := by
  obtain ⟨t, a, b, vs, h1, h2, h3, h4, h5⟩ := h
  exact ⟨t, a, b, vs, h1, e _ _ h2 (fun _ z => by cases z), e _ _ h3 (fun _ z => by cases z), all_ext (fun v x r => r.ext e) h4, e _ _ h5 (fun _ z => by cases z)⟩
def Gate.ok (ni nr ng : Nat) (g : Gate) : Prop := g.1.length ≤ 4 ∧ g.2.length = 2 ^ g.1.length ∧ ∀ s ∈ g.1, s.ok ni nr ng
section
variable {P : Program} {w : World} {K : PySem.W.Frag} {mg : Str → Option Value} {base : Heap}
def spGateT (TT : List Addr) : Sp := fun vs H Q _ => ∃ (y : V) (z : Addr) (g : Gate) (ni nr ng : Nat), vs = [y, .ref z] ∧ GateAt H y g ∧ H z = some (.tup [.int ni, .int nr, .int ng]) ∧ g.ok ni nr ng ∧ TabsG TT H ∧ ∀ H', Ex TT H H' → Q (.bl true) H'
theorem scGateT : FnScope ["thing", "sizes", "sources", "table", "item"] ["thing", "sizes"] (defScope sIsGate) := ⟨rfl, rfl, rfl, by decide +kernel, rfl, by decide +kernel, by decide +kernel⟩
theorem ok_gateT {TT : List Addr} {f fT fU fB fS c T : Addr} {fd fdT fdU fdB fdS : FuncData} {tk : Tok} (F : Fun K "is_gate" "is_gate" sIsGate f fd) (hc : fd.code = .ref c) (TB : TabB base mg c T) (hTT : T ∈ TT) (mall : mg "all" = none) (mlen : mg "len" = none) (m4 : mg "MOST_SOURCES" = some (.int 4 tk))
    (GT : FnOk P w K mg base CX0 1 fT fdT ["thing", "many"] (spTupleOf K)) (kT : PySem.W.keepIn K (.ref fT) = true) (bT : Binds K fdT ["thing", "many"] []) (mT : mg "is_tuple_of" = some (.ref fT))
    (GU : FnOk P w K mg base CX0 1 fU fdU ["thing", "most"] (spUpTo K)) (kU : PySem.W.keepIn K (.ref fU) = true) (bU : Binds K fdU ["thing", "most"] []) (mU : mg "is_tuple_up_to" = some (.ref fU))
    (GB : FnOk P w K mg base CX0 5 fB fdB ["thing", "many"] (spBits K TT)) (kB : PySem.W.keepIn K (.ref fB) = true) (bB : Binds K fdB ["thing", "many"] []) (mB : mg "is_bits" = some (.ref fB))
    (GS : FnOk P w K mg base CX0 4 fS fdS ["thing", "sizes"] spSource) (kS : PySem.W.keepIn K (.ref fS) = true) (bS : Binds K fdS ["thing", "sizes"] []) (mS : mg "is_source" = some (.ref fS)) : FnOk P w K mg base CX0 6 f fd ["thing", "sizes"] (spGateT TT) := by
  refine okC F hc scGateT (fun vs H Q E h => ?_) (fun A outer s H vs Q E hr h => ?_)
  · obtain ⟨y, z, g, ni, nr, ng, rfl, _⟩ := h
    rfl
  · obtain ⟨y, z, g, ni, nr, ng, rfl, ⟨t, a, b, vs, rfl, et, ea, hv, eb⟩, ez, ok, hT, q⟩ := h
    refine ⟨_, pss_cons (ps_if (pt_not (pt_val (pe_call GT (hr.mono (by decide)) (by rfl) mT kT bT .nil pass0 (pa_cons (pv 0) (pa_cons pe_int pa_nil))))) (pss_one (ps_ret pe_bl)) pss_nil)
      (pss_cons (ps_asg (pv 0) (pg_tup rfl (pgs_cons (pg_name (i := 2) scGateT.nd rfl (Or.inl rfl)) (pgs_cons (pg_name (i := 3) scGateT.nd rfl (Or.inl rfl)) pgs_nil))))
      (pss_cons (ps_if (pt_not (pt_val (pe_call GU (hr.mono (by decide)) (by rfl) mU kU bU .nil pass0 (pa_cons (pv 2) (pa_cons (pe_glob (v := .int 4) (by rfl) m4 ⟨_, rfl⟩) pa_nil))))) (pss_one (ps_ret pe_bl)) pss_nil)
      (pss_one (ps_ret (pe_and (pe_call GB hr (by rfl) mB kB bB .nil pass0 (pa_cons (pv 3) (pa_cons (pe_op op_shl pe_int (pe_callB call_len_seq (by rfl) mlen PySem.boot_len (pa_cons (pv 2) pa_nil))) pa_nil)))
        (pe_one (GX.pe_all (own := [("item", 4)]) (k := 4) hr (by rfl) mall TB rfl rfl scGateT.nd (pi_tup (pv 2)) (blkOk_by (N := ["thing", "sizes", "sources", "table", "item"]) (sc := defScope sIsGate) (by decide +kernel)) (GX.genNames_by (by decide +kernel))
          (fun _ _ _ _ _ _ _ => pg_name (i := 4) scGateT.nd rfl (Or.inl rfl)) (fun _ _ _ _ _ _ _ _ => pts_nil) (fun _ _ _ _ _ _ _ hr2 => pe_call GS hr2 (by rfl) mS kS bS .nil pass0 (pa_cons (pv 4) (pa_cons (pv 1) pa_nil)))))))))), ?_⟩
    refine ⟨_, rfl, .ref t, "tuple", [.ref a, .ref b], 2, rfl, tyT et, fun _ => ⟨t, rfl, .inl (.inl et)⟩, _, rfl, ?_⟩
    refine iteF ⟨_, rfl, t, _, rfl, .inl (.inl et), rfl, _, _, rfl, _, _, rfl, rfl, ?_⟩
    obtain ⟨ok1, ok2, ok3⟩ := ok
    have lv : vs.length = g.1.length := Paired.length hv
    have l4 : vs.length ≤ 4 := by omega
    have e1 : (decide (("tuple" : String) = "tuple") && decide ((vs.length : Int) ≤ 4)) = true := by
      rw [decide_eq_true rfl, decide_eq_true (show (vs.length : Int) ≤ 4 by omega)]
      rfl
    refine ⟨_, rfl, .ref a, "tuple", vs, 4, rfl, tyT ea, fun _ => ⟨a, rfl, .inl (.inl ea)⟩, _, rfl, ?_⟩
    rw [e1]
    refine iteF ⟨_, rfl, _, rfl, a, vs, rfl, .inr (.inl (.inl ea)), _, _, rfl, rfl, ⟨by omega, by omega, by decide⟩, .ref b, "tuple", g.2.map bitV, _, rfl, tyT eb, fun _ => ⟨b, rfl, .inl (.inl eb)⟩, fun _ y hy => ?_, hT, fun H1 x1 => ?_⟩
    · obtain ⟨bb, _, rfl⟩ := List.mem_map.mp hy
      exact ⟨_, tyI _⟩
    · have hb : (g.2.map bitV).all (fun y => bel y 2) = true := List.all_eq_true.mpr fun y hy => by
        obtain ⟨bb, _, rfl⟩ := List.mem_map.mp hy
        cases bb <;> decide
      have hn : ((g.2.map bitV).length : Int) = 1 * 2 ^ ((vs.length : Int)).toNat := by
        rw [List.length_map, ok2, Int.toNat_natCast, lv, Int.one_mul]
        exact Int.natCast_pow 2 _
      have e2 : (decide (("tuple" : String) = "tuple") && decide (((g.2.map bitV).length : Int) = 1 * 2 ^ ((vs.length : Int)).toNat) && (g.2.map bitV).all fun y => bel y 2) = true := by
        rw [hb, decide_eq_true rfl, decide_eq_true hn]
        rfl
      refine ⟨_, rfl, ?_⟩
      rw [e2]
      have hT1 := x1.tabs hT
      have n1 := x1.extN hT
      have ea1 := n1 _ _ ea (fun _ z => by cases z)
      refine iteT ⟨_, rfl, a, rfl, ⟨_, .inl (.inl ea1)⟩, hT1 T hTT, fun H2 hT2 => ⟨fun i m H3 => m + i = vs.length ∧ Ex TT H1 H3, ⟨vs.length, rfl, Ex.tabbed hTT hT2⟩, fun i m H3 hW => ?_⟩⟩
      obtain ⟨em, x3⟩ := hW
      have n3 := x3.extN hT1
      have ea3 := n3 _ _ ea1 (fun _ z => by cases z)
      have sq3 : SqT K H3 a vs := .inl (.inl ea3)
      by_cases hi : i < vs.length
      · refine .inr ⟨⟨vs, vs[i], sq3, List.getElem?_eq_getElem hi⟩, fun H4 => Ex TT H1 H4, fun H4 x4 => ⟨m - 1, by omega, by omega, x4⟩, fun y H4 hy => ?_⟩
        obtain ⟨rfl, hy⟩ := hy
        have ey := hy _ sq3
        obtain ⟨sr, hsr, hs⟩ := all_get hv ey
        have ez4 := n3 _ _ (n1 _ _ ez (fun _ z => by cases z)) (fun _ z => by cases z)
        refine ⟨rfl, _, rfl, _, rfl, y, z, sr, ni, nr, ng, rfl, (hs.ext n1).ext n3, ez4, ok3 sr (List.mem_of_getElem? hsr), _, rfl, ?_⟩
        exact ⟨(fun hc => by cases hc), (fun hc => x3)⟩
      · exact .inl ⟨⟨vs, sq3, by omega⟩, q H3 (x1.trans x3)⟩
end
end K02

set_option Elab.async false
set_option linter.all false
set_option maxRecDepth 100000
set_option maxHeartbeats 2000000
/-! Circuits, as they stand: is_circuit. -/
namespace K02
open PySem PySem.Spec L2
open PyProof.Rows GenW GxR
open LamX (ExtN)
abbrev sIsCircuit : Stmt := top 23 -- is_circuit
abbrev sCheckCircuit : Stmt := top 24 -- check_circuit
structure Circ where
  ni : Nat
  regs : List (Bool × Src)
  gates : List Gate
  outs : List Src
def CircAt (H : Hp) (y : V) (C : Circ) : Prop := ∃ t ra ga oa rs gs os, y = .ref t ∧ H t = some (.tup [.int C.ni, .ref ra, .ref ga, .ref oa]) ∧ H ra = some (.tup rs) ∧ H ga = some (.tup gs) ∧ H oa = some (.tup os) ∧ AllAt RegAt H rs C.regs ∧ AllAt GateAt H gs C.gates ∧ AllAt SrcAt H os C.outs
theorem CircAt.ext {H H' : Hp} {y : V} {C : Circ} (h : CircAt H y C) (e : ExtN H H') : CircAt H' y C := by
  obtain ⟨t, ra, ga, oa, rs, gs, os, h1, h2, h3, h4, h5, h6, h7, h8⟩ := h
  exact ⟨t, ra, ga, oa, rs, gs, os, h1, e _ _ h2 (fun _ z => by cases z), e _ _ h3 (fun _ z => by cases z), e _ _ h4 (fun _ z => by cases z), e _ _ h5 (fun _ z => by cases z), all_ext (fun v x r => r.ext e) h6, all_ext (fun v x r => r.ext e) h7, all_ext (fun v x r => r.ext e) h8⟩
structure Circ.ok (C : Circ) : Prop where
  ni : C.ni ≤ 8
  nr : C.regs.length ≤ 60
  ng : C.gates.length ≤ 2000
  no : C.outs.length ≤ 60
  regs : ∀ r ∈ C.regs, r.2.ok C.ni C.regs.length C.gates.length
  gates : ∀ g ∈ C.gates, g.ok C.ni C.regs.length C.gates.length
  outs : ∀ s ∈ C.outs, s.ok C.ni C.regs.length C.gates.length
section
variable {P : Program} {w : World} {K : PySem.W.Frag} {mg : Str → Option Value} {base : Heap}
/-- not a tuple of four -/
def Odd4 (K : PySem.W.Frag) (H : Hp) (y : V) : Prop := ∃ t xs, Ty1 K H y t ∧ TupV K H y t xs ∧ (decide (t = "tuple") && decide ((xs.length : Int) = 4)) = false
def spCircuitT (K : PySem.W.Frag) (TT : List Addr) : Sp := fun vs H Q _ => ∃ (y : V), vs = [y] ∧ ((∃ C : Circ, CircAt H y C ∧ C.ok ∧ TabsG TT H ∧ ∀ H', Ex TT H H' → Q (.bl true) H') ∨ (Odd4 K H y ∧ Q (.bl false) H))
theorem scCircuitT : FnScope ["thing", "inputs", "registers", "gates", "outputs", "sizes", "item"] ["thing"] (defScope sIsCircuit) := ⟨rfl, rfl, rfl, by decide +kernel, rfl, by decide +kernel, by decide +kernel⟩
theorem ok_circuitT {TT : List Addr} {f fT fU fL fG fR fS c T : Addr} {fd fdT fdU fdL fdG fdR fdS : FuncData} {tk1 tk2 tk3 tk4 : Tok} (F : Fun K "is_circuit" "is_circuit" sIsCircuit f fd) (hc : fd.code = .ref c) (TB : TabB base mg c T) (hTT : T ∈ TT) (mall : mg "all" = none) (mlen : mg "len" = none)
    (m1 : mg "MOST_INPUTS" = some (.int 8 tk1)) (m2 : mg "MOST_REGISTERS" = some (.int 60 tk2)) (m3 : mg "MOST_GATES" = some (.int 2000 tk3)) (m4 : mg "MOST_OUTPUTS" = some (.int 60 tk4))
    (GT : FnOk P w K mg base CX0 1 fT fdT ["thing", "many"] (spTupleOf K)) (kT : PySem.W.keepIn K (.ref fT) = true) (bT : Binds K fdT ["thing", "many"] []) (mT : mg "is_tuple_of" = some (.ref fT))
    (GU : FnOk P w K mg base CX0 1 fU fdU ["thing", "most"] (spUpTo K)) (kU : PySem.W.keepIn K (.ref fU) = true) (bU : Binds K fdU ["thing", "most"] []) (mU : mg "is_tuple_up_to" = some (.ref fU))
    (GL : FnOk P w K mg base CX0 2 fL fdL ["thing", "limit"] (spBelow K)) (kL : PySem.W.keepIn K (.ref fL) = true) (bL : Binds K fdL ["thing", "limit"] []) (mL : mg "is_below" = some (.ref fL))
    (GR : FnOk P w K mg base CX0 5 fR fdR ["thing", "sizes"] spRegister) (kR : PySem.W.keepIn K (.ref fR) = true) (bR : Binds K fdR ["thing", "sizes"] []) (mR : mg "is_register" = some (.ref fR))
    (GG : FnOk P w K mg base CX0 6 fG fdG ["thing", "sizes"] (spGateT TT)) (kG : PySem.W.keepIn K (.ref fG) = true) (bG : Binds K fdG ["thing", "sizes"] []) (mG : mg "is_gate" = some (.ref fG))
    (GS : FnOk P w K mg base CX0 4 fS fdS ["thing", "sizes"] spSource) (kS : PySem.W.keepIn K (.ref fS) = true) (bS : Binds K fdS ["thing", "sizes"] []) (mS : mg "is_source" = some (.ref fS)) : FnOk P w K mg base CX0 8 f fd ["thing"] (spCircuitT K TT) := by
  refine okC F hc scCircuitT (fun vs H Q E h => ?_) (fun A outer s H vs Q E hr h => ?_)
  · obtain ⟨y, rfl, _⟩ := h
    rfl
  · obtain ⟨y, rfl, h⟩ := h
    refine ⟨_, pss_cons (ps_if (pt_not (pt_val (pe_call GT (hr.mono (by decide)) (by rfl) mT kT bT .nil pass0 (pa_cons (pv 0) (pa_cons pe_int pa_nil))))) (pss_one (ps_ret pe_bl)) pss_nil)
      (pss_cons (ps_asg (pv 0) (pg_tup rfl (pgs_cons (pg_name (i := 1) scCircuitT.nd rfl (Or.inl rfl)) (pgs_cons (pg_name (i := 2) scCircuitT.nd rfl (Or.inl rfl)) (pgs_cons (pg_name (i := 3) scCircuitT.nd rfl (Or.inl rfl)) (pgs_cons (pg_name (i := 4) scCircuitT.nd rfl (Or.inl rfl)) pgs_nil))))))
      (pss_cons (ps_if (pw_or (pt_not (pt_val (pe_call GL (hr.mono (by decide)) (by rfl) mL kL bL .nil pass0 (pa_cons (pv 1) (pa_cons (pe_op op_add (pe_glob (v := .int 8) (by rfl) m1 ⟨_, rfl⟩) pe_int) pa_nil)))))
          (pw_or1 (pt_not (pt_val (pe_call GU (hr.mono (by decide)) (by rfl) mU kU bU .nil pass0 (pa_cons (pv 2) (pa_cons (pe_glob (v := .int 60) (by rfl) m2 ⟨_, rfl⟩) pa_nil))))))).pt (pss_one (ps_ret pe_bl)) pss_nil)
      (pss_cons (ps_if (pw_or (pt_not (pt_val (pe_call GU (hr.mono (by decide)) (by rfl) mU kU bU .nil pass0 (pa_cons (pv 3) (pa_cons (pe_glob (v := .int 2000) (by rfl) m3 ⟨_, rfl⟩) pa_nil)))))
          (pw_or1 (pt_not (pt_val (pe_call GU (hr.mono (by decide)) (by rfl) mU kU bU .nil pass0 (pa_cons (pv 4) (pa_cons (pe_glob (v := .int 60) (by rfl) m4 ⟨_, rfl⟩) pa_nil))))))).pt (pss_one (ps_ret pe_bl)) pss_nil)
      (pss_cons (ps_set (i := 5) scCircuitT.nd rfl (Or.inr rfl) (pe_tup (pa_cons (pv 1) (pa_cons (pe_callB call_len_seq (by rfl) mlen PySem.boot_len (pa_cons (pv 2) pa_nil)) (pa_cons (pe_callB call_len_seq (by rfl) mlen PySem.boot_len (pa_cons (pv 3) pa_nil)) pa_nil)))))
      (pss_cons (ps_if (pt_not (pt_val (GX.pe_all (own := [("item", 6)]) (k := 5) (hr.mono (by decide)) (by rfl) mall TB rfl rfl scCircuitT.nd (pi_tup (pv 2)) (blkOk_by (N := ["thing", "inputs", "registers", "gates", "outputs", "sizes", "item"]) (sc := defScope sIsCircuit) (by decide +kernel)) (GX.genNames_by (by decide +kernel))
          (fun _ _ _ _ _ _ _ => pg_name (i := 6) scCircuitT.nd rfl (Or.inl rfl)) (fun _ _ _ _ _ _ _ _ => pts_nil) (fun _ _ _ _ _ _ _ hr2 => pe_call GR hr2 (by rfl) mR kR bR .nil pass0 (pa_cons (pv 6) (pa_cons (pv 5) pa_nil)))))) (pss_one (ps_ret pe_bl)) pss_nil)
      (pss_cons (ps_if (pt_not (pt_val (GX.pe_all (own := [("item", 6)]) (k := 6) hr (by rfl) mall TB rfl rfl scCircuitT.nd (pi_tup (pv 3)) (blkOk_by (N := ["thing", "inputs", "registers", "gates", "outputs", "sizes", "item"]) (sc := defScope sIsCircuit) (by decide +kernel)) (GX.genNames_by (by decide +kernel))
          (fun _ _ _ _ _ _ _ => pg_name (i := 6) scCircuitT.nd rfl (Or.inl rfl)) (fun _ _ _ _ _ _ _ _ => pts_nil) (fun _ _ _ _ _ _ _ hr2 => pe_call GG hr2 (by rfl) mG kG bG .nil pass0 (pa_cons (pv 6) (pa_cons (pv 5) pa_nil)))))) (pss_one (ps_ret pe_bl)) pss_nil)
      (pss_one (ps_ret (GX.pe_all (own := [("item", 6)]) (k := 4) (hr.mono (by decide)) (by rfl) mall TB rfl rfl scCircuitT.nd (pi_tup (pv 4)) (blkOk_by (N := ["thing", "inputs", "registers", "gates", "outputs", "sizes", "item"]) (sc := defScope sIsCircuit) (by decide +kernel)) (GX.genNames_by (by decide +kernel))
          (fun _ _ _ _ _ _ _ => pg_name (i := 6) scCircuitT.nd rfl (Or.inl rfl)) (fun _ _ _ _ _ _ _ _ => pts_nil) (fun _ _ _ _ _ _ _ hr2 => pe_call GS hr2 (by rfl) mS kS bS .nil pass0 (pa_cons (pv 6) (pa_cons (pv 5) pa_nil)))))))))))), ?_⟩
    rcases h with ⟨C, ⟨t, ra, ga, oa, rs, gs, os, rfl, et, er, eg, eo, hrs, hgs, hos⟩, ok, hT, q⟩ | ⟨⟨ty, xs, ht, hx, no⟩, q⟩
    case inr =>
      refine ⟨_, rfl, y, ty, xs, 4, rfl, ht, hx, _, rfl, ?_⟩
      rw [no]
      exact iteT q
    refine ⟨_, rfl, .ref t, "tuple", [.int C.ni, .ref ra, .ref ga, .ref oa], 4, rfl, tyT et, fun _ => ⟨t, rfl, .inl (.inl et)⟩, _, rfl, ?_⟩
    refine iteF ⟨_, rfl, t, _, rfl, .inl (.inl et), rfl, _, _, rfl, _, _, rfl, _, _, rfl, _, _, rfl, rfl, ?_⟩
    have lr : rs.length = C.regs.length := Paired.length hrs
    have lg : gs.length = C.gates.length := Paired.length hgs
    have lo : os.length = C.outs.length := Paired.length hos
    have k1 := ok.ni
    have k2 := ok.nr
    have k3 := ok.ng
    have k4 := ok.no
    have u1 : (decide (("tuple" : String) = "tuple") && decide ((rs.length : Int) ≤ 60)) = true := by
      rw [decide_eq_true rfl, decide_eq_true (show (rs.length : Int) ≤ 60 by omega)]
      rfl
    have u2 : (decide (("tuple" : String) = "tuple") && decide ((gs.length : Int) ≤ 2000)) = true := by
      rw [decide_eq_true rfl, decide_eq_true (show (gs.length : Int) ≤ 2000 by omega)]
      rfl
    have u3 : (decide (("tuple" : String) = "tuple") && decide ((os.length : Int) ≤ 60)) = true := by
      rw [decide_eq_true rfl, decide_eq_true (show (os.length : Int) ≤ 60 by omega)]
      rfl
    have ub : bel (.int (C.ni : Int)) 9 = true := bel_nat (l := 9) (show C.ni < 9 by omega)
    refine ⟨_, rfl, _, _, rfl, rfl, .int C.ni, "int", 9, rfl, tyI _, _, rfl, ?_⟩
    rw [ub]
    refine iteF ⟨_, rfl, .ref ra, "tuple", rs, 60, rfl, tyT er, fun _ => ⟨ra, rfl, .inl (.inl er)⟩, _, rfl, ?_⟩
    rw [u1]
    refine iteF ⟨_, rfl, .ref ga, "tuple", gs, 2000, rfl, tyT eg, fun _ => ⟨ga, rfl, .inl (.inl eg)⟩, _, rfl, ?_⟩
    rw [u2]
    refine iteF ⟨_, rfl, .ref oa, "tuple", os, 60, rfl, tyT eo, fun _ => ⟨oa, rfl, .inl (.inl eo)⟩, _, rfl, ?_⟩
    rw [u3]
    refine iteF ⟨_, rfl, _, rfl, ra, rs, rfl, .inr (.inl (.inl er)), _, rfl, ga, gs, rfl, .inr (.inl (.inl eg)), (show 3 ≤ sizeLine by decide +kernel), fun z nz => ?_⟩
    have xz : Ex TT H (L2.upd H z (.tup [.int C.ni, .int rs.length, .int gs.length])) := Ex.same (same_new nz)
    have ez : (L2.upd H z (.tup [.int C.ni, .int rs.length, .int gs.length])) z = some (.tup [.int C.ni, .int C.regs.length, .int C.gates.length]) := by
      rw [upd_same, lr, lg]
    revert xz ez
    generalize (L2.upd H z (.tup [.int C.ni, .int rs.length, .int gs.length])) = Hz
    intro xz ez
    have hTz := xz.tabs hT
    have nz1 := xz.extN hT
    have erz := nz1 _ _ er (fun _ z => by cases z)
    have egz := nz1 _ _ eg (fun _ z => by cases z)
    have eoz := nz1 _ _ eo (fun _ z => by cases z)
    have hrz : AllAt RegAt Hz rs C.regs := all_ext (fun v x r => r.ext nz1) hrs
    have hgz : AllAt GateAt Hz gs C.gates := all_ext (fun v x r => r.ext nz1) hgs
    have hoz : AllAt SrcAt Hz os C.outs := all_ext (fun v x r => r.ext nz1) hos
    refine ⟨_, rfl, ra, rfl, ⟨_, .inl (.inl erz)⟩, hTz T hTT, fun H2 hT2 => ⟨fun i m H3 => m + i = rs.length ∧ Ex TT Hz H3, ⟨rs.length, rfl, Ex.tabbed hTT hT2⟩, fun i m H3 hW => ?_⟩⟩
    · obtain ⟨em, x3⟩ := hW
      have n3 := x3.extN hTz
      have er3 := n3 _ _ erz (fun _ z => by cases z)
      have sq3 : SqT K H3 ra rs := .inl (.inl er3)
      by_cases hi : i < rs.length
      · refine .inr ⟨⟨rs, rs[i], sq3, List.getElem?_eq_getElem hi⟩, fun H4 => Ex TT Hz H4, fun H4 x4 => ⟨m - 1, by omega, by omega, x4⟩, fun y H4 hy => ?_⟩
        obtain ⟨rfl, hy⟩ := hy
        have ey := hy _ sq3
        obtain ⟨r, hr1, hs⟩ := all_get hrz ey
        refine ⟨rfl, _, rfl, _, rfl, y, z, r, C.ni, C.regs.length, C.gates.length, rfl, hs.ext n3, n3 _ _ ez (fun _ z => by cases z), ok.regs r (List.mem_of_getElem? hr1), _, rfl, ?_⟩
        exact ⟨(fun hc => by cases hc), (fun hc => x3)⟩
      · refine .inl ⟨⟨rs, sq3, by omega⟩, _, rfl, ?_⟩
        refine iteF ?_
        have hT3 := x3.tabs hTz
        have eg3 := n3 _ _ egz (fun _ z => by cases z)
        have hg3 : AllAt GateAt H3 gs C.gates := all_ext (fun v x r => r.ext n3) hgz
        have xa := xz.trans x3
        have na := xa.extN hT
        have ez3 := n3 _ _ ez (fun _ z => by cases z)
        refine ⟨_, rfl, ga, rfl, ⟨_, .inl (.inl eg3)⟩, hT3 T hTT, fun H5 hT5 => ⟨fun i m H6 => m + i = gs.length ∧ Ex TT H3 H6, ⟨gs.length, rfl, Ex.tabbed hTT hT5⟩, fun i m H6 hW => ?_⟩⟩
        obtain ⟨em, x6⟩ := hW
        have n6 := x6.extN hT3
        have eg6 := n6 _ _ eg3 (fun _ z => by cases z)
        have sq6 : SqT K H6 ga gs := .inl (.inl eg6)
        by_cases hi : i < gs.length
        · refine .inr ⟨⟨gs, gs[i], sq6, List.getElem?_eq_getElem hi⟩, fun H7 => Ex TT H3 H7, fun H7 x7 => ⟨m - 1, by omega, by omega, x7⟩, fun y H7 hy => ?_⟩
          obtain ⟨rfl, hy⟩ := hy
          have ey := hy _ sq6
          obtain ⟨g, hg1, hs⟩ := all_get hg3 ey
          refine ⟨rfl, _, rfl, _, rfl, y, z, g, C.ni, C.regs.length, C.gates.length, rfl, hs.ext n6, n6 _ _ ez3 (fun _ z => by cases z), ok.gates g (List.mem_of_getElem? hg1), x6.tabs hT3, fun H8 x8 => ⟨_, rfl, ?_⟩⟩
          exact ⟨(fun hc => by cases hc), (fun hc => x6.trans x8)⟩
        · refine .inl ⟨⟨gs, sq6, by omega⟩, _, rfl, ?_⟩
          refine iteF ?_
          have hT6 := x6.tabs hT3
          have xb := xa.trans x6
          have nb := xb.extN hT
          have eo6 := nb _ _ eo (fun _ z => by cases z)
          have ho6 : AllAt SrcAt H6 os C.outs := all_ext (fun v x r => r.ext nb) hos
          have ez6 := n6 _ _ ez3 (fun _ z => by cases z)
          refine ⟨_, rfl, oa, rfl, ⟨_, .inl (.inl eo6)⟩, hT6 T hTT, fun H9 hT9 => ⟨fun i m H6' => m + i = os.length ∧ Ex TT H6 H6', ⟨os.length, rfl, Ex.tabbed hTT hT9⟩, fun i m Ha hW => ?_⟩⟩
          obtain ⟨em, xc⟩ := hW
          have nc := xc.extN hT6
          have eo9 := nc _ _ eo6 (fun _ z => by cases z)
          have sq9 : SqT K Ha oa os := .inl (.inl eo9)
          by_cases hi : i < os.length
          · refine .inr ⟨⟨os, os[i], sq9, List.getElem?_eq_getElem hi⟩, fun Hb => Ex TT H6 Hb, fun Hb x7 => ⟨m - 1, by omega, by omega, x7⟩, fun y Hb hy => ?_⟩
            obtain ⟨rfl, hy⟩ := hy
            have ey := hy _ sq9
            obtain ⟨sr, hg1, hs⟩ := all_get ho6 ey
            refine ⟨rfl, _, rfl, _, rfl, y, z, sr, C.ni, C.regs.length, C.gates.length, rfl, hs.ext nc, nc _ _ ez6 (fun _ z => by cases z), ok.outs sr (List.mem_of_getElem? hg1), _, rfl, ?_⟩
            exact ⟨(fun hc => by cases hc), (fun hc => xc)⟩
          · exact .inl ⟨⟨os, sq9, by omega⟩, q Ha (xb.trans xc)⟩
end
end K02

set_option Elab.async false
set_option linter.all false
set_option maxRecDepth 100000
set_option maxHeartbeats 2000000
/-! Cases: check_circuit, is_readings, check_case. -/
namespace K02
open PySem PySem.Spec L2
open PyProof.Rows GenW GxR
open LamX (ExtN)
abbrev sIsReadings : Stmt := top 12 -- is_readings
abbrev sCheckCase : Stmt := top 26 -- check_case
section
variable {P : Program} {w : World} {K : PySem.W.Frag} {mg : Str → Option Value} {base : Heap}
/-- as okC, for a def that may raise -/
theorem okCX {x qual : Str} {st : Stmt} {f c : Addr} {fd : FuncData} {N ps : List Str} {k : Nat} {sp : Sp} (F : Fun K x qual st f fd) (hc : fd.code = .ref c) (S : FnScope N ps (defScope st)) (len : ∀ vs H Q E, sp vs H Q E → vs.length = ps.length)
    (hbody : ∀ (A : Around) (outer : List Env) (s : Shared) (H : Hp) (vs : List V) (Q : VK) (E : XK), Room k (A.deeper (envOfC qual (defScope st) s.heap.objs.size f (.ref c))) → sp vs H Q E →
      ∃ t, PSs (cxOf (L2.CX P w) P w K mg base N qual (defScope st) f (.ref c) A outer s H E) (defBody st) t ∧ t { nx := fun _ H' => Q .non H', rt := Q } (start N vs) H) : FnOk P w K mg base (L2.CX P w) (k + 1) f fd ps sp := by
  obtain ⟨oc, od, kV, doc, pm, an, cdv, ct, osl, rfl, lk, hcd⟩ := F.ex
  have e : cdv = .ref c := hc
  subst e
  exact fn_of lk hcd S len fun A outer s H vs Q E hr hsp => hbody A outer s H vs Q E hr hsp

def spReadings (K : PySem.W.Frag) (TT : List Addr) : Sp := fun vs H Q _ => ∃ (x : V) (t : String) (xs : List V) (n : Int), vs = [x, .int n] ∧ Ty1 K H x t ∧ TupV K H x t xs ∧ (t = "tuple" → ∀ y ∈ xs, ∃ ty, Ty1 K H y ty) ∧ TabsG TT H ∧
  ∀ H', Ex TT H H' → Q (.bl (decide (t = "tuple") && decide ((xs.length : Int) = n) && xs.all rdB)) H'
theorem scReadings : FnScope ["thing", "many", "item"] ["thing", "many"] (defScope sIsReadings) := ⟨rfl, rfl, rfl, by decide +kernel, rfl, by decide +kernel, by decide +kernel⟩
theorem ok_readings {TT : List Addr} {f fT fB c T : Addr} {fd fdT fdB : FuncData} (F : Fun K "is_readings" "is_readings" sIsReadings f fd) (hc : fd.code = .ref c) (TB : TabB base mg c T) (hTT : T ∈ TT) (mall : mg "all" = none)
    (GT : FnOk P w K mg base CX0 1 fT fdT ["thing", "many"] (spTupleOf K)) (kT : PySem.W.keepIn K (.ref fT) = true) (bT : Binds K fdT ["thing", "many"] []) (mT : mg "is_tuple_of" = some (.ref fT))
    (GB : FnOk P w K mg base CX0 4 fB fdB ["thing"] (spReading K)) (kB : PySem.W.keepIn K (.ref fB) = true) (bB : Binds K fdB ["thing"] []) (mB : mg "is_reading" = some (.ref fB)) :
    FnOk P w K mg base CX0 6 f fd ["thing", "many"] (spReadings K TT) := by
  refine okC F hc scReadings (fun vs H Q E h => ?_) (fun A outer s H vs Q E hr h => ?_)
  · obtain ⟨x, t, xs, n, rfl, _⟩ := h
    rfl
  · obtain ⟨x, t, xs, n, rfl, ht, hx, hys, hT, q⟩ := h
    refine ⟨_, pss_one (ps_ret (pe_and (pe_call GT (hr.mono (by decide)) (by rfl) mT kT bT .nil pass0 (pa_cons (pv 0) (pa_cons (pv 1) pa_nil)))
      (pe_one (GX.pe_all (own := [("item", 2)]) (k := 4) hr (by rfl) mall TB rfl rfl scReadings.nd (pi_tup (pv 0)) (blkOk_by (N := ["thing", "many", "item"]) (sc := defScope sIsReadings) (by decide +kernel)) (GX.genNames_by (by decide +kernel))
        (fun _ _ _ _ _ _ _ => pg_name (i := 2) scReadings.nd rfl (Or.inl rfl)) (fun _ _ _ _ _ _ _ _ => pts_nil) (fun _ _ _ _ _ _ _ hr2 => pe_call GB hr2 (by rfl) mB kB bB .nil pass0 (pa_cons (pv 2) pa_nil)))))), ?_⟩
    refine ⟨_, rfl, _, rfl, x, t, xs, n, rfl, ht, hx, _, rfl, ite2 (fun hb => ?_) (fun hb => ?_)⟩
    · obtain ⟨h1, h2⟩ := (Bool.and_eq_true _ _).mp hb
      have h1 := of_decide_eq_true h1
      obtain ⟨a, rfl, hS⟩ := hx h1
      subst h1
      have q2 : ∀ H', Ex TT H H' → Q (.bl (xs.all rdB)) H' := fun H' e1 => by
        have z := q H' e1
        rw [h2] at z
        exact z
      have hys := hys rfl
      refine ⟨_, rfl, a, rfl, ⟨_, hS⟩, hT T hTT, fun H2 hT2 => ⟨fun i m H3 => m + i = xs.length ∧ Ex TT H H3 ∧ ((xs.take i).all rdB) = true, ⟨xs.length, rfl, Ex.tabbed hTT hT2, rfl⟩, fun i m H3 hW => ?_⟩⟩
      obtain ⟨em, x3, ha⟩ := hW
      have e3 := x3.extN hT
      by_cases hi : i < xs.length
      · refine .inr ⟨⟨xs, xs[i], extN_seqT e3 hS, List.getElem?_eq_getElem hi⟩, fun H4 => Ex TT H H4 ∧ ((xs.take (i + 1)).all rdB) = true, fun H4 ⟨x4, a4⟩ => ⟨m - 1, by omega, by omega, x4, a4⟩, fun y H4 hy => ?_⟩
        obtain ⟨rfl, hy⟩ := hy
        have ey := hy _ (extN_seqT e3 hS)
        obtain ⟨ty, hty⟩ := hys y (List.mem_of_getElem? ey)
        refine ⟨rfl, _, rfl, y, ty, rfl, hty.ext e3, _, rfl, fun hc => ?_, fun hc => ⟨x3, ?_⟩⟩
        · have z := q2 H4 x3
          have e : (xs.all rdB) = false := by
            rw [Bool.eq_false_iff]
            intro z
            have z2 := List.all_eq_true.mp z y (List.mem_of_getElem? ey)
            rw [z2] at hc
            cases hc
          rw [e] at z
          exact z
        · rw [take_snoc ey, List.all_append, ha]
          simpa using hc
      · refine .inl ⟨⟨xs, extN_seqT e3 hS, by omega⟩, ?_⟩
        have z := q2 H3 x3
        rw [List.take_of_length_le (by omega)] at ha
        rw [ha] at z
        exact z
    · rw [Bool.not_eq_true] at hb
      have z := q H (Ex.refl TT H)
      rw [hb] at z
      exact z
def spCheckC (K : PySem.W.Frag) (TT : List Addr) (CC : Addr) : Sp := fun vs H Q E => ∃ (y : V), vs = [y] ∧ ((∃ C : Circ, CircAt H y C ∧ C.ok ∧ TabsG TT H ∧ ∀ H', Ex TT H H' → Q .non H') ∨ (Odd4 K H y ∧ E (.ref CC) none H))
theorem scCheckC : FnScope ["circuit"] ["circuit"] (defScope sCheckCircuit) := ⟨rfl, rfl, rfl, by decide +kernel, rfl, by decide +kernel, by decide +kernel⟩
theorem ok_checkC {TT : List Addr} {f fC c CC : Addr} {fd fdC : FuncData} (F : Fun K "check_circuit" "check_circuit" sCheckCircuit f fd) (hc : fd.code = .ref c)
    (xC : PySem.W.excIn K CC [.type "ValueError", .type "Exception", .type "BaseException", .type "object"] "ValueError.__new__" = true) (gC : mg "BadCircuit" = some (.ref CC)) (kCC : PySem.W.keepIn K (.ref CC) = true) (bCC : PySem.W.subIn K (.ref CC) (.type "BaseException") = some true) (tCC : PySem.W.typeIn K (.ref CC) = some (.type "type"))
    (GC : FnOk P w K mg base CX0 8 fC fdC ["thing"] (spCircuitT K TT)) (kC : PySem.W.keepIn K (.ref fC) = true) (bC : Binds K fdC ["thing"] []) (mC : mg "is_circuit" = some (.ref fC)) :
    FnOk P w K mg base (L2.CX P w) 9 f fd ["circuit"] (spCheckC K TT CC) := by
  refine okCX F hc scCheckC (fun vs H Q E h => ?_) (fun A outer s H vs Q E hr h => ?_)
  · obtain ⟨y, rfl, _⟩ := h
    rfl
  · obtain ⟨y, rfl, h⟩ := h
    refine ⟨_, pss_one (ps_if (pt_not (pt_val (pe_call GC hr (by rfl) mC kC bC .nil pass0 (pa_cons (pv 0) pa_nil))))
        (pss_one (ps_raise rfl (takes_of rfl rfl rfl rfl) (pmk_own PySem.F.excBase_ValueError xC gC kCC (raises_own bCC tCC) (by rfl)))) pss_nil), ?_⟩
    rcases h with ⟨C, hC, ok, hT, q⟩ | ⟨o, q⟩
    · exact ⟨_, rfl, y, rfl, .inl ⟨C, hC, ok, hT, fun H' x => ⟨_, rfl, iteF (q H' x)⟩⟩⟩
    · exact ⟨_, rfl, y, rfl, .inr ⟨o, _, rfl, iteT q⟩⟩
end
end K02

set_option Elab.async false
set_option linter.all false
set_option maxRecDepth 100000
set_option maxHeartbeats 2000000
/-! check_case. -/
namespace K02
open PySem PySem.Spec L2
open PyProof.Rows GenW GxR
open LamX (ExtN)
theorem bel_bit {y : V} (h : bel y 2 = true) : ∃ b, y = bitV b := by
  cases y with
  | int i =>
    have h : (decide (0 ≤ i) && decide (i < 2)) = true := h
    simp only [Bool.and_eq_true, decide_eq_true_eq] at h
    by_cases h1 : i = 1
    · exact ⟨true, by rw [h1]; rfl⟩
    · exact ⟨false, by rw [show i = 0 by omega]; rfl⟩
  | _ => cases h
theorem rdB_rd {y : V} (h : rdB y = true) : ∃ r, y = rdV r := by
  unfold rdB at h
  rcases (Bool.or_eq_true _ _).mp h with h | h
  · exact ⟨none, of_decide_eq_true h⟩
  · obtain ⟨b, e⟩ := bel_bit h
    exact ⟨some b, e⟩
theorem all_bits {xs : List V} (h : (xs.all fun y => bel y 2) = true) : ∃ tb : List Bool, xs = tb.map bitV := by
  induction xs with
  | nil => exact ⟨[], rfl⟩
  | cons x r ih =>
    rw [List.all_cons, Bool.and_eq_true] at h
    obtain ⟨b, e⟩ := bel_bit h.1
    obtain ⟨tb, e2⟩ := ih h.2
    exact ⟨b :: tb, by rw [e, e2]; rfl⟩
theorem all_rds {xs : List V} (h : xs.all rdB = true) : ∃ rs : List (Option Bool), xs = rs.map rdV := by
  induction xs with
  | nil => exact ⟨[], rfl⟩
  | cons x r ih =>
    rw [List.all_cons, Bool.and_eq_true] at h
    obtain ⟨b, e⟩ := rdB_rd h.1
    obtain ⟨tb, e2⟩ := ih h.2
    exact ⟨b :: tb, by rw [e, e2]; rfl⟩
def okRd (t : String) (xs : List V) (n : Nat) : Bool := decide (t = "tuple") && decide ((xs.length : Int) = n) && xs.all rdB
theorem okRd_rds {t : String} {xs : List V} {n : Nat} (h : okRd t xs n = true) : t = "tuple" ∧ xs.length = n ∧ ∃ rs : List (Option Bool), xs = rs.map rdV := by
  unfold okRd at h
  simp only [Bool.and_eq_true, decide_eq_true_eq] at h
  obtain ⟨⟨a, b⟩, c⟩ := h
  exact ⟨a, by omega, all_rds c⟩
section
variable {P : Program} {w : World} {K : PySem.W.Frag} {mg : Str → Option Value} {base : Heap}
/-- what is known of a value that stands for readings -/
def ItemsV (K : PySem.W.Frag) (H : Hp) (x : V) (t : String) (xs : List V) : Prop := Ty1 K H x t ∧ TupV K H x t xs ∧ (t = "tuple" → ∀ y ∈ xs, ∃ ty, Ty1 K H y ty)
theorem ItemsV.ext {H H' : Hp} {x : V} {t : String} {xs : List V} (h : ItemsV K H x t xs) (e : ExtN H H') : ItemsV K H' x t xs :=
  ⟨h.1.ext e, h.2.1.ext e, fun ht y hy => by
    obtain ⟨ty, z⟩ := h.2.2 ht y hy
    exact ⟨ty, z.ext e⟩⟩
def spCheckCase (K : PySem.W.Frag) (TT : List Addr) (CC CG CH : Addr) : Sp := fun vs H Q E => ∃ (y x1 x2 : V), vs = [y, x1, x2] ∧ ((Odd4 K H y ∧ E (.ref CC) none H) ∨ (∃ (C : Circ) (t1 t2 : String) (xs1 xs2 : List V), CircAt H y C ∧ C.ok ∧ TabsG TT H ∧ ItemsV K H x1 t1 xs1 ∧ ItemsV K H x2 t2 xs2 ∧
  (okRd t1 xs1 C.ni = false → ∀ H', Ex TT H H' → E (.ref CG) none H') ∧ (okRd t1 xs1 C.ni = true → okRd t2 xs2 C.regs.length = false → ∀ H', Ex TT H H' → E (.ref CH) none H') ∧
  (okRd t1 xs1 C.ni = true → okRd t2 xs2 C.regs.length = true → ∀ H', Ex TT H H' → Q .non H')))
theorem scCheckCase : FnScope ["circuit", "given", "held"] ["circuit", "given", "held"] (defScope sCheckCase) := ⟨rfl, rfl, rfl, by decide +kernel, rfl, by decide +kernel, by decide +kernel⟩
theorem ok_checkCase {TT : List Addr} {f fC fR c CC CG CH : Addr} {fd fdC fdR : FuncData} (F : Fun K "check_case" "check_case" sCheckCase f fd) (hc : fd.code = .ref c) (mlen : mg "len" = none)
    (xG : PySem.W.excIn K CG [.type "ValueError", .type "Exception", .type "BaseException", .type "object"] "ValueError.__new__" = true) (gG : mg "BadGiven" = some (.ref CG)) (kCG : PySem.W.keepIn K (.ref CG) = true) (bCG : PySem.W.subIn K (.ref CG) (.type "BaseException") = some true) (tCG : PySem.W.typeIn K (.ref CG) = some (.type "type"))
    (xH : PySem.W.excIn K CH [.type "ValueError", .type "Exception", .type "BaseException", .type "object"] "ValueError.__new__" = true) (gH : mg "BadHeld" = some (.ref CH)) (kCH : PySem.W.keepIn K (.ref CH) = true) (bCH : PySem.W.subIn K (.ref CH) (.type "BaseException") = some true) (tCH : PySem.W.typeIn K (.ref CH) = some (.type "type"))
    (GC : FnOk P w K mg base (L2.CX P w) 9 fC fdC ["circuit"] (spCheckC K TT CC)) (kC : PySem.W.keepIn K (.ref fC) = true) (bC : Binds K fdC ["circuit"] []) (mC : mg "check_circuit" = some (.ref fC))
    (GR : FnOk P w K mg base CX0 6 fR fdR ["thing", "many"] (spReadings K TT)) (kR : PySem.W.keepIn K (.ref fR) = true) (bR : Binds K fdR ["thing", "many"] []) (mR : mg "is_readings" = some (.ref fR)) :
    FnOk P w K mg base (L2.CX P w) 10 f fd ["circuit", "given", "held"] (spCheckCase K TT CC CG CH) := by
  refine okCX F hc scCheckCase (fun vs H Q E h => ?_) (fun A outer s H vs Q E hr h => ?_)
  · obtain ⟨y, x1, x2, rfl, _⟩ := h
    rfl
  · obtain ⟨y, x1, x2, rfl, h⟩ := h
    refine ⟨_, pss_cons (ps_expr (pe_callS GC hr (by rfl) mC kC bC (passAt (takes_of rfl rfl rfl rfl)) (pa_cons (pv 0) pa_nil)))
      (pss_cons (ps_if (pt_not (pt_val (pe_call GR (hr.mono (by decide)) (by rfl) mR kR bR .nil pass0 (pa_cons (pv 1) (pa_cons (pe_ix (r := rIxT K) ix_tup (pv 0) pe_int (fun _ _ => rfl)) pa_nil)))))
        (pss_one (ps_raise rfl (takes_of rfl rfl rfl rfl) (pmk_own PySem.F.excBase_ValueError xG gG kCG (raises_own bCG tCG) (by rfl)))) pss_nil)
      (pss_one (ps_if (pt_not (pt_val (pe_call GR (hr.mono (by decide)) (by rfl) mR kR bR .nil pass0 (pa_cons (pv 2) (pa_cons (pe_callB call_len_seq (by rfl) mlen PySem.boot_len (pa_cons (pe_ix (r := rIxT K) ix_tup (pv 0) pe_int (fun _ _ => rfl)) pa_nil)) pa_nil)))))
        (pss_one (ps_raise rfl (takes_of rfl rfl rfl rfl) (pmk_own PySem.F.excBase_ValueError xH gH kCH (raises_own bCH tCH) (by rfl)))) pss_nil))), ?_⟩
    rcases h with ⟨o, q⟩ | ⟨C, t1, t2, xs1, xs2, hC, ok, hT, hx1, hx2, qG, qH, q⟩
    · exact ⟨_, rfl, y, rfl, .inr ⟨o, q⟩⟩
    · refine ⟨_, rfl, y, rfl, .inl ⟨C, hC, ok, hT, fun H1 e1 => ?_⟩⟩
      have hT1 := e1.tabs hT
      have n1 := e1.extN hT
      obtain ⟨t, ra, ga, oa, rs, gs, os, rfl, et, er, eg, eo, hrs, hgs, hos⟩ := hC
      have et1 := n1 _ _ et (fun _ z => by cases z)
      have er1 := n1 _ _ er (fun _ z => by cases z)
      have hx1' := hx1.ext n1
      have hx2' := hx2.ext n1
      have lr : rs.length = C.regs.length := Paired.length hrs
      refine ⟨_, rfl, _, rfl, t, _, 0, .int C.ni, rfl, rfl, .inl (.inl et1), rfl, x1, t1, xs1, C.ni, rfl, hx1'.1, hx1'.2.1, hx1'.2.2, hT1, fun H2 e2 => ⟨_, rfl, ?_⟩⟩
      have e12 := e1.trans e2
      have hT2 := e12.tabs hT
      have n2 := e12.extN hT
      have et2 := n2 _ _ et (fun _ z => by cases z)
      have er2 := n2 _ _ er (fun _ z => by cases z)
      have hx2'' := hx2.ext n2
      show (if (!okRd t1 xs1 C.ni) = true then _ else _)
      cases h1 : okRd t1 xs1 C.ni with
      | false => exact iteT (qG h1 H2 e12)
      | true =>
        refine iteF ⟨_, rfl, _, rfl, t, _, 1, .ref ra, rfl, rfl, .inl (.inl et2), rfl, ra, rs, rfl, .inr (.inl (.inl er2)), x2, t2, xs2, rs.length, rfl, hx2''.1, hx2''.2.1, hx2''.2.2, hT2, fun H3 e3 => ⟨_, rfl, ?_⟩⟩
        have e13 := e12.trans e3
        rw [lr]
        show (if (!okRd t2 xs2 C.regs.length) = true then _ else _)
        cases h2 : okRd t2 xs2 C.regs.length with
        | false => exact iteT (qH h1 h2 H3 e13)
        | true => exact iteF (q h1 h2 H3 e13)
end
end K02

set_option Elab.async false
set_option linter.all false
set_option maxRecDepth 100000
set_option maxHeartbeats 2000000
/-! source_reading, gate_now. -/
namespace K02
open PySem PySem.Spec L2
open PyProof.Rows GenW GxR
open LamX (ExtN)
abbrev sSrcR : Stmt := top 27 -- source_reading
abbrev sGateNow : Stmt := top 29 -- gate_now
abbrev Rd : Type := Option Bool
def srcV (gv hv fv : List Rd) : Src → Rd
  | .inp i => gv.getD i none
  | .reg i => hv.getD i none
  | .gate i => fv.getD i none
  | .bit b => some b
def gateV (gv hv fv : List Rd) (g : Gate) : Rd := gateR g.2 (g.1.map (srcV gv hv fv))
theorem at_rd {l : List Rd} {i : Nat} (h : i < l.length) : atI (l.map rdV) (i : Int) = some (rdV (l.getD i none)) := by
  refine atI_nat ?_
  rw [List.getElem?_map, List.getElem?_eq_getElem h, List.getD_eq_getElem?_getD, List.getElem?_eq_getElem h]
  rfl
section
variable {P : Program} {w : World} {K : PySem.W.Frag} {mg : Str → Option Value} {base : Heap}
def spSrcR (K : PySem.W.Frag) : Sp := fun vs H Q _ => ∃ (y : V) (ga ha la : Addr) (s : Src) (gv hv fv : List Rd), vs = [y, .ref ga, .ref ha, .ref la] ∧ SrcAt H y s ∧ SqT K H ga (gv.map rdV) ∧ SqT K H ha (hv.map rdV) ∧ H la = some (.lst (fv.map rdV)) ∧ s.ok gv.length hv.length fv.length ∧ Q (rdV (srcV gv hv fv s)) H
theorem scSrcR : FnScope ["source", "given", "held", "gates", "kind", "at"] ["source", "given", "held", "gates"] (defScope sSrcR) := ⟨rfl, rfl, rfl, by decide +kernel, rfl, by decide +kernel, by decide +kernel⟩
theorem ok_srcR {f : Addr} {fd : FuncData} (F : Fun K "source_reading" "source_reading" sSrcR f fd) : FnOk P w K mg base CX0 1 f fd ["source", "given", "held", "gates"] (spSrcR K) := by
  refine F.ok scSrcR (fun vs H Q E h => ?_) (fun cdv A outer s H vs Q E hr h => ?_)
  · obtain ⟨y, ga, ha, la, sr, gv, hv, fv, rfl, _⟩ := h
    rfl
  · obtain ⟨y, ga, ha, la, sr, gv, hv, fv, rfl, ⟨t, rfl, et⟩, hg, hh, hl, ok, q⟩ := h
    refine ⟨_, pss_cons (ps_asg (pv 0) (pg_tup rfl (pgs_cons (pg_name (i := 4) scSrcR.nd rfl (Or.inl rfl)) (pgs_cons (pg_name (i := 5) scSrcR.nd rfl (Or.inl rfl)) pgs_nil))))
      (pss_cons (ps_if (pt_cmpR op_eq (pv 4) pe_str (nomark _)) (pss_one (ps_ret (pe_ix (r := rIxT K) ix_tup (pv 1) (pv 5) (fun _ _ => rfl)))) pss_nil)
      (pss_cons (ps_if (pt_cmpR op_eq (pv 4) pe_str (nomark _)) (pss_one (ps_ret (pe_ix (r := rIxT K) ix_tup (pv 2) (pv 5) (fun _ _ => rfl)))) pss_nil)
      (pss_cons (ps_if (pt_cmpR op_eq (pv 4) pe_str (nomark _)) (pss_one (ps_ret (pe_ix (r := rIxL K) ix_list (pv 3) (pv 5) (fun _ _ => rfl)))) pss_nil)
      (pss_one (ps_ret (pv 5)))))), ?_⟩
    refine ⟨_, rfl, t, _, rfl, .inl (.inl et), rfl, _, _, rfl, _, _, rfl, rfl, ?_⟩
    have same_ : ∀ a : Str, decide (V.str a = V.str a) = true := fun a => decide_eq_true rfl
    have other : ∀ a b : Str, ¬ a = b → decide (V.str a = V.str b) = false := fun a b h => decide_eq_false fun z => h (V.str.inj z)
    cases sr with
    | inp i =>
      refine ⟨_, rfl, rfl, _, rfl, ?_⟩
      show (if decide (V.str ("in" : Str) = V.str "in") = true then _ else _)
      rw [same_]
      exact iteT ⟨_, rfl, _, rfl, ga, _, (i : Int), _, rfl, rfl, hg, at_rd ok, q⟩
    | reg i =>
      refine ⟨_, rfl, rfl, _, rfl, ?_⟩
      show (if decide (V.str ("reg" : Str) = V.str "in") = true then _ else _)
      rw [other _ _ (by decide +kernel)]
      refine iteF ⟨_, rfl, rfl, _, rfl, ?_⟩
      show (if decide (V.str ("reg" : Str) = V.str "reg") = true then _ else _)
      rw [same_]
      exact iteT ⟨_, rfl, _, rfl, ha, _, (i : Int), _, rfl, rfl, hh, at_rd ok, q⟩
    | gate i =>
      refine ⟨_, rfl, rfl, _, rfl, ?_⟩
      show (if decide (V.str ("gate" : Str) = V.str "in") = true then _ else _)
      rw [other _ _ (by decide +kernel)]
      refine iteF ⟨_, rfl, rfl, _, rfl, ?_⟩
      show (if decide (V.str ("gate" : Str) = V.str "reg") = true then _ else _)
      rw [other _ _ (by decide +kernel)]
      refine iteF ⟨_, rfl, rfl, _, rfl, ?_⟩
      show (if decide (V.str ("gate" : Str) = V.str "gate") = true then _ else _)
      rw [same_]
      exact iteT ⟨_, rfl, _, rfl, la, _, (i : Int), _, rfl, rfl, .inl (.inl hl), at_rd ok, q⟩
    | bit b =>
      refine ⟨_, rfl, rfl, _, rfl, ?_⟩
      show (if decide (V.str ("bit" : Str) = V.str "in") = true then _ else _)
      rw [other _ _ (by decide +kernel)]
      refine iteF ⟨_, rfl, rfl, _, rfl, ?_⟩
      show (if decide (V.str ("bit" : Str) = V.str "reg") = true then _ else _)
      rw [other _ _ (by decide +kernel)]
      refine iteF ⟨_, rfl, rfl, _, rfl, ?_⟩
      show (if decide (V.str ("bit" : Str) = V.str "gate") = true then _ else _)
      rw [other _ _ (by decide +kernel)]
      exact iteF ⟨_, rfl, q⟩
def spGateNow (K : PySem.W.Frag) : Sp := fun vs H Q _ => ∃ (y : V) (C : Circ) (gi : Nat) (g : Gate) (ga ha la : Addr) (gv hv fv : List Rd), vs = [y, .int (gi : Int), .ref ga, .ref ha, .ref la] ∧ CircAt H y C ∧ C.gates[gi]? = some g ∧ g.ok gv.length hv.length fv.length ∧ SqT K H ga (gv.map rdV) ∧ SqT K H ha (hv.map rdV) ∧ H la = some (.lst (fv.map rdV)) ∧
  ∀ H', Same H H' → Q (rdV (gateV gv hv fv g)) H'
theorem scGateNow : FnScope ["circuit", "gate", "given", "held", "gates", "sources", "table", "item"] ["circuit", "gate", "given", "held", "gates"] (defScope sGateNow) := ⟨rfl, rfl, rfl, by decide +kernel, rfl, by decide +kernel, by decide +kernel⟩
theorem ok_gateNow {f fS fT : Addr} {fd fdS fdT : FuncData} (F : Fun K "gate_now" "gate_now" sGateNow f fd)
    (GS : FnOk P w K mg base CX0 1 fS fdS ["source", "given", "held", "gates"] (spSrcR K)) (kS : PySem.W.keepIn K (.ref fS) = true) (bS : Binds K fdS ["source", "given", "held", "gates"] []) (mS : mg "source_reading" = some (.ref fS))
    (GT : FnOk P w K mg base CX0 1 fT fdT ["table", "readings"] (spTable K)) (kT : PySem.W.keepIn K (.ref fT) = true) (bT : Binds K fdT ["table", "readings"] []) (mT : mg "table_reading" = some (.ref fT)) :
    FnOk P w K mg base CX0 2 f fd ["circuit", "gate", "given", "held", "gates"] (spGateNow K) := by
  refine F.ok scGateNow (fun vs H Q E h => ?_) (fun cdv A outer s H vs Q E hr h => ?_)
  · obtain ⟨y, C, gi, g, ga, ha, la, gv, hv, fv, rfl, _⟩ := h
    rfl
  · obtain ⟨y, C, gi, g, ga, ha, la, gv, hv, fv, rfl, ⟨t, ra, gaa, oa, rs, gs, os, rfl, et, er, eg, eo, hrs, hgs, hos⟩, hgi, ok, hg, hh, hl, q⟩ := h
    obtain ⟨gv_, hgv⟩ : ∃ v, gs[gi]? = some v := by
      have hlt : gi < C.gates.length := (List.getElem?_eq_some_iff.mp hgi).1
      rw [← Paired.length hgs] at hlt
      exact ⟨_, List.getElem?_eq_getElem hlt⟩
    obtain ⟨g2, hg2, hgat⟩ := all_get hgs hgv
    have eg2 : g2 = g := by
      rw [hgi] at hg2
      exact (Option.some.inj hg2).symm
    subst eg2
    obtain ⟨tt, a, b, vs, rfl, ett, ea, hv2, eb⟩ := hgat
    obtain ⟨ok1, ok2, ok3⟩ := ok
    have lv : vs.length = g2.1.length := Paired.length hv2
    refine ⟨_, pss_cons (ps_asg (pe_ix (r := rIxT K) ix_tup (pe_ix (r := rIxT K) ix_tup (pv 0) pe_int (fun _ _ => rfl)) (pv 1) (fun _ _ => rfl)) (pg_tup rfl (pgs_cons (pg_name (i := 5) scGateNow.nd rfl (Or.inl rfl)) (pgs_cons (pg_name (i := 6) scGateNow.nd rfl (Or.inl rfl)) pgs_nil))))
      (pss_one (ps_ret (pe_call GT hr (by rfl) mT kT bT .nil pass0 (pa_cons (pv 6) (pa_cons (pe_lc (own := [("item", 7)]) (g := gName 7) (tt := tYes) rfl scGateNow.nd (pi_tup (pv 5)) (blkOk_by (N := ["circuit", "gate", "given", "held", "gates", "sources", "table", "item"]) (sc := defScope sGateNow) (by decide +kernel))
        (fun _ _ _ _ _ => pg_name (i := 7) scGateNow.nd rfl (Or.inl rfl)) (fun _ _ _ _ _ => pts_nil) (fun _ _ _ _ _ => pe_call GS hr (by rfl) mS kS bS .nil pass0 (pa_cons (pv 7) (pa_cons (pv 2) (pa_cons (pv 3) (pa_cons (pv 4) pa_nil)))))) pa_nil))))), ?_⟩
    refine ⟨_, rfl, t, _, 2, .ref gaa, rfl, rfl, .inl (.inl et), rfl, _, rfl, gaa, gs, (gi : Int), .ref tt, rfl, rfl, .inl (.inl eg), atI_nat hgv, tt, _, rfl, .inl (.inl ett), rfl, _, _, rfl, _, _, rfl, rfl, ?_⟩
    refine ⟨_, rfl, _, rfl, a, rfl, ⟨_, .inl (.inl ea)⟩, fun D nD => ⟨fun i m H3 => m + i = vs.length ∧ Same H H3 ∧ H3 D = some (.lst ((g2.1.take i).map fun s => rdV (srcV gv hv fv s))), ⟨vs.length, rfl, same_new nD, upd_same⟩, fun i m H3 hW => ?_⟩⟩
    obtain ⟨em, s3, e3⟩ := hW
    have ea3 := s3 _ _ ea
    have sq3 : SqT K H3 a vs := .inl (.inl ea3)
    by_cases hi : i < vs.length
    · refine .inr ⟨⟨vs, vs[i], sq3, List.getElem?_eq_getElem hi⟩, fun H4 => Same H H4 ∧ H4 D = some (.lst ((g2.1.take (i + 1)).map fun s => rdV (srcV gv hv fv s))), fun H4 x4 => ⟨m - 1, by omega, by omega, x4.1, x4.2⟩, fun y H4 hy => ?_⟩
      obtain ⟨rfl, hy⟩ := hy
      have ey := hy _ sq3
      obtain ⟨sr, hsr, hs⟩ := all_get hv2 ey
      have nn := extN_same s3
      refine ⟨rfl, _, rfl, _, rfl, _, rfl, _, rfl, y, ga, ha, la, sr, gv, hv, fv, rfl, hs.ext nn, extN_seqT nn hg, extN_seqT nn hh, s3 _ _ hl, ok3 sr (List.mem_of_getElem? hsr), _, e3, ?_, fun b' o e => ?_, ?_⟩
      · rw [List.length_map]
        exact small1000 (by rw [List.length_take]; omega)
      · have n1 : b' ≠ D := ne_of_none e nD
        rw [upd_ne n1]
        exact s3 _ _ e
      · rw [upd_same, take_snoc hsr, List.map_append]
        rfl
    · refine .inl ⟨⟨vs, sq3, by omega⟩, ?_⟩
      rw [List.take_of_length_le (by omega)] at e3
      have e4 : H3 D = some (.lst ((g2.1.map (srcV gv hv fv)).map rdV)) := by
        rw [e3, List.map_map]
        rfl
      refine ⟨b, D, g2.2, g2.1.map (srcV gv hv fv), _, rfl, .inl (.inl (s3 _ _ eb)), .inl ⟨rfl, .inl (.inl e4)⟩, by rw [List.length_map]; exact ok1, by rw [List.length_map]; exact ok2, fun H' s' => q H' (s3.trans s')⟩
end
end K02

set_option Elab.async false
set_option linter.all false
set_option maxRecDepth 100000
set_option maxHeartbeats 2000000
/-! A caught exception that is still known behind its try; a lambda handed to a def, with the other tables kept. -/
namespace CE
open PySem PySem.Spec L2
open PyProof.Rows

/-- an exception of the class cls stands at a -/
def CauO (cls : Value) (d : Option Addr) (a : Addr) : HO := .ext fun h => ∃ (oe : Obj) (vs : Array Value), h.get? a = some oe ∧ Zc cls d oe ∧ oe.data = .fields vs

section
variable {X : Cx} {pins : List (Addr × Obj)} {σ : L2.St} {H : Hp} {s : Shared}
theorem told {a : Addr} {oe : Obj} {cls : Value} {d : Option Addr} {vs : Array Value} (I : Inv X pins σ H s) (e : s.heap.get? a = some oe) (z : Zc cls d oe) (hd : oe.data = .fields vs) (na : H a = none)
    (n0 : X.s_0.heap.get? a = none) (nl : a ≠ X.env.locals) (np : ∀ p ∈ X.pn ++ pins, p.1 ≠ a) : Inv X pins σ (upd H a (CauO cls d a)) s where
  ok := I.ok
  os := I.os
  bare := I.bare
  base := by
    have U := I.base
    refine ⟨U.keep, U.slot, fun b o q n x => ?_, U.there, fun b xs q => ?_, fun b o u q => ?_, fun b ps q => ?_⟩
    · have hb : b ≠ a := fun w => by
        rw [w, n0] at q
        cases q
      rw [upd_ne hb]
      exact U.free b o q n x
    · have q' := U.tups b xs q
      rw [upd_ne (ne_of_none q' na)]
      exact q'
    · have q' := U.frzs b o u q
      rw [upd_ne (ne_of_none q' na)]
      exact q'
    · obtain ⟨m, q'⟩ := U.tbls b ps q
      refine ⟨m, ?_⟩
      rw [upd_ne (ne_of_none q' na)]
      exact q'
  loc := I.loc
  cell := I.cell
  free := by
    rw [upd_ne (Ne.symm nl)]
    exact I.free
  freeC := fun x c hc => by
    have n : c ≠ a := fun w => by
      obtain ⟨v, o', e1, e2⟩ := I.cell x c hc
      rw [w, e] at e1
      cases e1
      rw [hd] at e2
      cases e2
    rw [upd_ne n]
    exact I.freeC x c hc
  pin := fun p hp => by
    obtain ⟨p1, p2, p3⟩ := I.pin p hp
    refine ⟨p1, ?_, p3⟩
    rw [upd_ne (np p hp)]
    exact p2
  hok := fun b u q => by
    by_cases hb : b = a
    · rw [hb, upd_same] at q
      cases q
      rw [hb]
      exact ⟨⟨oe, vs, e, z, hd⟩, ⟨oe, e⟩, fun _ _ ⟨o, v, g, r⟩ k => ⟨o, v, k o g, r⟩⟩
    · rw [upd_ne hb] at q
      exact (I.hok b u q).stay (fun _ _ _ g => g) (fun c g => by rw [upd_ne (ne_of_none g na)]; exact g) fun c xs g => by rw [upd_ne (ne_of_none g na)]; exact g
  len := I.len
end
/-- what a try with one clause `except c as n` asks; behind its suite the caught error is known -/
def wKept (K : PySem.W.Frag) (c : Value) (i : Nat) (ts : Addr → Value → Option Addr → TS) (Wout : WX) (D : Ends) : WX := fun cls d σ H => ∃ b, PySem.W.exmOne K cls c = some b ∧
  (b = true → ∀ a, H a = none → ts a cls d { nx := fun σ' H' => D.nx (σ'.set i none) (upd H' a (CauO cls d a)), rt := fun _ _ => False, bk := fun _ _ => False, ct := fun _ _ => False } (σ.set i (some (.ref a))) H) ∧ (b = false → Wout cls d σ H)

section
variable {X : Cx} {body : List Stmt} {x n : Str} {c : Value} {i : Nat} {b₀ : Stmt} {suite : List Stmt} {Wout : WX} {tb : WX → TS} {ts : Addr → Value → Option Addr → TS} {np pos pos' : Pos}
theorem ps_try_kept (hs : X.stack = X.env :: X.outer) (hf : X.env.frame = some X.env.locals) (hex : X.ex = []) (hN : X.N.Nodup) (hi : X.N[i]? = some n) (hln : X.env.kindOf n = some .local) (hc : Names X x c) (tk : Takes X Wout)
    (hb : ∀ (W : WX) (pn : List (Addr × Obj)) (xe : Value → Shared → Prop), Takes (X.tr pn xe) W → PassesOwn (model X.prog X.w) X.A X.env xe → PSs (X.tr pn xe) body (tb W))
    (hsu : ∀ (a : Addr) (oe : Obj) (cls : Value) (d : Option Addr) (pn : List (Addr × Obj)), PSs (X.suite a ((a, oe) :: pn)) (b₀ :: suite) (ts a cls d)) :
    PS X (.Try body [.ExceptHandler (some (.Name x np)) (some n) (b₀ :: suite) pos'] [] [] pos) (fun D σ H => tb (wKept X.K c i ts Wout D) D σ H) := by
  constructor
  intro pins s σ H D I h
  have ok := I.ok
  have fr : X.A.frames = some (X.env :: X.outer) := ok.frames.trans (by rw [hs])
  have lc : Loc X.env.scope n := .inl hln
  apply wpAny_Try_except
  have hb' := hb (wKept X.K c i ts Wout D) (X.pn ++ pins) (fun e s₁ => wpAny (model X.prog X.w) X.A (noteFrame e X.env) (fun _ s₂ => wpAny (model X.prog X.w) X.A (setFlight e none) (fun _ s₃ =>
    wpAny (model X.prog X.w) X.A (handleBy e X.env [.ExceptHandler (some (.Name x np)) (some n) (b₀ :: suite) pos']) (SP X pins D) X.xe s₃) X.xe s₂) X.xe s₁)
  refine wpAny_mono ((hb' ?caught PassesOwn.looking).run [] s σ H D (I.toTry _) h) ?through fun e s1 he => he
  case through =>
    intro f s1 sp
    cases f with
    | next => exact sp.elim fun σ1 z => z.elim fun H1 z => wpAny_execs_nil ⟨σ1, H1, z.1.ofTry ok, z.2⟩
    | brk => exact sp.elim fun σ1 z => z.elim fun H1 z => ⟨σ1, H1, z.1.ofTry ok, z.2⟩
    | cont => exact sp.elim fun σ1 z => z.elim fun H1 z => ⟨σ1, H1, z.1.ofTry ok, z.2⟩
    | ret u => exact sp.elim fun v z => z.elim fun σ1 z => z.elim fun H1 z => ⟨v, σ1, H1, z.1.ofTry ok, z.2.1, z.2.2⟩
  case caught =>
    rintro u s' ⟨a, B, sI, pins', σ1, H1, cls, d, rfl, J', nb, up, sky, na, os, ag, b, hb1, yes, no⟩
    have J : Inv X pins σ1 H1 sI := J'.ofTry ok
    have sky1 : Sky B (X.env :: X.outer) a (Zc cls d) X.env.locals s'.heap := hs ▸ sky
    show wpAny (model X.prog X.w) X.A (noteFrame (.ref a) X.env) _ _ _
    refine Sky.land Zc.steady fr hf sky1 fun h3 fl up3 => ?_
    obtain ⟨o3, v3, g3, z3, d3⟩ := fl.there
    have J3 : Inv X pins σ1 H1 { s' with heap := h3 } := J.landed nb fl.1 (up.trans up3) os ag
    have out : a ∉ frs (X.env :: X.outer) := fun hm => by
      obtain ⟨_, o', e', nf⟩ := fl.2.2.1.mem hm
      rw [g3] at e'
      cases e'
      exact nf _ d3
    have nl : a ≠ X.env.locals := fun w => out (List.mem_filterMap.mpr ⟨X.env, List.mem_cons_self, by rw [hf, w]⟩)
    have nfs : a ∉ X.fs := fun hm => by
      obtain ⟨e, m, q⟩ := List.mem_filterMap.mp hm
      exact out (List.mem_filterMap.mpr ⟨e, List.mem_cons_of_mem _ m, q⟩)
    have none_ : sI.heap.get? a = none := by
      cases q : sI.heap.get? a with
      | none => rfl
      | some o =>
        have z := nb a o q (by rw [hs]; exact out)
        rw [fl.2.1] at z
        cases z
    have none0 : X.s_0.heap.get? a = none := by
      cases q : X.s_0.heap.get? a with
      | none => rfl
      | some o =>
        obtain ⟨o', z⟩ := J.base.there a o q (by rw [hex]; exact List.not_mem_nil)
        rw [none_] at z
        cases z
    have pn_ : ∀ p ∈ X.pn ++ pins, p.1 ≠ a := fun p hp w => by
      have z := (J.pin p hp).1
      rw [w, none_] at z
      cases z
    have S3 := J3.suite g3 d3 na nl nfs
    have lt : PySem.W.Looks (model X.prog X.w) h3 (typeOf (.ref a)) cls := fun _ _ _ _ k q => wpAny_typeOf_ref (k _ _ g3) (z3.1 ▸ q)
    have lm := PySem.W.exm_one (M := model X.prog X.w) J3.kIn lt hb1
    have ask : ∀ {Q : Value → Shared → Prop} {E : Value → Shared → Prop}, Q c { s' with heap := h3 } → wpAny (model X.prog X.w) (X.A.mark (some (.ref a))) (eval (.Name x np) X.env) Q E { s' with heap := h3 } := by
      intro Q E q
      rcases hc with ⟨hg, hdb, hm | ⟨hm, hv, hnn⟩⟩
      · exact ld_glob (X := X.suite a _) S3 hg hm q hdb
      · exact ld_blt (X := X.suite a _) S3 hg hm hv q hnn hdb
    refine wpAny_handleBy_cons (codeAny_handlers_test (ask (lm.here ?_))) (by intro q; cases q)
    cases b with
    | true =>
      refine codeAny_handlers_suite_as (HandSPX.lands_againZ fl fun h4 fl4 up4 => ?_)
      obtain ⟨o4, v4, g4, z4, d4⟩ := fl4.there
      have J4 : Inv X pins σ1 H1 { s' with heap := h4 } := J.landed nb fl4.1 ((up.trans up3).trans up4) os ag
      have S4 := J4.suite g4 d4 na nl nfs
      refine store_ok (X := X.suite a ((a, o4) :: (X.pn ++ pins))) (v := .ref a) S4 hN hi lc rfl (fun s5 S5 => ?_) (.inr hln)
      refine wpAny_mono ((hsu a o4 cls d (X.pn ++ pins)).run [] s5 _ H1 _ S5 (yes rfl a na)) (fun f s6 sp => ?_) (fun _ _ w => w.elim)
      cases f with
      | next =>
        obtain ⟨σ6, H6, S6, q6⟩ := sp
        have p6 := S6.pin (a, o4) (List.mem_append_left _ List.mem_cons_self)
        have K6 := told (S6.unsuite ok) p6.1 z4 d4 p6.2.1 none0 nl pn_
        exact gone_ok K6 hN hi hln fun s7 J7 => ⟨_, _, J7, q6⟩
      | brk => exact sp.elim fun _ z => z.elim fun _ z => z.2.elim
      | cont => exact sp.elim fun _ z => z.elim fun _ z => z.2.elim
      | ret u => exact sp.elim fun _ z => z.elim fun _ z => z.elim fun _ z => z.2.2.elim
    | false =>
      show wpAny _ X.A (handleBy (.ref a) X.env []) _ _ _
      apply wpAny_handleBy_nil
      obtain ⟨_, _, _, oe, vs, T, oT, ts', he, _, hd, h1, _⟩ := id fl
      unfold PySem.passOn
      refine wpAny_bind (wpAny_field he hd h1 ?_)
      rw [if_neg (show ¬ ((Value.ref T == Value.none) = true) from by simp)]
      have fin : wpAny (model X.prog X.w) X.A (setFlight (.ref a) X.env.frame) (fun _ s4 => wpAny (model X.prog X.w) X.A (throw (.ref a) : Sem Flow) (SP X pins D) X.xe s4) X.xe { s' with heap := h3 } := by
        rw [hf]
        exact HandSPX.setFlight_upZ fl fun h4 hh4 up4 => wpAny_throw (tk _ _ ⟨a, B, sI, pins, σ1, H1, cls, d, rfl, J, nb, (up.trans up3).trans up4, .inr (.inr (by rw [hs]; exact hh4)), na, os, ag, no rfl⟩)
      first
        | exact wpAny_bind (wpAny_pure (wpAny_bind fin))
        | exact wpAny_bind fin
end

/-! ### isinstance of it -/
def rIsCau (K : PySem.W.Frag) (D : Addr) : List V → Hp → VK → Prop := fun xs H Q => ∃ (a : Addr) (c : V) (cv : Value) (b : Bool), xs = [.ref a, c] ∧ H a = some (CauO (.ref D) none a) ∧ (∀ u, RelV c u → u = cv) ∧ PySem.W.kitOne K (.ref D) cv = some b ∧ Q (.bl b) H
theorem call_isCau {X : Cx} {D : Addr} (C : ExcC X.K D) : CallR X (.builtin "isinstance") (rIsCau X.K D) := by
  intro pins s σ H xs us Q I r h
  obtain ⟨a, c, cv, b, rfl, hH, hcv, e, q⟩ := h
  rcases r with _ | ⟨rx, _ | ⟨rt, r0⟩⟩
  cases r0
  cases rx
  cases hcv _ rt
  obtain ⟨oe, vs, g, z, hd⟩ := (I.hok a _ hH).1
  have J : PySem.W.InstAt s.heap a oe D none := by
    rcases oe with ⟨oc, od, oda, osl⟩
    obtain ⟨h1, h2⟩ := z
    dsimp only at h1 h2 hd
    subst h1
    subst h2
    subst hd
    exact ⟨g, rfl, rfl, trivial⟩
  exact PySem.W.kia_one (PySem.W.handS_kitx_exc C.hg C.hk C.hs C.hd C.ha C.hn C.ht C.hm) I.kIn J e (fun z => nomatch z) fun tk => ⟨.bl b, H, I.kept (t' := tk) fun _ _ z => z, rfl, q⟩
end CE

set_option Elab.async false
set_option linter.all false
set_option maxRecDepth 100000
set_option maxHeartbeats 2000000
/-! _law_caught(lambda: ..). -/
namespace K02
open PySem PySem.Spec L2
open PyProof.Rows GenW GxR LamX CE
abbrev sCaught : Stmt := top 41 -- _law_caught
abbrev nCaught : List Str := ["work", "caught", "error"]
theorem scCaught : FnScope nCaught ["work"] (defScope sCaught) := ⟨rfl, rfl, rfl, by decide +kernel, rfl, by decide +kernel, by decide +kernel⟩
theorem takes_len {X : Cx} {W : WX} (t : Takes X W) : Takes X (fun cls d σ H => σ.length = X.N.length → W cls d σ H) := fun u s' ⟨a, B, sI, pins, σ, H, cls, d, e, I, nb, up, sky, na, os, ag, w⟩ =>
  t u s' ⟨a, B, sI, pins, σ, H, cls, d, e, I, nb, up, sky, na, os, ag, w I.len⟩
/-- what _law_caught makes of the lambda: the error that it raises is given back, or None -/
def TCau (K : PySem.W.Frag) (CS : Addr) : (XK → Hp → VK → Prop) → Hp → VK → Prop := fun tl H Q =>
  tl (fun cls d H' => ∃ b, PySem.W.exmOne K cls (.ref CS) = some b ∧ (b = true → ∀ a, H' a = none → Q (.ref a) (upd H' a (CauO cls d a))) ∧ (b = false → False)) H fun _ H' => Q .non H'
theorem three {σ : L2.St} (h : σ.length = 3) : ∃ a b c, σ = [a, b, c] := by
  rcases σ with _ | ⟨a, _ | ⟨b, _ | ⟨c, _ | ⟨d, r⟩⟩⟩⟩
  all_goals first
    | exact ⟨_, _, _, rfl⟩
    | exact absurd h (by simp)
theorem caught_gives {X : Cx} {g CS : Addr} {cdg : Value} {q : Str} (hm : X.mg "RestError" = some (.ref CS)) : GivesTo X nCaught "_law_caught" (defScope sCaught) g cdg (defBody sCaught) "work" q (TCau X.K CS) := by
  intro f c' s H Q tl act hc h
  refine ⟨_, pss_cons (ps_set (i := 1) scCaught.nd rfl (Or.inl rfl) pe_non)
    (pss_cons (ps_try_kept (X := (cxOf C8.CX0 X.prog X.w X.K X.mg X.base nCaught "_law_caught" (defScope sCaught) g cdg X.A X.stack s H C8.E0).nox) (c := .ref CS) (i := 2) (Wout := fun _ _ _ _ => False)
      (tb := fun W D σ H => ∃ Ech : XK, (∀ cls d σ' H', σ'.length = 3 → Ech cls d H' → W cls d σ' H') ∧ σ = [some (.ref f), some .non, Option.none] ∧ H c' = some (CodeO c' q) ∧ tl Ech H fun _ H' => D.nx σ H')
      (ts := fun a _ _ => fun D σ H => D.nx (σ.set 1 (some (.ref a))) H ∧ σ[2]? = some (some (.ref a)))
      rfl rfl rfl scCaught.nd rfl (by rfl) ⟨by rfl, by decide, .inl hm⟩ LamX.takes0 (fun W pn xe tk _ => ?body) (fun a oe cls d pn => ?suite))
    (pss_one (ps_ret (pv 1)))), ?q⟩
  case body =>
    refine ⟨fun pins s' σ H' D I h' => ?_⟩
    obtain ⟨Ech, hW, h1, h2, h3⟩ := h'
    exact (pss_one (ps_expr (act _ pn xe Ech _ _ (takes_len tk) (fun cls d σ' H' e l => hW cls d σ' H' l e)))).run pins s' σ H' D I ⟨by rw [h1]; rfl, h2, h3⟩
  case suite =>
    refine ⟨fun pins s' σ H' D I h' => ?_⟩
    exact (pss_one (ps_set (i := 1) scCaught.nd rfl (Or.inl rfl) (pv 2))).run pins s' σ H' D I ⟨_, h'.2, h'.1⟩
  case q =>
    refine ⟨fun cls d H' => ∃ b, PySem.W.exmOne X.K cls (.ref CS) = some b ∧ (b = true → ∀ a, H' a = none → Q (.ref a) (upd H' a (CauO cls d a))) ∧ (b = false → False), fun cls d σ' H' hl ⟨b, e1, e2, e3⟩ => ⟨b, e1, fun hb a na => ?_, fun hb => e3 hb⟩, rfl, hc, ?_⟩
    · obtain ⟨x, y, z, rfl⟩ := three hl
      exact ⟨⟨_, rfl, e2 hb a na⟩, rfl⟩
    · show tl _ H fun _ H' => ∃ v, ([some (V.ref f), some V.non, Option.none] : L2.St)[1]? = some (some v) ∧ Q v H'
      have e : (fun (_ : V) (H' : Hp) => ∃ v, ([some (V.ref f), some V.non, Option.none] : L2.St)[1]? = some (some v) ∧ Q v H') = fun _ H' => Q .non H' :=
        funext fun _ => funext fun H' => propext ⟨fun ⟨v, e, q⟩ => by cases e; exact q, fun q => ⟨_, rfl, q⟩⟩
      rw [e]
      exact h
end K02

set_option Elab.async false
set_option linter.all false
set_option maxRecDepth 100000
set_option maxHeartbeats 2000000
/-! A lambda handed to a def, all tables but the maker's own kept as they are. -/
namespace CE
open PySem PySem.Spec L2
open PyProof.Rows LamX
/-- all but P's table is as it was -/
def ButP (P : Addr) (H H' : Hp) : Prop := ∀ b o, b ≠ P → H b = some o → H' b = some o
def lamN (X : Cx) : Str := X.env.qual ++ "<lambda>"
section
variable {X : Cx} {pins : List (Addr × Obj)} {σ : L2.St} {H : Hp} {s : Shared}
theorem lam_mk {c P : Addr} {ps : Arguments} {body : Expr} {sc : Scope} {pos : Pos} {E Q : Value → Shared → Prop} (I : Inv X pins σ H s) (TB : TabB X.base X.mg c P) (hcode : X.env.code = .ref c) (hT : TabS H P (lamN X))
    (hdef : defaultsOf ps X.env = ([], [])) (hfree : ∀ y ∈ sc.names, y.2 = .free → ∃ c, X.env.cells.lookup y.1 = some c)
    (h : ∀ (f c' : Addr) (pm ctv : Value) (H1 : Hp) (s' : Shared), Inv X pins σ H1 s' → ButP P H H1 → TabS H1 P (lamN X) → s'.heap.get? f = some (PySem.W.kla_obj "<lambda>" (lamN X) ps body sc (cloFrom X.env.cells sc.names []) pm c' ctv) →
      H1 f = none → f ∉ frs X.stack → H1 c' = some (CodeO c' (lamN X)) → Q (.ref f) s') : wpAny (model X.prog X.w) X.A (eval (.Lambda ps body sc pos) X.env) Q E s := by
  obtain ⟨tb, tP, tt, tc⟩ := hT
  have inP : s.heap.get? P = some { cls := .none, data := .fields tb } := I.hok P _ tP
  have far : ∀ f, s.heap.objs.size ≤ f → f ∉ frs X.stack := by
    intro f hf z
    rcases List.mem_cons.mp (I.stkSub _ z) with e | e
    · have lt := I.lt
      rw [← e] at lt
      exact Nat.not_le_of_lt lt hf
    · exact I.nofs hf e
  apply PySem.W.kla_eval hdef
  rcases hc : codeAmong pos tb.toList with _ | cv
  · refine PySem.W.kla_makeFunction (mg := X.mg) (c := c) (P := P) (ps := tb) (closure_ok hfree) I.ok.glob (I.mod.glob.keeps I.bk) hcode (TB.code.keeps I.bk) inP tt hc TB.gP (TB.bm.keeps I.bk) ?_
    intro c' ctv h' tk hx hge hlt hrec htb
    obtain ⟨c2, oc, vs, t, ec, hoc, hd, hv⟩ := hrec
    cases ec
    have grow : s.heap.objs.size ≤ h'.objs.size := Nat.le_trans hge (Nat.le_of_lt hlt)
    have fresh : H c' = none := I.hok.fresh hge
    have nP : P ≠ c' := ne_of_none tP fresh
    have J := inv_table (t' := tk) (more := #[rawInt pos.line, rawInt pos.col, .ref c']) (h' := h'.push (PySem.W.kla_obj "<lambda>" (lamN X) ps body sc (cloFrom X.env.cells sc.names []) ((X.mg "__name__").getD .none) c' ctv)) I tP
      (fun b o hb e => Heap.get?_push_of_some _ (hx b o hb e)) (Heap.get?_push_of_some _ htb) hge ⟨oc, vs, t, Heap.get?_push_of_some _ hoc, hd, hv⟩
    refine h h'.objs.size c' _ ctv _ _ J (fun b o hb e => ?_) ⟨tb ++ #[rawInt pos.line, rawInt pos.col, .ref c'], ?_, ?_, fun p' cv hcv => ?_⟩ (Heap.get?_push_size _ rfl) ?_ (far _ grow) upd_same
    · rw [upd_ne (ne_of_none e fresh), upd_ne hb]
      exact e
    · rw [upd_ne nP, upd_same]
    · rw [Array.toList_append]
      exact PySem.TriplesOk_snoc _ _ _ _ tt
    · rw [Array.toList_append] at hcv
      rcases among_app _ tt hcv with z | z
      · obtain ⟨c0, e1, e2⟩ := tc p' cv z
        refine ⟨c0, e1, ?_⟩
        rw [upd_ne (ne_of_none e2 fresh), upd_ne (fun w => by rw [w, tP] at e2; exact codeO_ne _ (Option.some.inj e2).symm)]
        exact e2
      · exact ⟨c', z, upd_same⟩
    · have pLt := Heap.lt_size inP
      rw [upd_ne (Nat.ne_of_gt hlt), upd_ne (Nat.ne_of_gt (Nat.lt_of_lt_of_le pLt grow))]
      exact I.hok.fresh grow
  · obtain ⟨c', rfl, hco⟩ := tc pos cv hc
    refine PySem.W.kla_makeFunctionHit (mg := X.mg) (c := c) (P := P) (ps := tb) (closure_ok hfree) I.ok.glob (I.mod.glob.keeps I.bk) hcode (TB.code.keeps I.bk) inP tt hc (TB.bm.keeps I.bk) fun ctv h' tk hx hsz => ?_
    exact h h'.objs.size c' ((X.mg "__name__").getD .none) ctv H _ (I.kept (t' := tk) (h' := h'.push _) fun b o e => Heap.get?_push_of_some _ (hx b o e)) (fun _ _ _ e => e) ⟨tb, tP, tt, tc⟩ (Heap.get?_push_size _ rfl) (I.hok.fresh hsz) (far _ hsz) hco
end
def tLamP (P : Addr) (q : Str) (TT : (XK → Hp → VK → Prop) → Hp → VK → Prop) (t : XK → TE) : TE := fun σ H Q => TabS H P q ∧ ∀ H1, ButP P H H1 → TabS H1 P q → TT (fun E H' Q' => t E σ H' Q') H1 Q
section
variable {X : Cx}
/-- x(lambda: body), x a def of one parameter -/
theorem pe_lamP {TT : (XK → Hp → VK → Prop) → Hp → VK → Prop} {x a : Str} {g c P : Addr} {k : Nat} {pg : Arguments} {bg : List Stmt} {sg : Scope} {dV kV doc pm cdv ct oc : Value} {an od : Option Addr} {osl : Array (Option Value)} {Ng : List Str}
    {ps : Arguments} {body : Expr} {sc : Scope} {t : XK → TE} {p lpos pos : Pos} (hg : Gl X x) (hm : X.mg x = some (.ref g)) (hk : PySem.W.keepIn X.K (.ref g) = true) (lk : X.K.lookup g = some ⟨oc, od, .func (PySem.W.fnOf x x pg bg sg dV kV doc pm an cdv ct), osl⟩)
    (hcg : PySem.W.codeIn X.K cdv x = true) (hb : L2.Binds X.K (PySem.W.fnOf x x pg bg sg dV kV doc pm an cdv ct) [a] []) (Sg : FnScope Ng [a] sg) (hNg : Ng[0]? = some a) (hva : Vis sg a) (hG : GivesTo X Ng x sg g cdv bg a (lamN X) TT)
    (TB : TabB X.base X.mg c P) (hcode : X.env.code = .ref c) (hr : Room (k + 2) X.A) (L : LamS X.env.scope sc) (hdef : defaultsOf ps X.env = ([], [])) (hbind : ∀ (q : Str) (cl : List (Str × Addr)) (pm cv ctv : Value), bindArgs (PySem.W.kla_fn "<lambda>" q ps body sc cl pm cv ctv) ⟨[], []⟩ = pure [])
    (hbody : ∀ (A : Around) (outer : List Env) (s : Shared) (H : Hp) (E : XK) (f c' : Addr), Room k (A.deeper (lamEnv X sc s.heap.objs.size f c')) → PE (lamCx X A outer s H E sc f c') body (t E))
    (hdb : (x == ("__debug__" : Str)) = false := by decide) (hd : (a == ("__debug__" : Str)) = false := by decide) (hcd : (a == ("__classdict__" : Str)) = false := by decide) : PE X (.Call (.Name x p) [.Lambda ps body sc lpos] [] pos) (tLamP P (lamN X) TT t) := by
  constructor
  rintro pins s σ H Q I ⟨hT, h⟩
  refine wpAny_Call_Name_kw (ld_glob I hg hm ?_ hdb)
  refine PySem.W.callWith_K (h₀ := X.base) I.ok.mod.kin hk ?_ (by rfl) (by rfl)
  show wpAny _ _ (spliced ((false, eval (.Lambda ps body sc lpos) X.env) :: backTo pos (starEach [] X.env))) _ _ s
  apply Calls.spliced_cons
  refine lam_mk I TB hcode hT hdef (L.has I.ok) fun f c' pm' ctv H1 s' I1 eN T1 hf hfn hfr hco => Calls.spliced_nil ⟨I1.kIn, ?_⟩
  have run : codeAny (model X.prog X.w) X.A (.call (.ref g) ⟨[.ref f], []⟩) (CR C8.CX0 X.stack X.prog X.w H1 s' Q C8.E0) s' :=
    run_ofS (N := Ng) (ps := [a]) (us := [.ref f]) (vs := [.ref f]) lk hcg Sg hr I1.env0 (hb s' [.ref f] I1.kIn rfl) (.cons rfl .nil) rfl fun hr' => by
      obtain ⟨t', ht', hq'⟩ := hG f c' s' H1 Q (fun E H' Q' => t E σ H' Q') (fun W pn xe E p1 p2 tk hW => pe_act (i := 0) I1 L hf hfn hfr (hbind _ _ _ _ _) tk hW hr' (fun A outer s H hr2 => hbody A outer s H E f c' hr2) hNg hva hd hcd) hco (h H1 eN T1)
      exact ⟨t', ht'.nox, hq'⟩
  refine wpAny_call (codeAny_mono run fun r s2 hq => ?_)
  rcases r with e | fl
  · exact False.elim hq
  · cases fl with
    | ret u => exact I1.after hq
    | _ => exact False.elim hq
end
end CE

set_option Elab.async false
set_option linter.all false
set_option maxRecDepth 100000
set_option maxHeartbeats 2000000
/-! A dict whose keys are tuples of numbers, texts and None: stored into, asked, walked. -/
namespace TK
open PySem PySem.Spec L2
open PyProof.Rows
def leafV : Leaf → V
  | .none => .non
  | .num i => .int i
  | .text z => .str z
theorem leafV_inj {a b : Leaf} (h : leafV a = leafV b) : a = b := by
  cases a <;> cases b <;> first
    | rfl
    | (cases h; rfl)
    | cases h
abbrev Ent := List Leaf × Addr × V
abbrev kd (P : Program) (w : World) : HeapKind P w (List Leaf) := tupleKind (leafKind P w)
def TkO (d : Addr) (es : Array DictEntry) (ep : Nat) : HO := .ext fun h => ∃ o, h.get? d = some o ∧ o.ExactDict ∧ o.data = .dict es ep
abbrev EntR : Ent → List Leaf × Addr × Value → Prop := fun p q => p.1 = q.1 ∧ p.2.1 = q.2.1 ∧ RelV p.2.2 q.2.2
def TkD (P : Program) (w : World) (xs : List Ent) (es : Array DictEntry) : Prop := ∃ ys, es.toList = ys.map (entryOfKey (kd P w)) ∧ Paired EntR xs ys
structure TkAt (P : Program) (w : World) (H : Hp) (d : Addr) (xs : List Ent) (es : Array DictEntry) (ep : Nat) : Prop where
  at_ : H d = some (TkO d es ep)
  dat : TkD P w xs es
  keys : ∀ x ∈ xs, H x.2.1 = some (.tup (x.1.map leafV))
  nd : (xs.map (·.1)).Nodup
  low : (d == sysModules) = false
theorem TkAt.mono {P : Program} {w : World} {H H' : Hp} {d : Addr} {xs : List Ent} {es : Array DictEntry} {ep : Nat} (T : TkAt P w H d xs es ep) (k : ∀ b o, H b = some o → (∀ ps, o ≠ .tbl ps) → H' b = some o) : TkAt P w H' d xs es ep :=
  ⟨k _ _ T.at_ (fun ps z => by unfold TkO at z; cases z), T.dat, fun x hx => k _ _ (T.keys x hx) (fun ps z => by cases z), T.nd, T.low⟩

theorem leaf_is {P : Program} {w : World} {k : Leaf} {u : Value} (h : RelV (leafV k) u) : (leafKind P w).is k u = true := by
  cases k with
  | none =>
    cases h
    rfl
  | num i =>
    obtain ⟨t, rfl⟩ := h
    show decide (i = i) = true
    exact decide_eq_true rfl
  | text z =>
    obtain ⟨t, rfl⟩ := h
    show (Value.str z t).isStrOf z = true
    simp [Value.isStrOf]
theorem leaves_are {P : Program} {w : World} : ∀ {ks : List Leaf} {us : List Value}, Vals (ks.map leafV) us → ItemsAre (leafKind P w) ks us
  | [], _, r => by
    cases r
    exact .nil
  | k :: ks, _, r => by
    cases r with
    | cons h t => exact .cons (leaf_is h) (leaves_are t)
theorem is_key {P : Program} {w : World} {H : Hp} {h : Heap} {a : Addr} {ks : List Leaf} (ok : HOk P w H h) (e : H a = some (.tup (ks.map leafV))) : (kd P w).is h ks a := by
  obtain ⟨_, its, r, o, g1, g2, n, g3⟩ := (show ObjOk P w H h a (.tup (ks.map leafV)) from ok a _ e)
  refine ⟨o, its.toArray, n, g1, g2, g3, ?_⟩
  rw [List.toList_toArray]
  exact leaves_are r
theorem ents_of {xs : List Ent} {ys : List (List Leaf × Addr × Value)} (r : Paired EntR xs ys) : ys.map (·.1) = xs.map (·.1) := by
  induction r with
  | nil => rfl
  | cons h t ih => rw [List.map_cons, List.map_cons, ih, h.1]
theorem mem_of {xs : List Ent} {ys : List (List Leaf × Addr × Value)} (r : Paired EntR xs ys) : ∀ y ∈ ys, ∃ x ∈ xs, EntR x y := by
  induction r with
  | nil => intro y hy; cases hy
  | @cons p q ps qs h t ih =>
    intro y hy
    rcases List.mem_cons.mp hy with e | hy
    · exact ⟨p, List.mem_cons_self, by rw [e]; exact h⟩
    · obtain ⟨x, hx, z⟩ := ih y hy
      exact ⟨x, List.mem_cons_of_mem _ hx, z⟩
theorem get_of {xs : List Ent} {ys : List (List Leaf × Addr × Value)} (r : Paired EntR xs ys) : ∀ {i : Nat} {x : Ent}, xs[i]? = some x → ∃ y, ys[i]? = some y ∧ EntR x y := by
  induction r with
  | nil => intro i x h; simp at h
  | @cons p q ps qs h t ih =>
    intro i x hx
    cases i with
    | zero =>
      cases hx
      exact ⟨q, rfl, h⟩
    | succ i => exact ih hx
theorem snoc_of {xs : List Ent} {ys : List (List Leaf × Addr × Value)} {p : Ent} {q : List Leaf × Addr × Value} (r : Paired EntR xs ys) (h : EntR p q) : Paired EntR (xs ++ [p]) (ys ++ [q]) := by
  induction r with
  | nil => exact .cons h .nil
  | cons h' t ih => exact .cons h' ih

section
variable {X : Cx} {pins : List (Addr × Obj)} {σ : L2.St} {H : Hp} {s : Shared} {d b : Addr} {k : List Leaf} {xs : List Ent} {es : Array DictEntry} {ep : Nat}
theorem TkAt.of (I : Inv X pins σ H s) (T : TkAt X.prog X.w H d xs es ep) : ∃ ys, Paired EntR xs ys ∧ s.heap.DictOfH (kd X.prog X.w) d ys ∧ es.toList = ys.map (entryOfKey (kd X.prog X.w)) := by
  obtain ⟨o, e1, e2, e3⟩ := (I.hok d _ T.at_).1
  obtain ⟨ys, h1, h2⟩ := T.dat
  refine ⟨ys, h2, ⟨o, es, ep, e1, e2, e3, h1, fun y hy => ?_, ?_⟩, h1⟩
  · obtain ⟨x, hx, e, e', _⟩ := mem_of h2 y hy
    rw [← e, ← e']
    exact is_key I.hok (T.keys x hx)
  · rw [ents_of h2]
    exact T.nd
/-- d[k], k a key -/
def rTk (P : Program) (w : World) : R2 := fun x y H Q => ∃ (d b : Addr) (xs : List Ent) (es : Array DictEntry) (ep : Nat) (k : List Leaf) (a : Addr) (v : V), x = .ref d ∧ y = .ref b ∧ TkAt P w H d xs es ep ∧ H b = some (.tup (k.map leafV)) ∧ (k, a, v) ∈ xs ∧ Q v H
theorem ix_tk (hu : X.A.units + 1 < cLine) : IxR X (rTk X.prog X.w) := by
  intro value slice pins s σ H x y v u Q I rx ry h hs
  obtain ⟨d, b, xs, es, ep, k, a, v0, rfl, rfl, T, hb, hk, q⟩ := h
  cases rx
  cases ry
  obtain ⟨ys, rel, D, _⟩ := T.of I
  obtain ⟨i, hi⟩ := List.getElem?_of_mem hk
  obtain ⟨⟨k', a', u'⟩, hy, e1, e2, e3⟩ := get_of rel hi
  cases e1
  have hat := atKey_of_get (by rw [ents_of rel]; exact T.nd) hy
  exact tail_any D.typeIs slot_dict_getitem.lookup (wpAny_getItem_heap (tupleKind_room_in1 hu) (is_key I.hok hb) D hat ⟨v0, H, I.tok _, e3, q⟩) hs

/-- d[k] = v, k no key before -/
def sTkPut (P : Program) (w : World) (td ty tv : TE) : TS := fun D σ H => tv σ H fun v H1 => td σ H1 fun x H2 => ty σ H2 fun y H3 => ∃ (d b : Addr) (xs : List Ent) (k : List Leaf), x = .ref d ∧ y = .ref b ∧
  ((H3 d = some (.dT []) ∧ xs = []) ∨ ∃ es ep, TkAt P w H3 d xs es ep) ∧ H3 b = some (.tup (k.map leafV)) ∧ k ∉ xs.map (·.1) ∧ xs.length ≤ 1000 ∧ ∀ es ep, TkAt P w (upd H3 d (TkO d es ep)) d (xs ++ [(k, b, v)]) es ep → D.nx σ (upd H3 d (TkO d es ep))
theorem ps_tkput {o i value : Expr} {pos pos' : Pos} {td ty tv : TE} (hu : X.A.units + 1 < cLine) (ho : PE X o td) (hi : PE X i ty) (hv : PE X value tv) (hs : swapsWith value (some (.Subscript o i pos')) pos.line X.env = pure false := by rfl) :
    PS X (.Assign [.Subscript o i pos'] value pos) (sTkPut X.prog X.w td ty tv) := by
  constructor
  intro pins s σ H D I h
  refine wpAny_Assign_Subscript (thn (hv.run pins s σ H _ I h) fun r s1 ⟨v, H1, I1, rv, q1⟩ => thn (ho.run pins s1 σ H1 _ I1 q1) fun u s2 ⟨x, H2, I2, rx, q2⟩ => thn (hi.run pins s2 σ H2 _ I2 q2) fun iv s3 ⟨y, H3, I3, ry, d, b, xs, k, ex, ey, hd, hb, hk, hl, q3⟩ => ?_) hs
  subst ex
  subst ey
  cases rx
  cases ry
  have nbd : ∀ c xs', H3 c = some (.tup xs') → c ≠ d := fun c xs' e z => by
    rw [z] at e
    rcases hd with ⟨e', _⟩ | ⟨es, ep, T⟩
    · rw [e'] at e
      cases e
    · have e' := T.at_
      rw [e] at e'
      unfold TkO at e'
      cases e'
  have start : ∃ ys, Paired EntR xs ys ∧ s3.heap.DictOfH (kd X.prog X.w) d ys ∧ (d == sysModules) = false ∧ (xs.map (·.1)).Nodup ∧ (∀ x ∈ xs, H3 x.2.1 = some (.tup (x.1.map leafV))) ∧ Mut (H3 d) := by
    rcases hd with ⟨e', rfl⟩ | ⟨es, ep, T⟩
    · obtain ⟨_, hlow, ys0, r0, o, es0, ep0, g1, g2, g3, g4, g5, g6⟩ := dt_of I3.hok e'
      cases r0
      refine ⟨[], .nil, ⟨o, es0, ep0, g1, g2, g3, g4, (fun y hy => by cases hy), List.nodup_nil⟩, hlow, List.nodup_nil, (fun x hx => by cases hx), ?_⟩
      rw [e']
      trivial
    · obtain ⟨ys, r, D, _⟩ := T.of I3
      refine ⟨ys, r, D, T.low, T.nd, T.keys, ?_⟩
      rw [T.at_]
      trivial
  obtain ⟨ys, rel, DD, hlow, hnd, hks, hmut⟩ := start
  have hno : atKey ys k = none := by
    cases q : atKey ys k with
    | none => rfl
    | some p =>
      unfold atKey at q
      obtain ⟨y, hy, _⟩ := Option.map_eq_some_iff.mp q
      have e : y.1 = k := by
        have z := List.find?_some hy
        exact of_decide_eq_true z
      exact absurd (List.mem_map.mpr ⟨y, List.mem_of_find?_eq_some hy, e⟩) (by rw [ents_of rel]; exact hk)
  have hlen : ys.length ≤ sizeLine := by
    rw [← Paired.length rel]
    have : (1000 : Nat) ≤ sizeLine := by rw [sizeLine_eq]; decide
    omega
  refine wpAny_setItem_heap (tupleKind_room_in1 hu) (is_key I3.hok hb) DD (fun h' DD' sb => ?_) hlen
  rw [storedH_new hno] at DD'
  obtain ⟨o, es, ep, g1, g2, g3, g4, g5, g6⟩ := DD'
  have J := d_write (t' := s3.toks + (kd X.prog X.w).draws k) (ob := TkO d es ep) I3 hmut sb ⟨o, g1⟩ ⟨⟨o, g1, g2, g3⟩, ⟨o, g1⟩, fun h1 h2 ⟨o', f1, f2⟩ st => ⟨o', st _ f1, f2⟩⟩
  refine ⟨σ, _, J, q3 es ep ⟨upd_same, ⟨_, g4, snoc_of rel ⟨rfl, rfl, rv⟩⟩, fun x hx => ?_, ?_, hlow⟩⟩
  · have hx' : H3 x.2.1 = some (.tup (x.1.map leafV)) := by
      rcases List.mem_append.mp hx with hx | hx
      · exact hks x hx
      · rw [List.mem_singleton.mp hx]
        exact hb
    rw [upd_ne (nbd _ _ hx')]
    exact hx'
  · rw [List.map_append]
    exact List.nodup_append.mpr ⟨hnd, by simp, fun a ha b hb z => by
      have e := List.mem_singleton.mp hb
      rw [z, e] at ha
      exact hk ha⟩

/-! ### for k in d -/
def ItTk (P : Program) (w : World) (d : Addr) (xs : List Ent) (es : Array DictEntry) (ep : Nat) : It where
  go := fun i H => TkAt P w H d xs es ep ∧ i < xs.length
  yld := fun i H x H' => H' = H ∧ ∃ k b v, xs[i]? = some (k, b, v) ∧ x = .ref b ∧ H b = some (.tup (k.map leafV))
  stop := fun i H => TkAt P w H d xs es ep ∧ xs.length ≤ i
theorem turn_tk {tg : Expr} (it : Addr) : Turn X.prog X.w X.K tg (ItTk X.prog X.w d xs es ep) [it] it (fun i h => h.IsKeyIter it d i xs.length ep) where
  mem := List.mem_singleton.mpr rfl
  obj := fun i h st b hb => by
    rw [List.mem_singleton.mp hb]
    obtain ⟨oi, e, c, dd⟩ := st
    refine ⟨oi, e, fun v z => ?_⟩
    rw [dd] at z
    cases z
  keep := fun i h h' st k => st.at fun oi e => k it (List.mem_singleton.mpr rfl) oi e
  item := by
    intro Y hP hw hK hc i pins s σ H E I hf st hg
    obtain ⟨T, hi⟩ := hg
    obtain ⟨f0, f1, f2, f3, f4, f5⟩ := hf it (List.mem_singleton.mpr rfl)
    rw [← hP, ← hw] at T ⊢
    obtain ⟨ys, rel, _, hes⟩ := T.of I
    obtain ⟨o, e1, e2, e3⟩ := (I.hok d _ T.at_).1
    obtain ⟨⟨k', a', u'⟩, hy, g1, g2, g3⟩ := get_of rel (List.getElem?_eq_getElem hi)
    have hsz : es.size = xs.length := by
      rw [← Array.length_toList, hes, List.length_map, Paired.length rel]
    have hen : es[i]? = some (entryOfKey (kd Y.prog Y.w) (k', a', u')) := by
      rw [← Array.getElem?_toList, hes, List.getElem?_map, hy]
      rfl
    refine next_key_item st e1 e3 hsz hen fun h' st' sb => ?_
    have I1 : Inv Y pins σ H { s with heap := h' } := I.turned (t' := s.toks) (fun b ob hb e => (sb.2 b hb).trans e) f0 f1 f3 f4 f5
    obtain ⟨oi, e, c, dd⟩ := id st'
    refine ⟨_, rfl, go_of (s := { s with heap := h' }) e c dd (by decide) ⟨.ref a', H, I1, rfl, ⟨rfl, _, _, _, List.getElem?_eq_getElem hi, ?_, ?_⟩, st', fun b hb => (hf b hb).1⟩⟩
    · exact congrArg V.ref g2.symm
    · exact T.keys _ (List.getElem_mem hi)
  done := by
    intro Y hP hw hK hc i pins s σ H E I hf st hg
    obtain ⟨T, hi⟩ := hg
    obtain ⟨f0, f1, f2, f3, f4, f5⟩ := hf it (List.mem_singleton.mpr rfl)
    rw [← hP, ← hw] at T ⊢
    obtain ⟨ys, rel, _, hes⟩ := T.of I
    obtain ⟨o, e1, e2, e3⟩ := (I.hok d _ T.at_).1
    have hsz : es.size = xs.length := by
      rw [← Array.length_toList, hes, List.length_map, Paired.length rel]
    exact next_key_end (I.ok.hd hc) st e1 e3 hsz hi fun h' eb => ⟨rfl, I.turned (t' := s.toks) (fun b ob hb e => eb b ob hb e) f0 f1 f3 f4 f5⟩
  self := fun A i s Q E st h => by
    refine wpAny_pyIter_slot st.typeIs F.slot_dict_keyiterator_iter (wpAny_call_entry F.slot_dict_keyiterator_iter st.typeIs F.entry_dict_keyiterator_iter (show wpAny _ _ (ret (.ref it)) _ _ s from ?_) (F.args_dict_keyiterator_iter_1 _))
    exact wpAny_pure ⟨_, rfl, "dict_keyiterator", _, st.typeIs, F.slot_dict_keyiterator_next.lookup, h⟩
def iTk (P : Program) (w : World) (td : TE) : TI := fun σ H R => td σ H fun x H1 => ∃ (d : Addr) (xs : List Ent) (es : Array DictEntry) (ep : Nat), x = .ref d ∧ TkAt P w H1 d xs es ep ∧ R (ItTk P w d xs es ep) H1
theorem pi_tk {tg e : Expr} {td : TE} (he : PE X e td) : PI X tg e (iTk X.prog X.w td) := by
  constructor
  intro pins s σ H R I h
  refine thn (he.run pins s σ H _ I h) fun u s1 ⟨x, H1, I1, rx, d, xs, es, ep, ex, T, q⟩ => ?_
  subst ex
  cases rx
  obtain ⟨ys, rel, _, hes⟩ := T.of I1
  obtain ⟨o, e1, e2, e3⟩ := (I1.hok d _ T.at_).1
  have hsz : es.size = xs.length := by
    rw [← Array.length_toList, hes, List.length_map, Paired.length rel]
  refine iter_keys T.low e1 e2 e3 (pi_one (tk := s1.toks) I1 _ (turn_tk _) ⟨_, Heap.get?_push_size _ rfl, rfl, ?_⟩ q)
  rw [hsz] <;> rfl
end
end TK

set_option Elab.async false
set_option linter.all false
set_option maxRecDepth 100000
set_option maxHeartbeats 2000000
/-! enumerate of a tuple, zip of a list and a tuple, over the hand layer. -/
namespace EZ
open PySem PySem.Spec L2
open PyProof.Rows

/-! ### what hands out new pairs, by PyProof.WalksT -/
theorem turn_of {P : Program} {w : World} {K : PySem.W.Frag} {elts : List Expr} {kk : Nat} {tpos : Pos} {J : It} {it : Addr} {fp : List Addr} {tn : Nat → Heap → Prop} (mem : it ∈ fp)
    (obj : ∀ i h, tn i h → ∀ b ∈ fp, ∃ o, h.get? b = some o ∧ ∀ v : Option Value, o.data ≠ .cell v) (keep : ∀ i h h', tn i h → (∀ b ∈ fp, ∀ o, h.get? b = some o → h'.get? b = some o) → tn i h')
    (self : ∀ (A : Around) (i : Nat) (s : Shared) (Q E : Value → Shared → Prop), tn i s.heap → Q (.ref it) s → wpAny (model P w) A (pyIter (.ref it)) Q E s)
    (go : ∀ (X : Cx) (i : Nat) (pins : List (Addr × Obj)) (s : Shared) (σ : L2.St) (H : Hp), X.prog = P → X.w = w → X.K = K → X.A.handled = none → Inv X pins σ H s → tn i s.heap → J.go i H →
      ∃ (fpW wr : List Addr) (n : Nat) (Pt : Nat → Array Value → Prop) (St : Nat → Heap → Prop) (Mid : Nat → Addr → Heap → Prop), WalksT P w X.A it fpW wr n Pt St Mid ∧ i < n ∧ St i s.heap ∧ (∀ b ∈ wr, b ∈ fp) ∧ (∀ h, St (i + 1) h → tn (i + 1) h) ∧
        ∀ vals, Pt i vals → ∃ ys, Vals ys vals.toList ∧ ys.length ≤ 15 ∧ ∀ T, H T = none → J.yld i H (.ref T) (upd H T (.tup ys)))
    (stop : ∀ (X : Cx) (i : Nat) (pins : List (Addr × Obj)) (s : Shared) (σ : L2.St) (H : Hp), X.prog = P → X.w = w → X.K = K → X.A.handled = none → Inv X pins σ H s → tn i s.heap → J.stop i H →
      ∃ (fpW wr : List Addr) (n : Nat) (Pt : Nat → Array Value → Prop) (St : Nat → Heap → Prop) (Mid : Nat → Addr → Heap → Prop), WalksT P w X.A it fpW wr n Pt St Mid ∧ St n s.heap ∧ ∀ b ∈ wr, b ∈ fp) :
    Turn P w K (.Tuple elts kk tpos) J fp it tn where
  mem := mem
  obj := obj
  keep := keep
  self := self
  item := by
    intro X hP hw hK hc i pins s σ H E I hf st hg
    obtain ⟨fpW, wr, n, Pt, St, Mid, W, hi, hst, hwr, nxt, hy⟩ := go X i pins s σ H hP hw hK (I.ok.hd hc) I st hg
    refine W.item i s _ _ hi hst fun T vals h' tk hp hnew hT hm hk => ⟨_, rfl, W.go _ _ _ i T { s with heap := h', toks := tk } _ _ hm fun h2 st2 hk2 => ?_⟩
    obtain ⟨ys, rv, hl, hyl⟩ := hy vals hp
    have nT : H T = none := I.hok.fresh hnew
    have hT2 : h2.IsTuple T vals := hT.at fun o e => hk2 T o (W.apart i T h' hm) e
    have new : ObjOk X.prog X.w (upd H T (.tup ys)) h2 T (.tup ys) := by
      refine ⟨Nat.le_trans hl (by rw [sizeLine_eq]; decide), vals.toList, rv, ?_⟩
      exact hT2
    have I1 := I.turnedNew (t' := tk) (ch := fp) (fun b o hb q => hk2 b o (fun z => hb (hwr b z)) (hk b o (fun z => hb (hwr b z)) q)) hf hnew new
    refine ⟨.ref T, _, I1, rfl, hyl T nT, nxt _ st2, fun b hb => ?_⟩
    obtain ⟨ob, e, _⟩ := obj i _ st b hb
    have ne : b ≠ T := fun z => by
      have lt := Heap.lt_size e
      rw [z] at lt
      exact Nat.not_le_of_lt lt hnew
    rw [upd_ne ne]
    exact (hf b hb).1
  done := by
    intro X hP hw hK hc i pins s σ H E I hf st hg
    obtain ⟨fpW, wr, n, Pt, St, Mid, W, hst, hwr⟩ := stop X i pins s σ H hP hw hK (I.ok.hd hc) I st hg
    exact W.done s _ _ hst fun h' tk hk => ⟨rfl, I.turnedL (t' := tk) (ch := fp) (fun b o hb q => hk b o (fun z => hb (hwr b z)) q) hf⟩

/-! ### enumerate(t) -/
theorem meets_enum1 {v : Value} {o : Obj} {H : Heap → Prop} (B : Begins v o H) :
    Meets (Builtin.«enumerate.__new__» ⟨[.type "enumerate", v], []⟩) (fun _ R s => H s.heap ∧ R (.ok (.ret (.ref (s.heap.push o).objs.size))) { s with heap := (s.heap.push o).push { cls := .type "enumerate", data := .fields #[.none, .bool false, .ref s.heap.objs.size, rawInt 0, .none, .none] } }) :=
  .of_wp fun prog w A R s h => by
    obtain ⟨hp, g, d, tk, os⟩ := s
    obtain ⟨h1, h⟩ := h
    have hsub := sub_enumerate
    have q1 : ∀ {A' : Around} {E Q : Value → Shared → Prop}, Q (.ref hp.objs.size) ⟨hp.push o, g, d, tk, os⟩ → wpAny (model prog w) A' (pyIter v) Q E ⟨hp, g, d, tk, os⟩ := fun q => B.iter prog w _ _ ⟨hp, g, d, tk, os⟩ _ h1 q
    wp_walk using q1
    refine wpAny_stack_any fun st => wpAny_pure ?_
    split
    · rename_i c _ _ _ _ _
      cases (c == Value.type "enumerate") <;> (wp_walk using q1; exact ⟨_, rfl, h⟩)
    · wp_walk using q1
      exact ⟨_, rfl, h⟩
section
variable {prog : Program} {w : World} {A : Around} {E : Value → Shared → Prop} {s : Shared}
theorem call_enum1 {v : Value} {o : Obj} {H : Heap → Prop} {Q : Value → Shared → Prop} (B : Begins v o H) (h1 : H s.heap)
    (h : ∀ h', IsEnum h' (s.heap.objs.size + 1) s.heap.objs.size 0 .none → h'.get? s.heap.objs.size = some o → (∀ b o, s.heap.get? b = some o → h'.get? b = some o) → Q (.ref (s.heap.objs.size + 1)) { s with heap := h' }) :
    wpAny (model prog w) A (call (.type "enumerate") [v]) Q E s := by
  refine callType_new F.called_enumerate (by decide) (F.typeCall_enumerate_1 _) (F.newCall_enumerate_1 _) (fun obj => F.args_object_init_2 obj _) F.entry_enumerate_new (meets_enum1 B) ⟨h1, ?_⟩
  have hz : (s.heap.push o).objs.size = s.heap.objs.size + 1 := Heap.size_push ..
  have he := Heap.get?_push_size (s.heap.push o) (o := { cls := .type "enumerate", data := .fields #[.none, .bool false, .ref s.heap.objs.size, rawInt 0, .none, .none] }) rfl
  rw [hz] at he
  show _ ∧ _
  rw [hz]
  exact ⟨⟨_, he, rfl⟩, h _ he (Heap.get?_push_of_some _ (Heap.get?_push_size _ B.free)) fun b o x => Heap.get?_push_of_some _ (Heap.get?_push_of_some _ x)⟩
end
def IteT (K : PySem.W.Frag) (a : Addr) (xs : List V) : It :=
  ⟨fun i H => SqT K H a xs ∧ i < xs.length, fun i H v H' => ∃ T x, v = .ref T ∧ H T = none ∧ H' = upd H T (.tup [.int (i : Nat), x]) ∧ xs[i]? = some x, fun i H => SqT K H a xs ∧ i = xs.length⟩
theorem vals_at {xs : List V} {us : List Value} (r : Vals xs us) {i : Nat} {u : Value} (h : us[i]? = some u) : ∃ x, xs[i]? = some x ∧ RelV x u := by
  induction r generalizing i with
  | nil => simp at h
  | cons a t ih =>
    cases i with
    | zero =>
      cases h
      exact ⟨_, rfl, a⟩
    | succ i => exact ih h
theorem turn_enumT {P : Program} {w : World} {K : PySem.W.Frag} {elts : List Expr} {kk : Nat} {tpos : Pos} {a e it : Addr} {xs : List V} :
    Turn P w K (.Tuple elts kk tpos) (IteT K a xs) [e, it] e (fun i h => (∃ old, IsEnum h e it ((i : Nat) : Int) old) ∧ h.IsTupleIter it a i ∧ e ≠ it) := by
  have walk : ∀ (X : Cx) (pins : List (Addr × Obj)) (s : Shared) (σ : L2.St) (H : Hp) (i : Nat), X.prog = P → X.w = w → X.K = K → X.A.handled = none → Inv X pins σ H s → SqT K H a xs → ((∃ old, IsEnum s.heap e it ((i : Nat) : Int) old) ∧ s.heap.IsTupleIter it a i ∧ e ≠ it) →
      ∃ its : List Value, Vals xs its ∧ s.heap.IsTuple a its.toArray ∧ e ≠ a ∧ it ≠ a ∧ Draws P w X.A.in1 it [it, a] its.toArray.size (fun i v => its.toArray[i]? = some v) (fun i h => h.IsTupleIter it a i ∧ h.IsTuple a its.toArray) := by
    intro X pins s σ H i hP hw hK hh I hq st
    subst hP
    subst hw
    subst hK
    obtain ⟨⟨old, he⟩, hi, hne⟩ := st
    obtain ⟨its, rv, p, _⟩ := I.tuple hq
    have pa : s.heap.IsTuple a its.toArray := p
    obtain ⟨o1, g1, c1, _⟩ := id pa
    obtain ⟨o2, g2, c2, _⟩ := id hi
    have n1 : e ≠ a := fun z => by
      rw [z] at he
      have w := Option.some.inj (he.symm.trans g1)
      rw [← w] at c1
      have c1' : Value.type "enumerate" = Value.type "tuple" := c1
      injection c1' with c2'
      exact absurd c2' (by decide)
    have n2 : it ≠ a := fun z => by
      rw [z, g1] at g2
      cases g2
      rw [c1] at c2
      exact absurd c2 (by decide)
    have hh1 : X.A.in1.handled = none := hh
    exact ⟨its, rv, pa, n1, n2, Draws.tuple hh1 it a n2.symm _⟩
  refine turn_of (List.mem_cons_self ..) (fun i h st b hb => ?_) (fun i h h' st k => ?_) (fun A i s Q E st h => ?_) (fun X i pins s σ H hP hw hK hh I st hg => ?_) (fun X i pins s σ H hP hw hK hh I st hg => ?_)
  · obtain ⟨⟨old, he⟩, ⟨o, ho, hc, hd⟩, _⟩ := st
    rcases List.mem_cons.mp hb with z | z
    · rw [z]
      exact ⟨_, he, fun v q => nomatch q⟩
    · rw [List.mem_singleton.mp z]
      refine ⟨o, ho, fun v q => ?_⟩
      rw [hd] at q
      cases q
  · obtain ⟨⟨old, he⟩, hi, hne⟩ := st
    exact ⟨⟨old, k e (List.mem_cons_self ..) _ he⟩, hi.at fun o q => k it (List.mem_cons_of_mem _ (List.mem_cons_self ..)) o q, hne⟩
  · obtain ⟨⟨old, he⟩, _⟩ := st
    exact wpAny_pyIter_enum he h
  · obtain ⟨hq, hi⟩ := hg
    obtain ⟨its, rv, pa, n1, n2, D⟩ := walk X pins s σ H i hP hw hK hh I hq st
    have hl := rv.length
    refine ⟨_, _, _, _, _, _, WalksT.enumFrom 0 D e st.2.2 (fun z => ?_) (List.mem_cons_self ..), by simpa using by omega, ⟨by simpa using st.1, st.2.1, pa⟩, fun b hb => hb, fun h z => ⟨by simpa using z.1, z.2.1, st.2.2⟩, fun vals ⟨t, u, hu, ev⟩ => ?_⟩
    · rcases List.mem_cons.mp z with z | z
      · exact st.2.2 z
      · exact n1 (List.mem_singleton.mp z)
    · obtain ⟨x, hx, rx⟩ := vals_at rv (by simpa using hu)
      refine ⟨[.int (i : Nat), x], ?_, (by show 2 ≤ 15; decide), fun T nT => ⟨T, x, rfl, nT, rfl, hx⟩⟩
      rw [ev]
      exact .cons ⟨t, by simp⟩ (.cons rx .nil)
  · obtain ⟨hq, hi⟩ := hg
    obtain ⟨its, rv, pa, n1, n2, D⟩ := walk X pins s σ H i hP hw hK hh I hq st
    have hl := rv.length
    refine ⟨_, _, _, _, _, _, WalksT.enumFrom 0 D e st.2.2 (fun z => ?_) (List.mem_cons_self ..), ?_, fun b hb => hb⟩
    · rcases List.mem_cons.mp z with z | z
      · exact st.2.2 z
      · exact n1 (List.mem_singleton.mp z)
    · have hn : its.toArray.size = i := by
        rw [List.size_toArray, ← hl, hi]
      rw [hn]
      exact ⟨by simpa using st.1, st.2.1, pa⟩
def iEnumT (K : PySem.W.Frag) (ta : TA) : TI := fun σ H R => ta σ H fun vs H1 => ∃ a xs, vs = [.ref a] ∧ SqT K H1 a xs ∧ R (IteT K a xs) H1
theorem pi_enumT {X : Cx} {e : Expr} {ta : TA} {p pos tpos : Pos} {elts : List Expr} {kk : Nat} (hg : Gl X "enumerate") (hm : X.mg "enumerate" = none) (ha : PA X [e] ta) (hs : starEach [e] X.env = [(false, eval e X.env)] := by rfl) :
    PI X (.Tuple elts kk tpos) (.Call (.Name "enumerate" p) [e] [] pos) (iEnumT X.K ta) := by
  constructor
  intro pins s σ H R I h
  refine Call_ (ld_blt I hg hm boot_enumerate (PyProof.Rows.callWith_type1 (thn (ha.run pos pins s σ H _ I h) fun us s1 ⟨vs, H1, I1, r1, a, xs, ex, hq, q⟩ => ?_) hs rfl))
  subst ex
  rcases r1 with _ | ⟨r, r0⟩
  cases r0
  cases r
  obtain ⟨its, rv, pa, _⟩ := I1.tuple hq
  refine call_enum1 (begins_tuple a its.toArray) (show s1.heap.IsTuple a its.toArray from pa) fun h' he hit hk => wpAny_pyIter_enum he ?_
  refine ⟨s1.heap.objs.size + 1, [s1.heap.objs.size + 1, s1.heap.objs.size], _, _, H1, rfl, I1.kept (t' := s1.toks) hk, turn_enumT, ⟨⟨.none, he⟩, ⟨_, hit, rfl, rfl⟩, Nat.succ_ne_self _⟩, fun b hb => ?_, q⟩
  have hle : s1.heap.objs.size ≤ b := by
    rcases List.mem_cons.mp hb with z | z
    · rw [z]
      exact Nat.le_succ _
    · rw [List.mem_singleton.mp z]
      exact Nat.le_refl _
  exact I1.fpOk hle (I1.hok.fresh hle)

/-! ### zip(l, t) -/
def ItzLT (K : PySem.W.Frag) (a b : Addr) (xs ys : List V) : It :=
  ⟨fun i H => SqL K H a xs ∧ SqT K H b ys ∧ i < xs.length, fun i H v H' => ∃ T x y, v = .ref T ∧ H T = none ∧ H' = upd H T (.tup [x, y]) ∧ xs[i]? = some x ∧ ys[i]? = some y, fun i H => SqL K H a xs ∧ SqT K H b ys ∧ i = xs.length⟩
theorem turn_zipLT {P : Program} {w : World} {K : PySem.W.Frag} {elts : List Expr} {kk : Nat} {tpos : Pos} {a b z TI TO i1 i2 : Addr} {xs ys : List V} (hlen : xs.length = ys.length) (S : ZipSep2 z TI TO i1 i2 [i1, a] [i2, b]) (na : a ≠ i1) (nb : b ≠ i2) :
    Turn P w K (.Tuple elts kk tpos) (ItzLT K a b xs ys) [z, TI, TO, i1, i2] z (fun i h => IsZip h z TI TO .none ∧ IsTupOf2 h TI (.ref i1) (.ref i2) ∧ (∃ x y, IsTupOf2 h TO x y) ∧ h.IsListIter i1 a i ∧ h.IsTupleIter i2 b i) := by
  have lists : ∀ (X : Cx) (pins : List (Addr × Obj)) (s : Shared) (σ : L2.St) (H : Hp), X.K = K → X.prog = P → X.w = w → X.A.handled = none → Inv X pins σ H s → SqL K H a xs → SqT K H b ys →
      ∃ us vs : List Value, Vals xs us ∧ Vals ys vs ∧ s.heap.IsList a us.toArray ∧ s.heap.IsTuple b vs.toArray ∧ us.length = xs.length ∧ vs.length = xs.length ∧
        WalksT P w X.A z (z :: TI :: TO :: ([i1, a] ++ [i2, b])) [z, TO, i1, i2] (min us.toArray.size vs.toArray.size) (fun i vals => ∃ x1 x2, us.toArray[i]? = some x1 ∧ vs.toArray[i]? = some x2 ∧ vals = #[x1, x2])
          (fun i h => IsZip h z TI TO .none ∧ IsTupOf2 h TI (.ref i1) (.ref i2) ∧ (∃ a1 a2, IsTupOf2 h TO a1 a2) ∧ (h.IsListIter i1 a i ∧ h.IsList a us.toArray) ∧ h.IsTupleIter i2 b i ∧ h.IsTuple b vs.toArray)
          (fun i T h => IsZip h z TI TO (rawInt T) ∧ IsTupOf2 h TI (.ref i1) (.ref i2) ∧ (∃ a1 a2, IsTupOf2 h TO a1 a2) ∧ (h.IsListIter i1 a (i + 1) ∧ h.IsList a us.toArray) ∧ (h.IsTupleIter i2 b (i + 1) ∧ h.IsTuple b vs.toArray) ∧ T ≠ z ∧ T ≠ TO ∧ T ≠ i1 ∧ T ≠ i2) := by
    intro X pins s σ H hK hP hw hh I h1 h2
    subst hK
    subst hP
    subst hw
    obtain ⟨us, ru, pu, _⟩ := I.list h1
    obtain ⟨vs, rv, pv, _⟩ := I.tuple h2
    have hh1 : X.A.in1.handled = none := hh
    exact ⟨us, vs, ru, rv, pu.isList, pv, ru.length.symm, by rw [← rv.length, hlen], WalksT.zipD2 S (Draws.list hh1 i1 a na _) (Draws.tuple hh1 i2 b nb _)⟩
  have sub5 : ∀ c ∈ [z, TO, i1, i2], c ∈ [z, TI, TO, i1, i2] := fun c hc => by
    simp only [List.mem_cons, List.not_mem_nil, or_false] at hc ⊢
    rcases hc with e | e | e | e
    · exact .inl e
    · exact .inr (.inr (.inl e))
    · exact .inr (.inr (.inr (.inl e)))
    · exact .inr (.inr (.inr (.inr e)))
  refine turn_of (List.mem_cons_self ..) (fun i h st c hc => ?_) (fun i h h' st k => ?_) (fun A i s Q E st h => wpAny_pyIter_zip st.1 h) (fun X i pins s σ H hP hw hK hh I st hg => ?_) (fun X i pins s σ H hP hw hK hh I st hg => ?_)
  · obtain ⟨hz, hTI, ⟨x, y, hTO⟩, ⟨o1, e1, _, d1⟩, ⟨o2, e2, _, d2⟩⟩ := st
    simp only [List.mem_cons, List.not_mem_nil, or_false] at hc
    rcases hc with q | q | q | q | q
    all_goals rw [q]
    · exact ⟨_, hz, fun v q => nomatch q⟩
    · exact ⟨_, hTI, fun v q => nomatch q⟩
    · exact ⟨_, hTO, fun v q => nomatch q⟩
    · exact ⟨o1, e1, fun v q => by rw [d1] at q; cases q⟩
    · exact ⟨o2, e2, fun v q => by rw [d2] at q; cases q⟩
  · obtain ⟨hz, hTI, ⟨x, y, hTO⟩, h1, h2⟩ := st
    have m : ∀ c, c = z ∨ c = TI ∨ c = TO ∨ c = i1 ∨ c = i2 → ∀ o, h.get? c = some o → h'.get? c = some o := fun c hc => k c (by simpa using hc)
    exact ⟨m z (.inl rfl) _ hz, m TI (.inr (.inl rfl)) _ hTI, ⟨x, y, m TO (.inr (.inr (.inl rfl))) _ hTO⟩, h1.at fun o q => m i1 (.inr (.inr (.inr (.inl rfl)))) o q, h2.at fun o q => m i2 (.inr (.inr (.inr (.inr rfl)))) o q⟩
  · obtain ⟨h1, h2, hi⟩ := hg
    obtain ⟨us, vs, ru, rv, pu, pv, lu, lv, W⟩ := lists X pins s σ H hK hP hw hh I h1 h2
    refine ⟨_, _, _, _, _, _, W, ?_, ⟨st.1, st.2.1, st.2.2.1, ⟨st.2.2.2.1, pu⟩, st.2.2.2.2, pv⟩, sub5, fun h z => ⟨z.1, z.2.1, z.2.2.1, z.2.2.2.1.1, z.2.2.2.2.1⟩, fun vals ⟨u1, u2, g1, g2, ev⟩ => ?_⟩
    · rw [List.size_toArray, List.size_toArray, lu, lv, Nat.min_self]
      exact hi
    · obtain ⟨x, hx, rx⟩ := vals_at ru (by simpa using g1)
      obtain ⟨y, hy, ry⟩ := vals_at rv (by simpa using g2)
      refine ⟨[x, y], ?_, (by show 2 ≤ 15; decide), fun T nT => ⟨T, x, y, rfl, nT, rfl, hx, hy⟩⟩
      rw [ev]
      exact .cons rx (.cons ry .nil)
  · obtain ⟨h1, h2, hi⟩ := hg
    obtain ⟨us, vs, ru, rv, pu, pv, lu, lv, W⟩ := lists X pins s σ H hK hP hw hh I h1 h2
    refine ⟨_, _, _, _, _, _, W, ?_, sub5⟩
    have hn : min us.toArray.size vs.toArray.size = i := by
      rw [List.size_toArray, List.size_toArray, lu, lv, Nat.min_self, hi]
    rw [hn]
    exact ⟨st.1, st.2.1, st.2.2.1, ⟨st.2.2.2.1, pu⟩, st.2.2.2.2, pv⟩
def iZipLT (K : PySem.W.Frag) (ta : TA) : TI := fun σ H R => ta σ H fun vs H1 => ∃ a b xs ys, vs = [.ref a, .ref b] ∧ SqL K H1 a xs ∧ SqT K H1 b ys ∧ xs.length = ys.length ∧ R (ItzLT K a b xs ys) H1
theorem pi_zipLT {X : Cx} {e e2 : Expr} {ta : TA} {p pos tpos : Pos} {elts : List Expr} {kk : Nat} (hg : Gl X "zip") (hm : X.mg "zip" = none) (ha : PA X [e, e2] ta) (hs : starEach [e, e2] X.env = (false, eval e X.env) :: starEach [e2] X.env := by rfl)
    (hpl : (backTo pos (starEach [e2] X.env)).any (·.1) = false := by rfl) : PI X (.Tuple elts kk tpos) (.Call (.Name "zip" p) [e, e2] [] pos) (iZipLT X.K ta) := by
  constructor
  intro pins s σ H R I h
  refine Call_ (ld_blt I hg hm PyProof.Rows.boot_zip (PyProof.Rows.callWith_type1 (thn (ha.run pos pins s σ H _ I h) fun us s1 ⟨vs, H1, I1, r1, a, b, xs, ys, ex, h1, h2, hl, q⟩ => ?_) hs hpl))
  subst ex
  rcases r1 with _ | ⟨ra, _ | ⟨rb, r0⟩⟩
  cases r0
  cases ra
  cases rb
  obtain ⟨us, ru, pu, _⟩ := I1.list h1
  obtain ⟨vs, rv, pv, _⟩ := I1.tuple h2
  have pv' : s1.heap.IsTuple b vs.toArray := pv
  have la : a < s1.heap.objs.size := pu.isList.elim fun o z => Heap.lt_size z.1
  have lb : b < s1.heap.objs.size := pv'.elim fun o z => Heap.lt_size z.1
  refine zip_begins2 (begins_list a us.toArray) (begins_tuple b vs.toArray) pu.isList pv' fun h' hz hTI hTO e1 e2 hsz hk => wpAny_pyIter_zip hz ?_
  have S : ZipSep2 (s1.heap.objs.size + 4) (s1.heap.objs.size + 2) (s1.heap.objs.size + 3) s1.heap.objs.size (s1.heap.objs.size + 1) [s1.heap.objs.size, a] [s1.heap.objs.size + 1, b] :=
    zip_sep2 (N := s1.heap.objs.size) (fun c hc => by rw [List.mem_singleton.mp hc]; exact la) (fun c hc => by rw [List.mem_singleton.mp hc]; exact lb)
  refine ⟨s1.heap.objs.size + 4, [s1.heap.objs.size + 4, s1.heap.objs.size + 2, s1.heap.objs.size + 3, s1.heap.objs.size, s1.heap.objs.size + 1], _, _, H1, rfl, I1.kept (t' := s1.toks) hk, turn_zipLT hl S (Nat.ne_of_lt la) (Nat.ne_of_lt (Nat.lt_succ_of_lt lb)),
    ⟨hz, hTI, ⟨_, _, hTO⟩, ⟨_, e1, rfl, rfl⟩, ⟨_, e2, rfl, rfl⟩⟩, fun c hc => ?_, q⟩
  have hle : s1.heap.objs.size ≤ c := by
    simp only [List.mem_cons, List.not_mem_nil, or_false] at hc
    rcases hc with q | q | q | q | q <;> rw [q] <;> first
      | exact Nat.le_add_right _ _
      | exact Nat.le_refl _
  exact I1.fpOk hle (I1.hok.fresh hle)
end EZ

set_option Elab.async false
set_option linter.all false
set_option maxRecDepth 100000
set_option maxHeartbeats 1000000
/-! The law's own powers and bits. -/
namespace K02
open PySem PySem.Spec L2
open PyProof.Rows GenW GxR
open LamX (ExtN)
abbrev sPower : Stmt := top 42 -- _law_power
abbrev sBitsOf : Stmt := top 43 -- _law_bits_of
abbrev sAllBits : Stmt := top 44 -- _law_all_bits
abbrev sGateBit : Stmt := top 45 -- _law_gate_bit
def bitsOf (k n : Nat) : List Bool := (List.range n).map fun i => decide (k / 2 ^ i % 2 = 1)
theorem bitsOf_len (k n : Nat) : (bitsOf k n).length = n := by
  unfold bitsOf
  rw [List.length_map, List.length_range]
theorem bitsOf_succ (k n : Nat) : bitsOf k (n + 1) = bitsOf k n ++ [decide (k / 2 ^ n % 2 = 1)] := by
  unfold bitsOf
  rw [List.range_succ, List.map_append]
  rfl
theorem bit_at (k i : Nat) : (k : Int) / ((2 ^ i : Nat) : Int) % 2 = bitZ (decide (k / 2 ^ i % 2 = 1)) := by
  have h : (k : Int) / ((2 ^ i : Nat) : Int) % 2 = ((k / 2 ^ i % 2 : Nat) : Int) := by
    rw [Int.natCast_emod, Int.natCast_ediv]
    rfl
  rw [h]
  by_cases e : k / 2 ^ i % 2 = 1
  · rw [e, decide_eq_true rfl]
    rfl
  · rw [decide_eq_false e]
    have e0 : k / 2 ^ i % 2 = 0 := by omega
    rw [e0]
    rfl
section
variable {P : Program} {w : World} {K : PySem.W.Frag} {mg : Str → Option Value} {base : Heap}
def spPower : Sp := fun vs H Q _ => ∃ n : Nat, vs = [.int (n : Int)] ∧ n ≤ 5 ∧ Q (.int ((2 ^ n : Nat) : Int)) H
theorem scPower : FnScope ["number", "found", "lap"] ["number"] (defScope sPower) := ⟨rfl, rfl, rfl, by decide +kernel, rfl, by decide +kernel, by decide +kernel⟩
theorem ok_power {f : Addr} {fd : FuncData} (F : Fun K "_law_power" "_law_power" sPower f fd) (mr : mg "range" = none) : FnOk P w K mg base CX0 1 f fd ["number"] spPower := by
  refine F.ok scPower (fun vs H Q E h => ?_) (fun cdv A outer s H vs Q E hr h => ?_)
  · obtain ⟨n, rfl, _⟩ := h
    rfl
  · obtain ⟨n, rfl, hn, q⟩ := h
    refine ⟨_, pss_cons (ps_set (i := 1) scPower.nd rfl (Or.inl rfl) pe_int)
      (pss_cons (ps_for PassesOwn.never rfl (pi_range1 (by rfl) mr (pa_cons (pv 0) pa_nil)) (pg_name (i := 2) scPower.nd rfl (Or.inl rfl))
        (pss_one (ps_set (i := 1) scPower.nd rfl (Or.inl rfl) (pe_op op_mul pe_int (pv 1)))))
      (pss_one (ps_ret (pv 1)))), ?_⟩
    refine ⟨_, rfl, n, rfl, by omega, by omega, ?_⟩
    rw [Int.toNat_natCast]
    refine for_range (fun i σ H1 => ∃ y, σ = [some (.int (n : Int)), some (.int ((2 ^ i : Nat) : Int)), y] ∧ H1 = H) ⟨none, rfl, rfl⟩ (fun i σ H1 hi ⟨y, e, eh⟩ => ?_) (fun σ H1 ⟨y, e, eh⟩ => ?_)
    · subst e
      subst eh
      refine ⟨_, rfl, _, _, rfl, rfl, .inl ⟨by decide, by decide⟩, some (.int (0 + (i : Int))), ?_, rfl⟩
      rw [← pw2 i, Int.mul_comm]
      rfl
    · subst e
      subst eh
      exact ⟨_, rfl, q⟩

def spBitsOf : Sp := fun vs H Q _ => ∃ k n : Nat, vs = [.int (k : Int), .int (n : Int)] ∧ n ≤ 4 ∧ ∀ p H', Same H H' → H p = none → H' p = some (.tup ((bitsOf k n).map bitV)) → Q (.ref p) H'
theorem scBitsOf : FnScope ["number", "size", "spot"] ["number", "size"] (defScope sBitsOf) := ⟨rfl, rfl, rfl, by decide +kernel, rfl, by decide +kernel, by decide +kernel⟩
theorem ok_bitsOf {f fP : Addr} {fd fdP : FuncData} (F : Fun K "_law_bits_of" "_law_bits_of" sBitsOf f fd) (mr : mg "range" = none) (mt : mg "tuple" = none) (GP : FnOk P w K mg base CX0 1 fP fdP ["number"] spPower) (kP : PySem.W.keepIn K (.ref fP) = true) (bP : Binds K fdP ["number"] []) (mP : mg "_law_power" = some (.ref fP)) :
    FnOk P w K mg base CX0 2 f fd ["number", "size"] spBitsOf := by
  refine F.ok scBitsOf (fun vs H Q E h => ?_) (fun cdv A outer s H vs Q E hr h => ?_)
  · obtain ⟨k, n, rfl, _⟩ := h
    rfl
  · obtain ⟨k, n, rfl, hn, q⟩ := h
    refine ⟨_, pss_one (ps_ret (pe_callTy call_tuple_of (by rfl) mt (by decide +kernel) (pa_cons (pe_lc (own := [("spot", 2)]) (g := gName 2) (tt := tYes) rfl scBitsOf.nd (pi_range1 (by rfl) mr (pa_cons (pv 1) pa_nil)) (blkOk_by (N := ["number", "size", "spot"]) (sc := defScope sBitsOf) (by decide +kernel))
      (fun _ _ _ _ _ => pg_name (i := 2) scBitsOf.nd rfl (Or.inl rfl)) (fun _ _ _ _ _ => pts_nil) (fun _ _ _ _ _ => pe_op op_mod (pe_op op_fdiv (pv 0) (pe_call GP hr (by rfl) mP kP bP .nil pass0 (pa_cons (pv 2) pa_nil))) pe_int)) pa_nil))), ?_⟩
    refine ⟨_, rfl, n, rfl, by omega, by omega, fun D nD => ?_⟩
    rw [Int.toNat_natCast]
    refine lc_range (fun i H1 => Same H H1 ∧ H1 D = some (.lst ((bitsOf k i).map bitV))) ⟨same_new nD, upd_same⟩ (fun i H1 hi ⟨s1, e1⟩ => ?_) (fun H1 ⟨s1, e1⟩ => ?_)
    · have hp : 2 ^ i ≤ 16 := pow16 (by omega)
      have hp0 : 0 < 2 ^ i := Nat.two_pow_pos i
      refine ⟨rfl, _, rfl, _, rfl, i, by simp, by omega, _, _, rfl, rfl, ⟨by omega, by omega⟩, _, _, rfl, rfl, (by show (0 : Int) < 2; decide), _, e1, ?_, fun b o e => ?_, ?_⟩
      · rw [List.length_map, bitsOf_len]
        exact small1000 (by omega)
      · rw [upd_ne (ne_of_none e nD)]
        exact s1 b o e
      · rw [upd_same, bitsOf_succ, List.map_append]
        show some (HO.lst ((bitsOf k i).map bitV ++ [V.int ((k : Int) / ((2 ^ i : Nat) : Int) % 2)])) = _
        rw [bit_at]
        rfl
    · refine ⟨D, _, rfl, .inl ⟨.inl (.inl e1), fun p np => q p _ (s1.trans (same_new np)) (s1.free np) upd_same⟩⟩
/-! ### sorted -/
/-- sorted of a list of one -/
def rSort1 (K : PySem.W.Frag) : List V → Hp → VK → Prop := fun vs H Q => ∃ (a : Addr) (x : V), vs = [V.ref a] ∧ SqL K H a [x] ∧ ∀ p, H p = none → Q (.ref p) (upd H p (.lst [x]))
theorem cr_sort1 {X : Cx} : CallR X (.builtin "sorted") (rSort1 X.K) := by
  intro pins s σ H vs us Q I r h
  obtain ⟨a, x, rfl, hs, q⟩ := h
  obtain ⟨its, rv, hl, hz⟩ := I.list hs
  rw [Vals.ref1 r]
  have h1 : its.length = 1 := by
    rw [← rv.length]
    rfl
  refine Srt.sorted_any hl.isList (by rw [h1, sizeLine_eq]; decide) (fun z => by omega) fun out hp => ?_
  have eo : out = its := by
    obtain ⟨u, rfl⟩ := List.length_eq_one_iff.mp h1
    exact List.perm_singleton.mp hp
  rw [eo]
  obtain ⟨ep, he⟩ := PyProof.Rows.sortedAll_at s.heap its its.toArray
  exact ⟨.ref _, upd H (s.heap.objs.size + 1) (.lst [x]), I.laid (t' := s.toks) (fun _ _ => PyProof.Rows.sortedAll_old) (Nat.le_succ _) ⟨(by show 1 ≤ sizeLine; decide), its, ep, rv, he⟩, rfl, q _ (I.hok.fresh (Nat.le_succ _))⟩
end
end K02

set_option Elab.async false
set_option linter.all false
set_option maxRecDepth 100000
set_option maxHeartbeats 1000000
/-! All bits, and a gate's bit, as the law finds them. -/
namespace K02
open PySem PySem.Spec L2
open PyProof.Rows GenW GxR
open LamX (ExtN)
theorem idx_bits : ∀ bs : List Bool, bitsOf (idx bs) bs.length = bs := by
  have gen : ∀ (bs : List Bool) (i : Nat), i < bs.length → bs[i]? = some (decide (idx bs / 2 ^ i % 2 = 1)) := by
    intro bs
    induction bs with
    | nil => intro i h; simp at h
    | cons b r ih =>
      intro i h
      cases i with
      | zero =>
        cases b <;> simp [idx] <;> omega
      | succ i =>
        have h2 := ih i (by simpa using h)
        rw [List.getElem?_cons_succ, h2]
        have e : idx (b :: r) / 2 ^ (i + 1) = idx r / 2 ^ i := by
          rw [Nat.pow_succ, Nat.mul_comm, ← Nat.div_div_eq_div_mul]
          have : idx (b :: r) / 2 = idx r := by
            show ((if b then 1 else 0) + 2 * idx r) / 2 = idx r
            split <;> omega
          rw [this]
        rw [e]
  intro bs
  apply List.ext_getElem?
  intro i
  unfold bitsOf
  rw [List.getElem?_map]
  by_cases h : i < bs.length
  · rw [List.getElem?_range h, gen bs i h]
    rfl
  · rw [List.getElem?_eq_none (by simpa using h), List.getElem?_eq_none (by omega)]
    rfl
theorem low62 {m : Nat} (h : m ≤ 16) : -(2 ^ 62) ≤ (m : Int) := by omega
theorem high62 {m : Nat} (h : m ≤ 16) : (m : Int) < 2 ^ 62 := by omega
/-- y is a tuple of the bits bs -/
def IsB (H : Hp) (y : V) (bs : List Bool) : Prop := ∃ t, y = .ref t ∧ H t = some (.tup (bs.map bitV))
theorem IsB.keep {H H' : Hp} {y : V} {bs : List Bool} (h : IsB H y bs) (k : Same H H') : IsB H' y bs := by
  obtain ⟨t, e, g⟩ := h
  exact ⟨t, e, k _ _ g⟩
/-- just the bits of n places stand in ys -/
structure AllB (H : Hp) (ys : List V) (n : Nat) : Prop where
  len : ys.length = 2 ^ n
  all : ∀ y ∈ ys, ∃ bs, IsB H y bs ∧ bs.length = n
  each : ∀ bs : List Bool, bs.length = n → ∃ y ∈ ys, IsB H y bs
theorem bits_map (bs : List Bool) : bs.map bitV = (bs.map bitZ).map V.int := by
  rw [List.map_map]
  rfl
section
variable {P : Program} {w : World} {K : PySem.W.Frag} {mg : Str → Option Value} {base : Heap}
def spAllBits : Sp := fun vs H Q _ => ∃ n : Nat, vs = [.int (n : Int)] ∧ n ≤ 4 ∧ ∀ l ys H', Same H H' → H l = none → H' l = some (.lst ys) → AllB H' ys n → Q (.ref l) H'
theorem scAllBits : FnScope ["size", "number"] ["size"] (defScope sAllBits) := ⟨rfl, rfl, rfl, by decide +kernel, rfl, by decide +kernel, by decide +kernel⟩
theorem ok_allBits {f fP fB : Addr} {fd fdP fdB : FuncData} (F : Fun K "_law_all_bits" "_law_all_bits" sAllBits f fd) (mr : mg "range" = none) (ms : mg "sorted" = none)
    (GP : FnOk P w K mg base CX0 1 fP fdP ["number"] spPower) (kP : PySem.W.keepIn K (.ref fP) = true) (bP : Binds K fdP ["number"] []) (mP : mg "_law_power" = some (.ref fP))
    (GB : FnOk P w K mg base CX0 2 fB fdB ["number", "size"] spBitsOf) (kB : PySem.W.keepIn K (.ref fB) = true) (bB : Binds K fdB ["number", "size"] []) (mB : mg "_law_bits_of" = some (.ref fB)) :
    FnOk P w K mg base CX0 3 f fd ["size"] spAllBits := by
  refine F.ok scAllBits (fun vs H Q E h => ?_) (fun cdv A outer s H vs Q E hr h => ?_)
  · obtain ⟨n, rfl, _⟩ := h
    rfl
  · obtain ⟨n, rfl, hn, q⟩ := h
    have h16 := pow16 hn
    -- the list, before it is sorted
    have inv : ∀ (D : Addr), H D = none → ∀ Qd : Hp → Prop, (∀ H1 ys, Same H H1 → H1 D = some (.lst ys) → AllB H1 ys n → Qd H1) →
        ∃ Pv : Nat → Hp → Prop, Pv 0 (upd H D (.lst [])) ∧ (∀ (i : Nat) (H1 : Hp), i < 2 ^ n → Pv i H1 → Same H H1 ∧ ∃ acc, H1 D = some (.lst acc) ∧ acc.length < sizeLine ∧
          ∀ p H', Same H1 H' → H1 p = none → H' p = some (.tup ((bitsOf i n).map bitV)) → Pv (i + 1) (upd H' D (.lst (acc ++ [.ref p])))) ∧ ∀ H1, Pv (2 ^ n) H1 → Qd H1 := by
      intro D nD Qd qd
      refine ⟨fun i H1 => Same H H1 ∧ ∃ ys, H1 D = some (.lst ys) ∧ ys.length = i ∧ (∀ y ∈ ys, ∃ bs, IsB H1 y bs ∧ bs.length = n) ∧ ∀ k, k < i → ∃ y ∈ ys, IsB H1 y (bitsOf k n), ⟨same_new nD, [], upd_same, rfl, fun y hy => (nomatch hy), fun k hk => by omega⟩, fun i H1 hi ⟨s1, ys, e1, l1, a1, b1⟩ => ⟨s1, ys, e1, by rw [l1]; exact small1000 (by omega), fun p H' s2 np e2 => ?_⟩, fun H1 ⟨s1, ys, e1, l1, a1, b1⟩ => qd H1 ys s1 e1 ⟨l1, a1, fun bs hb => ?_⟩⟩
      · have off : ∀ {y bs}, IsB H1 y bs → IsB (upd H' D (.lst (ys ++ [.ref p]))) y bs := fun {y bs} ⟨t, e, g⟩ => ⟨t, e, by
          rw [upd_ne (fun z => by rw [z, e1] at g; cases g)]
          exact s2 _ _ g⟩
        have new : IsB (upd H' D (.lst (ys ++ [.ref p]))) (.ref p) (bitsOf i n) := ⟨p, rfl, by
          rw [upd_ne (fun z => by rw [z, e1] at np; cases np)]
          exact e2⟩
        refine ⟨fun b o e => ?_, _, upd_same, ?_, fun y hy => ?_, fun k hk => ?_⟩
        · rw [upd_ne (ne_of_none e nD)]
          exact s2 _ _ (s1 _ _ e)
        · rw [List.length_append, l1]
          rfl
        · rcases List.mem_append.mp hy with hy | hy
          · obtain ⟨bs, z, l⟩ := a1 y hy
            exact ⟨bs, off z, l⟩
          · rw [List.mem_singleton.mp hy]
            exact ⟨_, new, bitsOf_len _ _⟩
        · by_cases h : k < i
          · obtain ⟨y, hy, z⟩ := b1 k h
            exact ⟨y, List.mem_append_left _ hy, off z⟩
          · have e : k = i := by omega
            rw [e]
            exact ⟨_, List.mem_append_right _ (List.mem_singleton.mpr rfl), new⟩
      · have hlt := idx_lt bs
        rw [hb] at hlt
        have z := b1 _ hlt
        have e := idx_bits bs
        rw [hb] at e
        rw [e] at z
        exact z
    by_cases h0 : n = 0
    · subst h0
      refine ⟨_, pss_one (ps_ret (pe_callB cr_sort1 (by rfl) ms (by decide +kernel) (pa_cons (pe_lc (own := [("number", 1)]) (g := gName 1) (tt := tYes) rfl scAllBits.nd (pi_range1 (by rfl) mr (pa_cons (pe_call GP (hr.mono (by decide)) (by rfl) mP kP bP .nil pass0 (pa_cons (pv 0) pa_nil)) pa_nil)) (blkOk_by (N := ["size", "number"]) (sc := defScope sAllBits) (by decide +kernel))
        (fun _ _ _ _ _ => pg_name (i := 1) scAllBits.nd rfl (Or.inl rfl)) (fun _ _ _ _ _ => pts_nil) (fun _ _ _ _ _ => pe_call GB hr (by rfl) mB kB bB .nil pass0 (pa_cons (pv 1) (pa_cons (pv 0) pa_nil)))) pa_nil))), ?_⟩
      refine ⟨_, rfl, 0, rfl, by decide, _, rfl, by decide, by decide, fun D nD => ?_⟩
      have fin : ∀ H1 ys, Same H H1 → H1 D = some (.lst ys) → AllB H1 ys 0 → rSort1 K [.ref D] H1 Q := fun H1 ys s1 e1 a1 => ?fin
      · obtain ⟨Pv, p0, ps, pd⟩ := inv D nD (fun H1 => rSort1 K [.ref D] H1 Q) fin
        refine lc_range Pv p0 (fun i H1 hi p1 => ?_) pd
        obtain ⟨s1, acc, e1, hl, nxt⟩ := ps i H1 (by simpa using hi) p1
        exact ⟨rfl, _, rfl, _, rfl, i, 0, by simp, by decide, fun p H' s2 np e2 => ⟨acc, s2 _ _ e1, hl, nxt p H' s2 np e2⟩⟩
      case fin =>
        obtain ⟨y, rfl⟩ := List.length_eq_one_iff.mp a1.len
        refine ⟨D, y, rfl, .inl (.inl e1), fun p np => q p [y] _ (s1.trans (same_new np)) (s1.free np) upd_same ⟨a1.len, fun z hz => ?_, fun bs hb => ?_⟩⟩
        · obtain ⟨bs, g, l⟩ := a1.all z hz
          exact ⟨bs, g.keep (same_new np), l⟩
        · obtain ⟨z, hz, g⟩ := a1.each bs hb
          exact ⟨z, hz, g.keep (same_new np)⟩
    · refine ⟨_, pss_one (ps_ret (pe_callB (cr_sortT (d := n) (B := 2) (by omega)) (by rfl) ms (by decide +kernel) (pa_cons (pe_lc (own := [("number", 1)]) (g := gName 1) (tt := tYes) rfl scAllBits.nd (pi_range1 (by rfl) mr (pa_cons (pe_call GP (hr.mono (by decide)) (by rfl) mP kP bP .nil pass0 (pa_cons (pv 0) pa_nil)) pa_nil)) (blkOk_by (N := ["size", "number"]) (sc := defScope sAllBits) (by decide +kernel))
        (fun _ _ _ _ _ => pg_name (i := 1) scAllBits.nd rfl (Or.inl rfl)) (fun _ _ _ _ _ => pts_nil) (fun _ _ _ _ _ => pe_call GB hr (by rfl) mB kB bB .nil pass0 (pa_cons (pv 1) (pa_cons (pv 0) pa_nil)))) pa_nil))), ?_⟩
      refine ⟨_, rfl, n, rfl, by omega, _, rfl, low62 h16, high62 h16, fun D nD => ?_⟩
      rw [Int.toNat_natCast]
      have fin : ∀ H1 ys, Same H H1 → H1 D = some (.lst ys) → AllB H1 ys n → rSortU K n 2 [.ref D] H1 Q := fun H1 ys s1 e1 a1 => ?fin
      · obtain ⟨Pv, p0, ps, pd⟩ := inv D nD (fun H1 => rSortU K n 2 [.ref D] H1 Q) fin
        refine lc_range Pv p0 (fun i H1 hi p1 => ?_) pd
        obtain ⟨s1, acc, e1, hl, nxt⟩ := ps i H1 hi p1
        exact ⟨rfl, _, rfl, _, rfl, i, n, by simp, hn, fun p H' s2 np e2 => ⟨acc, s2 _ _ e1, hl, nxt p H' s2 np e2⟩⟩
      case fin =>
        refine ⟨D, ys, rfl, .inl (.inl e1), by rw [a1.len]; omega, fun x hx => ?_, fun zs p hp _ np => q p zs _ (s1.trans (same_new np)) (s1.free np) upd_same ⟨hp.length_eq.trans a1.len, fun z hz => ?_, fun bs hb => ?_⟩⟩
        · obtain ⟨bs, ⟨t, e, g⟩, l⟩ := a1.all x hx
          refine ⟨bs.map bitZ, ⟨t, e, by rw [← bits_map]; exact .inl (.inl g)⟩, by rw [List.length_map, l], fun m hm => ?_⟩
          obtain ⟨b, _, rfl⟩ := List.mem_map.mp hm
          cases b <;> decide
        · obtain ⟨bs, g, l⟩ := a1.all z (hp.mem_iff.mp hz)
          exact ⟨bs, g.keep (same_new np), l⟩
        · obtain ⟨z, hz, g⟩ := a1.each bs hb
          exact ⟨z, hp.mem_iff.mpr hz, g.keep (same_new np)⟩
end
end K02

set_option Elab.async false
set_option linter.all false
set_option maxRecDepth 100000
set_option maxHeartbeats 1000000
/-! A gate's bit, as the law finds it; bits in the place of all None. -/
namespace K02
open PySem PySem.Spec L2
open PyProof.Rows GenW GxR
open LamX (ExtN)
theorem idx_snoc (xs : List Bool) (b : Bool) : idx (xs ++ [b]) = idx xs + (if b then 1 else 0) * 2 ^ xs.length := by
  induction xs with
  | nil =>
    show (if b then 1 else 0) + 2 * idx [] = 0 + (if b then 1 else 0) * 2 ^ 0
    simp [idx]
  | cons x r ih =>
    show (if x then 1 else 0) + 2 * idx (r ++ [b]) = (if x then 1 else 0) + 2 * idx r + (if b then 1 else 0) * 2 ^ (r.length + 1)
    rw [ih, Nat.pow_succ]
    cases b <;> simp <;> omega
/-! ### None's places -/
def spotsF : List (Option Bool) → List Nat
  | [] => []
  | none :: r => 0 :: (spotsF r).map (· + 1)
  | some _ :: r => (spotsF r).map (· + 1)
theorem spotsF_snoc (xs : List (Option Bool)) (x : Option Bool) : spotsF (xs ++ [x]) = match x with
  | none => spotsF xs ++ [xs.length]
  | some _ => spotsF xs := by
  induction xs with
  | nil => cases x <;> rfl
  | cons y r ih =>
    cases x with
    | none =>
      have ih' : spotsF (r ++ [none]) = spotsF r ++ [r.length] := ih
      cases y with
      | none =>
        show 0 :: (spotsF (r ++ [none])).map (· + 1) = 0 :: (spotsF r).map (· + 1) ++ [r.length + 1]
        rw [ih', List.map_append]
        rfl
      | some c =>
        show (spotsF (r ++ [none])).map (· + 1) = (spotsF r).map (· + 1) ++ [r.length + 1]
        rw [ih', List.map_append]
        rfl
    | some d =>
      have ih' : spotsF (r ++ [some d]) = spotsF r := ih
      cases y with
      | none =>
        show 0 :: (spotsF (r ++ [some d])).map (· + 1) = 0 :: (spotsF r).map (· + 1)
        rw [ih']
      | some c =>
        show (spotsF (r ++ [some d])).map (· + 1) = (spotsF r).map (· + 1)
        rw [ih']
theorem spotsF_lt (rs : List (Option Bool)) : ∀ p ∈ spotsF rs, p < rs.length := by
  induction rs with
  | nil => intro p h; cases h
  | cons y r ih =>
    have key : ∀ p ∈ (spotsF r).map (· + 1), p < (y :: r).length := fun p h => by
      obtain ⟨q, hq, rfl⟩ := List.mem_map.mp h
      have := ih q hq
      rw [List.length_cons]
      omega
    intro p h
    cases y with
    | none =>
      rcases List.mem_cons.mp h with e | h
      · rw [e, List.length_cons]
        omega
      · exact key p h
    | some c => exact key p h
theorem spotsF_len (rs : List (Option Bool)) : (spotsF rs).length ≤ rs.length := by
  induction rs with
  | nil => exact Nat.le_refl _
  | cons y r ih =>
    cases y with
    | none =>
      show (0 :: (spotsF r).map (· + 1)).length ≤ r.length + 1
      rw [List.length_cons, List.length_map]
      omega
    | some c =>
      show ((spotsF r).map (· + 1)).length ≤ r.length + 1
      rw [List.length_map]
      omega
def setN (l : List (Option Bool)) (ps : List (Nat × Bool)) : List (Option Bool) := ps.foldl (fun l p => l.set p.1 (some p.2)) l
theorem setN_len (l : List (Option Bool)) (ps : List (Nat × Bool)) : (setN l ps).length = l.length := by
  induction ps generalizing l with
  | nil => rfl
  | cons p r ih =>
    show (setN (l.set p.1 (some p.2)) r).length = l.length
    rw [ih, List.length_set]
theorem setN_snoc (l : List (Option Bool)) (ps : List (Nat × Bool)) (p : Nat × Bool) : setN l (ps ++ [p]) = (setN l ps).set p.1 (some p.2) := by
  unfold setN
  rw [List.foldl_append]
  rfl
theorem setN_shift (x : Option Bool) (l : List (Option Bool)) (ps : List (Nat × Bool)) : setN (x :: l) (ps.map fun p => (p.1 + 1, p.2)) = x :: setN l ps := by
  induction ps generalizing l with
  | nil => rfl
  | cons p r ih =>
    show setN ((x :: l).set (p.1 + 1) (some p.2)) (r.map fun p => (p.1 + 1, p.2)) = x :: setN (l.set p.1 (some p.2)) r
    rw [List.set_cons_succ, ih]
theorem zip_shift (os : List Nat) (bs : List Bool) : (os.map (· + 1)).zip bs = (os.zip bs).map fun p => (p.1 + 1, p.2) := by
  rw [List.zip_map_left]
  rfl
theorem fill_ok : ∀ (rs : List (Option Bool)) (bs : List Bool), bs.length = (spotsF rs).length → ∃ full, setN rs ((spotsF rs).zip bs) = full.map some ∧ Comp rs full
  | [], bs, _ => ⟨[], by cases bs <;> rfl, .nil⟩
  | none :: r, bs, h => by
    cases bs with
    | nil => exact absurd h (by simp [spotsF])
    | cons b bs =>
      obtain ⟨full, e, c⟩ := fill_ok r bs (by simpa [spotsF] using h)
      refine ⟨b :: full, ?_, .free b c⟩
      show setN (some b :: r) (((spotsF r).map (· + 1)).zip bs) = some b :: full.map some
      rw [zip_shift, setN_shift, e]
  | some d :: r, bs, h => by
    obtain ⟨full, e, c⟩ := fill_ok r bs (by simpa [spotsF] using h)
    refine ⟨d :: full, ?_, .told d c⟩
    show setN (some d :: r) (((spotsF r).map (· + 1)).zip bs) = some d :: full.map some
    rw [zip_shift, setN_shift, e]
theorem fill_all {rs : List (Option Bool)} {full : List Bool} (c : Comp rs full) : ∃ bs : List Bool, bs.length = (spotsF rs).length ∧ setN rs ((spotsF rs).zip bs) = full.map some := by
  induction c with
  | nil => exact ⟨[], rfl, rfl⟩
  | @free r fs b c ih =>
    obtain ⟨bs, h, e⟩ := ih
    refine ⟨b :: bs, by simpa [spotsF] using h, ?_⟩
    show setN (some b :: r) (((spotsF r).map (· + 1)).zip bs) = some b :: fs.map some
    rw [zip_shift, setN_shift, e]
  | @told r fs d c ih =>
    obtain ⟨bs, h, e⟩ := ih
    refine ⟨bs, by simpa [spotsF] using h, ?_⟩
    show setN (some d :: r) (((spotsF r).map (· + 1)).zip bs) = some d :: fs.map some
    rw [zip_shift, setN_shift, e]
def fillV (rs : List (Option Bool)) (bs : List Bool) : List Bool := (setN rs ((spotsF rs).zip bs)).map fun x => x.getD false
theorem fillV_of {rs : List (Option Bool)} {bs full : List Bool} (e : setN rs ((spotsF rs).zip bs) = full.map some) : fillV rs bs = full := by
  unfold fillV
  rw [e, List.map_map]
  exact List.map_id _
theorem fillV_comp {rs : List (Option Bool)} {bs : List Bool} (h : bs.length = (spotsF rs).length) : Comp rs (fillV rs bs) ∧ (setN rs ((spotsF rs).zip bs)).map rdV = (fillV rs bs).map bitV := by
  obtain ⟨full, e, c⟩ := fill_ok rs bs h
  rw [fillV_of e, e]
  refine ⟨c, ?_⟩
  rw [List.map_map]
  rfl
/-- the bits of a gate over all bits of its open places: the gate's reading -/
theorem gate_all {tb : List Bool} {rs : List (Option Bool)} {bss : List (List Bool)} (h1 : ∀ bs ∈ bss, bs.length = (spotsF rs).length) (h2 : ∀ bs : List Bool, bs.length = (spotsF rs).length → bs ∈ bss) :
    one (bss.map fun bs => tb.getD (idx (fillV rs bs)) false) = gateR tb rs := by
  unfold gateR
  refine one_congr fun b => ?_
  rw [List.mem_map, List.mem_map]
  constructor
  · rintro ⟨bs, hb, e⟩
    exact ⟨idx (fillV rs bs), (plc_mem rs _).mpr ⟨_, (fillV_comp (h1 bs hb)).1, rfl⟩, e⟩
  · rintro ⟨p, hp, e⟩
    obtain ⟨full, c, rfl⟩ := (plc_mem rs p).mp hp
    obtain ⟨bs, hl, es⟩ := fill_all c
    refine ⟨bs, h2 bs hl, ?_⟩
    show tb.getD (idx (fillV rs bs)) false = b
    rw [fillV_of es]
    exact e

section
variable {P : Program} {w : World} {K : PySem.W.Frag} {mg : Str → Option Value} {base : Heap}
def spGateBit (K : PySem.W.Frag) : Sp := fun vs H Q _ => ∃ (a b : Addr) (tb bs : List Bool), vs = [.ref a, .ref b] ∧ SqT K H a (tb.map bitV) ∧ SqL K H b (bs.map bitV) ∧ bs.length ≤ 4 ∧ tb.length = 2 ^ bs.length ∧ ∀ H', Same H H' → Q (bitV (tb.getD (idx bs) false)) H'
theorem scGateBit : FnScope ["table", "bits", "spot", "bit"] ["table", "bits"] (defScope sGateBit) := ⟨rfl, rfl, rfl, by decide +kernel, rfl, by decide +kernel, by decide +kernel⟩
theorem ok_gateBit {f fP : Addr} {fd fdP : FuncData} (F : Fun K "_law_gate_bit" "_law_gate_bit" sGateBit f fd) (me : mg "enumerate" = none) (ms : mg "sum" = none)
    (GP : FnOk P w K mg base CX0 1 fP fdP ["number"] spPower) (kP : PySem.W.keepIn K (.ref fP) = true) (bP : Binds K fdP ["number"] []) (mP : mg "_law_power" = some (.ref fP)) : FnOk P w K mg base CX0 2 f fd ["table", "bits"] (spGateBit K) := by
  refine F.ok scGateBit (fun vs H Q E h => ?_) (fun cdv A outer s H vs Q E hr h => ?_)
  · obtain ⟨a, b, tb, bs, rfl, _⟩ := h
    rfl
  · obtain ⟨a, b, tb, bs, rfl, hT, hB, hl, htl, q⟩ := h
    refine ⟨_, pss_one (ps_ret (pe_ix (r := rIxT K) ix_tup (pv 0) (pe_callB (cr_sum rfl) (by rfl) ms (by decide +kernel) (pa_cons (pe_lc (own := [("spot", 2), ("bit", 3)]) (g := gTup K 2 (gCons (gName 2) (gCons (gName 3) gNil))) (tt := tYes) rfl scGateBit.nd (pi_enum (by rfl) me (pa_cons (pv 1) pa_nil)) (blkOk_by (N := ["table", "bits", "spot", "bit"]) (sc := defScope sGateBit) (by decide +kernel))
      (fun _ _ _ _ _ => pg_tup rfl (pgs_cons (pg_name (i := 2) scGateBit.nd rfl (Or.inl rfl)) (pgs_cons (pg_name (i := 3) scGateBit.nd rfl (Or.inl rfl)) pgs_nil))) (fun _ _ _ _ _ => pts_nil) (fun _ _ _ _ _ => pe_op op_mul (pv 3) (pe_call GP hr (by rfl) mP kP bP .nil pass0 (pa_cons (pv 2) pa_nil)))) pa_nil)) (fun _ _ => rfl))), ?_⟩
    refine ⟨_, rfl, _, rfl, b, bs.map bitV, rfl, hB, fun D nD => ?_⟩
    refine lc_it walk_enum (fun i H1 => Same H H1 ∧ ∃ ns : List Int, H1 D = some (.lst (ns.map V.int)) ∧ ns.length = i ∧ ns.sum = (idx (bs.take i) : Int)) ⟨same_new nD, [], upd_same, rfl, rfl⟩ (fun i H1 _ z => z.1.seq hB) (fun i x H1 H2 hi ⟨s1, ns, e1, l1, es⟩ hy => ?_) (fun H1 ⟨s1, ns, e1, l1, es⟩ => ?_)
    · obtain ⟨T, x1, y1, rfl, nT, rfl, hx, hy⟩ := hy
      cases hx
      have hy : (bs.map bitV)[i]? = some y1 := hy
      rw [List.getElem?_map] at hy
      obtain ⟨c, hc, rfl⟩ := Option.map_eq_some_iff.mp hy
      have hib : i < bs.length := (List.getElem?_eq_some_iff.mp hc).1
      have hlen : (bs.take i).length = i := by
        rw [List.length_take]
        omega
      have hb : bitZ c = (if c then 1 else 0 : Int) := by cases c <;> rfl
      refine ⟨T, _, rfl, .inl (.inl upd_same), rfl, _, _, rfl, _, _, rfl, rfl, rfl, _, rfl, _, rfl, i, rfl, by omega, _, _, rfl, rfl, .inl ⟨by cases c <;> decide, by cases c <;> decide⟩, ns.map V.int, ?_, ?_, fun b' o e => ?_, ns ++ [bitZ c * ((2 ^ i : Nat) : Int)], ?_, ?_, ?_⟩
      · rw [upd_ne (fun z => by rw [z, nT] at e1; cases e1)]
        exact e1
      · rw [List.length_map, l1]
        exact small1000 (by omega)
      · rw [upd_ne (ne_of_none e nD)]
        exact same_new nT _ _ (s1 _ _ e)
      · rw [upd_same, List.map_append]
        rfl
      · rw [List.length_append, l1]
        rfl
      · rw [List.sum_append, es, take_snoc hc, idx_snoc, hlen]
        show (idx (bs.take i) : Int) + (bitZ c * ((2 ^ i : Nat) : Int) + 0) = _
        cases c
        · show (idx (bs.take i) : Int) + (0 * ((2 ^ i : Nat) : Int) + 0) = ((idx (bs.take i) + 0 * 2 ^ i : Nat) : Int)
          rw [Int.zero_mul, Nat.zero_mul]
          simp
        · show (idx (bs.take i) : Int) + (1 * ((2 ^ i : Nat) : Int) + 0) = ((idx (bs.take i) + 1 * 2 ^ i : Nat) : Int)
          rw [Int.one_mul, Nat.one_mul, Int.natCast_add, Int.add_zero]
    · rw [List.length_map, List.take_length] at es
      have hlt : idx bs < tb.length := by
        rw [htl]
        exact idx_lt bs
      refine ⟨D, ns, rfl, .inl (.inl e1), a, _, _, bitV (tb.getD (idx bs) false), rfl, rfl, extN_seqT (extN_same s1) hT, ?_, q H1 s1⟩
      rw [es]
      refine atI_nat ?_
      rw [List.getElem?_map, List.getElem?_eq_getElem hlt]
      simp [List.getD_eq_getElem?_getD, List.getElem?_eq_getElem hlt]
end
end K02

set_option Elab.async false
set_option linter.all false
set_option maxRecDepth 100000
set_option maxHeartbeats 1000000
/-! A gate's reading, as the law finds it. -/
namespace K02
open PySem PySem.Spec L2
open PyProof.Rows GenW GxR EZ
open LamX (ExtN)
abbrev sLawReading : Stmt := top 46 -- _law_gate_reading
abbrev nLR : List Str := ["table", "readings", "open_spots", "told", "bits", "filled", "spot", "bit", "reading"]
theorem scLR : FnScope nLR ["table", "readings"] (defScope sLawReading) := ⟨rfl, rfl, rfl, by decide +kernel, rfl, by decide +kernel, by decide +kernel⟩
theorem bitV_inj {a b : List Bool} (h : a.map bitV = b.map bitV) : a = b := by
  induction a generalizing b with
  | nil =>
    cases b with
    | nil => rfl
    | cons y r => cases h
  | cons x r ih =>
    cases b with
    | nil => cases h
    | cons y q =>
      injection h with h1 h2
      rw [ih h2, bitZ_inj (V.int.inj h1)]
theorem bss_of {H : Hp} {n : Nat} : ∀ {ys : List V}, (∀ y ∈ ys, ∃ bs, IsB H y bs ∧ bs.length = n) → ∃ bss : List (List Bool), bss.length = ys.length ∧ ∀ (i : Nat) (y : V), ys[i]? = some y → ∃ bs, bss[i]? = some bs ∧ IsB H y bs ∧ bs.length = n
  | [], _ => ⟨[], rfl, fun i y h => by simp at h⟩
  | y :: r, h => by
    obtain ⟨bss, hl, hb⟩ := bss_of (ys := r) fun z hz => h z (List.mem_cons_of_mem _ hz)
    obtain ⟨bs, g, l⟩ := h y List.mem_cons_self
    refine ⟨bs :: bss, by rw [List.length_cons, List.length_cons, hl], fun i z hz => ?_⟩
    cases i with
    | zero =>
      cases hz
      exact ⟨bs, rfl, g, l⟩
    | succ i => exact hb i z hz
theorem IsB.inj {H : Hp} {y : V} {a b : List Bool} (h : IsB H y a) (g : IsB H y b) : a = b := by
  obtain ⟨t, rfl, e⟩ := h
  obtain ⟨t', e', e2⟩ := g
  cases e'
  rw [e] at e2
  injection e2 with e2
  injection e2 with e2
  exact bitV_inj e2
theorem walk_enumT {K : PySem.W.Frag} {a : Addr} {xs : List V} : Walk (IteT K a xs) xs.length (fun H => SqT K H a xs) (YPair (fun i => some (.int (i : Nat))) (fun i => xs[i]?)) :=
  ⟨fun _ _ hi q => ⟨q, hi⟩, fun _ q => ⟨q, rfl⟩, fun i H v H' _ _ ⟨T, x, h1, h2, h3, h4⟩ => ⟨T, _, x, h1, h2, h3, rfl, h4⟩⟩
theorem walk_zipLT {K : PySem.W.Frag} {a b : Addr} {xs ys : List V} : Walk (ItzLT K a b xs ys) xs.length (fun H => SqL K H a xs ∧ SqT K H b ys) (YPair (fun i => xs[i]?) (fun i => ys[i]?)) :=
  ⟨fun _ _ hi q => ⟨q.1, q.2, hi⟩, fun _ q => ⟨q.1, q.2, rfl⟩, fun i H v H' _ _ ⟨T, x, y, h1, h2, h3, h4, h5⟩ => ⟨T, x, y, h1, h2, h3, h4, h5⟩⟩
theorem rdV_non {r : Option Bool} : decide (rdV r = .non) = r.isNone := by
  cases r with
  | none => rfl
  | some c => rfl
section
variable {P : Program} {w : World} {K : PySem.W.Frag} {mg : Str → Option Value} {base : Heap}
def spLR (K : PySem.W.Frag) : Sp := fun vs H Q _ => ∃ (a b : Addr) (tb : List Bool) (rs : List (Option Bool)), vs = [.ref a, .ref b] ∧ SqT K H a (tb.map bitV) ∧ SqT K H b (rs.map rdV) ∧ rs.length ≤ 4 ∧ tb.length = 2 ^ rs.length ∧ ∀ H', Same H H' → Q (rdV (gateR tb rs)) H'
theorem ok_LR {f fA fG : Addr} {fd fdA fdG : FuncData} (F : Fun K "_law_gate_reading" "_law_gate_reading" sLawReading f fd) (me : mg "enumerate" = none) (ml : mg "len" = none) (mli : mg "list" = none) (mz : mg "zip" = none) (mmin : mg "min" = none) (mmax : mg "max" = none)
    (GA : FnOk P w K mg base CX0 3 fA fdA ["size"] spAllBits) (kA : PySem.W.keepIn K (.ref fA) = true) (bA : Binds K fdA ["size"] []) (mA : mg "_law_all_bits" = some (.ref fA))
    (GG : FnOk P w K mg base CX0 2 fG fdG ["table", "bits"] (spGateBit K)) (kG : PySem.W.keepIn K (.ref fG) = true) (bG : Binds K fdG ["table", "bits"] []) (mG : mg "_law_gate_bit" = some (.ref fG)) :
    FnOk P w K mg base CX0 4 f fd ["table", "readings"] (spLR K) := by
  refine F.ok scLR (fun vs H Q E h => ?_) (fun cdv A outer s H vs Q E hr h => ?_)
  · obtain ⟨a, b, tb, rs, rfl, _⟩ := h
    rfl
  · obtain ⟨a, b, tb, rs, rfl, hT, hR, hl, htl, q⟩ := h
    refine ⟨_, pss_cons (ps_par (i := 2) (j := 3) rfl scLR.nd rfl rfl (by decide) rfl rfl (pa_cons (pe_lc (own := [("spot", 6), ("reading", 8)]) (g := gTup K 2 (gCons (gName 6) (gCons (gName 8) gNil))) rfl scLR.nd (pi_enumT (by rfl) me (pa_cons (pv 1) pa_nil)) (blkOk_by (N := nLR) (sc := defScope sLawReading) (by decide +kernel))
        (fun _ _ _ _ _ => pg_tup rfl (pgs_cons (pg_name (i := 6) scLR.nd rfl (Or.inl rfl)) (pgs_cons (pg_name (i := 8) scLR.nd rfl (Or.inl rfl)) pgs_nil))) (fun _ _ _ _ _ => pts_one (pt_cmpR op_isN (pv 8) pe_non (nomark _))) (fun _ _ _ _ _ => pv 6)) (pa_cons (pe_lst pa_nil) pa_nil)) (by rfl))
      (pss_cons (ps_for PassesOwn.never rfl (pi_list (pe_call GA hr (by rfl) mA kA bA .nil pass0 (pa_cons (pe_callB call_len_seq (by rfl) ml PySem.boot_len (pa_cons (pv 2) pa_nil)) pa_nil))) (pg_name (i := 4) scLR.nd rfl (Or.inl rfl))
        (pss_cons (ps_set (i := 5) scLR.nd rfl (Or.inl rfl) (pe_callTy call_list_of (by rfl) mli (by decide +kernel) (pa_cons (pv 1) pa_nil)))
        (pss_cons (ps_for PassesOwn.never rfl (pi_zipLT (by rfl) mz (pa_cons (pv 2) (pa_cons (pv 4) pa_nil))) (pg_tup rfl (pgs_cons (pg_name (i := 6) scLR.nd rfl (Or.inl rfl)) (pgs_cons (pg_name (i := 7) scLR.nd rfl (Or.inl rfl)) pgs_nil)))
          (pss_one (ps_asg (pv 7) (pg_sub (pv 5) (pv 6) set_list))))
        (pss_one (ps_expr (pe_bm PySem.F.plainAttrs_list PySem.F.slot_list_append PySem.F.type_list_append mt_append (pv 3) (pa_cons (pe_call GG (hr.mono (by decide)) (by rfl) mG kG bG .nil pass0 (pa_cons (pv 0) (pa_cons (pv 5) pa_nil))) pa_nil)))))))
      (pss_one (ps_ret (pe_ifExp (pt_cmpR op_eq (pe_callB (cr_min rfl) (by rfl) mmin (by decide +kernel) (pa_cons (pv 3) pa_nil)) (pe_callB (cr_max rfl) (by rfl) mmax (by decide +kernel) (pa_cons (pv 3) pa_nil)) (nomark _)) (pe_ix ix_list (pv 3) pe_int (fun _ _ => rfl)) pe_non)))), ?_⟩
    -- open_spots, told = [..], []
    refine ⟨_, rfl, b, rs.map rdV, rfl, hR, fun D nD => ?_⟩
    refine lc_it walk_enumT (fun i H1 => Same H H1 ∧ H1 D = some (.lst (natV (spotsF (rs.take i))))) ⟨same_new nD, upd_same⟩ (fun i H1 _ z => extN_seqT (extN_same z.1) hR) (fun i x H1 H2 hi ⟨s1, e1⟩ hy => ?_) (fun H1 ⟨s1, e1⟩ => ?_)
    · obtain ⟨T, x1, y1, rfl, nT, rfl, hx, hy⟩ := hy
      cases hx
      have hy : (rs.map rdV)[i]? = some y1 := hy
      rw [List.getElem?_map] at hy
      obtain ⟨r, hr1, rfl⟩ := Option.map_eq_some_iff.mp hy
      have hir : i < rs.length := (List.getElem?_eq_some_iff.mp hr1).1
      have hlen : (rs.take i).length = i := by
        rw [List.length_take]
        omega
      have s2 := same_new (o := .tup [.int (i : Nat), rdV r]) nT
      have nDT : D ≠ T := fun z => by
        rw [z, nT] at e1
        cases e1
      have hsn := spotsF_snoc (rs.take i) r
      refine ⟨T, _, rfl, .inl (.inl upd_same), rfl, _, _, rfl, _, _, rfl, rfl, rfl, _, rfl, rfl, ?_⟩
      refine ⟨_, rfl, ?_⟩
      rw [rdV_non]
      cases r with
      | none =>
        have hsn : spotsF (rs.take i ++ [none]) = spotsF (rs.take i) ++ [(rs.take i).length] := hsn
        refine iteT ⟨_, rfl, natV (spotsF (rs.take i)), ?_, ?_, fun b' o e => ?_, ?_⟩
        · rw [upd_ne nDT]
          exact e1
        · rw [natV_len]
          have := spotsF_len (rs.take i)
          exact small1000 (by omega)
        · rw [upd_ne (ne_of_none e nD)]
          exact s2 _ _ (s1 _ _ e)
        · rw [upd_same, take_snoc hr1, hsn, hlen, natV_app]
          rfl
      | some c =>
        have hsn : spotsF (rs.take i ++ [some c]) = spotsF (rs.take i) := hsn
        refine iteF ⟨fun b' o e => s2 _ _ (s1 _ _ e), ?_⟩
        rw [take_snoc hr1, hsn, upd_ne nDT]
        exact e1
    · have e1' : H1 D = some (.lst (natV (spotsF rs))) := by
        rw [List.length_map, List.take_length] at e1
        exact e1
      clear e1
      have hsl : (spotsF rs).length ≤ 4 := Nat.le_trans (spotsF_len rs) hl
      refine ⟨Nat.zero_le _, fun L nL => ⟨_, _, rfl, ?_⟩⟩
      have s2 : Same H (upd H1 L (.lst [])) := s1.trans (same_new nL)
      have hLD : L ≠ D := fun z => by
        rw [z, e1'] at nL
        cases nL
      have e2 : upd H1 L (.lst []) D = some (.lst (natV (spotsF rs))) := by
        rw [upd_ne hLD.symm]
        exact e1'
      refine ⟨_, rfl, D, _, rfl, .inl (.inl (.inl e2)), (spotsF rs).length, by rw [natV_len]; rfl, hsl, fun l ys H3 s3 nl e3 A3 => ?_⟩
      obtain ⟨bss, lb, hbss⟩ := bss_of A3.all
      have e3L : H3 L = some (.lst []) := s3 _ _ upd_same
      have hD3 : SqL K H3 D (natV (spotsF rs)) := .inl (.inl (s3 _ _ e2))
      have s03 : Same H H3 := s2.trans s3
      have nlL : l ≠ L := fun z => by
        rw [z, upd_same] at nl
        cases nl
      have bl : bss.length ≤ 16 := by
        rw [lb, A3.len]
        exact pow16 hsl
      generalize hf : (fun bs : List Bool => tb.getD (idx (fillV rs bs)) false) = bitOf
      -- what stands but told
      have offL : ∀ c o, H c = some o → c ≠ L := fun c o e => ne_of_none (s1 _ _ e) nL
      refine ⟨l, rfl, ⟨ys, .inl (.inl e3)⟩, for_list (fun i σ Hx => ∃ y4 y5 y6 y7 : Option V, σ = [some (.ref a), some (.ref b), some (.ref D), some (.ref L), y4, y5, y6, y7, none] ∧ (∀ c o, c ≠ L → H3 c = some o → Hx c = some o) ∧ Hx L = some (.lst (((bss.take i).map bitOf).map bitV)))
        ⟨none, none, none, none, rfl, fun _ _ _ e => e, e3L⟩ (fun i σ Hx _ ⟨_, _, _, _, _, k, _⟩ => .inl (.inl (k _ _ nlL e3))) (fun i x σ Hx hx ⟨y4, y5, y6, y7, eσ, kx, eL⟩ => ?_) (fun σ Hx ⟨y4, y5, y6, y7, eσ, kx, eL⟩ => ?_)⟩
      · subst eσ
        obtain ⟨bs, hbi, ⟨t, rfl, et⟩, lbs⟩ := hbss i x hx
        have tL : t ≠ L := fun z => by
          rw [z, e3L] at et
          cases et
        refine ⟨_, rfl, b, rs.map rdV, rfl, .inr ?_, fun F nF => ?_⟩
        · exact extN_seqT (fun c o e _ => kx c o (offL c o e) (s03 _ _ e)) hR
        have k4 : ∀ c o, c ≠ L → H3 c = some o → upd Hx F (.lst (rs.map rdV)) c = some o := fun c o n e => by
          have z := kx c o n e
          rw [upd_ne (ne_of_none z nF)]
          exact z
        have FL : F ≠ L := fun z => by
          rw [z, eL] at nF
          cases nF
        have DL : D ≠ L := hLD.symm
        have FD : F ≠ D := fun z => by
          have w := kx D _ DL (s3 _ _ e2)
          rw [← z, nF] at w
          cases w
        have Ft : F ≠ t := fun z => by
          have w := kx t _ tL et
          rw [← z, nF] at w
          cases w
        refine ⟨_, rfl, _, rfl, D, t, natV (spotsF rs), bs.map bitV, rfl, .inl (.inl (k4 _ _ DL (s3 _ _ e2))), .inl (.inl (k4 _ _ tL et)), by rw [natV_len, List.length_map, lbs], ?_⟩
        refine for_it walk_zipLT (fun j σ Hy => ∃ y6 y7 : Option V, σ = [some (.ref a), some (.ref b), some (.ref D), some (.ref L), some (.ref t), some (.ref F), y6, y7, none] ∧ (∀ c o, c ≠ F → upd Hx F (.lst (rs.map rdV)) c = some o → Hy c = some o) ∧ Hy F = some (.lst ((setN rs (((spotsF rs).zip bs).take j)).map rdV)))
          ⟨y6, y7, rfl, fun _ _ _ e => e, upd_same⟩ (fun j σ Hy _ ⟨_, _, _, ky, _⟩ => ⟨.inl (.inl (ky _ _ FD.symm (k4 _ _ DL (s3 _ _ e2)))), .inl (.inl (ky _ _ Ft.symm (k4 _ _ tL et)))⟩) (fun j x σ Hy Hz hj ⟨y6', y7', eσ, ky, eF⟩ hy => ?_) (fun σ Hy ⟨y6', y7', eσ, ky, eF⟩ => ?_)
        · subst eσ
          obtain ⟨T, x1, y1, rfl, nT, rfl, hx1, hy1⟩ := hy
          obtain ⟨p, hp, rfl⟩ := natV_get hx1
          have hy1 : (bs.map bitV)[j]? = some y1 := hy1
          rw [List.getElem?_map] at hy1
          obtain ⟨c, hc, rfl⟩ := Option.map_eq_some_iff.mp hy1
          have hz : ((spotsF rs).zip bs)[j]? = some (p, c) := List.getElem?_zip_eq_some.mpr ⟨hp, hc⟩
          have hpl : p < rs.length := spotsF_lt rs p (List.mem_of_getElem? hp)
          have FT : F ≠ T := fun z => by
            rw [z, nT] at eF
            cases eF
          refine ⟨T, _, rfl, .inl (.inl upd_same), rfl, _, _, rfl, _, _, rfl, rfl, ?_⟩
          refine ⟨_, rfl, _, rfl, _, rfl, F, (setN rs (((spotsF rs).zip bs).take j)).map rdV, (p : Int), p, rfl, rfl, ?_, ?_, some (.int (p : Int)), some (bitV c), rfl, fun d o n e => ?_, ?_⟩
          · rw [upd_ne FT]
            exact eF
          · have hpn : p < ((setN rs (((spotsF rs).zip bs).take j)).map rdV).length := by
              rw [List.length_map, setN_len]
              exact hpl
            unfold ixN
            rw [if_pos (Int.natCast_nonneg _), if_pos (Int.ofNat_lt.mpr hpn), Int.toNat_natCast]
          · have z := ky d o n e
            rw [upd_ne n, upd_ne (ne_of_none z nT)]
            exact z
          · rw [upd_same, take_snoc hz, setN_snoc, List.map_set]
            rfl
        · subst eσ
          have hzl : ((spotsF rs).zip bs).length = (natV (spotsF rs)).length := by
            rw [List.length_zip, natV_len, lbs, Nat.min_self]
          rw [← hzl, List.take_length, (fillV_comp lbs).2] at eF
          have kz : ∀ c o, c ≠ L → H3 c = some o → Hy c = some o := fun c o n e => ky c o (fun z => by
            have w := kx c o n e
            rw [z, nF] at w
            cases w) (k4 c o n e)
          have hlen : (fillV rs bs).length = rs.length := (fillV_comp lbs).1.length
          refine ⟨_, rfl, ?_, _, rfl, _, rfl, a, F, tb, fillV rs bs, rfl, ?_, .inl (.inl eF), by rw [hlen]; exact hl, by rw [hlen]; exact htl, fun H' s' => ⟨L, ((bss.take i).map bitOf).map bitV, _, rfl, rfl, ?_, ?_, ?_⟩⟩
          · refine .inl ⟨rfl, ((bss.take i).map bitOf).map bitV, .inl (.inl (ky L _ FL.symm ?_))⟩
            rw [upd_ne FL.symm]
            exact eL
          · exact extN_seqT (fun c o e _ => kz c o (offL c o e) (s03 _ _ e)) hT
          · refine s' _ _ (ky L _ FL.symm ?_)
            rw [upd_ne FL.symm]
            exact eL
          · rw [List.length_map, List.length_map, List.length_take]
            exact small1000 (by omega)
          · refine ⟨some (.ref t), some (.ref F), y6', y7', rfl, fun c o n e => ?_, ?_⟩
            · rw [upd_ne n]
              exact s' _ _ (kz c o n e)
            · rw [upd_same, take_snoc hbi, List.map_append, List.map_append, ← hf]
              rfl
      · subst eσ
        have e : Hx L = some (.lst ((bss.map bitOf).map bitV)) := by
          have hyl : ys.length = bss.length := lb.symm
          rw [hyl, List.take_length] at eL
          exact eL
        have hone : one (bss.map bitOf) = gateR tb rs := by
          rw [← hf]
          refine gate_all (fun bs hb => ?_) (fun bs hl => ?_)
          · obtain ⟨i, hi⟩ := List.getElem?_of_mem hb
            have hiy : i < ys.length := by
              rw [← lb]
              exact (List.getElem?_eq_some_iff.mp hi).1
            obtain ⟨bs', h1, _, h3⟩ := hbss i _ (List.getElem?_eq_getElem hiy)
            rw [hi] at h1
            cases h1
            exact h3
          · obtain ⟨y, hy, g⟩ := A3.each bs hl
            obtain ⟨i, hi⟩ := List.getElem?_of_mem hy
            obtain ⟨bs', h1, g', _⟩ := hbss i y hi
            rw [g.inj g']
            exact List.mem_of_getElem? h1
        generalize hLL : bss.map bitOf = LL at e hone
        have hD : SqL K Hx L ((LL.map bitZ).map V.int) := by
          refine .inl (.inl ?_)
          rw [e, List.map_map]
          rfl
        have hpos : 0 < (LL.map bitZ).length := by
          rw [List.length_map, ← hLL, List.length_map, lb, A3.len]
          exact Nat.two_pow_pos _
        have sx : Same H Hx := fun c o e => kx c o (offL c o e) (s03 _ _ e)
        refine ⟨_, rfl, L, _, rfl, hD, hpos, fun lo l1 l2 => ⟨_, rfl, L, _, rfl, hD, hpos, fun hi h1 h2 => ⟨rfl, _, rfl, ite2 (fun hc => ?_) (fun hc => ?_)⟩⟩⟩
        · obtain ⟨b', r, el, eo⟩ := (minmax_one l1 l2 h1 h2).1 (V.int.inj (of_decide_eq_true hc))
          have z := q Hx sx
          rw [← hone, eo] at z
          refine ⟨_, rfl, L, _, 0, bitV b', rfl, rfl, hD, ?_, z⟩
          rw [el]
          exact atI_nat (j := 0) rfl
        · have eo := (minmax_one l1 l2 h1 h2).2 fun z => hc (decide_eq_true (congrArg V.int z))
          have z := q Hx sx
          rw [← hone, eo] at z
          exact z
end
end K02

set_option Elab.async false
set_option linter.all false
set_option maxRecDepth 100000
set_option maxHeartbeats 1000000
/-! The law's tables and readings. -/
namespace K02
open PySem PySem.Spec L2
open PyProof.Rows GenW GxR EZ
open LamX (ExtN)
abbrev sLTable : Stmt := top 51 -- _law_table
theorem StOk.up {H : Hp} {st lg cl : Addr} {t t' : Nat} (S : StOk H st lg cl t) (h : t ≤ t') : StOk H st lg cl t' := by
  obtain ⟨ls, cs, left, turn, S⟩ := S
  exact ⟨ls, cs, left, turn, S.d, S.l, S.c, S.lp, S.l0, S.t0, by have := S.tt; omega, S.ll, S.cc, S.ne⟩
theorem But.st_new {st lg cl p : Addr} {H : Hp} {o : HO} {t : Nat} (S : StOk H st lg cl t) (np : H p = none) : p ≠ st ∧ p ≠ lg := by
  obtain ⟨ls, cs, left, turn, S⟩ := S
  exact ⟨ne_of_none S.d np |>.symm, ne_of_none S.l np |>.symm⟩
theorem But.free {st lg cl p : Addr} {H H' : Hp} {t : Nat} (B : But st lg H H') (S : StOk H' st lg cl t) (np : H' p = none) : H p = none := by
  have n := But.st_new (o := .tup []) S np
  cases e : H p with
  | none => rfl
  | some o =>
    have z := B p o e n.1 n.2
    rw [np] at z
    cases z
theorem StOk.upd {st lg cl p : Addr} {H : Hp} {o : HO} {t : Nat} (S : StOk H st lg cl t) (n1 : p ≠ st) (n2 : p ≠ lg) (n3 : p ≠ cl) : StOk (upd H p o) st lg cl t := by
  obtain ⟨ls, cs, left, turn, S⟩ := S
  exact ⟨ls, cs, left, turn, by rw [upd_ne n1.symm]; exact S.d, by rw [upd_ne n2.symm]; exact S.l, by rw [upd_ne n3.symm]; exact S.c, S.lp, S.l0, S.t0, S.tt, S.ll, S.cc, S.ne⟩
theorem StOk.cl_ne {st lg cl p : Addr} {H : Hp} {t : Nat} (S : StOk H st lg cl t) (np : H p = none) : p ≠ cl := by
  obtain ⟨ls, cs, left, turn, S⟩ := S
  exact (ne_of_none S.c np).symm
theorem bits01 {k : Int} (h0 : 0 ≤ k) (h1 : k < 2) : ∃ b, V.int k = bitV b := by
  by_cases h : k = 1
  · exact ⟨true, by rw [h]; rfl⟩
  · exact ⟨false, by rw [show k = 0 by omega]; rfl⟩
section
variable {P : Program} {w : World} {K : PySem.W.Frag} {mg : Str → Option Value} {base : Heap}
def spLTable : Sp := fun vs H Q _ => ∃ (st lg cl : Addr) (t n : Nat), vs = [.ref st, .int (n : Int)] ∧ n ≤ 4 ∧ t + 100 < 1000000000 ∧ StOk H st lg cl t ∧
  ∀ (tb : List Bool) (p : Addr) (H' : Hp), tb.length = 2 ^ n → H' p = some (.tup (tb.map bitV)) → H p = none → StOk H' st lg cl (t + 17) → But st lg H H' → Q (.ref p) H'
theorem scLTable : FnScope ["state", "size", "way", "count", "spot"] ["state", "size"] (defScope sLTable) := ⟨rfl, rfl, rfl, by decide +kernel, rfl, by decide +kernel, by decide +kernel⟩
theorem rep_one {α : Type} (x : α) (n : Nat) : (List.replicate n [x]).flatten = List.replicate n x := by
  induction n with
  | zero => rfl
  | succ n ih =>
    rw [List.replicate_succ, List.flatten_cons, ih, List.replicate_succ]
    rfl
theorem ok_ltable {f fD fP : Addr} {fd fdD fdP : FuncData} (F : Fun K "_law_table" "_law_table" sLTable f fd) (mt : mg "tuple" = none) (mr : mg "range" = none)
    (GD : FnOk P w K mg base CX0 1 fD fdD ["state", "size_here"] spDraw) (kD : PySem.W.keepIn K (.ref fD) = true) (bD : Binds K fdD ["state", "size_here"] []) (mD : mg "_law_draw" = some (.ref fD))
    (GP : FnOk P w K mg base CX0 1 fP fdP ["number"] spPower) (kP : PySem.W.keepIn K (.ref fP) = true) (bP : Binds K fdP ["number"] []) (mP : mg "_law_power" = some (.ref fP)) :
    FnOk P w K mg base CX0 2 f fd ["state", "size"] spLTable := by
  refine F.ok scLTable (fun vs H Q E h => ?_) (fun cdv A outer s H vs Q E hr h => ?_)
  · obtain ⟨st, lg, cl, t, n, rfl, _⟩ := h
    rfl
  · obtain ⟨st, lg, cl, t, n, rfl, hn, ht, S, q⟩ := h
    have h16 := pow16 hn
    have hp0 : 0 < 2 ^ n := Nat.two_pow_pos n
    refine ⟨_, pss_cons (ps_par (i := 2) (j := 3) rfl scLTable.nd rfl rfl (by decide) rfl rfl (pa_cons (pe_call GD hr (by rfl) mD kD bD .nil pass0 (pa_cons (pv 0) (pa_cons pe_int pa_nil))) (pa_cons (pe_call GP hr (by rfl) mP kP bP .nil pass0 (pa_cons (pv 1) pa_nil)) pa_nil)) (by rfl))
      (pss_cons (ps_if (pt_cmpR op_eq (pv 2) pe_int (nomark _)) (pss_one (ps_ret (pe_callTy call_tuple_of (by rfl) mt (by decide +kernel) (pa_cons (pe_op op_cat (pe_lst (pa_cons pe_int pa_nil)) (pe_op op_rep (pe_lst (pa_cons pe_int pa_nil)) (pe_op op_sub (pv 3) pe_int))) pa_nil)))) pss_nil)
      (pss_cons (ps_if (pt_cmpR op_eq (pv 2) pe_int (nomark _)) (pss_one (ps_ret (pe_callTy call_tuple_of (by rfl) mt (by decide +kernel) (pa_cons (pe_op op_cat (pe_op op_rep (pe_lst (pa_cons pe_int pa_nil)) (pe_op op_sub (pv 3) pe_int)) (pe_lst (pa_cons pe_int pa_nil))) pa_nil)))) pss_nil)
      (pss_cons (ps_if (pw_and (pt_cmpR op_eq (pv 2) pe_int (nomark _)) (pw_and1 (pt_cmpR op_eq (pv 1) pe_int (nomark _)))).pt (pss_one (ps_ret (pe_tup (pa_cons pe_int (pa_cons pe_int pa_nil))))) pss_nil)
      (pss_one (ps_ret (pe_callTy call_tuple_of (by rfl) mt (by decide +kernel) (pa_cons (pe_lc (own := [("spot", 4)]) (g := gName 4) (tt := tYes) rfl scLTable.nd (pi_range1 (by rfl) mr (pa_cons (pv 3) pa_nil)) (blkOk_by (N := ["state", "size", "way", "count", "spot"]) (sc := defScope sLTable) (by decide +kernel))
        (fun _ _ _ _ _ => pg_name (i := 4) scLTable.nd rfl (Or.inl rfl)) (fun _ _ _ _ _ => pts_nil) (fun _ _ _ _ _ => pe_call GD hr (by rfl) mD kD bD .nil pass0 (pa_cons (pv 0) (pa_cons pe_int pa_nil)))) pa_nil))))))), ?_⟩
    refine ⟨_, rfl, st, lg, cl, t, 5, rfl, by decide, by decide, by omega, S, fun k H1 k0 k1 S1 B1 => ?_⟩
    refine ⟨_, rfl, n, rfl, by omega, ⟨_, _, rfl, ?_⟩⟩
    have fin : ∀ (tb : List Bool) (ys : List V) (H2 : Hp), Same H1 H2 → ys = tb.map bitV → tb.length = 2 ^ n → ∀ l, H2 l = none → Q (.ref l) (L2.upd H2 l (.tup ys)) := fun tb ys H2 s2 e hl l nl => by
      refine q tb l _ hl ?_ (B1.free S1 (s2.free nl)) ((S1.keep (s2.trans (same_new nl))).up (by omega)) (B1.trans (But.of (s2.trans (same_new nl))))
      rw [upd_same, e]
    have hm : (((2 ^ n : Nat) : Int) - 1).toNat = 2 ^ n - 1 := by omega
    have b1 : (-(2 ^ 63) : Int) ≤ ((2 ^ n : Nat) : Int) - 1 := by
      have := Int.natCast_nonneg (2 ^ n)
      omega
    have b2 : ((2 ^ n : Nat) : Int) - 1 < 2 ^ 63 := by
      have : ((2 ^ n : Nat) : Int) ≤ 16 := Int.ofNat_le.mpr h16
      omega
    refine ⟨_, rfl, rfl, _, rfl, ite2 (fun e => ?_) (fun e => ?_)⟩
    · refine ⟨(by show 1 ≤ sizeLine; decide), fun p1 np1 => ⟨(by show 1 ≤ sizeLine; decide), fun p2 np2 => ⟨_, rfl, _, _, rfl, rfl, p2, _, [.int 1], rfl, rfl, upd_same, b1, b2, ?_, fun p3 np3 => ?_⟩⟩⟩
      · rw [hm]
        exact Nat.le_of_lt (small1000 (by show 1 * (2 ^ n - 1) ≤ 1000; omega))
      · have s3 := ((same_new (o := .lst [.int 0]) np1).trans (same_new (o := .lst [.int 1]) np2)).trans (same_new (o := .lst (List.replicate (((2 ^ n : Nat) : Int) - 1).toNat [V.int 1]).flatten) np3)
        refine ⟨p1, p3, [.int 0], _, rfl, rfl, same_new np3 _ _ (same_new np2 _ _ upd_same), upd_same, ?_, fun p4 np4 => ⟨p4, _, rfl, .inl ⟨.inl (.inl upd_same), fin (false :: List.replicate (2 ^ n - 1) true) _ _ (s3.trans (same_new np4)) ?_ ?_⟩⟩⟩
        · rw [rep_one, List.length_replicate, hm]
          exact Nat.le_of_lt (small1000 (by show 1 + (2 ^ n - 1) ≤ 1000; omega))
        · rw [rep_one, hm, List.map_cons, List.map_replicate]
          rfl
        · rw [List.length_cons, List.length_replicate]
          omega
    · refine ⟨_, rfl, rfl, _, rfl, ite2 (fun e => ?_) (fun e => ?_)⟩
      · refine ⟨(by show 1 ≤ sizeLine; decide), fun p2 np2 => ⟨_, rfl, _, _, rfl, rfl, p2, _, [.int 0], rfl, rfl, upd_same, b1, b2, ?_, fun p3 np3 => ⟨(by show 1 ≤ sizeLine; decide), fun p1 np1 => ?_⟩⟩⟩
        · rw [hm]
          exact Nat.le_of_lt (small1000 (by show 1 * (2 ^ n - 1) ≤ 1000; omega))
        · have s3 := ((same_new (o := .lst [.int 0]) np2).trans (same_new (o := .lst (List.replicate (((2 ^ n : Nat) : Int) - 1).toNat [V.int 0]).flatten) np3)).trans (same_new (o := .lst [.int 1]) np1)
          refine ⟨p3, p1, _, [.int 1], rfl, rfl, same_new np1 _ _ upd_same, upd_same, ?_, fun p4 np4 => ⟨p4, _, rfl, .inl ⟨.inl (.inl upd_same), fin (List.replicate (2 ^ n - 1) false ++ [true]) _ _ (s3.trans (same_new np4)) ?_ ?_⟩⟩⟩
          · rw [rep_one, List.length_replicate, hm]
            exact Nat.le_of_lt (small1000 (by show (2 ^ n - 1) + 1 ≤ 1000; omega))
          · rw [rep_one, hm, List.map_append, List.map_replicate]
            rfl
          · rw [List.length_append, List.length_replicate]
            show 2 ^ n - 1 + 1 = 2 ^ n
            omega
      · refine ⟨_, rfl, rfl, ?_⟩
        have last : ∀ D, H1 D = none → ∀ Qd : Hp → Prop, (∀ (H2 : Hp) (bs : List Bool), bs.length = 2 ^ n → H2 D = some (.lst (bs.map bitV)) → StOk H2 st lg cl (t + 17) → But st lg H1 H2 → Qd H2) →
            ∃ Pv : Nat → Hp → Prop, Pv 0 (L2.upd H1 D (.lst [])) ∧ (∀ (i : Nat) (H2 : Hp), i < 2 ^ n → Pv i H2 → spDraw [.ref st, .int 2] H2 (fun y H4 => ∃ acc, H4 D = some (.lst acc) ∧ acc.length < sizeLine ∧ Pv (i + 1) (L2.upd H4 D (.lst (acc ++ [y])))) E) ∧ ∀ H2, Pv (2 ^ n) H2 → Qd H2 := by
          intro D nD Qd qd
          have nn := But.st_new (o := .tup []) S1 nD
          have n3 := S1.cl_ne nD
          refine ⟨fun i H2 => ∃ bs : List Bool, bs.length = i ∧ H2 D = some (.lst (bs.map bitV)) ∧ StOk H2 st lg cl (t + 1 + i) ∧ But st lg H1 H2, ⟨[], rfl, upd_same, S1.upd nn.1 nn.2 n3, But.of (same_new nD)⟩, fun i H2 hi ⟨bs, l2, e2, S2, B2⟩ => ⟨st, lg, cl, t + 1 + i, 2, rfl, by decide, by decide, by omega, S2, fun k H3 k0 k1 S3 B3 => ⟨bs.map bitV, B3 _ _ e2 nn.1 nn.2, ?_, ?_⟩⟩, fun H2 ⟨bs, l2, e2, S2, B2⟩ => qd H2 bs l2 e2 (S2.up (by omega)) B2⟩
          · rw [List.length_map, l2]
            exact small1000 (by omega)
          · obtain ⟨b, eb⟩ := bits01 k0 k1
            refine ⟨bs ++ [b], by rw [List.length_append, l2]; rfl, ?_, S3.upd nn.1 nn.2 n3, fun c o ec m1 m2 => ?_⟩
            · rw [upd_same, List.map_append, eb]
              rfl
            · rw [upd_ne (ne_of_none ec nD)]
              exact B3 _ _ (B2 _ _ ec m1 m2) m1 m2
        refine ⟨_, rfl, ite2 (fun e2 => ⟨_, rfl, rfl, _, rfl, ite2 (fun e3 => ?one) (fun e3 => ?_)⟩) (fun e2 => ?_)⟩
        case one =>
          have hn1 : n = 1 := by
            have z := V.int.inj (of_decide_eq_true e3)
            omega
          refine ⟨(by show 2 ≤ sizeLine; decide), fun p np => fin [true, false] _ _ (fun _ _ e => e) rfl ?_ p np⟩
          rw [hn1]
          rfl
        all_goals
          refine ⟨_, rfl, _, rfl, low62 h16, high62 h16, fun D nD => ?_⟩
          rw [Int.toNat_natCast]
          have tail : ∀ (H2 : Hp) (bs : List Bool), bs.length = 2 ^ n → H2 D = some (.lst (bs.map bitV)) → StOk H2 st lg cl (t + 17) → But st lg H1 H2 → ∀ l, H2 l = none → Q (.ref l) (L2.upd H2 l (.tup (bs.map bitV))) := fun H2 bs l2 e2 S2 B2 l nl =>
            q bs l _ l2 upd_same (B1.free S1 (B2.free S2 nl)) (S2.keep (same_new nl)) ((B1.trans B2).trans (But.of (same_new nl)))
          obtain ⟨Pv, p0, ps, pd⟩ := last D nD (fun H2 => ∃ bs : List Bool, H2 D = some (.lst (bs.map bitV)) ∧ ∀ l, H2 l = none → Q (.ref l) (L2.upd H2 l (.tup (bs.map bitV)))) (fun H2 bs l2 e2 S2 B2 => ⟨bs, e2, tail H2 bs l2 e2 S2 B2⟩)
          refine lc_range Pv p0 (fun i H2 hi p1 => ⟨rfl, _, rfl, ps i H2 hi p1⟩) fun H2 p2 => ?_
          obtain ⟨bs, e2, fq⟩ := pd H2 p2
          exact ⟨D, _, rfl, .inl ⟨.inl (.inl e2), fq⟩⟩
end
end K02

set_option Elab.async false
set_option linter.all false
set_option maxRecDepth 100000
set_option maxHeartbeats 1000000
/-! Rules that the law's own text wants. -/
namespace K02
open PySem PySem.Spec L2
open PyProof.Rows GenW GxR EZ
open LamX (ExtN)
/-- repr of a reading -/
def rdS : Option Bool → Str
  | none => "None"
  | some b => toString (bitZ b)
theorem call_reprR {X : Cx} : CallR X (.builtin "repr") (fun xs H Q => ∃ r : Option Bool, xs = [rdV r] ∧ Q (.str (rdS r)) H) := by
  intro pins s σ H xs us Q I r h
  obtain ⟨o, rfl, q⟩ := h
  cases o with
  | none =>
    rcases r with _ | ⟨ra, r0⟩
    cases r0
    cases ra
    exact PySem.P.repr_of_none ⟨.str _, H, I.tok _, ⟨_, rfl⟩, q⟩
  | some b =>
    rcases r with _ | ⟨ra, r0⟩
    cases r0
    obtain ⟨t, rfl⟩ := ra
    exact PySem.P.repr_of_int (by cases b <;> decide) ⟨.str _, H, I.tok _, ⟨_, rfl⟩, q⟩
/-- f(k = v, ..) -/
theorem pe_callK0 {X : Cx} {CX : CXT} {k : Nat} {f : Addr} {fd : FuncData} {ps ks : List Str} {sp : Sp} {g : List Value → List Value → List Value} {gV : List V → List V → List V} {E : XK} {x : Str} {p pos : Pos} {kws : List Keyword} {tk : TA} (F : FnOk X.prog X.w X.K X.mg X.base CX k f fd ps sp) (hr : Room k X.A) (hg : Gl X x)
    (hm : X.mg x = some (.ref f)) (hk : PySem.W.keepIn X.K (.ref f) = true) (hb : KBinds X.K fd ps ks g gV) (hx : Passes CX X E) (hkw : PK X kws tk) (hall : (backToKw pos (keywordEach kws X.env)).all (·.1.isSome) = true := by rfl)
    (hks : (backToKw pos (keywordEach kws X.env)).filterMap (·.1) = ks := by rfl) (hdb : (x == ("__debug__" : Str)) = false := by decide) (hpl : ((backTo pos (starEach [] X.env)).any (·.1) || (backToKw pos (keywordEach kws X.env)).any (·.1.isNone)) = false := by rfl) :
    PE X (.Call (.Name x p) [] kws pos) (tCallK sp gV E tNil tk) := by
  constructor
  intro pins s σ H Q I h
  refine wpAny_Call_Name_kw (ld_glob I hg hm (PySem.W.callWith_KW0 (h₀ := X.base) I.ok.mod.kin hk hall (thn (hkw.run pos pins s σ H _ I h) fun ws s2 ⟨zs, H2, I2, rz, q2⟩ => ⟨I2.kIn, ?_⟩) hpl) hdb)
  rw [hks]
  exact run_fnk F hr hb hx I2 .nil rz q2
/-- no error leaves a call that has none -/
theorem passNone {X : Cx} : Passes (L2.CX X.prog X.w) X fun _ _ _ => False := fun _ _ _ _ _ _ _ c => by
  obtain ⟨_, _, _, _, _, _, _, _, _, _, _, _, z⟩ := c
  exact z.elim
end K02

set_option Elab.async false
set_option linter.all false
set_option maxRecDepth 100000
set_option maxHeartbeats 4000000
namespace TM
open PySem PySem.Spec PySem.Calls PyProof.Rows L2
theorem tuple_mul1 (l : Addr) (items : Array Value) (n : Nat) (dd : Option Addr) (sl : Array (Option Value)) (u : Tok) :
    Meets (Builtin.«tuple.__mul__» ⟨[.ref l, .int 1 u], []⟩) (fun _ R s => s.heap.get? l = some { cls := .type "tuple", dict := dd, data := .seq items n, slots := sl } ∧ R (.ok (.ret (.ref l))) s) :=
  .of_wp fun prog w A R s h => by
    obtain ⟨hp, g, d, tk, os⟩ := s
    obtain ⟨hl, h⟩ := h
    have f1 := AutoSeq1.idx_int
    wp_walk using wpAny_loadPart' hl
    exact ⟨_, rfl, h⟩
/-- t * k, k at least 1 (t * 1 is t itself) -/
def rRepA (K : PySem.W.Frag) : R2 := fun x y H Q => ∃ l k xs, x = .ref l ∧ y = .int k ∧ SqT K H l xs ∧ xs ≠ [] ∧ 1 ≤ k ∧ k ≤ 1000 ∧ xs.length ≤ 1000 ∧ (k = 1 → Q (.ref l) H) ∧ (2 ≤ k → ∀ p, H p = none → Q (.ref p) (upd H p (.tup (List.replicate k.toNat xs).flatten)))
theorem op_repA {X : Cx} : OpR X (binaryOp .Mult) (rRepA X.K) := by
  intro pins s σ H x y v u Q I rx ry h
  obtain ⟨l, k, xs, rfl, rfl, hT, hne, h1, h2, hz, q1, q2⟩ := h
  by_cases hk : k = 1
  · subst hk
    cases rx
    obtain ⟨t, rfl⟩ := ry
    obtain ⟨its, r, ⟨⟨cls, dd, data, sl⟩, ho, hc, n, hd⟩, hs⟩ := I.tuple hT
    simp only at hc hd
    subst hc
    subst hd
    exact wpAny_binaryOp_repeat_ref (T := "tuple") (U := "int") (by decide) ⟨_, ho, rfl⟩ (fun s' => typeIs_int s' 1 t) noFill_tuple_mul F.fills_int_mul F.slot_int_rmul repeat_tuple F.slot_int_index.lookup
      (call_meets F.slot_int_rmul (typeIs_int s 1 t) F.entry_int_rmul (F.args_int_rmul_2 _ _) (int_rmul_tuple 1 t l its.toArray n dd sl)
        ⟨ho, rfl, ⟨_, ho, rfl⟩, call_meets F.slot_tuple_mul ⟨_, ho, rfl⟩ F.entry_tuple_mul (F.args_tuple_mul_2 _ _) (tuple_mul1 l its.toArray n dd sl t) ⟨ho, ⟨.ref l, H, I, rfl, q1 rfl⟩⟩⟩)
  · exact op_repT pins s σ H (.ref l) (.int k) v u Q I rx ry ⟨l, k, xs, rfl, rfl, hT, hne, by omega, h2, hz, q2 (by omega)⟩
end TM

set_option Elab.async false
set_option linter.all false
set_option maxRecDepth 100000
set_option maxHeartbeats 1000000
/-! Kinds of values that stand in a heap. -/
namespace K02
open PySem PySem.Spec L2
open PyProof.Rows GenW GxR EZ TK
open LamX (ExtN)
def atomV : V → Bool
  | .non => true
  | .bl _ => true
  | .int _ => true
  | .str _ => true
  | _ => false
/-! ### types -/
section
variable {K : PySem.W.Frag} {H : Hp}
theorem ty_non : Ty1 K H .non "NoneType" := ⟨.base .non, by decide⟩
theorem ty_int (i : Int) : Ty1 K H (.int i) "int" := ⟨.base (.int i), by decide⟩
theorem ty_bl (b : Bool) : Ty1 K H (.bl b) "bool" := ⟨.base (.bl b), by decide⟩
theorem ty_str (z : Str) : Ty1 K H (.str z) "str" := ⟨.base (.str z), by decide⟩
theorem ty_tup {a : Addr} {xs : List V} (h : H a = some (.tup xs)) : Ty1 K H (.ref a) "tuple" := ⟨.base (.tup h), by decide⟩
theorem ty_lst {a : Addr} {xs : List V} (h : H a = some (.lst xs)) : Ty1 K H (.ref a) "list" := ⟨.base (.lst h), by decide⟩
theorem ty_dT {a : Addr} {xs : List (List L2.Key × V)} (h : H a = some (.dT xs)) : Ty1 K H (.ref a) "dict" := ⟨.base (.dT h), by decide⟩
theorem ty_rd (r : Option Bool) : ∃ t, Ty1 K H (rdV r) t := by
  cases r with
  | none => exact ⟨_, ty_non⟩
  | some b => exact ⟨_, ty_int _⟩
theorem bel_bitV (b : Bool) : bel (bitV b) 2 = true := by cases b <;> decide
theorem rdB_rdV (r : Option Bool) : rdB (rdV r) = true := by
  cases r with
  | none => rfl
  | some b => cases b <;> decide
variable {H' : Hp}
theorem atom_ty {y : V} (h : atomV y = true) : ∃ t, Ty1 K H y t := by
  cases y with
  | non => exact ⟨_, ty_non⟩
  | bl b => exact ⟨_, ty_bl b⟩
  | int i => exact ⟨_, ty_int i⟩
  | str z => exact ⟨_, ty_str z⟩
  | _ => cases h
theorem rep_all {α : Type} (f : α → Bool) (x : α) (n : Nat) (h : f x = true) : (List.replicate n x).all f = true := List.all_eq_true.mpr fun y hy => by
  rw [List.eq_of_mem_replicate hy]
  exact h
theorem rep_bad {α : Type} (f : α → Bool) (x : α) {n : Nat} (h : f x = false) (hn : 0 < n) : (List.replicate n x).all f = false := by
  cases n with
  | zero => cases hn
  | succ n =>
    rw [List.replicate_succ, List.all_cons, h]
    rfl
theorem repA_to {x : Addr} {v : V} {k : Int} {Q : VK} (hx : H x = some (.tup [v])) (h1 : 1 ≤ k) (h2 : k ≤ 1000) (q : ∀ p H', Same H H' → H' p = some (.tup (List.replicate k.toNat v)) → Q (.ref p) H') : TM.rRepA K (.ref x) (.int k) H Q := by
  refine ⟨x, k, [v], rfl, rfl, .inl (.inl hx), by simp, h1, h2, (by show 1 ≤ 1000; decide), fun z => ?_, fun _ p np => q p _ (same_new np) ?_⟩
  · refine q x H (fun _ _ e => e) ?_
    rw [z]
    exact hx
  · rw [upd_same, rep_one]
end
end K02

set_option Elab.async false
set_option linter.all false
set_option maxRecDepth 100000
set_option maxHeartbeats 1000000
/-! A gate's reading, as the law finds it, of a list of readings. -/
namespace K02
open PySem PySem.Spec L2
open PyProof.Rows GenW GxR EZ
open LamX (ExtN)
section
variable {P : Program} {w : World} {K : PySem.W.Frag} {mg : Str → Option Value} {base : Heap}
def spLRL (K : PySem.W.Frag) : Sp := fun vs H Q _ => ∃ (a b : Addr) (tb : List Bool) (rs : List (Option Bool)), vs = [.ref a, .ref b] ∧ SqT K H a (tb.map bitV) ∧ SqL K H b (rs.map rdV) ∧ rs.length ≤ 4 ∧ tb.length = 2 ^ rs.length ∧ ∀ H', Same H H' → Q (rdV (gateR tb rs)) H'
theorem ok_LRL {f fA fG : Addr} {fd fdA fdG : FuncData} (F : Fun K "_law_gate_reading" "_law_gate_reading" sLawReading f fd) (me : mg "enumerate" = none) (ml : mg "len" = none) (mli : mg "list" = none) (mz : mg "zip" = none) (mmin : mg "min" = none) (mmax : mg "max" = none)
    (GA : FnOk P w K mg base CX0 3 fA fdA ["size"] spAllBits) (kA : PySem.W.keepIn K (.ref fA) = true) (bA : Binds K fdA ["size"] []) (mA : mg "_law_all_bits" = some (.ref fA))
    (GG : FnOk P w K mg base CX0 2 fG fdG ["table", "bits"] (spGateBit K)) (kG : PySem.W.keepIn K (.ref fG) = true) (bG : Binds K fdG ["table", "bits"] []) (mG : mg "_law_gate_bit" = some (.ref fG)) :
    FnOk P w K mg base CX0 4 f fd ["table", "readings"] (spLRL K) := by
  refine F.ok scLR (fun vs H Q E h => ?_) (fun cdv A outer s H vs Q E hr h => ?_)
  · obtain ⟨a, b, tb, rs, rfl, _⟩ := h
    rfl
  · obtain ⟨a, b, tb, rs, rfl, hT, hR, hl, htl, q⟩ := h
    refine ⟨_, pss_cons (ps_par (i := 2) (j := 3) rfl scLR.nd rfl rfl (by decide) rfl rfl (pa_cons (pe_lc (own := [("spot", 6), ("reading", 8)]) (g := gTup K 2 (gCons (gName 6) (gCons (gName 8) gNil))) rfl scLR.nd (pi_enum (by rfl) me (pa_cons (pv 1) pa_nil)) (blkOk_by (N := nLR) (sc := defScope sLawReading) (by decide +kernel))
        (fun _ _ _ _ _ => pg_tup rfl (pgs_cons (pg_name (i := 6) scLR.nd rfl (Or.inl rfl)) (pgs_cons (pg_name (i := 8) scLR.nd rfl (Or.inl rfl)) pgs_nil))) (fun _ _ _ _ _ => pts_one (pt_cmpR op_isN (pv 8) pe_non (nomark _))) (fun _ _ _ _ _ => pv 6)) (pa_cons (pe_lst pa_nil) pa_nil)) (by rfl))
      (pss_cons (ps_for PassesOwn.never rfl (pi_list (pe_call GA hr (by rfl) mA kA bA .nil pass0 (pa_cons (pe_callB call_len_seq (by rfl) ml PySem.boot_len (pa_cons (pv 2) pa_nil)) pa_nil))) (pg_name (i := 4) scLR.nd rfl (Or.inl rfl))
        (pss_cons (ps_set (i := 5) scLR.nd rfl (Or.inl rfl) (pe_callTy call_list_of (by rfl) mli (by decide +kernel) (pa_cons (pv 1) pa_nil)))
        (pss_cons (ps_for PassesOwn.never rfl (pi_zipLT (by rfl) mz (pa_cons (pv 2) (pa_cons (pv 4) pa_nil))) (pg_tup rfl (pgs_cons (pg_name (i := 6) scLR.nd rfl (Or.inl rfl)) (pgs_cons (pg_name (i := 7) scLR.nd rfl (Or.inl rfl)) pgs_nil)))
          (pss_one (ps_asg (pv 7) (pg_sub (pv 5) (pv 6) set_list))))
        (pss_one (ps_expr (pe_bm PySem.F.plainAttrs_list PySem.F.slot_list_append PySem.F.type_list_append mt_append (pv 3) (pa_cons (pe_call GG (hr.mono (by decide)) (by rfl) mG kG bG .nil pass0 (pa_cons (pv 0) (pa_cons (pv 5) pa_nil))) pa_nil)))))))
      (pss_one (ps_ret (pe_ifExp (pt_cmpR op_eq (pe_callB (cr_min rfl) (by rfl) mmin (by decide +kernel) (pa_cons (pv 3) pa_nil)) (pe_callB (cr_max rfl) (by rfl) mmax (by decide +kernel) (pa_cons (pv 3) pa_nil)) (nomark _)) (pe_ix ix_list (pv 3) pe_int (fun _ _ => rfl)) pe_non)))), ?_⟩
    -- open_spots, told = [..], []
    refine ⟨_, rfl, b, rs.map rdV, rfl, hR, fun D nD => ?_⟩
    refine lc_it walk_enum (fun i H1 => Same H H1 ∧ H1 D = some (.lst (natV (spotsF (rs.take i))))) ⟨same_new nD, upd_same⟩ (fun i H1 _ z => extN_seqL (extN_same z.1) hR) (fun i x H1 H2 hi ⟨s1, e1⟩ hy => ?_) (fun H1 ⟨s1, e1⟩ => ?_)
    · obtain ⟨T, x1, y1, rfl, nT, rfl, hx, hy⟩ := hy
      cases hx
      have hy : (rs.map rdV)[i]? = some y1 := hy
      rw [List.getElem?_map] at hy
      obtain ⟨r, hr1, rfl⟩ := Option.map_eq_some_iff.mp hy
      have hir : i < rs.length := (List.getElem?_eq_some_iff.mp hr1).1
      have hlen : (rs.take i).length = i := by
        rw [List.length_take]
        omega
      have s2 := same_new (o := .tup [.int (i : Nat), rdV r]) nT
      have nDT : D ≠ T := fun z => by
        rw [z, nT] at e1
        cases e1
      have hsn := spotsF_snoc (rs.take i) r
      refine ⟨T, _, rfl, .inl (.inl upd_same), rfl, _, _, rfl, _, _, rfl, rfl, rfl, _, rfl, rfl, ?_⟩
      refine ⟨_, rfl, ?_⟩
      rw [rdV_non]
      cases r with
      | none =>
        have hsn : spotsF (rs.take i ++ [none]) = spotsF (rs.take i) ++ [(rs.take i).length] := hsn
        refine iteT ⟨_, rfl, natV (spotsF (rs.take i)), ?_, ?_, fun b' o e => ?_, ?_⟩
        · rw [upd_ne nDT]
          exact e1
        · rw [natV_len]
          have := spotsF_len (rs.take i)
          exact small1000 (by omega)
        · rw [upd_ne (ne_of_none e nD)]
          exact s2 _ _ (s1 _ _ e)
        · rw [upd_same, take_snoc hr1, hsn, hlen, natV_app]
          rfl
      | some c =>
        have hsn : spotsF (rs.take i ++ [some c]) = spotsF (rs.take i) := hsn
        refine iteF ⟨fun b' o e => s2 _ _ (s1 _ _ e), ?_⟩
        rw [take_snoc hr1, hsn, upd_ne nDT]
        exact e1
    · have e1' : H1 D = some (.lst (natV (spotsF rs))) := by
        rw [List.length_map, List.take_length] at e1
        exact e1
      clear e1
      have hsl : (spotsF rs).length ≤ 4 := Nat.le_trans (spotsF_len rs) hl
      refine ⟨Nat.zero_le _, fun L nL => ⟨_, _, rfl, ?_⟩⟩
      have s2 : Same H (upd H1 L (.lst [])) := s1.trans (same_new nL)
      have hLD : L ≠ D := fun z => by
        rw [z, e1'] at nL
        cases nL
      have e2 : upd H1 L (.lst []) D = some (.lst (natV (spotsF rs))) := by
        rw [upd_ne hLD.symm]
        exact e1'
      refine ⟨_, rfl, D, _, rfl, .inl (.inl (.inl e2)), (spotsF rs).length, by rw [natV_len]; rfl, hsl, fun l ys H3 s3 nl e3 A3 => ?_⟩
      obtain ⟨bss, lb, hbss⟩ := bss_of A3.all
      have e3L : H3 L = some (.lst []) := s3 _ _ upd_same
      have hD3 : SqL K H3 D (natV (spotsF rs)) := .inl (.inl (s3 _ _ e2))
      have s03 : Same H H3 := s2.trans s3
      have nlL : l ≠ L := fun z => by
        rw [z, upd_same] at nl
        cases nl
      have bl : bss.length ≤ 16 := by
        rw [lb, A3.len]
        exact pow16 hsl
      generalize hf : (fun bs : List Bool => tb.getD (idx (fillV rs bs)) false) = bitOf
      -- what stands but told
      have offL : ∀ c o, H c = some o → c ≠ L := fun c o e => ne_of_none (s1 _ _ e) nL
      refine ⟨l, rfl, ⟨ys, .inl (.inl e3)⟩, for_list (fun i σ Hx => ∃ y4 y5 y6 y7 : Option V, σ = [some (.ref a), some (.ref b), some (.ref D), some (.ref L), y4, y5, y6, y7, none] ∧ (∀ c o, c ≠ L → H3 c = some o → Hx c = some o) ∧ Hx L = some (.lst (((bss.take i).map bitOf).map bitV)))
        ⟨none, none, none, none, rfl, fun _ _ _ e => e, e3L⟩ (fun i σ Hx _ ⟨_, _, _, _, _, k, _⟩ => .inl (.inl (k _ _ nlL e3))) (fun i x σ Hx hx ⟨y4, y5, y6, y7, eσ, kx, eL⟩ => ?_) (fun σ Hx ⟨y4, y5, y6, y7, eσ, kx, eL⟩ => ?_)⟩
      · subst eσ
        obtain ⟨bs, hbi, ⟨t, rfl, et⟩, lbs⟩ := hbss i x hx
        have tL : t ≠ L := fun z => by
          rw [z, e3L] at et
          cases et
        refine ⟨_, rfl, b, rs.map rdV, rfl, .inl ?_, fun F nF => ?_⟩
        · exact extN_seqL (fun c o e _ => kx c o (offL c o e) (s03 _ _ e)) hR
        have k4 : ∀ c o, c ≠ L → H3 c = some o → upd Hx F (.lst (rs.map rdV)) c = some o := fun c o n e => by
          have z := kx c o n e
          rw [upd_ne (ne_of_none z nF)]
          exact z
        have FL : F ≠ L := fun z => by
          rw [z, eL] at nF
          cases nF
        have DL : D ≠ L := hLD.symm
        have FD : F ≠ D := fun z => by
          have w := kx D _ DL (s3 _ _ e2)
          rw [← z, nF] at w
          cases w
        have Ft : F ≠ t := fun z => by
          have w := kx t _ tL et
          rw [← z, nF] at w
          cases w
        refine ⟨_, rfl, _, rfl, D, t, natV (spotsF rs), bs.map bitV, rfl, .inl (.inl (k4 _ _ DL (s3 _ _ e2))), .inl (.inl (k4 _ _ tL et)), by rw [natV_len, List.length_map, lbs], ?_⟩
        refine for_it walk_zipLT (fun j σ Hy => ∃ y6 y7 : Option V, σ = [some (.ref a), some (.ref b), some (.ref D), some (.ref L), some (.ref t), some (.ref F), y6, y7, none] ∧ (∀ c o, c ≠ F → upd Hx F (.lst (rs.map rdV)) c = some o → Hy c = some o) ∧ Hy F = some (.lst ((setN rs (((spotsF rs).zip bs).take j)).map rdV)))
          ⟨y6, y7, rfl, fun _ _ _ e => e, upd_same⟩ (fun j σ Hy _ ⟨_, _, _, ky, _⟩ => ⟨.inl (.inl (ky _ _ FD.symm (k4 _ _ DL (s3 _ _ e2)))), .inl (.inl (ky _ _ Ft.symm (k4 _ _ tL et)))⟩) (fun j x σ Hy Hz hj ⟨y6', y7', eσ, ky, eF⟩ hy => ?_) (fun σ Hy ⟨y6', y7', eσ, ky, eF⟩ => ?_)
        · subst eσ
          obtain ⟨T, x1, y1, rfl, nT, rfl, hx1, hy1⟩ := hy
          obtain ⟨p, hp, rfl⟩ := natV_get hx1
          have hy1 : (bs.map bitV)[j]? = some y1 := hy1
          rw [List.getElem?_map] at hy1
          obtain ⟨c, hc, rfl⟩ := Option.map_eq_some_iff.mp hy1
          have hz : ((spotsF rs).zip bs)[j]? = some (p, c) := List.getElem?_zip_eq_some.mpr ⟨hp, hc⟩
          have hpl : p < rs.length := spotsF_lt rs p (List.mem_of_getElem? hp)
          have FT : F ≠ T := fun z => by
            rw [z, nT] at eF
            cases eF
          refine ⟨T, _, rfl, .inl (.inl upd_same), rfl, _, _, rfl, _, _, rfl, rfl, ?_⟩
          refine ⟨_, rfl, _, rfl, _, rfl, F, (setN rs (((spotsF rs).zip bs).take j)).map rdV, (p : Int), p, rfl, rfl, ?_, ?_, some (.int (p : Int)), some (bitV c), rfl, fun d o n e => ?_, ?_⟩
          · rw [upd_ne FT]
            exact eF
          · have hpn : p < ((setN rs (((spotsF rs).zip bs).take j)).map rdV).length := by
              rw [List.length_map, setN_len]
              exact hpl
            unfold ixN
            rw [if_pos (Int.natCast_nonneg _), if_pos (Int.ofNat_lt.mpr hpn), Int.toNat_natCast]
          · have z := ky d o n e
            rw [upd_ne n, upd_ne (ne_of_none z nT)]
            exact z
          · rw [upd_same, take_snoc hz, setN_snoc, List.map_set]
            rfl
        · subst eσ
          have hzl : ((spotsF rs).zip bs).length = (natV (spotsF rs)).length := by
            rw [List.length_zip, natV_len, lbs, Nat.min_self]
          rw [← hzl, List.take_length, (fillV_comp lbs).2] at eF
          have kz : ∀ c o, c ≠ L → H3 c = some o → Hy c = some o := fun c o n e => ky c o (fun z => by
            have w := kx c o n e
            rw [z, nF] at w
            cases w) (k4 c o n e)
          have hlen : (fillV rs bs).length = rs.length := (fillV_comp lbs).1.length
          refine ⟨_, rfl, ?_, _, rfl, _, rfl, a, F, tb, fillV rs bs, rfl, ?_, .inl (.inl eF), by rw [hlen]; exact hl, by rw [hlen]; exact htl, fun H' s' => ⟨L, ((bss.take i).map bitOf).map bitV, _, rfl, rfl, ?_, ?_, ?_⟩⟩
          · refine .inl ⟨rfl, ((bss.take i).map bitOf).map bitV, .inl (.inl (ky L _ FL.symm ?_))⟩
            rw [upd_ne FL.symm]
            exact eL
          · exact extN_seqT (fun c o e _ => kz c o (offL c o e) (s03 _ _ e)) hT
          · refine s' _ _ (ky L _ FL.symm ?_)
            rw [upd_ne FL.symm]
            exact eL
          · rw [List.length_map, List.length_map, List.length_take]
            exact small1000 (by omega)
          · refine ⟨some (.ref t), some (.ref F), y6', y7', rfl, fun c o n e => ?_, ?_⟩
            · rw [upd_ne n]
              exact s' _ _ (kz c o n e)
            · rw [upd_same, take_snoc hbi, List.map_append, List.map_append, ← hf]
              rfl
      · subst eσ
        have e : Hx L = some (.lst ((bss.map bitOf).map bitV)) := by
          have hyl : ys.length = bss.length := lb.symm
          rw [hyl, List.take_length] at eL
          exact eL
        have hone : one (bss.map bitOf) = gateR tb rs := by
          rw [← hf]
          refine gate_all (fun bs hb => ?_) (fun bs hl => ?_)
          · obtain ⟨i, hi⟩ := List.getElem?_of_mem hb
            have hiy : i < ys.length := by
              rw [← lb]
              exact (List.getElem?_eq_some_iff.mp hi).1
            obtain ⟨bs', h1, _, h3⟩ := hbss i _ (List.getElem?_eq_getElem hiy)
            rw [hi] at h1
            cases h1
            exact h3
          · obtain ⟨y, hy, g⟩ := A3.each bs hl
            obtain ⟨i, hi⟩ := List.getElem?_of_mem hy
            obtain ⟨bs', h1, g', _⟩ := hbss i y hi
            rw [g.inj g']
            exact List.mem_of_getElem? h1
        generalize hLL : bss.map bitOf = LL at e hone
        have hD : SqL K Hx L ((LL.map bitZ).map V.int) := by
          refine .inl (.inl ?_)
          rw [e, List.map_map]
          rfl
        have hpos : 0 < (LL.map bitZ).length := by
          rw [List.length_map, ← hLL, List.length_map, lb, A3.len]
          exact Nat.two_pow_pos _
        have sx : Same H Hx := fun c o e => kx c o (offL c o e) (s03 _ _ e)
        refine ⟨_, rfl, L, _, rfl, hD, hpos, fun lo l1 l2 => ⟨_, rfl, L, _, rfl, hD, hpos, fun hi h1 h2 => ⟨rfl, _, rfl, ite2 (fun hc => ?_) (fun hc => ?_)⟩⟩⟩
        · obtain ⟨b', r, el, eo⟩ := (minmax_one l1 l2 h1 h2).1 (V.int.inj (of_decide_eq_true hc))
          have z := q Hx sx
          rw [← hone, eo] at z
          refine ⟨_, rfl, L, _, 0, bitV b', rfl, rfl, hD, ?_, z⟩
          rw [el]
          exact atI_nat (j := 0) rfl
        · have eo := (minmax_one l1 l2 h1 h2).2 fun z => hc (decide_eq_true (congrArg V.int z))
          have z := q Hx sx
          rw [← hone, eo] at z
          exact z
end
end K02

set_option Elab.async false
set_option linter.all false
set_option maxRecDepth 100000
set_option maxHeartbeats 1000000
/-! What stands between the turns of a law: the state of the draws, the tables. -/
namespace K02
open PySem PySem.Spec L2
open PyProof.Rows GenW GxR EZ TK CE LamX
theorem catA_to {K : PySem.W.Frag} {H : Hp} {x y : Addr} {xs ys : List V} {Q : VK} (hx : H x = some (.tup xs)) (hy : H y = some (.tup ys)) (hl : xs.length + ys.length ≤ 1000) (q : ∀ p H', Same H H' → H' p = some (.tup (xs ++ ys)) → Q (.ref p) H') : rCatA K (.ref x) (.ref y) H Q := by
  refine ⟨x, y, xs, ys, rfl, rfl, .inl (.inl hx), .inl (.inl hy), Nat.le_of_lt (small1000 hl), fun z => ?_, fun _ z => ?_, fun _ _ p np => q p _ (same_new np) upd_same⟩
  · refine q y H (fun _ _ e => e) ?_
    rw [z]
    exact hy
  · refine q x H (fun _ _ e => e) ?_
    rw [z, List.append_nil]
    exact hx
/-- the name of the law's lambdas -/
abbrev lawQ : Str := ("law" ++ ".<locals>.") ++ "<lambda>"
/-- the heap without what the draws write -/
def hid (st lg : Addr) (H : Hp) : Hp := fun b => if b = st ∨ b = lg then none else H b
theorem hid_at {st lg b : Addr} {H : Hp} (n1 : b ≠ st) (n2 : b ≠ lg) : hid st lg H b = H b := by
  unfold hid
  rw [if_neg (by rintro (z | z); exact n1 z; exact n2 z)]
theorem hid_tup {st lg cl b : Addr} {H : Hp} {t : Nat} {xs : List V} (S : StOk H st lg cl t) (e : H b = some (.tup xs)) : hid st lg H b = some (.tup xs) := by
  obtain ⟨ls, cs, left, turn, S⟩ := S
  rw [hid_at (fun z => by rw [z, S.d] at e; cases e) (fun z => by rw [z, S.l] at e; cases e)]
  exact e
theorem hid_ext {st lg : Addr} {H H' : Hp} (U : But st lg H H') : ExtN (hid st lg H) H' := fun b o e _ => by
  unfold hid at e
  by_cases h : b = st ∨ b = lg
  · rw [if_pos h] at e
    cases e
  · rw [if_neg h] at e
    exact U b o e (fun z => h (.inl z)) (fun z => h (.inr z))
/-- what stands between the turns -/
structure Between (st lg cl Pl : Addr) (TT : List Addr) (H : Hp) (t : Nat) : Prop where
  s : StOk H st lg cl t
  tt : TabsG TT H
  tl : LamX.TabS H Pl lawQ
theorem Between.same {st lg cl Pl : Addr} {TT : List Addr} {H H' : Hp} {t : Nat} (B : Between st lg cl Pl TT H t) (k : Same H H') : Between st lg cl Pl TT H' t := ⟨B.s.keep k, (Ex.same k).tabs B.tt, B.tl.ext k⟩
theorem codeO_st {c : Addr} {q : Str} : (∀ kvs, CodeO c q ≠ .dK kvs) ∧ ∀ xs, CodeO c q ≠ .lst xs := by
  unfold CodeO
  exact ⟨fun _ z => (by cases z), fun _ z => (by cases z)⟩
theorem But.keepO {st lg cl : Addr} {H H' : Hp} {t : Nat} {b : Addr} {o : HO} (U : But st lg H H') (S : StOk H st lg cl t) (e : H b = some o) (n1 : ∀ kvs, o ≠ .dK kvs) (n2 : ∀ xs, o ≠ .lst xs) : H' b = some o := by
  obtain ⟨ls, cs, left, turn, S⟩ := S
  refine U b o e (fun z => ?_) (fun z => ?_)
  · rw [z, S.d] at e
    exact n1 _ (Option.some.inj e).symm
  · rw [z, S.l] at e
    exact n2 _ (Option.some.inj e).symm
theorem Between.but {st lg cl Pl : Addr} {TT : List Addr} {H H' : Hp} {t t' : Nat} (B : Between st lg cl Pl TT H t) (S' : StOk H' st lg cl t') (U : But st lg H H') : Between st lg cl Pl TT H' t' := by
  refine ⟨S', fun P hP => ?_, ?_⟩
  · obtain ⟨ps, e, r⟩ := B.tt P hP
    exact ⟨ps, U.keepO B.s e (fun _ z => by cases z) (fun _ z => by cases z), r⟩
  · obtain ⟨ps, e, r, ce⟩ := B.tl
    refine ⟨ps, U.keepO B.s e (fun _ z => by cases z) (fun _ z => by cases z), r, fun pos cv h => ?_⟩
    obtain ⟨c, e1, e2⟩ := ce pos cv h
    exact ⟨c, e1, U.keepO B.s e2 codeO_st.1 codeO_st.2⟩
/-- all but d and the tables TT is as it was -/
def FR (d : Addr) (TT : List Addr) (H H' : Hp) : Prop := ∀ b o, b ≠ d → b ∉ TT → H b = some o → H' b = some o
theorem FR.refl (d : Addr) (TT : List Addr) (H : Hp) : FR d TT H H := fun _ _ _ _ e => e
theorem FR.same {d : Addr} {TT : List Addr} {H H1 H2 : Hp} (a : FR d TT H H1) (k : Same H1 H2) : FR d TT H H2 := fun b o n m e => k _ _ (a b o n m e)
theorem FR.ex {d : Addr} {TT : List Addr} {H H1 H2 : Hp} (a : FR d TT H H1) (k : Ex TT H1 H2) : FR d TT H H2 := fun b o n m e => k.keep _ _ m (a b o n m e)
theorem FR.upd {d : Addr} {TT : List Addr} {H H1 : Hp} {o : HO} (a : FR d TT H H1) : FR d TT H (upd H1 d o) := fun b x n m e => by
  rw [upd_ne n]
  exact a b x n m e
theorem notTT {TT : List Addr} {H : Hp} (t : TabsG TT H) {b : Addr} {o : HO} (e : H b = some o) (n : ∀ ps, o ≠ .tbl ps) : b ∉ TT := fun z => by
  obtain ⟨ps, g, _⟩ := t b z
  rw [g] at e
  exact n ps (Option.some.inj e).symm
theorem Between.fr {st lg cl Pl d : Addr} {TT : List Addr} {H0 H H' : Hp} {t : Nat} (B : Between st lg cl Pl TT H t) (hPT : Pl ∉ TT) (k0 : ∀ b o, H0 b = some o → H b = some o) (B0 : Between st lg cl Pl TT H0 t) (nd : H0 d = none) (F : FR d TT H H') (T : TabsG TT H') : Between st lg cl Pl TT H' t := by
  have key : ∀ b o, H0 b = some o → (∀ ps, o ≠ .tbl ps) → H' b = some o := fun b o e n => F b o (fun z => by rw [z, nd] at e; cases e) (notTT B0.tt e n) (k0 _ _ e)
  refine ⟨?_, T, ?_⟩
  · obtain ⟨ls, cs, left, turn, S⟩ := B0.s
    exact ⟨ls, cs, left, turn, key _ _ S.d (fun _ z => by cases z), key _ _ S.l (fun _ z => by cases z), key _ _ S.c (fun _ z => by cases z), S.lp, S.l0, S.t0, S.tt, S.ll, S.cc, S.ne⟩
  · obtain ⟨ps, e, r, ce⟩ := B0.tl
    refine ⟨ps, F Pl _ (fun z => by rw [z, nd] at e; cases e) hPT (k0 _ _ e), r, fun pos cv h => ?_⟩
    obtain ⟨c, e1, e2⟩ := ce pos cv h
    exact ⟨c, e1, key _ _ e2 (fun ps => codeO_ne ps)⟩
theorem Between.lam {st lg cl Pl ad : Addr} {TT : List Addr} {H H3 H4 : Hp} {t : Nat} {o : HO} (B : Between st lg cl Pl TT H t) (hPT : Pl ∉ TT) (bp : ButP Pl H H3) (T3 : LamX.TabS H3 Pl lawQ) :
    TabsG TT H3 ∧ ExtN H H3 ∧ (Ex TT H3 H4 → H4 ad = none → Between st lg cl Pl TT (upd H4 ad o) t ∧ ExtN H (upd H4 ad o)) := by
  obtain ⟨ps, e, r, ce⟩ := B.tl
  have x3 : ExtN H H3 := fun b o' h n => bp b o' (fun z => by rw [z, e] at h; exact n _ (Option.some.inj h).symm) h
  have t3 : TabsG TT H3 := fun P hP => by
    obtain ⟨ps', e', r'⟩ := B.tt P hP
    exact ⟨ps', bp P _ (fun z => hPT (z ▸ hP)) e', r'⟩
  refine ⟨t3, x3, fun x4 nad => ?_⟩
  have x5 : ExtN H (upd H4 ad o) := fun b o' h n => by
    have z := x4.extN t3 b o' (x3 b o' h n) n
    rw [upd_ne (ne_of_none z nad)]
    exact z
  refine ⟨⟨?_, fun P hP => ?_, ?_⟩, x5⟩
  · obtain ⟨ls, cs, left, turn, S⟩ := B.s
    exact ⟨ls, cs, left, turn, x5 _ _ S.d (fun _ z => by cases z), x5 _ _ S.l (fun _ z => by cases z), x5 _ _ S.c (fun _ z => by cases z), S.lp, S.l0, S.t0, S.tt, S.ll, S.cc, S.ne⟩
  · obtain ⟨ps', e', r'⟩ := x4.tabs t3 P hP
    exact ⟨ps', by rw [upd_ne (ne_of_none e' nad)]; exact e', r'⟩
  · obtain ⟨ps3, e3, r3, ce3⟩ := T3
    have k := x4.keep _ _ hPT e3
    refine ⟨ps3, by rw [upd_ne (ne_of_none k nad)]; exact k, r3, fun pos cv h => ?_⟩
    obtain ⟨c, e1, e2⟩ := ce3 pos cv h
    have z := x4.extN t3 c _ e2 (fun ps => codeO_ne ps)
    exact ⟨c, e1, by rw [upd_ne (ne_of_none z nad)]; exact z⟩
end K02

set_option Elab.async false
set_option linter.all false
set_option maxRecDepth 100000
set_option maxHeartbeats 2000000
/-! gate_readers. -/
namespace K02
open PySem PySem.Spec L2
open PyProof.Rows GenW GxR
open LamX (ExtN)
open EZ
abbrev sGateReaders : Stmt := top 30 -- gate_readers
section
variable {P : Program} {w : World} {K : PySem.W.Frag} {mg : Str → Option Value} {base : Heap}
def leans (C : Circ) (g at_ : Nat) : Prop := ∃ gt, C.gates[g]? = some gt ∧ Src.gate at_ ∈ gt.1
theorem walk_enT {K : PySem.W.Frag} {a : Addr} {xs : List V} : Walk (IteT K a xs) xs.length (fun H => SqT K H a xs) (YPair (fun i => some (.int (i : Nat))) (fun i => xs[i]?)) :=
  ⟨fun _ _ hi q => ⟨q, hi⟩, fun _ q => ⟨q, rfl⟩, fun i H v H' _ _ ⟨T, x, h1, h2, h3, h4⟩ => ⟨T, _, x, h1, h2, h3, rfl, h4⟩⟩
def nV (ns : List Nat) : List V := ns.map fun (n : Nat) => V.int (n : Int)
/-- new lists of numbers, one each, and a list of them all at D -/
structure RS (H0 H : Hp) (D : Addr) (las : List Addr) (rd : Nat → List Nat) : Prop where
  all : H D = some (.lst (las.map .ref))
  inj : ∀ (i j : Nat) (l : Addr), las[i]? = some l → las[j]? = some l → i = j
  off : D ∉ las
  new : ∀ l ∈ las, H0 l = none
  newD : H0 D = none
  at_ : ∀ (i : Nat) (l : Addr), las[i]? = some l → H l = some (.lst (nV (rd i)))
  keep : Same H0 H
theorem RS.begin {H : Hp} {D : Addr} (nD : H D = none) : RS H (upd H D (.lst [])) D [] (fun _ => []) :=
  ⟨upd_same, fun i j l z => by simp at z, by simp, by simp, nD, fun i l z => by simp at z, same_new nD⟩
theorem RS.push {H0 H : Hp} {D L : Addr} {las : List Addr} (r : RS H0 H D las (fun _ => [])) (nL : H L = none) : RS H0 (upd (upd H L (.lst [])) D (.lst (las.map .ref ++ [.ref L]))) D (las ++ [L]) (fun _ => []) := by
  have LD : L ≠ D := fun z => by
    have := r.all
    rw [← z, nL] at this
    cases this
  have Ll : ∀ l ∈ las, l ≠ L := fun l hl z => by
    obtain ⟨i, hi⟩ := List.mem_iff_getElem?.mp hl
    have := r.at_ i l hi
    rw [z, nL] at this
    cases this
  have nL0 : H0 L = none := by
    cases e : H0 L with
    | none => rfl
    | some o =>
      rw [r.keep _ _ e] at nL
      cases nL
  have last : ∀ (i : Nat) (l : Addr), (las ++ [L])[i]? = some l → (i < las.length ∧ las[i]? = some l) ∨ (i = las.length ∧ l = L) := fun i l hi => by
    by_cases h : i < las.length
    · rw [List.getElem?_append_left h] at hi
      exact .inl ⟨h, hi⟩
    · rw [List.getElem?_append_right (by omega)] at hi
      have h0 : i - las.length = 0 := by
        by_cases h0 : i - las.length = 0
        · exact h0
        · rw [List.getElem?_eq_none (by simp; omega)] at hi
          cases hi
      rw [h0] at hi
      cases hi
      exact .inr ⟨by omega, rfl⟩
  refine ⟨by rw [upd_same, List.map_append]; rfl, fun i j l hi hj => ?_, fun z => ?_, fun l hl => ?_, r.newD, fun i l hi => ?_, fun b o e => ?_⟩
  · rcases last i l hi with ⟨a1, a2⟩ | ⟨a1, a2⟩ <;> rcases last j l hj with ⟨b1, b2⟩ | ⟨b1, b2⟩
    · exact r.inj i j l a2 b2
    · exact absurd b2 (Ll l (List.mem_of_getElem? a2))
    · exact absurd a2 (Ll l (List.mem_of_getElem? b2))
    · omega
  · rcases List.mem_append.mp z with z | z
    · exact r.off z
    · exact LD (List.mem_singleton.mp z).symm
  · rcases List.mem_append.mp hl with z | z
    · exact r.new l z
    · rw [List.mem_singleton.mp z]
      exact nL0
  · rcases last i l hi with ⟨a1, a2⟩ | ⟨a1, a2⟩
    · have m := List.mem_of_getElem? a2
      rw [upd_ne (fun z => r.off (by rw [← z]; exact m)), upd_ne (Ll l m)]
      exact r.at_ i l a2
    · rw [a2, upd_ne LD, upd_same]
      rfl
  · have b1 : b ≠ D := ne_of_none e r.newD
    have b2 : b ≠ L := ne_of_none e nL0
    rw [upd_ne b1, upd_ne b2]
    exact r.keep _ _ e
theorem RS.same {H0 H H' : Hp} {D : Addr} {las : List Addr} {rd : Nat → List Nat} (r : RS H0 H D las rd) (s : Same H H') : RS H0 H' D las rd :=
  ⟨s _ _ r.all, r.inj, r.off, r.new, r.newD, fun i l hi => s _ _ (r.at_ i l hi), r.keep.trans s⟩
theorem RS.add {H0 H : Hp} {D l : Addr} {las : List Addr} {rd : Nat → List Nat} {k g : Nat} (r : RS H0 H D las rd) (hl : las[k]? = some l) : RS H0 (upd H l (.lst (nV (rd k) ++ [.int (g : Int)]))) D las (fun j => if j = k then rd k ++ [g] else rd j) := by
  have m := List.mem_of_getElem? hl
  have Dl : D ≠ l := fun z => r.off (z ▸ m)
  refine ⟨by rw [upd_ne Dl]; exact r.all, r.inj, r.off, r.new, r.newD, fun i l' hi => ?_, fun b o e => ?_⟩
  · by_cases h : i = k
    · subst h
      rw [hl] at hi
      cases hi
      rw [upd_same, if_pos rfl]
      unfold nV
      rw [List.map_append]
      rfl
    · rw [if_neg h, upd_ne (fun z => h (r.inj i k l (by rw [← z]; exact hi) hl))]
      exact r.at_ i l' hi
  · rw [upd_ne (ne_of_none e (r.new l m))]
    exact r.keep _ _ e
/-- how many readers these gates have -/
def tot (rd : Nat → List Nat) (ks : List Nat) : Nat := (ks.map fun k => (rd k).length).sum
theorem tot_other {rd : Nat → List Nat} {k g : Nat} : ∀ {ks : List Nat}, k ∉ ks → tot (fun j => if j = k then rd k ++ [g] else rd j) ks = tot rd ks
  | [], _ => rfl
  | a :: r, h => by
    have ne : a ≠ k := fun z => h (by rw [z]; exact List.mem_cons_self)
    have ih := tot_other (rd := rd) (k := k) (g := g) (ks := r) fun z => h (List.mem_cons_of_mem _ z)
    unfold tot at ih ⊢
    rw [List.map_cons, List.map_cons, List.sum_cons, List.sum_cons, ih]
    simp only [if_neg ne]
theorem tot_add {rd : Nat → List Nat} {k g : Nat} : ∀ {ks : List Nat}, ks.Nodup → tot (fun j => if j = k then rd k ++ [g] else rd j) ks ≤ tot rd ks + 1
  | [], _ => Nat.zero_le _
  | a :: r, h => by
    obtain ⟨h1, h2⟩ := List.nodup_cons.mp h
    by_cases e : a = k
    · have ih := tot_other (rd := rd) (k := k) (g := g) (ks := r) (by rw [← e]; exact h1)
      unfold tot at ih ⊢
      rw [List.map_cons, List.map_cons, List.sum_cons, List.sum_cons, ih]
      simp only [if_pos e, List.length_append, List.length_cons, List.length_nil]
      rw [e]
      omega
    · have ih := tot_add (rd := rd) (k := k) (g := g) (ks := r) h2
      unfold tot at ih ⊢
      rw [List.map_cons, List.map_cons, List.sum_cons, List.sum_cons]
      show (if a = k then rd k ++ [g] else rd a).length + _ ≤ _
      rw [if_neg e]
      omega
def fanG (gs : List Gate) : Nat := (gs.map fun g => g.1.length).sum
theorem fan_snoc {gs : List Gate} {i : Nat} {g : Gate} (h : gs[i]? = some g) : fanG (gs.take (i + 1)) = fanG (gs.take i) + g.1.length := by
  unfold fanG
  rw [take_snoc h, List.map_append, List.sum_append, List.map_cons, List.map_nil, List.sum_cons, List.sum_nil, Nat.add_zero]
def spReadersG : Sp := fun vs H Q _ => ∃ (y : V) (C : Circ), vs = [y] ∧ CircAt H y C ∧ C.ok ∧ ∀ (r : Addr) (las : List Addr) (rd : Nat → List Nat) (H' : Hp), RS H H' r las rd → las.length = C.gates.length → (∀ k g, g ∈ rd k ↔ leans C g k) → (∀ k, (rd k).length ≤ 8000) → (∀ ks : List Nat, ks.Nodup → tot rd ks ≤ fanG C.gates) → Q (.ref r) H'
theorem scReadersG : FnScope ["circuit", "readers", "gate", "sources", "_", "kind", "at"] ["circuit"] (defScope sGateReaders) := ⟨rfl, rfl, rfl, by decide +kernel, rfl, by decide +kernel, by decide +kernel⟩
theorem ok_readersG {f : Addr} {fd : FuncData} (F : Fun K "gate_readers" "gate_readers" sGateReaders f fd) (men : mg "enumerate" = none) : FnOk P w K mg base CX0 1 f fd ["circuit"] spReadersG := by
  refine F.ok scReadersG (fun vs H Q E h => ?_) (fun cdv A outer s H vs Q E hr h => ?_)
  · obtain ⟨y, C, rfl, _⟩ := h
    rfl
  · obtain ⟨y, C, rfl, ⟨t, ra, gaa, oa, rs, gs, os, rfl, et, er, eg, eo, hrs, hgs, hos⟩, ok, q⟩ := h
    refine ⟨_, pss_cons (ps_setLc (i := 1) (own := [("_", 4)]) (g := gName 4) (tt := tYes) rfl scReadersG.nd rfl rfl (sw_true rfl rfl rfl (by decide +kernel)) (pi_tup (pe_ix (r := rIxT K) ix_tup (pv 0) pe_int (fun _ _ => rfl))) (blkOk_by (N := ["circuit", "readers", "gate", "sources", "_", "kind", "at"]) (sc := defScope sGateReaders) (by decide +kernel))
        (fun _ _ _ _ _ => pg_name (i := 4) scReadersG.nd rfl (Or.inl rfl)) (fun _ _ _ _ _ => pts_nil) (fun _ _ _ _ _ => pe_lst pa_nil))
      (pss_cons (ps_for PassesOwn.never rfl (pi_enumT (by rfl) men (pa_cons (pe_ix (r := rIxT K) ix_tup (pv 0) pe_int (fun _ _ => rfl)) pa_nil)) (pg_tup rfl (pgs_cons (pg_name (i := 2) scReadersG.nd rfl (Or.inl rfl)) (pgs_cons (pg_tup rfl (pgs_cons (pg_name (i := 3) scReadersG.nd rfl (Or.inl rfl)) (pgs_cons (pg_name (i := 4) scReadersG.nd rfl (Or.inl rfl)) pgs_nil))) pgs_nil)))
        (pss_one (ps_for PassesOwn.never rfl (pi_tup (pv 3)) (pg_tup rfl (pgs_cons (pg_name (i := 5) scReadersG.nd rfl (Or.inl rfl)) (pgs_cons (pg_name (i := 6) scReadersG.nd rfl (Or.inl rfl)) pgs_nil)))
          (pss_one (ps_if (pt_cmpR op_eq (pv 5) pe_str (nomark _)) (pss_one (ps_expr (pe_bm PySem.F.plainAttrs_list PySem.F.slot_list_append PySem.F.type_list_append mt_append (pe_ix (r := rIxL K) ix_list (pv 1) (pv 6) (fun _ _ => rfl)) (pa_cons (pv 2) pa_nil)))) pss_nil)))))
      (pss_one (ps_ret (pv 1)))), ?_⟩
    refine ⟨_, rfl, t, _, 2, .ref gaa, rfl, rfl, .inl (.inl et), rfl, gaa, rfl, ⟨_, .inl (.inl eg)⟩, fun D nD => ?_⟩
    have lg : gs.length = C.gates.length := Paired.length hgs
    have k3 := ok.ng
    refine lc_tup (fun i H' => ∃ las : List Addr, las.length = i ∧ RS H H' D las (fun _ => [])) ⟨[], rfl, RS.begin nD⟩ (fun i H' _ ⟨las, _, r⟩ => .inl (.inl (r.keep _ _ eg))) (fun i x H' hx ⟨las, ll, r⟩ => ?_) (fun H' ⟨las, ll, r⟩ => ?_)
    · refine ⟨rfl, Nat.zero_le _, fun L nL => ⟨las.map .ref, ?_, ?_, las ++ [L], by rw [List.length_append, ll]; rfl, r.push nL⟩⟩
      · rw [upd_ne (fun z => by
          have := r.all
          rw [z, nL] at this
          cases this)]
        exact r.all
      · have hi : i < gs.length := (List.getElem?_eq_some_iff.mp hx).1
        rw [List.length_map, ll, sizeLine_eq]
        omega
    · -- the gates, one by one
      rw [lg] at ll
      refine ⟨_, rfl, t, _, 2, .ref gaa, rfl, rfl, .inl (.inl (r.keep _ _ et)), rfl, gaa, gs, rfl, .inl (.inl (r.keep _ _ eg)), for_it walk_enT (fun i σ Hx => ∃ (y2 y3 y4 y5 y6 : Option V) (rd : Nat → List Nat), σ = [some (.ref t), some (.ref D), y2, y3, y4, y5, y6] ∧ RS H Hx D las rd ∧ (∀ k g, g ∈ rd k ↔ g < i ∧ leans C g k) ∧ (∀ k, (rd k).length ≤ 4 * i) ∧ ∀ ks : List Nat, ks.Nodup → tot rd ks ≤ fanG (C.gates.take i))
        ⟨none, none, none, none, none, fun _ => [], rfl, r, fun k g => by simp, fun k => Nat.le_refl _, fun ks _ => by
          have z : ∀ l : List Nat, tot (fun _ => []) l = 0 := fun l => by
            unfold tot
            induction l with
            | nil => rfl
            | cons a r ih => rw [List.map_cons, List.sum_cons, ih]; rfl
          rw [z]
          exact Nat.zero_le _⟩ (fun i σ Hx _ ⟨_, _, _, _, _, _, _, r2, _⟩ => .inl (.inl (r2.keep _ _ eg))) (fun i x σ Hx Hy hi ⟨y2, y3, y4, y5, y6, rd, eσ, r2, mem, len, few⟩ hy => ?_) (fun σ Hx ⟨y2, y3, y4, y5, y6, rd, eσ, r2, mem, len, few⟩ => ?_)⟩
      · subst eσ
        obtain ⟨T, x1, y1, rfl, nT, rfl, hx, hy⟩ := hy
        cases hx
        have hy : gs[i]? = some y1 := hy
        obtain ⟨gt, hg2, hgat⟩ := all_get hgs hy
        obtain ⟨tt, a, b, vs, rfl, ett, ea, hv2, eb⟩ := hgat
        have r3 := r2.same (same_new (o := .tup [.int (i : Nat), .ref tt]) nT)
        have l4 : gt.1.length ≤ 4 := (ok.gates gt (List.mem_of_getElem? hg2)).1
        have lv : vs.length = gt.1.length := Paired.length hv2
        have hii : i < 2000 := by omega
        have back : ∀ k g, leans C g k → g = i → Src.gate k ∈ gt.1 := fun k g z e => by
          obtain ⟨g3, e3, m3⟩ := z
          rw [e, hg2] at e3
          rw [Option.some.inj e3]
          exact m3
        refine ⟨T, _, rfl, .inl (.inl upd_same), rfl, _, _, rfl, _, _, rfl, tt, _, rfl, .inl (.inl (r3.keep _ _ ett)), rfl, _, _, rfl, _, _, rfl, rfl, rfl, ?_⟩
        refine ⟨_, rfl, a, rfl, ⟨vs, .inl (.inl (r3.keep _ _ ea))⟩, for_tup (fun j σ Hx => ∃ (y5 y6 : Option V) (rd : Nat → List Nat), σ = [some (.ref t), some (.ref D), some (.int (i : Nat)), some (.ref a), some (.ref b), y5, y6] ∧ RS H Hx D las rd ∧ (∀ k g, g ∈ rd k ↔ (g < i ∧ leans C g k) ∨ (g = i ∧ Src.gate k ∈ gt.1.take j)) ∧ (∀ k, (rd k).length ≤ 4 * i + j) ∧ ∀ ks : List Nat, ks.Nodup → tot rd ks ≤ fanG (C.gates.take i) + j)
          ⟨y5, y6, rd, rfl, r3, fun k g => by rw [mem]; simp, len, few⟩ (fun j σ Hx _ ⟨_, _, _, _, r4, _⟩ => .inl (.inl (r4.keep _ _ ea))) (fun j x σ Hz hx ⟨y5, y6, rd, eσ, r4, mem, len, few⟩ => ?_) (fun σ Hz ⟨y5, y6, rd, eσ, r4, mem, len, few⟩ => ?_)⟩
        · subst eσ
          obtain ⟨sr, hsr, t2, rfl, et2⟩ := all_get hv2 hx
          have hj : j < gt.1.length := (List.getElem?_eq_some_iff.mp hsr).1
          have tk := take_snoc hsr
          refine ⟨t2, _, rfl, .inl (.inl (r4.keep _ _ et2)), rfl, _, _, rfl, _, _, rfl, rfl, ?_⟩
          refine ⟨_, rfl, rfl, _, rfl, ?_⟩
          have other : ∀ a b : Str, ¬ a = b → decide (V.str a = V.str b) = false := fun a b h => decide_eq_false fun z => h (V.str.inj z)
          have pass : (∀ k, sr ≠ .gate k) → ∀ k g, g ∈ rd k ↔ (g < i ∧ leans C g k) ∨ (g = i ∧ Src.gate k ∈ gt.1.take (j + 1)) := fun nk k g => by
            rw [mem, tk, List.mem_append, List.mem_singleton]
            have : ¬ Src.gate k = sr := fun z => nk k z.symm
            simp [this]
          cases sr with
          | gate k =>
            show (if decide (V.str ("gate" : Str) = V.str "gate") = true then _ else _)
            rw [decide_eq_true rfl]
            have hk : k < C.gates.length := (ok.gates gt (List.mem_of_getElem? hg2)).2.2 _ (List.mem_of_getElem? hsr)
            have hkl : las[k]? = some las[k] := List.getElem?_eq_getElem (by omega)
            refine iteT ⟨_, rfl, _, rfl, D, _, (k : Int), .ref las[k], rfl, rfl, .inl (.inl r4.all), (atI_nat (v := V.ref las[k]) (by rw [List.getElem?_map, hkl]; rfl)), .inl ⟨rfl, _, .inl (.inl (r4.at_ k _ hkl))⟩, _, rfl, las[k], _, _, rfl, rfl, r4.at_ k _ hkl, ?_, _, _, _, rfl, r4.add hkl, fun k2 g => ?_, fun k2 => ?_, fun ks nd => Nat.le_trans (tot_add nd) (by have := few ks nd; omega)⟩
            · have := len k
              unfold nV
              rw [List.length_map, sizeLine_eq]
              omega
            · rw [tk, List.mem_append, List.mem_singleton]
              by_cases e : k2 = k
              · subst e
                rw [if_pos rfl, List.mem_append, List.mem_singleton, mem]
                constructor
                · rintro ((z | z) | z)
                  · exact .inl z
                  · exact .inr ⟨z.1, .inl z.2⟩
                  · exact .inr ⟨z, .inr rfl⟩
                · rintro (z | ⟨z1, z2 | z2⟩)
                  · exact .inl (.inl z)
                  · exact .inl (.inr ⟨z1, z2⟩)
                  · exact .inr z1
              · rw [if_neg e, mem]
                have : ¬ Src.gate k2 = Src.gate k := fun z => e (Src.gate.inj z)
                simp [this]
            · have := len k2
              by_cases e : k2 = k
              · rw [if_pos e, List.length_append, ← e]
                show (rd k2).length + 1 ≤ _
                omega
              · rw [if_neg e]
                omega
          | inp k =>
            show (if decide (V.str ("in" : Str) = V.str "gate") = true then _ else _)
            rw [other _ _ (by decide +kernel)]
            exact iteF ⟨_, _, rd, rfl, r4, pass (fun k z => by cases z), fun k => Nat.le_succ_of_le (len k), fun ks nd => Nat.le_succ_of_le (few ks nd)⟩
          | reg k =>
            show (if decide (V.str ("reg" : Str) = V.str "gate") = true then _ else _)
            rw [other _ _ (by decide +kernel)]
            exact iteF ⟨_, _, rd, rfl, r4, pass (fun k z => by cases z), fun k => Nat.le_succ_of_le (len k), fun ks nd => Nat.le_succ_of_le (few ks nd)⟩
          | bit k =>
            show (if decide (V.str ("bit" : Str) = V.str "gate") = true then _ else _)
            rw [other _ _ (by decide +kernel)]
            exact iteF ⟨_, _, rd, rfl, r4, pass (fun k z => by cases z), fun k => Nat.le_succ_of_le (len k), fun ks nd => Nat.le_succ_of_le (few ks nd)⟩
        · subst eσ
          refine ⟨_, _, _, _, _, rd, rfl, r4, fun k g => ?_, fun k => ?_, fun ks nd => by
            rw [fan_snoc hg2]
            have := few ks nd
            omega⟩
          · rw [mem, lv, List.take_of_length_le (Nat.le_refl _)]
            constructor
            · rintro (⟨z1, z2⟩ | ⟨z1, z2⟩)
              · exact ⟨by omega, z2⟩
              · exact ⟨by omega, gt, by rw [z1]; exact hg2, z2⟩
            · rintro ⟨z1, z2⟩
              by_cases e : g = i
              · exact .inr ⟨e, back k g z2 e⟩
              · exact .inl ⟨by omega, z2⟩
          · have := len k
            omega
      · subst eσ
        refine ⟨_, rfl, q D las rd Hx r2 ll (fun k g => ?_) (fun k => ?_) (fun ks nd => by
          have z := few ks nd
          rw [lg, List.take_length] at z
          exact z)⟩
        · rw [mem]
          refine ⟨fun z => z.2, fun z => ⟨?_, z⟩⟩
          obtain ⟨gt, e, _⟩ := z
          rw [lg]
          exact (List.getElem?_eq_some_iff.mp e).1
        · have := len k
          omega
end
end K02

set_option Elab.async false
set_option linter.all false
set_option maxRecDepth 100000
set_option maxHeartbeats 1000000
/-! The mathematics of sure readings: laps from all None, least where all gates agree. -/
namespace K02
open PySem PySem.Spec L2
open PyProof.Rows GenW GxR
def le1 (a b : Rd) : Prop := a = none ∨ a = b
theorem le1.refl (a : Rd) : le1 a a := .inr rfl
theorem le1.trans {a b c : Rd} (h : le1 a b) (g : le1 b c) : le1 a c := by
  rcases h with h | h
  · exact .inl h
  · rw [h]
    exact g
theorem comp_mono {rs rs' : List Rd} (h : Paired le1 rs rs') : ∀ {bs : List Bool}, Comp rs' bs → Comp rs bs := by
  induction h with
  | nil => exact fun c => c
  | cons r t ih =>
    intro bs c
    rcases r with e | e
    · subst e
      cases c with
      | free b c => exact .free b (ih c)
      | told b c => exact .free b (ih c)
    · subst e
      cases c with
      | free b c => exact .free b (ih c)
      | told b c => exact .told b (ih c)
theorem gateR_mono {tb : List Bool} {rs rs' : List Rd} (h : Paired le1 rs rs') : le1 (gateR tb rs) (gateR tb rs') := by
  cases e : gateR tb rs with
  | none => exact .inl rfl
  | some b =>
    refine .inr ?_
    have e1 := (one_some.mp e).2
    symm
    refine one_some.mpr ⟨fun z => ?_, fun x hx => ?_⟩
    · have := (plc_len rs').2
      rw [List.map_eq_nil_iff] at z
      rw [z] at this
      exact absurd this (by decide)
    · obtain ⟨p, hp, rfl⟩ := List.mem_map.mp hx
      obtain ⟨bs, hc, rfl⟩ := (plc_mem rs' p).mp hp
      exact e1 _ (List.mem_map.mpr ⟨_, (plc_mem rs _).mpr ⟨bs, comp_mono h hc, rfl⟩, rfl⟩)
/-- G tells what F tells -/
def FLe (F G : List Rd) : Prop := F.length = G.length ∧ ∀ i, le1 (F.getD i none) (G.getD i none)
theorem FLe.refl (F : List Rd) : FLe F F := ⟨rfl, fun i => le1.refl _⟩
theorem FLe.trans {F G I : List Rd} (a : FLe F G) (b : FLe G I) : FLe F I := ⟨a.1.trans b.1, fun i => (a.2 i).trans (b.2 i)⟩
theorem srcV_mono {gv hv F G : List Rd} (h : FLe F G) (s : Src) : le1 (srcV gv hv F s) (srcV gv hv G s) := by
  cases s with
  | gate i => exact h.2 i
  | inp i => exact le1.refl _
  | reg i => exact le1.refl _
  | bit b => exact le1.refl _
theorem paired_map {α β : Type} {R : β → β → Prop} {f g : α → β} (h : ∀ x, R (f x) (g x)) : ∀ l : List α, Paired R (l.map f) (l.map g)
  | [] => .nil
  | x :: r => .cons (h x) (paired_map h r)
theorem gateV_mono {gv hv F G : List Rd} (h : FLe F G) (g : Gate) : le1 (gateV gv hv F g) (gateV gv hv G g) := gateR_mono (paired_map (fun s => srcV_mono h s) g.1)
/-- one lap: what is told stays, what is not told is read -/
def readG (gs : List Gate) (gv hv F : List Rd) (i : Nat) : Rd := match gs[i]? with
  | some g => gateV gv hv F g
  | none => none
def lapF (gs : List Gate) (gv hv F : List Rd) : List Rd := (List.range gs.length).map fun i => match F.getD i none with
  | some b => some b
  | none => readG gs gv hv F i
theorem lapF_len (gs : List Gate) (gv hv F : List Rd) : (lapF gs gv hv F).length = gs.length := by simp [lapF]
theorem lapF_get {gs : List Gate} {gv hv F : List Rd} {i : Nat} (h : i < gs.length) : (lapF gs gv hv F).getD i none = match F.getD i none with
  | some b => some b
  | none => readG gs gv hv F i := by
  unfold lapF
  rw [List.getD_eq_getElem?_getD, List.getElem?_map, List.getElem?_range h]
  rfl
theorem lapF_le {gs : List Gate} {gv hv F : List Rd} (h : F.length = gs.length) : FLe F (lapF gs gv hv F) := by
  refine ⟨by rw [lapF_len, h], fun i => ?_⟩
  by_cases hi : i < gs.length
  · rw [lapF_get hi]
    cases F.getD i none with
    | none => exact .inl rfl
    | some b => exact .inr rfl
  · refine .inl ?_
    rw [List.getD_eq_getElem?_getD, List.getElem?_eq_none (by omega)]
    rfl
/-- how many are not told -/
def openN (F : List Rd) : Nat := (F.filter fun r => r.isNone).length
theorem openN_le {F G : List Rd} (h : FLe F G) : openN G ≤ openN F ∧ (openN G = openN F → F = G) := by
  obtain ⟨hl, h⟩ := h
  induction F generalizing G with
  | nil =>
    cases G with
    | nil => exact ⟨Nat.le_refl _, fun _ => rfl⟩
    | cons b r => cases hl
  | cons a r ih =>
    cases G with
    | nil => cases hl
    | cons b r' =>
      have h0 : le1 a b := h 0
      obtain ⟨i1, i2⟩ := ih (G := r') (by simpa using hl) fun i => h (i + 1)
      unfold openN at i1 i2 ⊢
      rcases h0 with e | e
      · subst e
        cases b with
        | none =>
          refine ⟨by simpa using i1, fun z => ?_⟩
          rw [i2 (by simpa using z)]
        | some c =>
          refine ⟨by simp; omega, fun z => ?_⟩
          simp at z
          omega
      · subst e
        cases a with
        | none =>
          refine ⟨by simpa using i1, fun z => ?_⟩
          rw [i2 (by simpa using z)]
        | some c =>
          refine ⟨by simpa using i1, fun z => ?_⟩
          rw [i2 (by simpa using z)]
def lapsF (gs : List Gate) (gv hv : List Rd) : Nat → List Rd → List Rd
  | 0, F => F
  | n + 1, F => lapsF gs gv hv n (lapF gs gv hv F)
/-- the sure readings -/
def sureF (gs : List Gate) (gv hv : List Rd) : List Rd := lapsF gs gv hv gs.length (List.replicate gs.length none)
theorem lapsF_fix {gs : List Gate} {gv hv : List Rd} : ∀ (n : Nat) (F : List Rd), F.length = gs.length → openN F ≤ n → lapF gs gv hv (lapsF gs gv hv n F) = lapsF gs gv hv n F := by
  intro n
  induction n with
  | zero =>
    intro F hl h0
    obtain ⟨a, b⟩ := openN_le (lapF_le (gv := gv) (hv := hv) hl)
    exact (b (by omega)).symm
  | succ n ih =>
    intro F hl hn
    obtain ⟨a, b⟩ := openN_le (lapF_le (gv := gv) (hv := hv) hl)
    by_cases e : openN (lapF gs gv hv F) = openN F
    · have e2 := b e
      have all : ∀ m, lapsF gs gv hv m F = F := fun m => by
        induction m with
        | zero => rfl
        | succ m im =>
          show lapsF gs gv hv m (lapF gs gv hv F) = F
          rw [← e2]
          exact im
      rw [all (n + 1)]
      exact e2.symm
    · exact ih _ (lapF_len _ _ _ _) (by omega)
theorem sureF_fix (gs : List Gate) (gv hv : List Rd) : lapF gs gv hv (sureF gs gv hv) = sureF gs gv hv :=
  lapsF_fix _ _ List.length_replicate (Nat.le_trans (List.length_filter_le _ _) (by rw [List.length_replicate]; exact Nat.le_refl _))
/-- below each filling with which all gates agree -/
theorem lapsF_least {gs : List Gate} {gv hv G : List Rd} (hG : ∀ i, i < gs.length → le1 (readG gs gv hv G i) (G.getD i none)) (lG : G.length = gs.length) : ∀ (n : Nat) (F : List Rd), FLe F G → FLe (lapsF gs gv hv n F) G := by
  intro n
  induction n with
  | zero => exact fun F h => h
  | succ n ih =>
    intro F h
    refine ih _ ⟨by rw [lapF_len, lG], fun i => ?_⟩
    by_cases hi : i < gs.length
    · rw [lapF_get hi]
      cases e : F.getD i none with
      | some b =>
        show le1 (some b) _
        rw [← e]
        exact h.2 i
      | none =>
        refine le1.trans ?_ (hG i hi)
        show le1 (readG gs gv hv F i) _
        unfold readG
        rw [List.getElem?_eq_getElem hi]
        exact gateV_mono h _
    · refine .inl ?_
      rw [List.getD_eq_getElem?_getD, List.getElem?_eq_none (by rw [lapF_len]; omega)]
      rfl
theorem sureF_least {gs : List Gate} {gv hv G : List Rd} (hG : ∀ i, i < gs.length → le1 (readG gs gv hv G i) (G.getD i none)) (lG : G.length = gs.length) : FLe (sureF gs gv hv) G := by
  refine lapsF_least hG lG _ _ ⟨by rw [List.length_replicate, lG], fun i => .inl ?_⟩
  rw [List.getD_eq_getElem?_getD]
  by_cases h : i < gs.length
  · rw [List.getElem?_replicate, if_pos h]
    rfl
  · rw [List.getElem?_eq_none (by rw [List.length_replicate]; omega)]
    rfl
end K02

set_option Elab.async false
set_option linter.all false
set_option maxRecDepth 100000
set_option maxHeartbeats 1000000
/-! What reads otherwise leans on what is told anew; readings told one by one in any sequence. -/
namespace K02
open PySem PySem.Spec L2
open PyProof.Rows GenW GxR
theorem map_congr_mem {α β : Type} {f g : α → β} : ∀ {l : List α}, (∀ x ∈ l, f x = g x) → l.map f = l.map g
  | [], _ => rfl
  | x :: r, h => by
    rw [List.map_cons, List.map_cons, h x List.mem_cons_self, map_congr_mem fun y hy => h y (List.mem_cons_of_mem _ hy)]
theorem gateV_congr {gv hv F G : List Rd} {g : Gate} (h : ∀ k, Src.gate k ∈ g.1 → F.getD k none = G.getD k none) : gateV gv hv F g = gateV gv hv G g := by
  unfold gateV
  rw [map_congr_mem fun s hs => ?_]
  cases s with
  | gate k => exact h k hs
  | inp k => rfl
  | reg k => rfl
  | bit b => rfl
theorem readG_changed {gs : List Gate} {gv hv F G : List Rd} {i : Nat} (h : readG gs gv hv F i ≠ readG gs gv hv G i) : ∃ gt k, gs[i]? = some gt ∧ Src.gate k ∈ gt.1 ∧ F.getD k none ≠ G.getD k none := by
  unfold readG at h
  cases e : gs[i]? with
  | none =>
    rw [e] at h
    exact absurd rfl h
  | some g =>
    rw [e] at h
    have h : gateV gv hv F g ≠ gateV gv hv G g := h
    refine Classical.byContradiction fun n => h (gateV_congr fun k hk => Classical.byContradiction fun z => n ⟨g, k, rfl, hk, z⟩)
theorem getD_set {F : List Rd} {i j : Nat} {x : Rd} (hi : i < F.length) : (F.set i x).getD j none = if i = j then x else F.getD j none := by
  rw [List.getD_eq_getElem?_getD, List.getElem?_set]
  by_cases e : i = j
  · rw [if_pos e, if_pos e, if_pos hi]
    rfl
  · rw [if_neg e, if_neg e, List.getD_eq_getElem?_getD]
theorem set_ge {F : List Rd} {i : Nat} {x : Rd} (hi : i < F.length) (ho : F.getD i none = none) : FLe F (F.set i x) := by
  refine ⟨by rw [List.length_set], fun j => ?_⟩
  rw [getD_set hi]
  by_cases e : i = j
  · rw [← e]
    exact .inl ho
  · rw [if_neg e]
    exact le1.refl _
theorem FLe.antisymm {F G : List Rd} (a : FLe F G) (b : FLe G F) : F = G := by
  refine List.ext_getElem? fun i => ?_
  by_cases h : i < F.length
  · have hg : i < G.length := by
      rw [← a.1]
      exact h
    have x := a.2 i
    have y := b.2 i
    rw [List.getD_eq_getElem?_getD, List.getD_eq_getElem?_getD, List.getElem?_eq_getElem h, List.getElem?_eq_getElem hg] at x y
    have x : le1 F[i] G[i] := x
    have y : le1 G[i] F[i] := y
    rw [List.getElem?_eq_getElem h, List.getElem?_eq_getElem hg]
    rcases x with x | x
    · rcases y with y | y
      · rw [x, y]
      · rw [y]
    · rw [x]
  · rw [List.getElem?_eq_none (by omega), List.getElem?_eq_none (by have := a.1; omega)]
/-- one reading told: what comes is below each filling that agrees -/
theorem set_le {gs : List Gate} {gv hv F G : List Rd} {i : Nat} (hG : le1 (readG gs gv hv G i) (G.getD i none)) (h : FLe F G) (hi : i < F.length) : FLe (F.set i (readG gs gv hv F i)) G := by
  refine ⟨by rw [List.length_set]; exact h.1, fun j => ?_⟩
  rw [getD_set hi]
  by_cases e : i = j
  · rw [if_pos e, ← e]
    refine le1.trans ?_ hG
    unfold readG
    cases gs[i]? with
    | none => exact le1.refl _
    | some g => exact gateV_mono h g
  · rw [if_neg e]
    exact h.2 j
theorem readG_mono {gs : List Gate} {gv hv F G : List Rd} (h : FLe F G) (i : Nat) : le1 (readG gs gv hv F i) (readG gs gv hv G i) := by
  unfold readG
  cases gs[i]? with
  | none => exact le1.refl _
  | some g => exact gateV_mono h g
/-- what is told is what is read -/
def Agr (gs : List Gate) (gv hv F : List Rd) : Prop := ∀ i b, i < gs.length → F.getD i none = some b → readG gs gv hv F i = some b
theorem Agr.lap {gs : List Gate} {gv hv F : List Rd} (h : Agr gs gv hv F) (hl : F.length = gs.length) : Agr gs gv hv (lapF gs gv hv F) := fun i b hi e => by
  have m := readG_mono (gs := gs) (gv := gv) (hv := hv) (lapF_le (gv := gv) (hv := hv) hl) i
  have key : readG gs gv hv F i = some b := by
    rw [lapF_get hi] at e
    cases e2 : F.getD i none with
    | some c =>
      rw [e2] at e
      have e : some c = some b := e
      rw [← e]
      exact h i c hi e2
    | none =>
      rw [e2] at e
      exact e
  rcases m with m | m
  · rw [key] at m
    cases m
  · rw [← m]
    exact key
theorem Agr.laps {gs : List Gate} {gv hv : List Rd} : ∀ (n : Nat) {F : List Rd}, Agr gs gv hv F → F.length = gs.length → Agr gs gv hv (lapsF gs gv hv n F)
  | 0, _, h, _ => h
  | n + 1, _, h, hl => Agr.laps n (h.lap hl) (lapF_len _ _ _ _)
theorem getD_rep (n i : Nat) : (List.replicate n (none : Rd)).getD i none = none := by
  rw [List.getD_eq_getElem?_getD]
  by_cases h : i < n
  · rw [List.getElem?_replicate, if_pos h]
    rfl
  · rw [List.getElem?_eq_none (by rw [List.length_replicate]; omega)]
    rfl
theorem lapsF_len {gs : List Gate} {gv hv : List Rd} : ∀ (n : Nat) {F : List Rd}, F.length = gs.length → (lapsF gs gv hv n F).length = gs.length
  | 0, _, h => h
  | n + 1, _, _ => lapsF_len n (lapF_len _ _ _ _)
theorem sureF_len (gs : List Gate) (gv hv : List Rd) : (sureF gs gv hv).length = gs.length := lapsF_len _ List.length_replicate
/-- all gates agree with the sure readings -/
theorem sureF_agree (gs : List Gate) (gv hv : List Rd) {i : Nat} (hi : i < gs.length) : readG gs gv hv (sureF gs gv hv) i = (sureF gs gv hv).getD i none := by
  have a : Agr gs gv hv (sureF gs gv hv) := Agr.laps _ (fun i b _ e => by
    rw [getD_rep] at e
    cases e) List.length_replicate
  cases e : (sureF gs gv hv).getD i none with
  | some b => exact a i b hi e
  | none =>
    have f := sureF_fix gs gv hv
    have z : (lapF gs gv hv (sureF gs gv hv)).getD i none = none := by rw [f, e]
    rw [lapF_get hi, e] at z
    exact z
theorem lapF_mono {gs : List Gate} {gv hv F G S : List Rd} (h : FLe F G) (hS : FLe G S) (aS : ∀ i, i < gs.length → readG gs gv hv S i = S.getD i none) : FLe (lapF gs gv hv F) (lapF gs gv hv G) := by
  refine ⟨by rw [lapF_len, lapF_len], fun i => ?_⟩
  by_cases hi : i < gs.length
  · have x := h.2 i
    rw [lapF_get hi, lapF_get hi]
    cases e : F.getD i none with
    | some b =>
      rw [e] at x
      rcases x with x | x
      · cases x
      · rw [← x]
        exact le1.refl _
    | none =>
      show le1 (readG gs gv hv F i) _
      cases e2 : G.getD i none with
      | none => exact readG_mono h i
      | some b =>
        show le1 _ (some b)
        have y := hS.2 i
        rw [e2] at y
        rcases y with y | y
        · cases y
        · rw [y, ← aS i hi]
          exact readG_mono (h.trans hS) i
  · refine .inl ?_
    rw [List.getD_eq_getElem?_getD, List.getElem?_eq_none (by rw [lapF_len]; omega)]
    rfl
end K02

set_option Elab.async false
set_option linter.all false
set_option maxRecDepth 100000
set_option maxHeartbeats 1000000
/-! Laps: which gates get their bit in a lap, and where these are looked for. -/
namespace K02
open PySem PySem.Spec L2
open PyProof.Rows GenW GxR
abbrev Lap : Type := List (Nat × Bool)
/-- two rising lists with the same members are one -/
theorem asc_ext : ∀ {l m : List Nat}, l.Pairwise (· < ·) → m.Pairwise (· < ·) → (∀ x, x ∈ l ↔ x ∈ m) → l = m
  | [], [], _, _, _ => rfl
  | [], b :: m, _, _, h => by
    have := (h b).mpr List.mem_cons_self
    cases this
  | a :: l, [], _, _, h => by
    have := (h a).mp List.mem_cons_self
    cases this
  | a :: l, b :: m, hl, hm, h => by
    obtain ⟨l1, l2⟩ := List.pairwise_cons.mp hl
    obtain ⟨m1, m2⟩ := List.pairwise_cons.mp hm
    have e : a = b := by
      rcases List.mem_cons.mp ((h a).mp List.mem_cons_self) with x | x
      · exact x
      · rcases List.mem_cons.mp ((h b).mpr List.mem_cons_self) with y | y
        · exact y.symm
        · have p := m1 a x
          have q := l1 b y
          omega
    subst e
    have t : l = m := asc_ext l2 m2 fun x => by
      constructor
      · intro hx
        rcases List.mem_cons.mp ((h x).mp (List.mem_cons_of_mem _ hx)) with y | y
        · have p := l1 x hx
          omega
        · exact y
      · intro hx
        rcases List.mem_cons.mp ((h x).mpr (List.mem_cons_of_mem _ hx)) with y | y
        · have p := m1 x hx
          omega
        · exact y
    rw [t]
theorem filterMap_filter' {α β : Type} (f : α → Option β) : ∀ l : List α, l.filterMap f = (l.filter fun x => (f x).isSome).filterMap f
  | [] => rfl
  | a :: l => by
    cases e : f a with
    | none =>
      rw [List.filterMap_cons_none e, List.filter_cons_of_neg (by rw [e]; exact Bool.false_ne_true)]
      exact filterMap_filter' f l
    | some b =>
      rw [List.filterMap_cons_some e, List.filter_cons_of_pos (by rw [e]; rfl), List.filterMap_cons_some e, filterMap_filter' f l]
theorem filterMap_same {β : Type} {f : Nat → Option β} {l m : List Nat} (hl : l.Pairwise (· < ·)) (hm : m.Pairwise (· < ·)) (h : ∀ x, (f x).isSome = true → (x ∈ l ↔ x ∈ m)) : l.filterMap f = m.filterMap f := by
  rw [filterMap_filter' f l, filterMap_filter' f m]
  have e : (l.filter fun x => (f x).isSome) = m.filter fun x => (f x).isSome := asc_ext (hl.filter _) (hm.filter _) fun x => by
    rw [List.mem_filter, List.mem_filter]
    exact ⟨fun ⟨a, b⟩ => ⟨(h x b).mp a, b⟩, fun ⟨a, b⟩ => ⟨(h x b).mpr a, b⟩⟩
  rw [e]
/-- what gate i gets in the lap from F on -/
def getsF (gs : List Gate) (gv hv F : List Rd) (i : Nat) : Option (Nat × Bool) := match F.getD i none with
  | some _ => none
  | none => (readG gs gv hv F i).map fun b => (i, b)
def lapOf (gs : List Gate) (gv hv F : List Rd) : Lap := (List.range gs.length).filterMap (getsF gs gv hv F)
theorem gets_some {gs : List Gate} {gv hv F : List Rd} {i : Nat} {p : Nat × Bool} : getsF gs gv hv F i = some p ↔ p.1 = i ∧ F.getD i none = none ∧ readG gs gv hv F i = some p.2 := by
  unfold getsF
  cases e : F.getD i none with
  | some c => simp
  | none =>
    cases e2 : readG gs gv hv F i with
    | none => simp
    | some b =>
      obtain ⟨p1, p2⟩ := p
      simp only [Option.map_some, Option.some.injEq, Prod.mk.injEq, true_and]
      exact ⟨fun ⟨a, b⟩ => ⟨a.symm, b⟩, fun ⟨a, b⟩ => ⟨a.symm, b⟩⟩
theorem lapOf_mem {gs : List Gate} {gv hv F : List Rd} {p : Nat × Bool} : p ∈ lapOf gs gv hv F ↔ p.1 < gs.length ∧ F.getD p.1 none = none ∧ readG gs gv hv F p.1 = some p.2 := by
  unfold lapOf
  rw [List.mem_filterMap]
  constructor
  · rintro ⟨i, hi, e⟩
    obtain ⟨rfl, a, b⟩ := gets_some.mp e
    exact ⟨List.mem_range.mp hi, a, b⟩
  · rintro ⟨a, b, c⟩
    exact ⟨p.1, List.mem_range.mpr a, gets_some.mpr ⟨rfl, b, c⟩⟩
theorem readG_none_of_ge {gs : List Gate} {gv hv F : List Rd} {i : Nat} (h : ¬ i < gs.length) : readG gs gv hv F i = none := by
  unfold readG
  rw [List.getElem?_eq_none (by omega)]
/-- a place to look at: open, and it comes to a bit -/
def Ripe (gs : List Gate) (gv hv F : List Rd) (i : Nat) : Prop := F.getD i none = none ∧ readG gs gv hv F i ≠ none
theorem gets_ripe {gs : List Gate} {gv hv F : List Rd} {i : Nat} (h : (getsF gs gv hv F i).isSome = true) : Ripe gs gv hv F i := by
  obtain ⟨p, e⟩ := Option.isSome_iff_exists.mp h
  obtain ⟨_, a, b⟩ := gets_some.mp e
  exact ⟨a, by rw [b]; simp⟩
theorem lapOf_waiting {gs : List Gate} {gv hv F : List Rd} {ns : List Nat} (asc : ns.Pairwise (· < ·)) (h : ∀ i, Ripe gs gv hv F i → i ∈ ns) : ns.filterMap (getsF gs gv hv F) = lapOf gs gv hv F := by
  refine filterMap_same asc List.pairwise_lt_range fun x hx => ⟨fun _ => ?_, fun _ => h x (gets_ripe hx)⟩
  have r := gets_ripe hx
  refine List.mem_range.mpr (Classical.byContradiction fun z => r.2 (readG_none_of_ge z))
/-- found behind the first of a lap -/
def putL (F : List Rd) (lap : Lap) : List Rd := lap.foldl (fun G p => G.set p.1 (some p.2)) F
theorem putL_len (F : List Rd) (lap : Lap) : (putL F lap).length = F.length := by
  unfold putL
  induction lap generalizing F with
  | nil => rfl
  | cons p r ih =>
    show (r.foldl _ (F.set p.1 (some p.2))).length = _
    rw [ih, List.length_set]
theorem putL_snoc (F : List Rd) (lap : Lap) (p : Nat × Bool) : putL F (lap ++ [p]) = (putL F lap).set p.1 (some p.2) := by
  unfold putL
  rw [List.foldl_append]
  rfl
theorem putL_get {F : List Rd} {i : Nat} : ∀ {lap : Lap} {f : Nat → Rd}, (∀ p ∈ lap, p.1 < F.length ∧ f p.1 = some p.2) → (putL F lap).getD i none = if i ∈ lap.map (·.1) then f i else F.getD i none := by
  intro lap
  induction lap generalizing F with
  | nil =>
    intro f h
    simp [putL]
  | cons p r ih =>
    intro f h
    have h0 := h p List.mem_cons_self
    show (putL (F.set p.1 (some p.2)) r).getD i none = _
    rw [ih (F := F.set p.1 (some p.2)) (f := f) fun q hq => by
      rw [List.length_set]
      exact h q (List.mem_cons_of_mem _ hq)]
    rw [getD_set h0.1]
    by_cases m : i ∈ r.map (·.1)
    · rw [if_pos m, if_pos (by simp only [List.map_cons]; exact List.mem_cons_of_mem _ m)]
    · rw [if_neg m]
      by_cases e : p.1 = i
      · rw [if_pos e, if_pos (by simp [e]), ← e, h0.2]
      · rw [if_neg e, if_neg (by simp only [List.map_cons, List.mem_cons, not_or]; exact ⟨fun z => e z.symm, m⟩)]
theorem lapOf_fst {gs : List Gate} {gv hv F : List Rd} {i : Nat} : i ∈ (lapOf gs gv hv F).map (·.1) ↔ Ripe gs gv hv F i := by
  rw [List.mem_map]
  constructor
  · rintro ⟨p, hp, rfl⟩
    obtain ⟨_, b, c⟩ := lapOf_mem.mp hp
    exact ⟨b, by rw [c]; simp⟩
  · rintro ⟨a, b⟩
    obtain ⟨c, e⟩ := Option.ne_none_iff_exists'.mp b
    refine ⟨(i, c), lapOf_mem.mpr ⟨Classical.byContradiction fun z => ?_, a, e⟩, rfl⟩
    rw [readG_none_of_ge z] at e
    cases e
theorem putL_lap {gs : List Gate} {gv hv F : List Rd} (hl : F.length = gs.length) : putL F (lapOf gs gv hv F) = lapF gs gv hv F := by
  refine List.ext_getElem? fun i => ?_
  have l1 : (putL F (lapOf gs gv hv F)).length = gs.length := by rw [putL_len, hl]
  have l2 : (lapF gs gv hv F).length = gs.length := lapF_len _ _ _ _
  by_cases hi : i < gs.length
  · have e : (putL F (lapOf gs gv hv F)).getD i none = (lapF gs gv hv F).getD i none := by
      rw [putL_get (f := readG gs gv hv F) fun p hp => by
        obtain ⟨a, b, c⟩ := lapOf_mem.mp hp
        exact ⟨by omega, c⟩]
      rw [lapF_get hi]
      by_cases m : i ∈ (lapOf gs gv hv F).map (·.1)
      · rw [if_pos m, (lapOf_fst.mp m).1]
      · rw [if_neg m]
        cases e1 : F.getD i none with
        | some b => rfl
        | none =>
          cases e2 : readG gs gv hv F i with
          | none => rfl
          | some b => exact absurd (lapOf_fst.mpr ⟨e1, by rw [e2]; simp⟩) m
    rw [List.getD_eq_getElem?_getD, List.getD_eq_getElem?_getD, List.getElem?_eq_getElem (by omega), List.getElem?_eq_getElem (by omega)] at e
    rw [List.getElem?_eq_getElem (by omega), List.getElem?_eq_getElem (by omega)]
    exact congrArg some e
  · rw [List.getElem?_eq_none (by omega), List.getElem?_eq_none (by omega)]
theorem lapOf_nil {gs : List Gate} {gv hv F : List Rd} (hl : F.length = gs.length) : lapOf gs gv hv F = [] ↔ lapF gs gv hv F = F := by
  constructor
  · intro e
    rw [← putL_lap hl, e]
    rfl
  · intro e
    cases q : lapOf gs gv hv F with
    | nil => rfl
    | cons p r =>
      have hp : p ∈ lapOf gs gv hv F := by rw [q]; exact List.mem_cons_self
      obtain ⟨a, b, c⟩ := lapOf_mem.mp hp
      have z := lapF_get (gv := gv) (hv := hv) (F := F) a
      rw [e, b] at z
      have z : none = readG gs gv hv F p.1 := z
      rw [c] at z
      cases z
/-- the laps from F on -/
def lapsL (gs : List Gate) (gv hv : List Rd) : Nat → List Rd → List Lap
  | 0, _ => []
  | n + 1, F => if lapOf gs gv hv F = [] then [] else lapOf gs gv hv F :: lapsL gs gv hv n (lapF gs gv hv F)
theorem lapsL_nil {gs : List Gate} {gv hv F : List Rd} (h : lapOf gs gv hv F = []) (n : Nat) : lapsL gs gv hv n F = [] := by
  cases n with
  | zero => rfl
  | succ n => exact if_pos h
theorem openN_lap {gs : List Gate} {gv hv F : List Rd} (hl : F.length = gs.length) (h : lapOf gs gv hv F ≠ []) : openN (lapF gs gv hv F) < openN F := by
  obtain ⟨a, b⟩ := openN_le (lapF_le (gv := gv) (hv := hv) hl)
  have n : openN (lapF gs gv hv F) ≠ openN F := fun z => h ((lapOf_nil hl).mpr (b z).symm)
  omega
theorem openN_len (F : List Rd) : openN F ≤ F.length := List.length_filter_le _ _
/-- enough laps are enough -/
theorem lapsL_enough {gs : List Gate} {gv hv : List Rd} : ∀ (n m : Nat) (F : List Rd), F.length = gs.length → openN F ≤ n → openN F ≤ m → lapsL gs gv hv n F = lapsL gs gv hv m F := by
  intro n
  induction n with
  | zero =>
    intro m F hl h1 h2
    have e : lapOf gs gv hv F = [] := Classical.byContradiction fun z => by
      have := openN_lap hl z
      omega
    rw [lapsL_nil e, lapsL_nil e]
  | succ n ih =>
    intro m F hl h1 h2
    by_cases e : lapOf gs gv hv F = []
    · rw [lapsL_nil e, lapsL_nil e]
    · have lt_ := openN_lap hl e
      cases m with
      | zero => omega
      | succ m =>
        show (if _ then _ else _) = (if _ then _ else _)
        rw [if_neg e, if_neg e, ih m _ (lapF_len _ _ _ _) (by omega) (by omega)]
theorem lapsF_stay {gs : List Gate} {gv hv F : List Rd} (h : lapF gs gv hv F = F) : ∀ n, lapsF gs gv hv n F = F
  | 0 => rfl
  | n + 1 => by
    show lapsF gs gv hv n (lapF gs gv hv F) = F
    rw [h]
    exact lapsF_stay h n
theorem putL_laps {gs : List Gate} {gv hv : List Rd} : ∀ (n : Nat) (F : List Rd), F.length = gs.length → (lapsL gs gv hv n F).foldl putL F = lapsF gs gv hv n F := by
  intro n
  induction n with
  | zero => exact fun F _ => rfl
  | succ n ih =>
    intro F hl
    by_cases e : lapOf gs gv hv F = []
    · rw [lapsL_nil e, lapsF_stay ((lapOf_nil hl).mp e)]
      rfl
    · show (if _ then _ else _ : List Lap).foldl putL F = _
      rw [if_neg e, List.foldl_cons, putL_lap hl, ih _ (lapF_len _ _ _ _)]
      rfl
/-- all laps of a circuit in a case -/
def lapsAll (gs : List Gate) (gv hv : List Rd) : List Lap := lapsL gs gv hv gs.length (List.replicate gs.length none)
theorem lapsAll_put (gs : List Gate) (gv hv : List Rd) : (lapsAll gs gv hv).foldl putL (List.replicate gs.length none) = sureF gs gv hv := putL_laps _ _ List.length_replicate
theorem lapsL_mem {gs : List Gate} {gv hv : List Rd} : ∀ (n : Nat) (F : List Rd) (lap : Lap), lap ∈ lapsL gs gv hv n F → ∀ p ∈ lap, p.1 < gs.length := by
  intro n
  induction n with
  | zero =>
    intro F lap h
    cases h
  | succ n ih =>
    intro F lap h
    by_cases e : lapOf gs gv hv F = []
    · rw [lapsL_nil e] at h
      cases h
    · have h : lap ∈ (if lapOf gs gv hv F = [] then [] else lapOf gs gv hv F :: lapsL gs gv hv n (lapF gs gv hv F)) := h
      rw [if_neg e] at h
      rcases List.mem_cons.mp h with z | z
      · intro p hp
        rw [z] at hp
        exact (lapOf_mem.mp hp).1
      · exact ih _ lap z
/-- what becomes ripe leans on what was told in this lap -/
theorem ripe_next {gs : List Gate} {gv hv F : List Rd} {i : Nat} (hl : F.length = gs.length) (h : Ripe gs gv hv (lapF gs gv hv F) i) : ∃ gt k, gs[i]? = some gt ∧ Src.gate k ∈ gt.1 ∧ k ∈ (lapOf gs gv hv F).map (·.1) := by
  have hF : F.getD i none = none := by
    have m := (lapF_le (gv := gv) (hv := hv) hl).2 i
    rw [h.1] at m
    rcases m with m | m <;> exact m
  have hi : i < gs.length := Classical.byContradiction fun z => h.2 (readG_none_of_ge z)
  have hr : readG gs gv hv F i = none := by
    have z := lapF_get (gv := gv) (hv := hv) (F := F) hi
    rw [h.1, hF] at z
    exact z.symm
  obtain ⟨gt, k, a, b, c⟩ := readG_changed (gs := gs) (gv := gv) (hv := hv) (F := F) (G := lapF gs gv hv F) (i := i) fun z => h.2 (by rw [← z, hr])
  refine ⟨gt, k, a, b, Classical.byContradiction fun z => c ?_⟩
  rw [← putL_lap (gv := gv) (hv := hv) hl, putL_get (f := readG gs gv hv F) fun p hp => by
    obtain ⟨a, b, c⟩ := lapOf_mem.mp hp
    exact ⟨by omega, c⟩]
  rw [if_neg z]
end K02

set_option Elab.async false
set_option linter.all false
set_option maxRecDepth 100000
set_option maxHeartbeats 4000000
/-! set of a list of ints, and sorted of a set of ints of any size. -/
namespace STL
open PySem PySem.Spec PyProof.Rows L2
section
variable {P : Program} {w : World} {A : Around} {E : Value → Shared → Prop} {s : Shared}
/-- an empty set that was just made -/
abbrev bare (w : World) : Obj := { cls := .type "set", dict := none, data := .set #[] 0 (.fresh 0 0 (!w.params.followText "set-order")) }
set_option maxHeartbeats 3200000 in
theorem set_of_list {l : Addr} {xs : Array Value} (ns : List Int) {Q : Value → Shared → Prop} (quiet : A.handled = none) (isL : s.heap.IsList l xs)
    (are : IntsAre xs.toList ns) (few : ns.length + 1 < scanBound)
    (fin : ∀ (g : Heap) (tk c : Nat), SetR w g s.heap.objs.size (fun j => decide (j ∈ ns)) c → c ≤ ns.length →
      (∀ b o, s.heap.get? b = some o → g.get? b = some o) → Q (.ref s.heap.objs.size) { s with heap := g, toks := tk }) :
    wpAny (model P w) A (call (.type "set") [.ref l]) Q E s := by
  have size_ : xs.size = ns.length := by
    rw [← Array.length_toList]
    exact IntsAre.length are
  obtain ⟨cc, rest, mro_⟩ := F.called_set.mro
  have m1 := F.called_set.made
  have m2 := F.called_set.sub
  refine wpAny_call (codeAny_of_tree ?_)
  show wpAny _ _ (callAny (.type "set") _) _ _ _
  refine wpAny_pure ⟨Code.quiet_builtin _ (by decide +kernel), codeAny_builtin F.entry_type_call ?_⟩
  rw [Around.under_plain (weight_type_call_type "set" [.ref l] []) rfl]
  have m3 := F.called_set.notType
  have m4 := F.called_set.canCreate
  have m5 := F.typeCall_set_1 (.ref l)
  repeat (any_goals (first | assumption | wp_step))
  refine codeAny_mono (code_set_led1 (.ref l) (E := E) (Q₁ := fun v s₁ => v = .ref s.heap.objs.size ∧ s₁ = { s with heap := s.heap.push (bare w) }) ⟨rfl, rfl⟩) fun r s₁ got => ?_
  cases r with
  | error e => exact got
  | ok fl =>
    cases fl with
    | ret v =>
      obtain ⟨rfl, rfl⟩ := got
      have at_ : (s.heap.push (bare w)).get? s.heap.objs.size = some (bare w) := Heap.get?_push_size _ rfl
      have ty_ : Shared.TypeIs { s with heap := s.heap.push (bare w) } (.ref s.heap.objs.size) "set" := ⟨_, at_, rfl⟩
      have i1 := F.called_set.init.lookup
      have i2 := F.called_set.init.bind (.ref s.heap.objs.size)
      repeat (any_goals (first | assumption | wp_step))
      refine codeAny_mono (codeAny_call_builtin (R := wants (fun r s₂ => r = .none ∧ ∃ g tk c, s₂ = { s with heap := g, toks := tk } ∧
          SetR w g s.heap.objs.size (fun j => decide (j ∈ ns)) c ∧ c ≤ ns.length ∧ (∀ b o, s.heap.get? b = some o → g.get? b = some o)) E)
        F.called_set.init.plain F.entry_set_init (check_set_init_1 ty_ ?_)) fun r₂ s₂ got₂ => ?_
      · obtain ⟨⟨k1, k2, k3, k4⟩, ol, k5, nl, k6⟩ := isL
        simp only at k5 k6
        subst k5; subst k6
        have ol' : (s.heap.push (bare w)).get? l = some { cls := .type "list", dict := k2, data := .seq xs nl, slots := k4 } := Heap.get?_push_of_some _ ol
        have j1 := F.sub_list_set
        have j2 := F.sub_list_frozenset
        have j3 : (Value.type "list" == Value.type "dict") = false := by decide
        have isL' : (s.heap.push (bare w)).IsList l xs := ⟨_, ol', rfl, nl, rfl⟩
        unfold Builtin.«set.__init__» noKeywords Builtin.Frozenset.updateFrom
        generalize eI : pyIter = PI
        wp_walk
        subst eI
        refine wpAny_pyIter_list isL' ?_
        refine wpAny_bind (wpAny_runValue ?_)
        have lS : l < s.heap.objs.size := Heap.lt_size ol
        have quiet3 : A.in1.in1.in1.handled = none := by simp [quiet]
        have nI : l ≠ (s.heap.push (bare w)).objs.size := by
          rw [Heap.size_push]
          exact Nat.ne_of_lt (Nat.lt_succ_of_lt lS)
        have off : s.heap.objs.size ∉ [(s.heap.push (bare w)).objs.size, l] := by
          rw [Heap.size_push]
          simp only [List.mem_cons, List.not_mem_nil, or_false, not_or]
          exact ⟨Nat.ne_of_lt (Nat.lt_succ_self _), Nat.ne_of_gt lS⟩
        have val : ∀ (i : Nat) (v : Value), xs[i]? = some v → ∃ k t, ns[i]? = some k ∧ v = .int k t := fun i v hv => by
          have hi : i < ns.length := by
            rw [← size_]
            exact (Array.getElem?_eq_some_iff.mp hv).1
          obtain ⟨t, e⟩ := PyProof.Rows.IntsAre.int_at are i v (by rw [Array.getElem?_toList]; exact hv)
          refine ⟨ns[i], t, List.getElem?_eq_getElem hi, e.trans ?_⟩
          rw [List.getD_eq_getElem?_getD, List.getElem?_eq_getElem hi]
          rfl
        refine set_update_ints ((Walks.list quiet3 _ l nI xs).toS) s.heap.objs.size off ns size_ few val (xs.size - 0) 0 _ (by omega) (Nat.zero_le _)
          ⟨⟨_, Heap.get?_push_size _ rfl, rfl, rfl⟩, (isL'.push _)⟩ ⟨0, Nat.le_refl 0, setR_new_at (Heap.get?_push_of_some _ at_)⟩ ?fin_
        intro s' c' mv cl sr
        obtain ⟨g, g2, d', tk', os'⟩ := s'
        have q1 : g2 = s.gens := mv.gens
        have q2 : d' = s.drawn := mv.drawn
        have q3 : os' = s.os := mv.os
        subst q1; subst q2; subst q3
        show wpAny _ _ _ _ _ _
        refine wpAny_pure ?_
        show wpAny _ _ (ret Value.none) _ _ _
        rw [size_] at cl
        refine wpAny_pure ⟨rfl, g, tk', c', rfl, sr, cl, fun b o e => ?_⟩
        have b0 : b < s.heap.objs.size := Heap.lt_size e
        refine mv.heap b o ?_ (Heap.get?_push_of_some _ (Heap.get?_push_of_some _ e))
        rw [Heap.size_push]
        simp only [List.mem_cons, List.not_mem_nil, or_false, not_or]
        exact ⟨Nat.ne_of_lt b0, Nat.ne_of_lt (Nat.lt_succ_of_lt b0)⟩
      · cases r₂ with
        | error e => exact got₂
        | ok fl₂ =>
          cases fl₂ with
          | ret r =>
            obtain ⟨rfl, g, tk, c', rfl, sr, cl, kk⟩ := got₂
            repeat (any_goals (first | assumption | wp_step))
            exact fin _ _ _ sr cl kk
          | _ => exact got₂.elim
    | _ => exact got.elim
/-- sorted of a set of ints, as many as it may have -/
theorem sorted_of_set {a : Addr} {S : Int → Bool} {n : Nat} {Q : Value → Shared → Prop} (R : SetR w s.heap a S n) (quiet : A.handled = none)
    (fin : ∀ s' p (out : Array Value) (c : Nat) (ns : List Int), (∀ b o, s.heap.get? b = some o → s'.heap.get? b = some o) → s'.gens = s.gens → s'.os = s.os → s.heap.objs.size ≤ p →
      s'.heap.get? p = some (seqObj "list" out c) → IntsAre out.toList ns → ns.Pairwise (· < ·) → (∀ k, k ∈ ns ↔ S k = true) → ns.length = n → Q (.ref p) s') :
    wpAny (model P w) A (call (.builtin "sorted") [.ref a]) Q E s := by
  obtain ⟨o, es, ep, t, r1, r2, r3, r4, r5, r6, r7, r8, r9, r10, r11⟩ := R
  refine Calls.call_function_entry kind_sorted plain_sorted entry_sorted (args_sorted1 _) ?_
  unfold Builtin.«sorted»
  refine wpAny_bind (m := checkCount "sorted" 1 1 _) (wpAny_pure ?_)
  refine wpAny_bind (collect_set (A := A.in1) quiet ⟨o, r1, r2.1, r3⟩ r8 r7 r10 r11 fun s1 vs kp hz g1 o1 pm => ?_)
  have len_ : vs.length = n := by
    rw [pm.length_eq, List.length_map, Array.length_toList]
    exact r9
  have ints_ : IntsAre vs (vs.map Builtin.Re.reRawOf) := ints_of vs fun v hv => by
    obtain ⟨e, he, q⟩ := List.mem_map.mp (pm.mem_iff.mp hv)
    obtain ⟨k, tk, h1, _⟩ := r4 e he
    exact ⟨k, tk, by rw [← q]; exact h1⟩
  have pk : (vs.map Builtin.Re.reRawOf).Perm (es.toList.map keyOf) := by
    have q := pm.map Builtin.Re.reRawOf
    rw [List.map_map] at q
    exact q
  have small : vs.length ≤ sizeLine := by
    rw [len_, ← r9]
    exact fits_of_scanBound r7
  refine wpAny_bind (wpAny_newList ?_ small)
  have made : (s1.heap.push (seqObj "list" vs.toArray 0)).get? s1.heap.objs.size = some (seqObj "list" vs.toArray 0) := Heap.get?_push_size _ rfl
  refine wpAny_bind (wpAny_holding (wpAny_call_entry slot_list_sort ⟨_, made, rfl⟩ entry_list_sort
    (SrtO.list_sort_ord SrtO.swo_int made small (fun h2 => SrtO.ints_sortable ints_ h2) fun out h1 h2 => ⟨_, rfl, ?_⟩) (args_list_sort _)))
  obtain ⟨a1, a2, a3⟩ := SrtO.ints_out ints_ h1 h2
  obtain ⟨c, hc⟩ := sortedHeap_at (vs := vs) (out := out.toArray) made
  have pn : (out.map SrtO.iv).Perm (es.toList.map keyOf) := a2.trans pk
  refine wpAny_pure ⟨_, rfl, fin _ s1.heap.objs.size out.toArray c (out.map SrtO.iv) (fun b u e => ?_) g1 o1 hz hc a1 (lt_of_le_nodup _ a3 (pn.nodup_iff.mpr r5)) (fun k => by rw [pn.mem_iff, ← r6 k]) ?_⟩
  · have q := kp b u e
    have lt_ := Heap.lt_size q
    show (sortedHeap (s1.heap.push (seqObj "list" vs.toArray 0)) s1.heap.objs.size vs out.toArray).get? b = some u
    rw [sortedHeap_old (Nat.ne_of_lt lt_) (by rw [size_push']; exact Nat.lt_succ_of_lt lt_)]
    exact Heap.get?_push_of_some _ q
  · rw [pn.length_eq, List.length_map, Array.length_toList]
    exact r9
end
section
variable {X : Cx}
/-- set(ns), ns a list of ints -/
def rSetL (K : PySem.W.Frag) (w : World) : List V → Hp → VK → Prop := fun vs H Q => ∃ (a : Addr) (ns : List Int), vs = [V.ref a] ∧ SqL K H a (ns.map V.int) ∧ ns.length + 1 < scanBound ∧
  ∀ (p : Addr) (c : Nat), H p = none → c ≤ ns.length → Q (.ref p) (upd H p (SetO w p (fun j => decide (j ∈ ns)) c))
theorem cr_setL (hc : X.calm = true) : CallR X (.type "set") (rSetL X.K X.w) := by
  intro pins s σ H vs us Q I r h
  obtain ⟨a, ns, rfl, hs, few, q⟩ := h
  obtain ⟨its, rv, hl, hz⟩ := I.list hs
  rw [Vals.ref1 r]
  refine set_of_list ns (I.ok.hd hc) hl.isList rv.ints few fun g tk c sr cl kp => ?_
  have hn : H s.heap.objs.size = none := I.hok.fresh (Nat.le_refl _)
  refine ⟨.ref _, upd H s.heap.objs.size (SetO X.w s.heap.objs.size (fun j => decide (j ∈ ns)) c), I.laid (t' := tk) kp (Nat.le_refl _) (setO_new sr), rfl, q _ _ hn cl⟩
/-- sorted(S), S a set of ints -/
def rSrtS (w : World) : List V → Hp → VK → Prop := fun vs H Q => ∃ (a : Addr) (S : Int → Bool) (n : Nat), vs = [V.ref a] ∧ H a = some (SetO w a S n) ∧
  ∀ (ns : List Int) (p : Addr), ns.Pairwise (· < ·) → (∀ k : Int, k ∈ ns ↔ S k = true) → ns.length = n → ns.length ≤ 4096 → H p = none → Q (.ref p) (upd H p (.lst (ns.map V.int)))
theorem cr_srtS (hc : X.calm = true) : CallR X (.builtin "sorted") (rSrtS X.w) := by
  intro pins s σ H vs us Q I r h
  obtain ⟨a, S, n, rfl, ha, q⟩ := h
  have R := setO_get I ha
  have nb : n < scanBound := by
    obtain ⟨o, es, ep, t, r1, r2, r3, r4, r5, r6, r7, r8, r9, _⟩ := R
    rw [← r9]
    exact r7
  rw [Vals.ref1 r]
  refine sorted_of_set R (I.ok.hd hc) fun s' p out c ns k g o hp hg hi hs hm hl => ?_
  have hlen : (ns.map V.int).length ≤ sizeLine := by
    rw [List.length_map, hl]
    exact fits_of_scanBound nb
  have hn : H p = none := I.hok.fresh hp
  have J : Inv X pins σ (upd H p (.lst (ns.map V.int))) { s with heap := s'.heap, gens := s'.gens, drawn := s'.drawn, toks := s'.toks } :=
    I.call (ch := []) (Un.laid k hp hn) (I.hok.laid k hp ⟨hlen, out.toList, c, vals_of_ints hi, hg⟩) (by rw [g]; exact I.bare) (fun _ z => nomatch z)
  have e : s' = { s with heap := s'.heap, gens := s'.gens, drawn := s'.drawn, toks := s'.toks } := by
    cases s'
    cases s
    cases o
    rfl
  rw [e]
  exact ⟨.ref p, _, J, rfl, q ns p hs hm hl (by rw [hl]; exact Nat.le_of_lt nb) hn⟩
end
end STL

set_option Elab.async false
set_option linter.all false
set_option maxRecDepth 100000
set_option maxHeartbeats 4000000
/-! sure_laps. -/
namespace K02
open PySem PySem.Spec L2
open PyProof.Rows GenW GxR
open LamX (ExtN)
open EZ STL
abbrev sSureLaps : Stmt := top 31 -- sure_laps
/-- all tuples stay -/
def TupKeep (H H' : Hp) : Prop := ∀ t xs, H t = some (.tup xs) → H' t = some (.tup xs)
theorem TupKeep.of {H H' : Hp} (s : Same H H') : TupKeep H H' := fun _ _ e => s _ _ e
theorem TupKeep.upd {H : Hp} {a : Addr} {o o' : HO} (e : H a = some o) (n : ∀ xs, o ≠ .tup xs) : TupKeep H (L2.upd H a o') := fun t xs z => by
  rw [upd_ne fun q => by
    rw [q, e] at z
    exact n _ (Option.some.inj z)]
  exact z
theorem TupKeep.trans {H H1 H2 : Hp} (a : TupKeep H H1) (b : TupKeep H1 H2) : TupKeep H H2 := fun t xs e => b t xs (a t xs e)
def PairAt (H : Hp) (v : V) (p : Nat × Bool) : Prop := ∃ t, v = .ref t ∧ H t = some (.tup [.int (p.1 : Int), bitV p.2])
theorem PairAt.keep {H H' : Hp} {v : V} {p : Nat × Bool} (h : PairAt H v p) (k : TupKeep H H') : PairAt H' v p := by
  obtain ⟨t, a, b⟩ := h
  exact ⟨t, a, k _ _ b⟩
theorem pairs_keep {H H' : Hp} {us : List V} {lap : Lap} (h : AllAt PairAt H us lap) (k : TupKeep H H') : AllAt PairAt H' us lap := all_ext (fun _ _ r => r.keep k) h
def LapAt (N : Addr → Prop) (H : Hp) (v : V) (lap : Lap) : Prop := ∃ a us, v = .ref a ∧ N a ∧ H a = some (.lst us) ∧ AllAt PairAt H us lap
theorem LapAt.keep {N : Addr → Prop} {H H' : Hp} {v : V} {lap : Lap} (h : LapAt N H v lap) (k : TupKeep H H') (kl : ∀ a us, N a → H a = some (.lst us) → H' a = some (.lst us)) : LapAt N H' v lap := by
  obtain ⟨a, us, e, n, b, c⟩ := h
  exact ⟨a, us, e, n, kl _ _ n b, pairs_keep c k⟩
theorem laps_keep {N : Addr → Prop} {H H' : Hp} {vs : List V} {laps : List Lap} (h : AllAt (LapAt N) H vs laps) (k : TupKeep H H') (kl : ∀ a us, N a → H a = some (.lst us) → H' a = some (.lst us)) : AllAt (LapAt N) H' vs laps := all_ext (fun _ _ r => r.keep k kl) h
theorem LapAt.weak {N M : Addr → Prop} {H : Hp} {v : V} {lap : Lap} (h : LapAt N H v lap) (k : ∀ a, N a → M a) : LapAt M H v lap := by
  obtain ⟨a, us, e, n, b, c⟩ := h
  exact ⟨a, us, e, k _ n, b, c⟩
theorem paired_snoc {α β : Type} {R : α → β → Prop} {a : α} {b : β} : ∀ {xs : List α} {ys : List β}, Paired R xs ys → R a b → Paired R (xs ++ [a]) (ys ++ [b])
  | _, _, .nil, r => .cons r .nil
  | _, _, .cons h t, r => .cons h (paired_snoc t r)
theorem paired_imp {α β : Type} {R S : α → β → Prop} (f : ∀ a b, R a b → S a b) : ∀ {xs : List α} {ys : List β}, Paired R xs ys → Paired S xs ys
  | _, _, .nil => .nil
  | _, _, .cons h t => .cons (f _ _ h) (paired_imp f t)
theorem nV_int (ns : List Nat) : nV ns = (ns.map fun n : Nat => (n : Int)).map V.int := by
  unfold nV
  rw [List.map_map]
  rfl
theorem nV_len (ns : List Nat) : (nV ns).length = ns.length := List.length_map ..
theorem nV_get {ns : List Nat} {i : Nat} {x : V} (h : (nV ns)[i]? = some x) : ∃ n : Nat, ns[i]? = some n ∧ x = .int (n : Int) := by
  unfold nV at h
  rw [List.getElem?_map] at h
  obtain ⟨p, hp, e⟩ := Option.map_eq_some_iff.mp h
  exact ⟨p, hp, e.symm⟩
theorem rep_none (n : Nat) : (List.replicate n [V.non]).flatten = (List.replicate n (none : Rd)).map rdV := by
  induction n with
  | zero => rfl
  | succ n ih =>
    rw [List.replicate_succ, List.flatten_cons, ih, List.replicate_succ]
    rfl
theorem rgV_nV (n : Nat) : rgV 0 (n : Int) = nV (List.range n) := by
  unfold rgV nV
  have e : ((n : Int) - 0).toNat = n := by omega
  rw [e]
  exact map_congr_mem fun x _ => by rw [Int.zero_add]
/-- rising whole numbers whose members are these -/
theorem ints_nats {ns : List Int} {acc : List Nat} (h : ∀ k : Int, k ∈ ns ↔ k ∈ acc.map fun n : Nat => (n : Int)) (asc : ns.Pairwise (· < ·)) : ∃ ms : List Nat, ns.map V.int = nV ms ∧ ms.Pairwise (· < ·) ∧ ∀ i, i ∈ ms ↔ i ∈ acc := by
  have nn : ∀ k ∈ ns, 0 ≤ k := fun k hk => by
    obtain ⟨n, _, rfl⟩ := List.mem_map.mp ((h k).mp hk)
    exact Int.natCast_nonneg n
  refine ⟨ns.map Int.toNat, ?_, ?_, fun i => ?_⟩
  · unfold nV
    rw [List.map_map]
    exact map_congr_mem fun k hk => by
      show V.int k = V.int ((k.toNat : Nat) : Int)
      rw [Int.toNat_of_nonneg (nn k hk)]
  · refine List.pairwise_map.mpr (asc.imp_of_mem fun {a b} ha hb lt_ => ?_)
    have x := nn a ha
    have y := nn b hb
    omega
  · rw [List.mem_map]
    constructor
    · rintro ⟨k, hk, rfl⟩
      obtain ⟨n, hn, e⟩ := List.mem_map.mp ((h k).mp hk)
      rw [← e]
      exact hn
    · intro hi
      exact ⟨(i : Int), (h _).mpr (List.mem_map.mpr ⟨i, hi, rfl⟩), rfl⟩
theorem asc_nodup : ∀ {l : List Nat}, l.Pairwise (· < ·) → l.Nodup := fun h => h.imp fun {a b} lt_ z => by omega
theorem asc_len : ∀ {l : List Nat} {a n : Nat}, l.Pairwise (· < ·) → (∀ x ∈ l, a ≤ x ∧ x < n) → l.length ≤ n - a
  | [], _, _, _, _ => Nat.zero_le _
  | x :: r, a, n, h, m => by
    obtain ⟨h1, h2⟩ := List.pairwise_cons.mp h
    have hx := m x List.mem_cons_self
    have ih := asc_len (a := x + 1) (n := n) h2 fun y hy => ⟨h1 y hy, (m y (List.mem_cons_of_mem _ hy)).2⟩
    rw [List.length_cons]
    omega
theorem lapOf_asc (gs : List Gate) (gv hv F : List Rd) : ((lapOf gs gv hv F).map (·.1)).Nodup := by
  refine asc_nodup ?_
  unfold lapOf
  generalize hr : List.range gs.length = l
  have asc : l.Pairwise (· < ·) := by
    rw [← hr]
    exact List.pairwise_lt_range
  clear hr
  induction l with
  | nil => exact List.Pairwise.nil
  | cons a r ih =>
    obtain ⟨h1, h2⟩ := List.pairwise_cons.mp asc
    cases e : getsF gs gv hv F a with
    | none =>
      rw [List.filterMap_cons_none e]
      exact ih h2
    | some p =>
      rw [List.filterMap_cons_some e, List.map_cons]
      refine List.pairwise_cons.mpr ⟨fun x hx => ?_, ih h2⟩
      obtain ⟨q, hq, rfl⟩ := List.mem_map.mp hx
      obtain ⟨i, hi, e2⟩ := List.mem_filterMap.mp hq
      rw [(gets_some.mp e).1, (gets_some.mp e2).1]
      exact h1 i hi
theorem nodup_take {l : List Nat} (h : l.Nodup) (i : Nat) : (l.take i).Nodup := h.sublist (List.take_sublist i l)
theorem rdV_isN {r : Rd} : decide (rdV r = .non) = r.isNone := by
  cases r with
  | none => rfl
  | some c => cases c <;> rfl
section
variable {P : Program} {w : World} {K : PySem.W.Frag} {mg : Str → Option Value} {base : Heap}
def spLaps (K : PySem.W.Frag) : Sp := fun vs H Q _ => ∃ (y : V) (C : Circ) (ga ha : Addr) (gv hv : List Rd), vs = [y, .ref ga, .ref ha] ∧ CircAt H y C ∧ C.ok ∧ gv.length = C.ni ∧ hv.length = C.regs.length ∧ SqT K H ga (gv.map rdV) ∧ SqT K H ha (hv.map rdV) ∧ fanG C.gates ≤ 4000 ∧
  ∀ (r : Addr) (us : List V) (H' : Hp), Same H H' → H r = none → H' r = some (.lst us) → AllAt (LapAt fun a => H a = none) H' us (lapsAll C.gates gv hv) → Q (.ref r) H'
abbrev nSL : List Str := ["circuit", "given", "held", "readers", "found", "waiting", "told", "lap", "gate", "reading", "bit", "near", "_", "reader"]
theorem scSL : FnScope nSL ["circuit", "given", "held"] (defScope sSureLaps) := ⟨rfl, rfl, rfl, by decide +kernel, rfl, by decide +kernel, by decide +kernel⟩
theorem ok_sureLaps {f fR fN : Addr} {fd fdR fdN : FuncData} (F : Fun K "sure_laps" "sure_laps" sSureLaps f fd) (mlen : mg "len" = none) (mlist : mg "list" = none) (mrange : mg "range" = none) (msorted : mg "sorted" = none) (mset : mg "set" = none)
    (GR : FnOk P w K mg base CX0 1 fR fdR ["circuit"] spReadersG) (kR : PySem.W.keepIn K (.ref fR) = true) (bR : Binds K fdR ["circuit"] []) (mR : mg "gate_readers" = some (.ref fR))
    (GN : FnOk P w K mg base CX0 2 fN fdN ["circuit", "gate", "given", "held", "gates"] (spGateNow K)) (kN : PySem.W.keepIn K (.ref fN) = true) (bN : Binds K fdN ["circuit", "gate", "given", "held", "gates"] []) (mN : mg "gate_now" = some (.ref fN)) :
    FnOk P w K mg base CX0 3 f fd ["circuit", "given", "held"] (spLaps K) := by
  refine F.ok scSL (fun vs H Q E h => ?_) (fun cdv A outer s H vs Q E hr h => ?_)
  · obtain ⟨y, C, ga, ha, gv, hv, rfl, _⟩ := h
    rfl
  · obtain ⟨y, C, ga, ha, gv, hv, rfl, hC, ok, lgv, lhv, hg, hh, fan, q⟩ := h
    refine ⟨_, pss_cons (ps_set (i := 3) scSL.nd rfl (Or.inr rfl) (pe_call GR (hr.mono (by decide)) (by rfl) mR kR bR .nil pass0 (pa_cons (pv 0) pa_nil)))
      (pss_cons (ps_set (i := 4) scSL.nd rfl (Or.inr rfl) (pe_op op_rep (pe_lst (pa_cons pe_non pa_nil)) (pe_callB call_len_seq (by rfl) mlen PySem.boot_len (pa_cons (pe_ix (r := rIxT K) ix_tup (pv 0) pe_int (fun _ _ => rfl)) pa_nil))))
      (pss_cons (ps_set (i := 5) scSL.nd rfl (Or.inl rfl) (pe_listRg rfl (by rfl) mlist (prg_1 (by rfl) mrange (pe_callB call_len_seq (by rfl) mlen PySem.boot_len (pa_cons (pe_ix (r := rIxT K) ix_tup (pv 0) pe_int (fun _ _ => rfl)) pa_nil)))))
      (pss_cons (ps_set (i := 6) scSL.nd rfl (Or.inl rfl) (pe_lst pa_nil))
      (pss_one (ps_while PassesOwn.never (pt_val pe_bl)
        (pss_cons (ps_set (i := 7) scSL.nd rfl (Or.inl rfl) (pe_lst pa_nil))
        (pss_cons (ps_for PassesOwn.never rfl (pi_list (pv 5)) (pg_name (i := 8) scSL.nd rfl (Or.inl rfl))
          (pss_cons (ps_set (i := 9) scSL.nd rfl (Or.inl rfl) (pe_call GN hr (by rfl) mN kN bN .nil pass0 (pa_cons (pv 0) (pa_cons (pv 8) (pa_cons (pv 1) (pa_cons (pv 2) (pa_cons (pv 4) pa_nil)))))))
          (pss_one (ps_if (pt_cmpR op_notN (pv 9) pe_non (nomark _)) (pss_one (ps_expr (pe_bm PySem.F.plainAttrs_list PySem.F.slot_list_append PySem.F.type_list_append mt_append (pv 7) (pa_cons (pe_tup (pa_cons (pv 8) (pa_cons (pv 9) pa_nil))) pa_nil)))) pss_nil))))
        (pss_cons (ps_if (pt_not (pt_truth (pv 7) (fun _ => rfl))) (pss_one (ps_ret (pv 6))) pss_nil)
        (pss_cons (ps_expr (pe_bm PySem.F.plainAttrs_list PySem.F.slot_list_append PySem.F.type_list_append mt_append (pv 6) (pa_cons (pv 7) pa_nil)))
        (pss_cons (ps_for PassesOwn.never rfl (pi_list (pv 7)) (pg_tup rfl (pgs_cons (pg_name (i := 8) scSL.nd rfl (Or.inl rfl)) (pgs_cons (pg_name (i := 10) scSL.nd rfl (Or.inl rfl)) pgs_nil)))
          (pss_one (ps_asg (pv 10) (pg_sub (pv 4) (pv 8) set_list))))
        (pss_cons (ps_setLc2 (i := 11) (own := [("gate", 8), ("_", 12), ("reader", 13)]) (vs1 := [13]) (g := gTup K 2 (gCons (gName 8) (gCons (gName 12) gNil))) (g1 := gName 13) (wi1 := iList K _) (tt := tYes) rfl scSL.nd rfl rfl (sw_true rfl rfl rfl (by decide +kernel)) (pi_list (pv 7)) (blkOk_by (N := nSL) (sc := defScope sSureLaps) (by decide +kernel)) (by decide)
            (fun _ _ _ _ _ => pg_tup rfl (pgs_cons (pg_name (i := 8) scSL.nd rfl (Or.inl rfl)) (pgs_cons (pg_name (i := 12) scSL.nd rfl (Or.inl rfl)) pgs_nil))) (fun _ _ _ _ _ => pts_nil)
            (fun _ _ _ _ _ => pi_list (pe_ix (r := rIxL K) ix_list (pv 3) (pv 8) (fun _ _ => rfl))) (fun _ _ _ _ _ => pg_name (i := 13) scSL.nd rfl (Or.inl rfl))
            (fun _ _ _ _ _ => pts_one (pt_cmpR op_isN (pe_ix (r := rIxL K) ix_list (pv 4) (pv 13) (fun _ _ => rfl)) pe_non (nomark _))) (fun _ _ _ _ _ => pv 13))
        (pss_one (ps_set (i := 5) scSL.nd rfl (Or.inl rfl) (pe_callB (cr_srtS rfl) (by rfl) msorted (by decide +kernel) (pa_cons (pe_callTy (cr_setL rfl) (by rfl) mset (by decide +kernel) (pa_cons (pv 11) pa_nil)) pa_nil))))))))))))))), ?_⟩
    have hC' := hC
    obtain ⟨t, ra, gaa, oa, rs, gs, os, rfl, et, er, eg, eo, hrs, hgs, hos⟩ := hC'
    have lg : gs.length = C.gates.length := Paired.length hgs
    have k3 := ok.ng
    -- readers, found, waiting, told
    refine ⟨_, rfl, .ref t, C, rfl, hC, ok, fun R las rd H1 r ll mem rlen rtot => ?_⟩
    have s01 : Same H H1 := r.keep
    refine ⟨(by show 1 ≤ sizeLine; decide), fun p np => ?_⟩
    refine ⟨_, rfl, t, _, 2, .ref gaa, rfl, rfl, .inl (.inl (same_new np _ _ (s01 _ _ et))), rfl, gaa, gs, rfl, .inr (.inl (.inl (same_new np _ _ (s01 _ _ eg)))), p, _, [V.non], rfl, rfl, upd_same, by omega, by omega, ?_, fun fa nfa => ?_⟩
    · rw [sizeLine_eq]
      show 1 * ((gs.length : Int)).toNat ≤ _
      omega
    have n1p : Same H1 (L2.upd H1 p (.lst [V.non])) := same_new np
    generalize hHp : L2.upd H1 p (.lst [V.non]) = Hp1 at nfa n1p
    have e2 : (L2.upd Hp1 fa (.lst (List.replicate ((gs.length : Int)).toNat [V.non]).flatten)) fa = some (.lst ((List.replicate C.gates.length (none : Rd)).map rdV)) := by
      rw [upd_same, Int.toNat_natCast, lg, rep_none]
    have s12 : Same H1 (L2.upd Hp1 fa (.lst (List.replicate ((gs.length : Int)).toNat [V.non]).flatten)) := n1p.trans (same_new nfa)
    have n1fa : H1 fa = none := n1p.free nfa
    generalize L2.upd Hp1 fa (.lst (List.replicate ((gs.length : Int)).toNat [V.non]).flatten) = H2 at e2 s12
    clear hHp n1p nfa np
    refine ⟨_, rfl, t, _, 2, .ref gaa, rfl, rfl, .inl (.inl (s12 _ _ (s01 _ _ et))), rfl, gaa, gs, rfl, .inr (.inl (.inl (s12 _ _ (s01 _ _ eg)))), _, rfl, RgOk.of_le (by decide) (by omega) (by decide) (by omega), fun wa nwa => ?_⟩
    have e3 : (L2.upd H2 wa (.lst (rgV 0 (gs.length : Int)))) wa = some (.lst (nV (List.range C.gates.length))) := by rw [upd_same, lg, rgV_nV]
    have s23 : Same H2 (L2.upd H2 wa (.lst (rgV 0 (gs.length : Int)))) := same_new nwa
    generalize L2.upd H2 wa (.lst (rgV 0 (gs.length : Int))) = H3 at e3 s23
    refine ⟨Nat.zero_le _, fun ta nta => ?_⟩
    have s34 : Same H3 (L2.upd H3 ta (.lst [])) := same_new nta
    have e4 : (L2.upd H3 ta (.lst [])) ta = some (.lst []) := upd_same
    have n1ta : H1 ta = none := s12.free (s23.free nta)
    have fata : fa ≠ ta := fun z => by
      have := s23 _ _ e2
      rw [z, nta] at this
      cases this
    generalize L2.upd H3 ta (.lst []) = H4 at e4 s34
    have n0ta : H ta = none := s01.free n1ta
    -- while True
    refine ⟨fun m σ Hx => ∃ (F : List Rd) (ns : List Nat) (vs : List V) (laps : List Lap) (wa : Addr) (y7 y8 y9 y10 y11 : Option V), σ = [some (.ref t), some (.ref ga), some (.ref ha), some (.ref R), some (.ref fa), some (.ref wa), some (.ref ta), y7, y8, y9, y10, y11, none, none] ∧
        m = openN F ∧ Same H1 Hx ∧ Hx fa = some (.lst (F.map rdV)) ∧ Hx ta = some (.lst vs) ∧ AllAt (LapAt fun a => a ≠ fa ∧ a ≠ ta ∧ H1 a = none) Hx vs laps ∧ Hx wa = some (.lst (nV ns)) ∧ ns.Pairwise (· < ·) ∧ (∀ i ∈ ns, F.getD i none = none ∧ i < C.gates.length) ∧
        (∀ i, Ripe C.gates gv hv F i → i ∈ ns) ∧ laps ++ lapsL C.gates gv hv C.gates.length F = lapsAll C.gates gv hv ∧ F.length = C.gates.length ∧ laps.length + openN F ≤ C.gates.length,
      ⟨_, _, _, _, _, _, _, _, _, _, _, rfl, rfl, (s12.trans s23).trans s34, s34 _ _ (s23 _ _ e2), e4, .nil, s34 _ _ e3, List.pairwise_lt_range, fun i hi => ⟨getD_rep _ _, List.mem_range.mp hi⟩, fun i hi => ?_, rfl, List.length_replicate, ?_⟩, fun m σ Hx hW => ?_⟩
    · exact List.mem_range.mpr (Classical.byContradiction fun z => hi.2 (readG_none_of_ge z))
    · have z := openN_len (List.replicate C.gates.length (none : Rd))
      rw [List.length_replicate] at z
      show 0 + _ ≤ _
      omega
    obtain ⟨F, ns, vs, laps, wa, y7, y8, y9, y10, y11, rfl, rfl, s1x, efa, eta, hlaps, ewa, asc, hns, ripe, hall, lF, hfew⟩ := hW
    have lvs : vs.length = laps.length := Paired.length hlaps
    have sx : Same H Hx := s01.trans s1x
    refine ⟨true, rfl, iteT ⟨fun σ' H' => ∃ (F' : List Rd) (ns : List Nat) (vs : List V) (laps : List Lap) (wa : Addr) (y7 y8 y9 y10 y11 : Option V), σ' = [some (.ref t), some (.ref ga), some (.ref ha), some (.ref R), some (.ref fa), some (.ref wa), some (.ref ta), y7, y8, y9, y10, y11, none, none] ∧
        openN F' < openN F ∧ Same H1 H' ∧ H' fa = some (.lst (F'.map rdV)) ∧ H' ta = some (.lst vs) ∧ AllAt (LapAt fun a => a ≠ fa ∧ a ≠ ta ∧ H1 a = none) H' vs laps ∧ H' wa = some (.lst (nV ns)) ∧ ns.Pairwise (· < ·) ∧ (∀ i ∈ ns, F'.getD i none = none ∧ i < C.gates.length) ∧
        (∀ i, Ripe C.gates gv hv F' i → i ∈ ns) ∧ laps ++ lapsL C.gates gv hv C.gates.length F' = lapsAll C.gates gv hv ∧ F'.length = C.gates.length ∧ laps.length + openN F' ≤ C.gates.length,
      fun σ' H' ⟨F', ns, vs, laps, wa, a7, a8, a9, a10, a11, b1, b2, b3⟩ => ⟨openN F', b2, F', ns, vs, laps, wa, a7, a8, a9, a10, a11, b1, rfl, b3⟩, ?_⟩⟩
    -- lap = []
    refine ⟨Nat.zero_le _, fun la nla => ?_⟩
    have fala : fa ≠ la := fun z => by
      rw [z, nla] at efa
      cases efa
    have tala : ta ≠ la := fun z => by
      rw [z, nla] at eta
      cases eta
    have n1la : H1 la = none := s1x.free nla
    -- for gate in waiting
    refine ⟨_, rfl, wa, rfl, ⟨nV ns, .inl (.inl (same_new nla _ _ ewa))⟩, for_list (fun i σ Hy => ∃ (y8 y9 : Option V) (us : List V), σ = [some (.ref t), some (.ref ga), some (.ref ha), some (.ref R), some (.ref fa), some (.ref wa), some (.ref ta), some (.ref la), y8, y9, y10, y11, none, none] ∧
        Same Hx Hy ∧ Hy la = some (.lst us) ∧ AllAt PairAt Hy us ((ns.take i).filterMap (getsF C.gates gv hv F)) ∧ us.length ≤ i)
      ⟨y8, y9, [], rfl, same_new nla, upd_same, .nil, Nat.le_refl _⟩ (fun i σ Hy _ ⟨_, _, _, _, k, _⟩ => .inl (.inl (k _ _ ewa))) (fun i x σ Hy hx ⟨y8, y9, us, eσ, k, ela, hus, hul⟩ => ?_) (fun σ Hy ⟨y8, y9, us, eσ, k, ela, hus, hul⟩ => ?_)⟩
    · subst eσ
      obtain ⟨g, hgi, rfl⟩ := nV_get hx
      have hg0 := hns g (List.mem_of_getElem? hgi)
      have tk := take_snoc hgi
      have hgt : C.gates[g]? = some C.gates[g] := List.getElem?_eq_getElem hg0.2
      have gok := ok.gates _ (List.mem_of_getElem? hgt)
      have sy : Same H Hy := sx.trans k
      refine ⟨_, rfl, _, rfl, _, rfl, _, rfl, _, rfl, .ref t, C, g, C.gates[g], ga, ha, fa, gv, hv, F, rfl, hC.ext (extN_same sy), hgt, ?_, extN_seqT (extN_same sy) hg, extN_seqT (extN_same sy) hh, k _ _ efa, fun Hz sz => ?_⟩
      · rw [lgv, lhv, lF]
        exact gok
      have er_ : gateV gv hv F C.gates[g] = readG C.gates gv hv F g := by
        unfold readG
        rw [hgt]
      rw [er_]
      refine ⟨_, rfl, rfl, _, rfl, ?_⟩
      have ge : getsF C.gates gv hv F g = (readG C.gates gv hv F g).map fun b => (g, b) := by
        unfold getsF
        rw [hg0.1]
      cases er2 : readG C.gates gv hv F g with
      | none =>
        rw [er2] at ge
        refine iteF ⟨_, _, us, rfl, k.trans sz, sz _ _ ela, ?_, Nat.le_succ_of_le hul⟩
        rw [tk, List.filterMap_append, List.filterMap_cons_none ge, List.filterMap_nil, List.append_nil]
        exact pairs_keep hus (.of sz)
      | some b =>
        rw [er2] at ge
        have nb : decide (rdV (some b) = V.non) = false := by cases b <;> rfl
        rw [nb]
        refine iteT ⟨_, rfl, .inl ⟨rfl, us, .inl (.inl (sz _ _ ela))⟩, _, rfl, _, rfl, (by show 2 ≤ sizeLine; decide), fun p np => ?_⟩
        have sp := same_new (o := .tup [.int (g : Int), rdV (some b)]) np
        have epp : (L2.upd Hz p (.tup [.int (g : Int), rdV (some b)])) p = some (.tup [.int (g : Int), rdV (some b)]) := upd_same
        generalize L2.upd Hz p (.tup [.int (g : Int), rdV (some b)]) = Hq at sp epp
        have skq : Same Hy Hq := sz.trans sp
        have elq := skq _ _ ela
        refine ⟨la, us, _, rfl, rfl, elq, ?_, _, _, us ++ [.ref p], rfl, fun c o e => ?_, upd_same, ?_, ?_⟩
        · rw [sizeLine_eq]
          have : ns.length ≤ C.gates.length - 0 := asc_len asc fun x hx => ⟨Nat.zero_le _, (hns x hx).2⟩
          have hlt : i < ns.length := (List.getElem?_eq_some_iff.mp hgi).1
          omega
        · rw [upd_ne (ne_of_none e nla)]
          exact skq _ _ (k _ _ e)
        · rw [tk, List.filterMap_append, List.filterMap_cons_some ge, List.filterMap_nil]
          have tu : TupKeep Hq (L2.upd Hq la (.lst (us ++ [.ref p]))) := TupKeep.upd elq fun xs z => by cases z
          exact paired_snoc (pairs_keep hus ((TupKeep.of skq).trans tu)) ⟨p, rfl, tu _ _ epp⟩
        · rw [List.length_append]
          show us.length + 1 ≤ i + 1
          omega
    subst eσ
    rw [nV_len, List.take_length, lapOf_waiting asc ripe] at hus
    have lus : us.length = (lapOf C.gates gv hv F).length := Paired.length hus
    have sy : Same H Hy := sx.trans k
    -- if not lap: return told
    have klap : ∀ (a : Addr) (zs : List V), (a ≠ fa ∧ a ≠ ta ∧ H1 a = none) → Hx a = some (.lst zs) → Hy a = some (.lst zs) := fun a zs _ e => k _ _ e
    by_cases hnil : lapOf C.gates gv hv F = []
    · have un : us = [] := by
        cases us with
        | nil => rfl
        | cons a r => rw [hnil] at lus; cases lus
      rw [lapsL_nil hnil, List.append_nil] at hall
      have hl2 : AllAt (LapAt fun a => a ≠ fa ∧ a ≠ ta ∧ H1 a = none) Hx vs (lapsAll C.gates gv hv) := by
        rw [← hall]
        exact hlaps
      have tr : TruV K (.ref la) Hy false := .inl ⟨us, .inl (.inl ela), by rw [un]; rfl⟩
      exact ⟨_, rfl, false, tr, iteT ⟨_, rfl, q ta vs Hy sy n0ta (k _ _ eta) (paired_imp (fun a b r => r.weak fun z hz => s01.free hz.2.2) (laps_keep hl2 (.of k) klap))⟩⟩
    · have un : us ≠ [] := fun z => hnil (List.length_eq_zero_iff.mp (by rw [← lus, z]; rfl))
      have tr : TruV K (.ref la) Hy true := .inl ⟨us, .inl (.inl ela), by
        cases us with
        | nil => exact absurd rfl un
        | cons a r => rfl⟩
      -- told.append(lap)
      refine ⟨_, rfl, true, tr, iteF ⟨_, rfl, .inl ⟨rfl, vs, .inl (.inl (k _ _ eta))⟩, _, rfl, ta, vs, _, rfl, rfl, k _ _ eta, (by rw [lvs, sizeLine_eq]; omega), ?_⟩⟩
      have efay := k _ _ efa
      have etay := k _ _ eta
      have keep2 : ∀ b o, b ≠ ta → Hy b = some o → (L2.upd Hy ta (.lst (vs ++ [.ref la]))) b = some o := fun b o n e => by
        rw [upd_ne n]
        exact e
      have tup2 : TupKeep Hy (L2.upd Hy ta (.lst (vs ++ [.ref la]))) := TupKeep.upd etay fun xs z => by cases z
      have eta2 : (L2.upd Hy ta (.lst (vs ++ [.ref la]))) ta = some (.lst (vs ++ [.ref la])) := upd_same
      generalize L2.upd Hy ta (.lst (vs ++ [.ref la])) = Ha at keep2 tup2 eta2
      have ela2 := keep2 _ _ tala.symm ela
      have efa2 := keep2 _ _ fata efay
      have hus2 := pairs_keep hus tup2
      -- found[gate] = bit
      refine ⟨_, rfl, la, rfl, ⟨us, .inl (.inl ela2)⟩, for_list (fun i σ Hz => ∃ (y8 y10 : Option V), σ = [some (.ref t), some (.ref ga), some (.ref ha), some (.ref R), some (.ref fa), some (.ref wa), some (.ref ta), some (.ref la), y8, y9, y10, y11, none, none] ∧
          (∀ b o, b ≠ fa → Ha b = some o → Hz b = some o) ∧ Hz fa = some (.lst ((putL F ((lapOf C.gates gv hv F).take i)).map rdV)) ∧ TupKeep Ha Hz)
        ⟨y8, y10, rfl, fun _ _ _ e => e, efa2, fun _ _ e => e⟩ (fun i σ Hz _ ⟨_, _, _, kz, _⟩ => .inl (.inl (kz _ _ fala.symm ela2))) (fun i x σ Hz hx ⟨y8, y10, eσ, kz, ez, tz⟩ => ?_) (fun σ Hz ⟨y8, y10, eσ, kz, ez, tz⟩ => ?_)⟩
      · subst eσ
        obtain ⟨⟨g, b⟩, hp, tt, rfl, ett⟩ := all_get hus2 hx
        have hm := lapOf_mem.mp (List.mem_of_getElem? hp)
        have lput : (putL F ((lapOf C.gates gv hv F).take i)).length = C.gates.length := by rw [putL_len, lF]
        refine ⟨tt, _, rfl, .inl (.inl (tz _ _ ett)), rfl, _, _, rfl, _, _, rfl, rfl, ?_⟩
        have hg2 : g < C.gates.length := hm.1
        have ixn : ixN ((putL F ((lapOf C.gates gv hv F).take i)).map rdV).length (g : Int) = some g := by
          unfold ixN
          rw [List.length_map, lput, if_pos (Int.natCast_nonneg g), if_pos (by omega)]
          rfl
        refine ⟨_, rfl, _, rfl, _, rfl, fa, _, (g : Int), g, rfl, rfl, ez, ixn, _, _, rfl, fun c o n e => ?_, ?_, tz.trans (TupKeep.upd ez fun xs z => by cases z)⟩
        · rw [upd_ne n]
          exact kz _ _ n e
        · rw [upd_same, take_snoc hp, putL_snoc, List.map_set]
          rfl
      · subst eσ
        rw [lus, List.take_length, putL_lap lF] at ez
        have keep5 : Same H1 Hz := fun b o e => kz _ _ (ne_of_none e n1fa) (keep2 _ _ (ne_of_none e n1ta) (k _ _ (s1x _ _ e)))
        have eR := keep5 _ _ r.all
        have erd : ∀ (i : Nat) (l : Addr), las[i]? = some l → Hz l = some (.lst (nV (rd i))) := fun i l hi => keep5 _ _ (r.at_ i l hi)
        have ela5 := kz _ _ fala.symm ela2
        have eta5 := kz _ _ fata.symm eta2
        have hus5 := pairs_keep hus2 tz
        have lF' : (lapF C.gates gv hv F).length = C.gates.length := lapF_len _ _ _ _
        have rlt : ∀ x g, x ∈ rd g → x < C.gates.length := fun x g hx => by
          obtain ⟨gt, e, _⟩ := (mem g x).mp hx
          exact (List.getElem?_eq_some_iff.mp e).1
        have nd : ∀ i, (((lapOf C.gates gv hv F).take i).map (·.1)).Nodup := fun i => by
          rw [List.map_take]
          exact nodup_take (lapOf_asc _ _ _ _) i
        -- near
        refine ⟨_, rfl, la, rfl, ⟨us, .inl (.inl ela5)⟩, fun D nD => ⟨fun i m Hc => m + i = us.length ∧ Same Hz Hc ∧ ∃ acc : List Nat, Hc D = some (.lst (nV acc)) ∧ acc.length ≤ tot rd (((lapOf C.gates gv hv F).take i).map (·.1)) ∧
            ∀ x, x ∈ acc ↔ ∃ g ∈ ((lapOf C.gates gv hv F).take i).map (·.1), x ∈ rd g ∧ (lapF C.gates gv hv F).getD x none = none,
          ⟨us.length, rfl, same_new nD, [], upd_same, Nat.zero_le _, fun x => by simp⟩, fun i m Hc hW => ?_⟩⟩
        obtain ⟨em, sc, acc, eD, few1, macc⟩ := hW
        have sq : SqL K Hc la us := .inl (.inl (sc _ _ ela5))
        by_cases hi : i < us.length
        · refine .inr ⟨⟨us, us[i], sq, List.getElem?_eq_getElem hi⟩, fun Hc' => Same Hz Hc' ∧ ∃ acc : List Nat, Hc' D = some (.lst (nV acc)) ∧ acc.length ≤ tot rd (((lapOf C.gates gv hv F).take (i + 1)).map (·.1)) ∧
              ∀ x, x ∈ acc ↔ ∃ g ∈ ((lapOf C.gates gv hv F).take (i + 1)).map (·.1), x ∈ rd g ∧ (lapF C.gates gv hv F).getD x none = none, fun H' x => ⟨m - 1, by omega, by omega, x⟩, fun y H' hy => ?_⟩
          obtain ⟨rfl, hy⟩ := hy
          have ey := hy _ sq
          obtain ⟨⟨g, b⟩, hp, tt, rfl, ett⟩ := all_get hus5 ey
          have hm := lapOf_mem.mp (List.mem_of_getElem? hp)
          have hg2 : g < C.gates.length := hm.1
          have hkl : las[g]? = some las[g] := List.getElem?_eq_getElem (by omega)
          have tsn : tot rd (((lapOf C.gates gv hv F).take (i + 1)).map (·.1)) = tot rd (((lapOf C.gates gv hv F).take i).map (·.1)) + (rd g).length := by
            rw [take_snoc hp]
            unfold tot
            rw [List.map_append, List.map_append, List.sum_append]
            show _ + ((rd g).length + 0) = _
            omega
          have msn : ∀ x, (∃ g ∈ ((lapOf C.gates gv hv F).take (i + 1)).map (·.1), x ∈ rd g ∧ (lapF C.gates gv hv F).getD x none = none) ↔ (∃ g ∈ ((lapOf C.gates gv hv F).take i).map (·.1), x ∈ rd g ∧ (lapF C.gates gv hv F).getD x none = none) ∨ (x ∈ rd g ∧ (lapF C.gates gv hv F).getD x none = none) := fun x => by
            rw [take_snoc hp, List.map_append]
            constructor
            · rintro ⟨g', hg', z⟩
              rcases List.mem_append.mp hg' with h | h
              · exact .inl ⟨g', h, z⟩
              · have h : g' = g := by simpa using h
                rw [h] at z
                exact .inr z
            · rintro (⟨g', hg', z⟩ | z)
              · exact ⟨g', List.mem_append_left _ hg', z⟩
              · exact ⟨g, List.mem_append_right _ (by simp), z⟩
          refine ⟨tt, _, rfl, .inl (.inl (sc _ _ ett)), rfl, _, _, rfl, _, _, rfl, rfl, rfl, ?_⟩
          refine ⟨_, rfl, _, rfl, R, _, (g : Int), .ref las[g], rfl, rfl, .inl (.inl (sc _ _ eR)), atI_nat (v := V.ref las[g]) (by rw [List.getElem?_map, hkl]; rfl), las[g], rfl, ⟨_, .inl (.inl (sc _ _ (erd _ _ hkl)))⟩, ?_⟩
          refine ⟨fun j k Hd => k + j = (rd g).length ∧ Same Hz Hd ∧ ∃ acc : List Nat, Hd D = some (.lst (nV acc)) ∧ acc.length ≤ tot rd (((lapOf C.gates gv hv F).take i).map (·.1)) + j ∧
              ∀ x, x ∈ acc ↔ (∃ g ∈ ((lapOf C.gates gv hv F).take i).map (·.1), x ∈ rd g ∧ (lapF C.gates gv hv F).getD x none = none) ∨ (x ∈ (rd g).take j ∧ (lapF C.gates gv hv F).getD x none = none),
            ⟨(rd g).length, rfl, sc, acc, eD, few1, fun x => by rw [macc]; simp⟩, fun j kk Hd hW => ?_⟩
          obtain ⟨em2, sd, acc2, eD2, few2, macc2⟩ := hW
          have sq2 : SqL K Hd las[g] (nV (rd g)) := .inl (.inl (sd _ _ (erd _ _ hkl)))
          have lnv := nV_len (rd g)
          by_cases hj : j < (rd g).length
          · refine .inr ⟨⟨nV (rd g), (nV (rd g))[j], sq2, List.getElem?_eq_getElem (by omega)⟩, fun Hd' => Same Hz Hd' ∧ ∃ acc : List Nat, Hd' D = some (.lst (nV acc)) ∧ acc.length ≤ tot rd (((lapOf C.gates gv hv F).take i).map (·.1)) + (j + 1) ∧
              ∀ x, x ∈ acc ↔ (∃ g ∈ ((lapOf C.gates gv hv F).take i).map (·.1), x ∈ rd g ∧ (lapF C.gates gv hv F).getD x none = none) ∨ (x ∈ (rd g).take (j + 1) ∧ (lapF C.gates gv hv F).getD x none = none), fun H' x => ⟨kk - 1, by omega, by omega, x⟩, fun y H' hy => ?_⟩
            obtain ⟨rfl, hy⟩ := hy
            have ey2 := hy _ sq2
            obtain ⟨x, hx, rfl⟩ := nV_get ey2
            have hxl := rlt x g (List.mem_of_getElem? hx)
            have tk := take_snoc hx
            refine ⟨rfl, _, rfl, _, rfl, fa, _, (x : Int), _, rfl, rfl, .inl (.inl (sd _ _ ez)), at_rd (by rw [lF']; exact hxl), rfl, _, rfl, ?_⟩
            rw [rdV_isN]
            cases ex : (lapF C.gates gv hv F).getD x none with
            | none =>
              refine iteT ⟨_, rfl, nV acc2, eD2, ?_, fun c o e => ?_, acc2 ++ [x], ?_, ?_, fun z => ?_⟩
              · have := nd i
                have z := rtot _ this
                have z2 : (rd g).length ≤ 8000 := rlen g
                rw [nV_len, sizeLine_eq]
                omega
              · rw [upd_ne (ne_of_none e nD)]
                exact sd _ _ e
              · rw [upd_same]
                unfold nV
                rw [List.map_append]
                rfl
              · rw [List.length_append]
                show acc2.length + 1 ≤ _
                omega
              · rw [List.mem_append, List.mem_singleton, macc2, tk, List.mem_append, List.mem_singleton]
                constructor
                · rintro ((z1 | z1) | z1)
                  · exact .inl z1
                  · exact .inr ⟨.inl z1.1, z1.2⟩
                  · exact .inr ⟨.inr z1, by rw [z1]; exact ex⟩
                · rintro (z1 | ⟨z1 | z1, z2⟩)
                  · exact .inl (.inl z1)
                  · exact .inl (.inr ⟨z1, z2⟩)
                  · exact .inr z1
            | some b2 =>
              refine iteF ⟨sd, acc2, eD2, Nat.le_succ_of_le few2, fun z => ?_⟩
              rw [macc2, tk, List.mem_append, List.mem_singleton]
              constructor
              · rintro (z1 | z1)
                · exact .inl z1
                · exact .inr ⟨.inl z1.1, z1.2⟩
              · rintro (z1 | ⟨z1 | z1, z2⟩)
                · exact .inl z1
                · exact .inr ⟨z1, z2⟩
                · rw [z1, ex] at z2
                  cases z2
          · refine .inl ⟨⟨nV (rd g), sq2, by omega⟩, sd, acc2, eD2, ?_, fun x => ?_⟩
            · rw [tsn]
              omega
            · rw [macc2, msn, List.take_of_length_le (show (rd g).length ≤ j by omega)]
        · refine .inl ⟨⟨us, sq, by omega⟩, ?_⟩
          rw [List.take_of_length_le (by omega)] at few1 macc
          have z4 := rtot _ (lapOf_asc C.gates gv hv F)
          have eDi : SqL K Hc D ((acc.map fun n : Nat => (n : Int)).map V.int) := .inl (.inl (by rw [← nV_int]; exact eD))
          refine ⟨_, rfl, D, acc.map fun n : Nat => (n : Int), rfl, eDi, ?_, fun p c np cl => ⟨p, _, c, rfl, upd_same, fun ns2 p2 asc2 mem2 len2 l4 np2 => ?_⟩⟩
          · rw [List.length_map]
            show _ < 4096
            omega
          obtain ⟨ms, ems, masc, mms⟩ := ints_nats (acc := acc) (fun kk => by rw [mem2, decide_eq_true_eq]) asc2
          have sc2 : Same Hc (L2.upd (L2.upd Hc p (SetO w p (fun j => decide (j ∈ acc.map fun n : Nat => (n : Int))) c)) p2 (.lst (ns2.map V.int))) := (same_new np).trans (same_new np2)
          have s5 := sc.trans sc2
          have lt_ := openN_lap (gv := gv) (hv := hv) lF hnil
          refine ⟨lapF C.gates gv hv F, ms, vs ++ [.ref la], laps ++ [lapOf C.gates gv hv F], p2, _, _, _, _, _, rfl, lt_, keep5.trans s5, s5 _ _ ez, s5 _ _ eta5, ?_, by rw [upd_same, ems], masc, fun i hi => ?_, fun i hri => ?_, ?_, lF', ?_⟩
          · refine paired_snoc (laps_keep hlaps ((TupKeep.of k).trans (tup2.trans (tz.trans (.of s5)))) fun a zs na e => s5 _ _ (kz _ _ na.1 (keep2 _ _ na.2.1 (k _ _ e)))) ⟨la, us, rfl, ⟨fala.symm, tala.symm, n1la⟩, s5 _ _ ela5, pairs_keep hus5 (.of s5)⟩
          · obtain ⟨g, _, x1, x2⟩ := (macc i).mp ((mms i).mp hi)
            exact ⟨x2, rlt i g x1⟩
          · obtain ⟨gt, kk, a1, a2, a3⟩ := ripe_next lF hri
            exact (mms i).mpr ((macc i).mpr ⟨kk, a3, (mem kk i).mpr ⟨gt, a1, a2⟩, hri.1⟩)
          · rw [List.append_assoc, ← hall]
            congr 1
            have lo := openN_len F
            have n0 : C.gates.length = (C.gates.length - 1) + 1 := by omega
            have e1 : lapsL C.gates gv hv C.gates.length F = lapOf C.gates gv hv F :: lapsL C.gates gv hv (C.gates.length - 1) (lapF C.gates gv hv F) := by
              rw [n0]
              show (if lapOf C.gates gv hv F = [] then [] else _) = _
              rw [if_neg hnil]
              rfl
            rw [e1, lapsL_enough C.gates.length (C.gates.length - 1) _ lF' (by omega) (by omega)]
            rfl
          · rw [List.length_append]
            show laps.length + 1 + _ ≤ _
            omega
end
end K02

set_option Elab.async false
set_option linter.all false
set_option maxRecDepth 100000
set_option maxHeartbeats 4000000
/-! sure_list, sure_readings, is_whole. -/
namespace K02
open PySem PySem.Spec L2
open PyProof.Rows GenW GxR
open LamX (ExtN)
open EZ STL
abbrev sSureList : Stmt := top 32 -- sure_list
abbrev sSureReadings : Stmt := top 34 -- sure_readings
abbrev sIsWhole : Stmt := top 35 -- is_whole
section
variable {P : Program} {w : World} {K : PySem.W.Frag} {mg : Str → Option Value} {base : Heap}
def spSureL (K : PySem.W.Frag) : Sp := fun vs H Q _ => ∃ (y : V) (C : Circ) (ga ha : Addr) (gv hv : List Rd), vs = [y, .ref ga, .ref ha] ∧ CircAt H y C ∧ C.ok ∧ gv.length = C.ni ∧ hv.length = C.regs.length ∧ SqT K H ga (gv.map rdV) ∧ SqT K H ha (hv.map rdV) ∧ fanG C.gates ≤ 4000 ∧
  ∀ (r : Addr) (H' : Hp), Same H H' → H r = none → H' r = some (.lst ((sureF C.gates gv hv).map rdV)) → Q (.ref r) H'
theorem scSureL : FnScope ["circuit", "given", "held", "found", "lap", "gate", "bit"] ["circuit", "given", "held"] (defScope sSureList) := ⟨rfl, rfl, rfl, by decide +kernel, rfl, by decide +kernel, by decide +kernel⟩
theorem ok_sureList {f fL : Addr} {fd fdL : FuncData} (F : Fun K "sure_list" "sure_list" sSureList f fd) (mlen : mg "len" = none)
    (GL : FnOk P w K mg base CX0 3 fL fdL ["circuit", "given", "held"] (spLaps K)) (kL : PySem.W.keepIn K (.ref fL) = true) (bL : Binds K fdL ["circuit", "given", "held"] []) (mL : mg "sure_laps" = some (.ref fL)) :
    FnOk P w K mg base CX0 4 f fd ["circuit", "given", "held"] (spSureL K) := by
  refine F.ok scSureL (fun vs H Q E h => ?_) (fun cdv A outer s H vs Q E hr h => ?_)
  · obtain ⟨y, C, ga, ha, gv, hv, rfl, _⟩ := h
    rfl
  · obtain ⟨y, C, ga, ha, gv, hv, rfl, hC, ok, lgv, lhv, hg, hh, fan, q⟩ := h
    refine ⟨_, pss_cons (ps_set (i := 3) scSureL.nd rfl (Or.inl rfl) (pe_op op_rep (pe_lst (pa_cons pe_non pa_nil)) (pe_callB call_len_seq (by rfl) mlen PySem.boot_len (pa_cons (pe_ix (r := rIxT K) ix_tup (pv 0) pe_int (fun _ _ => rfl)) pa_nil))))
      (pss_cons (ps_for PassesOwn.never rfl (pi_list (pe_call GL hr (by rfl) mL kL bL .nil pass0 (pa_cons (pv 0) (pa_cons (pv 1) (pa_cons (pv 2) pa_nil))))) (pg_name (i := 4) scSureL.nd rfl (Or.inl rfl))
        (pss_one (ps_for PassesOwn.never rfl (pi_list (pv 4)) (pg_tup rfl (pgs_cons (pg_name (i := 5) scSureL.nd rfl (Or.inl rfl)) (pgs_cons (pg_name (i := 6) scSureL.nd rfl (Or.inl rfl)) pgs_nil)))
          (pss_one (ps_asg (pv 6) (pg_sub (pv 3) (pv 5) set_list))))))
      (pss_one (ps_ret (pv 3)))), ?_⟩
    have hC' := hC
    obtain ⟨t, ra, gaa, oa, rs, gs, os, rfl, et, er, eg, eo, hrs, hgs, hos⟩ := hC'
    have lg : gs.length = C.gates.length := Paired.length hgs
    have k3 := ok.ng
    refine ⟨(by show 1 ≤ sizeLine; decide), fun p np => ?_⟩
    refine ⟨_, rfl, t, _, 2, .ref gaa, rfl, rfl, .inl (.inl (same_new np _ _ et)), rfl, gaa, gs, rfl, .inr (.inl (.inl (same_new np _ _ eg))), p, _, [V.non], rfl, rfl, upd_same, by omega, by omega, ?_, fun fa nfa => ?_⟩
    · rw [sizeLine_eq]
      show 1 * ((gs.length : Int)).toNat ≤ _
      omega
    have n1p : Same H (L2.upd H p (.lst [V.non])) := same_new np
    generalize L2.upd H p (.lst [V.non]) = Hp1 at nfa n1p
    have e2 : (L2.upd Hp1 fa (.lst (List.replicate ((gs.length : Int)).toNat [V.non]).flatten)) fa = some (.lst ((List.replicate C.gates.length (none : Rd)).map rdV)) := by
      rw [upd_same, Int.toNat_natCast, lg, rep_none]
    have s12 : Same H (L2.upd Hp1 fa (.lst (List.replicate ((gs.length : Int)).toNat [V.non]).flatten)) := n1p.trans (same_new nfa)
    have n1fa : H fa = none := n1p.free nfa
    generalize L2.upd Hp1 fa (.lst (List.replicate ((gs.length : Int)).toNat [V.non]).flatten) = H2 at e2 s12
    clear n1p nfa np
    have x12 := extN_same s12
    refine ⟨_, rfl, _, rfl, _, rfl, .ref t, C, ga, ha, gv, hv, rfl, hC.ext x12, ok, lgv, lhv, extN_seqT x12 hg, extN_seqT x12 hh, fan, fun r us H3 s23 nr er3 hlaps => ?_⟩
    have efa3 := s23 _ _ e2
    have far : fa ≠ r := fun z => by
      rw [← z, e2] at nr
      cases nr
    have s13 := s12.trans s23
    have lall : us.length = (lapsAll C.gates gv hv).length := Paired.length hlaps
    refine ⟨r, rfl, ⟨us, .inl (.inl er3)⟩, for_list (fun i σ Hx => ∃ (y4 y5 y6 : Option V), σ = [some (.ref t), some (.ref ga), some (.ref ha), some (.ref fa), y4, y5, y6] ∧ (∀ b o, b ≠ fa → H3 b = some o → Hx b = some o) ∧ Hx fa = some (.lst ((((lapsAll C.gates gv hv).take i).foldl putL (List.replicate C.gates.length (none : Rd))).map rdV)) ∧ TupKeep H3 Hx)
      ⟨_, _, _, rfl, fun _ _ _ e => e, efa3, fun _ _ e => e⟩ (fun i σ Hx _ ⟨_, _, _, _, kx, _⟩ => .inl (.inl (kx _ _ far.symm er3))) (fun i x σ Hx hx ⟨y4, y5, y6, eσ, kx, ex, tx⟩ => ?_) (fun σ Hx ⟨y4, y5, y6, eσ, kx, ex, tx⟩ => ?_)⟩
    · subst eσ
      obtain ⟨lap, hlap, la, zs, rfl, nla, ela, hzs⟩ := all_get hlaps hx
      have fala : fa ≠ la := fun z => by
        rw [← z, e2] at nla
        cases nla
      have elax := kx _ _ fala.symm ela
      have lF : (((lapsAll C.gates gv hv).take i).foldl putL (List.replicate C.gates.length (none : Rd))).length = C.gates.length := by
        generalize (lapsAll C.gates gv hv).take i = ls
        have gen : ∀ (ls : List Lap) (F : List Rd), (ls.foldl putL F).length = F.length := fun ls => by
          induction ls with
          | nil => exact fun F => rfl
          | cons a r ih =>
            intro F
            show (r.foldl putL (putL F a)).length = F.length
            rw [ih, putL_len]
        rw [gen, List.length_replicate]
      have lz : zs.length = lap.length := Paired.length hzs
      have hlt := lapsL_mem C.gates.length (List.replicate C.gates.length none) lap (List.mem_of_getElem? hlap)
      have tks := take_snoc hlap
      generalize hF : ((lapsAll C.gates gv hv).take i).foldl putL (List.replicate C.gates.length (none : Rd)) = F0 at ex lF
      refine ⟨_, rfl, la, rfl, ⟨zs, .inl (.inl elax)⟩, for_list (fun j σ Hy => ∃ (y5 y6 : Option V), σ = [some (.ref t), some (.ref ga), some (.ref ha), some (.ref fa), some (.ref la), y5, y6] ∧ (∀ b o, b ≠ fa → H3 b = some o → Hy b = some o) ∧ Hy fa = some (.lst ((putL F0 (lap.take j)).map rdV)) ∧ TupKeep H3 Hy)
        ⟨y5, y6, rfl, kx, ex, tx⟩ (fun j σ Hy _ ⟨_, _, _, ky, _⟩ => .inl (.inl (ky _ _ fala.symm ela))) (fun j x σ Hy hxj ⟨y5, y6, eσ, ky, ey, ty⟩ => ?_) (fun σ Hy ⟨y5, y6, eσ, ky, ey, ty⟩ => ?_)⟩
      · subst eσ
        obtain ⟨⟨g, b⟩, hp, tt, rfl, ett⟩ := all_get hzs hxj
        have hg2 : g < C.gates.length := hlt _ (List.mem_of_getElem? hp)
        have lput : (putL F0 (lap.take j)).length = C.gates.length := by rw [putL_len, lF]
        have ixn : ixN ((putL F0 (lap.take j)).map rdV).length (g : Int) = some g := by
          unfold ixN
          rw [List.length_map, lput, if_pos (Int.natCast_nonneg g), if_pos (by omega)]
          rfl
        refine ⟨tt, _, rfl, .inl (.inl (ty _ _ ett)), rfl, _, _, rfl, _, _, rfl, rfl, ?_⟩
        refine ⟨_, rfl, _, rfl, _, rfl, fa, _, (g : Int), g, rfl, rfl, ey, ixn, _, _, rfl, fun c o n e => ?_, ?_, ty.trans (TupKeep.upd ey fun xs z => by cases z)⟩
        · rw [upd_ne n]
          exact ky _ _ n e
        · rw [upd_same, take_snoc hp, putL_snoc, List.map_set]
          rfl
      · subst eσ
        refine ⟨_, _, _, rfl, ky, ?_, ty⟩
        rw [tks, List.foldl_append, hF]
        rw [lz, List.take_length] at ey
        exact ey
    · subst eσ
      rw [lall, List.take_length, lapsAll_put] at ex
      exact ⟨_, rfl, q fa Hx (fun b o e => kx _ _ (ne_of_none e n1fa) (s13 _ _ e)) n1fa ex⟩
/-- a def that first checks its case -/
def spCased (K : PySem.W.Frag) (TT : List Addr) (CC CG CH : Addr) (fin : Circ → List Rd → List Rd → Hp → VK → Prop) : Sp := fun vs H Q E => ∃ (y x1 x2 : V), vs = [y, x1, x2] ∧ ((Odd4 K H y ∧ E (.ref CC) none H) ∨ (∃ (C : Circ) (t1 t2 : String) (xs1 xs2 : List V), CircAt H y C ∧ C.ok ∧ fanG C.gates ≤ 4000 ∧ TabsG TT H ∧ ItemsV K H x1 t1 xs1 ∧ ItemsV K H x2 t2 xs2 ∧
  (okRd t1 xs1 C.ni = false → ∀ H', Ex TT H H' → E (.ref CG) none H') ∧ (okRd t1 xs1 C.ni = true → okRd t2 xs2 C.regs.length = false → ∀ H', Ex TT H H' → E (.ref CH) none H') ∧
  (∀ (gv hv : List Rd) H', t1 = "tuple" → t2 = "tuple" → xs1 = gv.map rdV → xs2 = hv.map rdV → gv.length = C.ni → hv.length = C.regs.length → Ex TT H H' → fin C gv hv H' Q)))
def finSure : Circ → List Rd → List Rd → Hp → VK → Prop := fun C gv hv H Q => ∀ (r : Addr) (H' : Hp), Same H H' → H r = none → H' r = some (.tup ((sureF C.gates gv hv).map rdV)) → Q (.ref r) H'
def finWhole : Circ → List Rd → List Rd → Hp → VK → Prop := fun C gv hv H Q => ∀ (H' : Hp), Same H H' → Q (.bl (!(sureF C.gates gv hv).any fun r => r.isNone)) H'
theorem scSureR : FnScope ["circuit", "given", "held"] ["circuit", "given", "held"] (defScope sSureReadings) := ⟨rfl, rfl, rfl, by decide +kernel, rfl, by decide +kernel, by decide +kernel⟩
theorem scIsWhole : FnScope ["circuit", "given", "held"] ["circuit", "given", "held"] (defScope sIsWhole) := ⟨rfl, rfl, rfl, by decide +kernel, rfl, by decide +kernel, by decide +kernel⟩
/-- what check_case asks, and what is known behind it -/
theorem case_to {TT : List Addr} {CC CG CH : Addr} {fin : Circ → List Rd → List Rd → Hp → VK → Prop} {y x1 x2 : V} {H : Hp} {Q : VK} {E : XK} {Qn : VK}
    (h : (Odd4 K H y ∧ E (.ref CC) none H) ∨ (∃ (C : Circ) (t1 t2 : String) (xs1 xs2 : List V), CircAt H y C ∧ C.ok ∧ fanG C.gates ≤ 4000 ∧ TabsG TT H ∧ ItemsV K H x1 t1 xs1 ∧ ItemsV K H x2 t2 xs2 ∧
      (okRd t1 xs1 C.ni = false → ∀ H', Ex TT H H' → E (.ref CG) none H') ∧ (okRd t1 xs1 C.ni = true → okRd t2 xs2 C.regs.length = false → ∀ H', Ex TT H H' → E (.ref CH) none H') ∧
      (∀ (gv hv : List Rd) H', t1 = "tuple" → t2 = "tuple" → xs1 = gv.map rdV → xs2 = hv.map rdV → gv.length = C.ni → hv.length = C.regs.length → Ex TT H H' → fin C gv hv H' Q)))
    (go : ∀ (C : Circ) (gv hv : List Rd) (ga ha : Addr) (H' : Hp), x1 = .ref ga → x2 = .ref ha → CircAt H' y C → C.ok → fanG C.gates ≤ 4000 → gv.length = C.ni → hv.length = C.regs.length → SqT K H' ga (gv.map rdV) → SqT K H' ha (hv.map rdV) → fin C gv hv H' Q → Qn .non H') :
    spCheckCase K TT CC CG CH [y, x1, x2] H Qn E := by
  refine ⟨y, x1, x2, rfl, ?_⟩
  rcases h with h | ⟨C, t1, t2, xs1, xs2, hC, ok, fan, hT, i1, i2, qG, qH, q⟩
  · exact .inl h
  · refine .inr ⟨C, t1, t2, xs1, xs2, hC, ok, hT, i1, i2, qG, qH, fun o1 o2 H' x => ?_⟩
    obtain ⟨e1, l1, gv, rfl⟩ := okRd_rds o1
    obtain ⟨e2, l2, hv, rfl⟩ := okRd_rds o2
    have n := x.extN hT
    rw [List.length_map] at l1 l2
    obtain ⟨ga, rfl, sg⟩ := i1.2.1 e1
    obtain ⟨ha, rfl, sh⟩ := i2.2.1 e2
    exact go C gv hv ga ha H' rfl rfl (hC.ext n) ok fan l1 l2 (extN_seqT n sg) (extN_seqT n sh) (q gv hv H' e1 e2 rfl rfl l1 l2 x)
theorem rd_flat (l : List Rd) : (l.map rdV).all flatV = true := List.all_eq_true.mpr fun y hy => by
  obtain ⟨r, _, rfl⟩ := List.mem_map.mp hy
  cases r <;> rfl
theorem rd_inN (l : List Rd) : inV .non (l.map rdV) = l.any fun r => r.isNone := by
  unfold inV
  rw [List.any_map]
  congr 1
  funext r
  cases r <;> rfl
theorem ok_sureReadings {TT : List Addr} {f fC fL CC CG CH : Addr} {fd fdC fdL : FuncData} (F : Fun K "sure_readings" "sure_readings" sSureReadings f fd) (mt : mg "tuple" = none)
    (GC : FnOk P w K mg base (L2.CX P w) 10 fC fdC ["circuit", "given", "held"] (spCheckCase K TT CC CG CH)) (kC : PySem.W.keepIn K (.ref fC) = true) (bC : Binds K fdC ["circuit", "given", "held"] []) (mC : mg "check_case" = some (.ref fC))
    (GL : FnOk P w K mg base CX0 4 fL fdL ["circuit", "given", "held"] (spSureL K)) (kL : PySem.W.keepIn K (.ref fL) = true) (bL : Binds K fdL ["circuit", "given", "held"] []) (mL : mg "sure_list" = some (.ref fL)) :
    FnOk P w K mg base (L2.CX P w) 11 f fd ["circuit", "given", "held"] (spCased K TT CC CG CH finSure) := by
  refine F.okX scSureR (fun vs H Q E h => ?_) (fun cdv A outer s H vs Q E hr h => ?_)
  · obtain ⟨y, x1, x2, rfl, h⟩ := h
    rfl
  · obtain ⟨y, x1, x2, rfl, h⟩ := h
    refine ⟨_, pss_cons (ps_expr (pe_callS GC hr (by rfl) mC kC bC (passAt (takes_of rfl rfl rfl rfl)) (pa_cons (pv 0) (pa_cons (pv 1) (pa_cons (pv 2) pa_nil)))))
      (pss_one (ps_ret (pe_callTy call_tuple_of (by rfl) mt (by decide +kernel) (pa_cons (pe_call GL (hr.mono (by decide)) (by rfl) mL kL bL .nil pass0 (pa_cons (pv 0) (pa_cons (pv 1) (pa_cons (pv 2) pa_nil)))) pa_nil)))), ?_⟩
    refine ⟨_, rfl, _, rfl, _, rfl, ?_⟩
    dsimp only [tNil]
    refine case_to (E := E) h fun C gv hv ga ha H1 e1 e2 hC ok fan l1 l2 sg sh fin => ?_
    subst e1 e2
    refine ⟨_, rfl, _, rfl, _, rfl, y, C, ga, ha, gv, hv, rfl, hC, ok, l1, l2, sg, sh, fan, fun r H2 s2 nr er => ?_⟩
    exact ⟨r, _, rfl, .inl ⟨.inl (.inl er), fun l nl => fin l _ (s2.trans (same_new nl)) (s2.free nl) upd_same⟩⟩
theorem ok_isWhole {TT : List Addr} {f fC fL CC CG CH : Addr} {fd fdC fdL : FuncData} (F : Fun K "is_whole" "is_whole" sIsWhole f fd)
    (GC : FnOk P w K mg base (L2.CX P w) 10 fC fdC ["circuit", "given", "held"] (spCheckCase K TT CC CG CH)) (kC : PySem.W.keepIn K (.ref fC) = true) (bC : Binds K fdC ["circuit", "given", "held"] []) (mC : mg "check_case" = some (.ref fC))
    (GL : FnOk P w K mg base CX0 4 fL fdL ["circuit", "given", "held"] (spSureL K)) (kL : PySem.W.keepIn K (.ref fL) = true) (bL : Binds K fdL ["circuit", "given", "held"] []) (mL : mg "sure_list" = some (.ref fL)) :
    FnOk P w K mg base (L2.CX P w) 11 f fd ["circuit", "given", "held"] (spCased K TT CC CG CH finWhole) := by
  refine F.okX scIsWhole (fun vs H Q E h => ?_) (fun cdv A outer s H vs Q E hr h => ?_)
  · obtain ⟨y, x1, x2, rfl, h⟩ := h
    rfl
  · obtain ⟨y, x1, x2, rfl, h⟩ := h
    refine ⟨_, pss_cons (ps_expr (pe_callS GC hr (by rfl) mC kC bC (passAt (takes_of rfl rfl rfl rfl)) (pa_cons (pv 0) (pa_cons (pv 1) (pa_cons (pv 2) pa_nil)))))
      (pss_one (ps_ret (pe_cmpR op_notIn_seq pe_non (pe_call GL (hr.mono (by decide)) (by rfl) mL kL bL .nil pass0 (pa_cons (pv 0) (pa_cons (pv 1) (pa_cons (pv 2) pa_nil)))) (by rfl)))), ?_⟩
    refine ⟨_, rfl, _, rfl, _, rfl, ?_⟩
    dsimp only [tNil]
    refine case_to (E := E) h fun C gv hv ga ha H1 e1 e2 hC ok fan l1 l2 sg sh fin => ?_
    subst e1 e2
    refine ⟨_, rfl, _, rfl, _, rfl, y, C, ga, ha, gv, hv, rfl, hC, ok, l1, l2, sg, sh, fan, fun r H2 s2 nr er => ?_⟩
    refine ⟨r, _, rfl, .inl (.inl (.inl er)), rfl, rd_flat _, ?_⟩
    have z := fin H2 s2
    rw [← rd_inN] at z
    exact z
end
end K02

set_option Elab.async false
set_option linter.all false
set_option maxRecDepth 100000
set_option maxHeartbeats 2000000
/-! The law's sources and gates. -/
namespace K02
open PySem PySem.Spec L2
open PyProof.Rows GenW GxR EZ TK
open LamX (ExtN)
abbrev sLSource : Stmt := top 47 -- _law_source
abbrev sLOne : Stmt := top 48 -- _law_one
/-- a def that stands at its name and keeps its promise -/
def Cal (P : Program) (w : World) (K : PySem.W.Frag) (mg : Str → Option Value) (base : Heap) (CX : CXT) (k : Nat) (x : Str) (ps : List Str) (sp : Sp) : Prop :=
  ∃ f fd, FnOk P w K mg base CX k f fd ps sp ∧ PySem.W.keepIn K (.ref f) = true ∧ Binds K fd ps [] ∧ mg x = some (.ref f)
abbrev kIn : Key := Sum.inr ("in" : Str)
abbrev kReg : Key := Sum.inr ("reg" : Str)
abbrev kGate : Key := Sum.inr ("gate" : Str)
def srcD (a b c : Addr) : List (Key × V) := [(kIn, .ref a), (kReg, .ref b), (kGate, .ref c)]
theorem skn1 : ¬ ("in" : Str) = "reg" := by decide +kernel
theorem skn2 : ¬ ("in" : Str) = "gate" := by decide +kernel
theorem skn3 : ¬ ("reg" : Str) = "gate" := by decide +kernel
theorem merge_src (a b c : Addr) : mergeK [] (srcD a b c) = srcD a b c := by
  unfold mergeK putK srcD
  simp [skn1, skn2, skn3]
theorem src_in (a b c : Addr) : valV (srcD a b c) kIn = some (.ref a) := valV_pos rfl
theorem src_reg (a b c : Addr) : valV (srcD a b c) kReg = some (.ref b) := by
  unfold srcD
  rw [valV_neg fun z => skn1 (Sum.inr.inj z)]
  exact valV_pos rfl
theorem src_gate (a b c : Addr) : valV (srcD a b c) kGate = some (.ref c) := by
  unfold srcD
  rw [valV_neg fun z => skn2 (Sum.inr.inj z), valV_neg fun z => skn3 (Sum.inr.inj z)]
  exact valV_pos rfl
theorem upd_upd {H : Hp} {p : Addr} {o o' : HO} : L2.upd (L2.upd H p o) p o' = L2.upd H p o' := by
  funext b
  by_cases hb : b = p
  · rw [hb, upd_same, upd_same]
  · rw [upd_ne hb, upd_ne hb, upd_ne hb]
section
variable {P : Program} {w : World} {K : PySem.W.Frag} {mg : Str → Option Value} {base : Heap}
def spLSource (K : PySem.W.Frag) : Sp := fun vs H Q _ => ∃ (y : V) (ga ha la : Addr) (s : Src) (gv hv fv : List Rd), vs = [y, .ref ga, .ref ha, .ref la] ∧ SrcAt H y s ∧ SqT K H ga (gv.map rdV) ∧ SqT K H ha (hv.map rdV) ∧ (SqL K H la (fv.map rdV) ∨ SqT K H la (fv.map rdV)) ∧ s.ok gv.length hv.length fv.length ∧ ∀ H', Same H H' → Q (rdV (srcV gv hv fv s)) H'
theorem scLSource : FnScope ["source", "given", "held", "readings"] ["source", "given", "held", "readings"] (defScope sLSource) := ⟨rfl, rfl, rfl, by decide +kernel, rfl, by decide +kernel, by decide +kernel⟩
theorem ok_lsource {f : Addr} {fd : FuncData} (F : Fun K "_law_source" "_law_source" sLSource f fd) : FnOk P w K mg base CX0 1 f fd ["source", "given", "held", "readings"] (spLSource K) := by
  refine F.ok scLSource (fun vs H Q E h => ?_) (fun cdv A outer s H vs Q E hr h => ?_)
  · obtain ⟨y, ga, ha, la, sr, gv, hv, fv, rfl, _⟩ := h
    rfl
  · obtain ⟨y, ga, ha, la, sr, gv, hv, fv, rfl, ⟨t, rfl, et⟩, hg, hh, hl, ok, q⟩ := h
    have hu := hu_of hr
    have same_ : ∀ a : Str, decide (V.str a = V.str a) = true := fun a => decide_eq_true rfl
    have other : ∀ a b : Str, ¬ a = b → decide (V.str a = V.str b) = false := fun a b h => decide_eq_false fun z => h (V.str.inj z)
    have mkd : ∀ p, H p = none → (L2.upd (L2.upd H p (.dK [])) p (.dK (mergeK [] (srcD ga ha la)))) = L2.upd H p (.dK (srcD ga ha la)) := fun p _ => by rw [merge_src, upd_upd]
    have at0 : ∀ (H' : Hp), Same H H' → SqT K H' t [.str sr.kind, .int sr.at_] := fun H' s => .inl (.inl (s _ _ et))
    cases sr with
    | bit b =>
      refine ⟨_, pss_cons (ps_if (pt_cmpR op_eq (pe_ix (r := rIxT K) ix_tup (pv 0) pe_int (fun _ _ => rfl)) pe_str (nomark _)) (pss_one (ps_ret (pe_ix (r := rIxT K) ix_tup (pv 0) pe_int (fun _ _ => rfl)))) pss_nil)
        (pss_one (ps_ret (pe_ix (r := rIxT K) ix_tup (pe_dget hu (pe_disp (pps_cons pe_str (pv 1) (pps_cons pe_str (pv 2) (pps_cons pe_str (pv 3) pps_nil))) (by rfl) (by rfl) (fun z => by cases z) (by decide)) (pe_ix (r := rIxT K) ix_tup (pv 0) pe_int (fun _ _ => rfl)) (fun _ _ => rfl)) (pe_ix (r := rIxT K) ix_tup (pv 0) pe_int (fun _ _ => rfl)) (fun _ _ => rfl)))), ?_⟩
      refine ⟨_, rfl, t, _, 0, .str "bit", rfl, rfl, .inl (.inl et), rfl, rfl, _, rfl, ?_⟩
      rw [same_]
      exact iteT ⟨_, rfl, t, _, 1, .int (bitZ b), rfl, rfl, .inl (.inl et), rfl, q H fun _ _ e => e⟩
    | inp i =>
      refine ⟨_, pss_cons (ps_if (pt_cmpR op_eq (pe_ix (r := rIxT K) ix_tup (pv 0) pe_int (fun _ _ => rfl)) pe_str (nomark _)) (pss_one (ps_ret (pe_ix (r := rIxT K) ix_tup (pv 0) pe_int (fun _ _ => rfl)))) pss_nil)
        (pss_one (ps_ret (pe_ix (r := rIxT K) ix_tup (pe_dget hu (pe_disp (pps_cons pe_str (pv 1) (pps_cons pe_str (pv 2) (pps_cons pe_str (pv 3) pps_nil))) (by rfl) (by rfl) (fun z => by cases z) (by decide)) (pe_ix (r := rIxT K) ix_tup (pv 0) pe_int (fun _ _ => rfl)) (fun _ _ => rfl)) (pe_ix (r := rIxT K) ix_tup (pv 0) pe_int (fun _ _ => rfl)) (fun _ _ => rfl)))), ?_⟩
      refine ⟨_, rfl, t, _, 0, .str "in", rfl, rfl, .inl (.inl et), rfl, rfl, _, rfl, ?_⟩
      rw [other _ _ (by decide +kernel)]
      refine iteF ?_
      intro p np
      refine ⟨_, rfl, _, rfl, _, rfl, upd_same, srcD ga ha la, rfl, (by show 3 ≤ 15; decide), ?_⟩
      rw [mkd p np]
      have s1 := same_new (o := .dK (srcD ga ha la)) np
      refine ⟨_, rfl, t, _, 0, .str "in", rfl, rfl, at0 _ s1, rfl, p, _, rfl, (by rw [← src_in ga ha la]; exact DGet.k (k := kIn) upd_same), _, rfl, t, _, 1, .int (i : Int), rfl, rfl, at0 _ s1, rfl, ga, _, (i : Int), _, rfl, rfl, extN_seqT (extN_same s1) hg, at_rd ok, q _ s1⟩
    | reg i =>
      refine ⟨_, pss_cons (ps_if (pt_cmpR op_eq (pe_ix (r := rIxT K) ix_tup (pv 0) pe_int (fun _ _ => rfl)) pe_str (nomark _)) (pss_one (ps_ret (pe_ix (r := rIxT K) ix_tup (pv 0) pe_int (fun _ _ => rfl)))) pss_nil)
        (pss_one (ps_ret (pe_ix (r := rIxT K) ix_tup (pe_dget hu (pe_disp (pps_cons pe_str (pv 1) (pps_cons pe_str (pv 2) (pps_cons pe_str (pv 3) pps_nil))) (by rfl) (by rfl) (fun z => by cases z) (by decide)) (pe_ix (r := rIxT K) ix_tup (pv 0) pe_int (fun _ _ => rfl)) (fun _ _ => rfl)) (pe_ix (r := rIxT K) ix_tup (pv 0) pe_int (fun _ _ => rfl)) (fun _ _ => rfl)))), ?_⟩
      refine ⟨_, rfl, t, _, 0, .str "reg", rfl, rfl, .inl (.inl et), rfl, rfl, _, rfl, ?_⟩
      rw [other _ _ (by decide +kernel)]
      refine iteF ?_
      intro p np
      refine ⟨_, rfl, _, rfl, _, rfl, upd_same, srcD ga ha la, rfl, (by show 3 ≤ 15; decide), ?_⟩
      rw [mkd p np]
      have s1 := same_new (o := .dK (srcD ga ha la)) np
      refine ⟨_, rfl, t, _, 0, .str "reg", rfl, rfl, at0 _ s1, rfl, p, _, rfl, (by rw [← src_reg ga ha la]; exact DGet.k (k := kReg) upd_same), _, rfl, t, _, 1, .int (i : Int), rfl, rfl, at0 _ s1, rfl, ha, _, (i : Int), _, rfl, rfl, extN_seqT (extN_same s1) hh, at_rd ok, q _ s1⟩
    | gate i =>
      rcases hl with hl | hl
      · refine ⟨_, pss_cons (ps_if (pt_cmpR op_eq (pe_ix (r := rIxT K) ix_tup (pv 0) pe_int (fun _ _ => rfl)) pe_str (nomark _)) (pss_one (ps_ret (pe_ix (r := rIxT K) ix_tup (pv 0) pe_int (fun _ _ => rfl)))) pss_nil)
          (pss_one (ps_ret (pe_ix (r := rIxL K) ix_list (pe_dget hu (pe_disp (pps_cons pe_str (pv 1) (pps_cons pe_str (pv 2) (pps_cons pe_str (pv 3) pps_nil))) (by rfl) (by rfl) (fun z => by cases z) (by decide)) (pe_ix (r := rIxT K) ix_tup (pv 0) pe_int (fun _ _ => rfl)) (fun _ _ => rfl)) (pe_ix (r := rIxT K) ix_tup (pv 0) pe_int (fun _ _ => rfl)) (fun _ _ => rfl)))), ?_⟩
        refine ⟨_, rfl, t, _, 0, .str "gate", rfl, rfl, .inl (.inl et), rfl, rfl, _, rfl, ?_⟩
        rw [other _ _ (by decide +kernel)]
        refine iteF ?_
        intro p np
        refine ⟨_, rfl, _, rfl, _, rfl, upd_same, srcD ga ha la, rfl, (by show 3 ≤ 15; decide), ?_⟩
        rw [mkd p np]
        have s1 := same_new (o := .dK (srcD ga ha la)) np
        refine ⟨_, rfl, t, _, 0, .str "gate", rfl, rfl, at0 _ s1, rfl, p, _, rfl, (by rw [← src_gate ga ha la]; exact DGet.k (k := kGate) upd_same), _, rfl, t, _, 1, .int (i : Int), rfl, rfl, at0 _ s1, rfl, la, _, (i : Int), _, rfl, rfl, extN_seqL (extN_same s1) hl, at_rd ok, q _ s1⟩
      · refine ⟨_, pss_cons (ps_if (pt_cmpR op_eq (pe_ix (r := rIxT K) ix_tup (pv 0) pe_int (fun _ _ => rfl)) pe_str (nomark _)) (pss_one (ps_ret (pe_ix (r := rIxT K) ix_tup (pv 0) pe_int (fun _ _ => rfl)))) pss_nil)
          (pss_one (ps_ret (pe_ix (r := rIxT K) ix_tup (pe_dget hu (pe_disp (pps_cons pe_str (pv 1) (pps_cons pe_str (pv 2) (pps_cons pe_str (pv 3) pps_nil))) (by rfl) (by rfl) (fun z => by cases z) (by decide)) (pe_ix (r := rIxT K) ix_tup (pv 0) pe_int (fun _ _ => rfl)) (fun _ _ => rfl)) (pe_ix (r := rIxT K) ix_tup (pv 0) pe_int (fun _ _ => rfl)) (fun _ _ => rfl)))), ?_⟩
        refine ⟨_, rfl, t, _, 0, .str "gate", rfl, rfl, .inl (.inl et), rfl, rfl, _, rfl, ?_⟩
        rw [other _ _ (by decide +kernel)]
        refine iteF ?_
        intro p np
        refine ⟨_, rfl, _, rfl, _, rfl, upd_same, srcD ga ha la, rfl, (by show 3 ≤ 15; decide), ?_⟩
        rw [mkd p np]
        have s1 := same_new (o := .dK (srcD ga ha la)) np
        refine ⟨_, rfl, t, _, 0, .str "gate", rfl, rfl, at0 _ s1, rfl, p, _, rfl, (by rw [← src_gate ga ha la]; exact DGet.k (k := kGate) upd_same), _, rfl, t, _, 1, .int (i : Int), rfl, rfl, at0 _ s1, rfl, la, _, (i : Int), _, rfl, rfl, extN_seqT (extN_same s1) hl, at_rd ok, q _ s1⟩
/-- a gate's reading, of readings that stand in a list or a tuple -/
def spLOne (K : PySem.W.Frag) : Sp := fun vs H Q _ => ∃ (y : V) (g : Gate) (ga ha la : Addr) (gv hv fv : List Rd), vs = [y, .ref ga, .ref ha, .ref la] ∧ GateAt H y g ∧ g.ok gv.length hv.length fv.length ∧ SqT K H ga (gv.map rdV) ∧ SqT K H ha (hv.map rdV) ∧ (SqL K H la (fv.map rdV) ∨ SqT K H la (fv.map rdV)) ∧ ∀ H', Same H H' → Q (rdV (gateV gv hv fv g)) H'
theorem scLOne : FnScope ["gate", "given", "held", "readings", "source"] ["gate", "given", "held", "readings"] (defScope sLOne) := ⟨rfl, rfl, rfl, by decide +kernel, rfl, by decide +kernel, by decide +kernel⟩
theorem ok_lone {f : Addr} {fd : FuncData} (F : Fun K "_law_one" "_law_one" sLOne f fd) (cS : Cal P w K mg base CX0 1 "_law_source" ["source", "given", "held", "readings"] (spLSource K)) (cR : Cal P w K mg base CX0 4 "_law_gate_reading" ["table", "readings"] (spLRL K)) : FnOk P w K mg base CX0 5 f fd ["gate", "given", "held", "readings"] (spLOne K) := by
  obtain ⟨fS, fdS, GS, kS, bS, mS⟩ := cS
  obtain ⟨fR, fdR, GR, kR, bR, mR⟩ := cR
  refine F.ok scLOne (fun vs H Q E h => ?_) (fun cdv A outer s H vs Q E hr h => ?_)
  · obtain ⟨y, g, ga, ha, la, gv, hv, fv, rfl, _⟩ := h
    rfl
  · obtain ⟨y, g, ga, ha, la, gv, hv, fv, rfl, ⟨t, a, b, vs, rfl, et, ea, hv2, eb⟩, ⟨ok1, ok2, ok3⟩, hg, hh, hl, q⟩ := h
    refine ⟨_, pss_one (ps_ret (pe_call GR hr (by rfl) mR kR bR .nil pass0 (pa_cons (pe_ix (r := rIxT K) ix_tup (pv 0) pe_int (fun _ _ => rfl)) (pa_cons (pe_lc (own := [("source", 4)]) (g := gName 4) (tt := tYes) rfl scLOne.nd (pi_tup (pe_ix (r := rIxT K) ix_tup (pv 0) pe_int (fun _ _ => rfl))) (blkOk_by (N := ["gate", "given", "held", "readings", "source"]) (sc := defScope sLOne) (by decide +kernel))
      (fun _ _ _ _ _ => pg_name (i := 4) scLOne.nd rfl (Or.inl rfl)) (fun _ _ _ _ _ => pts_nil) (fun _ _ _ _ _ => pe_call GS (hr.mono (by decide)) (by rfl) mS kS bS .nil pass0 (pa_cons (pv 4) (pa_cons (pv 1) (pa_cons (pv 2) (pa_cons (pv 3) pa_nil)))))) pa_nil)))), ?_⟩
    have lv : vs.length = g.1.length := Paired.length hv2
    refine ⟨_, rfl, t, _, 1, .ref b, rfl, rfl, .inl (.inl et), rfl, _, rfl, t, _, 0, .ref a, rfl, rfl, .inl (.inl et), rfl, a, rfl, ⟨vs, .inl (.inl ea)⟩, fun D nD => lc_tup (fun i H3 => Same H H3 ∧ H3 D = some (.lst ((g.1.take i).map fun s => rdV (srcV gv hv fv s)))) ⟨same_new nD, upd_same⟩ (fun i H3 _ z => .inl (.inl (z.1 _ _ ea))) (fun i x H3 hx ⟨s3, e3⟩ => ?_) (fun H3 ⟨s3, e3⟩ => ?_)⟩
    · obtain ⟨sr, hsr, hs⟩ := all_get hv2 hx
      have nn := extN_same s3
      have hi : i < g.1.length := (List.getElem?_eq_some_iff.mp hsr).1
      refine ⟨rfl, _, rfl, _, rfl, _, rfl, _, rfl, x, ga, ha, la, sr, gv, hv, fv, rfl, hs.ext nn, extN_seqT nn hg, extN_seqT nn hh, hl.imp (extN_seqL nn) (extN_seqT nn), ok3 sr (List.mem_of_getElem? hsr), fun H4 s4 => ⟨_, s4 _ _ e3, ?_, fun b' o e => ?_, ?_⟩⟩
      · rw [List.length_map]
        exact small1000 (by rw [List.length_take]; omega)
      · rw [upd_ne (ne_of_none e nD)]
        exact s4 _ _ (s3 _ _ e)
      · rw [upd_same, take_snoc hsr, List.map_append]
        rfl
    · rw [lv, List.take_length] at e3
      have e4 : H3 D = some (.lst ((g.1.map (srcV gv hv fv)).map rdV)) := by
        rw [e3, List.map_map]
        rfl
      refine ⟨b, D, g.2, g.1.map (srcV gv hv fv), rfl, .inl (.inl (s3 _ _ eb)), .inl (.inl e4), by rw [List.length_map]; exact ok1, by rw [List.length_map]; exact ok2, fun H' s' => q H' (s3.trans s')⟩
end
end K02

set_option Elab.async false
set_option linter.all false
set_option maxRecDepth 100000
set_option maxHeartbeats 2000000
/-! Readings, pairs and rows of these, as data that is compared and shown. -/
namespace K02
open PySem PySem.Spec L2
open PyProof.Rows GenW GxR EZ TK
open LamX (ExtN)
/-- a leaf -/
def leafD : PyData → Bool
  | .none => true
  | .bool _ => true
  | .int _ => true
  | _ => false
theorem leaf_lay {d : PyData} (h : leafD d = true) : d.canLay0 = true ∧ d.depth = 0 := by
  cases d <;> first | exact ⟨rfl, rfl⟩ | cases h
theorem leaf_layAll : ∀ {ds : List PyData}, ds.all leafD = true → PyData.canLayAll0 ds = true ∧ PyData.depthAll ds = 0
  | [], _ => ⟨rfl, rfl⟩
  | d :: r, h => by
    rw [List.all_cons, Bool.and_eq_true] at h
    obtain ⟨a, b⟩ := leaf_lay h.1
    obtain ⟨c, e⟩ := leaf_layAll h.2
    refine ⟨?_, ?_⟩
    · simp [PyData.canLayAll0, a, c]
    · simp [PyData.depthAll, b, e]
/-- laid out no deeper than n -/
def LayN (n : Nat) (d : PyData) : Prop := d.canLay0 = true ∧ d.depth ≤ n
def LayAllN (n : Nat) (ds : List PyData) : Prop := PyData.canLayAll0 ds = true ∧ PyData.depthAll ds ≤ n
theorem layAll_of {n : Nat} : ∀ {ds : List PyData}, (∀ d ∈ ds, LayN n d) → LayAllN n ds
  | [], _ => ⟨rfl, Nat.zero_le _⟩
  | d :: r, h => by
    obtain ⟨a, b⟩ := h d List.mem_cons_self
    obtain ⟨c, e⟩ := layAll_of fun x hx => h x (List.mem_cons_of_mem _ hx)
    refine ⟨?_, ?_⟩
    · simp [PyData.canLayAll0, a, c]
    · simp only [PyData.depthAll]
      omega
theorem layN_leaf {d : PyData} (h : leafD d = true) : LayN 0 d := ⟨(leaf_lay h).1, Nat.le_of_eq (leaf_lay h).2⟩
theorem layN_mono {n m : Nat} {d : PyData} (h : LayN n d) (l : n ≤ m) : LayN m d := ⟨h.1, Nat.le_trans h.2 l⟩
theorem layN_list {n : Nat} {ds : List PyData} (h : ∀ d ∈ ds, LayN n d) : LayN (n + 1) (.list ds) := by
  obtain ⟨a, b⟩ := layAll_of h
  refine ⟨?_, ?_⟩
  · simp [PyData.canLay0, a]
  · simp only [PyData.depth]
    omega
theorem layN_tuple {n : Nat} {ds : List PyData} (h : ∀ d ∈ ds, LayN n d) : LayN (n + 1) (.tuple ds) := by
  obtain ⟨a, b⟩ := layAll_of h
  refine ⟨?_, ?_⟩
  · simp [PyData.canLay0, a]
  · simp only [PyData.depth]
    omega
theorem layN_shaped {n : Nat} {d : PyData} (h : LayN n d) (l : n ≤ 64) : SeqAt.shaped d = true := by
  unfold SeqAt.shaped
  rw [h.1, decide_eq_true (Nat.le_trans h.2 l)]
  rfl
def rdD : Rd → PyData
  | none => .none
  | some b => .int (bitZ b)
theorem rdD_leaf (r : Rd) : leafD (rdD r) = true := by cases r <;> rfl
theorem dp_rd {K : PySem.W.Frag} {H : Hp} (r : Rd) : Dp K H (rdV r) (rdD r) := by
  cases r with
  | none => exact .non
  | some b => exact .int _
theorem dp_rds {K : PySem.W.Frag} {H : Hp} : ∀ rs : List Rd, DpAll K H (rs.map rdV) (rs.map rdD)
  | [] => .nil
  | r :: l => .cons (dp_rd r) (dp_rds l)
theorem lay_rds (rs : List Rd) : ∀ d ∈ rs.map rdD, LayN 0 d := fun d hd => by
  obtain ⟨r, _, rfl⟩ := List.mem_map.mp hd
  exact layN_leaf (rdD_leaf r)
theorem rdD_inj {a b : Rd} (h : PyData.eqv (rdD a) (rdD b) = true) : a = b := by
  cases a with
  | none =>
    cases b with
    | none => rfl
    | some c => cases h
  | some x =>
    cases b with
    | none => cases h
    | some c =>
      have h : (bitZ x == bitZ c) = true := h
      rw [bitZ_inj (beq_iff_eq.mp h)]
theorem rdD_refl (a : Rd) : PyData.eqv (rdD a) (rdD a) = true := by
  cases a with
  | none => rfl
  | some b => exact beq_self_eq_true _
theorem eqv_rds : ∀ (a b : List Rd), PyData.eqvAll (a.map rdD) (b.map rdD) = decide (a = b)
  | [], [] => rfl
  | [], _ :: _ => rfl
  | _ :: _, [] => rfl
  | x :: r, y :: q => by
    have ih := eqv_rds r q
    show (PyData.eqv (rdD x) (rdD y) && PyData.eqvAll (r.map rdD) (q.map rdD)) = _
    rw [ih]
    by_cases e : x = y
    · subst e
      rw [rdD_refl]
      by_cases e2 : r = q
      · subst e2
        simp
      · simp [e2]
    · have z : PyData.eqv (rdD x) (rdD y) = false := by
        cases q2 : PyData.eqv (rdD x) (rdD y) with
        | false => rfl
        | true => exact absurd (rdD_inj q2) e
      rw [z]
      simp [e]
def pairD (p : Nat × Bool) : PyData := .tuple [.int (p.1 : Int), .int (bitZ p.2)]
theorem dp_pairs {K : PySem.W.Frag} {H : Hp} {us : List V} {lap : Lap} (h : AllAt PairAt H us lap) : DpAll K H us (lap.map pairD) := by
  unfold AllAt at h
  induction h with
  | nil => exact .nil
  | cons r t ih =>
    obtain ⟨t1, rfl, e⟩ := r
    exact .cons (.tup (.inl (.inl e)) (.cons (.int _) (.cons (.int _) .nil))) ih
theorem lay_pairs (lap : Lap) : ∀ d ∈ lap.map pairD, LayN 1 d := fun d hd => by
  obtain ⟨p, _, rfl⟩ := List.mem_map.mp hd
  refine layN_tuple fun d hd => ?_
  rcases List.mem_cons.mp hd with z | z
  · rw [z]
    exact layN_leaf rfl
  · rw [List.mem_singleton.mp z]
    exact layN_leaf rfl
theorem eqv_nilL (ds : List PyData) : PyData.eqv (.list ds) (.list []) = ds.isEmpty := by
  cases ds <;> rfl
end K02

set_option Elab.async false
set_option linter.all false
set_option maxRecDepth 100000
set_option maxHeartbeats 4000000
/-! The law's own laps. -/
namespace K02
open PySem PySem.Spec L2
open PyProof.Rows GenW GxR EZ TK
open LamX (ExtN)
abbrev sLSure : Stmt := top 49 -- _law_sure
/-- what is read of gate i, if it is open -/
def preG (gs : List Gate) (gv hv F : List Rd) (i : Nat) : Option (Nat × Rd) := match F.getD i none with
  | some _ => none
  | none => some (i, readG gs gv hv F i)
theorem pre_lap (gs : List Gate) (gv hv F : List Rd) : ((List.range gs.length).filterMap (preG gs gv hv F)).filterMap (fun p => p.2.map fun b => (p.1, b)) = lapOf gs gv hv F := by
  unfold lapOf
  rw [List.filterMap_filterMap]
  congr 1
  funext i
  unfold preG getsF
  cases F.getD i none <;> rfl
def OPairAt (H : Hp) (v : V) (p : Nat × Rd) : Prop := ∃ t, v = .ref t ∧ H t = some (.tup [.int (p.1 : Int), rdV p.2])
theorem OPairAt.keep {H H' : Hp} {v : V} {p : Nat × Rd} (h : OPairAt H v p) (k : TupKeep H H') : OPairAt H' v p := by
  obtain ⟨t, a, b⟩ := h
  exact ⟨t, a, k _ _ b⟩
theorem opairs_keep {H H' : Hp} {us : List V} {l : List (Nat × Rd)} (h : AllAt OPairAt H us l) (k : TupKeep H H') : AllAt OPairAt H' us l := all_ext (fun _ _ r => r.keep k) h
section
variable {P : Program} {w : World} {K : PySem.W.Frag} {mg : Str → Option Value} {base : Heap}
def spLSure (K : PySem.W.Frag) : Sp := fun vs H Q _ => ∃ (y : V) (C : Circ) (ga ha : Addr) (gv hv : List Rd), vs = [y, .ref ga, .ref ha] ∧ CircAt H y C ∧ C.ok ∧ gv.length = C.ni ∧ hv.length = C.regs.length ∧ SqT K H ga (gv.map rdV) ∧ SqT K H ha (hv.map rdV) ∧
  ∀ (T r l : Addr) (us : List V) (H' : Hp), Same H H' → H T = none → H r = none → H l = none → H' T = some (.tup [.ref r, .ref l]) → H' r = some (.lst ((sureF C.gates gv hv).map rdV)) → H' l = some (.lst us) → AllAt (LapAt fun a => H a = none) H' us (lapsAll C.gates gv hv) → Q (.ref T) H'
abbrev nLS : List Str := ["circuit", "given", "held", "gates", "readings", "laps", "going", "spot", "here", "bit", "gate"]
theorem scLS : FnScope nLS ["circuit", "given", "held"] (defScope sLSure) := ⟨rfl, rfl, rfl, by decide +kernel, rfl, by decide +kernel, by decide +kernel⟩
theorem ok_lsure {f : Addr} {fd : FuncData} (F : Fun K "_law_sure" "_law_sure" sLSure f fd) (mlen : mg "len" = none) (men : mg "enumerate" = none) (cO : Cal P w K mg base CX0 5 "_law_one" ["gate", "given", "held", "readings"] (spLOne K)) : FnOk P w K mg base CX0 6 f fd ["circuit", "given", "held"] (spLSure K) := by
  obtain ⟨fO, fdO, GO, kO, bO, mO⟩ := cO
  refine F.ok scLS (fun vs H Q E h => ?_) (fun cdv A outer s H vs Q E hr h => ?_)
  · obtain ⟨y, C, ga, ha, gv, hv, rfl, _⟩ := h
    rfl
  · obtain ⟨y, C, ga, ha, gv, hv, rfl, hC, ok, lgv, lhv, hg, hh, q⟩ := h
    have hu64 := hr.units
    refine ⟨_, (pss_cons (ps_set (i := 3) scLS.nd rfl (Or.inl rfl) (pe_ix (r := rIxT K) ix_tup (pv 0) pe_int (fun _ _ => rfl)))
      (pss_cons (ps_asg (pe_tup (pa_cons (pe_op op_rep (pe_lst (pa_cons pe_non pa_nil)) (pe_callB call_len_seq (by rfl) mlen PySem.boot_len (pa_cons (pv 3) pa_nil))) (pa_cons (pe_lst pa_nil) (pa_cons pe_bl pa_nil)))) (pg_tup rfl (pgs_cons (pg_name (i := 4) scLS.nd rfl (Or.inr rfl)) (pgs_cons (pg_name (i := 5) scLS.nd rfl (Or.inl rfl)) (pgs_cons (pg_name (i := 6) scLS.nd rfl (Or.inl rfl)) pgs_nil)))))
      (pss_cons (ps_while PassesOwn.never (pt_truth (pv 6) (fun _ => rfl))
        (pss_cons (ps_setLc (i := 8) (own := [("spot", 7), ("gate", 10)]) (g := gTup K 2 (gCons (gName 7) (gCons (gName 10) gNil))) rfl scLS.nd rfl rfl (sw_true rfl rfl rfl (by decide +kernel)) (pi_enumT (by rfl) men (pa_cons (pv 3) pa_nil)) (blkOk_by (N := nLS) (sc := defScope sLSure) (by decide +kernel)) (fun _ _ _ _ _ => (pg_tup rfl (pgs_cons (pg_name (i := 7) scLS.nd rfl (Or.inl rfl)) (pgs_cons (pg_name (i := 10) scLS.nd rfl (Or.inl rfl)) pgs_nil)))) (fun _ _ _ _ _ => pts_one (pt_cmpR op_isN (pe_ix (r := rIxL K) ix_list (pv 4) (pv 7) (fun _ _ => rfl)) pe_non (nomark _))) (fun _ _ _ _ _ => (pe_tup (pa_cons (pv 7) (pa_cons (pe_call GO (hr.mono (by decide)) (by rfl) mO kO bO .nil pass0 (pa_cons (pv 10) (pa_cons (pv 1) (pa_cons (pv 2) (pa_cons (pv 4) pa_nil))))) pa_nil)))))
        (pss_cons (ps_setLc (i := 8) (own := [("spot", 7), ("bit", 9)]) (g := gTup K 2 (gCons (gName 7) (gCons (gName 9) gNil))) rfl scLS.nd rfl rfl (sw_true rfl rfl rfl (by decide +kernel)) (pi_list (pv 8)) (blkOk_by (N := nLS) (sc := defScope sLSure) (by decide +kernel)) (fun _ _ _ _ _ => (pg_tup rfl (pgs_cons (pg_name (i := 7) scLS.nd rfl (Or.inl rfl)) (pgs_cons (pg_name (i := 9) scLS.nd rfl (Or.inl rfl)) pgs_nil)))) (fun _ _ _ _ _ => pts_one (pt_cmpR op_notN (pv 9) pe_non (nomark _))) (fun _ _ _ _ _ => (pe_tup (pa_cons (pv 7) (pa_cons (pv 9) pa_nil)))))
        (pss_cons (ps_for PassesOwn.never rfl (pi_list (pv 8)) (pg_tup rfl (pgs_cons (pg_name (i := 7) scLS.nd rfl (Or.inl rfl)) (pgs_cons (pg_name (i := 9) scLS.nd rfl (Or.inl rfl)) pgs_nil)))
          (pss_one (ps_asg (pv 9) (pg_sub (pv 4) (pv 7) set_list))))
        (pss_cons (ps_expr (pe_bm PySem.F.plainAttrs_list PySem.F.slot_list_append PySem.F.type_list_append mt_append (pv 5) (pa_cons (pv 8) pa_nil)))
        (pss_one (ps_set (i := 6) scLS.nd rfl (Or.inl rfl) (pe_cmpR (op_neD hu64) (pv 8) (pe_lst pa_nil) (nomark _)))))))))
      (pss_one (ps_ret (pe_tup (pa_cons (pv 4) (pa_cons (pe_slice sl_list (pv 5) po_none (po_some (pe_un un_neg pe_int))) pa_nil)))))))), ?_⟩
    have hC' := hC
    obtain ⟨t, ra, gaa, oa, rs, gs, os, rfl, et, er, eg, eo, hrs, hgs, hos⟩ := hC'
    have lg : gs.length = C.gates.length := Paired.length hgs
    have k3 := ok.ng
    -- gates; readings, laps, going
    refine ⟨_, rfl, t, _, 2, .ref gaa, rfl, rfl, .inl (.inl et), rfl, ?_⟩
    refine ⟨(by show 1 ≤ sizeLine; decide), fun p np => ?_⟩
    refine ⟨_, rfl, gaa, gs, rfl, .inr (.inl (.inl (same_new np _ _ eg))), p, _, [V.non], rfl, rfl, upd_same, by omega, by omega, ?_, fun ra1 nra => ?_⟩
    · rw [sizeLine_eq]
      show 1 * ((gs.length : Int)).toNat ≤ _
      omega
    have n1p : Same H (L2.upd H p (.lst [V.non])) := same_new np
    generalize L2.upd H p (.lst [V.non]) = Hp1 at nra n1p
    have e2 : (L2.upd Hp1 ra1 (.lst (List.replicate ((gs.length : Int)).toNat [V.non]).flatten)) ra1 = some (.lst ((List.replicate C.gates.length (none : Rd)).map rdV)) := by
      rw [upd_same, Int.toNat_natCast, lg, rep_none]
    have s12 : Same H (L2.upd Hp1 ra1 (.lst (List.replicate ((gs.length : Int)).toNat [V.non]).flatten)) := n1p.trans (same_new nra)
    have n0ra : H ra1 = none := n1p.free nra
    generalize L2.upd Hp1 ra1 (.lst (List.replicate ((gs.length : Int)).toNat [V.non]).flatten) = H2 at e2 s12
    clear n1p nra np
    refine ⟨Nat.zero_le _, fun la1 nla => ?_⟩
    have s23 : Same H2 (L2.upd H2 la1 (.lst [])) := same_new nla
    have e3 : (L2.upd H2 la1 (.lst [])) la1 = some (.lst []) := upd_same
    have n0la : H la1 = none := s12.free nla
    have rala : ra1 ≠ la1 := fun z => by
      rw [z, nla] at e2
      cases e2
    generalize L2.upd H2 la1 (.lst []) = H3 at e3 s23
    refine ⟨(by show 3 ≤ sizeLine; decide), fun tp ntp => ?_⟩
    have s34 : Same H3 (L2.upd H3 tp (.tup [.ref ra1, .ref la1, .bl true])) := same_new ntp
    have e4 : (L2.upd H3 tp (.tup [.ref ra1, .ref la1, .bl true])) tp = some (.tup [.ref ra1, .ref la1, .bl true]) := upd_same
    generalize L2.upd H3 tp (.tup [.ref ra1, .ref la1, .bl true]) = H4 at e4 s34
    refine ⟨tp, _, rfl, .inl (.inl e4), rfl, _, _, rfl, _, _, rfl, _, _, rfl, rfl, ?_⟩
    have init0 : putL (List.replicate C.gates.length (none : Rd)) [] = List.replicate C.gates.length none := rfl
    -- while going
    refine ⟨fun m σ Hx => ∃ (F : List Rd) (vs : List V) (laps : List Lap) (go : Bool) (y7 y8 y9 : Option V), σ = [some (.ref t), some (.ref ga), some (.ref ha), some (.ref gaa), some (.ref ra1), some (.ref la1), some (.bl go), y7, y8, y9, none] ∧
        Same H Hx ∧ Hx ra1 = some (.lst (F.map rdV)) ∧ Hx la1 = some (.lst vs) ∧ AllAt (LapAt fun a => a ≠ ra1 ∧ a ≠ la1 ∧ H a = none) Hx vs laps ∧ F.length = C.gates.length ∧ laps.foldl putL (List.replicate C.gates.length none) = F ∧
        (go = true → laps ++ lapsL C.gates gv hv C.gates.length F = lapsAll C.gates gv hv ∧ laps.length + openN F ≤ C.gates.length ∧ m = openN F + 1) ∧ (go = false → laps = lapsAll C.gates gv hv ++ [[]] ∧ m = 0),
      ⟨_, _, _, _, _, _, _, _, rfl, (s12.trans s23).trans s34, s34 _ _ (s23 _ _ e2), s34 _ _ e3, .nil, List.length_replicate, rfl, fun _ => ⟨rfl, ?_, rfl⟩, fun z => by cases z⟩, fun m σ Hx hW => ?_⟩
    · have z := openN_len (List.replicate C.gates.length (none : Rd))
      rw [List.length_replicate] at z
      show 0 + _ ≤ _
      omega
    obtain ⟨F, vs, laps, go, y7, y8, y9, rfl, sx, era, ela, hlaps, lF, hput, hgo, hst⟩ := hW
    refine ⟨_, rfl, go, rfl, ?_⟩
    cases go with
    | false =>
      obtain ⟨hl, rfl⟩ := hst rfl
      refine iteF ?_
      subst hl
      have lvs : vs.length = (lapsAll C.gates gv hv).length + 1 := by
        have z := Paired.length hlaps
        rw [List.length_append] at z
        exact z
      have hcut : cutV vs none (some (-1)) = vs.take (lapsAll C.gates gv hv).length := by
        unfold cutV
        have z1 : HT.sIx vs.length 0 none = 0 := rfl
        have z2 : HT.sIx vs.length vs.length (some (-1)) = vs.length - 1 := by
          show (if (-1 : Int) < 0 then ((-1 : Int) + (vs.length : Int)).toNat else min (-1 : Int).toNat vs.length) = _
          rw [if_pos (by decide)]
          omega
        rw [z1, z2, List.drop_zero, Nat.sub_zero, lvs]
        rfl
      have hput2 : sureF C.gates gv hv = F := by
        rw [← lapsAll_put, ← hput, List.foldl_append]
        rfl
      refine ⟨_, rfl, _, rfl, _, rfl, _, rfl, la1, vs, rfl, .inl (.inl ela), fun l nl => ?_⟩
      have hlt : AllAt (LapAt fun a => a ≠ ra1 ∧ a ≠ la1 ∧ H a = none) Hx (vs.take (lapsAll C.gates gv hv).length) (lapsAll C.gates gv hv) := by
        have z : ∀ {α β : Type} {R : α → β → Prop} {xs : List α} {ys : List β} (n : Nat), Paired R xs ys → Paired R (xs.take n) (ys.take n) := fun {α β R xs ys} n h => by
          induction h generalizing n with
          | nil => simp; exact .nil
          | cons r t ih =>
            cases n with
            | zero => exact .nil
            | succ n => exact .cons r (ih n)
        have z2 := z (lapsAll C.gates gv hv).length hlaps
        rw [List.take_left' rfl] at z2
        exact z2
      rw [hcut]
      have s1 : Same Hx (L2.upd Hx l (.lst (vs.take (lapsAll C.gates gv hv).length))) := same_new nl
      have e1 : (L2.upd Hx l (.lst (vs.take (lapsAll C.gates gv hv).length))) l = some (.lst (vs.take (lapsAll C.gates gv hv).length)) := upd_same
      generalize L2.upd Hx l (.lst (vs.take (lapsAll C.gates gv hv).length)) = Hy at s1 e1
      refine ⟨(by show 2 ≤ sizeLine; decide), fun T nT => ?_⟩
      have s2 : Same Hy (L2.upd Hy T (.tup [.ref ra1, .ref l])) := same_new nT
      have sH := sx.trans s1
      rw [← hput2] at era
      refine q T ra1 l _ _ (sH.trans s2) (sH.free nT) n0ra (sx.free nl) upd_same (s2 _ _ (s1 _ _ era)) (s2 _ _ e1) ?_
      exact paired_imp (fun a b r => r.weak fun z hz => hz.2.2) (laps_keep hlt (.of (s1.trans s2)) fun a zs _ e => (s1.trans s2) _ _ e)
    | true =>
      obtain ⟨hall, hfew, rfl⟩ := hgo rfl
      have lvs : vs.length = laps.length := Paired.length hlaps
      refine iteT ⟨fun σ' H' => ∃ (F' : List Rd) (vs : List V) (laps : List Lap) (go : Bool) (y7 y8 y9 : Option V), σ' = [some (.ref t), some (.ref ga), some (.ref ha), some (.ref gaa), some (.ref ra1), some (.ref la1), some (.bl go), y7, y8, y9, none] ∧
          Same H H' ∧ H' ra1 = some (.lst (F'.map rdV)) ∧ H' la1 = some (.lst vs) ∧ AllAt (LapAt fun a => a ≠ ra1 ∧ a ≠ la1 ∧ H a = none) H' vs laps ∧ F'.length = C.gates.length ∧ laps.foldl putL (List.replicate C.gates.length none) = F' ∧
          (go = true → laps ++ lapsL C.gates gv hv C.gates.length F' = lapsAll C.gates gv hv ∧ laps.length + openN F' ≤ C.gates.length ∧ openN F' < openN F) ∧ (go = false → laps = lapsAll C.gates gv hv ++ [[]]),
        fun σ' H' ⟨F', vs, laps, go, a7, a8, a9, b1, b2, b3, b4, b5, b6, b7, b8, b9⟩ => ?_, ?_⟩
      · cases go with
        | true => exact ⟨openN F' + 1, Nat.succ_lt_succ (b8 rfl).2.2, F', vs, laps, true, a7, a8, a9, b1, b2, b3, b4, b5, b6, b7, fun _ => ⟨(b8 rfl).1, (b8 rfl).2.1, rfl⟩, (fun z => by cases z)⟩
        | false => exact ⟨0, Nat.succ_pos _, F', vs, laps, false, a7, a8, a9, b1, b2, b3, b4, b5, b6, b7, (fun z => by cases z), fun _ => ⟨b9 rfl, rfl⟩⟩
      -- here = [(spot, _law_one(..)) ..]
      refine ⟨_, rfl, gaa, gs, rfl, .inl (.inl (sx _ _ eg)), fun D nD => ?_⟩
      refine lc_it walk_enumT (fun i H1 => Same Hx H1 ∧ ∃ zs, H1 D = some (.lst zs) ∧ AllAt OPairAt H1 zs ((List.range i).filterMap (preG C.gates gv hv F)) ∧ zs.length ≤ i) ⟨same_new nD, [], upd_same, .nil, Nat.le_refl _⟩ (fun i H1 _ z => .inl (.inl (z.1 _ _ (sx _ _ eg)))) (fun i x H1 H1' hi ⟨s1, zs, e1, hz, lz⟩ hy => ?_) (fun H1 ⟨s1, zs, e1, hz, lz⟩ => ?_)
      · obtain ⟨T, x1, y1, rfl, nT, rfl, hx, hy⟩ := hy
        cases hx
        have hy : gs[i]? = some y1 := hy
        obtain ⟨gt, hg2, hgat⟩ := all_get hgs hy
        have hil : i < C.gates.length := (List.getElem?_eq_some_iff.mp hg2).1
        have sT := same_new (o := .tup [.int (i : Nat), y1]) nT
        have eT : (L2.upd H1 T (.tup [.int (i : Nat), y1])) T = some (.tup [.int (i : Nat), y1]) := upd_same
        have e1T := sT _ _ e1
        generalize L2.upd H1 T (.tup [.int (i : Nat), y1]) = Ht at sT eT e1T
        have sxt := s1.trans sT
        have sHt := sx.trans sxt
        have gok := ok.gates gt (List.mem_of_getElem? hg2)
        refine ⟨T, _, rfl, .inl (.inl eT), rfl, _, _, rfl, _, _, rfl, rfl, rfl, ?_⟩
        refine ⟨_, rfl, _, rfl, ra1, _, (i : Int), _, rfl, rfl, .inl (.inl (sxt _ _ era)), at_rd (by rw [lF]; exact hil), rfl, _, rfl, ?_⟩
        rw [rdV_isN]
        cases ei : F.getD i none with
        | some b =>
          have pe : preG C.gates gv hv F i = none := by
            unfold preG
            rw [ei]
          refine iteF ⟨sxt, zs, e1T, ?_, Nat.le_succ_of_le lz⟩
          rw [List.range_succ, List.filterMap_append, List.filterMap_cons_none pe, List.filterMap_nil, List.append_nil]
          exact opairs_keep hz (.of sT)
        | none =>
          have re : gateV gv hv F gt = readG C.gates gv hv F i := by
            unfold readG
            rw [hg2]
          have pe : preG C.gates gv hv F i = some (i, readG C.gates gv hv F i) := by
            unfold preG
            rw [ei]
          refine iteT ⟨_, rfl, _, rfl, _, rfl, _, rfl, _, rfl, y1, gt, ga, ha, ra1, gv, hv, F, rfl, hgat.ext (extN_same sHt), by rw [lgv, lhv, lF]; exact gok, extN_seqT (extN_same sHt) hg, extN_seqT (extN_same sHt) hh, .inl (.inl (.inl (sxt _ _ era))), fun H5 s5 => ⟨(by show 2 ≤ sizeLine; decide), fun p5 np5 => ?_⟩⟩
          rw [re]
          have s6 := same_new (o := .tup [.int ((i : Nat) : Int), rdV (readG C.gates gv hv F i)]) np5
          have e6 : (L2.upd H5 p5 (.tup [.int ((i : Nat) : Int), rdV (readG C.gates gv hv F i)])) p5 = some (.tup [.int ((i : Nat) : Int), rdV (readG C.gates gv hv F i)]) := upd_same
          generalize L2.upd H5 p5 (.tup [.int ((i : Nat) : Int), rdV (readG C.gates gv hv F i)]) = H6 at s6 e6
          have s16 := sT.trans (s5.trans s6)
          have e16 := s16 _ _ e1
          have tu : TupKeep H6 (L2.upd H6 D (.lst (zs ++ [.ref p5]))) := TupKeep.upd e16 fun xs z => by cases z
          refine ⟨zs, e16, ?_, fun c o e => ?_, zs ++ [.ref p5], upd_same, ?_, ?_⟩
          · rw [sizeLine_eq]
            omega
          · rw [upd_ne (ne_of_none e nD)]
            exact s16 _ _ (s1 _ _ e)
          · rw [List.range_succ, List.filterMap_append, List.filterMap_cons_some pe, List.filterMap_nil]
            exact paired_snoc (opairs_keep hz ((TupKeep.of s16).trans tu)) ⟨p5, rfl, tu _ _ e6⟩
          · rw [List.length_append]
            show zs.length + 1 ≤ i + 1
            omega
      -- here = [(spot, bit) .. if bit is not None]
      rw [lg] at hz lz
      have n0D : H D = none := sx.free nD
      have lz2 : zs.length = ((List.range C.gates.length).filterMap (preG C.gates gv hv F)).length := Paired.length hz
      generalize hP : (List.range C.gates.length).filterMap (preG C.gates gv hv F) = PL at hz lz2
      refine ⟨_, rfl, D, rfl, ⟨zs, .inl (.inl e1)⟩, fun D2 nD2 => lc_list (fun i H7 => Same H1 H7 ∧ ∃ us, H7 D2 = some (.lst us) ∧ AllAt PairAt H7 us ((PL.take i).filterMap fun p => p.2.map fun b => (p.1, b)) ∧ us.length ≤ i) ⟨same_new nD2, [], upd_same, .nil, Nat.le_refl _⟩ (fun i H7 _ z => .inl (.inl (z.1 _ _ e1))) (fun i x H7 hx ⟨s7, us, e7, hus, lu⟩ => ?_) (fun H7 ⟨s7, us, e7, hus, lu⟩ => ?_)⟩
      · obtain ⟨⟨j, r⟩, hp, t2, rfl, et2⟩ := all_get hz hx
        have tk := take_snoc hp
        refine ⟨t2, _, rfl, .inl (.inl (s7 _ _ et2)), rfl, _, _, rfl, _, _, rfl, rfl, rfl, _, rfl, rfl, _, rfl, ?_⟩
        cases r with
        | none =>
          refine iteF ⟨s7, us, e7, ?_, Nat.le_succ_of_le lu⟩
          rw [tk, List.filterMap_append, List.filterMap_cons_none (f := fun p : Nat × Rd => p.2.map fun b => (p.1, b)) (a := (j, none)) rfl, List.filterMap_nil, List.append_nil]
          exact hus
        | some b =>
          have nb : decide (rdV (some b) = V.non) = false := by cases b <;> rfl
          show (if (!decide (rdV (some b) = V.non)) = true then _ else _)
          rw [nb]
          refine iteT ⟨_, rfl, _, rfl, (by show 2 ≤ sizeLine; decide), fun p5 np5 => ?_⟩
          have s6 := same_new (o := .tup [.int ((j : Nat) : Int), rdV (some b)]) np5
          have e6 : (L2.upd H7 p5 (.tup [.int ((j : Nat) : Int), rdV (some b)])) p5 = some (.tup [.int ((j : Nat) : Int), rdV (some b)]) := upd_same
          generalize L2.upd H7 p5 (.tup [.int ((j : Nat) : Int), rdV (some b)]) = H6 at s6 e6
          have e16 := s6 _ _ e7
          have tu : TupKeep H6 (L2.upd H6 D2 (.lst (us ++ [.ref p5]))) := TupKeep.upd e16 fun xs z => by cases z
          refine ⟨us, e16, ?_, fun c o e => ?_, us ++ [.ref p5], upd_same, ?_, ?_⟩
          · rw [sizeLine_eq]
            have : i < zs.length := (List.getElem?_eq_some_iff.mp hx).1
            omega
          · rw [upd_ne (ne_of_none e nD2)]
            exact s6 _ _ (s7 _ _ e)
          · rw [tk, List.filterMap_append, List.filterMap_cons_some (f := fun p : Nat × Rd => p.2.map fun b => (p.1, b)) (a := (j, some b)) (b := (j, b)) rfl, List.filterMap_nil]
            exact paired_snoc (pairs_keep hus ((TupKeep.of s6).trans tu)) ⟨p5, rfl, tu _ _ e6⟩
          · rw [List.length_append]
            show us.length + 1 ≤ i + 1
            omega
      rw [lz2, List.take_length, ← hP, pre_lap] at hus
      have sx7 := s1.trans s7
      have s07 := sx.trans sx7
      have lus : us.length = (lapOf C.gates gv hv F).length := Paired.length hus
      have n0D2 : H D2 = none := (sx.trans s1).free nD2
      have raD2 : ra1 ≠ D2 := fun z => by
        have := s1 _ _ era
        rw [z, nD2] at this
        cases this
      have laD2 : la1 ≠ D2 := fun z => by
        have := s1 _ _ ela
        rw [z, nD2] at this
        cases this
      have era7 := sx7 _ _ era
      have ela7 := sx7 _ _ ela
      -- readings[spot] = bit
      refine ⟨_, rfl, D2, rfl, ⟨us, .inl (.inl e7)⟩, for_list (fun i σ Hz => ∃ (y7 y9 : Option V), σ = [some (.ref t), some (.ref ga), some (.ref ha), some (.ref gaa), some (.ref ra1), some (.ref la1), some (.bl true), y7, some (.ref D2), y9, none] ∧
          (∀ b o, b ≠ ra1 → H7 b = some o → Hz b = some o) ∧ Hz ra1 = some (.lst ((putL F ((lapOf C.gates gv hv F).take i)).map rdV)) ∧ TupKeep H7 Hz)
        ⟨y7, y9, rfl, fun _ _ _ e => e, era7, fun _ _ e => e⟩ (fun i σ Hz _ ⟨_, _, _, kz, _⟩ => .inl (.inl (kz _ _ raD2.symm e7))) (fun i x σ Hz hx ⟨y7, y9, eσ, kz, ez, tz⟩ => ?_) (fun σ Hz ⟨y7, y9, eσ, kz, ez, tz⟩ => ?_)⟩
      · subst eσ
        obtain ⟨⟨g, b⟩, hp, tt, rfl, ett⟩ := all_get hus hx
        have hm := lapOf_mem.mp (List.mem_of_getElem? hp)
        have lput : (putL F ((lapOf C.gates gv hv F).take i)).length = C.gates.length := by rw [putL_len, lF]
        have hg2 : g < C.gates.length := hm.1
        have ixn : ixN ((putL F ((lapOf C.gates gv hv F).take i)).map rdV).length (g : Int) = some g := by
          unfold ixN
          rw [List.length_map, lput, if_pos (Int.natCast_nonneg g), if_pos (by omega)]
          rfl
        refine ⟨tt, _, rfl, .inl (.inl (tz _ _ ett)), rfl, _, _, rfl, _, _, rfl, rfl, ?_⟩
        refine ⟨_, rfl, _, rfl, _, rfl, ra1, _, (g : Int), g, rfl, rfl, ez, ixn, _, _, rfl, fun c o n e => ?_, ?_, tz.trans (TupKeep.upd ez fun xs z => by cases z)⟩
        · rw [upd_ne n]
          exact kz _ _ n e
        · rw [upd_same, take_snoc hp, putL_snoc, List.map_set]
          rfl
      subst eσ
      rw [lus, List.take_length, putL_lap lF] at ez
      have keepH : Same H Hz := fun b o e => kz _ _ (ne_of_none e n0ra) (s07 _ _ e)
      have ela8 := kz _ _ rala.symm ela7
      have e78 := kz _ _ raD2.symm e7
      have hus8 := pairs_keep hus tz
      have hlaps8 : AllAt (LapAt fun a => a ≠ ra1 ∧ a ≠ la1 ∧ H a = none) Hz vs laps := laps_keep hlaps ((TupKeep.of sx7).trans tz) fun a zs na e => kz _ _ na.1 (sx7 _ _ e)
      -- laps.append(here); going = here != []
      refine ⟨_, rfl, .inl ⟨rfl, vs, .inl (.inl ela8)⟩, _, rfl, la1, vs, _, rfl, rfl, ela8, (by rw [lvs, sizeLine_eq]; omega), ?_⟩
      have keep9 : ∀ b o, b ≠ la1 → Hz b = some o → (L2.upd Hz la1 (.lst (vs ++ [.ref D2]))) b = some o := fun b o n e => by
        rw [upd_ne n]
        exact e
      have tu9 : TupKeep Hz (L2.upd Hz la1 (.lst (vs ++ [.ref D2]))) := TupKeep.upd ela8 fun xs z => by cases z
      have e9 : (L2.upd Hz la1 (.lst (vs ++ [.ref D2]))) la1 = some (.lst (vs ++ [.ref D2])) := upd_same
      generalize L2.upd Hz la1 (.lst (vs ++ [.ref D2])) = H9 at keep9 tu9 e9
      refine ⟨_, rfl, Nat.zero_le _, fun p np => ?_⟩
      have sp := same_new (o := .lst []) np
      have ep : (L2.upd H9 p (.lst [])) p = some (.lst []) := upd_same
      generalize L2.upd H9 p (.lst []) = Ha at sp ep
      have eD2a := sp _ _ (keep9 _ _ laD2.symm e78)
      have husa := pairs_keep hus8 (tu9.trans (.of sp))
      refine ⟨.list ((lapOf C.gates gv hv F).map pairD), .list [], .lst (.inl (.inl eD2a)) (dp_pairs husa), .lst (.inl (.inl ep)) .nil, layN_shaped (layN_list (lay_pairs _)) (by decide), layN_shaped (layN_list (n := 0) fun d hd => by cases hd) (by decide), ?_⟩
      rw [eqv_nilL]
      have lF' : (lapF C.gates gv hv F).length = C.gates.length := lapF_len _ _ _ _
      refine ⟨lapF C.gates gv hv F, vs ++ [.ref D2], laps ++ [lapOf C.gates gv hv F], _, _, _, _, rfl, fun b o e => sp _ _ (keep9 _ _ (ne_of_none e n0la) (keepH _ _ e)), sp _ _ (keep9 _ _ rala ez), sp _ _ e9, ?_, lF', ?_, fun hgo => ?_, fun hgo => ?_⟩
      · exact paired_snoc (laps_keep hlaps8 (tu9.trans (.of sp)) fun a zs na e => sp _ _ (keep9 _ _ na.2.1 e)) ⟨D2, us, rfl, ⟨raD2.symm, laD2.symm, n0D2⟩, eD2a, husa⟩
      · rw [List.foldl_append, hput]
        exact putL_lap lF
      · have hne : lapOf C.gates gv hv F ≠ [] := fun z => by
          rw [z] at hgo
          cases hgo
        have lt_ := openN_lap (gv := gv) (hv := hv) lF hne
        refine ⟨?_, ?_, lt_⟩
        · rw [List.append_assoc, ← hall]
          congr 1
          have lo := openN_len F
          have n0 : C.gates.length = (C.gates.length - 1) + 1 := by omega
          have e1 : lapsL C.gates gv hv C.gates.length F = lapOf C.gates gv hv F :: lapsL C.gates gv hv (C.gates.length - 1) (lapF C.gates gv hv F) := by
            rw [n0]
            show (if lapOf C.gates gv hv F = [] then [] else _) = _
            rw [if_neg hne]
            rfl
          rw [e1, lapsL_enough C.gates.length (C.gates.length - 1) _ lF' (by omega) (by omega)]
          rfl
        · rw [List.length_append]
          show laps.length + 1 + _ ≤ _
          omega
      · have hnil : lapOf C.gates gv hv F = [] := by
          cases q2 : lapOf C.gates gv hv F with
          | nil => rfl
          | cons a r =>
            rw [q2] at hgo
            cases hgo
        rw [lapsL_nil hnil, List.append_nil] at hall
        rw [hnil, hall]
end
end K02

set_option Elab.async false
set_option linter.all false
set_option maxRecDepth 100000
set_option maxHeartbeats 4000000
/-! The law's drawn sources and circuits. -/
namespace K02
open PySem PySem.Spec L2
open PyProof.Rows GenW GxR EZ TK
open LamX (ExtN)
abbrev sSomeSource : Stmt := top 50 -- _law_some_source
abbrev sLCircuit : Stmt := top 52 -- _law_circuit
/-- a statement behind which ways come together -/
theorem ps_join {X : Cx} {st : Stmt} {t : TS} (h : PS X st t) : PS X st (fun D σ H => ∃ Pv : L2.St → Hp → Prop, t { D with nx := Pv } σ H ∧ ∀ σ' H', Pv σ' H' → D.nx σ' H') := by
  refine ⟨fun pins s σ H D I ⟨Pv, a, b⟩ => wpAny_mono (h.run pins s σ H _ I a) (fun f s' sp => ?_) fun _ _ x => x⟩
  cases f with
  | next =>
    obtain ⟨σ', H', I', q⟩ := sp
    exact ⟨σ', H', I', b _ _ q⟩
  | brk => exact sp
  | cont => exact sp
  | ret u => exact sp
theorem pe_join {X : Cx} {e : Expr} {t : TE} (h : PE X e t) : PE X e (fun σ H Q => ∃ R : VK, t σ H R ∧ ∀ x H', R x H' → Q x H') := by
  refine ⟨fun pins s σ H Q I ⟨R, a, b⟩ => wpAny_mono (h.run pins s σ H _ I a) (fun u s' sp => ?_) fun _ _ x => x⟩
  obtain ⟨v, H', I', r, q⟩ := sp
  exact ⟨v, H', I', r, b _ _ q⟩
theorem SrcAt.but {st lg cl : Addr} {H H' : Hp} {t : Nat} {y : V} {s : Src} (h : SrcAt H y s) (U : But st lg H H') (S : StOk H st lg cl t) : SrcAt H' y s := by
  obtain ⟨a, e, b⟩ := h
  exact ⟨a, e, U.keepO S b (fun _ z => by cases z) (fun _ z => by cases z)⟩
/-- a list of sources to pick from -/
def SomeS (st lg : Addr) (H : Hp) (ni nr ng n : Nat) (v : V) : Prop := ∃ a vs, v = .ref a ∧ a ≠ st ∧ a ≠ lg ∧ H a = some (.lst vs) ∧ 0 < vs.length ∧ vs.length ≤ n ∧ ∀ x ∈ vs, ∃ s : Src, SrcAt H x s ∧ s.ok ni nr ng
theorem flat_one {α : Type} (x : α) (n : Nat) : (List.replicate n [x]).flatten = List.replicate n x := rep_one x n
section
variable {P : Program} {w : World} {K : PySem.W.Frag} {mg : Str → Option Value} {base : Heap}
def spSomeS : Sp := fun vs H Q _ => ∃ (st lg cl : Addr) (t ni nr ng : Nat), vs = [.ref st, .int (ni : Int), .int (nr : Int), .int (ng : Int)] ∧ ni ≤ 8 ∧ nr ≤ 60 ∧ ng ≤ 2000 ∧ t + 100 < 1000000000 ∧ StOk H st lg cl t ∧
  ∀ (x : V) (s : Src) (H' : Hp), SrcAt H' x s → s.ok ni nr ng → StOk H' st lg cl (t + 5) → But st lg H H' → Q x H'
theorem scSS : FnScope ["state", "inputs", "registers", "gates", "some"] ["state", "inputs", "registers", "gates"] (defScope sSomeSource) := ⟨rfl, rfl, rfl, by decide +kernel, rfl, by decide +kernel, by decide +kernel⟩
/-- a list with several new sources behind it, all one -/
theorem some_more {H H1 : Hp} {st lg cl : Addr} {t t1 ni nr ng n : Nat} {v : V} {s : Src} {k : Int} {Q : VK} (h : SomeS st lg H ni nr ng n v) (U : But st lg H H1) (S : StOk H st lg cl t) (S1 : StOk H1 st lg cl t1) (ok : s.ok ni nr ng) (hk : n + k.toNat ≤ 1000)
    (q : ∀ v' H', SomeS st lg H' ni nr ng (n + k.toNat) v' → Same H1 H' → Q v' H') : ∀ p, H1 p = none → ∀ p2, (L2.upd H1 p (.tup [.str s.kind, .int s.at_])) p2 = none → ∀ p3, (L2.upd (L2.upd H1 p (.tup [.str s.kind, .int s.at_])) p2 (.lst [.ref p])) p3 = none →
      rCat v (.ref p3) (L2.upd (L2.upd (L2.upd H1 p (.tup [.str s.kind, .int s.at_])) p2 (.lst [.ref p])) p3 (.lst (List.replicate k.toNat [V.ref p]).flatten)) Q := by
  intro p np p2 np2 p3 np3
  obtain ⟨a, vs, rfl, na1, na2, ea, l0, l1, hv⟩ := h
  have s1 := same_new (o := .tup [.str s.kind, .int s.at_]) np
  have ep : (L2.upd H1 p (.tup [.str s.kind, .int s.at_])) p = some (.tup [.str s.kind, .int s.at_]) := upd_same
  generalize L2.upd H1 p (.tup [.str s.kind, .int s.at_]) = Ha at s1 ep np2 np3
  have s2 := same_new (o := .lst [.ref p]) np2
  generalize L2.upd Ha p2 (.lst [.ref p]) = Hb at s2 np3
  have s3 := same_new (o := .lst (List.replicate k.toNat [V.ref p]).flatten) np3
  have e3 : (L2.upd Hb p3 (.lst (List.replicate k.toNat [V.ref p]).flatten)) p3 = some (.lst (List.replicate k.toNat [V.ref p]).flatten) := upd_same
  generalize L2.upd Hb p3 (.lst (List.replicate k.toNat [V.ref p]).flatten) = Hc at s3 e3
  have s13 := s1.trans (s2.trans s3)
  rw [flat_one] at e3
  have lr : (List.replicate k.toNat (V.ref p)).length = k.toNat := List.length_replicate
  refine ⟨a, p3, vs, _, rfl, rfl, s13 _ _ (U _ _ ea na1 na2), e3, Nat.le_of_lt (small1000 (by omega)), fun p4 np4 => ?_⟩
  have s4 := same_new (o := .lst (vs ++ List.replicate k.toNat (V.ref p))) np4
  have n4 := But.st_new (o := .tup []) S1 (s13.free np4)
  refine q _ _ ⟨p4, _, rfl, n4.1, n4.2, upd_same, by rw [List.length_append]; omega, by rw [List.length_append]; omega, fun x hx => ?_⟩ (s13.trans s4)
  rcases List.mem_append.mp hx with z | z
  · obtain ⟨sr, h1, h2⟩ := hv x z
    exact ⟨sr, (h1.but U S).ext (extN_same (s13.trans s4)), h2⟩
  · rw [List.eq_of_mem_replicate z]
    exact ⟨s, ⟨p, rfl, s4 _ _ (s3 _ _ (s2 _ _ ep))⟩, ok⟩
theorem ok_someS {f : Addr} {fd : FuncData} (F : Fun K "_law_some_source" "_law_some_source" sSomeSource f fd) (cD : Cal P w K mg base CX0 1 "_law_draw" ["state", "size_here"] spDraw) (cK : Cal P w K mg base CX0 2 "_law_pick" ["state", "several"] (spPick K)) :
    FnOk P w K mg base CX0 3 f fd ["state", "inputs", "registers", "gates"] spSomeS := by
  obtain ⟨fD, fdD, GD, kD, bD, mD⟩ := cD
  obtain ⟨fK, fdK, GK, kK, bK, mK⟩ := cK
  refine F.ok scSS (fun vs H Q E h => ?_) (fun cdv A outer s H vs Q E hr h => ?_)
  · obtain ⟨st, lg, cl, t, ni, nr, ng, rfl, _⟩ := h
    rfl
  · obtain ⟨st, lg, cl, t, ni, nr, ng, rfl, l1, l2, l3, ht, S, q⟩ := h
    refine ⟨_, (pss_cons (ps_set (i := 4) scSS.nd rfl (Or.inl rfl) (pe_lst (pa_cons (pe_tup (pa_cons pe_str (pa_cons (pe_call GD (hr.mono (by decide)) (by rfl) mD kD bD .nil pass0 (pa_cons (pv 0) (pa_cons pe_int pa_nil))) pa_nil))) pa_nil)))
      (pss_cons (ps_join (ps_if (pt_cmpR op_gt (pv 1) pe_int (nomark _)) (pss_one (ps_set (i := 4) scSS.nd rfl (Or.inl rfl) (pe_op op_cat (pv 4) (pe_op op_rep (pe_lst (pa_cons (pe_tup (pa_cons pe_str (pa_cons (pe_call GD (hr.mono (by decide)) (by rfl) mD kD bD .nil pass0 (pa_cons (pv 0) (pa_cons (pv 1) pa_nil))) pa_nil))) pa_nil)) pe_int)))) pss_nil))
      (pss_cons (ps_join (ps_if (pt_cmpR op_gt (pv 2) pe_int (nomark _)) (pss_one (ps_set (i := 4) scSS.nd rfl (Or.inl rfl) (pe_op op_cat (pv 4) (pe_op op_rep (pe_lst (pa_cons (pe_tup (pa_cons pe_str (pa_cons (pe_call GD (hr.mono (by decide)) (by rfl) mD kD bD .nil pass0 (pa_cons (pv 0) (pa_cons (pv 2) pa_nil))) pa_nil))) pa_nil)) pe_int)))) pss_nil))
      (pss_cons (ps_join (ps_if (pt_cmpR op_gt (pv 3) pe_int (nomark _)) (pss_one (ps_set (i := 4) scSS.nd rfl (Or.inl rfl) (pe_op op_cat (pv 4) (pe_op op_rep (pe_lst (pa_cons (pe_tup (pa_cons pe_str (pa_cons (pe_call GD (hr.mono (by decide)) (by rfl) mD kD bD .nil pass0 (pa_cons (pv 0) (pa_cons (pv 3) pa_nil))) pa_nil))) pa_nil)) pe_int)))) pss_nil))
      (pss_one (ps_ret (pe_call GK (hr.mono (by decide)) (by rfl) mK kK bK .nil pass0 (pa_cons (pv 0) (pa_cons (pv 4) pa_nil))))))))), ?_⟩
    refine ⟨_, rfl, st, lg, cl, t, 2, rfl, by decide, by decide, by omega, S, fun k H1 k0 k2 S1 U1 => ⟨(by show 2 ≤ sizeLine; decide), fun p np => ⟨(by show 1 ≤ sizeLine; decide), fun p2 np2 => ?_⟩⟩⟩
    obtain ⟨b, eb⟩ := bits01 k0 k2
    have s1 := same_new (o := .tup [.str "bit", .int k]) np
    have ep : (L2.upd H1 p (.tup [.str "bit", .int k])) p = some (.tup [.str "bit", .int k]) := upd_same
    generalize L2.upd H1 p (.tup [.str "bit", .int k]) = Ha at s1 ep np2
    have s2 := same_new (o := .lst [.ref p]) np2
    have n2 := But.st_new (o := .tup []) S1 (s1.free np2)
    have some0 : SomeS st lg (L2.upd Ha p2 (.lst [.ref p])) ni nr ng 1 (.ref p2) := ⟨p2, [.ref p], rfl, n2.1, n2.2, upd_same, (show 0 < 1 by decide), Nat.le_refl _, fun x hx => by
      rw [List.mem_singleton.mp hx]
      refine ⟨.bit b, ⟨p, rfl, ?_⟩, trivial⟩
      rw [s2 _ _ ep, eb]
      rfl⟩
    have S2 := S1.keep (s1.trans s2)
    have U2 := U1.trans (But.of (s1.trans s2))
    generalize L2.upd Ha p2 (.lst [.ref p]) = H2 at some0 S2 U2
    refine ⟨fun σ Hx => ∃ v, σ = [some (.ref st), some (.int (ni : Int)), some (.int (nr : Int)), some (.int (ng : Int)), some v] ∧ SomeS st lg Hx ni nr ng 4 v ∧ StOk Hx st lg cl (t + 2) ∧ But st lg H Hx, ⟨_, rfl, _, _, rfl, rfl, _, rfl, ite2 (fun e => ?_) (fun e => ?_)⟩, ?_⟩
    · have hpos : 0 < ni := by have := of_decide_eq_true e; omega
      refine ⟨_, rfl, _, rfl, _, rfl, st, lg, cl, t + 1, (ni : Int), rfl, by omega, by omega, by omega, S2, fun k H3 k0 k2 S3 U3 => ⟨(by show 2 ≤ sizeLine; decide), fun p np => ⟨(by show 1 ≤ sizeLine; decide), fun p2 np2 => ⟨p2, 3, _, rfl, rfl, upd_same, by decide, by decide, (by show 1 * 3 ≤ sizeLine; decide), fun p3 np3 => ?_⟩⟩⟩⟩
      obtain ⟨i, rfl⟩ : ∃ i : Nat, k = i := ⟨k.toNat, (Int.toNat_of_nonneg k0).symm⟩
      exact some_more (s := .inp i) (k := 3) some0 U3 S2 S3 (show i < ni by omega) (by decide) (fun v' H' hs sm => ⟨v', rfl, hs, S3.keep sm, (U2.trans U3).trans (But.of sm)⟩) p np p2 np2 p3 np3
    · exact ⟨_, rfl, by obtain ⟨a, vs, x1, x2, x3, x4, x5, x6, x7⟩ := some0; exact ⟨a, vs, x1, x2, x3, x4, x5, by omega, x7⟩, S2.up (by omega), U2⟩
    rintro σ H3 ⟨v3, rfl, some3, S3, U3⟩
    refine ⟨fun σ Hx => ∃ v, σ = [some (.ref st), some (.int (ni : Int)), some (.int (nr : Int)), some (.int (ng : Int)), some v] ∧ SomeS st lg Hx ni nr ng 6 v ∧ StOk Hx st lg cl (t + 3) ∧ But st lg H Hx, ⟨_, rfl, _, _, rfl, rfl, _, rfl, ite2 (fun e => ?_) (fun e => ?_)⟩, ?_⟩
    · have hpos : 0 < nr := by have := of_decide_eq_true e; omega
      refine ⟨_, rfl, _, rfl, _, rfl, st, lg, cl, t + 2, (nr : Int), rfl, by omega, by omega, by omega, S3, fun k H4 k0 k2 S4 U4 => ⟨(by show 2 ≤ sizeLine; decide), fun p np => ⟨(by show 1 ≤ sizeLine; decide), fun p2 np2 => ⟨p2, 2, _, rfl, rfl, upd_same, by decide, by decide, (by show 1 * 2 ≤ sizeLine; decide), fun p3 np3 => ?_⟩⟩⟩⟩
      obtain ⟨i, rfl⟩ : ∃ i : Nat, k = i := ⟨k.toNat, (Int.toNat_of_nonneg k0).symm⟩
      exact some_more (s := .reg i) (k := 2) some3 U4 S3 S4 (show i < nr by omega) (by decide) (fun v' H' hs sm => ⟨v', rfl, hs, S4.keep sm, (U3.trans U4).trans (But.of sm)⟩) p np p2 np2 p3 np3
    · exact ⟨_, rfl, by obtain ⟨a, vs, x1, x2, x3, x4, x5, x6, x7⟩ := some3; exact ⟨a, vs, x1, x2, x3, x4, x5, by omega, x7⟩, S3.up (by omega), U3⟩
    rintro σ H4 ⟨v4, rfl, some4, S4, U4⟩
    refine ⟨fun σ Hx => ∃ v, σ = [some (.ref st), some (.int (ni : Int)), some (.int (nr : Int)), some (.int (ng : Int)), some v] ∧ SomeS st lg Hx ni nr ng 12 v ∧ StOk Hx st lg cl (t + 4) ∧ But st lg H Hx, ⟨_, rfl, _, _, rfl, rfl, _, rfl, ite2 (fun e => ?_) (fun e => ?_)⟩, ?_⟩
    · have hpos : 0 < ng := by have := of_decide_eq_true e; omega
      refine ⟨_, rfl, _, rfl, _, rfl, st, lg, cl, t + 3, (ng : Int), rfl, by omega, by omega, by omega, S4, fun k H5 k0 k2 S5 U5 => ⟨(by show 2 ≤ sizeLine; decide), fun p np => ⟨(by show 1 ≤ sizeLine; decide), fun p2 np2 => ⟨p2, 6, _, rfl, rfl, upd_same, by decide, by decide, (by show 1 * 6 ≤ sizeLine; decide), fun p3 np3 => ?_⟩⟩⟩⟩
      obtain ⟨i, rfl⟩ : ∃ i : Nat, k = i := ⟨k.toNat, (Int.toNat_of_nonneg k0).symm⟩
      exact some_more (s := .gate i) (k := 6) some4 U5 S4 S5 (show i < ng by omega) (by decide) (fun v' H' hs sm => ⟨v', rfl, hs, S5.keep sm, (U4.trans U5).trans (But.of sm)⟩) p np p2 np2 p3 np3
    · exact ⟨_, rfl, by obtain ⟨a, vs, x1, x2, x3, x4, x5, x6, x7⟩ := some4; exact ⟨a, vs, x1, x2, x3, x4, x5, by omega, x7⟩, S4.up (by omega), U4⟩
    rintro σ H5 ⟨v5, rfl, ⟨a, vs, rfl, n1, n2', ea, p0, p1, hv⟩, S5, U5⟩
    refine ⟨_, rfl, _, rfl, st, lg, cl, a, t + 4, vs, rfl, p0, by omega, n1, n2', .inl (.inl ea), by omega, S5, fun x H6 hx S6 U6 => ?_⟩
    obtain ⟨sr, h1, h2⟩ := hv x hx
    exact q x sr H6 (h1.but U6 S5) h2 S6 (U5.trans U6)
end
end K02

set_option Elab.async false
set_option linter.all false
set_option maxRecDepth 100000
set_option maxHeartbeats 4000000
/-! The law's drawn circuits. -/
namespace K02
open PySem PySem.Spec L2
open PyProof.Rows GenW GxR EZ TK
open LamX (ExtN)
theorem But.tup {st lg cl : Addr} {H H' : Hp} {t : Nat} (U : But st lg H H') (S : StOk H st lg cl t) : TupKeep H H' := fun _ _ e => U.keepO S e (fun _ z => by cases z) (fun _ z => by cases z)
theorem SrcAt.keep {H H' : Hp} {y : V} {s : Src} (h : SrcAt H y s) (k : TupKeep H H') : SrcAt H' y s := by
  obtain ⟨a, e, b⟩ := h
  exact ⟨a, e, k _ _ b⟩
theorem RegAt.keep {H H' : Hp} {y : V} {r : Bool × Src} (h : RegAt H y r) (k : TupKeep H H') : RegAt H' y r := by
  obtain ⟨t, v, a, b, c⟩ := h
  exact ⟨t, v, a, k _ _ b, c.keep k⟩
theorem GateAt.keep {H H' : Hp} {y : V} {g : Gate} (h : GateAt H y g) (k : TupKeep H H') : GateAt H' y g := by
  obtain ⟨t, a, b, vs, h1, h2, h3, h4, h5⟩ := h
  exact ⟨t, a, b, vs, h1, k _ _ h2, k _ _ h3, all_ext (fun v x r => r.keep k) h4, k _ _ h5⟩
theorem CircAt.keep {H H' : Hp} {y : V} {C : Circ} (h : CircAt H y C) (k : TupKeep H H') : CircAt H' y C := by
  obtain ⟨t, ra, ga, oa, rs, gs, os, h1, h2, h3, h4, h5, h6, h7, h8⟩ := h
  exact ⟨t, ra, ga, oa, rs, gs, os, h1, k _ _ h2, k _ _ h3, k _ _ h4, k _ _ h5, all_ext (fun v x r => r.keep k) h6, all_ext (fun v x r => r.keep k) h7, all_ext (fun v x r => r.keep k) h8⟩
/-- a list at D that grows by drawn things -/
def DI {α : Type} (R : Hp → V → α → Prop) (ok : α → Prop) (st lg cl : Addr) (H1 : Hp) (D : Addr) (t c i : Nat) (Hx : Hp) : Prop := ∃ (vs : List V) (xs : List α), Hx D = some (.lst vs) ∧ vs.length = i ∧ AllAt R Hx vs xs ∧ (∀ x ∈ xs, ok x) ∧ StOk Hx st lg cl (t + c * i) ∧ But st lg H1 Hx
theorem DI.zero {α : Type} {R : Hp → V → α → Prop} {ok : α → Prop} {st lg cl : Addr} {H1 : Hp} {D : Addr} {t c : Nat} (nD : H1 D = none) (S : StOk H1 st lg cl t) : DI R ok st lg cl H1 D t c 0 (L2.upd H1 D (.lst [])) :=
  ⟨[], [], upd_same, rfl, .nil, (fun _ z => by cases z), S.keep (same_new nD), But.of (same_new nD)⟩
theorem DI.push {α : Type} {R : Hp → V → α → Prop} {ok : α → Prop} {st lg cl : Addr} {H1 Hx H4 : Hp} {D : Addr} {t c i t1 : Nat} {y : V} {x : α} (hR : ∀ H H' v x, TupKeep H H' → R H v x → R H' v x) (nD : H1 D = none) (S : StOk H1 st lg cl t1)
    (d : DI R ok st lg cl H1 D t c i Hx) (hi : i < 16000) (U : But st lg Hx H4) (S4 : StOk H4 st lg cl (t + c * (i + 1))) (hy : R H4 y x) (hx : ok x) :
    ∃ acc, H4 D = some (.lst acc) ∧ acc.length < sizeLine ∧ DI R ok st lg cl H1 D t c (i + 1) (L2.upd H4 D (.lst (acc ++ [y]))) := by
  obtain ⟨vs, xs, e, l, al, oks, Sx, Ux⟩ := d
  have nn := But.st_new (o := .tup []) S nD
  have n3 := S.cl_ne nD
  have e4 := U _ _ e nn.1 nn.2
  have tu : TupKeep H4 (L2.upd H4 D (.lst (vs ++ [y]))) := TupKeep.upd e4 fun xs z => by cases z
  refine ⟨vs, e4, by rw [l, sizeLine_eq]; omega, vs ++ [y], xs ++ [x], upd_same, by rw [List.length_append, l]; rfl, ?_, fun z hz => ?_, S4.upd nn.1 nn.2 n3, fun b o eb m1 m2 => ?_⟩
  · exact paired_snoc (all_ext (fun v x r => hR _ _ v x ((U.tup Sx).trans tu) r) al) (hR _ _ _ _ tu hy)
  · rcases List.mem_append.mp hz with z1 | z1
    · exact oks z z1
    · rw [List.mem_singleton.mp z1]
      exact hx
  · rw [upd_ne (ne_of_none eb nD)]
    exact U _ _ (Ux _ _ eb m1 m2) m1 m2
theorem DI.all {α : Type} {R : Hp → V → α → Prop} {ok : α → Prop} {st lg cl : Addr} {H1 Hx : Hp} {D : Addr} {t c i : Nat} (d : DI R ok st lg cl H1 D t c i Hx) : ∃ (vs : List V) (xs : List α), Hx D = some (.lst vs) ∧ xs.length = i ∧ AllAt R Hx vs xs ∧ (∀ x ∈ xs, ok x) ∧ StOk Hx st lg cl (t + c * i) ∧ But st lg H1 Hx := by
  obtain ⟨vs, xs, e, l, al, r⟩ := d
  exact ⟨vs, xs, e, by rw [← l]; exact (Paired.length al).symm, al, r⟩
theorem pick_size : ∀ x ∈ [V.int 0, .int 1, .int 1, .int 2, .int 2, .int 2, .int 3, .int 4], ∃ k : Nat, x = V.int (k : Int) ∧ k ≤ 4 := by
  intro x hx
  simp only [List.mem_cons, List.not_mem_nil, or_false] at hx
  rcases hx with h | h | h | h | h | h | h | h
  · exact ⟨0, h, by decide⟩
  · exact ⟨1, h, by decide⟩
  · exact ⟨1, h, by decide⟩
  · exact ⟨2, h, by decide⟩
  · exact ⟨2, h, by decide⟩
  · exact ⟨2, h, by decide⟩
  · exact ⟨3, h, by decide⟩
  · exact ⟨4, h, by decide⟩
section
variable {P : Program} {w : World} {K : PySem.W.Frag} {mg : Str → Option Value} {base : Heap}
def spLCirc : Sp := fun vs H Q _ => ∃ (st lg cl : Addr) (t most br : Nat), vs = [.ref st, .int (most : Int), .int (br : Int)] ∧ 0 < most ∧ most ≤ 100 ∧ br ≤ 4000 ∧ t + 10000 < 1000000000 ∧ StOk H st lg cl t ∧
  ∀ (y : V) (C : Circ) (H' : Hp), CircAt H' y C → C.ok → C.ni ≤ 3 → C.regs.length ≤ 2 → 1 ≤ C.gates.length → C.gates.length ≤ most → C.outs.length ≤ 3 → fanG C.gates ≤ br → StOk H' st lg cl (t + 40 * most + 60) → But st lg H H' → Q y H'
abbrev nLC : List Str := ["state", "most", "branches", "inputs", "registers", "gates", "found", "left", "spot", "size", "held", "outputs", "lap"]
theorem scLC : FnScope nLC ["state", "most", "branches"] (defScope sLCircuit) := ⟨rfl, rfl, rfl, by decide +kernel, rfl, by decide +kernel, by decide +kernel⟩
theorem ok_lcirc {f : Addr} {fd : FuncData} (F : Fun K "_law_circuit" "_law_circuit" sLCircuit f fd) (mrange : mg "range" = none) (mmin : mg "min" = none) (mtuple : mg "tuple" = none)
    (cD : Cal P w K mg base CX0 1 "_law_draw" ["state", "size_here"] spDraw) (cK : Cal P w K mg base CX0 2 "_law_pick" ["state", "several"] (spPick K)) (cS : Cal P w K mg base CX0 3 "_law_some_source" ["state", "inputs", "registers", "gates"] spSomeS) (cT : Cal P w K mg base CX0 2 "_law_table" ["state", "size"] spLTable) :
    FnOk P w K mg base CX0 4 f fd ["state", "most", "branches"] spLCirc := by
  obtain ⟨fD, fdD, GD, kD, bD, mD⟩ := cD
  obtain ⟨fK, fdK, GK, kK, bK, mK⟩ := cK
  obtain ⟨fS, fdS, GS, kS, bS, mS⟩ := cS
  obtain ⟨fT, fdT, GT, kT, bT, mT⟩ := cT
  refine F.ok scLC (fun vs H Q E h => ?_) (fun cdv A outer s H vs Q E hr h => ?_)
  · obtain ⟨st, lg, cl, t, most, br, rfl, _⟩ := h
    rfl
  · obtain ⟨st, lg, cl, t, most, br, rfl, hm0, hm1, hbr, ht, S, q⟩ := h
    refine ⟨_, (pss_cons (ps_asg (pe_tup (pa_cons (pe_call GD (hr.mono (by decide)) (by rfl) mD kD bD .nil pass0 (pa_cons (pv 0) (pa_cons pe_int pa_nil))) (pa_cons (pe_call GD (hr.mono (by decide)) (by rfl) mD kD bD .nil pass0 (pa_cons (pv 0) (pa_cons pe_int pa_nil))) (pa_cons (pe_op op_add pe_int (pe_call GD (hr.mono (by decide)) (by rfl) mD kD bD .nil pass0 (pa_cons (pv 0) (pa_cons (pv 1) pa_nil)))) pa_nil)))) (pg_tup rfl (pgs_cons (pg_name (i := 3) scLC.nd rfl (Or.inr rfl)) (pgs_cons (pg_name (i := 4) scLC.nd rfl (Or.inr rfl)) (pgs_cons (pg_name (i := 5) scLC.nd rfl (Or.inr rfl)) pgs_nil)))))
      (pss_cons (ps_par (i := 6) (j := 7) rfl scLC.nd rfl rfl (by decide) rfl rfl (pa_cons (pe_lst pa_nil) (pa_cons (pv 2) pa_nil)) (by rfl))
      (pss_cons (ps_for PassesOwn.never rfl (pi_range1 (by rfl) mrange (pa_cons (pv 5) pa_nil)) (pg_name (i := 8) scLC.nd rfl (Or.inl rfl))
        (pss_cons (ps_set (i := 9) scLC.nd rfl (Or.inl rfl) (pe_callB (call_min2 rfl) (by rfl) mmin (by decide +kernel) (pa_cons (pv 7) (pa_cons (pe_call GK (hr.mono (by decide)) (by rfl) mK kK bK .nil pass0 (pa_cons (pv 0) (pa_cons (pe_lst (pa_cons pe_int (pa_cons pe_int (pa_cons pe_int (pa_cons pe_int (pa_cons pe_int (pa_cons pe_int (pa_cons pe_int (pa_cons pe_int pa_nil))))))))) pa_nil))) pa_nil))))
        (pss_cons (ps_set (i := 7) scLC.nd rfl (Or.inl rfl) (pe_op op_sub (pv 7) (pv 9)))
        (pss_one (ps_expr (pe_bm PySem.F.plainAttrs_list PySem.F.slot_list_append PySem.F.type_list_append mt_append (pv 6) (pa_cons (pe_tup (pa_cons (pe_callTy call_tuple_of (by rfl) mtuple (by decide +kernel) (pa_cons (pe_lc (own := [("lap", 12)]) (g := gName 12) (tt := tYes) rfl scLC.nd (pi_range1 (by rfl) mrange (pa_cons (pv 9) pa_nil)) (blkOk_by (N := nLC) (sc := defScope sLCircuit) (by decide +kernel)) (fun _ _ _ _ _ => (pg_name (i := 12) scLC.nd rfl (Or.inl rfl))) (fun _ _ _ _ _ => pts_nil) (fun _ _ _ _ _ => (pe_call GS (hr.mono (by decide)) (by rfl) mS kS bS .nil pass0 (pa_cons (pv 0) (pa_cons (pv 3) (pa_cons (pv 4) (pa_cons (pv 5) pa_nil))))))) pa_nil)) (pa_cons (pe_call GT (hr.mono (by decide)) (by rfl) mT kT bT .nil pass0 (pa_cons (pv 0) (pa_cons (pv 9) pa_nil))) pa_nil))) pa_nil)))))))
      (pss_cons (ps_set (i := 10) scLC.nd rfl (Or.inl rfl) (pe_callTy call_tuple_of (by rfl) mtuple (by decide +kernel) (pa_cons (pe_lc (own := [("spot", 8)]) (g := gName 8) (tt := tYes) rfl scLC.nd (pi_range1 (by rfl) mrange (pa_cons (pv 4) pa_nil)) (blkOk_by (N := nLC) (sc := defScope sLCircuit) (by decide +kernel)) (fun _ _ _ _ _ => (pg_name (i := 8) scLC.nd rfl (Or.inl rfl))) (fun _ _ _ _ _ => pts_nil) (fun _ _ _ _ _ => (pe_tup (pa_cons (pe_call GD (hr.mono (by decide)) (by rfl) mD kD bD .nil pass0 (pa_cons (pv 0) (pa_cons pe_int pa_nil))) (pa_cons (pe_call GS (hr.mono (by decide)) (by rfl) mS kS bS .nil pass0 (pa_cons (pv 0) (pa_cons (pv 3) (pa_cons (pv 4) (pa_cons (pv 5) pa_nil))))) pa_nil))))) pa_nil)))
      (pss_cons (ps_set (i := 11) scLC.nd rfl (Or.inl rfl) (pe_callTy call_tuple_of (by rfl) mtuple (by decide +kernel) (pa_cons (pe_lc (own := [("spot", 8)]) (g := gName 8) (tt := tYes) rfl scLC.nd (pi_range1 (by rfl) mrange (pa_cons (pe_call GD (hr.mono (by decide)) (by rfl) mD kD bD .nil pass0 (pa_cons (pv 0) (pa_cons pe_int pa_nil))) pa_nil)) (blkOk_by (N := nLC) (sc := defScope sLCircuit) (by decide +kernel)) (fun _ _ _ _ _ => (pg_name (i := 8) scLC.nd rfl (Or.inl rfl))) (fun _ _ _ _ _ => pts_nil) (fun _ _ _ _ _ => (pe_call GS (hr.mono (by decide)) (by rfl) mS kS bS .nil pass0 (pa_cons (pv 0) (pa_cons (pv 3) (pa_cons (pv 4) (pa_cons (pv 5) pa_nil))))))) pa_nil)))
      (pss_one (ps_ret (pe_tup (pa_cons (pv 3) (pa_cons (pv 10) (pa_cons (pe_callTy call_tuple_of (by rfl) mtuple (by decide +kernel) (pa_cons (pv 6) pa_nil)) (pa_cons (pv 11) pa_nil)))))))))))), ?_⟩
    -- inputs, registers, gates
    refine ⟨_, rfl, st, lg, cl, t, 4, rfl, by decide, by decide, by omega, S, fun k1 H1 a0 a1 S1 U1 => ⟨_, rfl, st, lg, cl, t + 1, 3, rfl, by decide, by decide, by omega, S1, fun k2 H2 b0 b1 S2 U2 => ⟨_, rfl, _, rfl, st, lg, cl, t + 2, (most : Int), rfl, by omega, by omega, by omega, S2, fun k3 H3 c0 c1 S3 U3 => ?_⟩⟩⟩
    obtain ⟨ni, rfl⟩ : ∃ n : Nat, k1 = n := ⟨k1.toNat, (Int.toNat_of_nonneg a0).symm⟩
    obtain ⟨nr, rfl⟩ : ∃ n : Nat, k2 = n := ⟨k2.toNat, (Int.toNat_of_nonneg b0).symm⟩
    obtain ⟨ng, eng, ng1, ng2⟩ : ∃ n : Nat, 1 + k3 = (n : Int) ∧ 1 ≤ n ∧ n ≤ most := ⟨(1 + k3).toNat, by omega, by omega, by omega⟩
    refine ⟨_, _, rfl, rfl, ?_⟩
    refine ⟨(by show 3 ≤ sizeLine; decide), fun tp ntp => ?_⟩
    have s34 := same_new (o := .tup [.int (ni : Int), .int (nr : Int), .int (1 + k3)]) ntp
    have e4 : (L2.upd H3 tp (.tup [.int (ni : Int), .int (nr : Int), .int (1 + k3)])) tp = some (.tup [.int (ni : Int), .int (nr : Int), .int (1 + k3)]) := upd_same
    have S4 := S3.keep s34
    have U4 := ((U1.trans U2).trans U3).trans (But.of s34)
    generalize L2.upd H3 tp (.tup [.int (ni : Int), .int (nr : Int), .int (1 + k3)]) = H4 at e4 S4 U4
    rw [eng] at e4
    refine ⟨tp, _, rfl, .inl (.inl e4), rfl, _, _, rfl, _, _, rfl, _, _, rfl, rfl, ?_⟩
    -- found, left = [], branches
    refine ⟨Nat.zero_le _, fun fa nfa => ⟨_, rfl, _, _, rfl, ?_⟩⟩
    have nfs := But.st_new (o := .tup []) S4 nfa
    have d1 : DI GateAt (fun g : Gate => g.ok ni nr ng) st lg cl H4 fa (t + 3) 40 0 (L2.upd H4 fa (.lst [])) := DI.zero nfa S4
    generalize L2.upd H4 fa (.lst []) = H5 at d1
    refine ⟨_, rfl, ng, rfl, by omega, by omega, ?_⟩
    rw [Int.toNat_natCast]
    refine for_range (fun i σ Hx => ∃ (li : Int) (y8 y9 y10 y11 : Option V) (lf : Nat), σ = [some (.ref st), some (.int (most : Int)), some (.int (br : Int)), some (.int (ni : Int)), some (.int (nr : Int)), some (.int (ng : Int)), some (.ref fa), some (.int li), y8, y9, y10, y11, none] ∧ li = (lf : Int) ∧
        ∃ (vs : List V) (xs : List Gate), Hx fa = some (.lst vs) ∧ vs.length = i ∧ AllAt GateAt Hx vs xs ∧ (∀ x ∈ xs, x.ok ni nr ng) ∧ StOk Hx st lg cl (t + 3 + 40 * i) ∧ But st lg H4 Hx ∧ fanG xs + lf ≤ br)
      ?start (fun i σ Hx hi hh => ?turn) (fun σ Hx hh => ?done)
    case start =>
      obtain ⟨vs, xs, h1, h2, h3, h4, h5, h6⟩ := d1
      refine ⟨_, _, _, _, _, br, rfl, rfl, vs, xs, h1, h2, h3, h4, h5, h6, ?_⟩
      have : xs = [] := by
        cases xs with
        | nil => rfl
        | cons a r =>
          have z := Paired.length h3
          rw [h2] at z
          cases z
      rw [this]
      show 0 + br ≤ br
      omega
    case turn =>
      obtain ⟨_, y8, y9, y10, y11, lf, rfl, rfl, vs, xs, efa, lvs, hvs, hok, Sx, Ux, hfan⟩ := hh
      -- size = min(left, _law_pick(..))
      refine ⟨_, rfl, _, rfl, (by show 8 ≤ sizeLine; decide), fun lp nlp => ?_⟩
      have s1 := same_new (o := .lst [V.int 0, .int 1, .int 1, .int 2, .int 2, .int 2, .int 3, .int 4]) nlp
      have nlp2 := But.st_new (o := .tup []) Sx nlp
      refine ⟨st, lg, cl, lp, t + 3 + 40 * i, [V.int 0, .int 1, .int 1, .int 2, .int 2, .int 2, .int 3, .int 4], rfl, (by show 0 < 8; decide), (by show 8 ≤ 1000; decide), nlp2.1, nlp2.2, .inl (.inl upd_same), by omega, Sx.keep s1, fun x H6 hx S6 U6 => ?_⟩
      obtain ⟨k, rfl, hk4⟩ := pick_size x hx
      refine ⟨_, _, rfl, ?_⟩
      obtain ⟨sz, esz, hs1, hs2⟩ : ∃ sz : Nat, (if (k : Int) < (lf : Int) then (k : Int) else (lf : Int)) = (sz : Int) ∧ sz ≤ 4 ∧ sz ≤ lf := by
        by_cases c : (k : Int) < (lf : Int)
        · exact ⟨k, if_pos c, hk4, by omega⟩
        · exact ⟨lf, if_neg c, by omega, Nat.le_refl _⟩
      rw [esz]
      have efa6 := U6 _ _ (s1 _ _ efa) nfs.1 nfs.2
      have hvs6 : AllAt GateAt H6 vs xs := all_ext (fun v x r => r.keep ((TupKeep.of s1).trans (U6.tup (Sx.keep s1)))) hvs
      have Ux6 := (Ux.trans (But.of s1)).trans U6
      -- left = left - size
      refine ⟨_, rfl, _, rfl, _, _, rfl, rfl, ?_⟩
      have elf : (lf : Int) - (sz : Int) = ((lf - sz : Nat) : Int) := by omega
      -- found.append((tuple([..]), _law_table(state, size)))
      refine ⟨_, rfl, .inl ⟨rfl, vs, .inl (.inl efa6)⟩, _, rfl, sz, rfl, by omega, by omega, fun D nD => ?_⟩
      rw [Int.toNat_natCast]
      have nDs := But.st_new (o := .tup []) S6 nD
      have Dfa : D ≠ fa := fun z => by
        rw [z, efa6] at nD
        cases nD
      refine lc_range (DI SrcAt (fun sr : Src => sr.ok ni nr ng) st lg cl H6 D (t + 3 + 40 * i + 1) 5) (DI.zero nD S6) (fun j H7 hj d => ?_) (fun H7 d => ?_)
      · obtain ⟨_, _, _, _, _, _, S7, _⟩ := id d
        refine ⟨rfl, _, rfl, _, rfl, _, rfl, _, rfl, st, lg, cl, t + 3 + 40 * i + 1 + 5 * j, ni, nr, ng, rfl, by omega, by omega, by omega, by omega, S7, fun x sr H8 hs oks S8 U8 => ?_⟩
        exact DI.push (fun H H' v x k r => r.keep k) nD S6 d (by omega) U8 (S8.up (by omega)) hs oks
      obtain ⟨zs, srs, eD, lsr, hzs, oks, S7, U7⟩ := d.all
      refine ⟨D, zs, rfl, .inl ⟨.inl (.inl eD), fun p np => ?_⟩⟩
      have s8 := same_new (o := .tup zs) np
      have ep : (L2.upd H7 p (.tup zs)) p = some (.tup zs) := upd_same
      have S8 := S7.keep s8
      have U8 := U7.trans (But.of s8)
      have hzs8 : AllAt SrcAt (L2.upd H7 p (.tup zs)) zs srs := all_ext (fun v x r => r.keep (.of s8)) hzs
      generalize L2.upd H7 p (.tup zs) = H8 at ep S8 U8 hzs8
      refine ⟨_, rfl, _, rfl, st, lg, cl, _, sz, rfl, hs1, by omega, S8, fun tb p2 H9 ltb e9 n9 S9 U9 => ⟨(by show 2 ≤ sizeLine; decide), fun gp ngp => ?_⟩⟩
      have s10 := same_new (o := .tup [.ref p, .ref p2]) ngp
      have egp : (L2.upd H9 gp (.tup [.ref p, .ref p2])) gp = some (.tup [.ref p, .ref p2]) := upd_same
      have S10 := S9.keep s10
      have U10 := (U8.trans U9).trans (But.of s10)
      have k9 := (U9.tup S8).trans (TupKeep.of s10)
      have hga : GateAt (L2.upd H9 gp (.tup [.ref p, .ref p2])) (.ref gp) (srs, tb) := ⟨gp, p, p2, zs, rfl, egp, k9 _ _ ep, all_ext (fun v x r => r.keep k9) hzs8, s10 _ _ e9⟩
      have hvs10 : AllAt GateAt (L2.upd H9 gp (.tup [.ref p, .ref p2])) vs xs := all_ext (fun v x r => r.keep (U10.tup S6)) hvs6
      have efa10 := U10 _ _ efa6 nfs.1 nfs.2
      have hok' : Gate.ok ni nr ng (srs, tb) := ⟨by show srs.length ≤ 4; omega, by show tb.length = 2 ^ srs.length; rw [lsr, ltb], oks⟩
      generalize L2.upd H9 gp (.tup [.ref p, .ref p2]) = Ha at egp S10 U10 hga hvs10 efa10
      have tu : TupKeep Ha (L2.upd Ha fa (.lst (vs ++ [.ref gp]))) := TupKeep.upd efa10 fun xs z => by cases z
      refine ⟨fa, vs, _, rfl, rfl, efa10, by rw [lvs, sizeLine_eq]; omega, _, _, _, _, _, lf - sz, rfl, elf, vs ++ [.ref gp], xs ++ [(srs, tb)], upd_same, by rw [List.length_append, lvs]; rfl, ?_, fun z hz => ?_, (S10.up (by omega)).upd nfs.1 nfs.2 (S4.cl_ne nfa), fun b o eb m1 m2 => ?_, ?_⟩
      · exact paired_snoc (all_ext (fun v x r => r.keep tu) hvs10) (hga.keep tu)
      · rcases List.mem_append.mp hz with z1 | z1
        · exact hok z z1
        · rw [List.mem_singleton.mp z1]
          exact hok'
      · rw [upd_ne (ne_of_none eb nfa)]
        exact (Ux6.trans U10) _ _ eb m1 m2
      · have e : fanG (xs ++ [(srs, tb)]) = fanG xs + sz := by
          unfold fanG
          rw [List.map_append, List.sum_append]
          show _ + (srs.length + 0) = _
          omega
        rw [e]
        omega
    case done =>
      obtain ⟨_, y8, y9, y10, y11, lf, rfl, rfl, vs, xs, efa, lvs, hvs, hok, Sx, Ux, hfan⟩ := hh
      have lxs : xs.length = ng := by rw [← lvs]; exact (Paired.length hvs).symm
      -- held = tuple([..])
      refine ⟨_, rfl, nr, rfl, by omega, by omega, fun D nD => ?_⟩
      rw [Int.toNat_natCast]
      refine lc_range (DI RegAt (fun r : Bool × Src => r.2.ok ni nr ng) st lg cl Hx D (t + 3 + 40 * ng) 6) (DI.zero nD Sx) (fun j H7 hj d => ?_) (fun H7 d => ?_)
      · obtain ⟨_, _, _, _, _, _, S7, _⟩ := id d
        refine ⟨rfl, _, rfl, st, lg, cl, t + 3 + 40 * ng + 6 * j, 2, rfl, by decide, by decide, by omega, S7, fun k H8 k0 k1 S8 U8 => ⟨_, rfl, _, rfl, _, rfl, _, rfl, st, lg, cl, _, ni, nr, ng, rfl, by omega, by omega, by omega, by omega, S8, fun x sr H9 hs oks S9 U9 => ⟨(by show 2 ≤ sizeLine; decide), fun p np => ?_⟩⟩⟩
        obtain ⟨b, eb⟩ := bits01 k0 k1
        have s10 := same_new (o := .tup [.int k, x]) np
        refine DI.push (x := (b, sr)) (fun H H' v x k r => r.keep k) nD Sx d (by omega) ((U8.trans U9).trans (But.of s10)) ((S9.keep s10).up (by omega)) ⟨p, x, rfl, ?_, hs.keep (.of s10)⟩ oks
        rw [upd_same, eb]
      obtain ⟨zr, rgs, eD, lrg, hzr, okr, S7, U7⟩ := d.all
      refine ⟨D, zr, rfl, .inl ⟨.inl (.inl eD), fun pr npr => ?_⟩⟩
      have s8 := same_new (o := .tup zr) npr
      have epr : (L2.upd H7 pr (.tup zr)) pr = some (.tup zr) := upd_same
      have S8 := S7.keep s8
      have U8 := (Ux.trans U7).trans (But.of s8)
      have k78 := (U7.tup Sx).trans (TupKeep.of s8)
      have hzr8 : AllAt RegAt (L2.upd H7 pr (.tup zr)) zr rgs := all_ext (fun v x r => r.keep (.of s8)) hzr
      have hvs8 : AllAt GateAt (L2.upd H7 pr (.tup zr)) vs xs := all_ext (fun v x r => r.keep k78) hvs
      have efa8 := s8 _ _ (U7 _ _ efa nfs.1 nfs.2)
      generalize L2.upd H7 pr (.tup zr) = H8 at epr S8 U8 hzr8 hvs8 efa8
      -- outputs = tuple([..])
      refine ⟨_, rfl, st, lg, cl, _, 4, rfl, by decide, by decide, by omega, S8, fun k H9 k0 k1 S9 U9 => ⟨_, rfl, by omega, by omega, fun D2 nD2 => ?_⟩⟩
      obtain ⟨no, rfl⟩ : ∃ n : Nat, k = n := ⟨k.toNat, (Int.toNat_of_nonneg k0).symm⟩
      rw [Int.toNat_natCast]
      refine lc_range (DI SrcAt (fun sr : Src => sr.ok ni nr ng) st lg cl H9 D2 (t + 3 + 40 * ng + 6 * nr + 1) 5) (DI.zero nD2 S9) (fun j H7 hj d => ?_) (fun H10 d => ?_)
      · obtain ⟨_, _, _, _, _, _, S7, _⟩ := id d
        refine ⟨rfl, _, rfl, _, rfl, _, rfl, _, rfl, st, lg, cl, _, ni, nr, ng, rfl, by omega, by omega, by omega, by omega, S7, fun x sr H8 hs oks S8 U8 => ?_⟩
        exact DI.push (fun H H' v x k r => r.keep k) nD2 S9 d (by omega) U8 (S8.up (by omega)) hs oks
      obtain ⟨zo, ous, eD2, lou, hzo, oko, S10, U10⟩ := d.all
      refine ⟨D2, zo, rfl, .inl ⟨.inl (.inl eD2), fun po npo => ?_⟩⟩
      have s11 := same_new (o := .tup zo) npo
      have epo : (L2.upd H10 po (.tup zo)) po = some (.tup zo) := upd_same
      have S11 := S10.keep s11
      have U11 := (U9.trans U10).trans (But.of s11)
      have k11 := U11.tup S8
      have hzo11 : AllAt SrcAt (L2.upd H10 po (.tup zo)) zo ous := all_ext (fun v x r => r.keep (.of s11)) hzo
      have efa11 := U11 _ _ efa8 nfs.1 nfs.2
      generalize L2.upd H10 po (.tup zo) = H11 at epo S11 U11 k11 hzo11 efa11
      refine ⟨_, rfl, _, rfl, _, rfl, fa, vs, rfl, .inl ⟨.inl (.inl efa11), fun pg npg => ⟨_, rfl, (by show 4 ≤ sizeLine; decide), fun pc npc => ?_⟩⟩⟩
      have s12 := same_new (o := .tup vs) npg
      have epg : (L2.upd H11 pg (.tup vs)) pg = some (.tup vs) := upd_same
      generalize L2.upd H11 pg (.tup vs) = H12 at s12 epg npc
      have s13 := same_new (o := .tup [.int (ni : Int), .ref pr, .ref pg, .ref po]) npc
      have s23 := s12.trans s13
      have kk := k11.trans (TupKeep.of s23)
      refine q (.ref pc) ⟨ni, rgs, xs, ous⟩ _ ⟨pc, pr, pg, po, zr, vs, zo, rfl, upd_same, kk _ _ epr, s13 _ _ epg, s23 _ _ epo, all_ext (fun v x r => r.keep kk) hzr8, all_ext (fun v x r => r.keep kk) hvs8, all_ext (fun v x r => r.keep (.of s23)) hzo11⟩
        ⟨by show ni ≤ 8; omega, by show rgs.length ≤ 60; omega, by show xs.length ≤ 2000; omega, by show ous.length ≤ 60; omega, fun r hr => by show r.2.ok ni rgs.length xs.length; rw [lrg, lxs]; exact okr r hr, fun g hg => by show g.ok ni rgs.length xs.length; rw [lrg, lxs]; exact hok g hg, fun s hs => by show s.ok ni rgs.length xs.length; rw [lrg, lxs]; exact oko s hs⟩
        (by show ni ≤ 3; omega) (by show rgs.length ≤ 2; omega) (by show 1 ≤ xs.length; omega) (by show xs.length ≤ most; omega) (by show ous.length ≤ 3; omega) (by show fanG xs ≤ br; omega) ((S11.keep s23).up ?_) (((U4.trans U8).trans U11).trans (But.of s23))
      have h1 : 40 * ng ≤ 40 * most := Nat.mul_le_mul_left _ ng2
      omega
end
end K02

set_option Elab.async false
set_option linter.all false
set_option maxRecDepth 100000
set_option maxHeartbeats 4000000
/-! The law's mixed rows, drawn cases, values that are no readings. -/
namespace K02
open PySem PySem.Spec L2
open PyProof.Rows GenW GxR EZ TK
open LamX (ExtN)
abbrev sMixed : Stmt := top 40 -- _law_mixed
abbrev sCaseBits : Stmt := top 53 -- _law_case_bits
abbrev sCaseR : Stmt := top 54 -- _law_case_readings
theorem seqIx {i n : Nat} (h : i < n) : seqIndex? (i : Int) n = some i := by
  unfold seqIndex?
  have e : (if ((i : Int) < 0) then ((i : Int) + (n : Int)) else (i : Int)) = (i : Int) := if_neg (by omega)
  rw [e]
  simp
  omega
theorem map_eraseIdx' {α β : Type} {f : α → β} : ∀ (l : List α) (i : Nat), (l.map f).eraseIdx i = (l.eraseIdx i).map f
  | [], i => by simp
  | a :: r, 0 => rfl
  | a :: r, i + 1 => by
    show f a :: (r.map f).eraseIdx i = f a :: (r.eraseIdx i).map f
    rw [map_eraseIdx' r i]
theorem perm_erase {α : Type} : ∀ {l : List α} {i : Nat} (h : i < l.length), ([l[i]] ++ l.eraseIdx i).Perm l
  | a :: r, 0, _ => List.Perm.refl _
  | a :: r, i + 1, h => by
    have hi : i < r.length := by simpa using h
    have ih := perm_erase (l := r) (i := i) hi
    exact (List.Perm.swap a r[i] (r.eraseIdx i)).trans (List.Perm.cons a ih)
theorem nV_inj {a b : List Nat} (h : nV a = nV b) : a = b := by
  unfold nV at h
  exact (List.map_inj_right fun x y z => by
    have := V.int.inj z
    omega).mp h
section
variable {P : Program} {w : World} {K : PySem.W.Frag} {mg : Str → Option Value} {base : Heap}
def spMixed (K : PySem.W.Frag) : Sp := fun vs H Q _ => ∃ (st lg cl a : Addr) (t : Nat) (ns : List Nat), vs = [.ref st, .ref a] ∧ SqL K H a (nV ns) ∧ a ≠ st ∧ a ≠ lg ∧ ns.length ≤ 2000 ∧ t + 3000 < 1000000000 ∧ StOk H st lg cl t ∧
  ∀ (r : Addr) (ms : List Nat) (H' : Hp), ms.Perm ns → H' r = some (.lst (nV ms)) → r ≠ st → r ≠ lg → H r = none → StOk H' st lg cl (t + ns.length) → But st lg H H' → Q (.ref r) H'
theorem scMixed : FnScope ["state", "several", "line", "found"] ["state", "several"] (defScope sMixed) := ⟨rfl, rfl, rfl, by decide +kernel, rfl, by decide +kernel, by decide +kernel⟩
theorem ok_mixed {f : Addr} {fd : FuncData} (F : Fun K "_law_mixed" "_law_mixed" sMixed f fd) (mlist : mg "list" = none) (mlen : mg "len" = none) (cD : Cal P w K mg base CX0 1 "_law_draw" ["state", "size_here"] spDraw) : FnOk P w K mg base CX0 2 f fd ["state", "several"] (spMixed K) := by
  obtain ⟨fD, fdD, GD, kD, bD, mD⟩ := cD
  refine F.ok scMixed (fun vs H Q E h => ?_) (fun cdv A outer s H vs Q E hr h => ?_)
  · obtain ⟨st, lg, cl, a, t, ns, rfl, _⟩ := h
    rfl
  · obtain ⟨st, lg, cl, a, t, ns, rfl, hS, n1, n2, hl, ht, S, q⟩ := h
    have hu64 := hr.units
    refine ⟨_, (pss_cons (ps_par (i := 2) (j := 3) rfl scMixed.nd rfl rfl (by decide) rfl rfl (pa_cons (pe_callTy call_list_of (by rfl) mlist (by decide +kernel) (pa_cons (pv 1) pa_nil)) (pa_cons (pe_lst pa_nil) pa_nil)) (by rfl))
      (pss_cons (ps_while PassesOwn.never (pt_cmpR (op_neD hu64) (pv 2) (pe_lst pa_nil) (nomark _))
        (pss_one (ps_expr (pe_bm PySem.F.plainAttrs_list PySem.F.slot_list_append PySem.F.type_list_append mt_append (pv 3) (pa_cons (pe_bm PySem.F.plainAttrs_list PySem.F.slot_list_pop PySem.F.type_list_pop mt_popAt (pv 2) (pa_cons (pe_call GD (hr.mono (by decide)) (by rfl) mD kD bD .nil pass0 (pa_cons (pv 0) (pa_cons (pe_callB call_len_seq (by rfl) mlen PySem.boot_len (pa_cons (pv 2) pa_nil)) pa_nil))) pa_nil)) pa_nil)))))
      (pss_one (ps_ret (pv 3))))), ?_⟩
    refine ⟨_, rfl, a, nV ns, rfl, .inl hS, fun la nla => ⟨Nat.zero_le _, fun fa nfa => ⟨_, _, rfl, ?_⟩⟩⟩
    have s1 := same_new (o := .lst (nV ns)) nla
    have e1 : (L2.upd H la (.lst (nV ns))) la = some (.lst (nV ns)) := upd_same
    have S1 := S.keep s1
    have nls := But.st_new (o := .tup []) S nla
    have lcl := S.cl_ne nla
    generalize hH1 : L2.upd H la (.lst (nV ns)) = H1 at s1 e1 S1 nfa
    have s2 := same_new (o := .lst []) nfa
    have e2 : (L2.upd H1 fa (.lst [])) fa = some (.lst []) := upd_same
    have nfs := But.st_new (o := .tup []) S1 nfa
    have fcl := S1.cl_ne nfa
    have lafa : la ≠ fa := fun z => by
      rw [z, nfa] at e1
      cases e1
    have n0fa := s1.free nfa
    have e1' := s2 _ _ e1
    have S2 := S1.keep s2
    have s02 := s1.trans s2
    generalize L2.upd H1 fa (.lst []) = H2 at s2 e2 e1' S2 s02
    refine ⟨fun m σ Hx => σ = [some (.ref st), some (.ref a), some (.ref la), some (.ref fa)] ∧ ∃ (rest done : List Nat), m = rest.length ∧ Hx la = some (.lst (nV rest)) ∧ Hx fa = some (.lst (nV done)) ∧ (done ++ rest).Perm ns ∧ StOk Hx st lg cl (t + done.length) ∧ But st lg H Hx,
      ⟨_, rfl, ns, [], rfl, e1', e2, List.Perm.refl _, S2, But.of s02⟩, fun m σ Hx hW => ?_⟩
    obtain ⟨rfl, rest, done, rfl, el, ef, pm, Sx, Ux⟩ := hW
    have lsum : done.length + rest.length = ns.length := by
      rw [← List.length_append]
      exact pm.length_eq
    refine ⟨_, rfl, Nat.zero_le _, fun p np => ?_⟩
    have s3 := same_new (o := .lst []) np
    have ep : (L2.upd Hx p (.lst [])) p = some (.lst []) := upd_same
    have el3 := s3 _ _ el
    have ef3 := s3 _ _ ef
    have S3 := Sx.keep s3
    have U3 := Ux.trans (But.of s3)
    generalize L2.upd Hx p (.lst []) = H3 at ep el3 ef3 S3 U3
    refine ⟨.list ((rest.map fun n : Nat => (n : Int)).map PyData.int), .list [], .lst (.inl (.inl (by rw [← nV_int]; exact el3))) (dp_ints _), .lst (.inl (.inl ep)) .nil, PySem.W.ke_shaped_ints _, PySem.W.ke_shaped_ints [], _, rfl, ?_⟩
    cases rest with
    | nil =>
      refine iteF ?_
      rw [List.append_nil] at pm
      refine ⟨_, rfl, q fa done H3 pm ef3 nfs.1 nfs.2 n0fa (S3.up (by simp at lsum; omega)) U3⟩
    | cons x r =>
      refine iteT ⟨fun σ' Hy => σ' = [some (.ref st), some (.ref a), some (.ref la), some (.ref fa)] ∧ ∃ (rest done : List Nat), rest.length = r.length ∧ Hy la = some (.lst (nV rest)) ∧ Hy fa = some (.lst (nV done)) ∧ (done ++ rest).Perm ns ∧ StOk Hy st lg cl (t + done.length) ∧ But st lg H Hy,
        fun σ' Hy ⟨b1, rest, done, b2, b3⟩ => ⟨rest.length, by rw [b2]; exact Nat.lt_succ_self _, b1, rest, done, rfl, b3⟩, ?_⟩
      have hlen : (nV (x :: r)).length = r.length + 1 := by rw [nV_len]; rfl
      refine ⟨_, rfl, .inl ⟨rfl, _, .inl (.inl ef3)⟩, _, rfl, .inl ⟨rfl, _, .inl (.inl el3)⟩, _, rfl, _, rfl, la, _, rfl, .inl (.inl (.inl el3)), st, lg, cl, t + done.length, ((nV (x :: r)).length : Int), rfl, by rw [hlen]; omega, by rw [hlen]; simp at lsum; omega, by simp at lsum; omega, S3, fun k H4 k0 k1 S4 U4 => ?_⟩
      obtain ⟨i, rfl⟩ : ∃ n : Nat, k = n := ⟨k.toNat, (Int.toNat_of_nonneg k0).symm⟩
      have hi : i < (x :: r).length := by
        rw [nV_len] at k1
        omega
      have el4 := U4 _ _ el3 nls.1 nls.2
      have ef4 := U4 _ _ ef3 nfs.1 nfs.2
      have hil : i < (nV (x :: r)).length := by rw [nV_len]; exact hi
      refine ⟨la, _, (i : Int), i, .int (((x :: r)[i] : Nat) : Int), rfl, rfl, el4, by omega, by simp at lsum hi; omega, seqIx hil, ?_, ?_⟩
      · unfold nV
        rw [List.getElem?_map, List.getElem?_eq_getElem hi]
        rfl
      have eer : (nV (x :: r)).eraseIdx i = nV ((x :: r).eraseIdx i) := by
        unfold nV
        rw [map_eraseIdx']
      rw [eer]
      have ef5 : (L2.upd H4 la (.lst (nV ((x :: r).eraseIdx i)))) fa = some (.lst (nV done)) := by
        rw [upd_ne lafa.symm]
        exact ef4
      refine ⟨fa, nV done, _, rfl, rfl, ef5, by rw [nV_len, sizeLine_eq]; omega, rfl, (x :: r).eraseIdx i, done ++ [(x :: r)[i]], ?_, ?_, ?_, ?_, ?_, ?_⟩
      · rw [List.length_eraseIdx, if_pos hi]
        rfl
      · rw [upd_ne lafa, upd_same]
      · rw [upd_same]
        unfold nV
        rw [List.map_append]
        rfl
      · refine List.Perm.trans ?_ pm
        rw [List.append_assoc]
        exact List.Perm.append_left _ (perm_erase hi)
      · rw [List.length_append]
        exact (S4.upd nls.1 nls.2 lcl).upd nfs.1 nfs.2 fcl
      · intro b o eb m1 m2
        have b1 : b ≠ la := ne_of_none eb nla
        have b2 : b ≠ fa := ne_of_none eb n0fa
        rw [upd_ne b2, upd_ne b1]
        exact (U3.trans U4) _ _ eb m1 m2
def spCaseB : Sp := fun vs H Q _ => ∃ (st lg cl : Addr) (t : Nat) (y : V) (C : Circ), vs = [.ref st, y] ∧ CircAt H y C ∧ C.ok ∧ t + 1000 < 1000000000 ∧ StOk H st lg cl t ∧
  ∀ (T g h : Addr) (gv hv : List Bool) (H' : Hp), H' T = some (.tup [.ref g, .ref h]) → H' g = some (.tup (gv.map bitV)) → H' h = some (.tup (hv.map bitV)) → gv.length = C.ni → hv.length = C.regs.length → StOk H' st lg cl (t + 68) → But st lg H H' → Q (.ref T) H'
theorem scCB : FnScope ["state", "circuit", "lap", "latch"] ["state", "circuit"] (defScope sCaseBits) := ⟨rfl, rfl, rfl, by decide +kernel, rfl, by decide +kernel, by decide +kernel⟩
def isBitR (_ : Hp) (v : V) (b : Bool) : Prop := v = bitV b
theorem bits_all {H : Hp} : ∀ {vs : List V} {bs : List Bool}, AllAt isBitR H vs bs → vs = bs.map bitV
  | _, _, .nil => rfl
  | _, _, .cons r t => by
    rw [List.map_cons, ← bits_all t]
    rw [show _ = bitV _ from r]
def isRdR (_ : Hp) (v : V) (b : Rd) : Prop := v = rdV b
theorem rds_all {H : Hp} : ∀ {vs : List V} {bs : List Rd}, AllAt isRdR H vs bs → vs = bs.map rdV
  | _, _, .nil => rfl
  | _, _, .cons r t => by
    rw [List.map_cons, ← rds_all t]
    rw [show _ = rdV _ from r]
theorem ok_caseB {f : Addr} {fd : FuncData} (F : Fun K "_law_case_bits" "_law_case_bits" sCaseBits f fd) (mrange : mg "range" = none) (mtuple : mg "tuple" = none) (cD : Cal P w K mg base CX0 1 "_law_draw" ["state", "size_here"] spDraw) : FnOk P w K mg base CX0 2 f fd ["state", "circuit"] spCaseB := by
  obtain ⟨fD, fdD, GD, kD, bD, mD⟩ := cD
  refine F.ok scCB (fun vs H Q E h => ?_) (fun cdv A outer s H vs Q E hr h => ?_)
  · obtain ⟨st, lg, cl, t, y, C, rfl, _⟩ := h
    rfl
  · obtain ⟨st, lg, cl, t, y, C, rfl, hC, ok, ht, S, q⟩ := h
    refine ⟨_, (pss_one (ps_ret (pe_tup (pa_cons (pe_callTy call_tuple_of (by rfl) mtuple (by decide +kernel) (pa_cons (pe_lc (own := [("lap", 2)]) (g := gName 2) (tt := tYes) rfl scCB.nd (pi_range1 (by rfl) mrange (pa_cons (pe_ix (r := rIxT K) ix_tup (pv 1) pe_int (fun _ _ => rfl)) pa_nil)) (blkOk_by (N := ["state", "circuit", "lap", "latch"]) (sc := defScope sCaseBits) (by decide +kernel)) (fun _ _ _ _ _ => (pg_name (i := 2) scCB.nd rfl (Or.inl rfl))) (fun _ _ _ _ _ => pts_nil) (fun _ _ _ _ _ => (pe_call GD (hr.mono (by decide)) (by rfl) mD kD bD .nil pass0 (pa_cons (pv 0) (pa_cons pe_int pa_nil))))) pa_nil)) (pa_cons (pe_callTy call_tuple_of (by rfl) mtuple (by decide +kernel) (pa_cons (pe_lc (own := [("latch", 3)]) (g := gName 3) (tt := tYes) rfl scCB.nd (pi_tup (pe_ix (r := rIxT K) ix_tup (pv 1) pe_int (fun _ _ => rfl))) (blkOk_by (N := ["state", "circuit", "lap", "latch"]) (sc := defScope sCaseBits) (by decide +kernel)) (fun _ _ _ _ _ => (pg_name (i := 3) scCB.nd rfl (Or.inl rfl))) (fun _ _ _ _ _ => pts_nil) (fun _ _ _ _ _ => (pe_call GD (hr.mono (by decide)) (by rfl) mD kD bD .nil pass0 (pa_cons (pv 0) (pa_cons pe_int pa_nil))))) pa_nil)) pa_nil))))), ?_⟩
    obtain ⟨ct, ra, gaa, oa, rs, gs, os, rfl, et, er, eg, eo, hrs, hgs, hos⟩ := hC
    have lr : rs.length = C.regs.length := Paired.length hrs
    have k1 := ok.ni
    have k2 := ok.nr
    refine ⟨_, rfl, ct, _, 0, .int (C.ni : Int), rfl, rfl, .inl (.inl et), rfl, (C.ni : Int), rfl, by omega, by omega, fun D nD => ?_⟩
    rw [Int.toNat_natCast]
    refine lc_range (DI isBitR (fun _ => True) st lg cl H D t 1) (DI.zero nD S) (fun i H1 hi d => ?_) (fun H1 d => ?_)
    · obtain ⟨_, _, _, _, _, _, S1, _⟩ := id d
      refine ⟨rfl, _, rfl, st, lg, cl, t + 1 * i, 2, rfl, by decide, by decide, by omega, S1, fun k H2 a0 a1 S2 U2 => ?_⟩
      obtain ⟨b, eb⟩ := bits01 a0 a1
      exact DI.push (x := b) (fun _ _ _ _ _ r => r) nD S d (by omega) U2 (S2.up (by omega)) eb trivial
    obtain ⟨zs, gv, eD, lgv, hz, _, S1, U1⟩ := d.all
    have hz := bits_all hz
    subst hz
    refine ⟨D, _, rfl, .inl ⟨.inl (.inl eD), fun g ng => ?_⟩⟩
    have s2 := same_new (o := .tup (gv.map bitV)) ng
    have eg2 : (L2.upd H1 g (.tup (gv.map bitV))) g = some (.tup (gv.map bitV)) := upd_same
    have S2 := S1.keep s2
    have U2 := U1.trans (But.of s2)
    generalize L2.upd H1 g (.tup (gv.map bitV)) = H2 at eg2 S2 U2
    have et2 := U2.tup S _ _ et
    have er2 := U2.tup S _ _ er
    refine ⟨_, rfl, ct, _, 1, .ref ra, rfl, rfl, .inl (.inl et2), rfl, ra, rfl, ⟨rs, .inl (.inl er2)⟩, fun D2 nD2 => ?_⟩
    refine lc_tup (xs := rs) (DI isBitR (fun _ => True) st lg cl H2 D2 (t + C.ni) 1) (DI.zero nD2 (S2.up (by omega))) (fun i H3 _ d => ?_) (fun i x H3 hx d => ?_) (fun H3 d => ?_)
    · obtain ⟨_, _, _, _, _, _, S3, U3⟩ := id d
      exact .inl (.inl (U3.tup S2 _ _ er2))
    · obtain ⟨_, _, _, _, _, _, S3, _⟩ := id d
      have hi : i < rs.length := (List.getElem?_eq_some_iff.mp hx).1
      refine ⟨rfl, _, rfl, st, lg, cl, t + C.ni + 1 * i, 2, rfl, by decide, by decide, by omega, S3, fun k H4 a0 a1 S4 U4 => ?_⟩
      obtain ⟨b, eb⟩ := bits01 a0 a1
      exact DI.push (x := b) (fun _ _ _ _ _ r => r) nD2 S2 d (by omega) U4 (S4.up (by omega)) eb trivial
    obtain ⟨zs, hv, eD2, lhv, hz, _, S3, U3⟩ := d.all
    have hz := bits_all hz
    subst hz
    refine ⟨D2, _, rfl, .inl ⟨.inl (.inl eD2), fun h nh => ⟨(by show 2 ≤ sizeLine; decide), fun T nT => ?_⟩⟩⟩
    have s4 := same_new (o := .tup (hv.map bitV)) nh
    have eh4 : (L2.upd H3 h (.tup (hv.map bitV))) h = some (.tup (hv.map bitV)) := upd_same
    generalize L2.upd H3 h (.tup (hv.map bitV)) = H4 at s4 eh4 nT
    have s5 := same_new (o := .tup [.ref g, .ref h]) nT
    have k45 := (U3.tup S2).trans (TupKeep.of (s4.trans s5))
    refine q T g h gv hv _ upd_same (k45 _ _ eg2) (s5 _ _ eh4) lgv (by omega) ((S3.keep (s4.trans s5)).up (by omega)) ((U2.trans U3).trans (But.of (s4.trans s5)))
def spCaseR : Sp := fun vs H Q _ => ∃ (st lg cl : Addr) (t : Nat) (y : V) (C : Circ), vs = [.ref st, y] ∧ CircAt H y C ∧ C.ok ∧ t + 1000 < 1000000000 ∧ StOk H st lg cl t ∧
  ∀ (T g h : Addr) (gv hv : List Rd) (H' : Hp), H' T = some (.tup [.ref g, .ref h]) → H' g = some (.tup (gv.map rdV)) → H' h = some (.tup (hv.map rdV)) → gv.length = C.ni → hv.length = C.regs.length → StOk H' st lg cl (t + 140) → But st lg H H' → Q (.ref T) H'
theorem scCR : FnScope ["state", "circuit", "given", "held", "bit"] ["state", "circuit"] (defScope sCaseR) := ⟨rfl, rfl, rfl, by decide +kernel, rfl, by decide +kernel, by decide +kernel⟩
theorem bit_rd (bs : List Bool) : bs.map bitV = (bs.map some).map rdV := by
  rw [List.map_map]
  rfl
theorem ok_caseR {f : Addr} {fd : FuncData} (F : Fun K "_law_case_readings" "_law_case_readings" sCaseR f fd) (mtuple : mg "tuple" = none) (cD : Cal P w K mg base CX0 1 "_law_draw" ["state", "size_here"] spDraw) (cB : Cal P w K mg base CX0 2 "_law_case_bits" ["state", "circuit"] spCaseB) : FnOk P w K mg base CX0 3 f fd ["state", "circuit"] spCaseR := by
  obtain ⟨fD, fdD, GD, kD, bD, mD⟩ := cD
  obtain ⟨fB, fdB, GB, kB, bB, mB⟩ := cB
  refine F.ok scCR (fun vs H Q E h => ?_) (fun cdv A outer s H vs Q E hr h => ?_)
  · obtain ⟨st, lg, cl, t, y, C, rfl, _⟩ := h
    rfl
  · obtain ⟨st, lg, cl, t, y, C, rfl, hC, ok, ht, S, q⟩ := h
    refine ⟨_, (pss_cons (ps_asg (pe_call GB (hr.mono (by decide)) (by rfl) mB kB bB .nil pass0 (pa_cons (pv 0) (pa_cons (pv 1) pa_nil))) (pg_tup rfl (pgs_cons (pg_name (i := 2) scCR.nd rfl (Or.inl rfl)) (pgs_cons (pg_name (i := 3) scCR.nd rfl (Or.inl rfl)) pgs_nil))))
      (pss_cons (ps_if (pt_cmpR op_eq (pe_call GD (hr.mono (by decide)) (by rfl) mD kD bD .nil pass0 (pa_cons (pv 0) (pa_cons pe_int pa_nil))) pe_int (nomark _)) (pss_one (ps_ret (pe_tup (pa_cons (pv 2) (pa_cons (pv 3) pa_nil))))) pss_nil)
      (pss_one (ps_ret (pe_tup (pa_cons (pe_callTy call_tuple_of (by rfl) mtuple (by decide +kernel) (pa_cons (pe_lc (own := [("bit", 4)]) (g := gName 4) (tt := tYes) rfl scCR.nd (pi_tup (pv 2)) (blkOk_by (N := ["state", "circuit", "given", "held", "bit"]) (sc := defScope sCaseR) (by decide +kernel)) (fun _ _ _ _ _ => (pg_name (i := 4) scCR.nd rfl (Or.inl rfl))) (fun _ _ _ _ _ => pts_nil) (fun _ _ _ _ _ => (pe_ifExp (pt_cmpR op_eq (pe_call GD (hr.mono (by decide)) (by rfl) mD kD bD .nil pass0 (pa_cons (pv 0) (pa_cons pe_int pa_nil))) pe_int (nomark _)) (pv 4) pe_non))) pa_nil)) (pa_cons (pe_callTy call_tuple_of (by rfl) mtuple (by decide +kernel) (pa_cons (pe_lc (own := [("bit", 4)]) (g := gName 4) (tt := tYes) rfl scCR.nd (pi_tup (pv 3)) (blkOk_by (N := ["state", "circuit", "given", "held", "bit"]) (sc := defScope sCaseR) (by decide +kernel)) (fun _ _ _ _ _ => (pg_name (i := 4) scCR.nd rfl (Or.inl rfl))) (fun _ _ _ _ _ => pts_nil) (fun _ _ _ _ _ => (pe_ifExp (pt_cmpR op_gt (pe_call GD (hr.mono (by decide)) (by rfl) mD kD bD .nil pass0 (pa_cons (pv 0) (pa_cons pe_int pa_nil))) pe_int (nomark _)) (pv 4) pe_non))) pa_nil)) pa_nil))))))), ?_⟩
    have k1 := ok.ni
    have k2 := ok.nr
    refine ⟨_, rfl, _, rfl, st, lg, cl, t, y, C, rfl, hC, ok, ht, S, fun T g h gb hb H1 eT eg eh lg1 lh1 S1 U1 => ⟨T, _, rfl, .inl (.inl eT), rfl, _, _, rfl, _, _, rfl, rfl, ?_⟩⟩
    refine ⟨_, rfl, st, lg, cl, t + 68, 3, rfl, by decide, by decide, by omega, S1, fun k H2 a0 a1 S2 U2 => ⟨rfl, _, rfl, ite2 (fun e => ?_) (fun e => ?_)⟩⟩
    · refine ⟨_, rfl, _, rfl, (by show 2 ≤ sizeLine; decide), fun T2 nT2 => ?_⟩
      have s3 := same_new (o := .tup [.ref g, .ref h]) nT2
      have kk := (U2.tup S1).trans (TupKeep.of s3)
      have eg' := kk _ _ eg
      have eh' := kk _ _ eh
      rw [bit_rd] at eg' eh'
      exact q T2 g h (gb.map some) (hb.map some) _ upd_same eg' eh' (by rw [List.length_map, lg1]) (by rw [List.length_map, lh1]) ((S2.keep s3).up (by omega)) ((U1.trans U2).trans (But.of s3))
    · have eg2 := U2.tup S1 _ _ eg
      have eh2 := U2.tup S1 _ _ eh
      refine ⟨_, rfl, g, rfl, ⟨gb.map bitV, .inl (.inl eg2)⟩, fun D nD => ?_⟩
      refine lc_tup (xs := gb.map bitV) (DI isRdR (fun _ => True) st lg cl H2 D (t + 69) 1) (DI.zero nD S2) (fun i H3 _ d => ?_) (fun i x H3 hx d => ?_) (fun H3 d => ?_)
      · obtain ⟨_, _, _, _, _, _, S3, U3⟩ := id d
        exact .inl (.inl (U3.tup S2 _ _ eg2))
      · obtain ⟨_, _, _, _, _, _, S3, _⟩ := id d
        have hi : i < (gb.map bitV).length := (List.getElem?_eq_some_iff.mp hx).1
        rw [List.getElem?_map] at hx
        obtain ⟨b, hb2, rfl⟩ := Option.map_eq_some_iff.mp hx
        rw [List.length_map] at hi
        refine ⟨rfl, _, rfl, st, lg, cl, t + 69 + 1 * i, 2, rfl, by decide, by decide, by omega, S3, fun k H4 a0 a1 S4 U4 => ⟨rfl, _, rfl, ite2 (fun e => ?_) (fun e => ?_)⟩⟩
        · exact ⟨_, rfl, DI.push (x := some b) (fun _ _ _ _ _ r => r) nD S2 d (by omega) U4 (S4.up (by omega)) rfl trivial⟩
        · exact DI.push (x := none) (fun _ _ _ _ _ r => r) nD S2 d (by omega) U4 (S4.up (by omega)) rfl trivial
      obtain ⟨zs, gv, eD, lgv, hz, _, S3, U3⟩ := d.all
      have hz := rds_all hz
      subst hz
      rw [List.length_map] at lgv
      refine ⟨D, _, rfl, .inl ⟨.inl (.inl eD), fun g2 ng2 => ?_⟩⟩
      have s4 := same_new (o := .tup (gv.map rdV)) ng2
      have eg4 : (L2.upd H3 g2 (.tup (gv.map rdV))) g2 = some (.tup (gv.map rdV)) := upd_same
      have S4 := S3.keep s4
      have U4 := U3.trans (But.of s4)
      generalize L2.upd H3 g2 (.tup (gv.map rdV)) = H4 at eg4 S4 U4
      have eh4 := U4.tup S2 _ _ eh2
      rw [List.length_map, lg1] at S4
      refine ⟨_, rfl, h, rfl, ⟨hb.map bitV, .inl (.inl eh4)⟩, fun D2 nD2 => ?_⟩
      refine lc_tup (xs := hb.map bitV) (DI isRdR (fun _ => True) st lg cl H4 D2 (t + 69 + C.ni) 1) (DI.zero nD2 (S4.up (by omega))) (fun i H5 _ d => ?_) (fun i x H5 hx d => ?_) (fun H5 d => ?_)
      · obtain ⟨_, _, _, _, _, _, S5, U5⟩ := id d
        exact .inl (.inl (U5.tup S4 _ _ eh4))
      · obtain ⟨_, _, _, _, _, _, S5, _⟩ := id d
        have hi : i < (hb.map bitV).length := (List.getElem?_eq_some_iff.mp hx).1
        rw [List.getElem?_map] at hx
        obtain ⟨b, hb2, rfl⟩ := Option.map_eq_some_iff.mp hx
        rw [List.length_map] at hi
        refine ⟨rfl, _, rfl, st, lg, cl, t + 69 + C.ni + 1 * i, 3, rfl, by decide, by decide, by omega, S5, fun k H6 a0 a1 S6 U6 => ⟨_, _, rfl, rfl, _, rfl, ite2 (fun e => ?_) (fun e => ?_)⟩⟩
        · exact ⟨_, rfl, DI.push (x := some b) (fun _ _ _ _ _ r => r) nD2 S4 d (by omega) U6 (S6.up (by omega)) rfl trivial⟩
        · exact DI.push (x := none) (fun _ _ _ _ _ r => r) nD2 S4 d (by omega) U6 (S6.up (by omega)) rfl trivial
      obtain ⟨zs, hv, eD2, lhv, hz, _, S5, U5⟩ := d.all
      have hz := rds_all hz
      subst hz
      rw [List.length_map] at lhv
      refine ⟨D2, _, rfl, .inl ⟨.inl (.inl eD2), fun h2 nh2 => ⟨(by show 2 ≤ sizeLine; decide), fun T2 nT2 => ?_⟩⟩⟩
      have s6 := same_new (o := .tup (hv.map rdV)) nh2
      have eh6 : (L2.upd H5 h2 (.tup (hv.map rdV))) h2 = some (.tup (hv.map rdV)) := upd_same
      generalize L2.upd H5 h2 (.tup (hv.map rdV)) = H6 at s6 eh6 nT2
      have s7 := same_new (o := .tup [.ref g2, .ref h2]) nT2
      have k67 := (U5.tup S4).trans (TupKeep.of (s6.trans s7))
      rw [List.length_map] at S5
      exact q T2 g2 h2 gv hv _ upd_same (k67 _ _ eg4) (s7 _ _ eh6) (by omega) (by omega) ((S5.keep (s6.trans s7)).up (by omega)) (((U1.trans U2).trans (U4.trans U5)).trans (But.of (s6.trans s7)))
end
end K02

set_option Elab.async false
set_option linter.all false
set_option maxRecDepth 100000
set_option maxHeartbeats 4000000
/-! A tuple times a number, 0 among them. -/
namespace TM
open PySem PySem.Spec PySem.Calls PyProof.Rows L2
theorem tuple_mul0 (l : Addr) (items : Array Value) (n : Nat) (dd : Option Addr) (sl : Array (Option Value)) (u : Tok) (c1 : items.isEmpty = false) :
    Meets (Builtin.«tuple.__mul__» ⟨[.ref l, .int 0 u], []⟩) (fun _ R s => s.heap.get? l = some { cls := .type "tuple", dict := dd, data := .seq items n, slots := sl } ∧
      R (.ok (.ret (Value.ref s.heap.objs.size))) { s with heap := s.heap.push { cls := Value.type "tuple", data := Data.seq #[] }, toks := s.toks }) :=
  .of_wp fun prog w A R s h => by
    obtain ⟨hp, g, d, tk, os⟩ := s
    obtain ⟨hl, h⟩ := h
    have f1 := AutoSeq1.idx_int
    wp_walk using wpAny_loadPart' hl
    exact ⟨_, rfl, h⟩
/-- t * k, k at least 0 (t * 1 is t itself) -/
def rRepZ (K : PySem.W.Frag) : R2 := fun x y H Q => ∃ l k xs, x = .ref l ∧ y = .int k ∧ SqT K H l xs ∧ xs ≠ [] ∧ 0 ≤ k ∧ k ≤ 1000 ∧ xs.length ≤ 1000 ∧ (k = 1 → Q (.ref l) H) ∧ (k ≠ 1 → ∀ p, H p = none → Q (.ref p) (upd H p (.tup (List.replicate k.toNat xs).flatten)))
theorem op_repZ {X : Cx} : OpR X (binaryOp .Mult) (rRepZ X.K) := by
  intro pins s σ H x y v u Q I rx ry h
  obtain ⟨l, k, xs, rfl, rfl, hT, hne, h1, h2, hz, q1, q2⟩ := h
  by_cases hk : k = 0
  · subst hk
    cases rx
    obtain ⟨t, rfl⟩ := ry
    obtain ⟨its, r, ⟨⟨cls, dd, data, sl⟩, ho, hc, n, hd⟩, hs⟩ := I.tuple hT
    simp only at hc hd
    subst hc
    subst hd
    have full : its.toArray.isEmpty = false := by
      cases its with
      | nil =>
        cases r
        exact absurd rfl hne
      | cons a b => rfl
    refine wpAny_binaryOp_repeat_ref (T := "tuple") (U := "int") (by decide) ⟨_, ho, rfl⟩ (fun s' => typeIs_int s' 0 t) noFill_tuple_mul F.fills_int_mul F.slot_int_rmul repeat_tuple F.slot_int_index.lookup
      (call_meets F.slot_int_rmul (typeIs_int s 0 t) F.entry_int_rmul (F.args_int_rmul_2 _ _) (int_rmul_tuple 0 t l its.toArray n dd sl)
        ⟨ho, rfl, ⟨_, ho, rfl⟩, call_meets F.slot_tuple_mul ⟨_, ho, rfl⟩ F.entry_tuple_mul (F.args_tuple_mul_2 _ _) (tuple_mul0 l its.toArray n dd sl t full) ⟨ho, ?_⟩⟩)
    exact ⟨.ref s.heap.objs.size, _, I.laid (t' := s.toks) (o := .tup []) (fun b ob q => Heap.get?_push_of_some _ q) (Nat.le_refl _) ⟨Nat.zero_le _, [], .nil, IsTup.new _ _⟩, rfl, q2 (by decide) _ (I.hok.fresh (Nat.le_refl _))⟩
  · exact op_repA pins s σ H (.ref l) (.int k) v u Q I rx ry ⟨l, k, xs, rfl, rfl, hT, hne, by omega, h2, hz, q1, fun z => q2 (by omega)⟩
end TM

set_option Elab.async false
set_option linter.all false
set_option maxRecDepth 100000
set_option maxHeartbeats 4000000
/-! Values that are no readings. -/
namespace K02
open PySem PySem.Spec L2
open PyProof.Rows GenW GxR EZ TK
open LamX (ExtN)
abbrev sBadR : Stmt := top 55 -- _law_bad_readings
/-- v is no tuple of n readings -/
inductive WR (st lg : Addr) (H : Hp) (n : Nat) : V → Prop
  | atom {v : V} : atomV v = true → WR st lg H n v
  | tup {a : Addr} {xs : List V} : H a = some (.tup xs) → xs.all atomV = true → (xs.length ≠ n ∨ xs.all rdB = false) → WR st lg H n (.ref a)
  | lst {a : Addr} {xs : List V} : H a = some (.lst xs) → a ≠ st → a ≠ lg → WR st lg H n (.ref a)
  | dic {a : Addr} : H a = some (.dT []) → WR st lg H n (.ref a)
theorem WR.but {st lg cl : Addr} {H H' : Hp} {t n : Nat} {v : V} (h : WR st lg H n v) (U : But st lg H H') (S : StOk H st lg cl t) : WR st lg H' n v := by
  cases h with
  | atom a => exact .atom a
  | tup e a o => exact .tup (U.tup S _ _ e) a o
  | lst e n1 n2 => exact .lst (U _ _ e n1 n2) n1 n2
  | dic e => exact .dic (U.keepO S e (fun _ z => by cases z) (fun _ z => by cases z))
theorem WR.same {st lg : Addr} {H H' : Hp} {n : Nat} {v : V} (h : WR st lg H n v) (s : Same H H') : WR st lg H' n v := by
  cases h with
  | atom a => exact .atom a
  | tup e a o => exact .tup (s _ _ e) a o
  | lst e n1 n2 => exact .lst (s _ _ e) n1 n2
  | dic e => exact .dic (s _ _ e)
theorem WR.items {K : PySem.W.Frag} {st lg : Addr} {H : Hp} {n : Nat} {v : V} (h : WR st lg H n v) : ∃ t xs, ItemsV K H v t xs ∧ okRd t xs n = false := by
  have no : ∀ t : String, t ≠ "tuple" → okRd t [] n = false := fun t h => by
    unfold okRd
    rw [decide_eq_false h]
    rfl
  have mk : ∀ (t : String), Ty1 K H v t → t ≠ "tuple" → ∃ t xs, ItemsV K H v t xs ∧ okRd t xs n = false := fun t ht nt => ⟨t, [], ⟨ht, fun z => absurd z nt, fun z => absurd z nt⟩, no t nt⟩
  cases h with
  | atom a =>
    cases v with
    | non => exact mk _ ty_non (by decide)
    | bl b => exact mk _ (ty_bl b) (by decide)
    | int i => exact mk _ (ty_int i) (by decide)
    | str z => exact mk _ (ty_str z) (by decide)
    | _ => cases a
  | @tup a xs e al o =>
    refine ⟨"tuple", xs, ⟨ty_tup e, fun _ => ⟨a, rfl, .inl (.inl e)⟩, fun _ y hy => atom_ty (List.all_eq_true.mp al y hy)⟩, ?_⟩
    unfold okRd
    rcases o with o | o
    · rw [decide_eq_false (show ¬ ((xs.length : Int) = (n : Int)) by omega)]
      simp
    · rw [o]
      simp
  | lst e n1 n2 => exact mk _ (ty_lst e) (by decide)
  | dic e => exact mk _ (ty_dT e) (by decide)
theorem rz_to {K : PySem.W.Frag} {H : Hp} {x : Addr} {v : V} {k : Int} {Q : VK} (hx : H x = some (.tup [v])) (h0 : 0 ≤ k) (h2 : k ≤ 1000) (q : ∀ p H', Same H H' → H' p = some (.tup (List.replicate k.toNat v)) → Q (.ref p) H') : TM.rRepZ K (.ref x) (.int k) H Q := by
  refine ⟨x, k, [v], rfl, rfl, .inl (.inl hx), by simp, h0, h2, (by show 1 ≤ 1000; decide), fun z => ?_, fun _ p np => q p _ (same_new np) ?_⟩
  · refine q x H (fun _ _ e => e) ?_
    rw [z]
    exact hx
  · rw [upd_same, rep_one]
/-- a list of values that are no readings, to pick from -/
def SomeW (st lg : Addr) (H : Hp) (n m : Nat) (v : V) : Prop := ∃ a vs, v = .ref a ∧ a ≠ st ∧ a ≠ lg ∧ H a = some (.lst vs) ∧ 0 < vs.length ∧ vs.length ≤ m ∧ ∀ x ∈ vs, WR st lg H n x
section
variable {P : Program} {w : World} {K : PySem.W.Frag} {mg : Str → Option Value} {base : Heap}
def spBadR : Sp := fun vs H Q _ => ∃ (st lg cl : Addr) (t n : Nat), vs = [.ref st, .int (n : Int)] ∧ n ≤ 60 ∧ t + 100 < 1000000000 ∧ StOk H st lg cl t ∧
  ∀ (x : V) (H' : Hp), WR st lg H' n x → StOk H' st lg cl (t + 1) → But st lg H H' → Q x H'
theorem scBadR : FnScope ["state", "size", "some"] ["state", "size"] (defScope sBadR) := ⟨rfl, rfl, rfl, by decide +kernel, rfl, by decide +kernel, by decide +kernel⟩
theorem ok_badR {f : Addr} {fd : FuncData} (F : Fun K "_law_bad_readings" "_law_bad_readings" sBadR f fd) (cK : Cal P w K mg base CX0 2 "_law_pick" ["state", "several"] (spPick K)) : FnOk P w K mg base CX0 3 f fd ["state", "size"] spBadR := by
  obtain ⟨fK, fdK, GK, kK, bK, mK⟩ := cK
  refine F.ok scBadR (fun vs H Q E h => ?_) (fun cdv A outer s H vs Q E hr h => ?_)
  · obtain ⟨st, lg, cl, t, n, rfl, _⟩ := h
    rfl
  · obtain ⟨st, lg, cl, t, n, rfl, hn, ht, S, q⟩ := h
    refine ⟨_, (pss_cons (ps_set (i := 2) scBadR.nd rfl (Or.inl rfl) (pe_lst (pa_cons pe_non (pa_cons pe_int (pa_cons (pe_op TM.op_repZ (pe_tup (pa_cons pe_int pa_nil)) (pe_op op_add (pv 1) pe_int)) (pa_cons (pe_op op_rep (pe_lst (pa_cons pe_int pa_nil)) (pe_op op_add (pv 1) pe_int)) (pa_cons pe_dnewT (pa_cons pe_str (pa_cons (pe_op TM.op_repZ (pe_tup (pa_cons pe_non pa_nil)) (pe_op op_add (pv 1) pe_int)) pa_nil)))))))))
      (pss_cons (ps_join (ps_if (pt_cmpR op_gt (pv 1) pe_int (nomark _)) (pss_one (ps_set (i := 2) scBadR.nd rfl (Or.inl rfl) (pe_op op_cat (pv 2) (pe_lst (pa_cons (pe_op op_catA (pe_tup (pa_cons pe_int pa_nil)) (pe_op TM.op_repZ (pe_tup (pa_cons pe_int pa_nil)) (pe_op op_sub (pv 1) pe_int))) (pa_cons (pe_op TM.op_repZ (pe_tup (pa_cons pe_bl pa_nil)) (pv 1)) (pa_cons (pe_op TM.op_repZ (pe_tup (pa_cons pe_str pa_nil)) (pv 1)) (pa_cons (pe_op TM.op_repZ (pe_tup (pa_cons pe_int pa_nil)) (pe_op op_sub (pv 1) pe_int)) (pa_cons (pe_op op_rep (pe_lst (pa_cons pe_int pa_nil)) (pv 1)) pa_nil))))))))) pss_nil))
      (pss_one (ps_ret (pe_call GK (hr.mono (by decide)) (by rfl) mK kK bK .nil pass0 (pa_cons (pv 0) (pa_cons (pv 2) pa_nil))))))), ?_⟩
    have one_ : ∀ {p : Addr} {Hx : Hp} {v : V}, (L2.upd Hx p (.tup [v])) p = some (.tup [v]) := upd_same
    -- (0,) * (size + 1)
    refine ⟨(by show 1 ≤ sizeLine; decide), fun p1 np1 => ⟨_, rfl, _, _, rfl, rfl, rz_to one_ (by omega) (by omega) fun a1 H1 s1 e1 => ?_⟩⟩
    have s1 := (same_new np1).trans s1
    clear np1
    -- [0] * (size + 1)
    refine ⟨(by show 1 ≤ sizeLine; decide), fun p2 np2 => ⟨_, rfl, _, _, rfl, rfl, p2, _, [V.int 0], rfl, rfl, upd_same, by omega, by omega, ?_, fun a2 n2 => ?_⟩⟩
    · show 1 * ((n : Int) + 1).toNat ≤ sizeLine
      rw [sizeLine_eq]
      omega
    have s2 := (same_new (o := .lst [V.int 0]) np2).trans (same_new (o := .lst (List.replicate ((n : Int) + 1).toNat [V.int 0]).flatten) n2)
    have e2 : (L2.upd (L2.upd H1 p2 (.lst [V.int 0])) a2 (.lst (List.replicate ((n : Int) + 1).toNat [V.int 0]).flatten)) a2 = _ := upd_same
    have m2 := But.st_new (o := .tup []) (S.keep (s1.trans (same_new (o := .lst [V.int 0]) np2))) n2
    generalize L2.upd (L2.upd H1 p2 (.lst [V.int 0])) a2 (.lst (List.replicate ((n : Int) + 1).toNat [V.int 0]).flatten) = H2 at s2 e2
    clear np2 n2
    -- {}
    refine fun a3 n3 => ?_
    have s3 := same_new (o := .dT []) n3
    have e3 : (L2.upd H2 a3 (.dT [])) a3 = some (.dT []) := upd_same
    generalize L2.upd H2 a3 (.dT []) = H3 at s3 e3
    -- (None,) * (size + 2)
    refine ⟨(by show 1 ≤ sizeLine; decide), fun p4 np4 => ⟨_, rfl, _, _, rfl, rfl, rz_to one_ (by omega) (by omega) fun a4 H4 s4 e4 => ?_⟩⟩
    have s4 := (same_new np4).trans s4
    refine ⟨(by show 7 ≤ sizeLine; decide), fun L nL => ?_⟩
    have s14 := s2.trans (s3.trans s4)
    have s5 := same_new (o := .lst [V.non, .int 5, .ref a1, .ref a2, .ref a3, .str "0", .ref a4]) nL
    have S4 := S.keep (s1.trans s14)
    have nLs := But.st_new (o := .tup []) S4 nL
    have some0 : SomeW st lg (L2.upd H4 L (.lst [V.non, .int 5, .ref a1, .ref a2, .ref a3, .str "0", .ref a4])) n 7 (.ref L) := by
      refine ⟨L, _, rfl, nLs.1, nLs.2, upd_same, (by show 0 < 7; decide), Nat.le_refl _, fun x hx => ?_⟩
      simp only [List.mem_cons, List.not_mem_nil, or_false] at hx
      rcases hx with h | h | h | h | h | h | h <;> subst h
      · exact .atom rfl
      · exact .atom rfl
      · exact .tup (s5 _ _ (s14 _ _ e1)) (rep_all _ _ _ rfl) (.inl (by rw [List.length_replicate]; omega))
      · exact .lst (s5 _ _ (s4 _ _ (s3 _ _ e2))) m2.1 m2.2
      · exact .dic (s5 _ _ (s4 _ _ e3))
      · exact .atom rfl
      · exact .tup (s5 _ _ e4) (rep_all _ _ _ rfl) (.inl (by rw [List.length_replicate]; omega))
    have S5 := S4.keep s5
    have U5 : But st lg H (L2.upd H4 L (.lst [V.non, .int 5, .ref a1, .ref a2, .ref a3, .str "0", .ref a4])) := But.of ((s1.trans s14).trans s5)
    generalize L2.upd H4 L (.lst [V.non, .int 5, .ref a1, .ref a2, .ref a3, .str "0", .ref a4]) = H5 at some0 S5 U5
    clear s1 e1 s2 e2 s3 e3 s4 e4 s14 s5 nL n3 np4
    refine ⟨fun σ Hx => ∃ v, σ = [some (.ref st), some (.int (n : Int)), some v] ∧ SomeW st lg Hx n 12 v ∧ StOk Hx st lg cl t ∧ But st lg H Hx, ⟨_, rfl, _, _, rfl, rfl, _, rfl, ite2 (fun e => ?_) (fun e => ?_)⟩, ?_⟩
    · have hpos : 0 < n := by have := of_decide_eq_true e; omega
      obtain ⟨a0, vs, ha0, x1, x2, x3, x4, x5, x6⟩ := some0
      cases ha0
      -- (2,) + (0,) * (size - 1)
      refine ⟨_, rfl, (by show 1 ≤ sizeLine; decide), fun p0 np0 => ⟨(by show 1 ≤ sizeLine; decide), fun p1 np1 => ⟨_, rfl, _, _, rfl, rfl, rz_to one_ (by omega) (by omega) fun b1 H1 s1 e1 => ?_⟩⟩⟩
      have s0 := (same_new (o := .tup [V.int 0]) np1).trans s1
      refine catA_to (xs := [V.int 2]) (s0 _ _ upd_same) e1 (by rw [List.length_replicate]; show 1 + _ ≤ 1000; omega) fun a1 H2 s2 e2 => ?_
      have s52 := (same_new (o := .tup [V.int 2]) np0).trans (s0.trans s2)
      clear s0 s1 e1 np0 np1 s2
      -- (True,) * size
      refine ⟨(by show 1 ≤ sizeLine; decide), fun p2 np2 => ⟨_, rfl, rz_to one_ (by omega) (by omega) fun a2 H3 s3 e3 => ?_⟩⟩
      have s3 := (same_new np2).trans s3
      -- ('0',) * size
      refine ⟨(by show 1 ≤ sizeLine; decide), fun p3 np3 => ⟨_, rfl, rz_to one_ (by omega) (by omega) fun a3 H4 s4 e4 => ?_⟩⟩
      have s4 := (same_new np3).trans s4
      -- (0,) * (size - 1)
      refine ⟨(by show 1 ≤ sizeLine; decide), fun p4 np4 => ⟨_, rfl, _, _, rfl, rfl, rz_to one_ (by omega) (by omega) fun a4 H6 s5 e5 => ?_⟩⟩
      have s5 := (same_new np4).trans s5
      -- [0] * size
      refine ⟨(by show 1 ≤ sizeLine; decide), fun p5 np5 => ⟨_, rfl, p5, _, [V.int 0], rfl, rfl, upd_same, by omega, by omega, ?_, fun a5 n5 => ?_⟩⟩
      · show 1 * ((n : Int)).toNat ≤ sizeLine
        rw [sizeLine_eq]
        omega
      have s6 := (same_new (o := .lst [V.int 0]) np5).trans (same_new (o := .lst (List.replicate ((n : Int)).toNat [V.int 0]).flatten) n5)
      have e6 : (L2.upd (L2.upd H6 p5 (.lst [V.int 0])) a5 (.lst (List.replicate ((n : Int)).toNat [V.int 0]).flatten)) a5 = _ := upd_same
      have m5 := But.st_new (o := .tup []) (S5.keep (s52.trans (s3.trans (s4.trans (s5.trans (same_new (o := .lst [V.int 0]) np5)))))) n5
      generalize L2.upd (L2.upd H6 p5 (.lst [V.int 0])) a5 (.lst (List.replicate ((n : Int)).toNat [V.int 0]).flatten) = H7 at s6 e6
      refine ⟨(by show 5 ≤ sizeLine; decide), fun L2' nL2 => ?_⟩
      have s7 := same_new (o := .lst [V.ref a1, .ref a2, .ref a3, .ref a4, .ref a5]) nL2
      have e7 : (L2.upd H7 L2' (.lst [V.ref a1, .ref a2, .ref a3, .ref a4, .ref a5])) L2' = some (.lst [V.ref a1, .ref a2, .ref a3, .ref a4, .ref a5]) := upd_same
      generalize L2.upd H7 L2' (.lst [V.ref a1, .ref a2, .ref a3, .ref a4, .ref a5]) = H8 at s7 e7
      have t7 := s6.trans s7
      have t5 := s5.trans t7
      have t4 := s4.trans t5
      have t3 := s3.trans t4
      have t0 := s52.trans t3
      refine ⟨L, L2', vs, [V.ref a1, .ref a2, .ref a3, .ref a4, .ref a5], rfl, rfl, t0 _ _ x3, e7, Nat.le_of_lt (small1000 (by show _ + 5 ≤ 1000; omega)), fun p9 np9 => ?_⟩
      have s9 := same_new (o := .lst (vs ++ [V.ref a1, .ref a2, .ref a3, .ref a4, .ref a5])) np9
      have m9 := But.st_new (o := .tup []) (S5.keep t0) np9
      refine ⟨_, rfl, ⟨p9, _, rfl, m9.1, m9.2, upd_same, by rw [List.length_append]; omega, by rw [List.length_append]; show _ + 5 ≤ 12; omega, fun x hx => ?_⟩, S5.keep (t0.trans s9), U5.trans (But.of (t0.trans s9))⟩
      rcases List.mem_append.mp hx with h | h
      · exact (x6 x h).same (t0.trans s9)
      · simp only [List.mem_cons, List.not_mem_nil, or_false] at h
        rcases h with h | h | h | h | h <;> subst h
        · refine .tup (s9 _ _ (t3 _ _ e2)) ?_ (.inr ?_)
          · rw [List.all_append, rep_all _ _ _ rfl]
            rfl
          · rfl
        · exact .tup (s9 _ _ (t4 _ _ e3)) (rep_all _ _ _ rfl) (.inr (rep_bad _ _ rfl (by omega)))
        · exact .tup (s9 _ _ (t5 _ _ e4)) (rep_all _ _ _ rfl) (.inr (rep_bad _ _ rfl (by omega)))
        · exact .tup (s9 _ _ (t7 _ _ e5)) (rep_all _ _ _ rfl) (.inl (by rw [List.length_replicate]; omega))
        · exact .lst (s9 _ _ (s7 _ _ e6)) m5.1 m5.2
    · exact ⟨_, rfl, by obtain ⟨a, vs, x1, x2, x3, x4, x5, x6, x7⟩ := some0; exact ⟨a, vs, x1, x2, x3, x4, x5, by omega, x7⟩, S5, U5⟩
    rintro σ H6 ⟨v5, rfl, ⟨a, vs, rfl, n1, n2', ea, p0, p1, hv⟩, S6, U6⟩
    refine ⟨_, rfl, _, rfl, st, lg, cl, a, t, vs, rfl, p0, by omega, n1, n2', .inl (.inl ea), by omega, S6, fun x H7 hx S7 U7 => ?_⟩
    exact q x H7 ((hv x hx).but U7 S6) S7 (U6.trans U7)
end
end K02

set_option Elab.async false
set_option linter.all false
set_option maxRecDepth 100000
set_option maxHeartbeats 1000000
/-! All readings; a list that grows by readings. -/
namespace K02
open PySem PySem.Spec L2
open PyProof.Rows GenW GxR EZ
open LamX (ExtN)
def allR : Nat → List (List (Option Bool))
  | 0 => [[]]
  | n + 1 => ((allR n).map (· ++ [some false]) ++ (allR n).map (· ++ [some true])) ++ (allR n).map (· ++ [none])
theorem allR_len (n : Nat) : ∀ rs ∈ allR n, rs.length = n := by
  induction n with
  | zero =>
    intro rs h
    rw [List.mem_singleton.mp h]
    rfl
  | succ n ih =>
    have key : ∀ r, ∀ rs ∈ (allR n).map (· ++ [r]), rs.length = n + 1 := fun r rs h => by
      obtain ⟨q, hq, rfl⟩ := List.mem_map.mp h
      show (q ++ [r]).length = n + 1
      rw [List.length_append, ih q hq]
      rfl
    intro rs h
    rcases List.mem_append.mp h with h | h
    · rcases List.mem_append.mp h with h | h
      · exact key _ rs h
      · exact key _ rs h
    · exact key _ rs h
theorem allR_all : ∀ (n : Nat) (rs : List (Option Bool)), rs.length = n → rs ∈ allR n
  | 0, rs, h => by
    rw [List.length_eq_zero_iff.mp h]
    exact List.mem_singleton.mpr rfl
  | n + 1, rs, h => by
    have hne : rs ≠ [] := fun z => by
      rw [z] at h
      cases h
    have e := List.dropLast_concat_getLast hne
    have hm := allR_all n rs.dropLast (by rw [List.length_dropLast, h]; rfl)
    rw [← e]
    have key : ∀ r, rs.dropLast ++ [r] ∈ (allR n).map (· ++ [r]) := fun r => List.mem_map.mpr ⟨_, hm, rfl⟩
    rcases rs.getLast hne with _ | _ | _
    · exact List.mem_append_right _ (key none)
    · exact List.mem_append_left _ (List.mem_append_left _ (key (some false)))
    · exact List.mem_append_left _ (List.mem_append_right _ (key (some true)))
theorem snoc_inj {α : Type} {a b : List α} {x y : α} (h : a ++ [x] = b ++ [y]) : a = b ∧ x = y := by
  have h2 := List.append_inj' h rfl
  exact ⟨h2.1, by injection h2.2⟩
theorem allR_nodup (n : Nat) : (allR n).Nodup := by
  induction n with
  | zero => exact List.nodup_cons.mpr ⟨by simp, List.nodup_nil⟩
  | succ n ih =>
    have one_ : ∀ r, ((allR n).map (· ++ [r])).Nodup := fun r => List.Pairwise.map _ (fun a b hab z => hab (snoc_inj z).1) ih
    have two : ∀ r r' : Option Bool, r ≠ r' → ∀ a ∈ (allR n).map (· ++ [r]), ∀ b ∈ (allR n).map (· ++ [r']), a ≠ b := fun r r' hr a ha b hb z => by
      obtain ⟨p, _, rfl⟩ := List.mem_map.mp ha
      obtain ⟨q, _, rfl⟩ := List.mem_map.mp hb
      exact hr (snoc_inj z).2
    show (((allR n).map (· ++ [some false]) ++ (allR n).map (· ++ [some true])) ++ (allR n).map (· ++ [none])).Nodup
    refine List.nodup_append.mpr ⟨List.nodup_append.mpr ⟨one_ _, one_ _, two _ _ (by decide)⟩, one_ _, fun a ha b hb => ?_⟩
    rcases List.mem_append.mp ha with ha | ha
    · exact two _ _ (by decide) a ha b hb
    · exact two _ _ (by decide) a ha b hb
theorem allR_size (n : Nat) : (allR n).length = 3 ^ n := by
  induction n with
  | zero => rfl
  | succ n ih =>
    show (((allR n).map (· ++ [some false]) ++ (allR n).map (· ++ [some true])) ++ (allR n).map (· ++ [none])).length = 3 ^ (n + 1)
    rw [List.length_append, List.length_append, List.length_map, List.length_map, List.length_map, ih, Nat.pow_succ]
    omega
/-- y is a tuple of the readings rs -/
def IsR (H : Hp) (y : V) (rs : List (Option Bool)) : Prop := ∃ t, y = .ref t ∧ H t = some (.tup (rs.map rdV))
theorem IsR.keep {H H' : Hp} {y : V} {rs : List (Option Bool)} (h : IsR H y rs) (k : ∀ t o, H t = some (.tup o) → H' t = some (.tup o)) : IsR H' y rs := by
  obtain ⟨t, e, g⟩ := h
  exact ⟨t, e, k _ _ g⟩
theorem pr_keep {H H' : Hp} {ys : List V} {rss : List (List (Option Bool))} (h : Paired (IsR H) ys rss) (k : ∀ t o, H t = some (.tup o) → H' t = some (.tup o)) : Paired (IsR H') ys rss := by
  induction h with
  | nil => exact .nil
  | cons a t ih => exact .cons (a.keep k) ih
theorem pr_app {R : V → List (Option Bool) → Prop} {a b : List V} {x y : List (List (Option Bool))} (h : Paired R a x) (g : Paired R b y) : Paired R (a ++ b) (x ++ y) := by
  induction h with
  | nil => exact g
  | cons r t ih => exact .cons r ih
theorem pr_get {R : V → List (Option Bool) → Prop} {a : List V} {x : List (List (Option Bool))} (h : Paired R a x) : ∀ {i : Nat} {y : V}, a[i]? = some y → ∃ rs, x[i]? = some rs ∧ R y rs := by
  induction h with
  | nil => intro i y hy; simp at hy
  | cons r t ih =>
    intro i y hy
    cases i with
    | zero =>
      cases hy
      exact ⟨_, rfl, r⟩
    | succ i => exact ih hy
/-- a list at D grows by readings with r behind them -/
def PvC (H1 : Hp) (D : Addr) (rss : List (List (Option Bool))) (r : Option Bool) (i : Nat) (H2 : Hp) : Prop := Same H1 H2 ∧ ∃ zs, H2 D = some (.lst zs) ∧ zs.length = i ∧ Paired (IsR H2) zs ((rss.take i).map (· ++ [r]))
theorem pvc_zero {H1 : Hp} {D : Addr} {rss : List (List (Option Bool))} {r : Option Bool} (nD : H1 D = none) : PvC H1 D rss r 0 (upd H1 D (.lst [])) := ⟨same_new nD, [], upd_same, rfl, .nil⟩
theorem pvc_push {H1 H2 H3 : Hp} {D : Addr} {rss : List (List (Option Bool))} {r : Option Bool} {i : Nat} {rs : List (Option Bool)} {y : V} (nD : H1 D = none) (p : PvC H1 D rss r i H2) (hr : rss[i]? = some rs) (hi : i ≤ 900) (s : Same H2 H3) (hy : IsR H3 y (rs ++ [r])) :
    ∃ acc, H3 D = some (.lst acc) ∧ acc.length < sizeLine ∧ PvC H1 D rss r (i + 1) (upd H3 D (.lst (acc ++ [y]))) := by
  obtain ⟨s1, zs, e, l, rel⟩ := p
  have e3 := s _ _ e
  have off : ∀ t o, H3 t = some (.tup o) → upd H3 D (.lst (zs ++ [y])) t = some (.tup o) := fun t o g => by
    rw [upd_ne (fun z => by rw [z, e3] at g; cases g)]
    exact g
  refine ⟨zs, e3, by rw [l]; exact small1000 (by omega), fun b o g => ?_, zs ++ [y], upd_same, by rw [List.length_append, l]; rfl, ?_⟩
  · rw [upd_ne (ne_of_none g nD)]
    exact s _ _ (s1 _ _ g)
  · rw [take_snoc hr, List.map_append]
    exact pr_app (pr_keep rel fun t o g => off t o (s _ _ g)) (.cons (hy.keep off) .nil)
section
variable {P : Program} {w : World} {K : PySem.W.Frag} {mg : Str → Option Value} {base : Heap}
/-- the item with r behind it -/
theorem cat_step {H1 H2 : Hp} {D : Addr} {rss : List (List (Option Bool))} {r : Option Bool} {i : Nat} {rs : List (Option Bool)} {y : V} (nD : H1 D = none) (p : PvC H1 D rss r i H2) (hr : rss[i]? = some rs) (hi : i ≤ 900) (hl : rs.length ≤ 900) (hy : IsR H2 y rs) {q : Addr} (nq : H2 q = none) :
    rCatA K y (.ref q) (upd H2 q (.tup [rdV r])) fun y H4 => ∃ acc, H4 D = some (.lst acc) ∧ acc.length < sizeLine ∧ PvC H1 D rss r (i + 1) (upd H4 D (.lst (acc ++ [y]))) := by
  obtain ⟨t, rfl, e⟩ := hy
  have s2 := same_new (o := .tup [rdV r]) nq
  refine ⟨t, q, rs.map rdV, [rdV r], rfl, rfl, .inl (.inl (s2 _ _ e)), .inl (.inl upd_same), ?_, fun z => ?_, (fun _ z => by cases z), fun _ _ p3 np3 => ?_⟩
  · rw [List.length_map]
    exact Nat.le_of_lt (small1000 (by show rs.length + 1 ≤ 1000; omega))
  · have z0 : rs = [] := List.map_eq_nil_iff.mp z
    rw [z0] at hr
    exact pvc_push nD p hr hi s2 ⟨q, rfl, upd_same⟩
  · refine pvc_push nD p hr hi (s2.trans (same_new np3)) ⟨p3, rfl, ?_⟩
    rw [upd_same, List.map_append]
    rfl
theorem pow3 {i : Nat} (h : i ≤ 4) : 3 ^ i ≤ 81 := Nat.pow_le_pow_right (by decide) h
end
end K02

set_option Elab.async false
set_option linter.all false
set_option maxRecDepth 100000
set_option maxHeartbeats 4000000
/-! Gates that get their bits in whatever sequence; readings that agree. -/
namespace K02
open PySem PySem.Spec L2
open PyProof.Rows GenW GxR EZ TK
open LamX (ExtN)
abbrev sByBy : Stmt := top 56 -- _law_by_and_by
abbrev sAgree : Stmt := top 57 -- _law_agree
abbrev sAllAg : Stmt := top 58 -- _law_all_agreeing
theorem lapsF_succ {gs : List Gate} {gv hv : List Rd} : ∀ (k : Nat) (F : List Rd), lapsF gs gv hv (k + 1) F = lapF gs gv hv (lapsF gs gv hv k F)
  | 0, _ => rfl
  | k + 1, F => lapsF_succ k (lapF gs gv hv F)
theorem sureF_agree' (gs : List Gate) (gv hv : List Rd) : ∀ i, i < gs.length → le1 (readG gs gv hv (sureF gs gv hv) i) ((sureF gs gv hv).getD i none) := fun i hi => by
  rw [sureF_agree gs gv hv hi]
  exact le1.refl _
/-- one gate that is open gets what it reads -/
theorem mixed_step {gs : List Gate} {gv hv L F0 F : List Rd} {i : Nat} (hi : i < gs.length) (lL : L.length = gs.length) (h0 : FLe L F0) (h1 : FLe F0 F) (h2 : FLe F (sureF gs gv hv)) :
    (F.getD i none = none → FLe F0 (F.set i (readG gs gv hv F i)) ∧ FLe (F.set i (readG gs gv hv F i)) (sureF gs gv hv) ∧ FLe F (F.set i (readG gs gv hv F i)) ∧ le1 ((lapF gs gv hv L).getD i none) ((F.set i (readG gs gv hv F i)).getD i none)) ∧
    (F.getD i none ≠ none → le1 ((lapF gs gv hv L).getD i none) (F.getD i none)) := by
  have lF : F.length = gs.length := by rw [← h1.1, ← h0.1, lL]
  have hL := h0.trans h1
  refine ⟨fun e => ?_, fun e => ?_⟩
  · have g := set_ge (x := readG gs gv hv F i) (show i < F.length by omega) e
    refine ⟨h1.trans g, set_le (sureF_agree' gs gv hv i hi) h2 (by omega), g, ?_⟩
    rw [getD_set (show i < F.length by omega), if_pos rfl, lapF_get hi]
    have z := hL.2 i
    rw [e] at z
    have z0 : L.getD i none = none := by rcases z with z | z <;> exact z
    rw [z0]
    exact readG_mono hL i
  · rw [lapF_get hi]
    have z := hL.2 i
    have zs := h2.2 i
    cases eL : L.getD i none with
    | some b =>
      rw [eL] at z
      exact z
    | none =>
      show le1 (readG gs gv hv L i) _
      have m := readG_mono (gs := gs) (gv := gv) (hv := hv) (hL.trans h2) i
      rw [sureF_agree gs gv hv hi] at m
      rcases zs with zs | zs
      · exact absurd zs e
      · rw [zs]
        exact m
theorem le1_up {a b c : Rd} (h : le1 a b) (g : le1 b c) : le1 a c := h.trans g
theorem StOk.keepB {st lg cl ra : Addr} {H H' : Hp} {t : Nat} (S : StOk H st lg cl t) (k : ∀ b o, b ≠ ra → H b = some o → H' b = some o) (n1 : ra ≠ st) (n2 : ra ≠ lg) (n3 : ra ≠ cl) : StOk H' st lg cl t := by
  obtain ⟨ls, cs, left, turn, S⟩ := S
  exact ⟨ls, cs, left, turn, k _ _ n1.symm S.d, k _ _ n2.symm S.l, k _ _ n3.symm S.c, S.lp, S.l0, S.t0, S.tt, S.ll, S.cc, S.ne⟩
section
variable {P : Program} {w : World} {K : PySem.W.Frag} {mg : Str → Option Value} {base : Heap}
def spByBy (K : PySem.W.Frag) : Sp := fun vs H Q _ => ∃ (st lg cl : Addr) (t : Nat) (y : V) (C : Circ) (ga ha : Addr) (gv hv : List Rd), vs = [.ref st, y, .ref ga, .ref ha] ∧ CircAt H y C ∧ C.ok ∧ C.gates.length ≤ 100 ∧ gv.length = C.ni ∧ hv.length = C.regs.length ∧ H ga = some (.tup (gv.map rdV)) ∧ H ha = some (.tup (hv.map rdV)) ∧ t + 20000 < 1000000000 ∧ StOk H st lg cl t ∧
  ∀ (r : Addr) (H' : Hp), H' r = some (.lst ((sureF C.gates gv hv).map rdV)) → r ≠ st → r ≠ lg → StOk H' st lg cl (t + C.gates.length * (C.gates.length + 1)) → But st lg H H' → Q (.ref r) H'
theorem scByBy : FnScope ["state", "circuit", "given", "held", "gates", "readings", "lap", "spot"] ["state", "circuit", "given", "held"] (defScope sByBy) := ⟨rfl, rfl, rfl, by decide +kernel, rfl, by decide +kernel, by decide +kernel⟩
theorem ok_byBy {f : Addr} {fd : FuncData} (F : Fun K "_law_by_and_by" "_law_by_and_by" sByBy f fd) (mrange : mg "range" = none) (mlist : mg "list" = none) (mlen : mg "len" = none) (cM : Cal P w K mg base CX0 2 "_law_mixed" ["state", "several"] (spMixed K)) (cO : Cal P w K mg base CX0 5 "_law_one" ["gate", "given", "held", "readings"] (spLOne K)) :
    FnOk P w K mg base CX0 6 f fd ["state", "circuit", "given", "held"] (spByBy K) := by
  obtain ⟨fM, fdM, GM, kM, bM, mM⟩ := cM
  obtain ⟨fO, fdO, GO, kO, bO, mO⟩ := cO
  refine F.ok scByBy (fun vs H Q E h => ?_) (fun cdv A outer s H vs Q E hr h => ?_)
  · obtain ⟨st, lg, cl, t, y, C, ga, ha, gv, hv, rfl, _⟩ := h
    rfl
  · obtain ⟨st, lg, cl, t, y, C, ga, ha, gv, hv, rfl, hC, ok, hn, lgv, lhv, hg, hh, ht, S, q⟩ := h
    refine ⟨_, (pss_cons (ps_set (i := 4) scByBy.nd rfl (Or.inl rfl) (pe_ix (r := rIxT K) ix_tup (pv 1) pe_int (fun _ _ => rfl)))
      (pss_cons (ps_set (i := 5) scByBy.nd rfl (Or.inl rfl) (pe_op op_rep (pe_lst (pa_cons pe_non pa_nil)) (pe_callB call_len_seq (by rfl) mlen PySem.boot_len (pa_cons (pv 4) pa_nil))))
      (pss_cons (ps_for PassesOwn.never rfl (pi_range1 (by rfl) mrange (pa_cons (pe_op op_add (pe_callB call_len_seq (by rfl) mlen PySem.boot_len (pa_cons (pv 4) pa_nil)) pe_int) pa_nil)) (pg_name (i := 6) scByBy.nd rfl (Or.inl rfl))
        (pss_one (ps_for PassesOwn.never rfl (pi_list (pe_call GM (hr.mono (by decide)) (by rfl) mM kM bM .nil pass0 (pa_cons (pv 0) (pa_cons (pe_listRg rfl (by rfl) mlist (prg_1 (by rfl) mrange (pe_callB call_len_seq (by rfl) mlen PySem.boot_len (pa_cons (pv 4) pa_nil)))) pa_nil)))) (pg_name (i := 7) scByBy.nd rfl (Or.inl rfl))
          (pss_one (ps_if (pt_cmpR op_isN (pe_ix (r := rIxL K) ix_list (pv 5) (pv 7) (fun _ _ => rfl)) pe_non (nomark _)) (pss_one (ps_asg (pe_call GO (hr.mono (by decide)) (by rfl) mO kO bO .nil pass0 (pa_cons (pe_ix (r := rIxT K) ix_tup (pv 4) (pv 7) (fun _ _ => rfl)) (pa_cons (pv 2) (pa_cons (pv 3) (pa_cons (pv 5) pa_nil))))) (pg_sub (pv 5) (pv 7) set_list))) pss_nil)))))
      (pss_one (ps_ret (pv 5)))))), ?_⟩
    have hC' := hC
    obtain ⟨ct, ra, gaa, oa, rs, gs, os, rfl, et, er, eg, eo, hrs, hgs, hos⟩ := hC'
    have lgs : gs.length = C.gates.length := Paired.length hgs
    -- gates; readings
    refine ⟨_, rfl, ct, _, 2, .ref gaa, rfl, rfl, .inl (.inl et), rfl, ?_⟩
    refine ⟨(by show 1 ≤ sizeLine; decide), fun p np => ?_⟩
    refine ⟨_, rfl, gaa, gs, rfl, .inr (.inl (.inl (same_new np _ _ eg))), p, _, [V.non], rfl, rfl, upd_same, by omega, by omega, ?_, fun fa nfa => ?_⟩
    · rw [sizeLine_eq]
      show 1 * ((gs.length : Int)).toNat ≤ _
      omega
    have n1p : Same H (L2.upd H p (.lst [V.non])) := same_new np
    generalize L2.upd H p (.lst [V.non]) = Hp1 at nfa n1p
    have e2 : (L2.upd Hp1 fa (.lst (List.replicate ((gs.length : Int)).toNat [V.non]).flatten)) fa = some (.lst ((List.replicate C.gates.length (none : Rd)).map rdV)) := by
      rw [upd_same, Int.toNat_natCast, lgs, rep_none]
    have s12 : Same H (L2.upd Hp1 fa (.lst (List.replicate ((gs.length : Int)).toNat [V.non]).flatten)) := n1p.trans (same_new nfa)
    have n0fa : H fa = none := n1p.free nfa
    have nfs := But.st_new (o := .tup []) (S.keep n1p) nfa
    have fcl := (S.keep n1p).cl_ne nfa
    generalize L2.upd Hp1 fa (.lst (List.replicate ((gs.length : Int)).toNat [V.non]).flatten) = H2 at e2 s12
    clear n1p nfa np
    have S2 := S.keep s12
    have fle0 : FLe (List.replicate C.gates.length (none : Rd)) (sureF C.gates gv hv) := ⟨by rw [List.length_replicate, sureF_len], fun i => by rw [getD_rep]; exact .inl rfl⟩
    refine ⟨_, rfl, gaa, gs, rfl, .inr (.inl (.inl (s12 _ _ eg))), _, _, rfl, rfl, _, rfl, by omega, by omega, ?_⟩
    have en : ((gs.length : Int) + 1).toNat = C.gates.length + 1 := by omega
    rw [en]
    refine for_range (fun k σ Hx => ∃ (y6 y7 : Option V) (F : List Rd), σ = [some (.ref st), some (.ref ct), some (.ref ga), some (.ref ha), some (.ref gaa), some (.ref fa), y6, y7] ∧ Hx fa = some (.lst (F.map rdV)) ∧ FLe (lapsF C.gates gv hv k (List.replicate C.gates.length none)) F ∧ FLe F (sureF C.gates gv hv) ∧ StOk Hx st lg cl (t + C.gates.length * k) ∧ But st lg H Hx)
      ⟨_, _, _, rfl, e2, FLe.refl _, fle0, S2, But.of s12⟩ (fun k σ Hx hk ⟨y6, y7, F, eσ, ef, h1, h2, Sx, Ux⟩ => ?_) (fun σ Hx ⟨y6, y7, F, eσ, ef, h1, h2, Sx, Ux⟩ => ?_)
    · subst eσ
      have lL : (lapsF C.gates gv hv k (List.replicate C.gates.length none)).length = C.gates.length := lapsF_len _ List.length_replicate
      have egx := Ux.tup S _ _ eg
      have hle : C.gates.length * k ≤ 100 * 100 := Nat.mul_le_mul hn (by omega)
      -- _law_mixed(state, list(range(len(gates))))
      refine ⟨_, rfl, _, rfl, gaa, gs, rfl, .inr (.inl (.inl egx)), _, rfl, RgOk.of_le (by decide) (by omega) (by decide) (by omega), fun la nla => ?_⟩
      have s3 := same_new (o := .lst (rgV 0 (gs.length : Int))) nla
      have e3 : (L2.upd Hx la (.lst (rgV 0 (gs.length : Int)))) la = some (.lst (nV (List.range C.gates.length))) := by rw [upd_same, lgs, rgV_nV]
      have nls := But.st_new (o := .tup []) Sx nla
      have ef3 := s3 _ _ ef
      refine ⟨st, lg, cl, la, t + C.gates.length * k, List.range C.gates.length, rfl, .inl (.inl e3), nls.1, nls.2, by rw [List.length_range]; omega, by omega, Sx.keep s3, fun r ms Hm pm er2 nr1 nr2 nr0 Sm Um => ⟨r, rfl, ⟨_, .inl (.inl er2)⟩, ?_⟩⟩
      rw [List.length_range] at Sm
      have efm := Um _ _ ef3 nfs.1 nfs.2
      have rfa : r ≠ fa := fun z => by
        rw [z, ef3] at nr0
        cases nr0
      have Uxm := (Ux.trans (But.of s3)).trans Um
      refine for_list (fun j σ Hy => ∃ (y7 : Option V) (F' : List Rd), σ = [some (.ref st), some (.ref ct), some (.ref ga), some (.ref ha), some (.ref gaa), some (.ref fa), some (.int (0 + (k : Int))), y7] ∧ (∀ b o, b ≠ fa → Hm b = some o → Hy b = some o) ∧ Hy fa = some (.lst (F'.map rdV)) ∧ FLe F F' ∧ FLe F' (sureF C.gates gv hv) ∧
          ∀ i ∈ ms.take j, le1 ((lapF C.gates gv hv (lapsF C.gates gv hv k (List.replicate C.gates.length none))).getD i none) (F'.getD i none))
        ⟨y7, F, rfl, fun _ _ _ e => e, efm, FLe.refl _, h2, fun i hi => by simp at hi⟩ (fun j σ Hy _ ⟨_, _, _, ky, _⟩ => .inl (.inl (ky _ _ rfa er2))) (fun j x σ Hy hx ⟨y7, F', eσ, ky, ey, g1, g2, g3⟩ => ?_) (fun σ Hy ⟨y7, F', eσ, ky, ey, g1, g2, g3⟩ => ?_)
      · subst eσ
        obtain ⟨i, hi, rfl⟩ := nV_get hx
        have hil : i < C.gates.length := List.mem_range.mp (pm.mem_iff.mp (List.mem_of_getElem? hi))
        have lF' : F'.length = C.gates.length := by rw [g2.1, sureF_len]
        have tk := take_snoc hi
        have step := mixed_step hil lL h1 g1 g2
        have keepT : TupKeep Hm Hy := fun a xs e => ky _ _ (fun z => by rw [z, efm] at e; cases e) e
        have kT : TupKeep H Hy := (Uxm.tup S).trans keepT
        refine ⟨_, rfl, _, rfl, fa, _, (i : Int), _, rfl, rfl, .inl (.inl ey), at_rd (by rw [lF']; exact hil), rfl, _, rfl, ?_⟩
        rw [rdV_isN]
        cases ei : F'.getD i none with
        | some b =>
          refine iteF ⟨_, F', rfl, ky, ey, g1, g2, fun z hz => ?_⟩
          rw [tk] at hz
          rcases List.mem_append.mp hz with z1 | z1
          · exact g3 z z1
          · rw [List.mem_singleton.mp z1]
            exact step.2 (by rw [ei]; simp)
        | none =>
          obtain ⟨gt, hgt⟩ : ∃ g, gs[i]? = some g := ⟨_, List.getElem?_eq_getElem (by omega)⟩
          obtain ⟨G, hG2, hga⟩ := all_get hgs hgt
          have re : gateV gv hv F' G = readG C.gates gv hv F' i := by
            unfold readG
            rw [hG2]
          obtain ⟨st1, st2, st3, st4⟩ := step.1 ei
          refine iteT ⟨_, rfl, _, rfl, gaa, _, (i : Int), gt, rfl, rfl, .inl (.inl (kT _ _ eg)), atI_nat hgt, _, rfl, _, rfl, _, rfl, gt, G, ga, ha, fa, gv, hv, F', rfl, hga.keep kT, ?_, .inl (.inl (kT _ _ hg)), .inl (.inl (kT _ _ hh)), .inl (.inl (.inl ey)), fun Hz sz => ?_⟩
          · rw [lgv, lhv, lF']
            exact ok.gates G (List.mem_of_getElem? hG2)
          rw [re]
          have ixn : ixN (F'.map rdV).length (i : Int) = some i := by
            unfold ixN
            rw [List.length_map, lF', if_pos (Int.natCast_nonneg i), if_pos (by omega)]
            rfl
          refine ⟨_, rfl, _, rfl, fa, _, (i : Int), i, rfl, rfl, sz _ _ ey, ixn, _, F'.set i (readG C.gates gv hv F' i), rfl, fun b o n e => ?_, ?_, st1, st2, fun z hz => ?_⟩
          · rw [upd_ne n]
            exact sz _ _ (ky _ _ n e)
          · rw [upd_same, List.map_set]
          · rw [tk] at hz
            rcases List.mem_append.mp hz with z1 | z1
            · exact le1_up (g3 z z1) (st3.2 z)
            · rw [List.mem_singleton.mp z1]
              exact st4
      · subst eσ
        have lms : ms.length = C.gates.length := by rw [pm.length_eq, List.length_range]
        refine ⟨_, _, F', rfl, ey, ?_, g2, ?_, fun b o e m1 m2 => ky _ _ (ne_of_none e n0fa) (Uxm _ _ e m1 m2)⟩
        · rw [lapsF_succ]
          refine ⟨by rw [lapF_len, g2.1, sureF_len], fun i => ?_⟩
          by_cases hi : i < C.gates.length
          · refine g3 i ?_
            rw [nV_len, List.take_length]
            exact pm.mem_iff.mpr (List.mem_range.mpr hi)
          · refine .inl ?_
            rw [List.getD_eq_getElem?_getD, List.getElem?_eq_none (by rw [lapF_len]; omega)]
            rfl
        · have S9 := Sm.keepB ky nfs.1 nfs.2 fcl
          refine S9.up ?_
          rw [Nat.mul_succ]
          omega
    · subst eσ
      have e1 : lapsF C.gates gv hv (C.gates.length + 1) (List.replicate C.gates.length none) = sureF C.gates gv hv := by
        rw [lapsF_succ]
        exact sureF_fix _ _ _
      rw [e1] at h1
      have eF := FLe.antisymm h1 h2
      rw [← eF] at ef
      exact ⟨_, rfl, q fa Hx ef nfs.1 nfs.2 Sx Ux⟩
theorem scal_rd (a b : Rd) : scal (rdV a) (rdV b) = true := by
  cases a <;> cases b <;> rfl
theorem rdV_inj {a b : Rd} (h : rdV a = rdV b) : a = b := by
  cases a with
  | none =>
    cases b with
    | none => rfl
    | some c => cases h
  | some x =>
    cases b with
    | none => cases h
    | some c => rw [bitZ_inj (V.int.inj h)]
theorem rdV_dec (a b : Rd) : decide (rdV a = rdV b) = decide (a = b) := by
  by_cases h : a = b
  · rw [h, decide_eq_true rfl, decide_eq_true rfl]
  · rw [decide_eq_false h, decide_eq_false fun z => h (rdV_inj z)]
/-- all gates agree with these readings -/
def AgrAll (gs : List Gate) (gv hv fv : List Rd) : Prop := ∀ i, i < gs.length → readG gs gv hv fv i = fv.getD i none
def spAgree (K : PySem.W.Frag) : Sp := fun vs H Q _ => ∃ (y : V) (C : Circ) (ga ha fa : Addr) (gv hv fv : List Rd), vs = [y, .ref ga, .ref ha, .ref fa] ∧ CircAt H y C ∧ C.ok ∧ gv.length = C.ni ∧ hv.length = C.regs.length ∧ fv.length = C.gates.length ∧ SqT K H ga (gv.map rdV) ∧ SqT K H ha (hv.map rdV) ∧ SqT K H fa (fv.map rdV) ∧
  ∀ (b : Bool) (H' : Hp), Same H H' → (b = true ↔ AgrAll C.gates gv hv fv) → Q (.bl b) H'
theorem scAgree : FnScope ["circuit", "given", "held", "readings", "spot", "gate"] ["circuit", "given", "held", "readings"] (defScope sAgree) := ⟨rfl, rfl, rfl, by decide +kernel, rfl, by decide +kernel, by decide +kernel⟩
theorem ok_agree {f : Addr} {fd : FuncData} (F : Fun K "_law_agree" "_law_agree" sAgree f fd) (men : mg "enumerate" = none) (cO : Cal P w K mg base CX0 5 "_law_one" ["gate", "given", "held", "readings"] (spLOne K)) :
    FnOk P w K mg base CX0 6 f fd ["circuit", "given", "held", "readings"] (spAgree K) := by
  obtain ⟨fO, fdO, GO, kO, bO, mO⟩ := cO
  refine F.ok scAgree (fun vs H Q E h => ?_) (fun cdv A outer s H vs Q E hr h => ?_)
  · obtain ⟨y, C, ga, ha, fa, gv, hv, fv, rfl, _⟩ := h
    rfl
  · obtain ⟨y, C, ga, ha, fa, gv, hv, fv, rfl, hC, ok, lgv, lhv, lfv, hg, hh, hf, q⟩ := h
    have hu64 := hr.units
    refine ⟨_, (pss_one (ps_ret (pe_cmpR (op_eqD hu64) (pe_lc (own := [("spot", 4), ("gate", 5)]) (g := gTup K 2 (gCons (gName 4) (gCons (gName 5) gNil))) rfl scAgree.nd (pi_enumT (by rfl) men (pa_cons (pe_ix (r := rIxT K) ix_tup (pv 0) pe_int (fun _ _ => rfl)) pa_nil)) (blkOk_by (N := ["circuit", "given", "held", "readings", "spot", "gate"]) (sc := defScope sAgree) (by decide +kernel)) (fun _ _ _ _ _ => (pg_tup rfl (pgs_cons (pg_name (i := 4) scAgree.nd rfl (Or.inl rfl)) (pgs_cons (pg_name (i := 5) scAgree.nd rfl (Or.inl rfl)) pgs_nil)))) (fun _ _ _ _ _ => pts_one (pt_cmpR op_ne (pe_call GO (hr.mono (by decide)) (by rfl) mO kO bO .nil pass0 (pa_cons (pv 5) (pa_cons (pv 1) (pa_cons (pv 2) (pa_cons (pv 3) pa_nil))))) (pe_ix (r := rIxT K) ix_tup (pv 3) (pv 4) (fun _ _ => rfl)) (nomark _))) (fun _ _ _ _ _ => pe_int)) (pe_lst pa_nil) (nomark _)))), ?_⟩
    obtain ⟨ct, ra, gaa, oa, rs, gs, os, rfl, et, er, eg, eo, hrs, hgs, hos⟩ := hC
    have lgs : gs.length = C.gates.length := Paired.length hgs
    have k3 := ok.ng
    refine ⟨_, rfl, ct, _, 2, .ref gaa, rfl, rfl, .inl (.inl et), rfl, gaa, gs, rfl, .inl (.inl eg), fun D nD => ?_⟩
    refine lc_it walk_enumT (fun i H1 => Same H H1 ∧ ∃ k : Nat, H1 D = some (.lst (List.replicate k (V.int 1))) ∧ k ≤ i ∧ (k = 0 ↔ ∀ j, j < i → readG C.gates gv hv fv j = fv.getD j none)) ⟨same_new nD, 0, upd_same, Nat.le_refl _, (fun _ j hj => absurd hj (Nat.not_lt_zero j)), (fun _ => rfl)⟩ (fun i H1 _ z => .inl (.inl (z.1 _ _ eg))) (fun i x H1 H1' hi ⟨s1, k, e1, lk, hk⟩ hy => ?_) (fun H1 ⟨s1, k, e1, lk, hk⟩ => ?_)
    · obtain ⟨T, x1, y1, rfl, nT, rfl, hx, hy⟩ := hy
      cases hx
      have hy : gs[i]? = some y1 := hy
      obtain ⟨gt, hg2, hgat⟩ := all_get hgs hy
      have hil : i < C.gates.length := (List.getElem?_eq_some_iff.mp hg2).1
      have sT := same_new (o := .tup [.int (i : Nat), y1]) nT
      have eT : (L2.upd H1 T (.tup [.int (i : Nat), y1])) T = some (.tup [.int (i : Nat), y1]) := upd_same
      generalize L2.upd H1 T (.tup [.int (i : Nat), y1]) = Ht at sT eT
      have sHt := s1.trans sT
      have nn := extN_same sHt
      have re : gateV gv hv fv gt = readG C.gates gv hv fv i := by
        unfold readG
        rw [hg2]
      refine ⟨T, _, rfl, .inl (.inl eT), rfl, _, _, rfl, _, _, rfl, rfl, rfl, ?_⟩
      refine ⟨_, rfl, _, rfl, _, rfl, _, rfl, y1, gt, ga, ha, fa, gv, hv, fv, rfl, hgat.ext nn, by rw [lgv, lhv, lfv]; exact ok.gates gt (List.mem_of_getElem? hg2), extN_seqT nn hg, extN_seqT nn hh, .inr (extN_seqT nn hf), fun H5 s5 => ?_⟩
      rw [re]
      have s15 := sHt.trans s5
      refine ⟨_, rfl, _, rfl, fa, _, (i : Int), _, rfl, rfl, extN_seqT (extN_same s15) hf, at_rd (by rw [lfv]; exact hil), scal_rd _ _, _, rfl, ?_⟩
      rw [rdV_dec]
      have e5 := (sT.trans s5) _ _ e1
      by_cases c : readG C.gates gv hv fv i = fv.getD i none
      · rw [decide_eq_true c]
        refine iteF ⟨s15, k, e5, Nat.le_succ_of_le lk, ?_⟩
        rw [hk]
        constructor
        · intro h j hj
          by_cases e : j < i
          · exact h j e
          · rw [show j = i by omega]
            exact c
        · exact fun h j hj => h j (by omega)
      · rw [decide_eq_false c]
        refine iteT ⟨_, e5, ?_, fun b o e => ?_, k + 1, ?_, Nat.succ_le_succ lk, ?_⟩
        · rw [List.length_replicate, sizeLine_eq]
          omega
        · rw [upd_ne (ne_of_none e nD)]
          exact s15 _ _ e
        · rw [upd_same, List.replicate_succ']
        · exact ⟨fun z => by omega, fun h => absurd (h i (by omega)) c⟩
    · refine ⟨Nat.zero_le _, fun p np => ?_⟩
      have sp := same_new (o := .lst []) np
      have ep : (L2.upd H1 p (.lst [])) p = some (.lst []) := upd_same
      have e1p := sp _ _ e1
      have er1 : List.replicate k (V.int 1) = (List.replicate k (1 : Int)).map V.int := by rw [List.map_replicate]
      refine ⟨.list ((List.replicate k (1 : Int)).map PyData.int), .list [], .lst (.inl (.inl (by rw [← er1]; exact e1p))) (dp_ints _), .lst (.inl (.inl ep)) .nil, PySem.W.ke_shaped_ints _, PySem.W.ke_shaped_ints [], ?_⟩
      refine q _ _ (s1.trans sp) ?_
      rw [eqv_nil]
      rw [lgs] at hk
      unfold AgrAll
      rw [← hk]
      cases k with
      | zero => simp
      | succ k => simp [List.replicate_succ]
def spAllAg (K : PySem.W.Frag) : Sp := fun vs H Q _ => ∃ (y : V) (C : Circ) (ga ha : Addr) (gv hv : List Rd), vs = [y, .ref ga, .ref ha] ∧ CircAt H y C ∧ C.ok ∧ C.gates.length ≤ 4 ∧ gv.length = C.ni ∧ hv.length = C.regs.length ∧ SqT K H ga (gv.map rdV) ∧ SqT K H ha (hv.map rdV) ∧
  ∀ (r : Addr) (ys : List V) (rss : List (List Rd)) (H' : Hp), Same H H' → H r = none → H' r = some (.lst ys) → Paired (IsR H') ys rss → (∀ rs ∈ rss, rs.length = C.gates.length ∧ AgrAll C.gates gv hv rs) → Q (.ref r) H'
theorem scAllAg : FnScope ["circuit", "given", "held", "found", "gate", "told"] ["circuit", "given", "held"] (defScope sAllAg) := ⟨rfl, rfl, rfl, by decide +kernel, rfl, by decide +kernel, by decide +kernel⟩
theorem ok_allAg {f : Addr} {fd : FuncData} (F : Fun K "_law_all_agreeing" "_law_all_agreeing" sAllAg f fd) (cA : Cal P w K mg base CX0 6 "_law_agree" ["circuit", "given", "held", "readings"] (spAgree K)) :
    FnOk P w K mg base CX0 7 f fd ["circuit", "given", "held"] (spAllAg K) := by
  obtain ⟨fA, fdA, GA, kA, bA, mA⟩ := cA
  refine F.ok scAllAg (fun vs H Q E h => ?_) (fun cdv A outer s H vs Q E hr h => ?_)
  · obtain ⟨y, C, ga, ha, gv, hv, rfl, _⟩ := h
    rfl
  · obtain ⟨y, C, ga, ha, gv, hv, rfl, hC, ok, hn, lgv, lhv, hg, hh, q⟩ := h
    refine ⟨_, (pss_cons (ps_set (i := 3) scAllAg.nd rfl (Or.inl rfl) (pe_lst (pa_cons (pe_tup pa_nil) pa_nil)))
      (pss_cons (ps_for PassesOwn.never rfl (pi_tup (pe_ix (r := rIxT K) ix_tup (pv 0) pe_int (fun _ _ => rfl))) (pg_name (i := 4) scAllAg.nd rfl (Or.inl rfl))
        (pss_one (ps_set (i := 3) scAllAg.nd rfl (Or.inl rfl) (pe_op op_cat (pe_op op_cat (pe_lc (own := [("told", 5)]) (g := gName 5) (tt := tYes) rfl scAllAg.nd (pi_list (pv 3)) (blkOk_by (N := ["circuit", "given", "held", "found", "gate", "told"]) (sc := defScope sAllAg) (by decide +kernel)) (fun _ _ _ _ _ => (pg_name (i := 5) scAllAg.nd rfl (Or.inl rfl))) (fun _ _ _ _ _ => pts_nil) (fun _ _ _ _ _ => (pe_op (r := rCatA K) op_catA (pv 5) (pe_tup (pa_cons pe_int pa_nil))))) (pe_lc (own := [("told", 5)]) (g := gName 5) (tt := tYes) rfl scAllAg.nd (pi_list (pv 3)) (blkOk_by (N := ["circuit", "given", "held", "found", "gate", "told"]) (sc := defScope sAllAg) (by decide +kernel)) (fun _ _ _ _ _ => (pg_name (i := 5) scAllAg.nd rfl (Or.inl rfl))) (fun _ _ _ _ _ => pts_nil) (fun _ _ _ _ _ => (pe_op (r := rCatA K) op_catA (pv 5) (pe_tup (pa_cons pe_int pa_nil)))))) (pe_lc (own := [("told", 5)]) (g := gName 5) (tt := tYes) rfl scAllAg.nd (pi_list (pv 3)) (blkOk_by (N := ["circuit", "given", "held", "found", "gate", "told"]) (sc := defScope sAllAg) (by decide +kernel)) (fun _ _ _ _ _ => (pg_name (i := 5) scAllAg.nd rfl (Or.inl rfl))) (fun _ _ _ _ _ => pts_nil) (fun _ _ _ _ _ => (pe_op (r := rCatA K) op_catA (pv 5) (pe_tup (pa_cons pe_non pa_nil)))))))))
      (pss_one (ps_ret (pe_lc (own := [("told", 5)]) (g := gName 5) rfl scAllAg.nd (pi_list (pv 3)) (blkOk_by (N := ["circuit", "given", "held", "found", "gate", "told"]) (sc := defScope sAllAg) (by decide +kernel)) (fun _ _ _ _ _ => (pg_name (i := 5) scAllAg.nd rfl (Or.inl rfl))) (fun _ _ _ _ _ => pts_one (pt_val (pe_call GA (hr.mono (by decide)) (by rfl) mA kA bA .nil pass0 (pa_cons (pv 0) (pa_cons (pv 1) (pa_cons (pv 2) (pa_cons (pv 5) pa_nil))))))) (fun _ _ _ _ _ => (pv 5))))))), ?_⟩
    have hC' := hC
    obtain ⟨ct, ra, gaa, oa, rs, gs, os, rfl, et, er, eg, eo, hrs, hgs, hos⟩ := hC'
    have lgs : gs.length = C.gates.length := Paired.length hgs
    refine ⟨Nat.zero_le _, fun p1 np1 => ⟨(by show 1 ≤ sizeLine; decide), fun p2 np2 => ?_⟩⟩
    refine ⟨_, rfl, ct, _, 2, .ref gaa, rfl, rfl, .inl (.inl (same_new np2 _ _ (same_new np1 _ _ et))), rfl, gaa, rfl, ⟨gs, .inl (.inl (same_new np2 _ _ (same_new np1 _ _ eg)))⟩, ?_⟩
    refine for_tup (fun i σ H1 => ∃ (fa : Addr) (ys : List V) (y4 : Option V), σ = [some (.ref ct), some (.ref ga), some (.ref ha), some (.ref fa), y4, none] ∧ Same H H1 ∧ H fa = none ∧ H1 fa = some (.lst ys) ∧ Paired (IsR H1) ys (allR i)) ⟨p2, [.ref p1], _, rfl, (same_new np1).trans (same_new np2), (same_new np1).free np2, upd_same, .cons ⟨p1, rfl, same_new np2 _ _ upd_same⟩ .nil⟩ (fun i σ H1 _ ⟨_, _, _, _, s1, _⟩ => .inl (.inl (s1 _ _ eg))) (fun i x σ H1 hx ⟨fa, ys, y4, e, s1, n1, e1, r1⟩ => ?_) (fun σ H1 ⟨fa, ys, y4, e, s1, n1, e1, r1⟩ => ?_)
    · subst e
      have hi : i < gs.length := (List.getElem?_eq_some_iff.mp hx).1
      have hyl : ys.length = 3 ^ i := by rw [Paired.length r1, allR_size]
      have h81 := pow3 (i := i) (by omega)
      have tupS : ∀ {Ha Hb : Hp}, Same Ha Hb → ∀ t o, Ha t = some (.tup o) → Hb t = some (.tup o) := fun s t o e => s _ _ e
      have lenR : ∀ {j : Nat} {rs : List (Option Bool)}, (allR i)[j]? = some rs → rs.length ≤ 900 := fun h => by
        rw [allR_len i _ (List.mem_of_getElem? h)]
        omega
      have step : ∀ (Hs : Hp) (Da : Addr) (r : Option Bool) (j : Nat) (x : V) (H2 : Hp), Hs Da = none → Same H1 Hs → ys[j]? = some x → PvC Hs Da (allR i) r j H2 → ∀ q, H2 q = none →
          rCatA K x (.ref q) (L2.upd H2 q (.tup [rdV r])) fun y H4 => ∃ acc, H4 Da = some (.lst acc) ∧ acc.length < sizeLine ∧ PvC Hs Da (allR i) r (j + 1) (L2.upd H4 Da (.lst (acc ++ [y]))) := fun Hs Da r j x H2 nD sH hx p q nq => by
        obtain ⟨rs, hrs, hR⟩ := pr_get r1 hx
        have hj : j < ys.length := (List.getElem?_eq_some_iff.mp hx).1
        exact cat_step nD p hrs (by omega) (lenR hrs) (hR.keep (tupS (sH.trans p.1))) nq
      have full : ∀ (Hs : Hp) (Da : Addr) (r : Option Bool) (H2 : Hp), PvC Hs Da (allR i) r ys.length H2 → ∃ zs, H2 Da = some (.lst zs) ∧ Same Hs H2 ∧ zs.length = 3 ^ i ∧ Paired (IsR H2) zs ((allR i).map (· ++ [r])) := fun Hs Da r H2 ⟨s, zs, e, l, rel⟩ => by
        refine ⟨zs, e, s, by rw [l, hyl], ?_⟩
        rw [Paired.length r1, List.take_length] at rel
        exact rel
      refine ⟨_, rfl, fa, rfl, ⟨_, .inl (.inl e1)⟩, fun D1 nD1 => lc_list (K := K) (a := fa) (xs := ys) (PvC H1 D1 (allR i) (some false)) (pvc_zero nD1) (fun j H2 _ p => .inl (.inl (p.1 _ _ e1))) (fun j x H2 hj p => ⟨rfl, _, rfl, (by show 1 ≤ sizeLine; decide), fun q nq => step H1 D1 (some false) j x H2 nD1 (fun _ _ e => e) hj p q nq⟩) (fun H2 p2 => ?_)⟩
      obtain ⟨z1, f1, s2, l1, rel1⟩ := full _ _ _ _ p2
      refine ⟨_, rfl, fa, rfl, ⟨_, .inl (.inl (s2 _ _ e1))⟩, fun D2 nD2 => lc_list (K := K) (a := fa) (xs := ys) (PvC H2 D2 (allR i) (some true)) (pvc_zero nD2) (fun j H3 _ p => .inl (.inl (p.1 _ _ (s2 _ _ e1)))) (fun j x H3 hj p => ⟨rfl, _, rfl, (by show 1 ≤ sizeLine; decide), fun q nq => step H2 D2 (some true) j x H3 nD2 s2 hj p q nq⟩) (fun H3 p3 => ?_)⟩
      obtain ⟨z2, f2, s3, l2, rel2⟩ := full _ _ _ _ p3
      refine ⟨D1, D2, z1, z2, rfl, rfl, s3 _ _ f1, f2, Nat.le_of_lt (small1000 (by omega)), fun Cc nC => ?_⟩
      have s4 := s3.trans (same_new (o := .lst (z1 ++ z2)) nC)
      have e4 := s4 _ _ (s2 _ _ e1)
      refine ⟨_, rfl, fa, rfl, ⟨_, .inl (.inl e4)⟩, fun D3 nD3 => lc_list (K := K) (a := fa) (xs := ys) (PvC (L2.upd H3 Cc (.lst (z1 ++ z2))) D3 (allR i) none) (pvc_zero nD3) (fun j H5 _ p => .inl (.inl (p.1 _ _ e4))) (fun j x H5 hj p => ⟨rfl, _, rfl, (by show 1 ≤ sizeLine; decide), fun q nq => step _ D3 none j x H5 nD3 (s2.trans s4) hj p q nq⟩) (fun H5 p5 => ?_)⟩
      obtain ⟨z3, f3, s5, l3, rel3⟩ := full _ _ _ _ p5
      have s35 := (same_new (o := .lst (z1 ++ z2)) nC).trans s5
      refine ⟨Cc, D3, z1 ++ z2, z3, rfl, rfl, s5 _ _ upd_same, f3, ?_, fun O nO => ⟨O, _, _, rfl, ?_, ?_, upd_same, ?_⟩⟩
      · rw [List.length_append]
        exact Nat.le_of_lt (small1000 (by omega))
      · exact ((s1.trans s2).trans s4).trans (s5.trans (same_new nO))
      · exact ((s1.trans s2).trans s4).trans s5 |>.free nO
      · have sO := same_new (o := .lst ((z1 ++ z2) ++ z3)) nO
        exact pr_app (pr_app (pr_keep rel1 (tupS (s3.trans (s35.trans sO)))) (pr_keep rel2 (tupS (s35.trans sO)))) (pr_keep rel3 (tupS sO))
    · subst e
      rw [lgs] at r1
      refine ⟨_, rfl, fa, rfl, ⟨ys, .inl (.inl e1)⟩, fun D nD => ?_⟩
      have lys : ys.length ≤ 81 := by
        rw [Paired.length r1, allR_size]
        exact pow3 hn
      refine lc_list (K := K) (a := fa) (xs := ys) (fun i H2 => Same H1 H2 ∧ ∃ (zs : List V) (rss : List (List Rd)), H2 D = some (.lst zs) ∧ zs.length ≤ i ∧ Paired (IsR H2) zs rss ∧ ∀ rs ∈ rss, rs.length = C.gates.length ∧ AgrAll C.gates gv hv rs) ⟨same_new nD, [], [], upd_same, Nat.le_refl _, .nil, (fun _ z => by cases z)⟩ (fun i H2 _ z => .inl (.inl (z.1 _ _ e1))) (fun i x H2 hx ⟨s2, zs, rss, e2, l2, p2, a2⟩ => ?_) (fun H2 ⟨s2, zs, rss, e2, l2, p2, a2⟩ => ?_)
      · obtain ⟨rd, hrd, t, rfl, et2⟩ := pr_get r1 hx
        have hi : i < ys.length := (List.getElem?_eq_some_iff.mp hx).1
        have lrd := allR_len _ _ (List.mem_of_getElem? hrd)
        have s12 := s1.trans s2
        have nn := extN_same s12
        refine ⟨rfl, _, rfl, _, rfl, _, rfl, _, rfl, .ref ct, C, ga, ha, t, gv, hv, rd, rfl, hC.ext nn, ok, lgv, lhv, lrd, extN_seqT nn hg, extN_seqT nn hh, .inl (.inl (s2 _ _ et2)), fun b H3 s3 hb => ⟨_, rfl, ?_⟩⟩
        have e3 := s3 _ _ e2
        cases b with
        | false => exact iteF ⟨s2.trans s3, zs, rss, e3, Nat.le_succ_of_le l2, pr_keep p2 (fun t o e => s3 _ _ e), a2⟩
        | true =>
          have off : ∀ t o, H3 t = some (.tup o) → (L2.upd H3 D (.lst (zs ++ [.ref t]))) t = some (.tup o) := fun t o e => by
            rw [upd_ne (fun z => by rw [z, e3] at e; cases e)]
            exact e
          have off2 : ∀ t' o, H3 t' = some (.tup o) → (L2.upd H3 D (.lst (zs ++ [.ref t]))) t' = some (.tup o) := fun t' o e => by
            rw [upd_ne (fun z => by rw [z, e3] at e; cases e)]
            exact e
          refine iteT ⟨_, rfl, zs, e3, small1000 (by omega), fun b o e => ?_, zs ++ [.ref t], rss ++ [rd], upd_same, by rw [List.length_append]; show _ + 1 ≤ _; omega, pr_app (pr_keep p2 fun t' o e => off2 t' o (s3 _ _ e)) (.cons ⟨t, rfl, off2 _ _ (s3 _ _ (s2 _ _ et2))⟩ .nil), fun z hz => ?_⟩
          · rw [upd_ne (ne_of_none e nD)]
            exact s3 _ _ (s2 _ _ e)
          · rcases List.mem_append.mp hz with z1 | z1
            · exact a2 z z1
            · rw [List.mem_singleton.mp z1]
              exact ⟨lrd, hb.mp rfl⟩
      · exact q D zs rss H2 (s1.trans s2) (s1.free nD) e2 p2 a2
end
end K02

set_option Elab.async false
set_option linter.all false
set_option maxRecDepth 100000
set_option maxHeartbeats 4000000
/-! A tuple of one item times a great number. -/
namespace TM
open PySem PySem.Spec PySem.Calls PyProof.Rows L2
/-- (x,) * k, k great -/
def rRepB (K : PySem.W.Frag) : R2 := fun x y H Q => ∃ l k z, x = .ref l ∧ y = .int k ∧ SqT K H l [z] ∧ 2 ≤ k ∧ k ≤ 100000 ∧ ∀ p, H p = none → Q (.ref p) (upd H p (.tup (List.replicate k.toNat z)))
theorem op_repB {X : Cx} : OpR X (binaryOp .Mult) (rRepB X.K) := by
  intro pins s σ H x y v u Q I rx ry h
  obtain ⟨l, k, z, rfl, rfl, hT, h1, h2, q⟩ := h
  cases rx
  obtain ⟨t, rfl⟩ := ry
  obtain ⟨its, r, ⟨⟨cls, dd, data, sl⟩, ho, hc, n, hd⟩, hs⟩ := I.tuple hT
  simp only at hc hd
  subst hc
  subst hd
  have one_ : its.length = 1 := r.length.symm
  have size_ : its.toArray.size = 1 := by rw [List.size_toArray, one_]
  have full : its.toArray.isEmpty = false := by
    cases its with
    | nil => cases one_
    | cons a b => rfl
  have flat_ : (List.replicate k.toNat its).flatten.length = k.toNat := by rw [PyProof.Rows.lm_len_rep_flat, one_, Nat.mul_one]
  have line_ : k.toNat ≤ sizeLine := by
    rw [sizeLine_eq]
    omega
  refine wpAny_binaryOp_repeat_ref (T := "tuple") (U := "int") (by decide) ⟨_, ho, rfl⟩ (fun s' => typeIs_int s' k t) noFill_tuple_mul F.fills_int_mul F.slot_int_rmul repeat_tuple F.slot_int_index.lookup
    (call_meets F.slot_int_rmul (typeIs_int s k t) F.entry_int_rmul (F.args_int_rmul_2 _ _) (int_rmul_tuple k t l its.toArray n dd sl)
      ⟨ho, rfl, ⟨_, ho, rfl⟩, call_meets F.slot_tuple_mul ⟨_, ho, rfl⟩ F.entry_tuple_mul (F.args_tuple_mul_2 _ _) (tuple_mulW l its.toArray n dd sl k t
        (by rw [decide_eq_false (by omega), decide_eq_false (by omega)]; rfl)
        (by rw [full, Bool.false_or]; exact beq_eq_false_iff_ne.mpr (by omega))
        (by rw [full, Bool.or_false]; exact decide_eq_false (by omega))
        (by rw [size_]; omega)
        (by unfold Builtin.Tuple.tupleTooMany; rw [size_, sizeLine_eq]; exact decide_eq_false (by omega))
        (by rw [size_rep, List.size_toArray, flat_]; exact line_)) ⟨ho, ?_⟩⟩)
  rw [size_rep]
  have rr := r.rep k.toNat
  have ez : (List.replicate k.toNat [z]).flatten = List.replicate k.toNat z := K02.rep_one z _
  rw [ez] at rr
  refine ⟨.ref s.heap.objs.size, _, I.laid (t' := s.toks) (o := .tup (List.replicate k.toNat z)) (fun b ob q => Heap.get?_push_of_some _ q) (Nat.le_refl _) ?_, rfl, q _ (I.hok.fresh (Nat.le_refl _))⟩
  exact ⟨by rw [List.length_replicate]; exact line_, _, rr, IsTup.new _ _⟩
end TM

set_option Elab.async false
set_option linter.all false
set_option maxRecDepth 100000
set_option maxHeartbeats 4000000
/-! Long chains of gates. -/
namespace K02
open PySem PySem.Spec L2
open PyProof.Rows GenW GxR EZ TK
open LamX (ExtN)
abbrev sChain : Stmt := top 59 -- _law_chain_right
def notG (i : Nat) : Gate := ([.gate (i + 1)], [true, false])
def chainN (n : Nat) : List Gate := (List.range n).map notG
theorem chainN_len (n : Nat) : (chainN n).length = n := by
  unfold chainN
  rw [List.length_map, List.length_range]
theorem chain_get {n i : Nat} {g : Gate} (h : i < n) : (chainN n ++ [g])[i]? = some (notG i) := by
  rw [List.getElem?_append_left (by rw [chainN_len]; exact h)]
  unfold chainN
  rw [List.getElem?_map, List.getElem?_range h]
  rfl
theorem chain_last {n : Nat} {g : Gate} : (chainN n ++ [g])[n]? = some g := by
  rw [List.getElem?_append_right (by rw [chainN_len]; exact Nat.le_refl _), chainN_len, Nat.sub_self]
  rfl
theorem gateR_not (b : Bool) : gateR [true, false] [some b] = some (!b) := by cases b <;> decide
theorem gateR_id (b : Bool) : gateR [false, true] [some b] = some b := by cases b <;> decide
theorem gateR_notN : gateR [true, false] [none] = none := by decide
theorem gateR_xorN (b : Bool) : gateR [false, true, true, false] [some b, none] = none := by cases b <;> decide
/-- turned as often as the number says -/
def turnB (b : Bool) : Nat → Bool
  | 0 => b
  | n + 1 => !turnB b n
abbrev lastG : Gate := ([.inp 0], [false, true])
abbrev xorG : Gate := ([.inp 0, .gate 700], [false, true, true, false])
theorem chain_sure (n : Nat) (b : Bool) : ∀ k, k ≤ n → (sureF (chainN n ++ [lastG]) [some b] []).getD (n - k) none = some (turnB b k) := by
  have len_ : (chainN n ++ [lastG]).length = n + 1 := by rw [List.length_append, chainN_len]; rfl
  intro k
  induction k with
  | zero =>
    intro _
    rw [Nat.sub_zero, ← sureF_agree _ _ _ (show n < (chainN n ++ [lastG]).length by omega)]
    unfold readG
    rw [chain_last]
    exact gateR_id b
  | succ k ih =>
    intro hk
    have ihk := ih (by omega)
    have e : n - (k + 1) + 1 = n - k := by omega
    rw [← sureF_agree _ _ _ (show n - (k + 1) < (chainN n ++ [lastG]).length by omega)]
    unfold readG
    rw [chain_get (by omega)]
    show gateR [true, false] [(sureF (chainN n ++ [lastG]) [some b] []).getD (n - (k + 1) + 1) none] = _
    rw [e, ihk]
    exact gateR_not _
theorem chain_all (n : Nat) (b : Bool) : sureF (chainN n ++ [lastG]) [some b] [] = (List.range (n + 1)).map fun i => some (turnB b (n - i)) := by
  have len_ : (chainN n ++ [lastG]).length = n + 1 := by rw [List.length_append, chainN_len]; rfl
  have ls : (sureF (chainN n ++ [lastG]) [some b] []).length = n + 1 := by rw [sureF_len, len_]
  refine List.ext_getElem? fun i => ?_
  by_cases h : i < n + 1
  · have z := chain_sure n b (n - i) (by omega)
    have e : n - (n - i) = i := by omega
    rw [e, List.getD_eq_getElem?_getD, List.getElem?_eq_getElem (by omega)] at z
    rw [List.getElem?_eq_getElem (by omega), List.getElem?_map, List.getElem?_range h]
    exact congrArg some z
  · rw [List.getElem?_eq_none (by omega), List.getElem?_eq_none (by rw [List.length_map, List.length_range]; omega)]
theorem chain_none (b : Bool) : sureF (chainN 1499 ++ [xorG]) [some b] [] = List.replicate 1500 none := by
  have len_ : (chainN 1499 ++ [xorG]).length = 1500 := by rw [List.length_append, chainN_len]; rfl
  have h : FLe (sureF (chainN 1499 ++ [xorG]) [some b] []) (List.replicate 1500 none) := by
    refine sureF_least (fun i hi => ?_) (by rw [List.length_replicate, len_])
    rw [getD_rep]
    refine .inl ?_
    unfold readG
    by_cases e : i < 1499
    · rw [chain_get e]
      show gateR [true, false] [(List.replicate 1500 (none : Rd)).getD (i + 1) none] = none
      rw [getD_rep]
      exact gateR_notN
    · rw [show i = 1499 by omega, chain_last]
      show gateR [false, true, true, false] [some b, (List.replicate 1500 (none : Rd)).getD 700 none] = none
      rw [getD_rep]
      exact gateR_xorN b
  refine FLe.antisymm h ⟨h.1.symm, fun i => ?_⟩
  rw [getD_rep]
  exact .inl rfl
theorem turn_val (b : Bool) : ∀ k : Nat, ((bitZ b + (k : Int)) % 2 : Int) = bitZ (turnB b k)
  | 0 => by cases b <;> rfl
  | k + 1 => by
    have ih := turn_val b k
    show ((bitZ b + ((k + 1 : Nat) : Int)) % 2 : Int) = bitZ (!turnB b k)
    cases e : turnB b k
    · rw [e] at ih
      have ih : ((bitZ b + (k : Int)) % 2 : Int) = 0 := ih
      show ((bitZ b + ((k + 1 : Nat) : Int)) % 2 : Int) = 1
      omega
    · rw [e] at ih
      have ih : ((bitZ b + (k : Int)) % 2 : Int) = 1 := ih
      show ((bitZ b + ((k + 1 : Nat) : Int)) % 2 : Int) = 0
      omega
theorem chain_fan (n : Nat) (g : Gate) : fanG (chainN n ++ [g]) = n + g.1.length := by
  unfold fanG chainN
  rw [List.map_append, List.sum_append, List.map_map]
  have e : ((List.range n).map ((fun g : Gate => g.1.length) ∘ notG)).sum = n := by
    have e1 : (List.range n).map ((fun g : Gate => g.1.length) ∘ notG) = List.replicate n 1 := by
      rw [List.eq_replicate_iff]
      refine ⟨by rw [List.length_map, List.length_range], fun x hx => ?_⟩
      obtain ⟨i, _, rfl⟩ := List.mem_map.mp hx
      rfl
    rw [e1]
    simp
  rw [e]
  simp
theorem chain_ok (g : Gate) (hg : g.ok 1 0 1500) : Circ.ok ⟨1, [], chainN 1499 ++ [g], []⟩ := by
  have len_ : (chainN 1499 ++ [g]).length = 1500 := by rw [List.length_append, chainN_len]; rfl
  refine ⟨(by show 1 ≤ 8; decide), (by show 0 ≤ 60; decide), ?_, (by show 0 ≤ 60; decide), fun r hr => (by cases hr), fun x hx => ?_, fun s hs => (by cases hs)⟩
  · show (chainN 1499 ++ [g]).length ≤ 2000
    omega
  · show x.ok 1 0 (chainN 1499 ++ [g]).length
    rw [len_]
    rcases List.mem_append.mp hx with z | z
    · obtain ⟨i, hi, rfl⟩ := List.mem_map.mp z
      refine ⟨(by show 1 ≤ 4; decide), rfl, fun s hs => ?_⟩
      rw [List.mem_singleton.mp hs]
      have := List.mem_range.mp hi
      show i + 1 < 1500
      omega
    · rw [List.mem_singleton.mp z]
      exact hg
section
variable {P : Program} {w : World} {K : PySem.W.Frag} {mg : Str → Option Value} {base : Heap}
/-- what sure_readings makes of a circuit and of bits that fit -/
theorem cased_ok {TT : List Addr} {CC CG CH : Addr} {fin : Circ → List Rd → List Rd → Hp → VK → Prop} {H : Hp} {y : V} {ga ha : Addr} {C : Circ} {gv hv : List Rd} {Q : VK} {E : XK} (hC : CircAt H y C) (ok : C.ok) (fan : fanG C.gates ≤ 4000) (hT : TabsG TT H) (hg : H ga = some (.tup (gv.map rdV))) (hh : H ha = some (.tup (hv.map rdV))) (lg : gv.length = C.ni) (lh : hv.length = C.regs.length)
    (q : ∀ H', Ex TT H H' → fin C gv hv H' Q) : spCased K TT CC CG CH fin [y, .ref ga, .ref ha] H Q E := by
  have inj : ∀ a b : List Rd, a.map rdV = b.map rdV → a = b := fun a b h => (List.map_inj_right fun _ _ => rdV_inj).mp h
  have it : ∀ (a : Addr) (l : List Rd), H a = some (.tup (l.map rdV)) → ItemsV K H (.ref a) "tuple" (l.map rdV) := fun a l e => ⟨ty_tup e, fun _ => ⟨a, rfl, .inl (.inl e)⟩, fun _ y hy => by
    obtain ⟨r, _, rfl⟩ := List.mem_map.mp hy
    exact ty_rd r⟩
  have okr : ∀ (l : List Rd) (n : Nat), l.length = n → okRd "tuple" (l.map rdV) n = true := fun l n e => by
    unfold okRd
    rw [List.length_map, e, decide_eq_true rfl, decide_eq_true rfl, List.all_eq_true.mpr fun y hy => by
      obtain ⟨r, _, rfl⟩ := List.mem_map.mp hy
      exact rdB_rdV r]
    rfl
  refine ⟨y, .ref ga, .ref ha, rfl, .inr ⟨C, "tuple", "tuple", gv.map rdV, hv.map rdV, hC, ok, fan, hT, it _ _ hg, it _ _ hh, fun z => ?_, fun _ z => ?_, fun gv' hv' H' _ _ e1 e2 _ _ x => ?_⟩⟩
  · rw [okr _ _ lg] at z
    cases z
  · rw [okr _ _ lh] at z
    cases z
  · rw [← inj _ _ e1, ← inj _ _ e2]
    exact q H' x
theorem catB_to {H : Hp} {x y : Addr} {xs ys : List V} {Q : VK} (hx : H x = some (.tup xs)) (hy : H y = some (.tup ys)) (hl : xs.length + ys.length ≤ sizeLine) (q : ∀ p H', Same H H' → H' p = some (.tup (xs ++ ys)) → Q (.ref p) H') : rCatA K (.ref x) (.ref y) H Q := by
  refine ⟨x, y, xs, ys, rfl, rfl, .inl (.inl hx), .inl (.inl hy), hl, fun z => ?_, fun _ z => ?_, fun _ _ p np => q p _ (same_new np) upd_same⟩
  · refine q y H (fun _ _ e => e) ?_
    rw [z]
    exact hy
  · refine q x H (fun _ _ e => e) ?_
    rw [z, List.append_nil]
    exact hx
def spChain (TT : List Addr) : Sp := fun vs H Q _ => ∃ (st lg cl : Addr) (t : Nat), vs = [.ref st] ∧ t + 100 < 1000000000 ∧ StOk H st lg cl t ∧ TabsG TT H ∧ ∀ H', Q (.bl true) H'
theorem scCh : FnScope ["state", "chain", "bit", "due", "spot"] ["state"] (defScope sChain) := ⟨rfl, rfl, rfl, by decide +kernel, rfl, by decide +kernel, by decide +kernel⟩
theorem ok_chain {TT : List Addr} {CC CG CH f : Addr} {fd : FuncData} (F : Fun K "_law_chain_right" "_law_chain_right" sChain f fd) (mrange : mg "range" = none) (mtuple : mg "tuple" = none) (cD : Cal P w K mg base CX0 1 "_law_draw" ["state", "size_here"] spDraw)
    (cSR : Cal P w K mg base (L2.CX P w) 11 "sure_readings" ["circuit", "given", "held"] (spCased K TT CC CG CH finSure)) : FnOk P w K mg base CX0 12 f fd ["state"] (spChain TT) := by
  obtain ⟨fD, fdD, GD, kD, bD, mD⟩ := cD
  obtain ⟨fSR, fdSR, GSR, kSR, bSR, mSR⟩ := cSR
  refine F.ok scCh (fun vs H Q E h => ?_) (fun cdv A outer s H vs Q E hr h => ?_)
  · obtain ⟨st, lg, cl, t, rfl, _⟩ := h
    rfl
  · obtain ⟨st, lg, cl, t, rfl, ht, S, hT, q⟩ := h
    have hu64 := hr.units
    refine ⟨_, (pss_cons (ps_set (i := 1) scCh.nd rfl (Or.inl rfl) (pe_callTy call_tuple_of (by rfl) mtuple (by decide +kernel) (pa_cons (pe_lc (own := [("spot", 4)]) (g := gName 4) (tt := tYes) rfl scCh.nd (pi_range1 (by rfl) mrange (pa_cons pe_int pa_nil)) (blkOk_by (N := ["state", "chain", "bit", "due", "spot"]) (sc := defScope sChain) (by decide +kernel)) (fun _ _ _ _ _ => (pg_name (i := 4) scCh.nd rfl (Or.inl rfl))) (fun _ _ _ _ _ => pts_nil) (fun _ _ _ _ _ => (pe_tup (pa_cons (pe_tup (pa_cons (pe_tup (pa_cons pe_str (pa_cons (pe_op op_add (pv 4) pe_int) pa_nil))) pa_nil)) (pa_cons (pe_tup (pa_cons pe_int (pa_cons pe_int pa_nil))) pa_nil))))) pa_nil)))
      (pss_cons (ps_set (i := 2) scCh.nd rfl (Or.inr rfl) (pe_call GD (hr.mono (by decide)) (by rfl) mD kD bD .nil pass0 (pa_cons (pv 0) (pa_cons pe_int pa_nil))))
      (pss_cons (ps_set (i := 3) scCh.nd rfl (Or.inl rfl) (pe_callTy call_tuple_of (by rfl) mtuple (by decide +kernel) (pa_cons (pe_lc (own := [("spot", 4)]) (g := gName 4) (tt := tYes) rfl scCh.nd (pi_range1 (by rfl) mrange (pa_cons pe_int pa_nil)) (blkOk_by (N := ["state", "chain", "bit", "due", "spot"]) (sc := defScope sChain) (by decide +kernel)) (fun _ _ _ _ _ => (pg_name (i := 4) scCh.nd rfl (Or.inl rfl))) (fun _ _ _ _ _ => pts_nil) (fun _ _ _ _ _ => (pe_op op_mod (pe_op op_sub (pe_op op_add (pv 2) pe_int) (pv 4)) pe_int))) pa_nil)))
      (pss_cons (ps_if (pt_cmpR (op_neD hu64) (pe_call GSR (hr.mono (by decide)) (by rfl) mSR kSR bSR .nil passNone (pa_cons (pe_tup (pa_cons pe_int (pa_cons (pe_tup pa_nil) (pa_cons (pe_op (r := rCatA K) op_catA (pv 1) (pe_tup (pa_cons (pe_tup (pa_cons (pe_tup (pa_cons (pe_tup (pa_cons pe_str (pa_cons pe_int pa_nil))) pa_nil)) (pa_cons (pe_tup (pa_cons pe_int (pa_cons pe_int pa_nil))) pa_nil))) pa_nil))) (pa_cons (pe_tup pa_nil) pa_nil))))) (pa_cons (pe_tup (pa_cons (pv 2) pa_nil)) (pa_cons (pe_tup pa_nil) pa_nil)))) (pv 3) (nomark _)) (pss_one (ps_ret pe_bl)) pss_nil)
      (pss_one (ps_ret (pe_cmpR (op_eqD hu64) (pe_call GSR (hr.mono (by decide)) (by rfl) mSR kSR bSR .nil passNone (pa_cons (pe_tup (pa_cons pe_int (pa_cons (pe_tup pa_nil) (pa_cons (pe_op (r := rCatA K) op_catA (pv 1) (pe_tup (pa_cons (pe_tup (pa_cons (pe_tup (pa_cons (pe_tup (pa_cons pe_str (pa_cons pe_int pa_nil))) (pa_cons (pe_tup (pa_cons pe_str (pa_cons pe_int pa_nil))) pa_nil))) (pa_cons (pe_tup (pa_cons pe_int (pa_cons pe_int (pa_cons pe_int (pa_cons pe_int pa_nil))))) pa_nil))) pa_nil))) (pa_cons (pe_tup pa_nil) pa_nil))))) (pa_cons (pe_tup (pa_cons (pv 2) pa_nil)) (pa_cons (pe_tup pa_nil) pa_nil)))) (pe_op (r := TM.rRepB K) TM.op_repB (pe_tup (pa_cons pe_non pa_nil)) pe_int) (nomark _)))))))), ?_⟩
    -- chain
    refine ⟨1499, rfl, by decide, by decide, fun D nD => ?_⟩
    rw [show (1499 : Int).toNat = 1499 from rfl]
    refine lc_range (fun i H1 => Same H H1 ∧ ∃ vs, H1 D = some (.lst vs) ∧ vs.length = i ∧ AllAt GateAt H1 vs (chainN i)) ⟨same_new nD, [], upd_same, rfl, .nil⟩ (fun i H1 hi ⟨s1, vs, e1, lv, hv⟩ => ?_) (fun H1 ⟨s1, vs, e1, lv, hv⟩ => ?_)
    · refine ⟨rfl, _, rfl, _, _, rfl, rfl, (by show 2 ≤ sizeLine; decide), fun p1 np1 => ⟨(by show 1 ≤ sizeLine; decide), fun p2 np2 => ⟨(by show 2 ≤ sizeLine; decide), fun p3 np3 => ⟨(by show 2 ≤ sizeLine; decide), fun p4 np4 => ?_⟩⟩⟩⟩
      have ei : (0 : Int) + (i : Int) + 1 = ((i + 1 : Nat) : Int) := by omega
      have t1 := same_new (o := .tup [.str "gate", .int (0 + (i : Int) + 1)]) np1
      have f1 : (L2.upd H1 p1 (.tup [.str "gate", .int (0 + (i : Int) + 1)])) p1 = some (.tup [.str "gate", .int (0 + (i : Int) + 1)]) := upd_same
      generalize L2.upd H1 p1 (.tup [.str "gate", .int (0 + (i : Int) + 1)]) = Ha at t1 f1 np2 np3 np4
      rw [ei] at f1
      have t2 := same_new (o := .tup [.ref p1]) np2
      have f2 : (L2.upd Ha p2 (.tup [.ref p1])) p2 = some (.tup [.ref p1]) := upd_same
      generalize L2.upd Ha p2 (.tup [.ref p1]) = Hb at t2 f2 np3 np4
      have t3 := same_new (o := .tup [.int 1, .int 0]) np3
      have f3 : (L2.upd Hb p3 (.tup [.int 1, .int 0])) p3 = some (.tup [.int 1, .int 0]) := upd_same
      generalize L2.upd Hb p3 (.tup [.int 1, .int 0]) = Hc at t3 f3 np4
      have t4 := same_new (o := .tup [.ref p2, .ref p3]) np4
      have f4 : (L2.upd Hc p4 (.tup [.ref p2, .ref p3])) p4 = some (.tup [.ref p2, .ref p3]) := upd_same
      generalize L2.upd Hc p4 (.tup [.ref p2, .ref p3]) = Hd at t4 f4
      have t34 := t3.trans t4
      have t24 := t2.trans t34
      have t14 := t1.trans t24
      have ga : GateAt Hd (.ref p4) (notG i) := ⟨p4, p2, p3, [.ref p1], rfl, f4, t34 _ _ f2, .cons ⟨p1, rfl, t24 _ _ f1⟩ .nil, t4 _ _ f3⟩
      have e1d := t14 _ _ e1
      have tu : TupKeep Hd (L2.upd Hd D (.lst (vs ++ [.ref p4]))) := TupKeep.upd e1d fun xs z => by cases z
      refine ⟨vs, e1d, by rw [lv, sizeLine_eq]; omega, fun b o e => ?_, vs ++ [.ref p4], upd_same, by rw [List.length_append, lv]; rfl, ?_⟩
      · rw [upd_ne (ne_of_none e nD)]
        exact t14 _ _ (s1 _ _ e)
      · unfold chainN
        rw [List.range_succ, List.map_append]
        exact paired_snoc (all_ext (fun v x r => r.keep ((TupKeep.of t14).trans tu)) hv) (ga.keep tu)
    refine ⟨D, vs, rfl, .inl ⟨.inl (.inl e1), fun pch npch => ?_⟩⟩
    have s2 := same_new (o := .tup vs) npch
    have ech : (L2.upd H1 pch (.tup vs)) pch = some (.tup vs) := upd_same
    have hv2 : AllAt GateAt (L2.upd H1 pch (.tup vs)) vs (chainN 1499) := all_ext (fun v x r => r.keep (.of s2)) hv
    have S2 := S.keep (s1.trans s2)
    have hT2 := (Ex.same (s1.trans s2)).tabs hT
    generalize L2.upd H1 pch (.tup vs) = H2 at ech hv2 S2 hT2
    clear s1 s2 hv npch e1
    -- bit
    refine ⟨_, rfl, st, lg, cl, t, 2, rfl, by decide, by decide, by omega, S2, fun k H3 k0 k1 S3 U3 => ?_⟩
    obtain ⟨b, eb⟩ := bits01 k0 k1
    have ek : k = bitZ b := V.int.inj eb
    subst ek
    have k23 := U3.tup S2
    have ech3 := k23 _ _ ech
    have hv3 : AllAt GateAt H3 vs (chainN 1499) := all_ext (fun v x r => r.keep k23) hv2
    have hT3 : TabsG TT H3 := fun P hP => by
      obtain ⟨ps, e, r⟩ := hT2 P hP
      exact ⟨ps, U3.keepO S2 e (fun _ z => by cases z) (fun _ z => by cases z), r⟩
    -- due
    refine ⟨1500, rfl, by decide, by decide, fun D2 nD2 => ?_⟩
    rw [show (1500 : Int).toNat = 1500 from rfl]
    refine lc_range (fun i H4 => Same H3 H4 ∧ H4 D2 = some (.lst (((List.range i).map fun j => (some (turnB b (1499 - j)) : Rd)).map rdV))) ⟨same_new nD2, upd_same⟩ (fun i H4 hi ⟨s4, e4⟩ => ?_) (fun H4 ⟨s4, e4⟩ => ?_)
    · refine ⟨rfl, _, rfl, _, _, rfl, rfl, _, rfl, _, _, rfl, rfl, _, _, rfl, rfl, (by show (0 : Int) < 2; decide), _, e4, ?_, fun c o e => ?_, ?_⟩
      · rw [List.length_map, List.length_map, List.length_range, sizeLine_eq]
        omega
      · rw [upd_ne (ne_of_none e nD2)]
        exact s4 _ _ e
      · rw [upd_same, List.range_succ, List.map_append, List.map_append]
        have z := turn_val b (1499 - i)
        have e : bitZ b + 1499 - (0 + (i : Int)) = bitZ b + ((1499 - i : Nat) : Int) := by omega
        show some (HO.lst (_ ++ [V.int ((bitZ b + 1499 - (0 + (i : Int))) % 2)])) = some (HO.lst (_ ++ [V.int (bitZ (turnB b (1499 - i)))]))
        rw [e, z]
    refine ⟨D2, _, rfl, .inl ⟨.inl (.inl e4), fun pd npd => ?_⟩⟩
    have s5 := same_new (o := .tup (((List.range 1500).map fun j => (some (turnB b (1499 - j)) : Rd)).map rdV)) npd
    have ed : (L2.upd H4 pd (.tup (((List.range 1500).map fun j => (some (turnB b (1499 - j)) : Rd)).map rdV))) pd = some (.tup (((List.range 1500).map fun j => (some (turnB b (1499 - j)) : Rd)).map rdV)) := upd_same
    have s35 := s4.trans s5
    generalize L2.upd H4 pd (.tup (((List.range 1500).map fun j => (some (turnB b (1499 - j)) : Rd)).map rdV)) = H5 at s5 ed s35
    have ech5 := s35 _ _ ech3
    have hv5 : AllAt GateAt H5 vs (chainN 1499) := all_ext (fun v x r => r.keep (.of s35)) hv3
    have hT5 := (Ex.same s35).tabs hT3
    have lvs : vs.length = 1499 := by rw [Paired.length hv5, chainN_len]
    clear s35 s5 s4 e4 npd hv3 ech3 hv2 ech
    -- the first circuit
    refine ⟨Nat.zero_le _, fun pr npr => ⟨_, rfl, (by show 2 ≤ sizeLine; decide), fun q1 nq1 => ⟨(by show 1 ≤ sizeLine; decide), fun q2 nq2 => ⟨(by show 2 ≤ sizeLine; decide), fun q3 nq3 => ⟨(by show 2 ≤ sizeLine; decide), fun q4 nq4 => ⟨(by show 1 ≤ sizeLine; decide), fun q5 nq5 => ?_⟩⟩⟩⟩⟩⟩
    have t0 := same_new (o := .tup []) npr
    have f0 : (L2.upd H5 pr (.tup [])) pr = some (.tup []) := upd_same
    generalize L2.upd H5 pr (.tup []) = Hr at t0 f0 nq1 nq2 nq3 nq4 nq5
    have t1 := same_new (o := .tup [.str "in", .int 0]) nq1
    have f1 : (L2.upd Hr q1 (.tup [.str "in", .int 0])) q1 = some (.tup [.str "in", .int 0]) := upd_same
    generalize L2.upd Hr q1 (.tup [.str "in", .int 0]) = Ha at t1 f1 nq2 nq3 nq4 nq5
    have t2 := same_new (o := .tup [.ref q1]) nq2
    have f2 : (L2.upd Ha q2 (.tup [.ref q1])) q2 = some (.tup [.ref q1]) := upd_same
    generalize L2.upd Ha q2 (.tup [.ref q1]) = Hb at t2 f2 nq3 nq4 nq5
    have t3 := same_new (o := .tup [.int 0, .int 1]) nq3
    have f3 : (L2.upd Hb q3 (.tup [.int 0, .int 1])) q3 = some (.tup [.int 0, .int 1]) := upd_same
    generalize L2.upd Hb q3 (.tup [.int 0, .int 1]) = Hc at t3 f3 nq4 nq5
    have t4 := same_new (o := .tup [.ref q2, .ref q3]) nq4
    have f4 : (L2.upd Hc q4 (.tup [.ref q2, .ref q3])) q4 = some (.tup [.ref q2, .ref q3]) := upd_same
    generalize L2.upd Hc q4 (.tup [.ref q2, .ref q3]) = Hd at t4 f4 nq5
    have t5 := same_new (o := .tup [.ref q4]) nq5
    have f5 : (L2.upd Hd q5 (.tup [.ref q4])) q5 = some (.tup [.ref q4]) := upd_same
    generalize L2.upd Hd q5 (.tup [.ref q4]) = He at t5 f5
    have t45 := t4.trans t5
    have t35 := t3.trans t45
    have t25 := t2.trans t35
    have t15 := t1.trans t25
    have t05 := t0.trans t15
    have gl : GateAt He (.ref q4) lastG := ⟨q4, q2, q3, [.ref q1], rfl, t5 _ _ f4, t35 _ _ f2, .cons ⟨q1, rfl, t25 _ _ f1⟩ .nil, t45 _ _ f3⟩
    refine catB_to (t05 _ _ ech5) f5 (by rw [lvs, sizeLine_eq]; show 1499 + 1 ≤ 16777216; decide) fun pg Hg tg fg => ⟨Nat.zero_le _, fun po npo => ⟨(by show 4 ≤ sizeLine; decide), fun pc npc => ⟨_, rfl, (by show 1 ≤ sizeLine; decide), fun xg nxg => ⟨Nat.zero_le _, fun xh nxh => ?_⟩⟩⟩⟩
    have u1 := same_new (o := .tup []) npo
    have g1 : (L2.upd Hg po (.tup [])) po = some (.tup []) := upd_same
    generalize L2.upd Hg po (.tup []) = Ho at u1 g1 npc nxg nxh
    have u2 := same_new (o := .tup [.int 1, .ref pr, .ref pg, .ref po]) npc
    have g2 : (L2.upd Ho pc (.tup [.int 1, .ref pr, .ref pg, .ref po])) pc = some (.tup [.int 1, .ref pr, .ref pg, .ref po]) := upd_same
    generalize L2.upd Ho pc (.tup [.int 1, .ref pr, .ref pg, .ref po]) = Hp at u2 g2 nxg nxh
    have u3 := same_new (o := .tup [.int (bitZ b)]) nxg
    have g3 : (L2.upd Hp xg (.tup [.int (bitZ b)])) xg = some (.tup [.int (bitZ b)]) := upd_same
    generalize L2.upd Hp xg (.tup [.int (bitZ b)]) = Hq at u3 g3 nxh
    have u4 := same_new (o := .tup []) nxh
    have g4 : (L2.upd Hq xh (.tup [])) xh = some (.tup []) := upd_same
    generalize L2.upd Hq xh (.tup []) = Hz at u4 g4
    have u34 := u3.trans u4
    have u24 := u2.trans u34
    have u14 := u1.trans u24
    have ug4 := tg.trans u14
    have all5 := t05.trans ug4
    have hC : CircAt Hz (.ref pc) ⟨1, [], chainN 1499 ++ [lastG], []⟩ := ⟨pc, pr, pg, po, [], vs ++ [.ref q4], [], rfl, u34 _ _ g2, (t15.trans ug4) _ _ f0, u14 _ _ fg, u24 _ _ g1, .nil, paired_snoc (all_ext (fun v x r => r.keep (.of all5)) hv5) (gl.keep (.of ug4)), .nil⟩
    have ok1 := chain_ok lastG ⟨(by decide), rfl, fun s hs => by
      rw [List.mem_singleton.mp hs]
      show 0 < 1
      decide⟩
    dsimp only [tNil]
    show spCased K TT CC CG CH finSure [.ref pc, .ref xg, .ref xh] Hz _ _
    refine cased_ok (C := ⟨1, [], chainN 1499 ++ [lastG], []⟩) (gv := [some b]) (hv := []) hC ok1 (by show fanG (chainN 1499 ++ [lastG]) ≤ 4000; rw [chain_fan]; decide) ((Ex.same all5).tabs hT5) (u4 _ _ g3) g4 rfl rfl fun H6 x6 => ?_
    intro r H7 s7 nr er
    have er : H7 r = some (.tup ((sureF (chainN 1499 ++ [lastG]) [some b] []).map rdV)) := er
    rw [chain_all] at er
    have hTz := (Ex.same all5).tabs hT5
    have nz := x6.extN hTz
    have kz : ExtN H5 H7 := fun c o e n => s7 _ _ (nz _ _ (all5 _ _ e) n)
    have ed7 := kz _ _ ed (fun _ z => by cases z)
    refine ⟨_, rfl, .tuple (((List.range 1500).map fun i => (some (turnB b (1499 - i)) : Rd)).map rdD), .tuple (((List.range 1500).map fun j => (some (turnB b (1499 - j)) : Rd)).map rdD), .tup (.inl (.inl er)) (dp_rds _), .tup (.inl (.inl ed7)) (dp_rds _), layN_shaped (layN_tuple (lay_rds _)) (by decide), layN_shaped (layN_tuple (lay_rds _)) (by decide), _, rfl, ?_⟩
    have eq_ : PyData.eqv (.tuple (((List.range 1500).map fun i => (some (turnB b (1499 - i)) : Rd)).map rdD)) (.tuple (((List.range 1500).map fun j => (some (turnB b (1499 - j)) : Rd)).map rdD)) = true := by
      show PyData.eqvAll _ _ = true
      rw [eqv_rds, decide_eq_true rfl]
    rw [eq_]
    refine iteF ?_
    -- the second circuit
    have hT7 := (Ex.same s7).tabs (x6.tabs hTz)
    have ech7 := kz _ _ ech5 (fun _ z => by cases z)
    have hv7 : AllAt GateAt H7 vs (chainN 1499) := all_ext (fun v x r => r.ext kz) hv5
    clear hC gl f0 f1 f2 f3 f4 f5 g1 g2 g3 g4 t0 t1 t2 t3 t4 t5 u1 u2 u3 u4 u14 u24 u34 t05 t15 t25 t35 t45 all5 ug4 tg fg nq1 nq2 nq3 nq4 nq5 npo npc nxg nxh npr
    refine ⟨Nat.zero_le _, fun pr npr => ⟨_, rfl, (by show 2 ≤ sizeLine; decide), fun q1 nq1 => ⟨(by show 2 ≤ sizeLine; decide), fun q6 nq6 => ⟨(by show 2 ≤ sizeLine; decide), fun q2 nq2 => ⟨(by show 4 ≤ sizeLine; decide), fun q3 nq3 => ⟨(by show 2 ≤ sizeLine; decide), fun q4 nq4 => ⟨(by show 1 ≤ sizeLine; decide), fun q5 nq5 => ?_⟩⟩⟩⟩⟩⟩⟩
    have t0 := same_new (o := .tup []) npr
    have f0 : (L2.upd H7 pr (.tup [])) pr = some (.tup []) := upd_same
    generalize L2.upd H7 pr (.tup []) = Hr at t0 f0 nq1 nq2 nq3 nq4 nq5 nq6
    have t1 := same_new (o := .tup [.str "in", .int 0]) nq1
    have f1 : (L2.upd Hr q1 (.tup [.str "in", .int 0])) q1 = some (.tup [.str "in", .int 0]) := upd_same
    generalize L2.upd Hr q1 (.tup [.str "in", .int 0]) = Ha' at t1 f1 nq2 nq3 nq4 nq5 nq6
    have t6 := same_new (o := .tup [.str "gate", .int 700]) nq6
    have f6 : (L2.upd Ha' q6 (.tup [.str "gate", .int 700])) q6 = some (.tup [.str "gate", .int 700]) := upd_same
    generalize L2.upd Ha' q6 (.tup [.str "gate", .int 700]) = Ha at t6 f6 nq2 nq3 nq4 nq5
    have t2 := same_new (o := .tup [.ref q1, .ref q6]) nq2
    have f2 : (L2.upd Ha q2 (.tup [.ref q1, .ref q6])) q2 = some (.tup [.ref q1, .ref q6]) := upd_same
    generalize L2.upd Ha q2 (.tup [.ref q1, .ref q6]) = Hb at t2 f2 nq3 nq4 nq5
    have t3 := same_new (o := .tup [.int 0, .int 1, .int 1, .int 0]) nq3
    have f3 : (L2.upd Hb q3 (.tup [.int 0, .int 1, .int 1, .int 0])) q3 = some (.tup [.int 0, .int 1, .int 1, .int 0]) := upd_same
    generalize L2.upd Hb q3 (.tup [.int 0, .int 1, .int 1, .int 0]) = Hc at t3 f3 nq4 nq5
    have t4 := same_new (o := .tup [.ref q2, .ref q3]) nq4
    have f4 : (L2.upd Hc q4 (.tup [.ref q2, .ref q3])) q4 = some (.tup [.ref q2, .ref q3]) := upd_same
    generalize L2.upd Hc q4 (.tup [.ref q2, .ref q3]) = Hd at t4 f4 nq5
    have t5 := same_new (o := .tup [.ref q4]) nq5
    have f5 : (L2.upd Hd q5 (.tup [.ref q4])) q5 = some (.tup [.ref q4]) := upd_same
    generalize L2.upd Hd q5 (.tup [.ref q4]) = He at t5 f5
    have t45 := t4.trans t5
    have t35 := t3.trans t45
    have t25 := t2.trans t35
    have t65 := t6.trans t25
    have t15 := t1.trans t65
    have t05 := t0.trans t15
    have gl : GateAt He (.ref q4) xorG := ⟨q4, q2, q3, [.ref q1, .ref q6], rfl, t5 _ _ f4, t35 _ _ f2, .cons ⟨q1, rfl, t65 _ _ f1⟩ (.cons ⟨q6, rfl, t25 _ _ f6⟩ .nil), t45 _ _ f3⟩
    refine catB_to (t05 _ _ ech7) f5 (by rw [lvs, sizeLine_eq]; show 1499 + 1 ≤ 16777216; decide) fun pg Hg tg fg => ⟨Nat.zero_le _, fun po npo => ⟨(by show 4 ≤ sizeLine; decide), fun pc npc => ⟨_, rfl, (by show 1 ≤ sizeLine; decide), fun xg nxg => ⟨Nat.zero_le _, fun xh nxh => ?_⟩⟩⟩⟩
    have u1 := same_new (o := .tup []) npo
    have g1 : (L2.upd Hg po (.tup [])) po = some (.tup []) := upd_same
    generalize L2.upd Hg po (.tup []) = Ho at u1 g1 npc nxg nxh
    have u2 := same_new (o := .tup [.int 1, .ref pr, .ref pg, .ref po]) npc
    have g2 : (L2.upd Ho pc (.tup [.int 1, .ref pr, .ref pg, .ref po])) pc = some (.tup [.int 1, .ref pr, .ref pg, .ref po]) := upd_same
    generalize L2.upd Ho pc (.tup [.int 1, .ref pr, .ref pg, .ref po]) = Hp at u2 g2 nxg nxh
    have u3 := same_new (o := .tup [.int (bitZ b)]) nxg
    have g3 : (L2.upd Hp xg (.tup [.int (bitZ b)])) xg = some (.tup [.int (bitZ b)]) := upd_same
    generalize L2.upd Hp xg (.tup [.int (bitZ b)]) = Hq at u3 g3 nxh
    have u4 := same_new (o := .tup []) nxh
    have g4 : (L2.upd Hq xh (.tup [])) xh = some (.tup []) := upd_same
    generalize L2.upd Hq xh (.tup []) = Hy at u4 g4
    have u34 := u3.trans u4
    have u24 := u2.trans u34
    have u14 := u1.trans u24
    have ug4 := tg.trans u14
    have all5 := t05.trans ug4
    have hC : CircAt Hy (.ref pc) ⟨1, [], chainN 1499 ++ [xorG], []⟩ := ⟨pc, pr, pg, po, [], vs ++ [.ref q4], [], rfl, u34 _ _ g2, (t15.trans ug4) _ _ f0, u14 _ _ fg, u24 _ _ g1, .nil, paired_snoc (all_ext (fun v x r => r.keep (.of all5)) hv7) (gl.keep (.of ug4)), .nil⟩
    have ok2 := chain_ok xorG ⟨(by decide), rfl, fun s hs => by
      rcases List.mem_cons.mp hs with z | z
      · rw [z]
        show 0 < 1
        decide
      · rw [List.mem_singleton.mp z]
        show 700 < 1500
        decide⟩
    dsimp only [tNil]
    show spCased K TT CC CG CH finSure [.ref pc, .ref xg, .ref xh] Hy _ _
    refine cased_ok (C := ⟨1, [], chainN 1499 ++ [xorG], []⟩) (gv := [some b]) (hv := []) hC ok2 (by show fanG (chainN 1499 ++ [xorG]) ≤ 4000; rw [chain_fan]; decide) ((Ex.same all5).tabs hT7) (u4 _ _ g3) g4 rfl rfl fun H8 x8 => ?_
    intro r2 H9 s9 nr2 er2
    have er2 : H9 r2 = some (.tup ((sureF (chainN 1499 ++ [xorG]) [some b] []).map rdV)) := er2
    rw [chain_none] at er2
    refine ⟨(by show 1 ≤ sizeLine; decide), fun pn npn => ⟨pn, 1500, .non, rfl, rfl, .inl (.inl upd_same), by decide, by decide, fun pm npm => ?_⟩⟩
    have v1 := same_new (o := .tup [.non]) npn
    have v2 := same_new (o := .tup (List.replicate (1500 : Int).toNat V.non)) npm
    have e2' := v2 _ _ (v1 _ _ er2)
    have er3 : (L2.upd (L2.upd H9 pn (.tup [.non])) pm (.tup (List.replicate (1500 : Int).toNat V.non))) pm = some (.tup ((List.replicate 1500 (none : Rd)).map rdV)) := by
      rw [upd_same, List.map_replicate]
      rfl
    refine ⟨.tuple ((List.replicate 1500 (none : Rd)).map rdD), .tuple ((List.replicate 1500 (none : Rd)).map rdD), .tup (.inl (.inl e2')) (dp_rds _), .tup (.inl (.inl er3)) (dp_rds _), layN_shaped (layN_tuple (lay_rds _)) (by decide), layN_shaped (layN_tuple (lay_rds _)) (by decide), ?_⟩
    have eq2 : PyData.eqv (.tuple ((List.replicate 1500 (none : Rd)).map rdD)) (.tuple ((List.replicate 1500 (none : Rd)).map rdD)) = true := by
      show PyData.eqvAll _ _ = true
      rw [eqv_rds, decide_eq_true rfl]
    rw [eq2]
    exact q _
end
end K02

set_option Elab.async false
set_option linter.all false
set_option maxRecDepth 100000
set_option maxHeartbeats 2000000
/-! What the law's own text wants: more bits keep what is sure; a captured name that holds a def that may raise; zip of tuples. -/
namespace K02
open PySem PySem.Spec L2
open PyProof.Rows GenW GxR EZ TK
open LamX (ExtN)
theorem src_mono2 {gv gv' hv hv' F : List Rd} (g : FLe gv gv') (h : FLe hv hv') (s : Src) : le1 (srcV gv hv F s) (srcV gv' hv' F s) := by
  cases s with
  | bit b => exact le1.refl _
  | inp i => exact g.2 i
  | reg i => exact h.2 i
  | gate i => exact le1.refl _
theorem readG_mono2 {gs : List Gate} {gv gv' hv hv' F : List Rd} (g : FLe gv gv') (h : FLe hv hv') (i : Nat) : le1 (readG gs gv hv F i) (readG gs gv' hv' F i) := by
  unfold readG
  cases gs[i]? with
  | none => exact le1.refl _
  | some gt => exact gateR_mono (paired_map (fun s => src_mono2 g h s) gt.1)
/-- more bits in the place of None leave what is sure -/
theorem sureF_mono {gs : List Gate} {gv gv' hv hv' : List Rd} (g : FLe gv gv') (h : FLe hv hv') : FLe (sureF gs gv hv) (sureF gs gv' hv') :=
  sureF_least (fun i hi => (readG_mono2 g h i).trans (sureF_agree' gs gv' hv' i hi)) (sureF_len gs gv' hv')
theorem le1_of {a b : Rd} (h : ∀ x, a = some x → b = some x) : le1 a b := by
  cases a with
  | none => exact .inl rfl
  | some x => exact .inr (h x rfl).symm
theorem FLe.at_ {F G : List Rd} (h : FLe F G) {i : Nat} {x y : Rd} (hx : F[i]? = some x) (hy : G[i]? = some y) : le1 x y := by
  have z := h.2 i
  rw [List.getD_eq_getElem?_getD, List.getD_eq_getElem?_getD, hx, hy] at z
  exact z
/-- what agrees with the tables has the bits of the sure ones -/
theorem agr_sure {gs : List Gate} {gv hv rs : List Rd} (l : rs.length = gs.length) (h : AgrAll gs gv hv rs) : FLe (sureF gs gv hv) rs := sureF_least (fun i hi => by rw [h i hi]; exact le1.refl _) l
theorem rd_ne {a b : Rd} (h : le1 a b) : (!decide (rdV a = V.non)) = true → (!decide (rdV a = rdV b)) = false := fun z => by
  rcases h with h | h
  · rw [h] at z
    cases z
  · rw [h]
    simp
theorem walk_zipT {K : PySem.W.Frag} {a b : Addr} {xs ys : List V} (l : xs.length = ys.length) : Walk (RZ.ItzT K a b) xs.length (fun H => SqT K H a xs ∧ SqT K H b ys) (fun i H v H' => ∃ T x y, v = .ref T ∧ H T = none ∧ H' = L2.upd H T (.tup [x, y]) ∧ xs[i]? = some x ∧ ys[i]? = some y) :=
  ⟨fun i _ hi q => ⟨xs, ys, xs[i], ys[i], q.1, q.2, List.getElem?_eq_getElem hi, List.getElem?_eq_getElem (by omega)⟩, fun _ q => ⟨xs, ys, q.1, q.2, .inl (Nat.le_refl _)⟩, fun i H v H' _ q ⟨T, x, y, h1, h2, h3, h4, h5⟩ => ⟨T, x, y, h1, h2, h3, h4 _ q.1, h5 _ q.2⟩⟩
section
variable {X : Cx} {CX : CXT} {k i : Nat} {E : XK} {x : Str} {p pos : Pos} {e : Expr} {es : List Expr} {t : TA}
/-- the slot holds one of several defs, that may raise -/
def tCallW (i : Nat) (S : Addr → Sp → Prop) (E : XK) (t : TA) : TE := fun σ H Q => ∃ f sp, σ[i]? = some (some (.ref f)) ∧ S f sp ∧ t σ H fun vs H1 => sp vs H1 Q E
theorem pe_callW {S : Addr → Sp → Prop} (A : ∀ f sp, S f sp → ∃ (fd : FuncData) (ps : List Str), FnOk X.prog X.w X.K X.mg X.base CX k f fd ps sp ∧ PySem.W.keepIn X.K (.ref f) = true ∧ Binds X.K fd ps []) (hr : Room k X.A) (hN : X.N[i]? = some x) (hv : Vis X.env.scope x) (hx : Passes CX X E) (ha : PA X (e :: es) t)
    (hdb : (x == ("__debug__" : Str)) = false := by decide) (hcd : (x == ("__classdict__" : Str)) = false := by decide)
    (he : starEach (e :: es) X.env = (false, eval e X.env) :: starEach es X.env := by rfl) (hpl : (backTo pos (starEach es X.env)).any (·.1) = false := by rfl) : PE X (.Call (.Name x p) (e :: es) [] pos) (tCallW i S E t) := by
  refine ⟨fun pins s σ H Q I h => ?_⟩
  obtain ⟨f, sp, hs, hS, ht⟩ := h
  obtain ⟨fd, ps, F, hk, hb⟩ := A f sp hS
  refine (pe_callL (i := i) (f := f) (sp := sp) (dvs := []) (E := E) F hr hN hv hk hb .nil hx ha hdb hcd he hpl).run pins s σ H Q I ⟨hs, ?_⟩
  have e0 : (fun (vs : List V) (H1 : Hp) => sp (vs ++ []) H1 Q E) = fun vs H1 => sp vs H1 Q E := by
    funext vs H1
    rw [List.append_nil]
  show t σ H (fun vs H1 => sp (vs ++ []) H1 Q E)
  rw [e0]
  exact ht
end
end K02

set_option Elab.async false
set_option linter.all false
set_option maxRecDepth 100000
set_option maxHeartbeats 2000000
/-! The end: the tables of the defs that hold generator expressions or lambdas. -/
namespace EN
open PySem PySem.Spec PyProof.Rows L2 LamX
theorem walk_tabs {l : PySem.W.OpenLaw} {n k : Nat} {q : Program} {loose : List Str} {XP : (Str → Option Value) → Heap → Prop} {YP : World → Heap → Prop} {d : DefRec} {K : Params → PySem.W.Frag} {CX : World → CXT} {x : Str} (names : List Str)
    (hn : l.most = some n) (hn2 : n ≤ sizeLine) (hdf : d.params.defaults = []) (hr : Room k callerA) (hrec : (names.all fun y => (recsOf q).any fun e => e.name == y) = true) (hY : ∀ (w : World) (h : Heap), YP w h → (K w.params).In h)
    (F : ∀ (w : World) (mg : Str → Option Value) (fa : Addr) (h : Heap), YP w h → (K w.params).In h → h.Ns mainGlobals mg → mg d.name = some (.ref fa) → (∀ y ∈ names, ∀ f, mg y = some (.ref f) → OwnTab (K w.params) f h) → LawAtS l w (K w.params) (CX w) k n x mg fa h)
    (hCX : ∀ (w : World) (H : Hp) (s : Shared) (e : Value) (s' : Shared), CX w [] H s (fun _ _ _ => False) e s' → False) : PySem.W.WalkO q loose XP YP l.row.toRowW d [] (fun f vs => PySem.call f vs) := by
  refine Att.attach_callB hn hdf fun w s₀ s₁ mg mb fa o pm cd doc a vs ns G Y ho hd hcd hmg hobj hints hlen hbits hg => ?_
  have KX := hY w _ Y
  have own : ∀ y ∈ names, ∀ f, mg y = some (.ref f) → OwnTab (K w.params) f s₁.heap := by
    intro y hy f hf c P o1 fd1 e dd vs1 sl k1 k2 k3 k4 k5
    obtain ⟨dL, hm, hn1⟩ := List.any_eq_true.mp (List.all_eq_true.mp hrec y hy)
    obtain ⟨a', o', fd', c', P', h1, h2, h3, h4, _, ⟨oc, vc, e1, _, e3, e4⟩, hP⟩ := G.T.tab dL hm
    rw [beq_iff_eq.mp hn1, hf] at h1
    cases h1
    rw [KX _ _ k1] at h2
    cases h2
    rw [k2] at h3
    cases h3
    rw [k3] at h4
    cases h4
    rw [KX _ _ k4] at e1
    cases e1
    cases e3
    rw [k5] at e4
    cases e4
    exact hP
  obtain ⟨fd, cs, sp, hT, nT, C, hb, hsp, hF⟩ := F w mg fa _ Y KX G.T.g hmg own
  exact law_callTs KX G.T.g G.T.b G.T.builtins G.T.nolimit hg hT nT C G.T.bmain hobj hints (Nat.le_trans hlen hn2) hr hF hb (fun H hH hS => hsp H a ns hlen hbits hH hS) fun H e s' => hCX w H s₁ e s'
end EN

set_option Elab.async false
set_option linter.all false
set_option maxRecDepth 100000
set_option maxHeartbeats 1000000
/-! repr of data (numbers, bools, texts, None, lists and tuples of these), where no repr is under way. -/
namespace RP
open PySem PySem.Spec L2
open PyProof.Rows
def rRepr (K : PySem.W.Frag) : List V → Hp → VK → Prop := fun xs H Q => ∃ (x : V) (d : PyData), xs = [x] ∧ Dp K H x d ∧ d.showable = true ∧ d.hasDict = false ∧ d.depth ≤ 60 ∧ d.shown.length ≤ sizeLine ∧ (∀ i, d = .int i → i.natAbs.log2 < 1920) ∧ Q (.str d.shown) H
theorem call_reprD {X : Cx} (hg : X.A.guards = some []) (hu : X.A.units + 64 < cLine) : CallR X (.builtin "repr") (rRepr X.K) := by
  intro pins s σ H xs us Q I r h
  obtain ⟨x, d, rfl, hd, hs, hdi, hdp, hl, hi, q⟩ := h
  rcases r with _ | ⟨rx, r0⟩
  cases r0
  cases hd with
  | non =>
    cases rx
    exact PySem.P.repr_of_none ⟨.str _, H, I.tok _, ⟨_, rfl⟩, q⟩
  | bl b =>
    cases rx
    refine PySem.P.repr_of_bool ⟨.str _, H, I.tok _, ⟨_, rfl⟩, ?_⟩
    cases b <;> exact q
  | int i =>
    obtain ⟨t, rfl⟩ := rx
    exact PySem.P.repr_of_int (hi i rfl) ⟨.str _, H, I.tok _, ⟨_, rfl⟩, q⟩
  | str z =>
    obtain ⟨t, rfl⟩ := rx
    exact PySem.P.repr_of_str ⟨.str _, H, I.tok _, ⟨_, rfl⟩, q⟩ hl
  | lst h1 h2 =>
    cases rx
    obtain ⟨as, rd⟩ := Dp.reads I _ _ _ (.lst h1 h2) rfl
    exact repr_of_reads' rd hs (fun z => by rw [hdi] at z; cases z) hg (by omega) (fun _ _ e => e) (fun h' u tk hk => ⟨.str _, H, I.kept (t' := tk) hk, ⟨_, rfl⟩, q⟩) hl
  | tup h1 h2 =>
    cases rx
    obtain ⟨as, rd⟩ := Dp.reads I _ _ _ (.tup h1 h2) rfl
    exact repr_of_reads' rd hs (fun z => by rw [hdi] at z; cases z) hg (by omega) (fun _ _ e => e) (fun h' u tk hk => ⟨.str _, H, I.kept (t' := tk) hk, ⟨_, rfl⟩, q⟩) hl
end RP

set_option Elab.async false
set_option linter.all false
set_option maxRecDepth 100000
set_option maxHeartbeats 2000000
/-! The end for a law that asks repr of lists or tuples: the law's call is the outermost, so no repr is under way. -/
namespace GE
open PySem PySem.Spec PyProof.Rows L2 LamX
/-- a def keeps its promise where no repr is under way -/
structure FnG (P : Program) (w : World) (K : PySem.W.Frag) (mg : Str → Option Value) (base : Heap) (CX : CXT) (k : Nat) (f : Addr) (fd : FuncData) (ps : List Str) (sp : Sp) : Prop where
  run : ∀ (A : Around) (outer : List Env) (s : Shared) (H : Hp) (args : Args) (us : List Value) (vs : List V) (Q : VK) (E : XK), A.guards = some [] → Room k A → Env0 P w K mg base A outer s H → BindsTo s fd args (ps.zip us) → Vals vs us → sp vs H Q E →
    codeAny (model P w) A (.call (.ref f) args) (CR CX outer P w H s Q E) s
/-- the abstract heap at the law's call: the tables are empty, the script stands at a -/
def startH (K : PySem.W.Frag) (T : List Addr) (a : Addr) (vs : List Value) (ns : List Int) : Hp := fun b =>
  if b ∈ T then some (.tbl #[]) else if b = a ∧ (K.lookup a).isNone = true then some (.frz { cls := .type "list", data := .seq vs.toArray } (.lst (ns.map V.int))) else none
section
variable {K : PySem.W.Frag} {T : List Addr} {a b : Addr} {vs : List Value} {ns : List Int}
theorem start_tab (h : b ∈ T) : startH K T a vs ns b = some (.tbl #[]) := if_pos h
theorem start_a (h : a ∉ T) (n : K.lookup a = none) : startH K T a vs ns a = some (.frz { cls := .type "list", data := .seq vs.toArray } (.lst (ns.map V.int))) := by
  unfold startH
  rw [if_neg h, if_pos ⟨rfl, by rw [n]; rfl⟩]
theorem start_none (h : b ∉ T) (h2 : ¬ (b = a ∧ (K.lookup a).isNone = true)) : startH K T a vs ns b = none := by
  unfold startH
  rw [if_neg h, if_neg h2]
/-- what may be tracked -/
theorem start_cases (b : Addr) : startH K T a vs ns b = none ∨ (b ∈ T ∧ startH K T a vs ns b = some (.tbl #[])) ∨ (b ∉ T ∧ b = a ∧ K.lookup a = none ∧ startH K T a vs ns b = some (.frz { cls := .type "list", data := .seq vs.toArray } (.lst (ns.map V.int)))) := by
  by_cases h : b ∈ T
  · exact .inr (.inl ⟨h, start_tab h⟩)
  · by_cases h2 : b = a ∧ (K.lookup a).isNone = true
    · obtain ⟨rfl, h3⟩ := h2
      have n : K.lookup b = none := Option.isNone_iff_eq_none.mp h3
      exact .inr (.inr ⟨h, rfl, n, start_a h n⟩)
    · exact .inl (start_none h h2)
end
/-- the law's call, its promise kept where no repr is under way -/
theorem end_call {P : Program} {w : World} {K : PySem.W.Frag} {mg mb : Str → Option Value} {CX : CXT} {k : Nat} {fa a : Addr} {cs : List (Addr × Addr)} {fd : FuncData} {x : Str} {sp : Sp} {s₁ : Shared} {vs : List Value} {ns : List Int} (KX : K.In s₁.heap) (hns : s₁.heap.Ns mainGlobals mg) (hb : s₁.heap.Ns builtinsNs mb)
    (hbb : ∀ x : Str, x ≠ "__name__" → mb x = bootBuiltins x) (hlim : s₁.heap.NoLimit) (hg : s₁.gens = #[]) (hT : ∀ p ∈ cs, s₁.heap.get? p.2 = some { cls := .none, data := .fields #[] }) (nT : ∀ p ∈ cs, K.lookup p.2 = none) (C : ∀ p ∈ cs, PySem.W.CodeHd s₁.heap p.1 p.2)
    (hbm : ∃ (bm : Addr) (ob : Obj), mg "__builtins__" = some (.ref bm) ∧ bm ≠ builtinsNs ∧ s₁.heap.get? bm = some ob ∧ ob.cls = .type "module" ∧ ob.dict = some builtinsNs ∧ ob.data = .plain) (ha : s₁.heap.get? a = some { cls := .type "list", data := .seq vs.toArray }) (hi : IntsAre vs ns) (hl : ns.length ≤ sizeLine) (hr : Room k callerA)
    (F : ∀ base : Heap, K.In base → base.Ns mainGlobals mg → (∀ p ∈ cs, TabB base mg p.1 p.2) → FnG P w K mg base CX k fa fd [x] sp) (hbind : ∀ (s : Shared) (u : Value), BindsTo s fd ⟨[u], []⟩ [(x, u)])
    (hsp : ∀ H : Hp, (∀ p ∈ cs, H p.2 = some (.tbl #[])) → SqL K H a (ns.map V.int) → sp [.ref a] H (fun v _ => v = .bl true) fun _ _ _ => False) (hCX : ∀ H e s', CX [] H s₁ (fun _ _ _ => False) e s' → False) :
    codeAny (model P w) callerA (.call (.ref fa) ⟨[.ref a], []⟩) (fun r s' => r = .ok (.ret (.bool true)) ∧ OldK s₁.heap s'.heap ∧ s'.os = s₁.os ∧ AllBare s'.gens) s₁ := by
  obtain ⟨T, hTd⟩ : ∃ T, T = cs.map (·.2) := ⟨_, rfl⟩
  have inT : ∀ p ∈ cs, p.2 ∈ T := fun p hp => by
    rw [hTd]
    exact List.mem_map.mpr ⟨p, hp, rfl⟩
  have ofT : ∀ b ∈ T, ∃ p ∈ cs, p.2 = b := fun b hb => by
    rw [hTd] at hb
    exact List.mem_map.mp hb
  have tabs : ∀ b ∈ T, s₁.heap.get? b = some { cls := .none, data := .fields #[] } ∧ K.lookup b = none := fun b hb => by
    obtain ⟨p, hp, rfl⟩ := ofT b hb
    exact ⟨hT p hp, nT p hp⟩
  have aT : a ∉ T := fun z => by
    have q := (tabs a z).1
    rw [ha] at q
    cases q
  obtain ⟨H, hH⟩ : ∃ H, H = startH K T a vs ns := ⟨_, rfl⟩
  have cases_ : ∀ b, H b = none ∨ (b ∈ T ∧ H b = some (.tbl #[])) ∨ (b ∉ T ∧ b = a ∧ K.lookup a = none ∧ H b = some (.frz { cls := .type "list", data := .seq vs.toArray } (.lst (ns.map V.int)))) := fun b => by
    rw [hH]
    exact start_cases b
  have rel : Vals (ns.map V.int) vs := vals_ints hi
  have len : vs.length = ns.length := hi.length
  -- an object that is neither the script's list nor an empty table is not tracked
  have free_ : ∀ {b : Addr} {o : Obj}, s₁.heap.get? b = some o → (∀ us n, o.data ≠ .seq us n) → o.data ≠ .fields #[] → H b = none := fun {b o} e n1 n2 => by
    rcases cases_ b with z | ⟨z, _⟩ | ⟨_, z, _⟩
    · exact z
    · rw [(tabs b z).1] at e
      cases e
      exact absurd rfl n2
    · rw [z, ha] at e
      cases e
      exact absurd rfl (n1 _ _)
  have dict_ : ∀ {b : Addr} {o : Obj} {es : Array DictEntry} {ep : Nat}, s₁.heap.get? b = some o → o.data = .dict es ep → H b = none := fun e d => free_ e (fun _ _ z => by rw [d] at z; cases z) (fun z => by rw [d] at z; cases z)
  have ns_ : ∀ {b : Addr} {m : Str → Option Value}, s₁.heap.Ns b m → (hidT s₁.heap H).Ns b m := fun {b m} z => by
    obtain ⟨o, es, ep, e, d, r⟩ := z
    exact ⟨o, es, ep, hidT_get e (dict_ e d), d, r⟩
  have inK : K.In (hidT s₁.heap H) := fun b o e => by
    refine hidT_get (KX b o e) ?_
    rcases cases_ b with z | ⟨z, _⟩ | ⟨_, z, z2, _⟩
    · exact z
    · rw [(tabs b z).2] at e
      cases e
    · rw [z, z2] at e
      cases e
  have md : L2.Mod K mg (hidT s₁.heap H) := by
    obtain ⟨mc, l1, l2⟩ := hlim
    exact ⟨inK, ns_ hns, ⟨mb, ns_ hb, hbb⟩, ⟨mc, ns_ l1, l2⟩⟩
  have TB : ∀ p ∈ cs, TabB (hidT s₁.heap H) mg p.1 p.2 := fun p hp => by
    obtain ⟨oG, esG, epG, eG, dG, _⟩ := id hns
    constructor
    · obtain ⟨o, us, fl, tf, fs, tg, inF, tx, tt, e1, r1, r2, r3, rest⟩ := C p hp
      refine ⟨o, us, fl, tf, fs, tg, inF, tx, tt, hidT_get e1 (free_ e1 (fun _ _ z => by rw [r2] at z; cases z) fun z => ?_), r1, r2, r3, rest⟩
      rw [r2] at z
      cases z
      simp at r3
    · obtain ⟨bm, ob, b1, b2, b3, b4, b5, b6⟩ := hbm
      refine ⟨bm, ob, b1, b2, fun z => ?_, fun z => ?_, hidT_get b3 (free_ b3 (fun _ _ z => by rw [b6] at z; cases z) (fun z => by rw [b6] at z; cases z)), b4, b5, b6⟩
      · rw [z, eG] at b3
        cases b3
        rw [dG] at b6
        cases b6
      · rw [z, hT p hp] at b3
        cases b3
        cases b6
    · intro z
      rw [z, hT p hp] at eG
      cases eG
      cases dG
  have ok : HOk P w H s₁.heap := fun b u e => by
    rcases cases_ b with z | ⟨z, z2⟩ | ⟨_, z, _, z2⟩
    · rw [z] at e
      cases e
    · rw [z2] at e
      cases e
      exact (tabs b z).1
    · rw [z2] at e
      cases e
      rw [z]
      exact ⟨ha, by rw [List.length_map]; exact hl, vs, _, rel, ha⟩
  have sq : SqL K H a (ns.map V.int) := by
    cases hk : K.lookup a with
    | none => exact .inl (.inr ⟨_, by rw [hH]; exact start_a aT hk⟩)
    | some o =>
      have e := KX a o hk
      rw [ha] at e
      cases e
      exact .inr ⟨_, vs.toArray, _, hk, rfl, rfl, rfl, by rw [List.size_toArray, len]; exact hl, by simpa using rel⟩
  have start : ∀ p ∈ cs, H p.2 = some (.tbl #[]) := fun p hp => by
    rw [hH]
    exact start_tab (inT p hp)
  have env : Env0 P w K mg (hidT s₁.heap H) callerA [] s₁ H := ⟨rfl, md, fun b o e => of_hidT e, Nat.le_of_eq (hidT_size _ _), trivial, fun b hb => (nomatch hb), ok, .of_eq hg⟩
  refine codeAny_mono ((F _ inK (ns_ hns) TB).run callerA [] s₁ H ⟨[.ref a], []⟩ [.ref a] [.ref a] _ _ rfl hr env (hbind s₁ (.ref a)) (.cons rfl .nil) (hsp H start sq)) fun r s' h => ?_
  rcases r with e | fl
  · exact (hCX H e s' h).elim
  · cases fl with
    | ret u =>
      obtain ⟨v, H', os, bare, un, ok', r', q⟩ := h
      cases q
      cases r'
      have kept : ∀ b o, b ∉ T → s₁.heap.get? b = some o → s'.heap.get? b = some o := fun b o nb e => by
        rcases cases_ b with z | ⟨z, _⟩ | ⟨_, _, _, z⟩
        · exact un.keep b o e z (fun z => nomatch z) (fun z => nomatch z)
        · exact absurd z nb
        · have g1 := (ok b _ z).1
          have g2 := (ok' b _ (un.frzs b _ _ z)).1
          rw [e] at g1
          cases g1
          exact g2
      have more : ∀ p ∈ cs, ∃ us : Array Value, s'.heap.get? p.2 = some { cls := .none, data := .fields us } := fun p hp => by
        obtain ⟨us, z⟩ := un.tbls p.2 #[] (start p hp)
        exact ⟨_, ok' p.2 _ z⟩
      refine ⟨rfl, ⟨fun b o e => ?_, fun b o e => ?_⟩, os, bare⟩
      · by_cases hb : b ∈ T
        · obtain ⟨p, hp, rfl⟩ := ofT b hb
          obtain ⟨us, hm⟩ := more p hp
          rw [hT p hp] at e
          cases e
          exact .inr (.inl ⟨((C p hp).tab (hT p hp)).isCodeTable, rfl, #[], us, rfl, by rw [Array.empty_append]; exact hm⟩)
        · exact .inl (kept b o hb e)
      · by_cases hb : b ∈ T
        · obtain ⟨p, hp, rfl⟩ := ofT b hb
          obtain ⟨us, hm⟩ := more p hp
          exact ⟨_, hm⟩
        · exact ⟨o, kept b o hb e⟩
    | _ => exact False.elim h
end GE

set_option Elab.async false
set_option linter.all false
set_option maxRecDepth 100000
set_option maxHeartbeats 2000000
/-! Defs where no repr is under way: how they are shown, and the end of a row with them. -/
namespace GE
open PySem PySem.Spec PyProof.Rows L2 LamX
section
variable {P : Program} {w : World} {K : PySem.W.Frag} {mg : Str → Option Value} {base : Heap}
theorem okG {CX : CXT} {x qual : Str} {st : Stmt} {f c : Addr} {fd : FuncData} {N ps : List Str} {k : Nat} {sp : Sp} (F : Fun K x qual st f fd) (hc : fd.code = .ref c) (S : FnScope N ps (defScope st)) (len : ∀ vs H Q E, sp vs H Q E → vs.length = ps.length)
    (hbody : ∀ (A : Around) (outer : List Env) (s : Shared) (H : Hp) (vs : List V) (Q : VK) (E : XK), (A.deeper (envOfC qual (defScope st) s.heap.objs.size f (.ref c))).guards = some [] → Room k (A.deeper (envOfC qual (defScope st) s.heap.objs.size f (.ref c))) → sp vs H Q E →
      ∃ t, PSs (cxOf CX P w K mg base N qual (defScope st) f (.ref c) A outer s H E) (defBody st) t ∧ t { nx := fun _ H' => Q .non H', rt := Q } (start N vs) H) : FnG P w K mg base CX (k + 1) f fd ps sp := by
  obtain ⟨oc, od, kV, doc, pm, an, cdv, ct, osl, rfl, lk, hcd⟩ := F.ex
  have e : cdv = .ref c := hc
  subst e
  exact ⟨fun A outer s H args us vs Q E hg hr e0 hb r hsp => run_ofS (N := N) lk hcd S hr e0 hb r (len _ _ _ _ hsp) fun hr' => hbody A outer s H vs Q E hg hr' hsp⟩
end
/-- as LawAtS, where no repr is under way -/
def LawAtG (l : PySem.W.OpenLaw) (w : World) (K : PySem.W.Frag) (CX : CXT) (k n : Nat) (x : Str) (mg : Str → Option Value) (fa : Addr) (h : Heap) : Prop :=
  ∃ (fd : FuncData) (cs : List (Addr × Addr)) (sp : Sp), (∀ p ∈ cs, h.get? p.2 = some { cls := .none, data := .fields #[] }) ∧ (∀ p ∈ cs, K.lookup p.2 = none) ∧ (∀ p ∈ cs, PySem.W.CodeHd h p.1 p.2) ∧ (∀ (s : Shared) (u : Value), BindsTo s fd ⟨[u], []⟩ [(x, u)]) ∧
    (∀ (H : Hp) (a : Addr) (ns : List Int), ns.length ≤ n → (∀ z ∈ ns, Builtin.Int.intBits z ≤ 1048576) → (∀ p ∈ cs, H p.2 = some (.tbl #[])) → SqL K H a (ns.map V.int) → sp [.ref a] H (fun v _ => v = .bl true) fun _ _ _ => False) ∧
    ∀ base : Heap, K.In base → base.Ns mainGlobals mg → (∀ p ∈ cs, TabB base mg p.1 p.2) → FnG l.prog w K mg base CX k fa fd [x] sp
theorem walk_tabsG {l : PySem.W.OpenLaw} {n k : Nat} {q : Program} {loose : List Str} {XP : (Str → Option Value) → Heap → Prop} {YP : World → Heap → Prop} {d : DefRec} {K : Params → PySem.W.Frag} {CX : World → CXT} {x : Str} (names : List Str) (hn : l.most = some n) (hn2 : n ≤ sizeLine) (hdf : d.params.defaults = []) (hr : Room k callerA)
    (hrec : (names.all fun y => (recsOf q).any fun e => e.name == y) = true) (hY : ∀ (w : World) (h : Heap), YP w h → (K w.params).In h)
    (F : ∀ (w : World) (mg : Str → Option Value) (fa : Addr) (h : Heap), YP w h → (K w.params).In h → h.Ns mainGlobals mg → mg d.name = some (.ref fa) → (∀ y ∈ names, ∀ f, mg y = some (.ref f) → OwnTab (K w.params) f h) → LawAtG l w (K w.params) (CX w) k n x mg fa h)
    (hCX : ∀ (w : World) (H : Hp) (s : Shared) (e : Value) (s' : Shared), CX w [] H s (fun _ _ _ => False) e s' → False) : PySem.W.WalkO q loose XP YP l.row.toRowW d [] (fun f vs => PySem.call f vs) := by
  refine Att.attach_callB hn hdf fun w s₀ s₁ mg mb fa o pm cd doc a vs ns G Y ho hd hcd hmg hobj hints hlen hbits hg => ?_
  have KX := hY w _ Y
  have own : ∀ y ∈ names, ∀ f, mg y = some (.ref f) → OwnTab (K w.params) f s₁.heap := by
    intro y hy f hf c P o1 fd1 e dd vs1 sl k1 k2 k3 k4 k5
    obtain ⟨dL, hm, hn1⟩ := List.any_eq_true.mp (List.all_eq_true.mp hrec y hy)
    obtain ⟨a', o', fd', c', P', h1, h2, h3, h4, _, ⟨oc, vc, e1, _, e3, e4⟩, hP⟩ := G.T.tab dL hm
    rw [beq_iff_eq.mp hn1, hf] at h1
    cases h1
    rw [KX _ _ k1] at h2
    cases h2
    rw [k2] at h3
    cases h3
    rw [k3] at h4
    cases h4
    rw [KX _ _ k4] at e1
    cases e1
    cases e3
    rw [k5] at e4
    cases e4
    exact hP
  obtain ⟨fd, cs, sp, hT, nT, C, hb, hsp, hF⟩ := F w mg fa _ Y KX G.T.g hmg own
  exact end_call KX G.T.g G.T.b G.T.builtins G.T.nolimit hg hT nT C G.T.bmain hobj hints (Nat.le_trans hlen hn2) hr hF hb (fun H hH hS => hsp H a ns hlen hbits hH hS) fun H e s' => hCX w H s₁ e s'
end GE

set_option Elab.async false
set_option linter.all false
set_option maxRecDepth 100000
set_option maxHeartbeats 2000000
/-! repr of rows of readings; what stands between the turns, behind a def that keeps the tables. -/
namespace K02
open PySem PySem.Spec L2
open PyProof.Rows GenW GxR EZ TK CE LamX
/-- what repr asks of data -/
def GoodD (d : PyData) : Prop := d.canLay0 = true ∧ d.showable = true ∧ d.hasDict = false ∧ d.intsShort 13 = true
def GoodAll (ds : List PyData) : Prop := PyData.canLayAll0 ds = true ∧ PyData.showableAll ds = true ∧ PyData.hasDictAll ds = false ∧ PyData.intsShortAll 13 ds = true
theorem good_all : ∀ {ds : List PyData}, (∀ d ∈ ds, GoodD d) → GoodAll ds
  | [], _ => ⟨rfl, rfl, rfl, rfl⟩
  | d :: r, h => by
    obtain ⟨a1, a2, a3, a4⟩ := h d List.mem_cons_self
    obtain ⟨b1, b2, b3, b4⟩ := good_all fun x hx => h x (List.mem_cons_of_mem _ hx)
    refine ⟨?_, ?_, ?_, ?_⟩
    · simp [PyData.canLayAll0, a1, b1]
    · simp [PyData.showableAll, a2, b2]
    · simp [PyData.hasDictAll, a3, b3]
    · simp [PyData.intsShortAll, a4, b4]
theorem good_tup {ds : List PyData} (h : ∀ d ∈ ds, GoodD d) : GoodD (.tuple ds) := by
  obtain ⟨a, b, c, e⟩ := good_all h
  exact ⟨by simp [PyData.canLay0, a], by simp [PyData.showable, b], by simp [PyData.hasDict, c], by simp [PyData.intsShort, e]⟩
theorem good_lst {ds : List PyData} (h : ∀ d ∈ ds, GoodD d) : GoodD (.list ds) := by
  obtain ⟨a, b, c, e⟩ := good_all h
  exact ⟨by simp [PyData.canLay0, a], by simp [PyData.showable, b], by simp [PyData.hasDict, c], by simp [PyData.intsShort, e]⟩
theorem short01 (b : Bool) : (PyData.int (bitZ b)).intsShort 13 = true := by
  cases b <;> decide +kernel
theorem good_rd (r : Rd) : GoodD (rdD r) := by
  cases r with
  | none => exact ⟨rfl, rfl, rfl, rfl⟩
  | some b => exact ⟨rfl, by cases b <;> decide +kernel, rfl, short01 b⟩
theorem good_bl (b : Bool) : GoodD (.bool b) := ⟨rfl, rfl, rfl, rfl⟩
theorem good_rds (rs : List Rd) : ∀ d ∈ rs.map rdD, GoodD d := fun d hd => by
  obtain ⟨r, _, rfl⟩ := List.mem_map.mp hd
  exact good_rd r
theorem weight_rd (r : Rd) : (rdD r).weight ≤ 1 := by
  cases r with
  | none => exact Nat.zero_le _
  | some b => cases b <;> decide +kernel
theorem weight_rds : ∀ rs : List Rd, PyData.weightAll (rs.map rdD) ≤ 2 * rs.length
  | [] => Nat.le_refl _
  | r :: l => by
    have a := weight_rd r
    have b := weight_rds l
    show (rdD r).weight + 1 + PyData.weightAll (l.map rdD) ≤ 2 * (l.length + 1)
    omega
theorem repr_to {K : PySem.W.Frag} {H : Hp} {x : V} {d : PyData} {Q : VK} (hd : Dp K H x d) (g : GoodD d) (dp : d.depth ≤ 60) (wt : d.weight ≤ 2 ^ 20) (ni : ∀ i, d ≠ .int i) (q : Q (.str d.shown) H) : RP.rRepr K [x] H Q := by
  refine ⟨x, d, rfl, hd, g.2.1, g.2.2.1, dp, ?_, fun i e => absurd e (ni i), q⟩
  have hl : d.layable0 = true := by
    unfold PyData.layable0
    rw [g.1, decide_eq_true (show d.depth ≤ 64 by omega), decide_eq_true wt]
    rfl
  have z := PyProof.Rows.shown_le13 hl g.2.2.2
  rw [sizeLine_eq]
  omega
def twoR (rs : List Rd) : PyData := .list [.tuple (rs.map rdD), .tuple (rs.map rdD)]
theorem repr_two {K : PySem.W.Frag} {H : Hp} {a p q : Addr} {rs : List Rd} {Q : VK} (hl : rs.length ≤ 100) (ha : H a = some (.lst [.ref p, .ref q])) (hp : H p = some (.tup (rs.map rdV))) (hq : H q = some (.tup (rs.map rdV))) (k : Q (.str (twoR rs).shown) H) : RP.rRepr K [.ref a] H Q := by
  have one : GoodD (.tuple (rs.map rdD)) := good_tup (good_rds rs)
  have lay : LayN 2 (twoR rs) := layN_list fun d hd => by
    simp only [List.mem_cons, List.not_mem_nil, or_false, or_self] at hd
    rw [hd]
    exact layN_tuple (lay_rds rs)
  refine repr_to (d := twoR rs) (.lst (.inl (.inl ha)) (.cons (.tup (.inl (.inl hp)) (dp_rds _)) (.cons (.tup (.inl (.inl hq)) (dp_rds _)) .nil))) (good_lst fun d hd => ?_) (Nat.le_trans lay.2 (by decide)) ?_ (fun i z => by unfold twoR at z; cases z) k
  · simp only [List.mem_cons, List.not_mem_nil, or_false, or_self] at hd
    rw [hd]
    exact one
  · have z := weight_rds rs
    show PyData.weightAll (rs.map rdD) + 1 + (PyData.weightAll (rs.map rdD) + 1 + 0) ≤ 2 ^ 20
    have : (2 : Nat) ^ 20 = 1048576 := by decide
    omega
theorem repr_bb {K : PySem.W.Frag} {H : Hp} {a : Addr} {b : Bool} {Q : VK} (ha : H a = some (.lst [.bl b, .bl b])) (k : Q (.str (PyData.list [.bool b, .bool b]).shown) H) : RP.rRepr K [.ref a] H Q := by
  refine repr_to (d := .list [.bool b, .bool b]) (.lst (.inl (.inl ha)) (.cons (.bl b) (.cons (.bl b) .nil))) (good_lst fun d hd => ?_) (by cases b <;> decide) (by cases b <;> decide) (fun i z => by cases z) k
  simp only [List.mem_cons, List.not_mem_nil, or_false, or_self] at hd
  rw [hd]
  exact good_bl b
theorem Between.ex {st lg cl Pl : Addr} {TT : List Addr} {H H' : Hp} {t : Nat} (B : Between st lg cl Pl TT H t) (hPT : Pl ∉ TT) (x : Ex TT H H') : Between st lg cl Pl TT H' t := by
  have n := x.extN B.tt
  refine ⟨?_, x.tabs B.tt, ?_⟩
  · obtain ⟨ls, cs, left, turn, S⟩ := B.s
    exact ⟨ls, cs, left, turn, n _ _ S.d (fun _ z => by cases z), n _ _ S.l (fun _ z => by cases z), n _ _ S.c (fun _ z => by cases z), S.lp, S.l0, S.t0, S.tt, S.ll, S.cc, S.ne⟩
  · obtain ⟨ps, e, r, ce⟩ := B.tl
    refine ⟨ps, x.keep _ _ hPT e, r, fun pos cv h => ?_⟩
    obtain ⟨c, e1, e2⟩ := ce pos cv h
    exact ⟨c, e1, n _ _ e2 (fun ps => codeO_ne ps)⟩
section
variable {P : Program} {w : World} {K : PySem.W.Frag} {mg : Str → Option Value} {base : Heap}
theorem okGN {x qual : Str} {st : Stmt} {f c : Addr} {fd : FuncData} {N ps : List Str} {k : Nat} {sp : Sp} (F : Fun K x qual st f fd) (hc : fd.code = .ref c) (S : FnScope N ps (defScope st)) (len : ∀ vs H Q E, sp vs H Q E → vs.length = ps.length)
    (hbody : ∀ (A : Around) (outer : List Env) (s : Shared) (H : Hp) (vs : List V) (Q : VK) (E : XK), (A.deeper (envOfC qual (defScope st) s.heap.objs.size f (.ref c))).guards = some [] → Room k (A.deeper (envOfC qual (defScope st) s.heap.objs.size f (.ref c))) → sp vs H Q E →
      ∃ t, PSs (cxOf CX0 P w K mg base N qual (defScope st) f (.ref c) A outer s H E).nox (defBody st) t ∧ t { nx := fun _ H' => Q .non H', rt := Q } (start N vs) H) : GE.FnG P w K mg base CX0 (k + 1) f fd ps sp :=
  GE.okG F hc S len fun A outer s H vs Q E hg hr hsp => by
    obtain ⟨t, h, q⟩ := hbody A outer s H vs Q E hg hr hsp
    exact ⟨t, h.nox, q⟩
end
end K02

set_option Elab.async false
set_option linter.all false
set_option maxRecDepth 100000
set_option maxHeartbeats 2000000
/-! Values that are no circuit, no readings: what a def that checks its case makes of them. -/
namespace K02
open PySem PySem.Spec L2
open PyProof.Rows GenW GxR EZ TK CE LamX
/-- v is no tuple of four -/
inductive OD (st lg : Addr) (H : Hp) : V → Prop
  | non : OD st lg H .non
  | int (i : Int) : OD st lg H (.int i)
  | tup {a : Addr} {xs : List V} : H a = some (.tup xs) → xs.length ≠ 4 → OD st lg H (.ref a)
  | lst {a : Addr} {xs : List V} : H a = some (.lst xs) → a ≠ st → a ≠ lg → OD st lg H (.ref a)
theorem OD.but {st lg cl : Addr} {H H' : Hp} {t : Nat} {v : V} (h : OD st lg H v) (U : But st lg H H') (S : StOk H st lg cl t) : OD st lg H' v := by
  cases h with
  | non => exact .non
  | int i => exact .int i
  | tup e l => exact .tup (U.tup S _ _ e) l
  | lst e n1 n2 => exact .lst (U _ _ e n1 n2) n1 n2
theorem OD.ext {st lg : Addr} {H H' : Hp} {v : V} (h : OD st lg H v) (x : ExtN H H') : OD st lg H' v := by
  cases h with
  | non => exact .non
  | int i => exact .int i
  | tup e l => exact .tup (x _ _ e (fun _ z => by cases z)) l
  | lst e n1 n2 => exact .lst (x _ _ e (fun _ z => by cases z)) n1 n2
theorem WR.ext {st lg : Addr} {H H' : Hp} {n : Nat} {v : V} (h : WR st lg H n v) (x : ExtN H H') : WR st lg H' n v := by
  cases h with
  | atom a => exact .atom a
  | tup e a o => exact .tup (x _ _ e (fun _ z => by cases z)) a o
  | lst e n1 n2 => exact .lst (x _ _ e (fun _ z => by cases z)) n1 n2
  | dic e => exact .dic (x _ _ e (fun _ z => by cases z))
section
variable {K : PySem.W.Frag}
theorem OD.odd {st lg : Addr} {H : Hp} {v : V} (h : OD st lg H v) : Odd4 K H v := by
  cases h with
  | non => exact ⟨_, [], ty_non, fun z => absurd z (by decide), by decide⟩
  | int i => exact ⟨_, [], ty_int i, fun z => absurd z (by decide), by decide⟩
  | @tup a xs e l =>
    refine ⟨"tuple", xs, ty_tup e, fun _ => ⟨a, rfl, .inl (.inl e)⟩, ?_⟩
    rw [decide_eq_false (show ¬ ((xs.length : Int) = 4) by omega), Bool.and_false]
  | lst e n1 n2 => exact ⟨_, [], ty_lst e, fun z => absurd z (by decide), by decide⟩
theorem okRd_of (l : List Rd) {n : Nat} (e : l.length = n) : okRd "tuple" (l.map rdV) n = true := by
  unfold okRd
  rw [List.length_map, e, decide_eq_true rfl, decide_eq_true rfl, List.all_eq_true.mpr fun y hy => by
    obtain ⟨r, _, rfl⟩ := List.mem_map.mp hy
    exact rdB_rdV r]
  rfl
theorem items_rds {H : Hp} {a : Addr} {l : List Rd} (e : H a = some (.tup (l.map rdV))) : ItemsV K H (.ref a) "tuple" (l.map rdV) := ⟨ty_tup e, fun _ => ⟨a, rfl, .inl (.inl e)⟩, fun _ y hy => by
  obtain ⟨r, _, rfl⟩ := List.mem_map.mp hy
  exact ty_rd r⟩
variable {TT : List Addr} {CC CG CH : Addr} {fin : Circ → List Rd → List Rd → Hp → VK → Prop} {H : Hp} {y x1 x2 : V} {C : Circ} {Q : VK} {E : XK}
theorem cased_odd (o : Odd4 K H y) (e : E (.ref CC) none H) : spCased K TT CC CG CH fin [y, x1, x2] H Q E := ⟨y, x1, x2, rfl, .inl ⟨o, e⟩⟩
theorem cased_bad1 (hC : CircAt H y C) (ok : C.ok) (fan : fanG C.gates ≤ 4000) (hT : TabsG TT H) (h1 : ∃ t xs, ItemsV K H x1 t xs ∧ okRd t xs C.ni = false) (h2 : ∃ t xs, ItemsV K H x2 t xs ∧ okRd t xs C.regs.length = false) (e : ∀ H', Ex TT H H' → E (.ref CG) none H') : spCased K TT CC CG CH fin [y, x1, x2] H Q E := by
  obtain ⟨t1, xs1, i1, o1⟩ := h1
  obtain ⟨t2, xs2, i2, o2⟩ := h2
  refine ⟨y, x1, x2, rfl, .inr ⟨C, t1, t2, xs1, xs2, hC, ok, fan, hT, i1, i2, fun _ => e, fun z => ?_, fun gv hv H' e1 e2 e3 e4 l1 l2 => ?_⟩⟩
  · rw [o1] at z
    cases z
  · rw [e1, e3, okRd_of gv l1] at o1
    cases o1
theorem cased_bad2 {ga : Addr} {gv : List Rd} (hC : CircAt H y C) (ok : C.ok) (fan : fanG C.gates ≤ 4000) (hT : TabsG TT H) (hg : H ga = some (.tup (gv.map rdV))) (lg : gv.length = C.ni) (h2 : ∃ t xs, ItemsV K H x2 t xs ∧ okRd t xs C.regs.length = false) (e : ∀ H', Ex TT H H' → E (.ref CH) none H') : spCased K TT CC CG CH fin [y, .ref ga, x2] H Q E := by
  obtain ⟨t2, xs2, i2, o2⟩ := h2
  refine ⟨y, .ref ga, x2, rfl, .inr ⟨C, "tuple", t2, gv.map rdV, xs2, hC, ok, fan, hT, items_rds hg, i2, fun z => ?_, fun _ _ => e, fun gv' hv H' e1 e2 e3 e4 l1 l2 => ?_⟩⟩
  · rw [okRd_of gv lg] at z
    cases z
  · rw [e2, e4, okRd_of hv l2] at o2
    cases o2
end
end K02

set_option Elab.async false
set_option linter.all false
set_option maxRecDepth 100000
set_option maxHeartbeats 4000000
/-! The law. -/
namespace K02
open PySem PySem.Spec L2
open PyProof.Rows GenW GxR EZ TK CE LamX
abbrev sLaw : Stmt := top 60 -- law
abbrev nLaw3 : List Str := ["script", "state", "turn", "circuit", "given", "held", "due", "told", "more", "rest", "odd", "bad", "wrong", "work", "one", "other", "item"]
theorem scLaw : FnScope nLaw3 ["script"] (defScope sLaw) := ⟨rfl, rfl, rfl, by decide +kernel, rfl, by decide +kernel, by decide +kernel⟩
/-- held=.., given=.., circuit=.. as the def's three parameters -/
def kwC {α : Type} : List α → List α → List α
  | [], [a, b, c] => [c, b, a]
  | _, _ => []
/-- where the law's helpers stand -/
structure LawF3 (P : Program) (w : World) (K : PySem.W.Frag) (mg : Str → Option Value) (base : Heap) (TT : List Addr) (CC CG CH CS : Addr) : Prop where
  begun : Cal P w K mg base CX0 1 "_law_begun" ["script"] (spBegun K)
  draw : Cal P w K mg base CX0 1 "_law_draw" ["state", "size_here"] spDraw
  pick : Cal P w K mg base CX0 2 "_law_pick" ["state", "several"] (spPick K)
  circ : Cal P w K mg base CX0 4 "_law_circuit" ["state", "most", "branches"] spLCirc
  caseR : Cal P w K mg base CX0 3 "_law_case_readings" ["state", "circuit"] spCaseR
  sure : Cal P w K mg base CX0 6 "_law_sure" ["circuit", "given", "held"] (spLSure K)
  byby : Cal P w K mg base CX0 6 "_law_by_and_by" ["state", "circuit", "given", "held"] (spByBy K)
  agree : Cal P w K mg base CX0 6 "_law_agree" ["circuit", "given", "held", "readings"] (spAgree K)
  allAg : Cal P w K mg base CX0 7 "_law_all_agreeing" ["circuit", "given", "held"] (spAllAg K)
  badR : Cal P w K mg base CX0 3 "_law_bad_readings" ["state", "size"] spBadR
  chain : Cal P w K mg base CX0 12 "_law_chain_right" ["state"] (spChain TT)
  sr : ∃ f fd, FnOk P w K mg base (L2.CX P w) 11 f fd ["circuit", "given", "held"] (spCased K TT CC CG CH finSure) ∧ PySem.W.keepIn K (.ref f) = true ∧ Binds K fd ["circuit", "given", "held"] [] ∧ mg "sure_readings" = some (.ref f) ∧ KBinds K fd ["circuit", "given", "held"] ["held", "given", "circuit"] kwC kwC
  iw : ∃ f fd, FnOk P w K mg base (L2.CX P w) 11 f fd ["circuit", "given", "held"] (spCased K TT CC CG CH finWhole) ∧ PySem.W.keepIn K (.ref f) = true ∧ Binds K fd ["circuit", "given", "held"] [] ∧ mg "is_whole" = some (.ref f) ∧ KBinds K fd ["circuit", "given", "held"] ["held", "given", "circuit"] kwC kwC
  caught : ∃ g fd, Fun K "_law_caught" "_law_caught" sCaught g fd ∧ PySem.W.keepIn K (.ref g) = true ∧ Binds K fd ["work"] [] ∧ mg "_law_caught" = some (.ref g)
  gS : mg "RestError" = some (.ref CS)
  gC : mg "BadCircuit" = some (.ref CC)
  gG : mg "BadGiven" = some (.ref CG)
  gH : mg "BadHeld" = some (.ref CH)
  eC : PySem.W.exmOne K (.ref CC) (.ref CS) = some true
  eG : PySem.W.exmOne K (.ref CG) (.ref CS) = some true
  eH : PySem.W.exmOne K (.ref CH) (.ref CS) = some true
  cC : ExcC K CC
  cG : ExcC K CG
  cH : ExcC K CH
  iC : PySem.W.kitOne K (.ref CC) (.ref CC) = some true
  iG : PySem.W.kitOne K (.ref CG) (.ref CG) = some true
  iH : PySem.W.kitOne K (.ref CH) (.ref CH) = some true
section
variable {P : Program} {w : World} {K : PySem.W.Frag} {mg : Str → Option Value} {base : Heap}
theorem if_int {b : Bool} {i j : Int} {σ : L2.St} {H : Hp} {Q : VK} (h : ∀ k : Int, (k = i ∨ k = j) → Q (.int k) H) : if b = true then tC (.int i) σ H Q else tC (.int j) σ H Q := by
  cases b with
  | true => exact h _ (.inl rfl)
  | false => exact h _ (.inr rfl)
theorem ne_self (z : Str) : (!decide (V.str z = V.str z)) = false := by simp
theorem get_rd {F : List Rd} {i : Nat} {x : V} (h : (F.map rdV)[i]? = some x) : ∃ r, F[i]? = some r ∧ x = rdV r := by
  rw [List.getElem?_map] at h
  cases e : F[i]? with
  | none =>
    rw [e] at h
    cases h
  | some r =>
    rw [e] at h
    exact ⟨r, rfl, (Option.some.inj h).symm⟩
theorem and_none {σ : L2.St} {H : Hp} {R : Bool → Hp → Prop} {a b : Rd} (l : le1 a b) (h1 : σ[14]? = some (some (rdV a))) (h2 : σ[15]? = some (some (rdV b))) (q : R false H) :
    tAnd (tTest (tOp (fun x y H Q => y = V.non ∧ Q (V.bl !decide (x = V.non)) H) (tVar 14) (tC V.non))) (tTest (tOp rNe (tVar 14) (tVar 15))) σ H R := by
  refine ⟨_, h1, rfl, _, rfl, ?_⟩
  cases a with
  | none => exact iteF q
  | some x =>
    have n : decide (rdV (some x) = V.non) = false := by cases x <;> rfl
    rw [n]
    refine iteT ⟨_, h1, _, h2, ?_, _, rfl, ?_⟩
    · rcases l with l | l
      · cases l
      · rw [← l]
        cases x <;> rfl
    · rcases l with l | l
      · cases l
      · have e : (!decide (rdV (some x) = rdV b)) = false := by rw [l]; simp
        rw [e]
        exact q
/-- a list at D of readings that have no fewer bits -/
def DM (gv : List Rd) (st lg cl : Addr) (H1 : Hp) (D : Addr) (t i : Nat) (Hx : Hp) : Prop := ∃ ms : List Rd, Paired le1 (gv.take i) ms ∧ Hx D = some (.lst (ms.map rdV)) ∧ StOk Hx st lg cl (t + 2 * i) ∧ But st lg H1 Hx
theorem DM.zero {gv : List Rd} {st lg cl : Addr} {H1 : Hp} {D : Addr} {t : Nat} (nD : H1 D = none) (S : StOk H1 st lg cl t) : DM gv st lg cl H1 D t 0 (L2.upd H1 D (.lst [])) :=
  ⟨[], .nil, upd_same, S.keep (same_new nD), But.of (same_new nD)⟩
theorem DM.push {gv : List Rd} {st lg cl : Addr} {H1 Hx H4 : Hp} {D : Addr} {t i t1 : Nat} {y : V} {r m : Rd} (nD : H1 D = none) (S : StOk H1 st lg cl t1) (d : DM gv st lg cl H1 D t i Hx) (hr : gv[i]? = some r) (hi : i < 16000) (U : But st lg Hx H4) (S4 : StOk H4 st lg cl (t + 2 * (i + 1))) (hy : y = rdV m) (l : le1 r m) :
    ∃ acc, H4 D = some (.lst acc) ∧ acc.length < sizeLine ∧ DM gv st lg cl H1 D t (i + 1) (L2.upd H4 D (.lst (acc ++ [y]))) := by
  obtain ⟨ms, pm, e, Sx, Ux⟩ := d
  have nn := But.st_new (o := .tup []) S nD
  have n3 := S.cl_ne nD
  have e4 := U _ _ e nn.1 nn.2
  have lm := Paired.length pm
  refine ⟨_, e4, ?_, ms ++ [m], ?_, ?_, S4.upd nn.1 nn.2 n3, fun b o eb m1 m2 => ?_⟩
  · rw [List.length_map, ← lm, List.length_take, sizeLine_eq]
    omega
  · rw [take_snoc hr]
    exact paired_snoc pm l
  · rw [upd_same, List.map_append, hy]
    rfl
  · rw [upd_ne (ne_of_none eb nD)]
    exact U _ _ (Ux _ _ eb m1 m2) m1 m2
theorem fle_of {F G : List Rd} (h : Paired le1 F G) : FLe F G := by
  refine ⟨Paired.length h, ?_⟩
  induction h with
  | nil => exact fun i => le1.refl _
  | cons r t ih =>
    intro i
    cases i with
    | zero => exact r
    | succ i => exact ih i
theorem DM.all {gv : List Rd} {st lg cl : Addr} {H1 Hx : Hp} {D : Addr} {t i : Nat} (d : DM gv st lg cl H1 D t i Hx) (hi : gv.length = i) : ∃ ms : List Rd, FLe gv ms ∧ Hx D = some (.lst (ms.map rdV)) ∧ StOk Hx st lg cl (t + 2 * i) ∧ But st lg H1 Hx := by
  obtain ⟨ms, pm, e, Sx, Ux⟩ := d
  rw [← hi, List.take_length] at pm
  exact ⟨ms, fle_of pm, e, Sx, Ux⟩
def spLaw3 (K : PySem.W.Frag) (TT : List Addr) (Pl : Addr) : Sp := fun vs H Q _ => ∃ (a : Addr) (ns : List Int), vs = [.ref a] ∧ SqL K H a (ns.map V.int) ∧ ns.length ≤ 63 ∧ TabsG TT H ∧ LamX.TabS H Pl lawQ ∧ Pl ∉ TT ∧ ∀ H', Q (.bl true) H'
theorem ok_law3 {TT : List Addr} {f c Pl CC CG CH CS : Addr} {fd : FuncData} (F : Fun K "law" "law" sLaw f fd) (hc : fd.code = .ref c) (TB : LamX.TabB base mg c Pl) (L : LawF3 P w K mg base TT CC CG CH CS)
    (mrange : mg "range" = none) (mmin : mg "min" = none) (mlen : mg "len" = none) (mrp : mg "repr" = none) (mlist : mg "list" = none) (mtuple : mg "tuple" = none) (mzip : mg "zip" = none) (mi : mg "isinstance" = none) : GE.FnG P w K mg base CX0 14 f fd ["script"] (spLaw3 K TT Pl) := by
  obtain ⟨fB, fdB, GB, kB, bB, mB⟩ := L.begun
  obtain ⟨fD, fdD, GD, kD, bD, mD⟩ := L.draw
  obtain ⟨fK, fdK, GK, kK, bK, mK⟩ := L.pick
  obtain ⟨fI, fdI, GI, kI, bI, mI⟩ := L.circ
  obtain ⟨fR, fdR, GR, kR, bR, mR⟩ := L.caseR
  obtain ⟨fS, fdS, GS, kS, bS, mS⟩ := L.sure
  obtain ⟨fY, fdY, GY, kY, bY, mY⟩ := L.byby
  obtain ⟨fA, fdA, GA, kA, bA, mA⟩ := L.agree
  obtain ⟨fG, fdG, GG, kG, bG, mG⟩ := L.allAg
  obtain ⟨fW, fdW, GW, kW, bW, mW⟩ := L.badR
  obtain ⟨fH, fdH, GH, kH, bH, mH⟩ := L.chain
  obtain ⟨fSR, fdSR, GSR, kSR, bSR, mSR, hSR⟩ := L.sr
  obtain ⟨fIW, fdIW, GIW, kIW, bIW, mIW, hIW⟩ := L.iw
  obtain ⟨fC, fdC, FC, kC, bC, mC⟩ := L.caught
  obtain ⟨oc, od, kV, doc, pm, an, cdv, ct, osl, rfl, lkC, hcdC⟩ := FC.ex
  obtain ⟨Wk, eWk⟩ : ∃ Wk : Addr → Sp → Prop, Wk = fun f sp => (f = fSR ∧ sp = spCased K TT CC CG CH finSure) ∨ (f = fIW ∧ sp = spCased K TT CC CG CH finWhole) := ⟨_, rfl⟩
  have hWk : ∀ f sp, Wk f sp → ∃ (fd : FuncData) (ps : List Str), FnOk P w K mg base (L2.CX P w) 11 f fd ps sp ∧ PySem.W.keepIn K (.ref f) = true ∧ Binds K fd ps [] := fun f sp h => by
    rw [eWk] at h
    rcases h with ⟨rfl, rfl⟩ | ⟨rfl, rfl⟩
    · exact ⟨_, _, GSR, kSR, bSR⟩
    · exact ⟨_, _, GIW, kIW, bIW⟩
  refine okGN F hc scLaw (fun vs H Q E h => ?_) (fun A outer s H vs Q E hg hr h => ?_)
  · obtain ⟨a, ns, rfl, _⟩ := h
    rfl
  · obtain ⟨a, ns, rfl, hS, hl, hT, hP, hPT, q⟩ := h
    have hu64 := hr.units
    refine ⟨_, (pss_cons (ps_set (i := 1) scLaw.nd rfl (Or.inr rfl) (pe_call GB (hr.mono (by decide)) (by rfl) mB kB bB .nil pass0 (pa_cons (pv 0) pa_nil)))
      (pss_cons (ps_for PassesOwn.never rfl (pi_range1 (by rfl) mrange (pa_cons (pe_op op_add pe_int (pe_callB (call_min2 rfl) (by rfl) mmin (by decide +kernel) (pa_cons (pe_callB call_len_seq (by rfl) mlen PySem.boot_len (pa_cons (pv 0) pa_nil)) (pa_cons pe_int pa_nil)))) pa_nil)) (pg_name (i := 2) scLaw.nd rfl (Or.inl rfl))
        (pss_cons (ps_set (i := 3) scLaw.nd rfl (Or.inr rfl) (pe_call GI (hr.mono (by decide)) (by rfl) mI kI bI .nil pass0 (pa_cons (pv 1) (pa_cons (pe_ifExp (pt_cmpR op_eq (pe_op op_mod (pv 2) pe_int) pe_int (nomark _)) pe_int pe_int) (pa_cons pe_int pa_nil)))))
        (pss_cons (ps_asg (pe_call GR (hr.mono (by decide)) (by rfl) mR kR bR .nil pass0 (pa_cons (pv 1) (pa_cons (pv 3) pa_nil))) (pg_tup rfl (pgs_cons (pg_name (i := 4) scLaw.nd rfl (Or.inr rfl)) (pgs_cons (pg_name (i := 5) scLaw.nd rfl (Or.inl rfl)) pgs_nil))))
        (pss_cons (ps_set (i := 6) scLaw.nd rfl (Or.inl rfl) (pe_callTy call_tuple_of (by rfl) mtuple (by decide +kernel) (pa_cons (pe_ix (r := rIxT K) ix_tup (pe_call GS (hr.mono (by decide)) (by rfl) mS kS bS .nil pass0 (pa_cons (pv 3) (pa_cons (pv 4) (pa_cons (pv 5) pa_nil)))) pe_int (fun _ _ => rfl)) pa_nil)))
        (pss_cons (ps_if (pt_cmpR op_ne (pe_callB (RP.call_reprD hg hu64) (by rfl) mrp (by decide +kernel) (pa_cons (pe_lst (pa_cons (pe_call GSR (hr.mono (by decide)) (by rfl) mSR kSR bSR .nil passNone (pa_cons (pv 3) (pa_cons (pv 4) (pa_cons (pv 5) pa_nil)))) (pa_cons (pe_callK0 GSR (hr.mono (by decide)) (by rfl) mSR kSR hSR passNone (pk_cons (pv 5) (pk_cons (pv 4) (pk_cons (pv 3) pk_nil)))) pa_nil))) pa_nil)) (pe_callB (RP.call_reprD hg hu64) (by rfl) mrp (by decide +kernel) (pa_cons (pe_lst (pa_cons (pv 6) (pa_cons (pv 6) pa_nil))) pa_nil)) (nomark _)) (pss_one (ps_ret pe_bl)) pss_nil)
        (pss_cons (ps_if (pt_cmpR op_ne (pe_callB (RP.call_reprD hg hu64) (by rfl) mrp (by decide +kernel) (pa_cons (pe_lst (pa_cons (pe_call GIW (hr.mono (by decide)) (by rfl) mIW kIW bIW .nil passNone (pa_cons (pv 3) (pa_cons (pv 4) (pa_cons (pv 5) pa_nil)))) (pa_cons (pe_callK0 GIW (hr.mono (by decide)) (by rfl) mIW kIW hIW passNone (pk_cons (pv 5) (pk_cons (pv 4) (pk_cons (pv 3) pk_nil)))) pa_nil))) pa_nil)) (pe_callB (RP.call_reprD hg hu64) (by rfl) mrp (by decide +kernel) (pa_cons (pe_op op_rep (pe_lst (pa_cons (pe_cmpR op_notIn_seq pe_non (pv 6) (by rfl)) pa_nil)) pe_int) pa_nil)) (nomark _)) (pss_one (ps_ret pe_bl)) pss_nil)
        (pss_cons (ps_if (pw_or (pt_cmpR (op_neD hu64) (pe_call GY (hr.mono (by decide)) (by rfl) mY kY bY .nil pass0 (pa_cons (pv 1) (pa_cons (pv 3) (pa_cons (pv 4) (pa_cons (pv 5) pa_nil))))) (pe_callTy call_list_of (by rfl) mlist (by decide +kernel) (pa_cons (pv 6) pa_nil)) (nomark _)) (pw_or1 (pt_not (pt_val (pe_call GA (hr.mono (by decide)) (by rfl) mA kA bA .nil pass0 (pa_cons (pv 3) (pa_cons (pv 4) (pa_cons (pv 5) (pa_cons (pv 6) pa_nil))))))))).pt (pss_one (ps_ret pe_bl)) pss_nil)
        (pss_cons (ps_join (ps_if (pt_cmpR op_lt (pe_callB call_len_seq (by rfl) mlen PySem.boot_len (pa_cons (pe_ix (r := rIxT K) ix_tup (pv 3) pe_int (fun _ _ => rfl)) pa_nil)) pe_int (nomark _)) (pss_one (ps_for PassesOwn.never rfl (pi_list (pe_call GG (hr.mono (by decide)) (by rfl) mG kG bG .nil pass0 (pa_cons (pv 3) (pa_cons (pv 4) (pa_cons (pv 5) pa_nil))))) (pg_name (i := 7) scLaw.nd rfl (Or.inl rfl))
            (pss_one (ps_if (pt_cmpR (op_neD hu64) (pe_lc (own := [("one", 14), ("other", 15)]) (g := gTup K 2 (gCons (gName 14) (gCons (gName 15) gNil))) rfl scLaw.nd (RZ.pi_zipA (by rfl) mzip (pa_cons (pv 6) (pa_cons (pv 7) pa_nil))) (blkOk_by (N := nLaw3) (sc := defScope sLaw) (by decide +kernel)) (fun _ _ _ _ _ => (pg_tup rfl (pgs_cons (pg_name (i := 14) scLaw.nd rfl (Or.inl rfl)) (pgs_cons (pg_name (i := 15) scLaw.nd rfl (Or.inl rfl)) pgs_nil)))) (fun _ _ _ _ _ => pts_one (pw_and (pt_cmpR op_notN (pv 14) pe_non (nomark _)) (pw_and1 (pt_cmpR op_ne (pv 14) (pv 15) (nomark _)))).pt) (fun _ _ _ _ _ => pe_int)) (pe_lst pa_nil) (nomark _)) (pss_one (ps_ret pe_bl)) pss_nil)))) pss_nil))
        (pss_cons (ps_set (i := 8) scLaw.nd rfl (Or.inl rfl) (pe_callTy call_tuple_of (by rfl) mtuple (by decide +kernel) (pa_cons (pe_lc (own := [("item", 16)]) (g := gName 16) (tt := tYes) rfl scLaw.nd (pi_tup (pv 4)) (blkOk_by (N := nLaw3) (sc := defScope sLaw) (by decide +kernel)) (fun _ _ _ _ _ => (pg_name (i := 16) scLaw.nd rfl (Or.inl rfl))) (fun _ _ _ _ _ => pts_nil) (fun _ _ _ _ _ => (pe_ifExp (pw_and (pt_cmpR op_isN (pv 16) pe_non (nomark _)) (pw_and1 (pt_cmpR op_eq (pe_call GD (hr.mono (by decide)) (by rfl) mD kD bD .nil pass0 (pa_cons (pv 1) (pa_cons pe_int pa_nil))) pe_int (nomark _)))).pt (pe_call GD (hr.mono (by decide)) (by rfl) mD kD bD .nil pass0 (pa_cons (pv 1) (pa_cons pe_int pa_nil))) (pv 16)))) pa_nil)))
        (pss_cons (ps_set (i := 9) scLaw.nd rfl (Or.inl rfl) (pe_callTy call_tuple_of (by rfl) mtuple (by decide +kernel) (pa_cons (pe_lc (own := [("item", 16)]) (g := gName 16) (tt := tYes) rfl scLaw.nd (pi_tup (pv 5)) (blkOk_by (N := nLaw3) (sc := defScope sLaw) (by decide +kernel)) (fun _ _ _ _ _ => (pg_name (i := 16) scLaw.nd rfl (Or.inl rfl))) (fun _ _ _ _ _ => pts_nil) (fun _ _ _ _ _ => (pe_ifExp (pt_cmpR op_isN (pv 16) pe_non (nomark _)) (pe_call GD (hr.mono (by decide)) (by rfl) mD kD bD .nil pass0 (pa_cons (pv 1) (pa_cons pe_int pa_nil))) (pv 16)))) pa_nil)))
        (pss_cons (ps_if (pt_cmpR (op_neD hu64) (pe_lc (own := [("one", 14), ("other", 15)]) (g := gTup K 2 (gCons (gName 14) (gCons (gName 15) gNil))) rfl scLaw.nd (RZ.pi_zipA (by rfl) mzip (pa_cons (pv 6) (pa_cons (pe_call GSR (hr.mono (by decide)) (by rfl) mSR kSR bSR .nil passNone (pa_cons (pv 3) (pa_cons (pv 8) (pa_cons (pv 9) pa_nil)))) pa_nil))) (blkOk_by (N := nLaw3) (sc := defScope sLaw) (by decide +kernel)) (fun _ _ _ _ _ => (pg_tup rfl (pgs_cons (pg_name (i := 14) scLaw.nd rfl (Or.inl rfl)) (pgs_cons (pg_name (i := 15) scLaw.nd rfl (Or.inl rfl)) pgs_nil)))) (fun _ _ _ _ _ => pts_one (pw_and (pt_cmpR op_notN (pv 14) pe_non (nomark _)) (pw_and1 (pt_cmpR op_ne (pv 14) (pv 15) (nomark _)))).pt) (fun _ _ _ _ _ => pe_int)) (pe_lst pa_nil) (nomark _)) (pss_one (ps_ret pe_bl)) pss_nil)
        (pss_cons (ps_asg (pe_tup (pa_cons (pe_call GK (hr.mono (by decide)) (by rfl) mK kK bK .nil pass0 (pa_cons (pv 1) (pa_cons (pe_lst (pa_cons pe_non (pa_cons pe_int (pa_cons (pe_tup (pa_cons pe_int (pa_cons (pe_tup pa_nil) (pa_cons (pe_tup pa_nil) pa_nil)))) (pa_cons (pe_callTy call_list_of (by rfl) mlist (by decide +kernel) (pa_cons (pv 3) pa_nil)) pa_nil))))) pa_nil))) (pa_cons (pe_call GW (hr.mono (by decide)) (by rfl) mW kW bW .nil pass0 (pa_cons (pv 1) (pa_cons (pe_ix (r := rIxT K) ix_tup (pv 3) pe_int (fun _ _ => rfl)) pa_nil))) (pa_cons (pe_call GW (hr.mono (by decide)) (by rfl) mW kW bW .nil pass0 (pa_cons (pv 1) (pa_cons (pe_callB call_len_seq (by rfl) mlen PySem.boot_len (pa_cons (pe_ix (r := rIxT K) ix_tup (pv 3) pe_int (fun _ _ => rfl)) pa_nil)) pa_nil))) pa_nil)))) (pg_tup rfl (pgs_cons (pg_name (i := 10) scLaw.nd rfl (Or.inr rfl)) (pgs_cons (pg_name (i := 11) scLaw.nd rfl (Or.inr rfl)) (pgs_cons (pg_name (i := 12) scLaw.nd rfl (Or.inr rfl)) pgs_nil)))))
        (pss_one (ps_for PassesOwn.never rfl (pi_list (pe_lst (pa_cons (pe_glob (v := .ref fSR) (by rfl) mSR rfl) (pa_cons (pe_glob (v := .ref fIW) (by rfl) mIW rfl) pa_nil)))) (pg_name (i := 13) scLaw.nd rfl (Or.inr rfl))
          (pss_cons (ps_if (pt_not (pt_val (pe_callB (call_isCau L.cC) (by rfl) mi (by decide +kernel) (pa_cons (pe_lamP (k := 11) (Ng := nCaught) (by rfl) mC kC lkC hcdC bC scCaught rfl (.inl rfl) (caught_gives L.gS) TB rfl hr (lamS_by (by show lamSB (defScope sLaw) _ = true; decide +kernel)) rfl (fun _ _ _ _ _ => rfl)
            (fun A outer s H E f c' hr2 => pe_callW (i := 13) (E := E) (S := Wk) hWk hr2 rfl (.inr (.inr rfl)) (L2.passes_call (L2.takes_of rfl rfl rfl rfl) (fun _ _ _ _ e => e)) (pa_cons (pv 10) (pa_cons (pv 11) (pa_cons (pv 12) pa_nil))))) (pa_cons (pe_glob (v := .ref CC) (by rfl) L.gC rfl) pa_nil))))) (pss_one (ps_ret pe_bl)) pss_nil)
          (pss_cons (ps_if (pt_not (pt_val (pe_callB (call_isCau L.cG) (by rfl) mi (by decide +kernel) (pa_cons (pe_lamP (k := 11) (Ng := nCaught) (by rfl) mC kC lkC hcdC bC scCaught rfl (.inl rfl) (caught_gives L.gS) TB rfl hr (lamS_by (by show lamSB (defScope sLaw) _ = true; decide +kernel)) rfl (fun _ _ _ _ _ => rfl)
            (fun A outer s H E f c' hr2 => pe_callW (i := 13) (E := E) (S := Wk) hWk hr2 rfl (.inr (.inr rfl)) (L2.passes_call (L2.takes_of rfl rfl rfl rfl) (fun _ _ _ _ e => e)) (pa_cons (pv 3) (pa_cons (pv 11) (pa_cons (pv 12) pa_nil))))) (pa_cons (pe_glob (v := .ref CG) (by rfl) L.gG rfl) pa_nil))))) (pss_one (ps_ret pe_bl)) pss_nil)
          (pss_one (ps_if (pt_not (pt_val (pe_callB (call_isCau L.cH) (by rfl) mi (by decide +kernel) (pa_cons (pe_lamP (k := 11) (Ng := nCaught) (by rfl) mC kC lkC hcdC bC scCaught rfl (.inl rfl) (caught_gives L.gS) TB rfl hr (lamS_by (by show lamSB (defScope sLaw) _ = true; decide +kernel)) rfl (fun _ _ _ _ _ => rfl)
            (fun A outer s H E f c' hr2 => pe_callW (i := 13) (E := E) (S := Wk) hWk hr2 rfl (.inr (.inr rfl)) (L2.passes_call (L2.takes_of rfl rfl rfl rfl) (fun _ _ _ _ e => e)) (pa_cons (pv 3) (pa_cons (pv 4) (pa_cons (pv 12) pa_nil))))) (pa_cons (pe_glob (v := .ref CH) (by rfl) L.gH rfl) pa_nil))))) (pss_one (ps_ret pe_bl)) pss_nil))))))))))))))))))
      (pss_one (ps_ret (pe_call GH (hr.mono (by decide)) (by rfl) mH kH bH .nil pass0 (pa_cons (pv 1) pa_nil)))))), ?_⟩
    -- begun
    refine ⟨_, rfl, a, ns, rfl, hS, hl, fun st lg cl H1 S1 k1 n1 n2 n3 => ?_⟩
    refine ⟨_, rfl, a, _, rfl, .inl (k1.seq hS), ⟨_, _, rfl, _, _, rfl, rfl, _, rfl, ?_, ?_, ?_⟩⟩
    · show -(2 ^ 62) ≤ (3 : Int) + (if (5 : Int) < ((ns.map V.int).length : Int) then 5 else ((ns.map V.int).length : Int))
      split <;> omega
    · show (3 : Int) + (if (5 : Int) < ((ns.map V.int).length : Int) then 5 else ((ns.map V.int).length : Int)) < 2 ^ 62
      split <;> omega
    have hM : (3 + (if (5 : Int) < ((ns.map V.int).length : Int) then 5 else ((ns.map V.int).length : Int))).toNat ≤ 8 := by
      split <;> omega
    generalize (3 + (if (5 : Int) < ((ns.map V.int).length : Int) then 5 else ((ns.map V.int).length : Int))).toNat = M at hM
    refine for_range (fun i σ H2 => ∃ y2 y3 y4 y5 y6 y7 y8 y9 y10 y11 y12 y13 : Option V, σ = [some (.ref a), some (.ref st), y2, y3, y4, y5, y6, y7, y8, y9, y10, y11, y12, y13, none, none, none] ∧ Between st lg cl Pl TT H2 (1000 * i)) ⟨none, none, none, none, none, none, none, none, none, none, none, none, rfl, S1, (Ex.same k1).tabs hT, hP.ext k1⟩ (fun i σ H2 hi hh => ?turn) (fun σ H2 hh => ?done)
    case done =>
      obtain ⟨y2, y3, y4, y5, y6, y7, y8, y9, y10, y11, y12, y13, rfl, B⟩ := hh
      exact ⟨_, rfl, st, lg, cl, _, rfl, by omega, B.s, B.tt, q⟩
    case turn =>
      obtain ⟨y2, y3, y4, y5, y6, y7, y8, y9, y10, y11, y12, y13, rfl, B2⟩ := hh
      -- a circuit
      refine ⟨_, rfl, _, rfl, _, _, rfl, rfl, (by decide : (0 : Int) < 2), rfl, _, rfl, ?_⟩
      refine if_int fun k hk => ?_
      obtain ⟨most, rfl, m0, m7⟩ : ∃ most : Nat, k = (most : Int) ∧ 0 < most ∧ most ≤ 7 := by
        rcases hk with rfl | rfl
        · exact ⟨4, rfl, by decide, by decide⟩
        · exact ⟨7, rfl, by decide, by decide⟩
      refine ⟨st, lg, cl, 1000 * i, most, 14, rfl, m0, by omega, by decide, by omega, B2.s, fun y C H3 hC okC ni3 nr2 ng1 ngm _ fan14 S3 U3 => ?_⟩
      have B3 := B2.but S3 U3
      clear U3 S3
      -- a case
      refine ⟨_, rfl, _, rfl, st, lg, cl, _, y, C, rfl, hC, okC, by omega, B3.s, fun T0 g h gv hv H4 eT0 eg eh lgv lhv S4 U4 => ?_⟩
      have B4 := B3.but S4 U4
      have hC4 := hC.keep (U4.tup B3.s)
      refine ⟨T0, _, rfl, .inl (.inl eT0), rfl, _, _, rfl, _, _, rfl, rfl, ?_⟩
      clear hC S4 U4 B3 eT0
      -- what is due
      refine ⟨_, rfl, _, rfl, _, rfl, y, C, g, h, gv, hv, rfl, hC4, okC, lgv, lhv, .inl (.inl eg), .inl (.inl eh), fun T1 r1 l1 us H5 s5 _ _ _ eT1 er1 _ _ => ⟨T1, _, 0, .ref r1, rfl, rfl, .inl (.inl eT1), rfl, r1, _, rfl, .inl ⟨.inl (.inl er1), fun du ndu => ?_⟩⟩⟩
      have s46 := s5.trans (same_new (o := .tup ((sureF C.gates gv hv).map rdV)) ndu)
      have edu : (L2.upd H5 du (.tup ((sureF C.gates gv hv).map rdV))) du = some (.tup ((sureF C.gates gv hv).map rdV)) := upd_same
      generalize L2.upd H5 du (.tup ((sureF C.gates gv hv).map rdV)) = H6 at s46 edu
      have hC6 := hC4.keep (.of s46)
      have eg6 := s46 _ _ eg
      have eh6 := s46 _ _ eh
      have B6 := B4.same s46
      clear hC4 eg eh B4 s46 s5 eT1 er1 ndu
      have lF : (sureF C.gates gv hv).length ≤ 100 := by
        rw [sureF_len]
        omega
      have fan4 : fanG C.gates ≤ 4000 := by omega
      -- the sure readings, by place and by name
      refine ⟨_, rfl, _, rfl, _, rfl, ?_⟩
      dsimp only [tNil]
      show spCased K TT CC CG CH finSure [y, .ref g, .ref h] H6 _ _
      refine cased_ok hC6 okC fan4 B6.tt eg6 eh6 lgv lhv fun H7 x7 => ?_
      intro q1 H8 s8 _ eq1
      have B8 := (B6.ex hPT x7).same s8
      have k68 : ExtN H6 H8 := fun b o e n => s8 _ _ (x7.extN B6.tt _ _ e n)
      have tk68 : TupKeep H6 H8 := fun b o e => k68 _ _ e (fun _ z => by cases z)
      refine ⟨_, rfl, _, rfl, _, rfl, ?_⟩
      dsimp only [tNil]
      show spCased K TT CC CG CH finSure [y, .ref g, .ref h] H8 _ _
      refine cased_ok (hC6.keep tk68) okC fan4 B8.tt (tk68 _ _ eg6) (tk68 _ _ eh6) lgv lhv fun H9 x9 => ?_
      intro q2 H10 s10 _ eq2
      have B10 := (B8.ex hPT x9).same s10
      have k810 : ExtN H8 H10 := fun b o e n => s10 _ _ (x9.extN B8.tt _ _ e n)
      have tk810 : TupKeep H8 H10 := fun b o e => k810 _ _ e (fun _ z => by cases z)
      refine ⟨(by show 2 ≤ sizeLine; decide), fun L1 nL1 => ?_⟩
      have sa := same_new (o := .lst [.ref q1, .ref q2]) nL1
      show RP.rRepr K [.ref L1] _ _
      refine repr_two lF upd_same (sa _ _ (tk810 _ _ eq1)) (sa _ _ eq2) ?_
      have tk611 := (tk68.trans tk810).trans (TupKeep.of sa)
      have B11 := B10.same sa
      generalize L2.upd H10 L1 (.lst [.ref q1, .ref q2]) = H11 at tk611 B11
      clear sa nL1 eq2 eq1 x9 x7 s8 s10 k68 tk68 k810 tk810 B8 B10
      refine ⟨_, rfl, _, rfl, (by show 2 ≤ sizeLine; decide), fun LL nLL => ?_⟩
      have sb := same_new (o := .lst [.ref du, .ref du]) nLL
      dsimp only [tNil]
      show RP.rRepr K [.ref LL] _ _
      refine repr_two lF upd_same (sb _ _ (tk611 _ _ edu)) (sb _ _ (tk611 _ _ edu)) ?_
      have tk612 := tk611.trans (TupKeep.of sb)
      have B12 := B11.same sb
      generalize L2.upd H11 LL (.lst [.ref du, .ref du]) = H12 at tk612 B12
      clear sb nLL tk611 B11
      refine ⟨rfl, _, rfl, ?_⟩
      rw [ne_self]
      refine iteF ?_
      have hC12 := hC6.keep tk612
      have eg12 := tk612 _ _ eg6
      have eh12 := tk612 _ _ eh6
      have edu12 := tk612 _ _ edu
      clear hC6 eg6 eh6 edu tk612 B6
      -- whole, by place and by name
      refine ⟨_, rfl, _, rfl, _, rfl, ?_⟩
      dsimp only [tNil]
      show spCased K TT CC CG CH finWhole [y, .ref g, .ref h] H12 _ _
      refine cased_ok hC12 okC fan4 B12.tt eg12 eh12 lgv lhv fun H13 x13 => ?_
      intro H14 s14
      have B14 := (B12.ex hPT x13).same s14
      have tk14 : TupKeep H12 H14 := fun b o e => s14 _ _ (x13.extN B12.tt _ _ e (fun _ z => by cases z))
      refine ⟨_, rfl, _, rfl, _, rfl, ?_⟩
      dsimp only [tNil]
      show spCased K TT CC CG CH finWhole [y, .ref g, .ref h] H14 _ _
      refine cased_ok (hC12.keep tk14) okC fan4 B14.tt (tk14 _ _ eg12) (tk14 _ _ eh12) lgv lhv fun H15 x15 => ?_
      intro H16 s16
      have B16 := (B14.ex hPT x15).same s16
      have tk16 : TupKeep H12 H16 := tk14.trans fun b o e => s16 _ _ (x15.extN B14.tt _ _ e (fun _ z => by cases z))
      refine ⟨(by show 2 ≤ sizeLine; decide), fun L3 nL3 => ?_⟩
      show RP.rRepr K [.ref L3] _ _
      refine repr_bb upd_same ?_
      have sc := same_new (o := .lst [.bl (!(sureF C.gates gv hv).any fun r => r.isNone), .bl (!(sureF C.gates gv hv).any fun r => r.isNone)]) nL3
      have tk17 := tk16.trans (TupKeep.of sc)
      have B17 := B16.same sc
      generalize L2.upd H16 L3 _ = H17 at tk17 B17
      clear sc nL3 tk16 B16 tk14 B14 x13 x15 s14 s16
      -- twice
      refine ⟨_, rfl, du, (sureF C.gates gv hv).map rdV, rfl, .inr (.inl (.inl (tk17 _ _ edu12))), rfl, rd_flat _, ?_⟩
      rw [rd_inN, if_pos (show true = true from rfl)]
      refine ⟨(by show 1 ≤ sizeLine; decide), fun LA nLA => ⟨LA, _, [.bl (!(sureF C.gates gv hv).any fun r => r.isNone)], rfl, rfl, upd_same, by decide, by decide, ?_, fun LB nLB => ?_⟩⟩
      · show 1 * (2 : Int).toNat ≤ sizeLine
        rw [sizeLine_eq]
        decide
      dsimp only [tNil]
      show RP.rRepr K [.ref LB] _ _
      refine repr_bb (b := !(sureF C.gates gv hv).any fun r => r.isNone) (by rw [upd_same]; rfl) ?_
      have sd := (same_new (o := .lst [.bl (!(sureF C.gates gv hv).any fun r => r.isNone)]) nLA).trans (same_new (o := .lst (List.replicate (2 : Int).toNat [V.bl (!(sureF C.gates gv hv).any fun r => r.isNone)]).flatten) nLB)
      have tk18 := tk17.trans (TupKeep.of sd)
      have B18 := B17.same sd
      generalize L2.upd (L2.upd H17 LA _) LB _ = H18 at tk18 B18
      clear sd nLA nLB tk17 B17
      refine ⟨rfl, _, rfl, ?_⟩
      rw [ne_self]
      refine iteF ?_
      have hC18 := hC12.keep tk18
      have eg18 := tk18 _ _ eg12
      have eh18 := tk18 _ _ eh12
      have edu18 := tk18 _ _ edu12
      clear hC12 eg12 eh12 edu12 tk18 B12
      -- by and by; agreeing
      refine ⟨_, rfl, _, rfl, _, rfl, _, rfl, st, lg, cl, _, y, C, g, h, gv, hv, rfl, hC18, okC, by omega, lgv, lhv, eg18, eh18, by omega, B18.s, fun r2 H19 er2 _ _ S19 U19 => ?_⟩
      have gg : C.gates.length * (C.gates.length + 1) ≤ 7 * 8 := Nat.mul_le_mul (by omega) (by omega)
      have B19 := B18.but (S19.up (t' := 1000 * i + 540) (by omega)) U19
      clear gg
      have tk19 := U19.tup B18.s
      refine ⟨_, rfl, du, _, rfl, .inr (.inl (.inl (tk19 _ _ edu18))), fun LC nLC => ?_⟩
      have se := same_new (o := .lst ((sureF C.gates gv hv).map rdV)) nLC
      refine ⟨.list ((sureF C.gates gv hv).map rdD), .list ((sureF C.gates gv hv).map rdD), .lst (.inl (.inl (se _ _ er2))) (dp_rds _), .lst (.inl (.inl upd_same)) (dp_rds _), layN_shaped (layN_list (lay_rds _)) (by decide), layN_shaped (layN_list (lay_rds _)) (by decide), ?_⟩
      have eq1 : PyData.eqv (.list ((sureF C.gates gv hv).map rdD)) (.list ((sureF C.gates gv hv).map rdD)) = true := by
        show PyData.eqvAll _ _ = true
        rw [eqv_rds, decide_eq_true rfl]
      rw [eq1]
      refine ⟨_, rfl, iteF ?_⟩
      have agr : AgrAll C.gates gv hv (sureF C.gates gv hv) := fun i hi => sureF_agree C.gates gv hv hi
      have tk20 : TupKeep H18 _ := tk19.trans (TupKeep.of se)
      have B20 := B19.same se
      generalize L2.upd H19 LC (.lst ((sureF C.gates gv hv).map rdV)) = H20 at tk20 B20
      have hC20 := hC18.keep tk20
      have eg20 := tk20 _ _ eg18
      have eh20 := tk20 _ _ eh18
      have edu20 := tk20 _ _ edu18
      clear hC18 eg18 eh18 edu18 tk20 tk19 B19 B18 se nLC er2 S19 U19 eq1
      refine ⟨_, rfl, _, rfl, _, rfl, _, rfl, y, C, g, h, du, gv, hv, sureF C.gates gv hv, rfl, hC20, okC, lgv, lhv, sureF_len _ _ _, .inl (.inl eg20), .inl (.inl eh20), .inl (.inl edu20), fun b H21 s21 hb => ?_⟩
      obtain rfl : b = true := hb.mpr agr
      refine ⟨_, rfl, iteF ?_⟩
      have hC21 := hC20.keep (.of s21)
      have eg21 := s21 _ _ eg20
      have eh21 := s21 _ _ eh20
      have edu21 := s21 _ _ edu20
      have B21 := B20.same s21
      clear hC20 eg20 eh20 edu20 B20 s21 hb
      obtain ⟨ct, ra, gaa, oa, rs, gs, os, ey, ec, era, ega, eoa, hrs, hgs, hos⟩ := id hC21
      subst ey
      have lgs : gs.length = C.gates.length := Paired.length hgs
      have lrs : rs.length = C.regs.length := Paired.length hrs
      -- few gates
      refine ⟨fun σ Hx => ∃ y7 : Option V, σ = [some (.ref a), some (.ref st), some (.int (0 + (i : Int))), some (.ref ct), some (.ref g), some (.ref h), some (.ref du), y7, y8, y9, y10, y11, y12, y13, none, none, none] ∧ Same H21 Hx, ?few, ?_⟩
      case few =>
        refine ⟨_, rfl, ct, _, 2, .ref gaa, rfl, rfl, .inl (.inl ec), rfl, gaa, gs, rfl, .inr (.inl (.inl ega)), ?_⟩
        refine ⟨_, _, rfl, rfl, _, rfl, ite2 (fun e => ?_) (fun _ => ⟨y7, rfl, fun _ _ e => e⟩)⟩
        have hfew : C.gates.length ≤ 4 := by
          have := of_decide_eq_true e
          omega
        refine ⟨_, rfl, _, rfl, _, rfl, .ref ct, C, g, h, gv, hv, rfl, hC21, okC, hfew, lgv, lhv, .inl (.inl eg21), .inl (.inl eh21), fun r3 ys rss H22 s22 nr3 er3 hys hrss => ?_⟩
        have edu22 := s22 _ _ edu21
        refine ⟨r3, rfl, ⟨ys, .inl (.inl er3)⟩, for_list (xs := ys) (fun j σ Hx => ∃ y7 : Option V, σ = [some (.ref a), some (.ref st), some (.int (0 + (i : Int))), some (.ref ct), some (.ref g), some (.ref h), some (.ref du), y7, y8, y9, y10, y11, y12, y13, none, none, none] ∧ Same H22 Hx) ⟨y7, rfl, fun _ _ e => e⟩ (fun j σ Hx _ hh => ?_) (fun j x σ Hx hx hh => ?_) (fun σ Hx hh => ?_)⟩
        · obtain ⟨_, _, sx⟩ := hh
          exact .inl (.inl (sx _ _ er3))
        · obtain ⟨y7', rfl, sx⟩ := hh
          obtain ⟨rs', hrs', t', rfl, et⟩ := pr_get hys hx
          obtain ⟨l', ag'⟩ := hrss rs' (List.mem_of_getElem? hrs')
          have le := agr_sure l' ag'
          refine ⟨_, rfl, _, rfl, du, t', _, _, rfl, .inr ⟨.inl (.inl (sx _ _ edu22)), .inl (.inl (sx _ _ et)), fun D nD => ?_⟩⟩
          refine lc_it (walk_zipT (xs := (sureF C.gates gv hv).map rdV) (ys := rs'.map rdV) (by rw [List.length_map, List.length_map, le.1])) (fun i H1 => Same Hx H1 ∧ H1 D = some (.lst [])) ⟨same_new nD, upd_same⟩ (fun i H1 _ z => ⟨.inl (.inl (z.1 _ _ (sx _ _ edu22))), .inl (.inl (z.1 _ _ (sx _ _ et)))⟩) (fun i x H1 H1' hi ⟨s1, e1⟩ hy => ?_) (fun H1 ⟨s1, e1⟩ => ?_)
          · obtain ⟨T, x1, y1, rfl, nT, rfl, hx1, hy1⟩ := hy
            obtain ⟨ra1, ha1, rfl⟩ := get_rd hx1
            obtain ⟨rb1, hb1, rfl⟩ := get_rd hy1
            have l1 := le.at_ ha1 hb1
            have sT := same_new (o := .tup [rdV ra1, rdV rb1]) nT
            refine ⟨T, _, rfl, .inl (.inl upd_same), rfl, _, _, rfl, _, _, rfl, rfl, rfl, ?_⟩
            refine and_none l1 rfl rfl (iteF ⟨s1.trans sT, sT _ _ e1⟩)
          · refine ⟨Nat.zero_le _, fun p1 np1 => ?_⟩
            have s2 := same_new (o := .lst []) np1
            refine ⟨.list [], .list [], .lst (.inl (.inl (s2 _ _ e1))) .nil, .lst (.inl (.inl upd_same)) .nil, rfl, rfl, _, rfl, iteF ⟨_, rfl, sx.trans (s1.trans s2)⟩⟩
        · obtain ⟨y7', rfl, sx⟩ := hh
          exact ⟨y7', rfl, s22.trans sx⟩
      rintro σ H23 ⟨y7', rfl, s23⟩
      have hC23 := hC21.keep (.of s23)
      have eg23 := s23 _ _ eg21
      have eh23 := s23 _ _ eh21
      have edu23 := s23 _ _ edu21
      have ec23 := s23 _ _ ec
      have era23 := s23 _ _ era
      have B23 := B21.same s23
      clear hC21 eg21 eh21 edu21 B21 s23 ec era ega eoa hrs hgs hos lgs
      -- more
      refine ⟨_, rfl, g, rfl, ⟨gv.map rdV, .inl (.inl eg23)⟩, fun D nD => ?_⟩
      refine lc_tup (xs := gv.map rdV) (DM gv st lg cl H23 D _) (DM.zero nD B23.s) (fun j H3 _ d => ?_) (fun j x H3 hx d => ?_) (fun H3 d => ?_)
      · obtain ⟨_, _, _, _, U3⟩ := d
        exact .inl (.inl (U3.tup B23.s _ _ eg23))
      · obtain ⟨ms, _, _, S3, U3⟩ := id d
        obtain ⟨r, hr, rfl⟩ := get_rd hx
        have hj : j < gv.length := (List.getElem?_eq_some_iff.mp hr).1
        refine ⟨rfl, _, rfl, rfl, _, rfl, ?_⟩
        cases r with
        | some b =>
          have n : decide (rdV (some b) = V.non) = false := by cases b <;> rfl
          rw [n]
          exact iteF (iteF ⟨_, rfl, DM.push (m := some b) nD B23.s d hr (by omega) (But.refl _ _ _) (S3.up (by omega)) rfl (le1.refl _)⟩)
        | none =>
          refine iteT ⟨_, rfl, st, lg, cl, _, 2, rfl, by decide, by decide, by omega, S3, fun k H4 k0 k1 S4 U4 => ⟨rfl, _, rfl, ite2 (fun _ => ?_) (fun _ => ?_)⟩⟩
          · refine ⟨_, rfl, st, lg, cl, _, 2, rfl, by decide, by decide, by omega, S4, fun k2 H5 a0 a1 S5 U5 => ?_⟩
            obtain ⟨b, eb⟩ := bits01 a0 a1
            exact DM.push (m := some b) nD B23.s d hr (by omega) (U4.trans U5) (S5.up (by omega)) eb (.inl rfl)
          · exact ⟨_, rfl, DM.push (m := none) nD B23.s d hr (by omega) U4 (S4.up (by omega)) rfl (le1.refl _)⟩
      obtain ⟨gm, leg, eD, S24, U24⟩ := d.all (List.length_map _).symm
      rw [List.length_map, lgv] at S24
      refine ⟨D, _, rfl, .inl ⟨.inl (.inl eD), fun mo nmo => ?_⟩⟩
      have s24 := same_new (o := .tup (gm.map rdV)) nmo
      have emo : (L2.upd H3 mo (.tup (gm.map rdV))) mo = some (.tup (gm.map rdV)) := upd_same
      have tk24 := (U24.tup B23.s).trans (TupKeep.of s24)
      have B24 := B23.but (S24.keep s24 |>.up (t' := 1000 * i + 560) (by omega)) (U24.trans (But.of s24))
      generalize L2.upd H3 mo (.tup (gm.map rdV)) = H24 at emo tk24 B24
      have hC24 := hC23.keep tk24
      have eg24 := tk24 _ _ eg23
      have eh24 := tk24 _ _ eh23
      have edu24 := tk24 _ _ edu23
      have ec24 := tk24 _ _ ec23
      have era24 := tk24 _ _ era23
      clear hC23 eg23 eh23 edu23 ec23 era23 B23 tk24 s24 nmo S24 U24 eD d nD
      -- rest
      refine ⟨_, rfl, h, rfl, ⟨hv.map rdV, .inl (.inl eh24)⟩, fun D nD => ?_⟩
      refine lc_tup (xs := hv.map rdV) (DM hv st lg cl H24 D _) (DM.zero nD B24.s) (fun j H3 _ d => ?_) (fun j x H3 hx d => ?_) (fun H3 d => ?_)
      · obtain ⟨_, _, _, _, U3⟩ := d
        exact .inl (.inl (U3.tup B24.s _ _ eh24))
      · obtain ⟨ms, _, _, S3, U3⟩ := id d
        obtain ⟨r, hr, rfl⟩ := get_rd hx
        have hj : j < hv.length := (List.getElem?_eq_some_iff.mp hr).1
        refine ⟨rfl, _, rfl, rfl, _, rfl, ?_⟩
        cases r with
        | some b =>
          have n : decide (rdV (some b) = V.non) = false := by cases b <;> rfl
          rw [n]
          exact iteF ⟨_, rfl, DM.push (m := some b) nD B24.s d hr (by omega) (But.refl _ _ _) (S3.up (by omega)) rfl (le1.refl _)⟩
        | none =>
          refine iteT ⟨_, rfl, st, lg, cl, _, 2, rfl, by decide, by decide, by omega, S3, fun k2 H5 a0 a1 S5 U5 => ?_⟩
          obtain ⟨b, eb⟩ := bits01 a0 a1
          exact DM.push (m := some b) nD B24.s d hr (by omega) U5 (S5.up (by omega)) eb (.inl rfl)
      obtain ⟨hm, leh, eD, S25, U25⟩ := d.all (List.length_map _).symm
      rw [List.length_map, lhv] at S25
      refine ⟨D, _, rfl, .inl ⟨.inl (.inl eD), fun re nre => ?_⟩⟩
      have s25 := same_new (o := .tup (hm.map rdV)) nre
      have ere : (L2.upd H3 re (.tup (hm.map rdV))) re = some (.tup (hm.map rdV)) := upd_same
      have tk25 := (U25.tup B24.s).trans (TupKeep.of s25)
      have B25 := B24.but (S25.keep s25 |>.up (t' := 1000 * i + 580) (by omega)) (U25.trans (But.of s25))
      generalize L2.upd H3 re (.tup (hm.map rdV)) = H25 at ere tk25 B25
      have emo25 := tk25 _ _ emo
      have hC25 := hC24.keep tk25
      have eg25 := tk25 _ _ eg24
      have eh25 := tk25 _ _ eh24
      have edu25 := tk25 _ _ edu24
      have ec25 := tk25 _ _ ec24
      have era25 := tk25 _ _ era24
      clear hC24 eg24 eh24 edu24 ec24 era24 B24 tk25 s25 nre S25 U25 eD d nD emo
      -- both side by side
      have le := sureF_mono (gs := C.gates) leg leh
      refine ⟨_, rfl, _, rfl, _, rfl, _, rfl, ?_⟩
      dsimp only [tNil]
      show spCased K TT CC CG CH finSure [.ref ct, .ref mo, .ref re] H25 _ _
      refine cased_ok hC25 okC fan4 B25.tt emo25 ere (by rw [← leg.1, lgv]) (by rw [← leh.1, lhv]) fun H26 x26 => ?_
      intro q3 H27 s27 _ eq3
      have B27 := (B25.ex hPT x26).same s27
      have tk27 : TupKeep H25 H27 := fun b o e => s27 _ _ (x26.extN B25.tt _ _ e (fun _ z => by cases z))
      have edu27 := tk27 _ _ edu25
      refine ⟨du, q3, _, _, rfl, .inr ⟨.inl (.inl edu27), .inl (.inl eq3), fun D nD => ?_⟩⟩
      refine lc_it (walk_zipT (xs := (sureF C.gates gv hv).map rdV) (ys := (sureF C.gates gm hm).map rdV) (by rw [List.length_map, List.length_map, le.1])) (fun i H1 => Same H27 H1 ∧ H1 D = some (.lst [])) ⟨same_new nD, upd_same⟩ (fun i H1 _ z => ⟨.inl (.inl (z.1 _ _ edu27)), .inl (.inl (z.1 _ _ eq3))⟩) (fun i x H1 H1' hi ⟨s1, e1⟩ hy => ?_) (fun H1 ⟨s1, e1⟩ => ?_)
      · obtain ⟨T, x1, y1, rfl, nT, rfl, hx1, hy1⟩ := hy
        obtain ⟨ra1, ha1, rfl⟩ := get_rd hx1
        obtain ⟨rb1, hb1, rfl⟩ := get_rd hy1
        have l1 := le.at_ ha1 hb1
        have sT := same_new (o := .tup [rdV ra1, rdV rb1]) nT
        refine ⟨T, _, rfl, .inl (.inl upd_same), rfl, _, _, rfl, _, _, rfl, rfl, rfl, ?_⟩
        refine and_none l1 rfl rfl (iteF ⟨s1.trans sT, sT _ _ e1⟩)
      refine ⟨Nat.zero_le _, fun p1 np1 => ?_⟩
      have s2 := same_new (o := .lst []) np1
      refine ⟨.list [], .list [], .lst (.inl (.inl (s2 _ _ e1))) .nil, .lst (.inl (.inl upd_same)) .nil, rfl, rfl, _, rfl, iteF ?_⟩
      have tk28 := tk27.trans (TupKeep.of (s1.trans s2))
      have B28 := B27.same (s1.trans s2)
      generalize L2.upd H1 p1 (.lst []) = H28 at tk28 B28
      have hC28 := hC25.keep tk28
      have eg28 := tk28 _ _ eg25
      have ec28 := tk28 _ _ ec25
      have era28 := tk28 _ _ era25
      clear hC25 eg25 eh25 edu25 ec25 era25 B25 tk28 tk27 B27 s1 s2 e1 nD np1 eq3 edu27 s27 x26 ere emo25 le leg leh lF
      -- the wrong values
      refine ⟨_, rfl, Nat.zero_le _, fun e1 ne1 => ⟨Nat.zero_le _, fun e2 ne2 => ⟨(by show 3 ≤ sizeLine; decide), fun p1 np1 => ⟨_, rfl, ct, [.int (C.ni : Int), .ref ra, .ref gaa, .ref oa], rfl, .inr (.inl (.inl ?_)), fun l nl => ⟨(by show 4 ≤ sizeLine; decide), fun LL nLL => ?_⟩⟩⟩⟩⟩
      · exact (((same_new ne1).trans (same_new ne2)).trans (same_new np1)) _ _ ec28
      have u3 := ((same_new ne1).trans (same_new ne2)).trans (same_new (o := .tup [.int 1, .ref e1, .ref e2]) np1)
      have nl2 := But.st_new (o := .tup []) (B28.s.keep u3) nl
      have u4 := same_new (o := .lst [.int (C.ni : Int), .ref ra, .ref gaa, .ref oa]) nl
      have nLs := But.st_new (o := .tup []) (B28.s.keep (u3.trans u4)) nLL
      have u5 := same_new (o := .lst [.non, .int 5, .ref p1, .ref l]) nLL
      have B29 := B28.same ((u3.trans u4).trans u5)
      have tk29 := TupKeep.of ((u3.trans u4).trans u5)
      refine ⟨st, lg, cl, LL, _, [.non, .int 5, .ref p1, .ref l], rfl, (by show 0 < 4; decide), (by show 4 ≤ 1000; decide), nLs.1, nLs.2, .inl (.inl upd_same), by omega, B29.s, fun odd H30 mem S30 U30 => ?_⟩
      have od30 : OD st lg H30 odd := by
        simp only [List.mem_cons, List.not_mem_nil, or_false] at mem
        rcases mem with z | z | z | z <;> subst z
        · exact .non
        · exact .int 5
        · exact (OD.tup ((u4.trans u5) _ _ upd_same) (by show 3 ≠ 4; decide)).but U30 B29.s
        · exact (OD.lst (u5 _ _ upd_same) nl2.1 nl2.2).but U30 B29.s
      have B30 := B29.but S30 U30
      have tk30 := tk29.trans (U30.tup B29.s)
      have hC30 := hC28.keep tk30
      have eg30 := tk30 _ _ eg28
      have ec30 := tk30 _ _ ec28
      have era30 := tk30 _ _ era28
      clear hC28 eg28 ec28 era28 B28 B29 tk29 tk30 u3 u4 u5 nl2 nLs mem S30 U30 ne1 ne2 np1 nl nLL
      have kni := okC.ni
      have knr := okC.nr
      -- bad
      refine ⟨_, rfl, _, rfl, ct, _, 0, .int (C.ni : Int), rfl, rfl, .inl (.inl ec30), rfl, st, lg, cl, _, C.ni, rfl, by omega, by omega, B30.s, fun bad H31 wb S31 U31 => ?_⟩
      have B31 := B30.but S31 U31
      have tk31 := U31.tup B30.s
      have od31 := od30.but U31 B30.s
      have hC31 := hC30.keep tk31
      have eg31 := tk31 _ _ eg30
      have ec31 := tk31 _ _ ec30
      have era31 := tk31 _ _ era30
      clear hC30 eg30 ec30 era30 B30 tk31 od30 S31 U31
      -- wrong
      refine ⟨_, rfl, _, rfl, ct, _, 1, .ref ra, rfl, rfl, .inl (.inl ec31), rfl, ra, rs, rfl, .inr (.inl (.inl era31)), ?_⟩
      rw [lrs]
      refine ⟨st, lg, cl, _, C.regs.length, rfl, by omega, by omega, B31.s, fun wrong H32 ww S32 U32 => ?_⟩
      have B32 := B31.but S32 U32
      have tk32 := U32.tup B31.s
      have od32 := od31.but U32 B31.s
      have wb32 := wb.but U32 B31.s
      have hC32 := hC31.keep tk32
      have eg32 := tk32 _ _ eg31
      clear hC31 eg31 ec31 era31 B31 tk32 od31 S32 U32 wb
      refine ⟨(by show 3 ≤ sizeLine; decide), fun tp ntp => ?_⟩
      have s33 := same_new (o := .tup [odd, bad, wrong]) ntp
      have e33 : (L2.upd H32 tp (.tup [odd, bad, wrong])) tp = some (.tup [odd, bad, wrong]) := upd_same
      have B33 := B32.same s33
      have od33 := od32.ext (extN_same s33)
      have wb33 := wb32.ext (extN_same s33)
      have ww33 := ww.ext (extN_same s33)
      have hC33 := hC32.keep (.of s33)
      have eg33 := s33 _ _ eg32
      generalize L2.upd H32 tp (.tup [odd, bad, wrong]) = H33 at e33 B33 od33 wb33 ww33 hC33 eg33
      clear hC32 eg32 B32 od32 wb32 ww s33 ntp
      refine ⟨tp, _, rfl, .inl (.inl e33), rfl, _, _, rfl, _, _, rfl, _, _, rfl, rfl, ?_⟩
      clear e33
      -- both defs
      refine ⟨(by show 2 ≤ sizeLine; decide), fun LW nLW => ?_⟩
      have s34 := same_new (o := .lst [.ref fSR, .ref fIW]) nLW
      have eLW : (L2.upd H33 LW (.lst [.ref fSR, .ref fIW])) LW = some (.lst [.ref fSR, .ref fIW]) := upd_same
      have B34 := B33.same s34
      have od34 := od33.ext (extN_same s34)
      have wb34 := wb33.ext (extN_same s34)
      have ww34 := ww33.ext (extN_same s34)
      have hC34 := hC33.keep (.of s34)
      have eg34 := s34 _ _ eg33
      generalize L2.upd H33 LW (.lst [.ref fSR, .ref fIW]) = H34 at eLW B34 od34 wb34 ww34 hC34 eg34
      clear hC33 eg33 B33 od33 wb33 ww33 s34 nLW
      refine ⟨LW, rfl, ⟨_, .inl (.inl eLW)⟩, for_list (xs := [.ref fSR, .ref fIW]) (fun j σ Hx => ∃ y13 : Option V, σ = [some (.ref a), some (.ref st), some (.int (0 + (i : Int))), some (.ref ct), some (.ref g), some (.ref h), some (.ref du), y7', some (.ref mo), some (.ref re), some odd, some bad, some wrong, y13, none, none, none] ∧ Between st lg cl Pl TT Hx (1000 * i + 600) ∧ ExtN H34 Hx)
        ⟨y13, rfl, ⟨B34.s.up (by omega), B34.tt, B34.tl⟩, fun _ _ e _ => e⟩ (fun j σ Hx _ hh => ?_) (fun j x σ Hx hx hh => ?_) (fun σ Hx hh => ?_)⟩
      · obtain ⟨_, _, _, z⟩ := hh
        exact .inl (.inl (z _ _ eLW (fun _ z => by cases z)))
      · obtain ⟨y13', rfl, Bx, nx⟩ := hh
        obtain ⟨fw, fin, rfl, hw⟩ : ∃ (fw : Addr) (fin : Circ → List Rd → List Rd → Hp → VK → Prop), x = .ref fw ∧ Wk fw (spCased K TT CC CG CH fin) := by
          have mem := List.mem_of_getElem? hx
          simp only [List.mem_cons, List.not_mem_nil, or_false] at mem
          rw [eWk]
          rcases mem with z | z
          · exact ⟨fSR, finSure, z, .inl ⟨rfl, rfl⟩⟩
          · exact ⟨fIW, finWhole, z, .inr ⟨rfl, rfl⟩⟩
        -- work(odd, bad, wrong)
        refine ⟨Bx.tl, fun H3 bp T3 => ⟨fw, _, rfl, hw, _, rfl, _, rfl, _, rfl, ?_⟩⟩
        have T3' : LamX.TabS H3 Pl lawQ := T3
        have x3 := (Bx.lam (H4 := H3) (ad := 0) (o := .tup []) hPT bp T3').2.1
        dsimp only [tNil]
        show spCased K TT CC CG CH fin [odd, bad, wrong] H3 _ _
        refine cased_odd ((od34.ext nx).ext x3).odd ⟨true, L.eC, fun _ ad nad => ?_, fun z => (nomatch z)⟩
        obtain ⟨B5, x5⟩ := (Bx.lam (ad := ad) (o := CauO (.ref CC) none ad) hPT bp T3').2.2 (Ex.refl _ _) nad
        refine ⟨ad, .ref CC, .ref CC, true, rfl, upd_same, fun u h => h, L.iC, _, rfl, iteF ?_⟩
        -- work(circuit, bad, wrong)
        have n5 : ExtN H34 _ := fun b o e n => x5 _ _ (nx _ _ e n) n
        refine ⟨B5.tl, fun H6 bp6 T6 => ⟨fw, _, rfl, hw, _, rfl, _, rfl, _, rfl, ?_⟩⟩
        have T6' : LamX.TabS H6 Pl lawQ := T6
        have t6 := (B5.lam (H4 := H6) (ad := 0) (o := .tup []) hPT bp6 T6').1
        have x6 := (B5.lam (H4 := H6) (ad := 0) (o := .tup []) hPT bp6 T6').2.1
        dsimp only [tNil]
        show spCased K TT CC CG CH fin [.ref ct, bad, wrong] H6 _ _
        refine cased_bad1 ((hC34.ext n5).ext x6) okC fan4 t6 ((wb34.ext n5).ext x6).items ((ww34.ext n5).ext x6).items fun H7 x7 => ⟨true, L.eG, fun _ ad2 nad2 => ?_, fun z => (nomatch z)⟩
        obtain ⟨B8, x8⟩ := (B5.lam (ad := ad2) (o := CauO (.ref CG) none ad2) hPT bp6 T6').2.2 x7 nad2
        refine ⟨ad2, .ref CG, .ref CG, true, rfl, upd_same, fun u h => h, L.iG, _, rfl, iteF ?_⟩
        -- work(circuit, given, wrong)
        have n8 : ExtN H34 _ := fun b o e n => x8 _ _ (n5 _ _ e n) n
        refine ⟨B8.tl, fun H9 bp9 T9 => ⟨fw, _, rfl, hw, _, rfl, _, rfl, _, rfl, ?_⟩⟩
        have T9' : LamX.TabS H9 Pl lawQ := T9
        have t9 := (B8.lam (H4 := H9) (ad := 0) (o := .tup []) hPT bp9 T9').1
        have x9 := (B8.lam (H4 := H9) (ad := 0) (o := .tup []) hPT bp9 T9').2.1
        dsimp only [tNil]
        show spCased K TT CC CG CH fin [.ref ct, .ref g, wrong] H9 _ _
        refine cased_bad2 ((hC34.ext n8).ext x9) okC fan4 t9 (x9 _ _ (n8 _ _ eg34 (fun _ z => by cases z)) (fun _ z => by cases z)) lgv ((ww34.ext n8).ext x9).items fun H10 x10 => ⟨true, L.eH, fun _ ad3 nad3 => ?_, fun z => (nomatch z)⟩
        obtain ⟨B11, x11⟩ := (B8.lam (ad := ad3) (o := CauO (.ref CH) none ad3) hPT bp9 T9').2.2 x10 nad3
        refine ⟨ad3, .ref CH, .ref CH, true, rfl, upd_same, fun u h => h, L.iH, _, rfl, iteF ?_⟩
        exact ⟨_, rfl, B11, fun b o e n => x11 _ _ (n8 _ _ e n) n⟩
      · obtain ⟨y13', rfl, Bx, _⟩ := hh
        exact ⟨_, _, _, _, _, _, _, _, _, _, _, _, rfl, Bx.s.up (by omega), Bx.tt, Bx.tl⟩
end
end K02

set_option Elab.async false
set_option linter.all false
set_option maxRecDepth 100000
set_option maxHeartbeats 4000000
/-! All facts put together. -/
namespace K02
open PySem PySem.Spec L2
open PyProof.Rows GenW GxR EZ TK CE
theorem excC_of {K : PySem.W.Frag} {D : Addr} (a : PySem.W.findIn K (.ref D) "__getattribute__" = some (some (.builtin "BaseException.__getattribute__"))) (b : PySem.W.findIn K (.ref D) "__getattr__" = some none) (c : PySem.W.subIn K (.ref D) (.type "BaseException") = some true) (d : PySem.W.hasDictIn K D = true)
    (e : PySem.W.findIn K (.ref D) "__class__" = some (some (.builtin "object.__class__"))) (f : PySem.W.specialIn K (.builtin "object.__class__") "__get__" = some (some (.builtin "getset_descriptor.__get__"))) (g : PySem.W.takesIn K (.builtin "object.__class__") = some true) (h : PySem.W.mroIn K D (.type "object") = some true) : ExcC K D := ⟨a, b, c, d, e, f, g, h⟩
theorem kb_sure_readings {K : PySem.W.Frag} {f : Addr} {fd : FuncData} (F : Fun K "sure_readings" "sure_readings" sSureReadings f fd) : KBinds K fd ["circuit", "given", "held"] ["held", "given", "circuit"] kwC kwC := by
  obtain ⟨oc, od, kV, doc, pm, an, cdv, ct, osl, rfl, lk, hcd⟩ := F.ex
  refine ⟨fun s us ws _ hl => ?_, fun {vs us zs ws} r rz => ?_⟩
  · match us, ws, hl with
    | [], [a, b, c], _ => exact .of_eq rfl
  · rcases r with _ | ⟨_, _⟩
    · rcases rz with _ | ⟨r1, _ | ⟨r2, _ | ⟨r3, _ | ⟨r4, r5⟩⟩⟩⟩
      · exact .nil
      · exact .nil
      · exact .nil
      · exact .cons r3 (.cons r2 (.cons r1 .nil))
      · exact .nil
    · exact .nil
theorem kb_is_whole {K : PySem.W.Frag} {f : Addr} {fd : FuncData} (F : Fun K "is_whole" "is_whole" sIsWhole f fd) : KBinds K fd ["circuit", "given", "held"] ["held", "given", "circuit"] kwC kwC := by
  obtain ⟨oc, od, kV, doc, pm, an, cdv, ct, osl, rfl, lk, hcd⟩ := F.ex
  refine ⟨fun s us ws _ hl => ?_, fun {vs us zs ws} r rz => ?_⟩
  · match us, ws, hl with
    | [], [a, b, c], _ => exact .of_eq rfl
  · rcases r with _ | ⟨_, _⟩
    · rcases rz with _ | ⟨r1, _ | ⟨r2, _ | ⟨r3, _ | ⟨r4, r5⟩⟩⟩⟩
      · exact .nil
      · exact .nil
      · exact .nil
      · exact .cons r3 (.cons r2 (.cons r1 .nil))
      · exact .nil
    · exact .nil
theorem all_mk {l : PySem.W.OpenLaw} {w : World} {K : PySem.W.Frag} {h : Heap} {mg : Str → Option Value} {fa : Addr} {names : List Str} (X : K.In h) (G : h.Ns mainGlobals mg) (hfa : mg "law" = some (.ref fa)) (own : ∀ y ∈ names, ∀ f, mg y = some (.ref f) → LamX.OwnTab K f h)
    (m5 : ("is_bits" : Str) ∈ names) (m6 : ("is_readings" : Str) ∈ names) (m10 : ("is_gate" : Str) ∈ names) (m11 : ("is_circuit" : Str) ∈ names) (m45 : ("law" : Str) ∈ names)
    {f0 f1 f2 f3 f4 f5 f6 f7 f8 f9 f10 f11 f12 f13 f14 f15 f16 f17 f18 f19 f20 f21 f22 f23 f24 f25 f26 f27 f28 f29 f30 f31 f32 f33 f34 f35 f36 f37 f38 f39 f40 f41 f42 f43 f44 f45 c5 c6 c10 c11 c45 c12 c13 P5 P6 P10 P11 P45 CS CC CG CH : Addr} {oc0 kV0 dc0 pm0 ct0 cd0 oc1 kV1 dc1 pm1 ct1 cd1 oc2 kV2 dc2 pm2 ct2 cd2 oc3 kV3 dc3 pm3 ct3 cd3 oc4 kV4 dc4 pm4 ct4 cd4 oc5 kV5 dc5 pm5 ct5 oc6 kV6 dc6 pm6 ct6 oc7 kV7 dc7 pm7 ct7 cd7 oc8 kV8 dc8 pm8 ct8 cd8 oc9 kV9 dc9 pm9 ct9 cd9 oc10 kV10 dc10 pm10 ct10 oc11 kV11 dc11 pm11 ct11 oc12 kV12 dc12 pm12 ct12 oc13 kV13 dc13 pm13 ct13 oc14 kV14 dc14 pm14 ct14 cd14 oc15 kV15 dc15 pm15 ct15 cd15 oc16 kV16 dc16 pm16 ct16 cd16 oc17 kV17 dc17 pm17 ct17 cd17 oc18 kV18 dc18 pm18 ct18 cd18 oc19 kV19 dc19 pm19 ct19 cd19 oc20 kV20 dc20 pm20 ct20 cd20 oc21 kV21 dc21 pm21 ct21 cd21 oc22 kV22 dc22 pm22 ct22 cd22 oc23 kV23 dc23 pm23 ct23 cd23 oc24 kV24 dc24 pm24 ct24 cd24 oc25 kV25 dc25 pm25 ct25 cd25 oc26 kV26 dc26 pm26 ct26 cd26 oc27 kV27 dc27 pm27 ct27 cd27 oc28 kV28 dc28 pm28 ct28 cd28 oc29 kV29 dc29 pm29 ct29 cd29 oc30 kV30 dc30 pm30 ct30 cd30 oc31 kV31 dc31 pm31 ct31 cd31 oc32 kV32 dc32 pm32 ct32 cd32 oc33 kV33 dc33 pm33 ct33 cd33 oc34 kV34 dc34 pm34 ct34 cd34 oc35 kV35 dc35 pm35 ct35 cd35 oc36 kV36 dc36 pm36 ct36 cd36 oc37 kV37 dc37 pm37 ct37 cd37 oc38 kV38 dc38 pm38 ct38 cd38 oc39 kV39 dc39 pm39 ct39 cd39 oc40 kV40 dc40 pm40 ct40 cd40 oc41 kV41 dc41 pm41 ct41 cd41 oc42 kV42 dc42 pm42 ct42 cd42 oc43 kV43 dc43 pm43 ct43 cd43 oc44 kV44 dc44 pm44 ct44 cd44 oc45 kV45 dc45 pm45 ct45 ce5 ce6 ce10 ce11 ce45 : Value} {od0 an0 od1 an1 od2 an2 od3 an3 od4 an4 od5 an5 od6 an6 od7 an7 od8 an8 od9 an9 od10 an10 od11 an11 od12 an12 od13 an13 od14 an14 od15 an15 od16 an16 od17 an17 od18 an18 od19 an19 od20 an20 od21 an21 od22 an22 od23 an23 od24 an24 od25 an25 od26 an26 od27 an27 od28 an28 od29 an29 od30 an30 od31 an31 od32 an32 od33 an33 od34 an34 od35 an35 od36 an36 od37 an37 od38 an38 od39 an39 od40 an40 od41 an41 od42 an42 od43 an43 od44 an44 od45 an45 cdd5 cdd6 cdd10 cdd11 cdd45 : Option Addr} {sl0 sl1 sl2 sl3 sl4 sl5 sl6 sl7 sl8 sl9 sl10 sl11 sl12 sl13 sl14 sl15 sl16 sl17 sl18 sl19 sl20 sl21 sl22 sl23 sl24 sl25 sl26 sl27 sl28 sl29 sl30 sl31 sl32 sl33 sl34 sl35 sl36 sl37 sl38 sl39 sl40 sl41 sl42 sl43 sl44 sl45 csl5 csl6 csl10 csl11 csl45 : Array (Option Value)} {vs5 vs6 vs10 vs11 vs45 : Array Value} {tk0 tk1 tk2 tk3 tk4 : Tok}
    (a0 : PySem.W.nsIn K mainGlobals "is_number" = some (some (.ref f0))) (l0 : K.lookup f0 = some ⟨oc0, od0, .func (PySem.W.fnOf "is_number" "is_number" (defArgs sIsNumber) (defBody sIsNumber) (defScope sIsNumber) .none kV0 dc0 pm0 an0 cd0 ct0), sl0⟩) (c0' : PySem.W.codeIn K cd0 "is_number" = true) (k0 : PySem.W.keepIn K (.ref f0) = true)
    (a1 : PySem.W.nsIn K mainGlobals "is_below" = some (some (.ref f1))) (l1 : K.lookup f1 = some ⟨oc1, od1, .func (PySem.W.fnOf "is_below" "is_below" (defArgs sIsBelow) (defBody sIsBelow) (defScope sIsBelow) .none kV1 dc1 pm1 an1 cd1 ct1), sl1⟩) (c1' : PySem.W.codeIn K cd1 "is_below" = true) (k1 : PySem.W.keepIn K (.ref f1) = true)
    (a2 : PySem.W.nsIn K mainGlobals "is_bit" = some (some (.ref f2))) (l2 : K.lookup f2 = some ⟨oc2, od2, .func (PySem.W.fnOf "is_bit" "is_bit" (defArgs sIsBit) (defBody sIsBit) (defScope sIsBit) .none kV2 dc2 pm2 an2 cd2 ct2), sl2⟩) (c2' : PySem.W.codeIn K cd2 "is_bit" = true) (k2 : PySem.W.keepIn K (.ref f2) = true)
    (a3 : PySem.W.nsIn K mainGlobals "is_reading" = some (some (.ref f3))) (l3 : K.lookup f3 = some ⟨oc3, od3, .func (PySem.W.fnOf "is_reading" "is_reading" (defArgs sIsReading) (defBody sIsReading) (defScope sIsReading) .none kV3 dc3 pm3 an3 cd3 ct3), sl3⟩) (c3' : PySem.W.codeIn K cd3 "is_reading" = true) (k3 : PySem.W.keepIn K (.ref f3) = true)
    (a4 : PySem.W.nsIn K mainGlobals "is_tuple_of" = some (some (.ref f4))) (l4 : K.lookup f4 = some ⟨oc4, od4, .func (PySem.W.fnOf "is_tuple_of" "is_tuple_of" (defArgs sIsTupleOf) (defBody sIsTupleOf) (defScope sIsTupleOf) .none kV4 dc4 pm4 an4 cd4 ct4), sl4⟩) (c4' : PySem.W.codeIn K cd4 "is_tuple_of" = true) (k4 : PySem.W.keepIn K (.ref f4) = true)
    (a5 : PySem.W.nsIn K mainGlobals "is_bits" = some (some (.ref f5))) (l5 : K.lookup f5 = some ⟨oc5, od5, .func (PySem.W.fnOf "is_bits" "is_bits" (defArgs sIsBits) (defBody sIsBits) (defScope sIsBits) .none kV5 dc5 pm5 an5 (.ref c5) ct5), sl5⟩) (c5' : PySem.W.codeIn K (.ref c5) "is_bits" = true) (k5 : PySem.W.keepIn K (.ref f5) = true)
    (x5 : K.lookup c5 = some ⟨ce5, cdd5, .fields vs5, csl5⟩) (p5 : vs5[11]? = some (.ref P5)) (n5 : K.lookup P5 = none) (o5 : PySem.W.codeHdIn K c5 P5 = true)
    (a6 : PySem.W.nsIn K mainGlobals "is_readings" = some (some (.ref f6))) (l6 : K.lookup f6 = some ⟨oc6, od6, .func (PySem.W.fnOf "is_readings" "is_readings" (defArgs sIsReadings) (defBody sIsReadings) (defScope sIsReadings) .none kV6 dc6 pm6 an6 (.ref c6) ct6), sl6⟩) (c6' : PySem.W.codeIn K (.ref c6) "is_readings" = true) (k6 : PySem.W.keepIn K (.ref f6) = true)
    (x6 : K.lookup c6 = some ⟨ce6, cdd6, .fields vs6, csl6⟩) (p6 : vs6[11]? = some (.ref P6)) (n6 : K.lookup P6 = none) (o6 : PySem.W.codeHdIn K c6 P6 = true)
    (a7 : PySem.W.nsIn K mainGlobals "is_tuple_up_to" = some (some (.ref f7))) (l7 : K.lookup f7 = some ⟨oc7, od7, .func (PySem.W.fnOf "is_tuple_up_to" "is_tuple_up_to" (defArgs sUpTo) (defBody sUpTo) (defScope sUpTo) .none kV7 dc7 pm7 an7 cd7 ct7), sl7⟩) (c7' : PySem.W.codeIn K cd7 "is_tuple_up_to" = true) (k7 : PySem.W.keepIn K (.ref f7) = true)
    (a8 : PySem.W.nsIn K mainGlobals "is_source" = some (some (.ref f8))) (l8 : K.lookup f8 = some ⟨oc8, od8, .func (PySem.W.fnOf "is_source" "is_source" (defArgs sIsSource) (defBody sIsSource) (defScope sIsSource) .none kV8 dc8 pm8 an8 cd8 ct8), sl8⟩) (c8' : PySem.W.codeIn K cd8 "is_source" = true) (k8 : PySem.W.keepIn K (.ref f8) = true)
    (a9 : PySem.W.nsIn K mainGlobals "is_register" = some (some (.ref f9))) (l9 : K.lookup f9 = some ⟨oc9, od9, .func (PySem.W.fnOf "is_register" "is_register" (defArgs sIsRegister) (defBody sIsRegister) (defScope sIsRegister) .none kV9 dc9 pm9 an9 cd9 ct9), sl9⟩) (c9' : PySem.W.codeIn K cd9 "is_register" = true) (k9 : PySem.W.keepIn K (.ref f9) = true)
    (a10 : PySem.W.nsIn K mainGlobals "is_gate" = some (some (.ref f10))) (l10 : K.lookup f10 = some ⟨oc10, od10, .func (PySem.W.fnOf "is_gate" "is_gate" (defArgs sIsGate) (defBody sIsGate) (defScope sIsGate) .none kV10 dc10 pm10 an10 (.ref c10) ct10), sl10⟩) (c10' : PySem.W.codeIn K (.ref c10) "is_gate" = true) (k10 : PySem.W.keepIn K (.ref f10) = true)
    (x10 : K.lookup c10 = some ⟨ce10, cdd10, .fields vs10, csl10⟩) (p10 : vs10[11]? = some (.ref P10)) (n10 : K.lookup P10 = none) (o10 : PySem.W.codeHdIn K c10 P10 = true)
    (a11 : PySem.W.nsIn K mainGlobals "is_circuit" = some (some (.ref f11))) (l11 : K.lookup f11 = some ⟨oc11, od11, .func (PySem.W.fnOf "is_circuit" "is_circuit" (defArgs sIsCircuit) (defBody sIsCircuit) (defScope sIsCircuit) .none kV11 dc11 pm11 an11 (.ref c11) ct11), sl11⟩) (c11' : PySem.W.codeIn K (.ref c11) "is_circuit" = true) (k11 : PySem.W.keepIn K (.ref f11) = true)
    (x11 : K.lookup c11 = some ⟨ce11, cdd11, .fields vs11, csl11⟩) (p11 : vs11[11]? = some (.ref P11)) (n11 : K.lookup P11 = none) (o11 : PySem.W.codeHdIn K c11 P11 = true)
    (a12 : PySem.W.nsIn K mainGlobals "check_circuit" = some (some (.ref f12))) (l12 : K.lookup f12 = some ⟨oc12, od12, .func (PySem.W.fnOf "check_circuit" "check_circuit" (defArgs sCheckCircuit) (defBody sCheckCircuit) (defScope sCheckCircuit) .none kV12 dc12 pm12 an12 (.ref c12) ct12), sl12⟩) (c12' : PySem.W.codeIn K (.ref c12) "check_circuit" = true) (k12 : PySem.W.keepIn K (.ref f12) = true)
    (a13 : PySem.W.nsIn K mainGlobals "check_case" = some (some (.ref f13))) (l13 : K.lookup f13 = some ⟨oc13, od13, .func (PySem.W.fnOf "check_case" "check_case" (defArgs sCheckCase) (defBody sCheckCase) (defScope sCheckCase) .none kV13 dc13 pm13 an13 (.ref c13) ct13), sl13⟩) (c13' : PySem.W.codeIn K (.ref c13) "check_case" = true) (k13 : PySem.W.keepIn K (.ref f13) = true)
    (a14 : PySem.W.nsIn K mainGlobals "source_reading" = some (some (.ref f14))) (l14 : K.lookup f14 = some ⟨oc14, od14, .func (PySem.W.fnOf "source_reading" "source_reading" (defArgs sSrcR) (defBody sSrcR) (defScope sSrcR) .none kV14 dc14 pm14 an14 cd14 ct14), sl14⟩) (c14' : PySem.W.codeIn K cd14 "source_reading" = true) (k14 : PySem.W.keepIn K (.ref f14) = true)
    (a15 : PySem.W.nsIn K mainGlobals "table_reading" = some (some (.ref f15))) (l15 : K.lookup f15 = some ⟨oc15, od15, .func (PySem.W.fnOf "table_reading" "table_reading" (defArgs sTable) (defBody sTable) (defScope sTable) .none kV15 dc15 pm15 an15 cd15 ct15), sl15⟩) (c15' : PySem.W.codeIn K cd15 "table_reading" = true) (k15 : PySem.W.keepIn K (.ref f15) = true)
    (a16 : PySem.W.nsIn K mainGlobals "gate_now" = some (some (.ref f16))) (l16 : K.lookup f16 = some ⟨oc16, od16, .func (PySem.W.fnOf "gate_now" "gate_now" (defArgs sGateNow) (defBody sGateNow) (defScope sGateNow) .none kV16 dc16 pm16 an16 cd16 ct16), sl16⟩) (c16' : PySem.W.codeIn K cd16 "gate_now" = true) (k16 : PySem.W.keepIn K (.ref f16) = true)
    (a17 : PySem.W.nsIn K mainGlobals "gate_readers" = some (some (.ref f17))) (l17 : K.lookup f17 = some ⟨oc17, od17, .func (PySem.W.fnOf "gate_readers" "gate_readers" (defArgs sGateReaders) (defBody sGateReaders) (defScope sGateReaders) .none kV17 dc17 pm17 an17 cd17 ct17), sl17⟩) (c17' : PySem.W.codeIn K cd17 "gate_readers" = true) (k17 : PySem.W.keepIn K (.ref f17) = true)
    (a18 : PySem.W.nsIn K mainGlobals "sure_laps" = some (some (.ref f18))) (l18 : K.lookup f18 = some ⟨oc18, od18, .func (PySem.W.fnOf "sure_laps" "sure_laps" (defArgs sSureLaps) (defBody sSureLaps) (defScope sSureLaps) .none kV18 dc18 pm18 an18 cd18 ct18), sl18⟩) (c18' : PySem.W.codeIn K cd18 "sure_laps" = true) (k18 : PySem.W.keepIn K (.ref f18) = true)
    (a19 : PySem.W.nsIn K mainGlobals "sure_list" = some (some (.ref f19))) (l19 : K.lookup f19 = some ⟨oc19, od19, .func (PySem.W.fnOf "sure_list" "sure_list" (defArgs sSureList) (defBody sSureList) (defScope sSureList) .none kV19 dc19 pm19 an19 cd19 ct19), sl19⟩) (c19' : PySem.W.codeIn K cd19 "sure_list" = true) (k19 : PySem.W.keepIn K (.ref f19) = true)
    (a20 : PySem.W.nsIn K mainGlobals "sure_readings" = some (some (.ref f20))) (l20 : K.lookup f20 = some ⟨oc20, od20, .func (PySem.W.fnOf "sure_readings" "sure_readings" (defArgs sSureReadings) (defBody sSureReadings) (defScope sSureReadings) .none kV20 dc20 pm20 an20 cd20 ct20), sl20⟩) (c20' : PySem.W.codeIn K cd20 "sure_readings" = true) (k20 : PySem.W.keepIn K (.ref f20) = true)
    (a21 : PySem.W.nsIn K mainGlobals "is_whole" = some (some (.ref f21))) (l21 : K.lookup f21 = some ⟨oc21, od21, .func (PySem.W.fnOf "is_whole" "is_whole" (defArgs sIsWhole) (defBody sIsWhole) (defScope sIsWhole) .none kV21 dc21 pm21 an21 cd21 ct21), sl21⟩) (c21' : PySem.W.codeIn K cd21 "is_whole" = true) (k21 : PySem.W.keepIn K (.ref f21) = true)
    (a22 : PySem.W.nsIn K mainGlobals "_law_begun" = some (some (.ref f22))) (l22 : K.lookup f22 = some ⟨oc22, od22, .func (PySem.W.fnOf "_law_begun" "_law_begun" (defArgs sBegun) (defBody sBegun) (defScope sBegun) .none kV22 dc22 pm22 an22 cd22 ct22), sl22⟩) (c22' : PySem.W.codeIn K cd22 "_law_begun" = true) (k22 : PySem.W.keepIn K (.ref f22) = true)
    (a23 : PySem.W.nsIn K mainGlobals "_law_draw" = some (some (.ref f23))) (l23 : K.lookup f23 = some ⟨oc23, od23, .func (PySem.W.fnOf "_law_draw" "_law_draw" (defArgs sDraw) (defBody sDraw) (defScope sDraw) .none kV23 dc23 pm23 an23 cd23 ct23), sl23⟩) (c23' : PySem.W.codeIn K cd23 "_law_draw" = true) (k23 : PySem.W.keepIn K (.ref f23) = true)
    (a24 : PySem.W.nsIn K mainGlobals "_law_pick" = some (some (.ref f24))) (l24 : K.lookup f24 = some ⟨oc24, od24, .func (PySem.W.fnOf "_law_pick" "_law_pick" (defArgs sPick) (defBody sPick) (defScope sPick) .none kV24 dc24 pm24 an24 cd24 ct24), sl24⟩) (c24' : PySem.W.codeIn K cd24 "_law_pick" = true) (k24 : PySem.W.keepIn K (.ref f24) = true)
    (a25 : PySem.W.nsIn K mainGlobals "_law_mixed" = some (some (.ref f25))) (l25 : K.lookup f25 = some ⟨oc25, od25, .func (PySem.W.fnOf "_law_mixed" "_law_mixed" (defArgs sMixed) (defBody sMixed) (defScope sMixed) .none kV25 dc25 pm25 an25 cd25 ct25), sl25⟩) (c25' : PySem.W.codeIn K cd25 "_law_mixed" = true) (k25 : PySem.W.keepIn K (.ref f25) = true)
    (a26 : PySem.W.nsIn K mainGlobals "_law_caught" = some (some (.ref f26))) (l26 : K.lookup f26 = some ⟨oc26, od26, .func (PySem.W.fnOf "_law_caught" "_law_caught" (defArgs sCaught) (defBody sCaught) (defScope sCaught) .none kV26 dc26 pm26 an26 cd26 ct26), sl26⟩) (c26' : PySem.W.codeIn K cd26 "_law_caught" = true) (k26 : PySem.W.keepIn K (.ref f26) = true)
    (a27 : PySem.W.nsIn K mainGlobals "_law_power" = some (some (.ref f27))) (l27 : K.lookup f27 = some ⟨oc27, od27, .func (PySem.W.fnOf "_law_power" "_law_power" (defArgs sPower) (defBody sPower) (defScope sPower) .none kV27 dc27 pm27 an27 cd27 ct27), sl27⟩) (c27' : PySem.W.codeIn K cd27 "_law_power" = true) (k27 : PySem.W.keepIn K (.ref f27) = true)
    (a28 : PySem.W.nsIn K mainGlobals "_law_bits_of" = some (some (.ref f28))) (l28 : K.lookup f28 = some ⟨oc28, od28, .func (PySem.W.fnOf "_law_bits_of" "_law_bits_of" (defArgs sBitsOf) (defBody sBitsOf) (defScope sBitsOf) .none kV28 dc28 pm28 an28 cd28 ct28), sl28⟩) (c28' : PySem.W.codeIn K cd28 "_law_bits_of" = true) (k28 : PySem.W.keepIn K (.ref f28) = true)
    (a29 : PySem.W.nsIn K mainGlobals "_law_all_bits" = some (some (.ref f29))) (l29 : K.lookup f29 = some ⟨oc29, od29, .func (PySem.W.fnOf "_law_all_bits" "_law_all_bits" (defArgs sAllBits) (defBody sAllBits) (defScope sAllBits) .none kV29 dc29 pm29 an29 cd29 ct29), sl29⟩) (c29' : PySem.W.codeIn K cd29 "_law_all_bits" = true) (k29 : PySem.W.keepIn K (.ref f29) = true)
    (a30 : PySem.W.nsIn K mainGlobals "_law_gate_bit" = some (some (.ref f30))) (l30 : K.lookup f30 = some ⟨oc30, od30, .func (PySem.W.fnOf "_law_gate_bit" "_law_gate_bit" (defArgs sGateBit) (defBody sGateBit) (defScope sGateBit) .none kV30 dc30 pm30 an30 cd30 ct30), sl30⟩) (c30' : PySem.W.codeIn K cd30 "_law_gate_bit" = true) (k30 : PySem.W.keepIn K (.ref f30) = true)
    (a31 : PySem.W.nsIn K mainGlobals "_law_gate_reading" = some (some (.ref f31))) (l31 : K.lookup f31 = some ⟨oc31, od31, .func (PySem.W.fnOf "_law_gate_reading" "_law_gate_reading" (defArgs sLawReading) (defBody sLawReading) (defScope sLawReading) .none kV31 dc31 pm31 an31 cd31 ct31), sl31⟩) (c31' : PySem.W.codeIn K cd31 "_law_gate_reading" = true) (k31 : PySem.W.keepIn K (.ref f31) = true)
    (a32 : PySem.W.nsIn K mainGlobals "_law_source" = some (some (.ref f32))) (l32 : K.lookup f32 = some ⟨oc32, od32, .func (PySem.W.fnOf "_law_source" "_law_source" (defArgs sLSource) (defBody sLSource) (defScope sLSource) .none kV32 dc32 pm32 an32 cd32 ct32), sl32⟩) (c32' : PySem.W.codeIn K cd32 "_law_source" = true) (k32 : PySem.W.keepIn K (.ref f32) = true)
    (a33 : PySem.W.nsIn K mainGlobals "_law_one" = some (some (.ref f33))) (l33 : K.lookup f33 = some ⟨oc33, od33, .func (PySem.W.fnOf "_law_one" "_law_one" (defArgs sLOne) (defBody sLOne) (defScope sLOne) .none kV33 dc33 pm33 an33 cd33 ct33), sl33⟩) (c33' : PySem.W.codeIn K cd33 "_law_one" = true) (k33 : PySem.W.keepIn K (.ref f33) = true)
    (a34 : PySem.W.nsIn K mainGlobals "_law_sure" = some (some (.ref f34))) (l34 : K.lookup f34 = some ⟨oc34, od34, .func (PySem.W.fnOf "_law_sure" "_law_sure" (defArgs sLSure) (defBody sLSure) (defScope sLSure) .none kV34 dc34 pm34 an34 cd34 ct34), sl34⟩) (c34' : PySem.W.codeIn K cd34 "_law_sure" = true) (k34 : PySem.W.keepIn K (.ref f34) = true)
    (a35 : PySem.W.nsIn K mainGlobals "_law_some_source" = some (some (.ref f35))) (l35 : K.lookup f35 = some ⟨oc35, od35, .func (PySem.W.fnOf "_law_some_source" "_law_some_source" (defArgs sSomeSource) (defBody sSomeSource) (defScope sSomeSource) .none kV35 dc35 pm35 an35 cd35 ct35), sl35⟩) (c35' : PySem.W.codeIn K cd35 "_law_some_source" = true) (k35 : PySem.W.keepIn K (.ref f35) = true)
    (a36 : PySem.W.nsIn K mainGlobals "_law_table" = some (some (.ref f36))) (l36 : K.lookup f36 = some ⟨oc36, od36, .func (PySem.W.fnOf "_law_table" "_law_table" (defArgs sLTable) (defBody sLTable) (defScope sLTable) .none kV36 dc36 pm36 an36 cd36 ct36), sl36⟩) (c36' : PySem.W.codeIn K cd36 "_law_table" = true) (k36 : PySem.W.keepIn K (.ref f36) = true)
    (a37 : PySem.W.nsIn K mainGlobals "_law_circuit" = some (some (.ref f37))) (l37 : K.lookup f37 = some ⟨oc37, od37, .func (PySem.W.fnOf "_law_circuit" "_law_circuit" (defArgs sLCircuit) (defBody sLCircuit) (defScope sLCircuit) .none kV37 dc37 pm37 an37 cd37 ct37), sl37⟩) (c37' : PySem.W.codeIn K cd37 "_law_circuit" = true) (k37 : PySem.W.keepIn K (.ref f37) = true)
    (a38 : PySem.W.nsIn K mainGlobals "_law_case_bits" = some (some (.ref f38))) (l38 : K.lookup f38 = some ⟨oc38, od38, .func (PySem.W.fnOf "_law_case_bits" "_law_case_bits" (defArgs sCaseBits) (defBody sCaseBits) (defScope sCaseBits) .none kV38 dc38 pm38 an38 cd38 ct38), sl38⟩) (c38' : PySem.W.codeIn K cd38 "_law_case_bits" = true) (k38 : PySem.W.keepIn K (.ref f38) = true)
    (a39 : PySem.W.nsIn K mainGlobals "_law_case_readings" = some (some (.ref f39))) (l39 : K.lookup f39 = some ⟨oc39, od39, .func (PySem.W.fnOf "_law_case_readings" "_law_case_readings" (defArgs sCaseR) (defBody sCaseR) (defScope sCaseR) .none kV39 dc39 pm39 an39 cd39 ct39), sl39⟩) (c39' : PySem.W.codeIn K cd39 "_law_case_readings" = true) (k39 : PySem.W.keepIn K (.ref f39) = true)
    (a40 : PySem.W.nsIn K mainGlobals "_law_bad_readings" = some (some (.ref f40))) (l40 : K.lookup f40 = some ⟨oc40, od40, .func (PySem.W.fnOf "_law_bad_readings" "_law_bad_readings" (defArgs sBadR) (defBody sBadR) (defScope sBadR) .none kV40 dc40 pm40 an40 cd40 ct40), sl40⟩) (c40' : PySem.W.codeIn K cd40 "_law_bad_readings" = true) (k40 : PySem.W.keepIn K (.ref f40) = true)
    (a41 : PySem.W.nsIn K mainGlobals "_law_by_and_by" = some (some (.ref f41))) (l41 : K.lookup f41 = some ⟨oc41, od41, .func (PySem.W.fnOf "_law_by_and_by" "_law_by_and_by" (defArgs sByBy) (defBody sByBy) (defScope sByBy) .none kV41 dc41 pm41 an41 cd41 ct41), sl41⟩) (c41' : PySem.W.codeIn K cd41 "_law_by_and_by" = true) (k41 : PySem.W.keepIn K (.ref f41) = true)
    (a42 : PySem.W.nsIn K mainGlobals "_law_agree" = some (some (.ref f42))) (l42 : K.lookup f42 = some ⟨oc42, od42, .func (PySem.W.fnOf "_law_agree" "_law_agree" (defArgs sAgree) (defBody sAgree) (defScope sAgree) .none kV42 dc42 pm42 an42 cd42 ct42), sl42⟩) (c42' : PySem.W.codeIn K cd42 "_law_agree" = true) (k42 : PySem.W.keepIn K (.ref f42) = true)
    (a43 : PySem.W.nsIn K mainGlobals "_law_all_agreeing" = some (some (.ref f43))) (l43 : K.lookup f43 = some ⟨oc43, od43, .func (PySem.W.fnOf "_law_all_agreeing" "_law_all_agreeing" (defArgs sAllAg) (defBody sAllAg) (defScope sAllAg) .none kV43 dc43 pm43 an43 cd43 ct43), sl43⟩) (c43' : PySem.W.codeIn K cd43 "_law_all_agreeing" = true) (k43 : PySem.W.keepIn K (.ref f43) = true)
    (a44 : PySem.W.nsIn K mainGlobals "_law_chain_right" = some (some (.ref f44))) (l44 : K.lookup f44 = some ⟨oc44, od44, .func (PySem.W.fnOf "_law_chain_right" "_law_chain_right" (defArgs sChain) (defBody sChain) (defScope sChain) .none kV44 dc44 pm44 an44 cd44 ct44), sl44⟩) (c44' : PySem.W.codeIn K cd44 "_law_chain_right" = true) (k44 : PySem.W.keepIn K (.ref f44) = true)
    (a45 : PySem.W.nsIn K mainGlobals "law" = some (some (.ref f45))) (l45 : K.lookup f45 = some ⟨oc45, od45, .func (PySem.W.fnOf "law" "law" (defArgs sLaw) (defBody sLaw) (defScope sLaw) .none kV45 dc45 pm45 an45 (.ref c45) ct45), sl45⟩) (c45' : PySem.W.codeIn K (.ref c45) "law" = true) (k45 : PySem.W.keepIn K (.ref f45) = true)
    (x45 : K.lookup c45 = some ⟨ce45, cdd45, .fields vs45, csl45⟩) (p45 : vs45[11]? = some (.ref P45)) (n45 : K.lookup P45 = none) (o45 : PySem.W.codeHdIn K c45 P45 = true)
    (pd : P45 ∉ [P5, P6, P10, P11])
    (z_int : PySem.W.nsIn K mainGlobals "int" = some none)
    (z_len : PySem.W.nsIn K mainGlobals "len" = some none)
    (z_abs : PySem.W.nsIn K mainGlobals "abs" = some none)
    (z_all : PySem.W.nsIn K mainGlobals "all" = some none)
    (z_enumerate : PySem.W.nsIn K mainGlobals "enumerate" = some none)
    (z_isinstance : PySem.W.nsIn K mainGlobals "isinstance" = some none)
    (z_list : PySem.W.nsIn K mainGlobals "list" = some none)
    (z_tuple : PySem.W.nsIn K mainGlobals "tuple" = some none)
    (z_bool : PySem.W.nsIn K mainGlobals "bool" = some none)
    (z_range : PySem.W.nsIn K mainGlobals "range" = some none)
    (z_min : PySem.W.nsIn K mainGlobals "min" = some none)
    (z_max : PySem.W.nsIn K mainGlobals "max" = some none)
    (z_sum : PySem.W.nsIn K mainGlobals "sum" = some none)
    (z_sorted : PySem.W.nsIn K mainGlobals "sorted" = some none)
    (z_zip : PySem.W.nsIn K mainGlobals "zip" = some none)
    (z_repr : PySem.W.nsIn K mainGlobals "repr" = some none)
    (z_set : PySem.W.nsIn K mainGlobals "set" = some none)
    (v0 : PySem.W.nsIn K mainGlobals "MOST_INPUTS" = some (some (.int 8 tk0)))
    (v1 : PySem.W.nsIn K mainGlobals "MOST_REGISTERS" = some (some (.int 60 tk1)))
    (v2 : PySem.W.nsIn K mainGlobals "MOST_GATES" = some (some (.int 2000 tk2)))
    (v3 : PySem.W.nsIn K mainGlobals "MOST_OUTPUTS" = some (some (.int 60 tk3)))
    (v4 : PySem.W.nsIn K mainGlobals "MOST_SOURCES" = some (some (.int 4 tk4)))
    (aS : PySem.W.nsIn K mainGlobals "RestError" = some (some (.ref CS)))
    (aCC : PySem.W.nsIn K mainGlobals "BadCircuit" = some (some (.ref CC))) (xCC : PySem.W.excIn K CC [.type "ValueError", .type "Exception", .type "BaseException", .type "object"] "ValueError.__new__" = true) (kCC : PySem.W.keepIn K (.ref CC) = true) (bCC : PySem.W.subIn K (.ref CC) (.type "BaseException") = some true) (tCC : PySem.W.typeIn K (.ref CC) = some (.type "type"))
    (eCC : PySem.W.exmOne K (.ref CC) (.ref CS) = some true) (iCC : PySem.W.kitOne K (.ref CC) (.ref CC) = some true) (qCC1 : PySem.W.findIn K (.ref CC) "__getattribute__" = some (some (.builtin "BaseException.__getattribute__"))) (qCC2 : PySem.W.findIn K (.ref CC) "__getattr__" = some none) (qCC3 : PySem.W.hasDictIn K CC = true)
    (qCC4 : PySem.W.findIn K (.ref CC) "__class__" = some (some (.builtin "object.__class__"))) (qCC5 : PySem.W.mroIn K CC (.type "object") = some true)
    (aCG : PySem.W.nsIn K mainGlobals "BadGiven" = some (some (.ref CG))) (xCG : PySem.W.excIn K CG [.type "ValueError", .type "Exception", .type "BaseException", .type "object"] "ValueError.__new__" = true) (kCG : PySem.W.keepIn K (.ref CG) = true) (bCG : PySem.W.subIn K (.ref CG) (.type "BaseException") = some true) (tCG : PySem.W.typeIn K (.ref CG) = some (.type "type"))
    (eCG : PySem.W.exmOne K (.ref CG) (.ref CS) = some true) (iCG : PySem.W.kitOne K (.ref CG) (.ref CG) = some true) (qCG1 : PySem.W.findIn K (.ref CG) "__getattribute__" = some (some (.builtin "BaseException.__getattribute__"))) (qCG2 : PySem.W.findIn K (.ref CG) "__getattr__" = some none) (qCG3 : PySem.W.hasDictIn K CG = true)
    (qCG4 : PySem.W.findIn K (.ref CG) "__class__" = some (some (.builtin "object.__class__"))) (qCG5 : PySem.W.mroIn K CG (.type "object") = some true)
    (aCH : PySem.W.nsIn K mainGlobals "BadHeld" = some (some (.ref CH))) (xCH : PySem.W.excIn K CH [.type "ValueError", .type "Exception", .type "BaseException", .type "object"] "ValueError.__new__" = true) (kCH : PySem.W.keepIn K (.ref CH) = true) (bCH : PySem.W.subIn K (.ref CH) (.type "BaseException") = some true) (tCH : PySem.W.typeIn K (.ref CH) = some (.type "type"))
    (eCH : PySem.W.exmOne K (.ref CH) (.ref CS) = some true) (iCH : PySem.W.kitOne K (.ref CH) (.ref CH) = some true) (qCH1 : PySem.W.findIn K (.ref CH) "__getattribute__" = some (some (.builtin "BaseException.__getattribute__"))) (qCH2 : PySem.W.findIn K (.ref CH) "__getattr__" = some none) (qCH3 : PySem.W.hasDictIn K CH = true)
    (qCH4 : PySem.W.findIn K (.ref CH) "__class__" = some (some (.builtin "object.__class__"))) (qCH5 : PySem.W.mroIn K CH (.type "object") = some true)
    (r1 : PySem.W.specialIn K (.builtin "object.__class__") "__get__" = some (some (.builtin "getset_descriptor.__get__"))) (r2 : PySem.W.takesIn K (.builtin "object.__class__") = some true) :
    GE.LawAtG l w K CX0 14 63 "script" mg fa h := by
  have e := hfa.symm.trans (PySem.W.mg_of X G a45)
  cases e
  have F0 := fun_mk (st := sIsNumber) l0 c0' k0
  have b0 := F0.binds (ps := ["thing"]) fun _ _ _ _ _ _ us hl => match us, hl with | [_], _ => rfl
  have g_0 := PySem.W.mg_of X G a0
  have F1 := fun_mk (st := sIsBelow) l1 c1' k1
  have b1 := F1.binds (ps := ["thing", "limit"]) fun _ _ _ _ _ _ us hl => match us, hl with | [_, _], _ => rfl
  have g_1 := PySem.W.mg_of X G a1
  have F2 := fun_mk (st := sIsBit) l2 c2' k2
  have b2 := F2.binds (ps := ["thing"]) fun _ _ _ _ _ _ us hl => match us, hl with | [_], _ => rfl
  have g_2 := PySem.W.mg_of X G a2
  have F3 := fun_mk (st := sIsReading) l3 c3' k3
  have b3 := F3.binds (ps := ["thing"]) fun _ _ _ _ _ _ us hl => match us, hl with | [_], _ => rfl
  have g_3 := PySem.W.mg_of X G a3
  have F4 := fun_mk (st := sIsTupleOf) l4 c4' k4
  have b4 := F4.binds (ps := ["thing", "many"]) fun _ _ _ _ _ _ us hl => match us, hl with | [_, _], _ => rfl
  have g_4 := PySem.W.mg_of X G a4
  have F5 := fun_mk (st := sIsBits) l5 c5' k5
  have b5 := F5.binds (ps := ["thing", "many"]) fun _ _ _ _ _ _ us hl => match us, hl with | [_, _], _ => rfl
  have g_5 := PySem.W.mg_of X G a5
  have F6 := fun_mk (st := sIsReadings) l6 c6' k6
  have b6 := F6.binds (ps := ["thing", "many"]) fun _ _ _ _ _ _ us hl => match us, hl with | [_, _], _ => rfl
  have g_6 := PySem.W.mg_of X G a6
  have F7 := fun_mk (st := sUpTo) l7 c7' k7
  have b7 := F7.binds (ps := ["thing", "most"]) fun _ _ _ _ _ _ us hl => match us, hl with | [_, _], _ => rfl
  have g_7 := PySem.W.mg_of X G a7
  have F8 := fun_mk (st := sIsSource) l8 c8' k8
  have b8 := F8.binds (ps := ["thing", "sizes"]) fun _ _ _ _ _ _ us hl => match us, hl with | [_, _], _ => rfl
  have g_8 := PySem.W.mg_of X G a8
  have F9 := fun_mk (st := sIsRegister) l9 c9' k9
  have b9 := F9.binds (ps := ["thing", "sizes"]) fun _ _ _ _ _ _ us hl => match us, hl with | [_, _], _ => rfl
  have g_9 := PySem.W.mg_of X G a9
  have F10 := fun_mk (st := sIsGate) l10 c10' k10
  have b10 := F10.binds (ps := ["thing", "sizes"]) fun _ _ _ _ _ _ us hl => match us, hl with | [_, _], _ => rfl
  have g_10 := PySem.W.mg_of X G a10
  have F11 := fun_mk (st := sIsCircuit) l11 c11' k11
  have b11 := F11.binds (ps := ["thing"]) fun _ _ _ _ _ _ us hl => match us, hl with | [_], _ => rfl
  have g_11 := PySem.W.mg_of X G a11
  have F12 := fun_mk (st := sCheckCircuit) l12 c12' k12
  have b12 := F12.binds (ps := ["circuit"]) fun _ _ _ _ _ _ us hl => match us, hl with | [_], _ => rfl
  have g_12 := PySem.W.mg_of X G a12
  have F13 := fun_mk (st := sCheckCase) l13 c13' k13
  have b13 := F13.binds (ps := ["circuit", "given", "held"]) fun _ _ _ _ _ _ us hl => match us, hl with | [_, _, _], _ => rfl
  have g_13 := PySem.W.mg_of X G a13
  have F14 := fun_mk (st := sSrcR) l14 c14' k14
  have b14 := F14.binds (ps := ["source", "given", "held", "gates"]) fun _ _ _ _ _ _ us hl => match us, hl with | [_, _, _, _], _ => rfl
  have g_14 := PySem.W.mg_of X G a14
  have F15 := fun_mk (st := sTable) l15 c15' k15
  have b15 := F15.binds (ps := ["table", "readings"]) fun _ _ _ _ _ _ us hl => match us, hl with | [_, _], _ => rfl
  have g_15 := PySem.W.mg_of X G a15
  have F16 := fun_mk (st := sGateNow) l16 c16' k16
  have b16 := F16.binds (ps := ["circuit", "gate", "given", "held", "gates"]) fun _ _ _ _ _ _ us hl => match us, hl with | [_, _, _, _, _], _ => rfl
  have g_16 := PySem.W.mg_of X G a16
  have F17 := fun_mk (st := sGateReaders) l17 c17' k17
  have b17 := F17.binds (ps := ["circuit"]) fun _ _ _ _ _ _ us hl => match us, hl with | [_], _ => rfl
  have g_17 := PySem.W.mg_of X G a17
  have F18 := fun_mk (st := sSureLaps) l18 c18' k18
  have b18 := F18.binds (ps := ["circuit", "given", "held"]) fun _ _ _ _ _ _ us hl => match us, hl with | [_, _, _], _ => rfl
  have g_18 := PySem.W.mg_of X G a18
  have F19 := fun_mk (st := sSureList) l19 c19' k19
  have b19 := F19.binds (ps := ["circuit", "given", "held"]) fun _ _ _ _ _ _ us hl => match us, hl with | [_, _, _], _ => rfl
  have g_19 := PySem.W.mg_of X G a19
  have F20 := fun_mk (st := sSureReadings) l20 c20' k20
  have b20 := F20.binds (ps := ["circuit", "given", "held"]) fun _ _ _ _ _ _ us hl => match us, hl with | [_, _, _], _ => rfl
  have g_20 := PySem.W.mg_of X G a20
  have F21 := fun_mk (st := sIsWhole) l21 c21' k21
  have b21 := F21.binds (ps := ["circuit", "given", "held"]) fun _ _ _ _ _ _ us hl => match us, hl with | [_, _, _], _ => rfl
  have g_21 := PySem.W.mg_of X G a21
  have F22 := fun_mk (st := sBegun) l22 c22' k22
  have b22 := F22.binds (ps := ["script"]) fun _ _ _ _ _ _ us hl => match us, hl with | [_], _ => rfl
  have g_22 := PySem.W.mg_of X G a22
  have F23 := fun_mk (st := sDraw) l23 c23' k23
  have b23 := F23.binds (ps := ["state", "size_here"]) fun _ _ _ _ _ _ us hl => match us, hl with | [_, _], _ => rfl
  have g_23 := PySem.W.mg_of X G a23
  have F24 := fun_mk (st := sPick) l24 c24' k24
  have b24 := F24.binds (ps := ["state", "several"]) fun _ _ _ _ _ _ us hl => match us, hl with | [_, _], _ => rfl
  have g_24 := PySem.W.mg_of X G a24
  have F25 := fun_mk (st := sMixed) l25 c25' k25
  have b25 := F25.binds (ps := ["state", "several"]) fun _ _ _ _ _ _ us hl => match us, hl with | [_, _], _ => rfl
  have g_25 := PySem.W.mg_of X G a25
  have F26 := fun_mk (st := sCaught) l26 c26' k26
  have b26 := F26.binds (ps := ["work"]) fun _ _ _ _ _ _ us hl => match us, hl with | [_], _ => rfl
  have g_26 := PySem.W.mg_of X G a26
  have F27 := fun_mk (st := sPower) l27 c27' k27
  have b27 := F27.binds (ps := ["number"]) fun _ _ _ _ _ _ us hl => match us, hl with | [_], _ => rfl
  have g_27 := PySem.W.mg_of X G a27
  have F28 := fun_mk (st := sBitsOf) l28 c28' k28
  have b28 := F28.binds (ps := ["number", "size"]) fun _ _ _ _ _ _ us hl => match us, hl with | [_, _], _ => rfl
  have g_28 := PySem.W.mg_of X G a28
  have F29 := fun_mk (st := sAllBits) l29 c29' k29
  have b29 := F29.binds (ps := ["size"]) fun _ _ _ _ _ _ us hl => match us, hl with | [_], _ => rfl
  have g_29 := PySem.W.mg_of X G a29
  have F30 := fun_mk (st := sGateBit) l30 c30' k30
  have b30 := F30.binds (ps := ["table", "bits"]) fun _ _ _ _ _ _ us hl => match us, hl with | [_, _], _ => rfl
  have g_30 := PySem.W.mg_of X G a30
  have F31 := fun_mk (st := sLawReading) l31 c31' k31
  have b31 := F31.binds (ps := ["table", "readings"]) fun _ _ _ _ _ _ us hl => match us, hl with | [_, _], _ => rfl
  have g_31 := PySem.W.mg_of X G a31
  have F32 := fun_mk (st := sLSource) l32 c32' k32
  have b32 := F32.binds (ps := ["source", "given", "held", "readings"]) fun _ _ _ _ _ _ us hl => match us, hl with | [_, _, _, _], _ => rfl
  have g_32 := PySem.W.mg_of X G a32
  have F33 := fun_mk (st := sLOne) l33 c33' k33
  have b33 := F33.binds (ps := ["gate", "given", "held", "readings"]) fun _ _ _ _ _ _ us hl => match us, hl with | [_, _, _, _], _ => rfl
  have g_33 := PySem.W.mg_of X G a33
  have F34 := fun_mk (st := sLSure) l34 c34' k34
  have b34 := F34.binds (ps := ["circuit", "given", "held"]) fun _ _ _ _ _ _ us hl => match us, hl with | [_, _, _], _ => rfl
  have g_34 := PySem.W.mg_of X G a34
  have F35 := fun_mk (st := sSomeSource) l35 c35' k35
  have b35 := F35.binds (ps := ["state", "inputs", "registers", "gates"]) fun _ _ _ _ _ _ us hl => match us, hl with | [_, _, _, _], _ => rfl
  have g_35 := PySem.W.mg_of X G a35
  have F36 := fun_mk (st := sLTable) l36 c36' k36
  have b36 := F36.binds (ps := ["state", "size"]) fun _ _ _ _ _ _ us hl => match us, hl with | [_, _], _ => rfl
  have g_36 := PySem.W.mg_of X G a36
  have F37 := fun_mk (st := sLCircuit) l37 c37' k37
  have b37 := F37.binds (ps := ["state", "most", "branches"]) fun _ _ _ _ _ _ us hl => match us, hl with | [_, _, _], _ => rfl
  have g_37 := PySem.W.mg_of X G a37
  have F38 := fun_mk (st := sCaseBits) l38 c38' k38
  have b38 := F38.binds (ps := ["state", "circuit"]) fun _ _ _ _ _ _ us hl => match us, hl with | [_, _], _ => rfl
  have g_38 := PySem.W.mg_of X G a38
  have F39 := fun_mk (st := sCaseR) l39 c39' k39
  have b39 := F39.binds (ps := ["state", "circuit"]) fun _ _ _ _ _ _ us hl => match us, hl with | [_, _], _ => rfl
  have g_39 := PySem.W.mg_of X G a39
  have F40 := fun_mk (st := sBadR) l40 c40' k40
  have b40 := F40.binds (ps := ["state", "size"]) fun _ _ _ _ _ _ us hl => match us, hl with | [_, _], _ => rfl
  have g_40 := PySem.W.mg_of X G a40
  have F41 := fun_mk (st := sByBy) l41 c41' k41
  have b41 := F41.binds (ps := ["state", "circuit", "given", "held"]) fun _ _ _ _ _ _ us hl => match us, hl with | [_, _, _, _], _ => rfl
  have g_41 := PySem.W.mg_of X G a41
  have F42 := fun_mk (st := sAgree) l42 c42' k42
  have b42 := F42.binds (ps := ["circuit", "given", "held", "readings"]) fun _ _ _ _ _ _ us hl => match us, hl with | [_, _, _, _], _ => rfl
  have g_42 := PySem.W.mg_of X G a42
  have F43 := fun_mk (st := sAllAg) l43 c43' k43
  have b43 := F43.binds (ps := ["circuit", "given", "held"]) fun _ _ _ _ _ _ us hl => match us, hl with | [_, _, _], _ => rfl
  have g_43 := PySem.W.mg_of X G a43
  have F44 := fun_mk (st := sChain) l44 c44' k44
  have b44 := F44.binds (ps := ["state"]) fun _ _ _ _ _ _ us hl => match us, hl with | [_], _ => rfl
  have g_44 := PySem.W.mg_of X G a44
  have F45 := fun_mk (st := sLaw) l45 c45' k45
  have b45 := F45.binds (ps := ["script"]) fun _ _ _ _ _ _ us hl => match us, hl with | [_], _ => rfl
  have g_45 := PySem.W.mg_of X G a45
  have y_int := PySem.W.mg_none_of X G z_int
  have y_len := PySem.W.mg_none_of X G z_len
  have y_abs := PySem.W.mg_none_of X G z_abs
  have y_all := PySem.W.mg_none_of X G z_all
  have y_enumerate := PySem.W.mg_none_of X G z_enumerate
  have y_isinstance := PySem.W.mg_none_of X G z_isinstance
  have y_list := PySem.W.mg_none_of X G z_list
  have y_tuple := PySem.W.mg_none_of X G z_tuple
  have y_bool := PySem.W.mg_none_of X G z_bool
  have y_range := PySem.W.mg_none_of X G z_range
  have y_min := PySem.W.mg_none_of X G z_min
  have y_max := PySem.W.mg_none_of X G z_max
  have y_sum := PySem.W.mg_none_of X G z_sum
  have y_sorted := PySem.W.mg_none_of X G z_sorted
  have y_zip := PySem.W.mg_none_of X G z_zip
  have y_repr := PySem.W.mg_none_of X G z_repr
  have y_set := PySem.W.mg_none_of X G z_set
  have ECC : ExcC K CC := excC_of qCC1 qCC2 bCC qCC3 qCC4 r1 r2 qCC5
  have ECG : ExcC K CG := excC_of qCG1 qCG2 bCG qCG3 qCG4 r1 r2 qCG5
  have ECH : ExcC K CH := excC_of qCH1 qCH2 bCH qCH3 qCH4 r1 r2 qCH5
  have hw1 := kb_sure_readings F20
  have hw2 := kb_is_whole F21
  refine ⟨PySem.W.fnOf "law" "law" (defArgs sLaw) (defBody sLaw) (defScope sLaw) .none kV45 dc45 pm45 an45 (.ref c45) ct45, [(c45, P45), (c5, P5), (c6, P6), (c10, P10), (c11, P11)], spLaw3 K [P5, P6, P10, P11] P45, fun p hp => ?_, fun p hp => ?_, fun p hp => ?_, fun s u => .of_eq rfl, fun H a ns hl _ hT hS => ?_, fun base KB GB TB => ?_⟩
  · simp only [List.mem_cons, List.not_mem_nil, or_false] at hp
    rcases hp with rfl | rfl | rfl | rfl | rfl
    · exact own _ m45 _ g_45 c45 P45 _ _ _ _ _ _ l45 rfl rfl x45 p45
    · exact own _ m5 _ g_5 c5 P5 _ _ _ _ _ _ l5 rfl rfl x5 p5
    · exact own _ m6 _ g_6 c6 P6 _ _ _ _ _ _ l6 rfl rfl x6 p6
    · exact own _ m10 _ g_10 c10 P10 _ _ _ _ _ _ l10 rfl rfl x10 p10
    · exact own _ m11 _ g_11 c11 P11 _ _ _ _ _ _ l11 rfl rfl x11 p11
  · simp only [List.mem_cons, List.not_mem_nil, or_false] at hp
    rcases hp with rfl | rfl | rfl | rfl | rfl
    · exact n45
    · exact n5
    · exact n6
    · exact n10
    · exact n11
  · simp only [List.mem_cons, List.not_mem_nil, or_false] at hp
    rcases hp with rfl | rfl | rfl | rfl | rfl
    · exact PySem.W.codeHd_of_K X o45
    · exact PySem.W.codeHd_of_K X o5
    · exact PySem.W.codeHd_of_K X o6
    · exact PySem.W.codeHd_of_K X o10
    · exact PySem.W.codeHd_of_K X o11
  · have hP : ∀ P ∈ [P45, P5, P6, P10, P11], H P = some (.tbl #[]) := fun P hP => by
      simp only [List.mem_cons, List.not_mem_nil, or_false] at hP
      rcases hP with e | e | e | e | e
      · rw [e]
        exact hT (c45, P45) (by simp)
      · rw [e]
        exact hT (c5, P5) (by simp)
      · rw [e]
        exact hT (c6, P6) (by simp)
      · rw [e]
        exact hT (c10, P10) (by simp)
      · rw [e]
        exact hT (c11, P11) (by simp)
    exact ⟨a, ns, rfl, hS, hl, fun P h => ⟨#[], hP P (List.mem_cons_of_mem _ h), True.intro⟩, LamX.TabS.nil (hP _ List.mem_cons_self), pd, fun _ => rfl⟩
  · have TL := TB (c45, P45) (by simp)
    have T5 := TB (c5, P5) (by simp)
    have U5 : GxR.TabB base mg c5 P5 := ⟨T5.code, T5.bm, T5.gP⟩
    have T6 := TB (c6, P6) (by simp)
    have U6 : GxR.TabB base mg c6 P6 := ⟨T6.code, T6.bm, T6.gP⟩
    have T10 := TB (c10, P10) (by simp)
    have U10 : GxR.TabB base mg c10 P10 := ⟨T10.code, T10.bm, T10.gP⟩
    have T11 := TB (c11, P11) (by simp)
    have U11 : GxR.TabB base mg c11 P11 := ⟨T11.code, T11.bm, T11.gP⟩
    have G0 := ok_number (P := l.prog) (w := w) (mg := mg) (base := base) F0 y_isinstance y_int y_bool
    have G1 := ok_below F1 G0 F0.kp b0 g_0
    have G2 := ok_bit F2 G1 F1.kp b1 g_1
    have G3 := ok_reading F3 G2 F2.kp b2 g_2
    have G4 := ok_tupleOf (P := l.prog) (w := w) (mg := mg) (base := base) F4 y_isinstance y_tuple y_len
    have G5 := ok_bits (TT := [P5, P6, P10, P11]) F5 rfl U5 (by simp) y_all G4 F4.kp b4 g_4 G2 F2.kp b2 g_2
    have G6 := ok_readings (TT := [P5, P6, P10, P11]) F6 rfl U6 (by simp) y_all G4 F4.kp b4 g_4 G3 F3.kp b3 g_3
    have G7 := ok_upTo (P := l.prog) (w := w) (mg := mg) (base := base) F7 y_isinstance y_tuple y_len
    have G8 := ok_source F8 G4 F4.kp b4 g_4 G1 F1.kp b1 g_1 G2 F2.kp b2 g_2
    have G9 := ok_register F9 G4 F4.kp b4 g_4 G8 F8.kp b8 g_8 G2 F2.kp b2 g_2
    have G10 := ok_gateT (TT := [P5, P6, P10, P11]) F10 rfl U10 (by simp) y_all y_len (PySem.W.mg_of X G v4) G4 F4.kp b4 g_4 G7 F7.kp b7 g_7 G5 F5.kp b5 g_5 G8 F8.kp b8 g_8
    have G11 := ok_circuitT (TT := [P5, P6, P10, P11]) F11 rfl U11 (by simp) y_all y_len (PySem.W.mg_of X G v0) (PySem.W.mg_of X G v1) (PySem.W.mg_of X G v2) (PySem.W.mg_of X G v3) G4 F4.kp b4 g_4 G7 F7.kp b7 g_7 G1 F1.kp b1 g_1 G9 F9.kp b9 g_9 G10 F10.kp b10 g_10 G8 F8.kp b8 g_8
    have G12 := ok_checkC (TT := [P5, P6, P10, P11]) F12 rfl xCC (PySem.W.mg_of X G aCC) kCC bCC tCC G11 F11.kp b11 g_11
    have G13 := ok_checkCase (TT := [P5, P6, P10, P11]) F13 rfl y_len xCG (PySem.W.mg_of X G aCG) kCG bCG tCG xCH (PySem.W.mg_of X G aCH) kCH bCH tCH G12 F12.kp b12 g_12 G6 F6.kp b6 g_6
    have G14 := ok_srcR (P := l.prog) (w := w) (mg := mg) (base := base) F14
    have G15 := ok_table (P := l.prog) (w := w) (mg := mg) (base := base) F15 y_min y_max
    have G16 := ok_gateNow F16 G14 F14.kp b14 g_14 G15 F15.kp b15 g_15
    have G17 := ok_readersG (P := l.prog) (w := w) (mg := mg) (base := base) F17 y_enumerate
    have G18 := ok_sureLaps F18 y_len y_list y_range y_sorted y_set G17 F17.kp b17 g_17 G16 F16.kp b16 g_16
    have G19 := ok_sureList F19 y_len G18 F18.kp b18 g_18
    have G20 := ok_sureReadings F20 y_tuple G13 F13.kp b13 g_13 G19 F19.kp b19 g_19
    have G21 := ok_isWhole F21 G13 F13.kp b13 g_13 G19 F19.kp b19 g_19
    have G22 := ok_begun (P := l.prog) (w := w) (mg := mg) (base := base) F22 y_abs
    have G23 := ok_draw (P := l.prog) (w := w) (mg := mg) (base := base) F23 y_int y_len
    have G24 := ok_pick F24 y_len G23 F23.kp b23 g_23
    have G25 := ok_mixed F25 y_list y_len ⟨_, _, G23, F23.kp, b23, g_23⟩
    have G27 := ok_power (P := l.prog) (w := w) (mg := mg) (base := base) F27 y_range
    have G28 := ok_bitsOf F28 y_range y_tuple G27 F27.kp b27 g_27
    have G29 := ok_allBits F29 y_range y_sorted G27 F27.kp b27 g_27 G28 F28.kp b28 g_28
    have G30 := ok_gateBit F30 y_enumerate y_sum G27 F27.kp b27 g_27
    have G31 := ok_LRL F31 y_enumerate y_len y_list y_zip y_min y_max G29 F29.kp b29 g_29 G30 F30.kp b30 g_30
    have G32 := ok_lsource (P := l.prog) (w := w) (mg := mg) (base := base) F32
    have G33 := ok_lone F33 ⟨_, _, G32, F32.kp, b32, g_32⟩ ⟨_, _, G31, F31.kp, b31, g_31⟩
    have G34 := ok_lsure F34 y_len y_enumerate ⟨_, _, G33, F33.kp, b33, g_33⟩
    have G35 := ok_someS F35 ⟨_, _, G23, F23.kp, b23, g_23⟩ ⟨_, _, G24, F24.kp, b24, g_24⟩
    have G36 := ok_ltable F36 y_tuple y_range G23 F23.kp b23 g_23 G27 F27.kp b27 g_27
    have G37 := ok_lcirc F37 y_range y_min y_tuple ⟨_, _, G23, F23.kp, b23, g_23⟩ ⟨_, _, G24, F24.kp, b24, g_24⟩ ⟨_, _, G35, F35.kp, b35, g_35⟩ ⟨_, _, G36, F36.kp, b36, g_36⟩
    have G38 := ok_caseB F38 y_range y_tuple ⟨_, _, G23, F23.kp, b23, g_23⟩
    have G39 := ok_caseR F39 y_tuple ⟨_, _, G23, F23.kp, b23, g_23⟩ ⟨_, _, G38, F38.kp, b38, g_38⟩
    have G40 := ok_badR F40 ⟨_, _, G24, F24.kp, b24, g_24⟩
    have G41 := ok_byBy F41 y_range y_list y_len ⟨_, _, G25, F25.kp, b25, g_25⟩ ⟨_, _, G33, F33.kp, b33, g_33⟩
    have G42 := ok_agree F42 y_enumerate ⟨_, _, G33, F33.kp, b33, g_33⟩
    have G43 := ok_allAg F43 ⟨_, _, G42, F42.kp, b42, g_42⟩
    have G44 := ok_chain F44 y_range y_tuple ⟨_, _, G23, F23.kp, b23, g_23⟩ ⟨_, _, G20, F20.kp, b20, g_20⟩
    have LF : LawF3 l.prog w K mg base [P5, P6, P10, P11] CC CG CH CS := {
      begun := ⟨_, _, G22, F22.kp, b22, g_22⟩
      draw := ⟨_, _, G23, F23.kp, b23, g_23⟩
      pick := ⟨_, _, G24, F24.kp, b24, g_24⟩
      circ := ⟨_, _, G37, F37.kp, b37, g_37⟩
      caseR := ⟨_, _, G39, F39.kp, b39, g_39⟩
      sure := ⟨_, _, G34, F34.kp, b34, g_34⟩
      byby := ⟨_, _, G41, F41.kp, b41, g_41⟩
      agree := ⟨_, _, G42, F42.kp, b42, g_42⟩
      allAg := ⟨_, _, G43, F43.kp, b43, g_43⟩
      badR := ⟨_, _, G40, F40.kp, b40, g_40⟩
      chain := ⟨_, _, G44, F44.kp, b44, g_44⟩
      sr := ⟨_, _, G20, F20.kp, b20, g_20, hw1⟩
      iw := ⟨_, _, G21, F21.kp, b21, g_21, hw2⟩
      caught := ⟨_, _, F26, F26.kp, b26, g_26⟩
      gS := PySem.W.mg_of X G aS
      gC := PySem.W.mg_of X G aCC
      gG := PySem.W.mg_of X G aCG
      gH := PySem.W.mg_of X G aCH
      eC := eCC
      eG := eCG
      eH := eCH
      cC := ECC
      cG := ECG
      cH := ECH
      iC := iCC
      iG := iCG
      iH := iCH }
    exact ok_law3 F45 rfl TL LF y_range y_min y_len y_repr y_list y_tuple y_zip y_isinstance
end K02

open PySem PySem.W PyProof.Rows
set_option Elab.async false
set_option maxRecDepth 100000 in
set_option maxHeartbeats 0 in
theorem PySem.Challenge.cw_restsure_k03_whole_sure_readings_are_lea_holds : PySem.Challenge.rw_restsure_k03_whole_sure_readings_are_lea.Holds := by
  w_on; o_law; k_head; (case hw => w_witness2)
  k_fill
  refine GE.walk_tabsG (l := PySem.Challenge.rw_restsure_k03_whole_sure_readings_are_lea) (n := 63) (k := 14) (x := "script") (CX := fun _ => L2.CX0) ["is_bits", "is_readings", "is_gate", "is_circuit", "law"] rfl (by decide) rfl ⟨rfl, by decide, by decide⟩ (by decide +kernel) (fun w h Y => PySem.W.km_in_of Y) ?F (fun _ _ _ _ _ z => z)
  case F =>
    intro w mg fa h Y KX G hmg own
    refine' K02.all_mk KX G hmg own (by simp) (by simp) (by simp) (by simp) (by simp) ?a0 ?l0 ?c0' ?k0 ?a1 ?l1 ?c1' ?k1 ?a2 ?l2 ?c2' ?k2 ?a3 ?l3 ?c3' ?k3 ?a4 ?l4 ?c4' ?k4 ?a5 ?l5 ?c5' ?k5 ?x5 ?p5 ?n5 ?o5 ?a6 ?l6 ?c6' ?k6 ?x6 ?p6 ?n6 ?o6 ?a7 ?l7 ?c7' ?k7 ?a8 ?l8 ?c8' ?k8 ?a9 ?l9 ?c9' ?k9 ?a10 ?l10 ?c10' ?k10 ?x10 ?p10 ?n10 ?o10 ?a11 ?l11 ?c11' ?k11 ?x11 ?p11 ?n11 ?o11 ?a12 ?l12 ?c12' ?k12 ?a13 ?l13 ?c13' ?k13 ?a14 ?l14 ?c14' ?k14 ?a15 ?l15 ?c15' ?k15 ?a16 ?l16 ?c16' ?k16 ?a17 ?l17 ?c17' ?k17 ?a18 ?l18 ?c18' ?k18 ?a19 ?l19 ?c19' ?k19 ?a20 ?l20 ?c20' ?k20 ?a21 ?l21 ?c21' ?k21 ?a22 ?l22 ?c22' ?k22 ?a23 ?l23 ?c23' ?k23 ?a24 ?l24 ?c24' ?k24 ?a25 ?l25 ?c25' ?k25 ?a26 ?l26 ?c26' ?k26 ?a27 ?l27 ?c27' ?k27 ?a28 ?l28 ?c28' ?k28 ?a29 ?l29 ?c29' ?k29 ?a30 ?l30 ?c30' ?k30 ?a31 ?l31 ?c31' ?k31 ?a32 ?l32 ?c32' ?k32 ?a33 ?l33 ?c33' ?k33 ?a34 ?l34 ?c34' ?k34 ?a35 ?l35 ?c35' ?k35 ?a36 ?l36 ?c36' ?k36 ?a37 ?l37 ?c37' ?k37 ?a38 ?l38 ?c38' ?k38 ?a39 ?l39 ?c39' ?k39 ?a40 ?l40 ?c40' ?k40 ?a41 ?l41 ?c41' ?k41 ?a42 ?l42 ?c42' ?k42 ?a43 ?l43 ?c43' ?k43 ?a44 ?l44 ?c44' ?k44 ?a45 ?l45 ?c45' ?k45 ?x45 ?p45 ?n45 ?o45 ?pd ?z_int ?z_len ?z_abs ?z_all ?z_enumerate ?z_isinstance ?z_list ?z_tuple ?z_bool ?z_range ?z_min ?z_max ?z_sum ?z_sorted ?z_zip ?z_repr ?z_set ?v0 ?v1 ?v2 ?v3 ?v4 ?aS ?aCC ?xCC ?kCC ?bCC ?tCC ?eCC ?iCC ?qCC1 ?qCC2 ?qCC3 ?qCC4 ?qCC5 ?aCG ?xCG ?kCG ?bCG ?tCG ?eCG ?iCG ?qCG1 ?qCG2 ?qCG3 ?qCG4 ?qCG5 ?aCH ?xCH ?kCH ?bCH ?tCH ?eCH ?iCH ?qCH1 ?qCH2 ?qCH3 ?qCH4 ?qCH5 ?r1 ?r2
    (case a0 => first | k_is | decide +kernel)
    (case l0 => first | k_is | decide +kernel)
    (case c0' => first | k_is | decide +kernel)
    (case k0 => first | k_is | decide +kernel)
    (case a1 => first | k_is | decide +kernel)
    (case l1 => first | k_is | decide +kernel)
    (case c1' => first | k_is | decide +kernel)
    (case k1 => first | k_is | decide +kernel)
    (case a2 => first | k_is | decide +kernel)
    (case l2 => first | k_is | decide +kernel)
    (case c2' => first | k_is | decide +kernel)
    (case k2 => first | k_is | decide +kernel)
    (case a3 => first | k_is | decide +kernel)
    (case l3 => first | k_is | decide +kernel)
    (case c3' => first | k_is | decide +kernel)
    (case k3 => first | k_is | decide +kernel)
    (case a4 => first | k_is | decide +kernel)
    (case l4 => first | k_is | decide +kernel)
    (case c4' => first | k_is | decide +kernel)
    (case k4 => first | k_is | decide +kernel)
    (case a5 => first | k_is | decide +kernel)
    (case l5 => first | k_is | decide +kernel)
    (case c5' => first | k_is | decide +kernel)
    (case k5 => first | k_is | decide +kernel)
    (case x5 => first | k_is | decide +kernel)
    (case p5 => rfl)
    (case n5 => first | kernel_rfl | rfl)
    (case o5 => first | kernel_rfl | rfl)
    (case a6 => first | k_is | decide +kernel)
    (case l6 => first | k_is | decide +kernel)
    (case c6' => first | k_is | decide +kernel)
    (case k6 => first | k_is | decide +kernel)
    (case x6 => first | k_is | decide +kernel)
    (case p6 => rfl)
    (case n6 => first | kernel_rfl | rfl)
    (case o6 => first | kernel_rfl | rfl)
    (case a7 => first | k_is | decide +kernel)
    (case l7 => first | k_is | decide +kernel)
    (case c7' => first | k_is | decide +kernel)
    (case k7 => first | k_is | decide +kernel)
    (case a8 => first | k_is | decide +kernel)
    (case l8 => first | k_is | decide +kernel)
    (case c8' => first | k_is | decide +kernel)
    (case k8 => first | k_is | decide +kernel)
    (case a9 => first | k_is | decide +kernel)
    (case l9 => first | k_is | decide +kernel)
    (case c9' => first | k_is | decide +kernel)
    (case k9 => first | k_is | decide +kernel)
    (case a10 => first | k_is | decide +kernel)
    (case l10 => first | k_is | decide +kernel)
    (case c10' => first | k_is | decide +kernel)
    (case k10 => first | k_is | decide +kernel)
    (case x10 => first | k_is | decide +kernel)
    (case p10 => rfl)
    (case n10 => first | kernel_rfl | rfl)
    (case o10 => first | kernel_rfl | rfl)
    (case a11 => first | k_is | decide +kernel)
    (case l11 => first | k_is | decide +kernel)
    (case c11' => first | k_is | decide +kernel)
    (case k11 => first | k_is | decide +kernel)
    (case x11 => first | k_is | decide +kernel)
    (case p11 => rfl)
    (case n11 => first | kernel_rfl | rfl)
    (case o11 => first | kernel_rfl | rfl)
    (case a12 => first | k_is | decide +kernel)
    (case l12 => first | k_is | decide +kernel)
    (case c12' => first | k_is | decide +kernel)
    (case k12 => first | k_is | decide +kernel)
    (case a13 => first | k_is | decide +kernel)
    (case l13 => first | k_is | decide +kernel)
    (case c13' => first | k_is | decide +kernel)
    (case k13 => first | k_is | decide +kernel)
    (case a14 => first | k_is | decide +kernel)
    (case l14 => first | k_is | decide +kernel)
    (case c14' => first | k_is | decide +kernel)
    (case k14 => first | k_is | decide +kernel)
    (case a15 => first | k_is | decide +kernel)
    (case l15 => first | k_is | decide +kernel)
    (case c15' => first | k_is | decide +kernel)
    (case k15 => first | k_is | decide +kernel)
    (case a16 => first | k_is | decide +kernel)
    (case l16 => first | k_is | decide +kernel)
    (case c16' => first | k_is | decide +kernel)
    (case k16 => first | k_is | decide +kernel)
    (case a17 => first | k_is | decide +kernel)
    (case l17 => first | k_is | decide +kernel)
    (case c17' => first | k_is | decide +kernel)
    (case k17 => first | k_is | decide +kernel)
    (case a18 => first | k_is | decide +kernel)
    (case l18 => first | k_is | decide +kernel)
    (case c18' => first | k_is | decide +kernel)
    (case k18 => first | k_is | decide +kernel)
    (case a19 => first | k_is | decide +kernel)
    (case l19 => first | k_is | decide +kernel)
    (case c19' => first | k_is | decide +kernel)
    (case k19 => first | k_is | decide +kernel)
    (case a20 => first | k_is | decide +kernel)
    (case l20 => first | k_is | decide +kernel)
    (case c20' => first | k_is | decide +kernel)
    (case k20 => first | k_is | decide +kernel)
    (case a21 => first | k_is | decide +kernel)
    (case l21 => first | k_is | decide +kernel)
    (case c21' => first | k_is | decide +kernel)
    (case k21 => first | k_is | decide +kernel)
    (case a22 => first | k_is | decide +kernel)
    (case l22 => first | k_is | decide +kernel)
    (case c22' => first | k_is | decide +kernel)
    (case k22 => first | k_is | decide +kernel)
    (case a23 => first | k_is | decide +kernel)
    (case l23 => first | k_is | decide +kernel)
    (case c23' => first | k_is | decide +kernel)
    (case k23 => first | k_is | decide +kernel)
    (case a24 => first | k_is | decide +kernel)
    (case l24 => first | k_is | decide +kernel)
    (case c24' => first | k_is | decide +kernel)
    (case k24 => first | k_is | decide +kernel)
    (case a25 => first | k_is | decide +kernel)
    (case l25 => first | k_is | decide +kernel)
    (case c25' => first | k_is | decide +kernel)
    (case k25 => first | k_is | decide +kernel)
    (case a26 => first | k_is | decide +kernel)
    (case l26 => first | k_is | decide +kernel)
    (case c26' => first | k_is | decide +kernel)
    (case k26 => first | k_is | decide +kernel)
    (case a27 => first | k_is | decide +kernel)
    (case l27 => first | k_is | decide +kernel)
    (case c27' => first | k_is | decide +kernel)
    (case k27 => first | k_is | decide +kernel)
    (case a28 => first | k_is | decide +kernel)
    (case l28 => first | k_is | decide +kernel)
    (case c28' => first | k_is | decide +kernel)
    (case k28 => first | k_is | decide +kernel)
    (case a29 => first | k_is | decide +kernel)
    (case l29 => first | k_is | decide +kernel)
    (case c29' => first | k_is | decide +kernel)
    (case k29 => first | k_is | decide +kernel)
    (case a30 => first | k_is | decide +kernel)
    (case l30 => first | k_is | decide +kernel)
    (case c30' => first | k_is | decide +kernel)
    (case k30 => first | k_is | decide +kernel)
    (case a31 => first | k_is | decide +kernel)
    (case l31 => first | k_is | decide +kernel)
    (case c31' => first | k_is | decide +kernel)
    (case k31 => first | k_is | decide +kernel)
    (case a32 => first | k_is | decide +kernel)
    (case l32 => first | k_is | decide +kernel)
    (case c32' => first | k_is | decide +kernel)
    (case k32 => first | k_is | decide +kernel)
    (case a33 => first | k_is | decide +kernel)
    (case l33 => first | k_is | decide +kernel)
    (case c33' => first | k_is | decide +kernel)
    (case k33 => first | k_is | decide +kernel)
    (case a34 => first | k_is | decide +kernel)
    (case l34 => first | k_is | decide +kernel)
    (case c34' => first | k_is | decide +kernel)
    (case k34 => first | k_is | decide +kernel)
    (case a35 => first | k_is | decide +kernel)
    (case l35 => first | k_is | decide +kernel)
    (case c35' => first | k_is | decide +kernel)
    (case k35 => first | k_is | decide +kernel)
    (case a36 => first | k_is | decide +kernel)
    (case l36 => first | k_is | decide +kernel)
    (case c36' => first | k_is | decide +kernel)
    (case k36 => first | k_is | decide +kernel)
    (case a37 => first | k_is | decide +kernel)
    (case l37 => first | k_is | decide +kernel)
    (case c37' => first | k_is | decide +kernel)
    (case k37 => first | k_is | decide +kernel)
    (case a38 => first | k_is | decide +kernel)
    (case l38 => first | k_is | decide +kernel)
    (case c38' => first | k_is | decide +kernel)
    (case k38 => first | k_is | decide +kernel)
    (case a39 => first | k_is | decide +kernel)
    (case l39 => first | k_is | decide +kernel)
    (case c39' => first | k_is | decide +kernel)
    (case k39 => first | k_is | decide +kernel)
    (case a40 => first | k_is | decide +kernel)
    (case l40 => first | k_is | decide +kernel)
    (case c40' => first | k_is | decide +kernel)
    (case k40 => first | k_is | decide +kernel)
    (case a41 => first | k_is | decide +kernel)
    (case l41 => first | k_is | decide +kernel)
    (case c41' => first | k_is | decide +kernel)
    (case k41 => first | k_is | decide +kernel)
    (case a42 => first | k_is | decide +kernel)
    (case l42 => first | k_is | decide +kernel)
    (case c42' => first | k_is | decide +kernel)
    (case k42 => first | k_is | decide +kernel)
    (case a43 => first | k_is | decide +kernel)
    (case l43 => first | k_is | decide +kernel)
    (case c43' => first | k_is | decide +kernel)
    (case k43 => first | k_is | decide +kernel)
    (case a44 => first | k_is | decide +kernel)
    (case l44 => first | k_is | decide +kernel)
    (case c44' => first | k_is | decide +kernel)
    (case k44 => first | k_is | decide +kernel)
    (case a45 => first | k_is | decide +kernel)
    (case l45 => first | k_is | decide +kernel)
    (case c45' => first | k_is | decide +kernel)
    (case k45 => first | k_is | decide +kernel)
    (case x45 => first | k_is | decide +kernel)
    (case p45 => rfl)
    (case n45 => first | kernel_rfl | rfl)
    (case o45 => first | kernel_rfl | rfl)
    (case pd => decide)
    (case z_int => first | k_is | decide +kernel)
    (case z_len => first | k_is | decide +kernel)
    (case z_abs => first | k_is | decide +kernel)
    (case z_all => first | k_is | decide +kernel)
    (case z_enumerate => first | k_is | decide +kernel)
    (case z_isinstance => first | k_is | decide +kernel)
    (case z_list => first | k_is | decide +kernel)
    (case z_tuple => first | k_is | decide +kernel)
    (case z_bool => first | k_is | decide +kernel)
    (case z_range => first | k_is | decide +kernel)
    (case z_min => first | k_is | decide +kernel)
    (case z_max => first | k_is | decide +kernel)
    (case z_sum => first | k_is | decide +kernel)
    (case z_sorted => first | k_is | decide +kernel)
    (case z_zip => first | k_is | decide +kernel)
    (case z_repr => first | k_is | decide +kernel)
    (case z_set => first | k_is | decide +kernel)
    (case v0 => first | k_is | decide +kernel)
    (case v1 => first | k_is | decide +kernel)
    (case v2 => first | k_is | decide +kernel)
    (case v3 => first | k_is | decide +kernel)
    (case v4 => first | k_is | decide +kernel)
    (case aS => first | k_is | decide +kernel)
    (case aCC => first | k_is | decide +kernel)
    (case xCC => first | k_exc | k_is | decide +kernel)
    (case kCC => first | k_is | decide +kernel)
    (case bCC => first | k_is | decide +kernel)
    (case tCC => first | k_is | decide +kernel)
    (case eCC => first | k_is | rfl | decide +kernel)
    (case iCC => first | k_is | rfl | decide +kernel)
    (case qCC1 => first | k_is | decide +kernel)
    (case qCC2 => first | k_is | decide +kernel)
    (case qCC3 => first | k_is | decide +kernel)
    (case qCC4 => first | k_is | decide +kernel)
    (case qCC5 => first | k_is | decide +kernel)
    (case aCG => first | k_is | decide +kernel)
    (case xCG => first | k_exc | k_is | decide +kernel)
    (case kCG => first | k_is | decide +kernel)
    (case bCG => first | k_is | decide +kernel)
    (case tCG => first | k_is | decide +kernel)
    (case eCG => first | k_is | rfl | decide +kernel)
    (case iCG => first | k_is | rfl | decide +kernel)
    (case qCG1 => first | k_is | decide +kernel)
    (case qCG2 => first | k_is | decide +kernel)
    (case qCG3 => first | k_is | decide +kernel)
    (case qCG4 => first | k_is | decide +kernel)
    (case qCG5 => first | k_is | decide +kernel)
    (case aCH => first | k_is | decide +kernel)
    (case xCH => first | k_exc | k_is | decide +kernel)
    (case kCH => first | k_is | decide +kernel)
    (case bCH => first | k_is | decide +kernel)
    (case tCH => first | k_is | decide +kernel)
    (case eCH => first | k_is | rfl | decide +kernel)
    (case iCH => first | k_is | rfl | decide +kernel)
    (case qCH1 => first | k_is | decide +kernel)
    (case qCH2 => first | k_is | decide +kernel)
    (case qCH3 => first | k_is | decide +kernel)
    (case qCH4 => first | k_is | decide +kernel)
    (case qCH5 => first | k_is | decide +kernel)
    (case r1 => first | k_is | decide +kernel)
    (case r2 => first | k_is | decide +kernel)
#print axioms PySem.Challenge.cw_restsure_k03_whole_sure_readings_are_lea_holds

