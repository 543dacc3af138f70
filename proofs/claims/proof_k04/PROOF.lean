import PyProof.Rows.All
import Wide.All
import OpenK.AllK
import Wide.FinOn
import HandS.ForMost
import HandS.AnyAll
import HandS.Nested
import HandS.GenList
import KE.KEqSeq
import HandS.IsInst
import HandS.Flow
import HandS.ForExc
import HandS.Lambda
import HandS.ExcIs
import KE.KDictKeyed
import KE.KDictCopyH
import KE.GoesNew
import KE.GoesMore
import KE.GoesZip
import KE.GoesEnum
import HandS.Sort
import HandS.TupSets
import HandS.Walk
import HandS.TupAny
import HandS.RaiseMore
import HandS.TupMul
import HandS.EndBits
import HandS.EndTab
import HandS.EndOwn
import PyProof.ReprRoads
import PyProof.SumWalk
import PyProof.ListOps
import PyProof.SliceList
import HandS.ExcValue
import HandS.SetFor
import HandS.SortInts
import HandS.Strs
import HandS.Conv
import PyProof.Rows.RegFStrParts
import HandS.Keys
import KE.KNest
import HandS.CallLocal
import HandS.TupLe
import PySem.Challenge.RW_restsure_k04_orders_and_closed_lots
set_option Elab.async false
set_option linter.all false
set_option maxRecDepth 100000
/-! all(e for x in xs), any(e for x in xs): the generator expression's own frame, its element any expression that HandS has rules for (calls too). -/
namespace GX
open PySem PySem.Spec L2
open PyProof.Rows GenW GxR NdefX

/-- only the generators differ -/
def Regen (s t : Shared) : Prop := ∃ G : Array GenState, AllBare G ∧ t = { s with gens := G }

/-- the frame of a generator expression that is walked from the around A, begun at s -/
abbrev gcx (X : Cx) (A : Around) (s : Shared) (H : Hp) (cenv : Env) (fp : List Addr) (pn : List (Addr × Obj)) : Cx :=
  { X with
    A := A.deeper cenv
    s_0 := s
    H_0 := H
    env := cenv
    outer := X.stack
    stack := cenv :: X.stack
    ex := fp
    fn := fun _ => false
    pn := pn
    xe := fun _ _ => False }

theorem over_gen {A : Around} {elt : Expr} {gs : List Comprehension} {sc : Scope} {pos : Pos} {it acc : Value} {env : Env} :
    A.over (.compLoop (.GeneratorExp elt gs sc pos) 0 it acc env) [] = A.deeper env := by
  first
    | rfl
    | (cases A; simp [Around.over, Around.deeper, marksOver, frameCount, unitsOf, envsOf, guardsOf, pushEnvs, pushGuards, Code.envs, Code.env?, Code.isFrame, Code.guards, Code.isGuard, Code.weight, Code.frames, Code.isCreation, Code.isCaller, Code.cUnits])
theorem over_start {A : Around} {elt : Expr} {gs : List Comprehension} {sc : Scope} {pos : Pos} {it acc : Value} {env : Env} :
    A.over (.compStart (.GeneratorExp elt gs sc pos) 0 it acc env) [] = A.deeper env := by
  first
    | rfl
    | (cases A; simp [Around.over, Around.deeper, marksOver, frameCount, unitsOf, envsOf, guardsOf, pushEnvs, pushGuards, Code.envs, Code.env?, Code.isFrame, Code.guards, Code.isGuard, Code.weight, Code.frames, Code.isCreation, Code.isCaller, Code.cUnits])

section
variable {X : Cx} {pins : List (Addr × Obj)} {σ : L2.St} {H : Hp} {s t : Shared}
theorem Regen.inv (r : Regen s t) (I : Inv X pins σ H s) : Inv X pins σ H t := by
  obtain ⟨G, hG, rfl⟩ := r
  exact ⟨I.ok, I.os, hG, I.base, I.loc, I.cell, I.free, I.freeC, I.pin, I.hok, I.len⟩

/-- what a generator expression's own frame is like when it is woken first -/
theorem gen_start {scope : Scope} {own : List (Str × Nat)} {fp : List Addr} {A : Around} {cenv : Env} {m : Str → Option Value} {a : Addr} {go : Obj}
    (I : Inv X pins σ H s) (ok : BlkOk X.N X.env.scope scope own) (hN : X.N.Nodup)
    (hcell : ∀ y ∈ scope.names, y.2 ≠ .cell) (hA : A.handled = none) (hfr : A.frames = some X.stack)
    (hfp : ∀ b ∈ fp, FpOk X pins H b ∧ b < s.heap.objs.size)
    (e1 : cenv.scope = scope) (e2 : cenv.locals = s.heap.objs.size) (e3 : cenv.globals = mainGlobals) (e4 : cenv.builtins = builtinsNs)
    (e5 : cenv.cells = cloFrom X.env.cells scope.names []) (e6 : cenv.frame = some s.heap.objs.size)
    (os' : t.os = s.os) (hb : AllBare t.gens) (kp : ∀ b o, s.heap.get? b = some o → t.heap.get? b = some o)
    (ns : t.heap.Ns s.heap.objs.size m) (ha : t.heap.get? a = some go) (hlt : s.heap.objs.size < a) (hd : ∀ v, go.data ≠ .cell v) :
    Inv (gcx X A s H cenv fp [(a, go)]) [] (wipe σ (own.map (·.2))) H t := by
  have hfree : ∀ y ∈ scope.names, y.2 = .free → ∃ c, X.env.cells.lookup y.1 = some c := fun y hy e => by
    rcases ok.free y hy e with k | k
    · exact I.ok.has _ (.inl k)
    · exact I.ok.has _ (.inr k)
  have back : ∀ {y : Str} {c : Addr}, cenv.cells.lookup y = some c → X.env.cells.lookup y = some c := fun {y c} e => by
    rw [e5] at e
    exact clo_cm hfree e
  have old : ∀ {y : Str} {c : Addr}, cenv.cells.lookup y = some c → c < s.heap.objs.size := fun {y c} e => by
    obtain ⟨v, z⟩ := I.cell y c (back e)
    exact z.lt
  have has : ∀ {y : Str}, scope.names.lookup y = some .free → ∃ c, cenv.cells.lookup y = some c ∧ X.env.cells.lookup y = some c := fun {y} hl => by
    have hy : (y, NameKind.free) ∈ scope.names := PySem.mem_of_lookup hl
    obtain ⟨c, hc⟩ := hfree _ hy rfl
    refine ⟨c, ?_, hc⟩
    rw [e5]
    exact clo_has hfree hy hc
  have kindIs : ∀ y : Str, cenv.kindOf y = scope.names.lookup y := fun y => by
    unfold Env.kindOf
    rw [e1]
  have aNew : H a = none := I.hok.fresh (Nat.le_of_lt hlt)
  have aFs : a ∉ frs X.stack := fun hm => by
    rcases List.mem_cons.mp (I.stkSub a hm) with z | z
    · have h1 := I.lt
      rw [← z] at h1
      exact absurd (Nat.lt_trans hlt h1) (Nat.lt_irrefl _)
    · exact I.nofs (Nat.le_of_lt hlt) z
  have okZ : (gcx X A s H cenv fp [(a, go)]).Ok := by
    refine ⟨I.ok.mod, ?_, e3, e4, Nat.le_of_eq e2.symm, fun y z c q1 q2 => I.ok.inj y z c (back q1) (back q2), fun y hy => ?_, fun y c q _ => (nomatch q), fun _ => hA,
      Around.frames_deeper hfr, .inr ⟨rfl, ?_⟩, fun b hb => ⟨?_, fun y c e z => ?_⟩, I.bs, Nat.le_trans I.ok.bsz I.sz, fun b o e hb => ?_, fun b hb z => ?_, I.stack, I.stkFree⟩
    · show cenv.scope.kind = _
      rw [e1]
      exact ok.kind
    · have hy : cenv.kindOf y = some .cell ∨ cenv.kindOf y = some .free := hy
      rw [kindIs y] at hy
      rcases hy with hy | hy
      · exact absurd rfl (hcell _ (PySem.mem_of_lookup hy))
      · obtain ⟨c, q, _⟩ := has hy
        exact ⟨c, q⟩
    · show cenv.frame = some cenv.locals
      rw [e6, e2]
    · show b ≠ cenv.locals
      rw [e2]
      exact Nat.ne_of_lt (hfp b hb).2
    · exact (hfp b hb).1.2.2.2.2.1 y c (back e) z
    · rcases (hfp b hb).1.2.2.2.1 with z | z
      · exact I.ok.noex b o e z
      · exact absurd (Nat.lt_of_lt_of_le (Heap.lt_size e) (Nat.le_trans I.ok.bsz z)) (Nat.lt_irrefl _)
    · rcases List.mem_cons.mp (I.stkSub b z) with z | z
      · exact (hfp b hb).1.2.1 z
      · exact (hfp b hb).1.2.2.1 z
  refine ⟨okZ, os', hb, Un.kept kp, ⟨m, ?_, fun i y av q1 q2 q3 => ?_⟩, fun y c e => ?_, ?_, fun y c e => I.freeC y c (back e), fun p hp => ?_, I.hok.kept kp, by rw [wipe_length]; exact I.len⟩
  · show t.heap.Ns cenv.locals m
    rw [e2]
    exact ns
  · obtain ⟨q2, hne⟩ := wipe_some q2
    have q3 : Vis cenv.scope y := q3
    rw [e1] at q3
    have hfr : scope.names.lookup y = some .free := by
      rcases q3 with q3 | q3 | q3
      · rcases ok.own _ (PySem.mem_of_lookup q3) (.inl rfl) with e' | e'
        · obtain ⟨p, hp, hpy⟩ := List.mem_map.mp e'
          have e8 := ok.ix p hp
          have e9 : p.1 = y := hpy
          rw [e9] at e8
          exact absurd (List.mem_map.mpr ⟨p, hp, nodup_ix hN e8 q1⟩) hne
        · exact absurd (List.mem_of_getElem? q1) e'
      · exact absurd rfl (hcell _ (PySem.mem_of_lookup q3))
      · exact q3
    obtain ⟨m0, hn, hl⟩ := I.loc
    have hvis : Vis X.env.scope y := (ok.free _ (PySem.mem_of_lookup hfr) rfl).elim (fun k => .inr (.inl k)) (fun k => .inr (.inr k))
    obtain ⟨w, r, q⟩ := hl i y av q1 q2 hvis
    obtain ⟨c, c1, c2⟩ := has hfr
    refine ⟨w, r, .inr ⟨.inr (by show cenv.kindOf y = _; rw [kindIs y]; exact hfr), c, c1, ?_⟩⟩
    rcases q with ⟨k, _⟩ | ⟨_, c', e', z⟩
    · have k : X.env.scope.names.lookup y = some .local := k
      rcases ok.free _ (PySem.mem_of_lookup hfr) rfl with k' | k'
      · rw [show X.env.scope.names.lookup y = _ from k'] at k
        cases k
      · rw [show X.env.scope.names.lookup y = _ from k'] at k
        cases k
    · rw [c2] at e'
      cases e'
      exact z.keeps kp
  · obtain ⟨w, z⟩ := I.cell y c (back e)
    exact ⟨w, z.keeps kp⟩
  · show H cenv.locals = none
    rw [e2]
    exact I.hok.fresh (Nat.le_refl _)
  · rcases List.mem_append.mp hp with hp | hp
    · rw [List.mem_singleton.mp hp]
      refine ⟨ha, aNew, ?_, aFs, hd⟩
      show a ≠ cenv.locals
      rw [e2]
      exact Nat.ne_of_gt hlt
    · cases hp
end

/-! ### the frame's segments -/
/-- handed out: a truth value; the consumer stops at stop -/
def gYld (Z : Cx) (τ : L2.St) (stop : Bool) (Q : VK) : Protocol := fun _ _ v s kap =>
  ∃ (c : Bool) (H : Hp), v = .bool c ∧ Inv Z [] τ H s ∧ (c = stop → Q (.bl stop) H) ∧ (c ≠ stop → ∀ t, Regen s t → kap (.send .none) t)
def gFin (Z : Cx) (τ : L2.St) (stop : Bool) (Q : VK) : Nat → Shared → Shared → Prop := fun _ _ s => ∃ H, Inv Z [] τ H s ∧ Q (.bl (!stop)) H
abbrev gEnd (Z : Cx) (τ : L2.St) (stop : Bool) (Q : VK) : GenEnd := fun n s₀ r s₁ => r = .ok .next ∧ gFin Z τ stop Q n s₀ s₁

/-- the loop as it is asked of a prover -/
def TurnsOf (J : It) (g : TG) (tt : TT) (te : TE) (vs : List Nat) (τ : L2.St) (stop : Bool) (Q : VK) (W : Nat → Nat → Hp → Prop) : Prop :=
  ∀ i m H, W i m H → (J.stop i H ∧ Q (.bl (!stop)) H) ∨ (J.go i H ∧ ∃ Nx : Hp → Prop, (∀ H', Nx H' → ∃ m', m' < m ∧ W (i + 1) m' H') ∧
    ∀ x H', J.yld i H x H' → g x τ H' fun σ2 H2 => wipe σ2 vs = τ ∧ tt σ2 H2 fun b H3 =>
      if b = true then te σ2 H3 fun y H4 => ∃ c : Bool, y = .bl c ∧ (c = stop → Q (.bl stop) H4) ∧ (c ≠ stop → Nx H4) else Nx H3)

section
variable {X : Cx} {A : Around} {s₁ : Shared} {H₁ : Hp} {cenv : Env} {fp : List Addr} {pn : List (Addr × Obj)} {tg elt iter : Expr} {ifs : List Expr} {scope : Scope} {pos : Pos} {it : Addr} {tn : Nat → Heap → Prop} {J : It} {g : TG} {tt : TT} {te : TE} {vs : List Nat} {τ : L2.St} {stop : Bool} {Q : VK} {W : Nat → Nat → Hp → Prop}
theorem seg_gx (hcalm : X.calm = true) (pg : PG (gcx X A s₁ H₁ cenv fp pn) tg g) (pt : PTs (gcx X A s₁ H₁ cenv fp pn) ifs tt) (pe : PE (gcx X A s₁ H₁ cenv fp pn) elt te)
    (T : Turn X.prog X.w X.K tg J fp it tn) (hco : cenv.scope.isCoroutine = false) (turn : TurnsOf J g tt te vs τ stop Q W) (hnp : ∀ p ∈ pn, p.1 ∉ fp) :
    ∀ (m n : Nat), m < n → ∀ (i : Nat) (s₀ s : Shared) (H : Hp), W i m H → Inv (gcx X A s₁ H₁ cenv fp pn) [] τ H s → tn i s.heap → (∀ b ∈ fp, H b = none) →
      Seg (model X.prog X.w) A (gEnd (gcx X A s₁ H₁ cenv fp pn) τ stop Q) (gYld (gcx X A s₁ H₁ cenv fp pn) τ stop Q) n s₀
        (.compLoop (.GeneratorExp elt [⟨tg, iter, ifs, 0⟩] scope pos) 0 (.ref it) .none cenv)
        ((model X.prog X.w).den (.compLoop (.GeneratorExp elt [⟨tg, iter, ifs, 0⟩] scope pos) 0 (.ref it) .none cenv)) [] s := by
  have stat : ∀ {σ' : L2.St} {H' : Hp} {s' : Shared}, Inv (gcx X A s₁ H₁ cenv fp pn) [] σ' H' s' → (∀ b ∈ fp, H' b = none) → ∀ b ∈ fp, FpOk (gcx X A s₁ H₁ cenv fp pn) [] H' b :=
    fun {σ' H' s'} I' hn b hb => ⟨hn b hb, (I'.ok.exf b hb).1, I'.ok.exfs b hb, .inl hb, fun x c e => (I'.ok.exf b hb).2 x c e, fun p hp z => by
      rcases List.mem_append.mp hp with hp | hp
      · exact hnp p hp (by rw [z]; exact hb)
      · cases hp⟩
  have noE : ∀ {α : Type} {u : Sem α} {q q' : α → Shared → Prop} {E : Value → Shared → Prop} {s' : Shared}, wpAny (model X.prog X.w) (gcx X A s₁ H₁ cenv fp pn).A u q (fun _ _ => False) s' → (∀ r s6, q r s6 → q' r s6) →
      wpAny (model X.prog X.w) (A.over (.compLoop (.GeneratorExp elt [⟨tg, iter, ifs, 0⟩] scope pos) 0 (.ref it) .none cenv) []) u q' E s' := fun {α u q q' E s'} h k => by
    rw [over_gen]
    exact wpAny_mono h k fun _ _ z => False.elim z
  intro m
  induction m using Nat.strongRecOn with
  | ind m ih =>
    intro n hmn i s₀ s H w I st hn
    show Seg _ A _ _ _ s₀ _ ((compTurn (.GeneratorExp elt [⟨tg, iter, ifs, 0⟩] scope pos) 0 (.ref it) .none cenv).onRaise (leaving cenv)) [] s
    rw [compTurn_gen, Sem.onRaise_eq_wrap]
    refine seg_bind_wrap (wpAny_standAt ?_)
    rcases turn i m H w with ⟨hs, qq⟩ | ⟨hgo, Nx, hNx, step⟩
    · refine seg_bind_wrap (noE (T.done (gcx X A s₁ H₁ cenv fp pn) rfl rfl rfl hcalm i [] s _ H (fun _ _ => False) I (stat I hn) st hs) fun r s6 ⟨hr, I6⟩ => ?_)
      subst hr
      exact seg_end (.ok .next) ⟨rfl, H, I6, qq⟩
    · refine seg_bind_wrap (noE (T.item (gcx X A s₁ H₁ cenv fp pn) rfl rfl rfl hcalm i [] s _ H (fun _ _ => False) I (stat I hn) st hgo) fun r s6 ⟨u, hr, h6⟩ => ?_)
      subst hr
      refine seg_bind_wrap (noE h6 fun _ s7 ⟨x, H7, I7, r7, y7, st7, n7⟩ => ?_)
      have I7' := I7.pinned (stat I7 n7) (T.obj _ _ st7)
      refine seg_bind_wrap (noE (pg.run _ s7 _ H7 x u _ I7' r7 (step x H7 y7)) fun _ s8 ⟨σ8, H8, I8, hw8, q8⟩ => ?_)
      refine seg_bind_wrap (noE (pt.run _ s8 σ8 H8 _ I8 q8) fun b s9 ⟨H9, I9, q9⟩ => ?_)
      -- back to the loop's own words
      have tidy : ∀ {s' : Shared} {H' : Hp}, Inv (gcx X A s₁ H₁ cenv fp pn) ([] ++ pinsAt fp s7.heap) σ8 H' s' →
          Inv (gcx X A s₁ H₁ cenv fp pn) [] τ H' s' ∧ tn (i + 1) s'.heap ∧ ∀ b ∈ fp, H' b = none := fun {s' H'} I' => by
        have pin' : ∀ b ∈ fp, ∀ o, s7.heap.get? b = some o → s'.heap.get? b = some o ∧ H' b = none := fun b hb o e =>
          let z := I'.pin (b, o) (List.mem_append_right _ (List.mem_append_right _ (mem_pinsAt hb e)))
          ⟨z.1, z.2.1⟩
        have hl : τ.length = σ8.length := by rw [← hw8, wipe_length]
        refine ⟨(I'.unpinned (pins := [])).weak hl (fun j v e => ?_), T.keep _ _ _ st7 fun b hb o e => (pin' b hb o e).1, fun b hb => ?_⟩
        · rw [← hw8] at e
          exact (wipe_some e).1
        · obtain ⟨o, e, _⟩ := T.obj _ _ st7 b hb
          exact (pin' b hb o e).2
      cases b with
      | false =>
        simp only [Bool.false_eq_true, if_false] at q9 ⊢
        obtain ⟨m', hm', w'⟩ := hNx H9 q9
        obtain ⟨J1, J2, J3⟩ := tidy I9
        exact seg_again rfl (ih m' hm' n (Nat.lt_trans hm' hmn) (i + 1) s₀ s9 H9 w' J1 J2 J3)
      | true =>
        simp only [if_true] at q9 ⊢
        have hy : ∀ v, yieldOut cenv v = yieldValue v := fun v => by simp only [yieldOut, hco, Bool.false_eq_true, if_false]
        simp only [hy]
        rw [Sem.bind_eq_wrap', Sem.bind_eq_wrap', Sem.wrap_wrap, Sem.wrap_wrap]
        refine seg_wrap (noE (pe.run _ s9 σ8 H9 _ I9 q9) fun z s10 ⟨yv, H10, I10, r10, c, ec, h1, h2⟩ => ?_)
        subst ec
        have ez : z = Value.bool c := r10
        subst ez
        obtain ⟨J1, J2, J3⟩ := tidy I10
        have pos' : ∃ n', n = n' + 1 := ⟨n - 1, by omega⟩
        obtain ⟨n', rfl⟩ := pos'
        refine seg_at (seg_yield rfl rfl rfl ⟨c, H10, rfl, J1, h1, fun hc s'' hr => ?_⟩)
        obtain ⟨m', hm', w'⟩ := hNx H10 (h2 hc)
        have hh : s''.heap = s10.heap := by
          obtain ⟨G, _, rfl⟩ := hr
          rfl
        exact seg_again rfl (ih m' hm' n' (by omega) (i + 1) s'' s'' H10 w' (hr.inv J1) (by rw [hh]; exact J2) J3)
end

/-! ### who asks: all(..), any(..) -/
section
variable {Z : Cx} {τ : L2.St} {Q : VK} {A : Around} {a : Addr} {g : Nat} {go : Obj} {R : Result → Shared → Prop}
theorem all_loop (hh : A.handled = none) (hd : A.depth < recursionLimit) (hpn : (a, go) ∈ Z.pn) (hgo : ∀ h : Heap, h.get? a = some go → h.IsGen a g)
    (hend : ∀ (b : Bool) (H : Hp) (s1 s' : Shared), Inv Z [] τ H s1 → Q (.bl b) H → s'.os = s1.os → AllBare s'.gens → (∀ x o, s1.heap.get? x = some o → s'.heap.get? x = some o) → R (.ok (.ret (.bool b))) s') :
    ∀ (n : Nat) (s : Shared) (gs : GenState), s.gens[g]? = some gs →
      gs.Goes (model Z.prog Z.w) A.in1.in1 (gEnd Z τ false Q) (gYld Z τ false Q) n (.send .none) (s.setGen g .running) → s.heap.get? a = some go → s.heap.NoLimit →
      codeAny (model Z.prog Z.w) A (.builtin "all.loop" ⟨[.ref a], []⟩) R s := by
  intro n
  induction n with
  | zero =>
    intro s gs hgs hG hga hl
    refine codeAny_builtin F.entry_all_loop ?_
    rw [Around.under_plainId F.plain_all_loop _]
    show wpAny _ A.in1 (pyNext (.ref a) >>= _) _ _ s
    refine wpAny_bind (wpAny_pyNext_genexpQ (A := A.in1) (P := gFin Z τ false Q) hh hl hd (hgo _ hga) hgs hG (fun v s₁ gs' hb hv => ?_) (fun s₁ hp h' hk => ?_))
    · obtain ⟨c, H, rfl, I, h1, h2⟩ := hv
      refine wpAny_bind (wpAny_holding (wpAny_truthy_bool ?_))
      refine wpAny_bind (wpAny_letGo ?_)
      cases c with
      | false =>
        simp only [Bool.false_eq_true, if_false]
        exact wpAny_bind (wpAny_rule (wpAny_pure (hend false H s₁ _ I (h1 rfl) rfl (allBare_setGen I.bare hb) fun _ _ e => e)))
      | true => exact False.elim (h2 (by decide) s₁ ⟨s₁.gens, I.bare, rfl⟩)
    · obtain ⟨H, I, q⟩ := hp
      exact wpAny_bind (wpAny_rule (wpAny_pure (hend true H s₁ _ I q rfl (allBare_setGen I.bare rfl) hk)))
  | succ n ih =>
    intro s gs hgs hG hga hl
    have hgl : g < s.gens.size := (Array.getElem?_eq_some_iff.mp hgs).1
    refine codeAny_builtin F.entry_all_loop ?_
    rw [Around.under_plainId F.plain_all_loop _]
    show wpAny _ A.in1 (pyNext (.ref a) >>= _) _ _ s
    refine wpAny_bind (wpAny_gsz (n := g + 1) hgl (wpAny_pyNext_genexpQ (A := A.in1) (P := gFin Z τ false Q) hh hl hd (hgo _ hga) hgs hG (fun v s₁ gs' hb hv => ?_) (fun s₁ hp h' hk => ?_)))
    · intro hsz
      obtain ⟨c, H, rfl, I, h1, h2⟩ := hv
      refine wpAny_bind (wpAny_holding (wpAny_truthy_bool ?_))
      refine wpAny_bind (wpAny_letGo ?_)
      cases c with
      | false =>
        simp only [Bool.false_eq_true, if_false]
        exact wpAny_bind (wpAny_rule (wpAny_pure (hend false H s₁ _ I (h1 rfl) rfl (allBare_setGen I.bare hb) fun _ _ e => e)))
      | true =>
        simp only [if_true]
        have hsz1 : g < s₁.gens.size := by
          have q : (s₁.setGen g gs').gens.size = s₁.gens.size := setGen_size _ _ _
          have hsz' : g + 1 ≤ (s₁.setGen g gs').gens.size := hsz
          omega
        have bare2 : AllBare (s₁.setGen g gs').gens := allBare_setGen I.bare hb
        exact wpAny_pure ⟨plainId_quiet F.plain_all_loop _, ih (s₁.setGen g gs') gs' (setGen_at hsz1) (h2 (by decide) _ ⟨_, allBare_setGen (s := s₁.setGen g gs') bare2 rfl, rfl⟩) (I.pin (a, go) (List.mem_append_left _ hpn)).1 I.nolimit⟩
    · intro _
      obtain ⟨H, I, q⟩ := hp
      exact wpAny_bind (wpAny_rule (wpAny_pure (hend true H s₁ _ I q rfl (allBare_setGen I.bare rfl) hk)))
theorem any_loop (hh : A.handled = none) (hd : A.depth < recursionLimit) (hpn : (a, go) ∈ Z.pn) (hgo : ∀ h : Heap, h.get? a = some go → h.IsGen a g)
    (hend : ∀ (b : Bool) (H : Hp) (s1 s' : Shared), Inv Z [] τ H s1 → Q (.bl b) H → s'.os = s1.os → AllBare s'.gens → (∀ x o, s1.heap.get? x = some o → s'.heap.get? x = some o) → R (.ok (.ret (.bool b))) s') :
    ∀ (n : Nat) (s : Shared) (gs : GenState), s.gens[g]? = some gs →
      gs.Goes (model Z.prog Z.w) A.in1.in1 (gEnd Z τ true Q) (gYld Z τ true Q) n (.send .none) (s.setGen g .running) → s.heap.get? a = some go → s.heap.NoLimit →
      codeAny (model Z.prog Z.w) A (.builtin "any.loop" ⟨[.ref a], []⟩) R s := by
  intro n
  induction n with
  | zero =>
    intro s gs hgs hG hga hl
    refine codeAny_builtin F.entry_any_loop ?_
    rw [Around.under_plainId F.plain_any_loop _]
    show wpAny _ A.in1 (pyNext (.ref a) >>= _) _ _ s
    refine wpAny_bind (wpAny_pyNext_genexpQ (A := A.in1) (P := gFin Z τ true Q) hh hl hd (hgo _ hga) hgs hG (fun v s₁ gs' hb hv => ?_) (fun s₁ hp h' hk => ?_))
    · obtain ⟨c, H, rfl, I, h1, h2⟩ := hv
      refine wpAny_bind (wpAny_holding (wpAny_truthy_bool ?_))
      refine wpAny_bind (wpAny_letGo ?_)
      cases c with
      | true =>
        simp only [if_true]
        exact wpAny_bind (wpAny_rule (wpAny_pure (hend true H s₁ _ I (h1 rfl) rfl (allBare_setGen I.bare hb) fun _ _ e => e)))
      | false => exact False.elim (h2 (by decide) s₁ ⟨s₁.gens, I.bare, rfl⟩)
    · obtain ⟨H, I, q⟩ := hp
      exact wpAny_bind (wpAny_rule (wpAny_pure (hend false H s₁ _ I q rfl (allBare_setGen I.bare rfl) hk)))
  | succ n ih =>
    intro s gs hgs hG hga hl
    have hgl : g < s.gens.size := (Array.getElem?_eq_some_iff.mp hgs).1
    refine codeAny_builtin F.entry_any_loop ?_
    rw [Around.under_plainId F.plain_any_loop _]
    show wpAny _ A.in1 (pyNext (.ref a) >>= _) _ _ s
    refine wpAny_bind (wpAny_gsz (n := g + 1) hgl (wpAny_pyNext_genexpQ (A := A.in1) (P := gFin Z τ true Q) hh hl hd (hgo _ hga) hgs hG (fun v s₁ gs' hb hv => ?_) (fun s₁ hp h' hk => ?_)))
    · intro hsz
      obtain ⟨c, H, rfl, I, h1, h2⟩ := hv
      refine wpAny_bind (wpAny_holding (wpAny_truthy_bool ?_))
      refine wpAny_bind (wpAny_letGo ?_)
      cases c with
      | true =>
        simp only [if_true]
        exact wpAny_bind (wpAny_rule (wpAny_pure (hend true H s₁ _ I (h1 rfl) rfl (allBare_setGen I.bare hb) fun _ _ e => e)))
      | false =>
        simp only [Bool.false_eq_true, if_false]
        have hsz1 : g < s₁.gens.size := by
          have q : (s₁.setGen g gs').gens.size = s₁.gens.size := setGen_size _ _ _
          have hsz' : g + 1 ≤ (s₁.setGen g gs').gens.size := hsz
          omega
        have bare2 : AllBare (s₁.setGen g gs').gens := allBare_setGen I.bare hb
        exact wpAny_pure ⟨plainId_quiet F.plain_any_loop _, ih (s₁.setGen g gs') gs' (setGen_at hsz1) (h2 (by decide) _ ⟨_, allBare_setGen (s := s₁.setGen g gs') bare2 rfl, rfl⟩) (I.pin (a, go) (List.mem_append_left _ hpn)).1 I.nolimit⟩
    · intro _
      obtain ⟨H, I, q⟩ := hp
      exact wpAny_bind (wpAny_rule (wpAny_pure (hend false H s₁ _ I q rfl (allBare_setGen I.bare rfl) hk)))
end

/-! ### the expression -/
/-- all(elt for tg in iter if ..) (stop := false), any(..) (stop := true): P the table of the running def's code object, which may grow -/
def tAsk (stop : Bool) (P : Addr) (wi : TI) (g : TG) (tt : TT) (te : TE) (vs : List Nat) : TE := fun σ H Q => wi σ H fun J H1 => TabG H1 P ∧ ∀ H2, Tabbed P H1 H2 →
  ∃ W : Nat → Nat → Hp → Prop, (∃ m, W 0 m H2) ∧ TurnsOf J g tt te vs (wipe σ vs) stop Q W

section
variable {X : Cx} {pins : List (Addr × Obj)} {σ : L2.St} {H : Hp} {s : Shared} {tg elt iter : Expr} {ifs : List Expr} {scope : Scope} {pos : Pos} {wi : TI} {g : TG} {tt : TT} {te : TE} {own : List (Str × Nat)} {c P : Addr} {k : Nat} {stop : Bool} {Q : VK}
/-- the generator is made; it goes when it is woken -/
theorem gen_made {Q' : Value → Shared → Prop} (hr : Room (k + 1) X.A) (TB : TabB X.base X.mg c P) (hcode : X.env.code = .ref c) (hc : X.calm = true) (hN : X.N.Nodup) (hi : PI X tg iter wi) (ok : BlkOk X.N X.env.scope scope own)
    (hcell : ∀ y ∈ scope.names, y.2 ≠ .cell) (hdot : scope.names.lookup (".0" : Str) = some NameKind.local) (hco : scope.isCoroutine = false)
    (hg : ∀ (A : Around) (s : Shared) (H : Hp) (C : Addr) (code : Value) (fp : List Addr) (pn : List (Addr × Obj)), PG (gcx X A s H (genEnv scope (cloFrom X.env.cells scope.names []) C code builtinsNs X.env) fp pn) tg g)
    (ht : ∀ (A : Around) (s : Shared) (H : Hp) (C : Addr) (code : Value) (fp : List Addr) (pn : List (Addr × Obj)), Room k (A.deeper (genEnv scope (cloFrom X.env.cells scope.names []) C code builtinsNs X.env)) → PTs (gcx X A s H (genEnv scope (cloFrom X.env.cells scope.names []) C code builtinsNs X.env) fp pn) ifs tt)
    (he : ∀ (A : Around) (s : Shared) (H : Hp) (C : Addr) (code : Value) (fp : List Addr) (pn : List (Addr × Obj)), Room k (A.deeper (genEnv scope (cloFrom X.env.cells scope.names []) C code builtinsNs X.env)) → PE (gcx X A s H (genEnv scope (cloFrom X.env.cells scope.names []) C code builtinsNs X.env) fp pn) elt te)
    (hs : ∀ v, genFold iter X.env v = pure v) (I : Inv X pins σ H s) (h : tAsk stop P wi g tt te (own.map (·.2)) σ H Q)
    (hQ : ∀ (Z : Cx) (τ : L2.St) (a : Addr) (j n : Nat) (go : Obj) (gs : GenState) (s5 : Shared), Z.prog = X.prog → Z.w = X.w → (a, go) ∈ Z.pn → (∀ h : Heap, h.get? a = some go → h.IsGen a j) → s5.gens[j]? = some gs →
      gs.Goes (model X.prog X.w) X.A.in1.in1 (gEnd Z τ stop Q) (gYld Z τ stop Q) n (.send .none) (s5.setGen j .running) → s5.heap.get? a = some go → s5.heap.NoLimit →
      (∀ (b : Bool) (H' : Hp) (s1 s' : Shared), Inv Z [] τ H' s1 → Q (.bl b) H' → s'.os = s1.os → AllBare s'.gens → (∀ x o, s1.heap.get? x = some o → s'.heap.get? x = some o) → EP X pins σ Q (.bool b) s') → Q' (.ref a) s5) :
    wpAny (model X.prog X.w) X.A (eval (.GeneratorExp elt [⟨tg, iter, ifs, 0⟩] scope pos) X.env) Q' X.xe s := by
  have hfree : ∀ y ∈ scope.names, y.2 = .free → ∃ c, X.env.cells.lookup y.1 = some c := fun y hy e => by
    rcases ok.free y hy e with q | q
    · exact I.ok.has _ (.inl q)
    · exact I.ok.has _ (.inr q)
  refine wpAny_GeneratorExp_make hco (closure_ok hfree) hcell hdot ok.kind (by have := hr.dp; omega) ?_ hs
  refine thn (hi.run pins s σ H _ I h) fun xv s1 hx => thn hx fun itv s2 h2 => ?_
  obtain ⟨it, fp, tn, J, H2, rfl, I2, T, st2, f2, ⟨ps, hP, htri⟩, hW⟩ := h2
  have hPs : s2.heap.get? P = some { cls := .none, data := .fields ps } := I2.hok P _ hP
  have cd : PySem.W.CodeHd s2.heap c P := TB.code.keeps I2.bk
  have neP : ∀ b ∈ fp, b ≠ P := fun b hb z => by
    have q := (f2 b hb).1
    rw [z, hP] at q
    cases q
  refine ⟨I2.nolimit, ?_⟩
  have cont : ∀ (code : Value) (h3 : Heap) (tk : Nat) (more : Array Value), Heap.ExtBut P s2.heap h3 → s2.heap.objs.size ≤ h3.objs.size → h3.get? P = some { cls := .none, data := .fields (ps ++ more) } → TriplesOk (ps ++ more).toList →
      wpAny (model X.prog X.w) X.A (builtinsFor X.env.globals X.env.builtins) (fun bi s₄ => ∀ h', h'.Ns s₄.heap.objs.size (fun y => if y = ".0" then some (.ref it) else none) → Heap.SameBut s₄.heap.objs.size (s₄.heap.push { cls := .type "frame", data := .dict #[] }) h' →
          Q' (.ref h'.objs.size) { s₄ with
            gens := s₄.gens.push (.fresh (.compStart (.GeneratorExp elt [⟨tg, iter, ifs, 0⟩] scope pos) 0 (.ref it) .none (genEnv scope (cloFrom X.env.cells scope.names []) s₄.heap.objs.size code bi X.env))),
            toks := s₄.toks + 1 + 1 + 1,
            heap := h'.push { cls := .type "generator", data := .fields #[.int s₄.gens.size 0, .str "<genexpr>" (s₄.toks + 1), .str (X.env.qual ++ "<genexpr>") (s₄.toks + 1 + 1)] } }) X.xe { s2 with heap := h3, toks := tk } := by
    intro code h3 tk more hx hsz hP3 htri3
    have I3 : Inv X pins σ (upd H2 P (.tbl (ps ++ more))) { s2 with heap := h3, toks := tk } := inv_tab (g' := s2.gens) (d' := s2.drawn) (t' := tk) I2 hP (fun b u hb e => hx b u hb e) hP3 I2.bare
    have hT : Tabbed P H2 (upd H2 P (.tbl (ps ++ more))) := ⟨⟨ps ++ more, upd_same, htri3⟩, fun b hb => upd_ne hb⟩
    obtain ⟨W, ⟨m0, w0⟩, turn⟩ := hW _ hT
    generalize hH3 : upd H2 P (.tbl (ps ++ more)) = H3 at I3 w0
    have n3 : ∀ b ∈ fp, H3 b = none := fun b hb => by
      rw [← hH3, upd_ne (neP b hb)]
      exact (f2 b hb).1
    generalize hs3 : ({ s2 with heap := h3, toks := tk } : Shared) = s3 at I3 ⊢
    have e3 : s3.heap = h3 := by rw [← hs3]
    have f3 : ∀ b ∈ fp, FpOk X pins H3 b ∧ b < s3.heap.objs.size := fun b hb => by
      obtain ⟨o, e, _⟩ := T.obj _ _ st2 b hb
      refine ⟨⟨n3 b hb, (f2 b hb).2⟩, ?_⟩
      rw [e3]
      exact Nat.lt_of_lt_of_le (Heap.lt_size e) hsz
    have st3 : tn 0 s3.heap := T.keep _ _ _ st2 fun b hb o e => by
      rw [e3]
      exact hx b o (neP b hb) e
    obtain ⟨bm, ob, b1, b2, b3, b4, b5, b6, b7, b8⟩ := TB.bm
    refine wpAny_builtinsFor (m := X.mg) (by rw [I3.ok.glob]; exact I3.mod.glob.keeps I3.bk) b1 b2 (I3.bk _ _ b5) b6 b7 b8 ?_
    intro h' hn' hs'
    have hsz' : h'.objs.size = s3.heap.objs.size + 1 := by rw [hs'.1, Heap.size_push]
    have keep' : ∀ b o, s3.heap.get? b = some o → h'.get? b = some o := fun b o e => hs'.extBut b o (Nat.ne_of_lt (Heap.lt_size e)) (Heap.get?_push_of_some _ e)
    generalize hgo : ({ cls := .type "generator", data := .fields #[.int s3.gens.size 0, .str "<genexpr>" (s3.toks + 1), .str (X.env.qual ++ "<genexpr>") (s3.toks + 1 + 1)] } : Obj) = go
    generalize hce : genEnv scope (cloFrom X.env.cells scope.names []) s3.heap.objs.size code builtinsNs X.env = ce
    have keep5 : ∀ b o, s3.heap.get? b = some o → (h'.push go).get? b = some o := fun b o e => Heap.get?_push_of_some _ (keep' b o e)
    have hget : (h'.push go).get? h'.objs.size = some go := Heap.get?_push_size _ (by rw [← hgo]; rfl)
    have hgd : ∀ v, go.data ≠ .cell v := fun v q => by
      rw [← hgo] at q
      cases q
    have hgen : ∀ h : Heap, h.get? h'.objs.size = some go → h.IsGen h'.objs.size s3.gens.size := fun h e => ⟨go, _, _, e, by rw [← hgo], by rw [← hgo], by rw [← hgo]⟩
    have hA : X.A.in1.in1.handled = none := hr.hd
    have hfr : X.A.in1.in1.frames = some X.stack := I3.ok.frames
    have hroom : Room k (X.A.in1.in1.deeper ce) := ⟨hr.hd, by
      have := hr.dp
      show X.A.depth + 1 + 3 * k + 5 < _
      omega, by
      have := hr.un
      show X.A.units + 1 + 1 + 3 + 16 * k + 200 < _
      omega⟩
    have start : ∀ t : Shared, t.os = s3.os → AllBare t.gens → t.heap = h'.push go → Inv (gcx X X.A.in1.in1 s3 H3 ce fp [(h'.objs.size, go)]) [] (wipe σ (own.map (·.2))) H3 t := fun t q1 q2 q3 => by
      have nsF : t.heap.Ns s3.heap.objs.size (fun y => if y = ".0" then some (.ref it) else none) := by
        rw [q3]
        exact hn'.push _
      subst hce
      exact gen_start I3 ok hN hcell hA hfr f3 rfl rfl I3.ok.glob rfl rfl rfl q1 q2 (fun b o e => by rw [q3]; exact keep5 b o e) nsF (by rw [q3]; exact hget) (by rw [hsz']; exact Nat.lt_succ_self _) hgd
    have notFp : ∀ p ∈ [(h'.objs.size, go)], p.1 ∉ fp := fun p hp hm => by
      rw [List.mem_singleton.mp hp] at hm
      have z := (f3 _ hm).2
      rw [hsz'] at z
      exact absurd (Nat.lt_of_succ_lt z) (Nat.lt_irrefl _)
    refine hQ (gcx X X.A.in1.in1 s3 H3 ce fp [(h'.objs.size, go)]) (wipe σ (own.map (·.2))) h'.objs.size s3.gens.size (m0 + 1) go _ _ rfl rfl (List.mem_singleton.mpr rfl) hgen (Array.getElem?_push_size ..) ⟨rfl, ?_⟩ hget (I3.nolimit.keeps keep5) fun b H' t1 t' I' q' qo qb qk => ?_
    · have pgZ : PG (gcx X X.A.in1.in1 s3 H3 ce fp [(h'.objs.size, go)]) tg g := by
        subst hce
        exact hg _ _ _ _ _ _ _
      have ptZ : PTs (gcx X X.A.in1.in1 s3 H3 ce fp [(h'.objs.size, go)]) ifs tt := by
        subst hce
        exact ht _ _ _ _ _ _ _ hroom
      have peZ : PE (gcx X X.A.in1.in1 s3 H3 ce fp [(h'.objs.size, go)]) elt te := by
        subst hce
        exact he _ _ _ _ _ _ _ hroom
      have hco' : ce.scope.isCoroutine = false := by
        rw [← hce]
        exact hco
      have woken : ∀ t : Shared, t.os = s3.os → AllBare t.gens → t.heap = h'.push go → Seg (model X.prog X.w) X.A.in1.in1 (gEnd (gcx X X.A.in1.in1 s3 H3 ce fp [(h'.objs.size, go)]) (wipe σ (own.map (·.2))) stop Q) (gYld (gcx X X.A.in1.in1 s3 H3 ce fp [(h'.objs.size, go)]) (wipe σ (own.map (·.2))) stop Q) (m0 + 1) t
          (.compStart (.GeneratorExp elt [⟨tg, iter, ifs, 0⟩] scope pos) 0 (.ref it) .none ce) ((model X.prog X.w).den (.compStart (.GeneratorExp elt [⟨tg, iter, ifs, 0⟩] scope pos) 0 (.ref it) .none ce)) [] t := fun t q1 q2 q3 => by
        have st5 : tn 0 t.heap := T.keep _ _ _ st3 fun b _ o e => by
          rw [q3]
          exact keep5 b o e
        have loop := seg_gx (iter := iter) (scope := scope) (pos := pos) hc pgZ ptZ peZ T hco' turn notFp m0 (m0 + 1) (Nat.lt_succ_self _) 0 t t H3 w0 (start t q1 q2 q3) st5 n3
        show Seg _ X.A.in1.in1 _ _ _ t _ ((compStart (.GeneratorExp elt [⟨tg, iter, ifs, 0⟩] scope pos) 0 (.ref it) .none ce).onRaise (leaving ce)) [] t
        unfold compStart
        rw [Sem.onRaise_eq_wrap]
        show Seg _ X.A.in1.in1 _ _ _ t _ ((ask >>= _).wrap _ _ _ _) [] t
        refine seg_bind_wrap (wpAny_askSetting ?_)
        split
        · exact seg_again rfl loop
        · first
            | exact seg_bind_wrap (wpAny_rule (seg_bind_wrap (wpAny_standAt (seg_bind_wrap (T.self _ 0 t _ _ st5 (seg_again rfl loop))))))
            | (refine seg_bind_wrap (wpAny_rule ?_)
               show Seg _ X.A.in1.in1 _ _ _ t _ ((standAt iter.pos >>= _).wrap _ _ _ _) [] t
               exact seg_bind_wrap (wpAny_standAt (seg_bind_wrap (T.self _ 0 t _ _ st5 (seg_again rfl loop)))))
      exact woken _ rfl (allBare_setGen (s := { s3 with gens := s3.gens.push _, heap := h'.push go, toks := s3.toks + 1 + 1 + 1 }) (AllBare.push I3.bare rfl) rfl) rfl
    · have hfpX : ∀ b ∈ fp, (b ∈ X.ex ∨ X.s_0.heap.objs.size ≤ b) ∧ b ≠ X.env.locals ∧ (∀ x c, X.env.cells.lookup x = some c → c ≠ b) ∧ ∀ p ∈ X.pn ++ pins, p.1 ≠ b := fun b hb =>
        ⟨(f3 b hb).1.2.2.2.1, (f3 b hb).1.2.1, (f3 b hb).1.2.2.2.2.1, (f3 b hb).1.2.2.2.2.2⟩
      have un : Un (frs X.stack) fp H3 H' s3.heap t1.heap := I'.base
      have un2 : Un (frs X.stack) fp H3 H' s3.heap t'.heap := un.trans (Un.kept qk)
      exact ⟨.bl b, H', I3.call' (ch := fp) (qo.trans I'.os) un2 (I'.hok.kept qk) qb hfpX, rfl, q'⟩
  cases hf : codeAmong pos ps.toList with
  | none =>
    refine wpAny_genexprCodeX hcode (cd.code hPs htri) (cd.tab hPs) hf fun c' h3 tk hx hge hlt hco' _ htab' _ => ?_
    obtain ⟨o1, vs, f1, tf, fl, tg', inF, tx, tt', op, _, _, _, _, _, _, _, _, _, htr, _⟩ := hco'
    exact cont _ h3 tk _ hx (Nat.le_trans hge (Nat.le_of_lt hlt)) htab'.2 htr
  | some cv =>
    refine wpAny_genexprCode_hit hcode (cd.code hPs htri) hf ?_
    exact cont cv s2.heap s2.toks #[] (Heap.ExtBut.refl _ _) (Nat.le_refl _) (by simpa using hPs) (by simpa using htri)
/-- what is asked of the generator expression's own names -/
structure GenNames (scope : Scope) : Prop where
  nocell : ∀ y ∈ scope.names, y.2 ≠ .cell
  dot : scope.names.lookup (".0" : Str) = some NameKind.local
  plain : scope.isCoroutine = false
def genNamesB (scope : Scope) : Bool := (scope.names.all fun y => decide (y.2 ≠ .cell)) && decide (scope.names.lookup (".0" : Str) = some NameKind.local) && !scope.isCoroutine
theorem genNames_by (h : genNamesB scope = true) : GenNames scope := by
  unfold genNamesB at h
  simp only [Bool.and_eq_true, List.all_eq_true, decide_eq_true_eq, Bool.not_eq_true'] at h
  exact ⟨h.1.1, h.1.2, h.2⟩
theorem pe_all {p pos' : Pos} (hr : Room (k + 1) X.A) (hl : Gl X "all") (hm : X.mg "all" = none) (TB : TabB X.base X.mg c P) (hcode : X.env.code = .ref c) (hc : X.calm = true) (hN : X.N.Nodup) (hi : PI X tg iter wi) (ok : BlkOk X.N X.env.scope scope own) (gn : GenNames scope)
    (hg : ∀ (A : Around) (s : Shared) (H : Hp) (C : Addr) (code : Value) (fp : List Addr) (pn : List (Addr × Obj)), PG (gcx X A s H (genEnv scope (cloFrom X.env.cells scope.names []) C code builtinsNs X.env) fp pn) tg g)
    (ht : ∀ (A : Around) (s : Shared) (H : Hp) (C : Addr) (code : Value) (fp : List Addr) (pn : List (Addr × Obj)), Room k (A.deeper (genEnv scope (cloFrom X.env.cells scope.names []) C code builtinsNs X.env)) → PTs (gcx X A s H (genEnv scope (cloFrom X.env.cells scope.names []) C code builtinsNs X.env) fp pn) ifs tt)
    (he : ∀ (A : Around) (s : Shared) (H : Hp) (C : Addr) (code : Value) (fp : List Addr) (pn : List (Addr × Obj)), Room k (A.deeper (genEnv scope (cloFrom X.env.cells scope.names []) C code builtinsNs X.env)) → PE (gcx X A s H (genEnv scope (cloFrom X.env.cells scope.names []) C code builtinsNs X.env) fp pn) elt te)
    (hs : ∀ v, genFold iter X.env v = pure v := by intro _; rfl) (hb : bootBuiltins "all" = some (.builtin "all") := by decide +kernel)
    (hst : starEach [.GeneratorExp elt [⟨tg, iter, ifs, 0⟩] scope pos] X.env = (false, eval (.GeneratorExp elt [⟨tg, iter, ifs, 0⟩] scope pos) X.env) :: starEach [] X.env := by rfl) :
    PE X (.Call (.Name "all" p) [.GeneratorExp elt [⟨tg, iter, ifs, 0⟩] scope pos] [] pos') (tAsk false P wi g tt te (own.map (·.2))) := by
  refine ⟨fun pins s σ H Q I h => ?_⟩
  refine wpAny_Call_Name_kw (ld_blt I hl hm hb ?_)
  refine callWith_builtin1 ?_ hst (by rfl)
  rw [hst]
  show wpAny _ _ (spliced ((false, eval (.GeneratorExp elt [⟨tg, iter, ifs, 0⟩] scope pos) X.env) :: backTo pos' (starEach [] X.env))) _ _ s
  refine Calls.spliced_cons (gen_made hr TB hcode hc hN hi ok gn.nocell gn.dot gn.plain hg ht he hs I h fun Z τ a j n go gs s5 hp hw hpn hgo hgs hG hga hlim hend => ?_)
  refine Calls.spliced_nil (call_function_tree F.kind_all F.plain_all F.entry_all (F.args_all1 _) ?_)
  unfold Builtin.«all»
  refine wpAny_bind (m := oneArg "all" _) (wpAny_pure (wpAny_bind (wpAny_pyIter_gen (hgo _ hga) ?_)))
  refine wpAny_pure ⟨plainId_quiet F.plain_all_loop _, ?_⟩
  rw [← hp, ← hw] at hG ⊢
  exact all_loop (A := X.A) hr.hd hr.depth hpn hgo hend n s5 gs hgs hG hga hlim
theorem pe_any {p pos' : Pos} (hr : Room (k + 1) X.A) (hl : Gl X "any") (hm : X.mg "any" = none) (TB : TabB X.base X.mg c P) (hcode : X.env.code = .ref c) (hc : X.calm = true) (hN : X.N.Nodup) (hi : PI X tg iter wi) (ok : BlkOk X.N X.env.scope scope own) (gn : GenNames scope)
    (hg : ∀ (A : Around) (s : Shared) (H : Hp) (C : Addr) (code : Value) (fp : List Addr) (pn : List (Addr × Obj)), PG (gcx X A s H (genEnv scope (cloFrom X.env.cells scope.names []) C code builtinsNs X.env) fp pn) tg g)
    (ht : ∀ (A : Around) (s : Shared) (H : Hp) (C : Addr) (code : Value) (fp : List Addr) (pn : List (Addr × Obj)), Room k (A.deeper (genEnv scope (cloFrom X.env.cells scope.names []) C code builtinsNs X.env)) → PTs (gcx X A s H (genEnv scope (cloFrom X.env.cells scope.names []) C code builtinsNs X.env) fp pn) ifs tt)
    (he : ∀ (A : Around) (s : Shared) (H : Hp) (C : Addr) (code : Value) (fp : List Addr) (pn : List (Addr × Obj)), Room k (A.deeper (genEnv scope (cloFrom X.env.cells scope.names []) C code builtinsNs X.env)) → PE (gcx X A s H (genEnv scope (cloFrom X.env.cells scope.names []) C code builtinsNs X.env) fp pn) elt te)
    (hs : ∀ v, genFold iter X.env v = pure v := by intro _; rfl) (hb : bootBuiltins "any" = some (.builtin "any") := by decide +kernel)
    (hst : starEach [.GeneratorExp elt [⟨tg, iter, ifs, 0⟩] scope pos] X.env = (false, eval (.GeneratorExp elt [⟨tg, iter, ifs, 0⟩] scope pos) X.env) :: starEach [] X.env := by rfl) :
    PE X (.Call (.Name "any" p) [.GeneratorExp elt [⟨tg, iter, ifs, 0⟩] scope pos] [] pos') (tAsk true P wi g tt te (own.map (·.2))) := by
  refine ⟨fun pins s σ H Q I h => ?_⟩
  refine wpAny_Call_Name_kw (ld_blt I hl hm hb ?_)
  refine callWith_builtin1 ?_ hst (by rfl)
  rw [hst]
  show wpAny _ _ (spliced ((false, eval (.GeneratorExp elt [⟨tg, iter, ifs, 0⟩] scope pos) X.env) :: backTo pos' (starEach [] X.env))) _ _ s
  refine Calls.spliced_cons (gen_made hr TB hcode hc hN hi ok gn.nocell gn.dot gn.plain hg ht he hs I h fun Z τ a j n go gs s5 hp hw hpn hgo hgs hG hga hlim hend => ?_)
  refine Calls.spliced_nil (call_function_tree F.kind_any F.plain_any F.entry_any (F.args_any1 _) ?_)
  unfold Builtin.«any»
  refine wpAny_bind (m := oneArg "any" _) (wpAny_pure (wpAny_bind (wpAny_pyIter_gen (hgo _ hga) ?_)))
  refine wpAny_pure ⟨plainId_quiet F.plain_any_loop _, ?_⟩
  rw [← hp, ← hw] at hG ⊢
  exact any_loop (A := X.A) hr.hd hr.depth hpn hgo hend n s5 gs hgs hG hga hlim
end
end GX

set_option Elab.async false
set_option linter.all false
set_option maxRecDepth 100000
/-! The law's drawing: _law_begun, _law_draw, _law_pick. -/
namespace K02
open PySem PySem.Spec L2
open PyProof.Rows
def top (i : Nat) : Stmt := PySem.Challenge.pw_restsure_k04_orders_and_closed_lots.main.body.getD i (.Pass ⟨0, 0, 0, 0⟩)
abbrev sBegun : Stmt := top 42 -- _law_begun
abbrev sDraw : Stmt := top 43 -- _law_draw
abbrev sPick : Stmt := top 44 -- _law_pick

/-! ### the state of the draws -/
abbrev kLarge : Key := Sum.inr ("large" : Str)
abbrev kCells : Key := Sum.inr ("cells" : Str)
abbrev kLeft : Key := Sum.inr ("left" : Str)
abbrev kTurn : Key := Sum.inr ("turn" : Str)
def stD (lg cl : Addr) (left turn : Int) : List (Key × V) := [(kLarge, .ref lg), (kCells, .ref cl), (kLeft, .int left), (kTurn, .int turn)]
theorem sne1 : ¬ ("large" : Str) = "cells" := by decide +kernel
theorem sne2 : ¬ ("large" : Str) = "left" := by decide +kernel
theorem sne3 : ¬ ("large" : Str) = "turn" := by decide +kernel
theorem sne4 : ¬ ("cells" : Str) = "left" := by decide +kernel
theorem sne5 : ¬ ("cells" : Str) = "turn" := by decide +kernel
theorem sne6 : ¬ ("left" : Str) = "turn" := by decide +kernel
theorem sne7 : ¬ ("turn" : Str) = "left" := by decide +kernel
theorem kne1 : ¬ kLarge = kCells := fun z => sne1 (Sum.inr.inj z)
theorem kne2 : ¬ kLarge = kLeft := fun z => sne2 (Sum.inr.inj z)
theorem kne3 : ¬ kLarge = kTurn := fun z => sne3 (Sum.inr.inj z)
theorem kne4 : ¬ kCells = kLeft := fun z => sne4 (Sum.inr.inj z)
theorem kne5 : ¬ kCells = kTurn := fun z => sne5 (Sum.inr.inj z)
theorem kne6 : ¬ kLeft = kTurn := fun z => sne6 (Sum.inr.inj z)
theorem st_large (lg cl : Addr) (a b : Int) : valV (stD lg cl a b) kLarge = some (.ref lg) := valV_pos rfl
theorem st_cells (lg cl : Addr) (a b : Int) : valV (stD lg cl a b) kCells = some (.ref cl) := by
  unfold stD
  rw [valV_neg kne1]
  exact valV_pos rfl
theorem st_left (lg cl : Addr) (a b : Int) : valV (stD lg cl a b) kLeft = some (.int a) := by
  unfold stD
  rw [valV_neg kne2, valV_neg kne4]
  exact valV_pos rfl
theorem st_turn (lg cl : Addr) (a b : Int) : valV (stD lg cl a b) kTurn = some (.int b) := by
  unfold stD
  rw [valV_neg kne3, valV_neg kne5, valV_neg kne6]
  exact valV_pos rfl
theorem put_left (lg cl : Addr) (a b c : Int) : putK (stD lg cl a b) kLeft (.int c) = stD lg cl c b := by
  unfold putK stD
  simp [sne2, sne4, sne7]
theorem put_turn (lg cl : Addr) (a b c : Int) : putK (stD lg cl a b) kTurn (.int c) = stD lg cl a c := by
  unfold putK stD
  simp [sne3, sne5, sne6]

theorem merge_st (lg cl : Addr) (a b : Int) : mergeK [] (stD lg cl a b) = stD lg cl a b := by
  unfold mergeK putK stD
  simp [sne1, sne2, sne3, sne4, sne5, sne6]
structure StAt (H : Hp) (st lg cl : Addr) (ls cs : List Int) (left turn : Int) (t : Nat) : Prop where
  d : H st = some (.dK (stD lg cl left turn))
  l : H lg = some (.lst (ls.map V.int))
  c : H cl = some (.lst (cs.map V.int))
  lp : ∀ x ∈ ls, 0 ≤ x
  l0 : 0 ≤ left
  t0 : 0 ≤ turn
  tt : turn ≤ t
  ll : ls.length ≤ 63
  cc : cs.length ≤ 63
  ne : lg ≠ cl
/-- the state of the draws stands at st, its lists at lg and cl; at most t turns are done -/
def StOk (H : Hp) (st lg cl : Addr) (t : Nat) : Prop := ∃ ls cs left turn, StAt H st lg cl ls cs left turn t
theorem StAt.ne1 {H : Hp} {st lg cl : Addr} {ls cs : List Int} {left turn : Int} {t : Nat} (S : StAt H st lg cl ls cs left turn t) : lg ≠ st := ne_of S.l S.d (by intro z; cases z)
theorem StAt.ne2 {H : Hp} {st lg cl : Addr} {ls cs : List Int} {left turn : Int} {t : Nat} (S : StAt H st lg cl ls cs left turn t) : cl ≠ st := ne_of S.c S.d (by intro z; cases z)
theorem StAt.keep {H H' : Hp} {st lg cl : Addr} {ls cs : List Int} {left turn : Int} {t : Nat} (S : StAt H st lg cl ls cs left turn t) (k : Same H H') : StAt H' st lg cl ls cs left turn t :=
  ⟨k _ _ S.d, k _ _ S.l, k _ _ S.c, S.lp, S.l0, S.t0, S.tt, S.ll, S.cc, S.ne⟩
theorem StOk.keep {H H' : Hp} {st lg cl : Addr} {t : Nat} (S : StOk H st lg cl t) (k : Same H H') : StOk H' st lg cl t := by
  obtain ⟨ls, cs, left, turn, S⟩ := S
  exact ⟨ls, cs, left, turn, S.keep k⟩
/-- all but the state of the draws is as it was -/
def But (st lg : Addr) (H H' : Hp) : Prop := ∀ b o, H b = some o → b ≠ st → b ≠ lg → H' b = some o
theorem But.refl (st lg : Addr) (H : Hp) : But st lg H H := fun _ _ h _ _ => h
theorem But.trans {st lg : Addr} {H H1 H2 : Hp} (a : But st lg H H1) (b : But st lg H1 H2) : But st lg H H2 := fun c o h n1 n2 => b c o (a c o h n1 n2) n1 n2
theorem But.of {st lg : Addr} {H H' : Hp} (k : Same H H') : But st lg H H' := fun c o h _ _ => k c o h
theorem same_new {H : Hp} {p : Addr} {o : HO} (h : H p = none) : Same H (upd H p o) := fun b x e => by
  rw [upd_ne (ne_of_none e h)]
  exact e
theorem but_st {st lg : Addr} {H : Hp} {o : HO} : But st lg H (upd H st o) := fun b x e n1 _ => by
  rw [upd_ne n1]
  exact e
theorem but_lg {st lg : Addr} {H : Hp} {o : HO} : But st lg H (upd H lg o) := fun b x e _ n2 => by
  rw [upd_ne n2]
  exact e

theorem StAt.gLarge {H : Hp} {st lg cl : Addr} {ls cs : List Int} {left turn : Int} {t : Nat} (S : StAt H st lg cl ls cs left turn t) : DGet H st (.str "large") (some (.ref lg)) := by
  rw [← st_large lg cl left turn]
  exact DGet.k (k := kLarge) S.d
theorem StAt.gCells {H : Hp} {st lg cl : Addr} {ls cs : List Int} {left turn : Int} {t : Nat} (S : StAt H st lg cl ls cs left turn t) : DGet H st (.str "cells") (some (.ref cl)) := by
  rw [← st_cells lg cl left turn]
  exact DGet.k (k := kCells) S.d
theorem StAt.gLeft {H : Hp} {st lg cl : Addr} {ls cs : List Int} {left turn : Int} {t : Nat} (S : StAt H st lg cl ls cs left turn t) : DGet H st (.str "left") (some (.int left)) := by
  rw [← st_left lg cl left turn]
  exact DGet.k (k := kLeft) S.d
theorem StAt.gTurn {H : Hp} {st lg cl : Addr} {ls cs : List Int} {left turn : Int} {t : Nat} (S : StAt H st lg cl ls cs left turn t) : DGet H st (.str "turn") (some (.int turn)) := by
  rw [← st_turn lg cl left turn]
  exact DGet.k (k := kTurn) S.d
theorem StAt.pLeft {H : Hp} {st lg cl : Addr} {ls cs : List Int} {left turn : Int} {t : Nat} (S : StAt H st lg cl ls cs left turn t) (v : Int) : DPut H st (.str "left") (.int v) (upd H st (.dK (stD lg cl v turn))) := by
  rw [← put_left lg cl left turn v]
  exact DPut.k (k := kLeft) S.d (small1000 (by show 4 ≤ 1000; decide))
theorem StAt.pTurn {H : Hp} {st lg cl : Addr} {ls cs : List Int} {left turn : Int} {t : Nat} (S : StAt H st lg cl ls cs left turn t) (v : Int) : DPut H st (.str "turn") (.int v) (upd H st (.dK (stD lg cl left v))) := by
  rw [← put_turn lg cl left turn v]
  exact DPut.k (k := kTurn) S.d (small1000 (by show 4 ≤ 1000; decide))
theorem StAt.setLeft {H : Hp} {st lg cl : Addr} {ls cs : List Int} {left turn : Int} {t : Nat} (S : StAt H st lg cl ls cs left turn t) {v : Int} (hv : 0 ≤ v) : StAt (upd H st (.dK (stD lg cl v turn))) st lg cl ls cs v turn t :=
  ⟨upd_same, by rw [upd_ne S.ne1]; exact S.l, by rw [upd_ne S.ne2]; exact S.c, S.lp, hv, S.t0, S.tt, S.ll, S.cc, S.ne⟩
theorem StAt.setTurn {H : Hp} {st lg cl : Addr} {ls cs : List Int} {left turn : Int} {t : Nat} (S : StAt H st lg cl ls cs left turn t) : StAt (upd H st (.dK (stD lg cl left (turn + 1)))) st lg cl ls cs left (turn + 1) (t + 1) :=
  ⟨upd_same, by rw [upd_ne S.ne1]; exact S.l, by rw [upd_ne S.ne2]; exact S.c, S.lp, S.l0, Int.le_add_one S.t0, by have := S.tt; omega, S.ll, S.cc, S.ne⟩
theorem StAt.pop {H : Hp} {st lg cl : Addr} {x : Int} {ls cs : List Int} {left turn : Int} {t : Nat} (S : StAt H st lg cl (x :: ls) cs left turn t) : StAt (upd H lg (.lst (ls.map V.int))) st lg cl ls cs left turn t :=
  ⟨by rw [upd_ne S.ne1.symm]; exact S.d, upd_same, by rw [upd_ne S.ne.symm]; exact S.c, fun y hy => S.lp y (List.mem_cons_of_mem _ hy), S.l0, S.t0, S.tt, Nat.le_of_succ_le S.ll, S.cc, S.ne⟩

theorem StAt.more {H : Hp} {st lg cl : Addr} {ls cs : List Int} {left turn : Int} {t : Nat} (S : StAt H st lg cl ls cs left turn t) : StAt H st lg cl ls cs left turn (t + 1) :=
  ⟨S.d, S.l, S.c, S.lp, S.l0, S.t0, by have := S.tt; omega, S.ll, S.cc, S.ne⟩
theorem StAt.lstL {K : PySem.W.Frag} {H : Hp} {st lg cl : Addr} {ls cs : List Int} {left turn : Int} {t : Nat} (S : StAt H st lg cl ls cs left turn t) : SqL K H lg (ls.map V.int) := .inl (.inl S.l)
theorem StAt.lstC {K : PySem.W.Frag} {H : Hp} {st lg cl : Addr} {ls cs : List Int} {left turn : Int} {t : Nat} (S : StAt H st lg cl ls cs left turn t) : SqL K H cl (cs.map V.int) := .inl (.inl S.c)

theorem seq0 (n : Nat) : seqIndex? 0 (n + 1) = some 0 := by
  unfold seqIndex?
  simp
theorem dp_ints {K : PySem.W.Frag} {H : Hp} : ∀ ns : List Int, DpAll K H (ns.map V.int) (ns.map PyData.int)
  | [] => .nil
  | n :: r => .cons (.int n) (dp_ints r)
theorem eqv_nil (ns : List Int) : PyData.eqv (.list (ns.map PyData.int)) (.list []) = ns.isEmpty := by
  cases ns with
  | nil => rfl
  | cons n r => rfl

def spDraw : Sp := fun vs H Q _ => ∃ (st lg cl : Addr) (t : Nat) (n : Int), vs = [.ref st, .int n] ∧ 0 < n ∧ n < 1073741824 ∧ t < 1000000000 ∧ StOk H st lg cl t ∧
  ∀ (k : Int) (H' : Hp), 0 ≤ k → k < n → StOk H' st lg cl (t + 1) → But st lg H H' → Q (.int k) H'

theorem small1 (z : Int) {turn : Int} {t : Nat} (t0 : 0 ≤ turn) (tb : turn ≤ t) (ht : t < 1000000000) : (z % 2147483563 + 40692 * (turn + 1) + 24681).natAbs < 2 ^ 64 := by
  have h1 : 0 ≤ z % 2147483563 := Int.emod_nonneg _ (by decide)
  have h2 : z % 2147483563 < 2147483563 := Int.emod_lt_of_pos _ (by decide)
  omega
theorem small2 (z : Int) {turn : Int} {t : Nat} (t0 : 0 ≤ turn) (tb : turn ≤ t) (ht : t < 1000000000) : (z % 2147483629 + 104917 * (turn + 1)).natAbs < 2 ^ 64 := by
  have h1 : 0 ≤ z % 2147483629 := Int.emod_nonneg _ (by decide)
  have h2 : z % 2147483629 < 2147483629 := Int.emod_lt_of_pos _ (by decide)
  omega

section
variable {P : Program} {w : World} {K : PySem.W.Frag} {mg : Str → Option Value} {base : Heap}
theorem scDraw : FnScope ["state", "size_here", "found", "turn", "cell", "mixed"] ["state", "size_here"] (defScope sDraw) := ⟨rfl, rfl, rfl, by decide +kernel, rfl, by decide +kernel, by decide +kernel⟩
theorem ok_draw {f : Addr} {fd : FuncData} (F : Fun K "_law_draw" "_law_draw" sDraw f fd) (mint : mg "int" = none) (mlen : mg "len" = none) : FnOk P w K mg base CX0 1 f fd ["state", "size_here"] spDraw := by
  refine F.ok scDraw (fun vs H Q E h => ?_) (fun cdv A outer s H vs Q E hr h => ?_)
  · obtain ⟨st, lg, cl, t, n, rfl, _⟩ := h
    rfl
  · obtain ⟨st, lg, cl, t, n, rfl, hn0, hn1, ht, S, q⟩ := h
    have hu := hu_of hr
    have hu64 := hr.units
    refine ⟨_, pss_cons (ps_while PassesOwn.never (pw_and (pt_cmpR op_eq (pe_dget hu (pv 0) pe_str (fun _ _ => rfl)) pe_int (nomark _)) (pw_and1 (pt_cmpR (op_neD hu64) (pe_dget hu (pv 0) pe_str (fun _ _ => rfl)) (pe_lst pa_nil) (nomark _)))).pt
        (pss_one (ps_dput hu (pv 0) pe_str (pe_bm PySem.F.plainAttrs_list PySem.F.slot_list_pop PySem.F.type_list_pop mt_popAt (pe_dget hu (pv 0) pe_str (fun _ _ => rfl)) (pa_cons pe_int pa_nil)) rfl)))
      (pss_cons (ps_if (pt_cmpR op_gt (pe_dget hu (pv 0) pe_str (fun _ _ => rfl)) pe_int (nomark _))
        (pss_cons (ps_set (i := 2) scDraw.nd rfl (Or.inl rfl) (pe_op op_mod (pe_callTy call_int1 (by rfl) mint (by decide +kernel) (pa_cons (pe_dget hu (pv 0) pe_str (fun _ _ => rfl)) pa_nil)) (pv 1)))
          (pss_cons (ps_dput hu (pv 0) pe_str (pe_op op_fdiv (pe_dget hu (pv 0) pe_str (fun _ _ => rfl)) (pv 1)) rfl)
            (pss_one (ps_ret (pv 2))))) pss_nil)
      (pss_cons (ps_set (i := 3) scDraw.nd rfl (Or.inl rfl) (pe_op op_add (pe_dget hu (pv 0) pe_str (fun _ _ => rfl)) pe_int))
      (pss_cons (ps_dput hu (pv 0) pe_str (pv 3) rfl)
      (pss_cons (ps_set (i := 4) scDraw.nd rfl (Or.inl rfl) (pe_ifExp (pt_cmpR (op_neD hu64) (pe_dget hu (pv 0) pe_str (fun _ _ => rfl)) (pe_lst pa_nil) (nomark _))
        (pe_ix ix_list (pe_dget hu (pv 0) pe_str (fun _ _ => rfl)) (pe_op op_mod (pe_callTy call_int1 (by rfl) mint (by decide +kernel) (pa_cons (pv 3) pa_nil)) (pe_callB call_len_seq (by rfl) mlen PySem.boot_len (pa_cons (pe_dget hu (pv 0) pe_str (fun _ _ => rfl)) pa_nil))) (fun _ _ => rfl)) pe_int))
      (pss_cons (ps_set (i := 5) scDraw.nd rfl (Or.inl rfl) (pe_op op_mod (pe_callTy call_int1 (by rfl) mint (by decide +kernel) (pa_cons (pe_op op_pow (pe_op op_add (pe_op op_add (pe_op op_mod (pe_callTy call_int1 (by rfl) mint (by decide +kernel) (pa_cons (pv 4) pa_nil)) pe_int) (pe_op op_mul pe_int (pv 3))) pe_int) pe_int) pa_nil)) pe_int))
      (pss_one (ps_ret (pe_op op_mod (pe_callTy call_int1 (by rfl) mint (by decide +kernel) (pa_cons (pe_op op_fdiv (pe_op op_mod (pe_callTy call_int1 (by rfl) mint (by decide +kernel) (pa_cons (pe_op op_pow (pe_op op_add (pv 5) (pe_op op_mul pe_int (pv 3))) pe_int) pa_nil)) pe_int) pe_int) pa_nil)) (pv 1))))))))), ?_⟩
    obtain ⟨ls0, cs, left0, turn, S0⟩ := S
    refine ⟨fun m σ H1 => σ = [some (.ref st), some (.int n), none, none, none, none] ∧ ∃ ls left, m = ls.length ∧ StAt H1 st lg cl ls cs left turn t ∧ But st lg H H1, ⟨_, rfl, ls0, left0, rfl, S0, But.refl _ _ _⟩, fun m σ H1 hW => ?_⟩
    obtain ⟨rfl, ls, left, rfl, S1, B1⟩ := hW
    refine ⟨_, rfl, st, _, rfl, S1.gLeft, rfl, _, rfl, ite2 (fun e => ?ga) (fun e => iteF ?gb)⟩
    case' ga =>
      refine ⟨_, rfl, st, _, rfl, S1.gLarge, Nat.zero_le _, fun p np => ⟨.list (ls.map PyData.int), .list [], .lst (S1.keep (same_new np)).lstL (dp_ints ls), .lst (.inl (.inl upd_same)) .nil, PySem.W.ke_shaped_ints ls, PySem.W.ke_shaped_ints [], _, rfl, ?_⟩⟩
      have S1 := S1.keep (same_new (o := .lst []) np)
      have B1 := B1.trans (But.of (same_new (o := .lst []) np))
      rcases ls with _ | ⟨x, r⟩
      case cons =>
        refine iteT ⟨fun σ' H' => σ' = [some (.ref st), some (.int n), none, none, none, none] ∧ ∃ left', StAt H' st lg cl r cs left' turn t ∧ But st lg H H', fun σ' H' ⟨e', left', S', B'⟩ => ⟨r.length, Nat.lt_succ_self _, e', r, left', rfl, S', B'⟩, ?_⟩
        have S3 := S1.pop
        exact ⟨_, rfl, st, _, rfl, S1.gLarge, .inl ⟨rfl, _, S1.lstL⟩, lg, _, 0, 0, .int x, rfl, rfl, S1.l, by decide, by decide, seq0 _, rfl, _, rfl, st, _, rfl, S3.pLeft x, rfl, x, S3.setLeft (S1.lp x (List.mem_cons_self ..)), B1.trans (but_lg.trans but_st)⟩
      refine iteF ?_
    all_goals
      -- if state['left'] > 0
      refine ⟨_, rfl, st, _, rfl, S1.gLeft, _, _, rfl, rfl, _, rfl, ite2 (fun e => ?_) (fun e => ?_)⟩
      · -- some are left
        refine ⟨_, rfl, st, _, rfl, S1.gLeft, .inl ⟨_, rfl, _, rfl, _, _, rfl, rfl, hn0, ?_⟩⟩
        refine ⟨_, rfl, st, _, rfl, S1.gLeft, _, rfl, _, _, rfl, rfl, ⟨hn0, hn1⟩, _, rfl, st, _, rfl, S1.pLeft _, _, rfl, ?_⟩
        exact q _ _ (Int.emod_nonneg _ (Int.ne_of_gt hn0)) (Int.emod_lt_of_pos _ hn0) ⟨_, _, _, _, (S1.setLeft (Int.ediv_nonneg S1.l0 (Int.le_of_lt hn0))).more⟩ (B1.trans but_st)
      · -- turn = state['turn'] + 1; state['turn'] = turn
        refine ⟨_, rfl, st, _, rfl, S1.gTurn, _, _, rfl, rfl, _, rfl, _, rfl, st, _, rfl, S1.pTurn _, ?_⟩
        have S2 := S1.setTurn
        have B2 := B1.trans (but_st (o := .dK (stD lg cl left (turn + 1))))
        refine ⟨_, rfl, st, _, rfl, S2.gCells, Nat.zero_le _, fun p2 np2 => ⟨.list (cs.map PyData.int), .list [], .lst (S2.keep (same_new np2)).lstC (dp_ints cs), .lst (.inl (.inl upd_same)) .nil, PySem.W.ke_shaped_ints cs, PySem.W.ke_shaped_ints [], _, rfl, ?_⟩⟩
        have S3 := S2.keep (same_new (o := .lst []) np2)
        have B3 := B2.trans (But.of (same_new (o := .lst []) np2))
        have tb := S1.tt
        have t0 := S1.t0
        rcases cs with _ | ⟨y, r⟩
        case' cons =>
          have hpos : (0 : Int) < ((y :: r).map V.int).length := by
            rw [List.length_map, List.length_cons]
            omega
          have i0 : 0 ≤ (turn + 1) % (((y :: r).map V.int).length : Int) := Int.emod_nonneg _ (Int.ne_of_gt hpos)
          have i1 : (turn + 1) % (((y :: r).map V.int).length : Int) < ((y :: r).map V.int).length := Int.emod_lt_of_pos _ hpos
          obtain ⟨j, hj⟩ : ∃ j : Nat, (turn + 1) % (((y :: r).map V.int).length : Int) = j := ⟨_, (Int.toNat_of_nonneg i0).symm⟩
          rw [hj] at i1
          have j1 : j < (y :: r).length := by
            rw [List.length_map] at i1
            omega
          have hat : atI ((y :: r).map V.int) ((turn + 1) % (((y :: r).map V.int).length : Int)) = some (.int ((y :: r)[j])) := by
            rw [hj]
            refine atI_nat ?_
            rw [List.getElem?_map, List.getElem?_eq_getElem j1]
            rfl
          refine iteT ⟨_, rfl, st, _, rfl, S3.gCells, _, rfl, .inl ⟨_, rfl, _, rfl, st, _, rfl, S3.gCells, cl, _, rfl, .inl S3.lstC, _, _, rfl, rfl, hpos, cl, _, _, _, rfl, rfl, S3.lstC, hat, ?_⟩⟩
        case' nil => refine iteF ?_
        all_goals
          -- mixed = ..
          refine ⟨_, rfl, .inl ⟨_, rfl, _, _, rfl, rfl, (by show (0 : Int) < 2147483563; decide), _, rfl, _, _, rfl, rfl, .inl ⟨by decide, by decide⟩, _, _, rfl, rfl, _, _, rfl, rfl, _, _, rfl, rfl, ⟨by decide, by decide, small1 _ t0 tb ht⟩, .inl ⟨_, rfl, _, _, rfl, rfl, (by show (0 : Int) < 2147483629; decide), ?_⟩⟩⟩
          -- return ..
          refine ⟨_, rfl, _, rfl, _, _, rfl, rfl, .inl ⟨by decide, by decide⟩, _, _, rfl, rfl, _, _, rfl, rfl, ⟨by decide, by decide, small2 _ t0 tb ht⟩, .inl ⟨_, rfl, _, _, rfl, rfl, (by show (0 : Int) < 2147483579; decide), _, _, rfl, rfl, ⟨by decide, by decide⟩, .inl ⟨_, rfl, _, rfl, _, _, rfl, rfl, hn0, ?_⟩⟩⟩
          exact q _ _ (Int.emod_nonneg _ (Int.ne_of_gt hn0)) (Int.emod_lt_of_pos _ hn0) ⟨_, _, _, _, S3⟩ B3
/-! ### _law_begun -/
def absI (z : Int) : Int := if z < 0 then -z else z
theorem absI_nonneg (z : Int) : 0 ≤ absI z := by
  unfold absI
  split <;> omega
def big (cs : List Int) : List Int := (cs.filter fun c => decide (10 ^ 18 ≤ c)).map fun c => c - 10 ^ 18
theorem big_nonneg (cs : List Int) : ∀ x ∈ big cs, 0 ≤ x := fun x hx => by
  obtain ⟨y, hy, rfl⟩ := List.mem_map.mp hx
  have h := of_decide_eq_true (List.mem_filter.mp hy).2
  omega
theorem big_len (cs : List Int) : (big cs).length ≤ cs.length := by
  unfold big
  rw [List.length_map]
  exact List.length_filter_le _ _
theorem big_snoc (cs : List Int) (c : Int) : big (cs ++ [c]) = if (10 ^ 18 ≤ c) then big cs ++ [c - 10 ^ 18] else big cs := by
  unfold big
  rw [List.filter_append, List.map_append]
  by_cases h : (10 ^ 18 : Int) ≤ c
  · rw [if_pos h, List.filter_cons_of_pos (by simpa using h)]
    rfl
  · rw [if_neg h, List.filter_cons_of_neg (by simpa using h)]
    simp
theorem take_snoc {α : Type} {xs : List α} {i : Nat} {x : α} (h : xs[i]? = some x) : xs.take (i + 1) = xs.take i ++ [x] := by
  rw [List.take_add_one, h]
  rfl
def spBegun (K : PySem.W.Frag) : Sp := fun vs H Q _ => ∃ (a : Addr) (ns : List Int), vs = [.ref a] ∧ SqL K H a (ns.map V.int) ∧ ns.length ≤ 63 ∧
  ∀ (st lg cl : Addr) (H' : Hp), StOk H' st lg cl 0 → Same H H' → H st = none → H lg = none → H cl = none → Q (.ref st) H'
theorem scBegun : FnScope ["script", "cells_here", "large", "cell"] ["script"] (defScope sBegun) := ⟨rfl, rfl, rfl, by decide +kernel, rfl, by decide +kernel, by decide +kernel⟩
theorem ok_begun {f : Addr} {fd : FuncData} (F : Fun K "_law_begun" "_law_begun" sBegun f fd) (mabs : mg "abs" = none) : FnOk P w K mg base CX0 1 f fd ["script"] (spBegun K) := by
  refine F.ok scBegun (fun vs H Q E h => ?_) (fun cdv A outer s H vs Q E hr h => ?_)
  · obtain ⟨a, ns, rfl, _⟩ := h
    rfl
  · obtain ⟨a, ns, rfl, hS, hl, q⟩ := h
    refine ⟨_, pss_cons (ps_setLc (i := 1) (own := [("cell", 3)]) (g := gName 3) (tt := tYes) rfl scBegun.nd rfl rfl (sw_true rfl rfl rfl (by decide +kernel)) (pi_list (pv 0)) (blkOk_by (N := ["script", "cells_here", "large", "cell"]) (sc := defScope sBegun) (by decide +kernel))
        (fun _ _ _ _ _ => pg_name (i := 3) scBegun.nd rfl (Or.inl rfl)) (fun _ _ _ _ _ => pts_nil) (fun _ _ _ _ _ => pe_callB call_abs (by rfl) mabs (by decide +kernel) (pa_cons (pv 3) pa_nil)))
      (pss_cons (ps_setLc (i := 2) (own := [("cell", 3)]) (g := gName 3) rfl scBegun.nd rfl rfl (sw_true rfl rfl rfl (by decide +kernel)) (pi_list (pv 1)) (blkOk_by (N := ["script", "cells_here", "large", "cell"]) (sc := defScope sBegun) (by decide +kernel))
        (fun _ _ _ _ _ => pg_name (i := 3) scBegun.nd rfl (Or.inl rfl)) (fun _ _ _ _ _ => pts_one (pt_cmpR op_ge (pv 3) (pe_op op_pow pe_int pe_int) (nomark _))) (fun _ _ _ _ _ => pe_op op_sub (pv 3) (pe_op op_pow pe_int pe_int)))
      (pss_one (ps_ret (pe_disp (pps_cons pe_str (pv 2) (pps_cons pe_str (pv 1) (pps_cons pe_str pe_int (pps_cons pe_str pe_int pps_nil)))) (by rfl) (by rfl) (fun z => by cases z) (by decide))))), ?_⟩
    refine ⟨_, rfl, a, rfl, ⟨_, hS⟩, fun D nD => lc_list (K := K) (a := a) (xs := ns.map V.int) (fun i H1 => Same H H1 ∧ H1 D = some (.lst (((ns.take i).map absI).map V.int))) ⟨same_new nD, upd_same⟩ (fun i H1 _ h1 => h1.1.seq hS) (fun i x H1 hi ⟨s1, e1⟩ => ?_) (fun H1 ⟨s1, e1⟩ => ?_)⟩
    · rw [List.getElem?_map] at hi
      obtain ⟨z, hz, rfl⟩ := Option.map_eq_some_iff.mp hi
      have hlt : i < ns.length := (List.getElem?_eq_some_iff.mp hz).1
      refine ⟨rfl, _, rfl, z, rfl, _, e1, ?_, fun b o e => ?_, ?_⟩
      · rw [List.length_map, List.length_map, List.length_take]
        exact small1000 (by omega)
      · rw [upd_ne (ne_of_none e nD)]
        exact s1 b o e
      · rw [upd_same, take_snoc hz, List.map_append, List.map_append]
        rfl
    · have e1' : H1 D = some (.lst ((ns.map absI).map V.int)) := by
        rw [List.length_map, List.take_length] at e1
        exact e1
      clear e1
      have hS1 : SqL K H1 D ((ns.map absI).map V.int) := .inl (.inl e1')
      refine ⟨_, rfl, D, rfl, ⟨_, hS1⟩, fun D2 nD2 => lc_list (K := K) (a := D) (xs := (ns.map absI).map V.int) (fun i H2 => Same H1 H2 ∧ H2 D2 = some (.lst ((big ((ns.map absI).take i)).map V.int))) ⟨same_new nD2, upd_same⟩ (fun i H2 _ h2 => h2.1.seq hS1) (fun i x H2 hi ⟨s2, e2⟩ => ?_) (fun H2 ⟨s2, e2⟩ => ?_)⟩
      · rw [List.getElem?_map] at hi
        obtain ⟨z, hz, rfl⟩ := Option.map_eq_some_iff.mp hi
        have hlen : ((big ((ns.map absI).take i)).map V.int).length < sizeLine := by
          have h1 := big_len ((ns.map absI).take i)
          rw [List.length_take, List.length_map] at h1
          rw [List.length_map]
          exact small1000 (by omega)
        refine ⟨rfl, _, rfl, _, _, rfl, rfl, ⟨by decide, by decide, by decide⟩, _, _, rfl, rfl, _, rfl, ite2 (fun hc => ?_) (fun hc => ?_)⟩
        · have hc : (10 ^ 18 : Int) ≤ z := of_decide_eq_true hc
          refine ⟨_, rfl, _, _, rfl, rfl, ⟨by decide, by decide, by decide⟩, _, _, rfl, rfl, _, e2, hlen, fun b o e => ?_, ?_⟩
          · rw [upd_ne (ne_of_none e nD2)]
            exact s2 b o e
          · rw [upd_same, take_snoc hz, big_snoc, if_pos hc, List.map_append]
            rfl
        · have hc : ¬ (10 ^ 18 : Int) ≤ z := fun z' => hc (decide_eq_true z')
          refine ⟨s2, ?_⟩
          rw [take_snoc hz, big_snoc, if_neg hc]
          exact e2
      · have e2' : H2 D2 = some (.lst ((big (ns.map absI)).map V.int)) := by
          rw [List.length_map, List.take_length] at e2
          exact e2
        have e1'' : H2 D = some (.lst ((ns.map absI).map V.int)) := s2 _ _ e1'
        intro p np
        refine ⟨_, rfl, _, rfl, upd_same, stD D2 D 0 0, rfl, (by show 4 ≤ 15; decide), ?_⟩
        rw [merge_st]
        have n1 : D ≠ D2 := fun z => by
          rw [z, nD2] at e1'
          cases e1'
        have up : upd (upd H2 p (HO.dK [])) p (.dK (stD D2 D 0 0)) = upd H2 p (.dK (stD D2 D 0 0)) := by
          funext b
          by_cases hb : b = p
          · rw [hb, upd_same, upd_same]
          · rw [upd_ne hb, upd_ne hb, upd_ne hb]
        rw [up]
        refine q p D2 D _ ⟨big (ns.map absI), ns.map absI, 0, 0, upd_same, ?_, ?_, big_nonneg _, Int.le_refl _, Int.le_refl _, Int.le_refl _, ?_, ?_, n1.symm⟩ (fun b o e => same_new np _ _ (s2 _ _ (s1 _ _ e))) (s1.free (s2.free np)) (s1.free nD2) nD
        · rw [upd_ne (ne_of_none e2' np)]
          exact e2'
        · rw [upd_ne (ne_of_none e1'' np)]
          exact e1''
        · have h1 := big_len (ns.map absI)
          rw [List.length_map] at h1
          omega
        · rw [List.length_map]
          exact hl

/-! ### _law_pick -/
def spPick (K : PySem.W.Frag) : Sp := fun vs H Q _ => ∃ (st lg cl a : Addr) (t : Nat) (xs : List V), vs = [.ref st, .ref a] ∧ 0 < xs.length ∧ xs.length ≤ 1000 ∧ a ≠ st ∧ a ≠ lg ∧ SqL K H a xs ∧ t < 1000000000 ∧ StOk H st lg cl t ∧
  ∀ (x : V) (H' : Hp), x ∈ xs → StOk H' st lg cl (t + 1) → But st lg H H' → Q x H'
theorem But.seq {st lg a : Addr} {H H' : Hp} {xs : List V} (k : But st lg H H') (n1 : a ≠ st) (n2 : a ≠ lg) (h : SqL K H a xs) : SqL K H' a xs := by
  rcases h with (h | ⟨o, h⟩) | h
  · exact .inl (.inl (k _ _ h n1 n2))
  · exact .inl (.inr ⟨o, k _ _ h n1 n2⟩)
  · exact .inr h
theorem scPick : FnScope ["state", "several"] ["state", "several"] (defScope sPick) := ⟨rfl, rfl, rfl, by decide +kernel, rfl, by decide +kernel, by decide +kernel⟩
theorem ok_pick {f fD : Addr} {fd fdD : FuncData} (F : Fun K "_law_pick" "_law_pick" sPick f fd) (mlen : mg "len" = none) (GD : FnOk P w K mg base CX0 1 fD fdD ["state", "size_here"] spDraw) (kD : PySem.W.keepIn K (.ref fD) = true) (bD : Binds K fdD ["state", "size_here"] []) (mD : mg "_law_draw" = some (.ref fD)) :
    FnOk P w K mg base CX0 2 f fd ["state", "several"] (spPick K) := by
  refine F.ok scPick (fun vs H Q E h => ?_) (fun cdv A outer s H vs Q E hr h => ?_)
  · obtain ⟨st, lg, cl, a, t, xs, rfl, _⟩ := h
    rfl
  · obtain ⟨st, lg, cl, a, t, xs, rfl, h0, h1, n1, n2, hS, ht, S, q⟩ := h
    refine ⟨_, pss_one (ps_ret (pe_ix ix_list (pv 1) (pe_call GD hr (by rfl) mD kD bD .nil pass0 (pa_cons (pv 0) (pa_cons (pe_callB call_len_seq (by rfl) mlen PySem.boot_len (pa_cons (pv 1) pa_nil)) pa_nil))) (fun _ _ => rfl))), ?_⟩
    refine ⟨_, rfl, _, rfl, _, rfl, a, xs, rfl, .inl hS, st, lg, cl, t, _, rfl, by omega, by omega, ht, S, fun k H' k0 k1 S' B' => ?_⟩
    obtain ⟨j, rfl⟩ : ∃ j : Nat, k = j := ⟨k.toNat, (Int.toNat_of_nonneg k0).symm⟩
    have j1 : j < xs.length := by omega
    exact ⟨a, xs, _, xs[j], rfl, rfl, B'.seq n1 n2 hS, atI_nat (List.getElem?_eq_getElem j1), q _ _ (List.getElem_mem j1) S' B'⟩
end
end K02

set_option Elab.async false
set_option linter.all false
set_option maxRecDepth 100000
/-! What counts as a number, a bit, a reading, a tuple of bits. -/
namespace K02
open PySem PySem.Spec L2
open PyProof.Rows GenW GxR
open LamX (ExtN)
abbrev sIsNumber : Stmt := top 6 -- is_number
abbrev sIsBelow : Stmt := top 7 -- is_below
abbrev sIsBit : Stmt := top 9 -- is_bit
abbrev sIsTupleOf : Stmt := top 11 -- is_tuple_of
abbrev sIsBits : Stmt := top 12 -- is_bits

/-! ### kinds of values -/
def kindsL : List String := ["NoneType", "bool", "int", "str", "list", "tuple", "dict"]
def kitR (t u : String) : Bool := decide (t = u) || (decide (t = "bool") && decide (u = "int"))
theorem kit_all : (kindsL.all fun t => ["int", "bool", "list", "tuple"].all fun u => decide (kitB t u = some (kitR t u))) = true := by decide +kernel
theorem kit_of1 {K : PySem.W.Frag} {t u : String} (ht : t ∈ kindsL) (hu : u ∈ ["int", "bool", "list", "tuple"]) : PySem.W.kitOne K (.type t) (.type u) = some (kitR t u) := by
  have h1 := List.all_eq_true.mp kit_all t ht
  exact kit_ty (of_decide_eq_true (List.all_eq_true.mp h1 u hu))
/-- x is of the kind t -/
structure Ty1 (K : PySem.W.Frag) (H : Hp) (x : V) (t : String) : Prop where
  ty : TyX K H x (.type t)
  mem : t ∈ kindsL
def bel (x : V) (l : Int) : Bool := match x with
  | .int i => decide (0 ≤ i) && decide (i < l)
  | _ => false
theorem tyInt {K : PySem.W.Frag} {H : Hp} {x : V} {tv : Value} (h : TyX K H x tv) (e : tv = .type "int") : ∃ i, x = .int i := by
  cases h with
  | base b =>
    cases b <;> first
      | exact ⟨_, rfl⟩
      | exact absurd (Value.type.inj e) (by decide)
      | cases e
  | byt => exact absurd (Value.type.inj e) (by decide)
  | set => exact absurd (Value.type.inj e) (by decide)
  | kList => exact absurd (Value.type.inj e) (by decide)
  | kTuple => exact absurd (Value.type.inj e) (by decide)
  | kDict => exact absurd (Value.type.inj e) (by decide)
  | fTuple => exact absurd (Value.type.inj e) (by decide)
  | fDict => exact absurd (Value.type.inj e) (by decide)
theorem Ty1.int {K : PySem.W.Frag} {H : Hp} {x : V} (h : Ty1 K H x "int") : ∃ i, x = .int i := tyInt h.ty rfl
theorem Ty1.notInt {K : PySem.W.Frag} {H : Hp} {x : V} {t : String} (h : Ty1 K H x t) (n : t ≠ "int") (l : Int) : bel x l = false := by
  obtain ⟨h, _⟩ := h
  cases x with
  | int i =>
    cases h with
    | base b =>
      cases b
      exact absurd rfl n
  | _ => rfl
theorem Ty1.ext {K : PySem.W.Frag} {H H' : Hp} {x : V} {t : String} (h : Ty1 K H x t) (e : ExtN H H') : Ty1 K H' x t := by
  obtain ⟨h, m⟩ := h
  refine ⟨?_, m⟩
  cases h with
  | base b =>
    refine .base ?_
    cases b with
    | non => exact .non
    | bl b => exact .bl b
    | int i => exact .int i
    | str z => exact .str z
    | flt z => exact .flt z
    | lst q => exact .lst (e _ _ q fun ps z => by cases z)
    | frz q => exact .frz (e _ _ q fun ps z => by cases z)
    | tup q => exact .tup (e _ _ q fun ps z => by cases z)
    | dK q => exact .dK (e _ _ q fun ps z => by cases z)
    | dT q => exact .dT (e _ _ q fun ps z => by cases z)
  | byt b => exact .byt b
  | set q => exact .set (e _ _ q fun ps z => by cases z)
  | kList q c => exact .kList q c
  | kTuple q c => exact .kTuple q c
  | kDict q c => exact .kDict q c
  | fTuple q => exact .fTuple (e _ _ q fun ps z => by cases z)
  | fDict q => exact .fDict (e _ _ q fun ps z => by cases z)
theorem extN_seqT {K : PySem.W.Frag} {H H' : Hp} {a : Addr} {xs : List V} (e : ExtN H H') (h : SqT K H a xs) : SqT K H' a xs := by
  rcases h with (h | ⟨o, h⟩) | h
  · exact .inl (.inl (e _ _ h fun ps z => by cases z))
  · exact .inl (.inr ⟨o, e _ _ h fun ps z => by cases z⟩)
  · exact .inr h
theorem extN_seqL {K : PySem.W.Frag} {H H' : Hp} {a : Addr} {xs : List V} (e : ExtN H H') (h : SqL K H a xs) : SqL K H' a xs := by
  rcases h with (h | ⟨o, h⟩) | h
  · exact .inl (.inl (e _ _ h fun ps z => by cases z))
  · exact .inl (.inr ⟨o, e _ _ h fun ps z => by cases z⟩)
  · exact .inr h
theorem extN_same {H H' : Hp} (k : Same H H') : ExtN H H' := fun b o e _ => k b o e
theorem extN_tabbed {H H' : Hp} {P : Addr} (k : Tabbed P H H') (t : TabG H P) : ExtN H H' := fun b o e n => by
  by_cases hb : b = P
  · obtain ⟨ps, q, _⟩ := t
    rw [hb, q] at e
    exact absurd (Option.some.inj e).symm (n ps)
  · rw [k.2 b hb]
    exact e

/-! ### what stands but the tables of code objects, which may grow -/
def TabsG (TT : List Addr) (H : Hp) : Prop := ∀ P ∈ TT, TabG H P
structure Ex (TT : List Addr) (H H' : Hp) : Prop where
  keep : ∀ b o, b ∉ TT → H b = some o → H' b = some o
  tabs : TabsG TT H → TabsG TT H'
theorem Ex.refl (TT : List Addr) (H : Hp) : Ex TT H H := ⟨fun _ _ _ e => e, fun t => t⟩
theorem Ex.trans {TT : List Addr} {H H1 H2 : Hp} (a : Ex TT H H1) (b : Ex TT H1 H2) : Ex TT H H2 := ⟨fun c o n e => b.keep c o n (a.keep c o n e), fun t => b.tabs (a.tabs t)⟩
theorem Ex.same {TT : List Addr} {H H' : Hp} (k : Same H H') : Ex TT H H' := ⟨fun b o _ e => k b o e, fun t P hP => by
  obtain ⟨ps, q, r⟩ := t P hP
  exact ⟨ps, k _ _ q, r⟩⟩
theorem Ex.extN {TT : List Addr} {H H' : Hp} (x : Ex TT H H') (t : TabsG TT H) : ExtN H H' := fun b o e n => by
  by_cases hb : b ∈ TT
  · obtain ⟨ps, q, _⟩ := t b hb
    rw [q] at e
    exact absurd (Option.some.inj e).symm (n ps)
  · exact x.keep b o hb e
theorem Ex.tabbed {TT : List Addr} {H H' : Hp} {P : Addr} (hP : P ∈ TT) (k : Tabbed P H H') : Ex TT H H' := ⟨fun b o n e => by
  rw [k.2 b fun z => n (by rw [z]; exact hP)]
  exact e, fun t Q hQ => by
  by_cases hb : Q = P
  · rw [hb]
    exact k.1
  · obtain ⟨ps, q, r⟩ := t Q hQ
    exact ⟨ps, by rw [k.2 Q hb]; exact q, r⟩⟩

section
variable {P : Program} {w : World} {K : PySem.W.Frag} {mg : Str → Option Value} {base : Heap}
/-- a def that makes generator expressions: its code object stands at c -/
theorem okC {x qual : Str} {st : Stmt} {f c : Addr} {fd : FuncData} {N ps : List Str} {k : Nat} {sp : Sp} (F : Fun K x qual st f fd) (hc : fd.code = .ref c) (S : FnScope N ps (defScope st)) (len : ∀ vs H Q E, sp vs H Q E → vs.length = ps.length)
    (hbody : ∀ (A : Around) (outer : List Env) (s : Shared) (H : Hp) (vs : List V) (Q : VK) (E : XK), Room k (A.deeper (envOfC qual (defScope st) s.heap.objs.size f (.ref c))) → sp vs H Q E →
      ∃ t, PSs (cxOf CX0 P w K mg base N qual (defScope st) f (.ref c) A outer s H E).nox (defBody st) t ∧ t { nx := fun _ H' => Q .non H', rt := Q } (start N vs) H) : FnOk P w K mg base CX0 (k + 1) f fd ps sp := by
  obtain ⟨oc, od, kV, doc, pm, an, cdv, ct, osl, rfl, lk, hcd⟩ := F.ex
  have e : cdv = .ref c := hc
  subst e
  refine fn_of lk hcd S len fun A outer s H vs Q E hr hsp => ?_
  obtain ⟨t, h, q⟩ := hbody A outer s H vs Q E hr hsp
  exact ⟨t, h.nox, q⟩

def spNumber (K : PySem.W.Frag) : Sp := fun vs H Q _ => ∃ (x : V) (t : String), vs = [x] ∧ Ty1 K H x t ∧ Q (.bl (decide (t = "int"))) H
theorem scNumber : FnScope ["thing"] ["thing"] (defScope sIsNumber) := ⟨rfl, rfl, rfl, by decide +kernel, rfl, by decide +kernel, by decide +kernel⟩
theorem ok_number {f : Addr} {fd : FuncData} (F : Fun K "is_number" "is_number" sIsNumber f fd) (mi : mg "isinstance" = none) (mint : mg "int" = none) (mbool : mg "bool" = none) : FnOk P w K mg base CX0 1 f fd ["thing"] (spNumber K) := by
  refine F.ok scNumber (fun vs H Q E h => ?_) (fun cdv A outer s H vs Q E hr h => ?_)
  · obtain ⟨x, t, rfl, _⟩ := h
    rfl
  · obtain ⟨x, t, rfl, ht, q⟩ := h
    refine ⟨_, pss_one (ps_ret (pe_and (pe_callB call_isi (by rfl) mi (by decide +kernel) (pa_cons (pv 0) (pa_cons (pe_bltn (v := .ty "int") (u := .type "int") (by rfl) mint (by decide +kernel) rfl) pa_nil)))
      (pe_one (pe_not (pe_callB call_isi (by rfl) mi (by decide +kernel) (pa_cons (pv 0) (pa_cons (pe_bltn (v := .ty "bool") (u := .type "bool") (by rfl) mbool (by decide +kernel) rfl) pa_nil))))))), ?_⟩
    refine ⟨_, rfl, x, .ty "int", _, _, _, rfl, .ty "int", ht.ty, kit_of1 ht.mem (by decide), _, rfl, ?_⟩
    by_cases h1 : t = "int"
    · subst h1
      exact ⟨_, rfl, x, .ty "bool", _, _, _, rfl, .ty "bool", ht.ty, kit_of1 ht.mem (by decide), _, rfl, q⟩
    · by_cases h2 : t = "bool"
      · subst h2
        exact ⟨_, rfl, x, .ty "bool", _, _, _, rfl, .ty "bool", ht.ty, kit_of1 ht.mem (by decide), _, rfl, q⟩
      · have e : kitR t "int" = false := by
          unfold kitR
          rw [decide_eq_false h1, decide_eq_false h2]
          rfl
        rw [e]
        rw [decide_eq_false h1] at q
        exact iteF q

def spBelow (K : PySem.W.Frag) : Sp := fun vs H Q _ => ∃ (x : V) (t : String) (l : Int), vs = [x, .int l] ∧ Ty1 K H x t ∧ Q (.bl (bel x l)) H
theorem scBelow : FnScope ["thing", "limit"] ["thing", "limit"] (defScope sIsBelow) := ⟨rfl, rfl, rfl, by decide +kernel, rfl, by decide +kernel, by decide +kernel⟩
theorem ok_below {f fN : Addr} {fd fdN : FuncData} (F : Fun K "is_below" "is_below" sIsBelow f fd) (GN : FnOk P w K mg base CX0 1 fN fdN ["thing"] (spNumber K)) (kN : PySem.W.keepIn K (.ref fN) = true) (bN : Binds K fdN ["thing"] []) (mN : mg "is_number" = some (.ref fN)) :
    FnOk P w K mg base CX0 2 f fd ["thing", "limit"] (spBelow K) := by
  refine F.ok scBelow (fun vs H Q E h => ?_) (fun cdv A outer s H vs Q E hr h => ?_)
  · obtain ⟨x, t, l, rfl, _⟩ := h
    rfl
  · obtain ⟨x, t, l, rfl, ht, q⟩ := h
    refine ⟨_, pss_one (ps_ret (pe_and (pe_call GN hr (by rfl) mN kN bN .nil pass0 (pa_cons (pv 0) pa_nil)) (pe_one (pe_chain op_le op_lt pe_int (pv 0) (pv 1))))), ?_⟩
    refine ⟨_, rfl, x, t, rfl, ht, _, rfl, ?_⟩
    by_cases h1 : t = "int"
    · subst h1
      obtain ⟨i, rfl⟩ := ht.int
      refine ⟨_, rfl, _, _, rfl, rfl, _, rfl, ite2 (fun hc => ?_) (fun hc => ?_)⟩
      · refine ⟨_, rfl, _, _, rfl, rfl, ?_⟩
        have e : bel (.int i) l = decide (i < l) := by
          show (decide (0 ≤ i) && decide (i < l)) = _
          rw [hc]
          rfl
        rw [e] at q
        exact q
      · have e : bel (.int i) l = false := by
          show (decide (0 ≤ i) && decide (i < l)) = _
          rw [Bool.not_eq_true] at hc
          rw [hc]
          rfl
        rw [e] at q
        exact q
    · rw [ht.notInt h1] at q
      rw [decide_eq_false h1]
      exact iteF q

def spBit (K : PySem.W.Frag) : Sp := fun vs H Q _ => ∃ (x : V) (t : String), vs = [x] ∧ Ty1 K H x t ∧ Q (.bl (bel x 2)) H
theorem scBit : FnScope ["thing"] ["thing"] (defScope sIsBit) := ⟨rfl, rfl, rfl, by decide +kernel, rfl, by decide +kernel, by decide +kernel⟩
theorem ok_bit {f fB : Addr} {fd fdB : FuncData} (F : Fun K "is_bit" "is_bit" sIsBit f fd) (GB : FnOk P w K mg base CX0 2 fB fdB ["thing", "limit"] (spBelow K)) (kB : PySem.W.keepIn K (.ref fB) = true) (bB : Binds K fdB ["thing", "limit"] []) (mB : mg "is_below" = some (.ref fB)) :
    FnOk P w K mg base CX0 3 f fd ["thing"] (spBit K) := by
  refine F.ok scBit (fun vs H Q E h => ?_) (fun cdv A outer s H vs Q E hr h => ?_)
  · obtain ⟨x, t, rfl, _⟩ := h
    rfl
  · obtain ⟨x, t, rfl, ht, q⟩ := h
    refine ⟨_, pss_one (ps_ret (pe_call GB hr (by rfl) mB kB bB .nil pass0 (pa_cons (pv 0) (pa_cons pe_int pa_nil)))), ?_⟩
    exact ⟨_, rfl, x, t, 2, rfl, ht, q⟩

def rdB (x : V) : Bool := decide (x = .non) || bel x 2
/-- where x is a tuple, xs are its items -/
def TupV (K : PySem.W.Frag) (H : Hp) (x : V) (t : String) (xs : List V) : Prop := t = "tuple" → ∃ a, x = .ref a ∧ SqT K H a xs
theorem TupV.ext {H H' : Hp} {x : V} {t : String} {xs : List V} (h : TupV K H x t xs) (e : ExtN H H') : TupV K H' x t xs := fun ht => by
  obtain ⟨a, q, s⟩ := h ht
  exact ⟨a, q, extN_seqT e s⟩
def spTupleOf (K : PySem.W.Frag) : Sp := fun vs H Q _ => ∃ (x : V) (t : String) (xs : List V) (n : Int), vs = [x, .int n] ∧ Ty1 K H x t ∧ TupV K H x t xs ∧ Q (.bl (decide (t = "tuple") && decide ((xs.length : Int) = n))) H
theorem scTupleOf : FnScope ["thing", "many"] ["thing", "many"] (defScope sIsTupleOf) := ⟨rfl, rfl, rfl, by decide +kernel, rfl, by decide +kernel, by decide +kernel⟩
theorem ok_tupleOf {f : Addr} {fd : FuncData} (F : Fun K "is_tuple_of" "is_tuple_of" sIsTupleOf f fd) (mi : mg "isinstance" = none) (mtuple : mg "tuple" = none) (mlen : mg "len" = none) : FnOk P w K mg base CX0 1 f fd ["thing", "many"] (spTupleOf K) := by
  refine F.ok scTupleOf (fun vs H Q E h => ?_) (fun cdv A outer s H vs Q E hr h => ?_)
  · obtain ⟨x, t, xs, n, rfl, _⟩ := h
    rfl
  · obtain ⟨x, t, xs, n, rfl, ht, hx, q⟩ := h
    refine ⟨_, pss_one (ps_ret (pe_and (pe_callB call_isi (by rfl) mi (by decide +kernel) (pa_cons (pv 0) (pa_cons (pe_bltn (v := .ty "tuple") (u := .type "tuple") (by rfl) mtuple (by decide +kernel) rfl) pa_nil)))
      (pe_one (pe_cmpR op_eq (pe_callB call_len_seq (by rfl) mlen PySem.boot_len (pa_cons (pv 0) pa_nil)) (pv 1) (nomark _))))), ?_⟩
    refine ⟨_, rfl, x, .ty "tuple", _, _, _, rfl, .ty "tuple", ht.ty, kit_of1 ht.mem (by decide), _, rfl, ?_⟩
    by_cases h1 : t = "tuple"
    · obtain ⟨a, rfl, hS⟩ := hx h1
      subst h1
      refine ⟨_, rfl, a, xs, rfl, .inr hS, _, rfl, rfl, ?_⟩
      have e : decide (V.int (xs.length : Int) = V.int n) = decide ((xs.length : Int) = n) := by
        by_cases h2 : (xs.length : Int) = n
        · rw [h2, decide_eq_true rfl, decide_eq_true rfl]
        · rw [decide_eq_false h2, decide_eq_false fun z => h2 (V.int.inj z)]
      rw [e]
      exact q
    · have e : kitR t "tuple" = false := by
        unfold kitR
        rw [decide_eq_false h1]
        simp
      rw [e]
      rw [decide_eq_false h1] at q
      exact iteF q

def spBits (K : PySem.W.Frag) (TT : List Addr) : Sp := fun vs H Q _ => ∃ (x : V) (t : String) (xs : List V) (n : Int), vs = [x, .int n] ∧ Ty1 K H x t ∧ TupV K H x t xs ∧ (t = "tuple" → ∀ y ∈ xs, ∃ ty, Ty1 K H y ty) ∧ TabsG TT H ∧
  ∀ H', Ex TT H H' → Q (.bl (decide (t = "tuple") && decide ((xs.length : Int) = n) && xs.all fun y => bel y 2)) H'
theorem scBits : FnScope ["thing", "many", "item"] ["thing", "many"] (defScope sIsBits) := ⟨rfl, rfl, rfl, by decide +kernel, rfl, by decide +kernel, by decide +kernel⟩
theorem ok_bits {TT : List Addr} {f fT fB c T : Addr} {fd fdT fdB : FuncData} (F : Fun K "is_bits" "is_bits" sIsBits f fd) (hc : fd.code = .ref c) (TB : TabB base mg c T) (hTT : T ∈ TT) (mall : mg "all" = none)
    (GT : FnOk P w K mg base CX0 1 fT fdT ["thing", "many"] (spTupleOf K)) (kT : PySem.W.keepIn K (.ref fT) = true) (bT : Binds K fdT ["thing", "many"] []) (mT : mg "is_tuple_of" = some (.ref fT))
    (GB : FnOk P w K mg base CX0 3 fB fdB ["thing"] (spBit K)) (kB : PySem.W.keepIn K (.ref fB) = true) (bB : Binds K fdB ["thing"] []) (mB : mg "is_bit" = some (.ref fB)) :
    FnOk P w K mg base CX0 5 f fd ["thing", "many"] (spBits K TT) := by
  refine okC F hc scBits (fun vs H Q E h => ?_) (fun A outer s H vs Q E hr h => ?_)
  · obtain ⟨x, t, xs, n, rfl, _⟩ := h
    rfl
  · obtain ⟨x, t, xs, n, rfl, ht, hx, hys, hT, q⟩ := h
    refine ⟨_, pss_one (ps_ret (pe_and (pe_call GT (hr.mono (by decide)) (by rfl) mT kT bT .nil pass0 (pa_cons (pv 0) (pa_cons (pv 1) pa_nil)))
      (pe_one (GX.pe_all (own := [("item", 2)]) (k := 3) hr (by rfl) mall TB rfl rfl scBits.nd (pi_tup (pv 0)) (blkOk_by (N := ["thing", "many", "item"]) (sc := defScope sIsBits) (by decide +kernel)) (GX.genNames_by (by decide +kernel))
        (fun _ _ _ _ _ _ _ => pg_name (i := 2) scBits.nd rfl (Or.inl rfl)) (fun _ _ _ _ _ _ _ _ => pts_nil) (fun _ _ _ _ _ _ _ hr2 => pe_call GB hr2 (by rfl) mB kB bB .nil pass0 (pa_cons (pv 2) pa_nil)))))), ?_⟩
    refine ⟨_, rfl, _, rfl, x, t, xs, n, rfl, ht, hx, _, rfl, ite2 (fun hb => ?_) (fun hb => ?_)⟩
    · obtain ⟨h1, h2⟩ := (Bool.and_eq_true _ _).mp hb
      have h1 := of_decide_eq_true h1
      obtain ⟨a, rfl, hS⟩ := hx h1
      subst h1
      have q2 : ∀ H', Ex TT H H' → Q (.bl (xs.all fun y => bel y 2)) H' := fun H' e1 => by
        have z := q H' e1
        rw [h2] at z
        exact z
      have hys := hys rfl
      refine ⟨_, rfl, a, rfl, ⟨_, hS⟩, hT T hTT, fun H2 hT2 => ⟨fun i m H3 => m + i = xs.length ∧ Ex TT H H3 ∧ ((xs.take i).all fun y => bel y 2) = true, ⟨xs.length, rfl, Ex.tabbed hTT hT2, rfl⟩, fun i m H3 hW => ?_⟩⟩
      obtain ⟨em, x3, ha⟩ := hW
      have e3 := x3.extN hT
      by_cases hi : i < xs.length
      · refine .inr ⟨⟨xs, xs[i], extN_seqT e3 hS, List.getElem?_eq_getElem hi⟩, fun H4 => Ex TT H H4 ∧ ((xs.take (i + 1)).all fun y => bel y 2) = true, fun H4 ⟨x4, a4⟩ => ⟨m - 1, by omega, by omega, x4, a4⟩, fun y H4 hy => ?_⟩
        obtain ⟨rfl, hy⟩ := hy
        have ey := hy _ (extN_seqT e3 hS)
        obtain ⟨ty, hty⟩ := hys y (List.mem_of_getElem? ey)
        refine ⟨rfl, _, rfl, y, ty, rfl, hty.ext e3, _, rfl, fun hc => ?_, fun hc => ⟨x3, ?_⟩⟩
        · have z := q2 H4 x3
          have e : (xs.all fun y => bel y 2) = false := by
            rw [Bool.eq_false_iff]
            intro z
            have z2 := List.all_eq_true.mp z y (List.mem_of_getElem? ey)
            rw [z2] at hc
            cases hc
          rw [e] at z
          exact z
        · rw [take_snoc ey, List.all_append, ha]
          simpa using hc
      · refine .inl ⟨⟨xs, extN_seqT e3 hS, by omega⟩, ?_⟩
        have z := q2 H3 x3
        rw [List.take_of_length_le (by omega)] at ha
        rw [ha] at z
        exact z
    · rw [Bool.not_eq_true] at hb
      have z := q H (Ex.refl TT H)
      rw [hb] at z
      exact z
end
end K02

set_option Elab.async false
set_option linter.all false
set_option maxRecDepth 100000
/-! The reading of a gate by the program's own sums of places. -/
namespace K02
open PySem PySem.Spec L2
open PyProof.Rows GenW GxR
open LamX (ExtN)
abbrev sTable : Stmt := top 29 -- table_reading

/-! ### a list or a tuple is walked -/
def SeqJ (K : PySem.W.Frag) (H : Hp) (a : Addr) (xs : List V) (J : It) : Prop := (J = Itl K a ∧ SqL K H a xs) ∨ (J = Itt K a ∧ SqT K H a xs)
def iSeq (K : PySem.W.Frag) (tl : TE) : TI := fun σ H R => tl σ H fun x H1 => ∃ (a : Addr) (xs : List V) (J : It), x = .ref a ∧ SeqJ K H1 a xs J ∧ R J H1
theorem pi_seq {X : Cx} {tg l : Expr} {tl : TE} (hl : PE X l tl) : PI X tg l (iSeq X.K tl) := by
  refine ⟨fun pins s σ H R I h => thn (hl.run pins s σ H _ I h) fun v s1 ⟨x, H1, I1, r1, a, xs, J, ex, hJ, q⟩ => ?_⟩
  subst ex
  cases r1
  have fp : ∀ b ∈ [s1.heap.objs.size], FpOk X pins H1 b := fun b hb => by
    rw [List.mem_singleton.mp hb]
    exact I1.fpOk (Nat.le_refl _) (I1.hok.fresh (Nat.le_refl _))
  rcases hJ with ⟨rfl, hq⟩ | ⟨rfl, hq⟩
  · obtain ⟨its, rv, p, hz⟩ := I1.list hq
    exact wpAny_pyIter_list p.isList ⟨_, [s1.heap.objs.size], _, _, H1, rfl, I1.kept (t' := s1.toks) (fun b o e => Heap.get?_push_of_some _ e), turn_list a _, ⟨_, Heap.get?_push_size _ rfl, rfl, rfl⟩, fp, q⟩
  · obtain ⟨its, rv, p, hz⟩ := I1.tuple hq
    exact wpAny_pyIter_tuple (show s1.heap.IsTuple a its.toArray from p) ⟨_, [s1.heap.objs.size], _, _, H1, rfl, I1.kept (t' := s1.toks) (fun b o e => Heap.get?_push_of_some _ e), turn_tuple a _, ⟨_, Heap.get?_push_size _ rfl, rfl, rfl⟩, fp, q⟩
theorem SeqJ.ext {K : PySem.W.Frag} {H H' : Hp} {a : Addr} {xs : List V} {J : It} (h : SeqJ K H a xs J) (e : ExtN H H') : SeqJ K H' a xs J := by
  rcases h with ⟨e1, h⟩ | ⟨e1, h⟩
  · exact .inl ⟨e1, extN_seqL e h⟩
  · exact .inr ⟨e1, extN_seqT e h⟩
theorem for_seq {K : PySem.W.Frag} {a : Addr} {xs : List V} {J : It} {g : TG} {tb : TS} {D : Ends} {σ : L2.St} {H : Hp} (Pv : Nat → L2.St → Hp → Prop) (hJ : SeqJ K H a xs J) (h0 : Pv 0 σ H)
    (hl : ∀ i σ' H', i ≤ xs.length → Pv i σ' H' → SeqJ K H' a xs J)
    (hs : ∀ i x σ H, xs[i]? = some x → Pv i σ H → g x σ H fun σ2 H2 => tb { D with nx := Pv (i + 1), ct := Pv (i + 1), bk := D.nx } σ2 H2) (hd : ∀ σ H, Pv xs.length σ H → D.nx σ H) :
    ∃ W : Nat → Nat → L2.St → Hp → Prop, (∃ m, W 0 m σ H) ∧ ∀ i m σ H, W i m σ H →
      (J.stop i H ∧ D.nx σ H) ∨ (J.go i H ∧ ∃ N : L2.St → Hp → Prop, (∀ σ' H', N σ' H' → ∃ m', m' < m ∧ W (i + 1) m' σ' H') ∧ ∀ x H', J.yld i H x H' → g x σ H' fun σ2 H2 => tb { D with nx := N, ct := N, bk := D.nx } σ2 H2) := by
  refine ⟨fun i m σ H => m + i = xs.length ∧ Pv i σ H, ⟨xs.length, rfl, h0⟩, ?_⟩
  rintro i m σ1 H1 ⟨em, p⟩
  have hJ1 := hl i σ1 H1 (by omega) p
  by_cases hi : i < xs.length
  · have step : ∀ x, xs[i]? = some x → g x σ1 H1 fun σ2 H2 => tb { D with nx := Pv (i + 1), ct := Pv (i + 1), bk := D.nx } σ2 H2 := fun x hx => hs i x σ1 H1 hx p
    have nxt : ∀ σ' H', Pv (i + 1) σ' H' → ∃ m', m' < m ∧ m' + (i + 1) = xs.length ∧ Pv (i + 1) σ' H' := fun σ' H' p' => ⟨m - 1, by omega, by omega, p'⟩
    rcases hJ1 with ⟨rfl, hq⟩ | ⟨rfl, hq⟩
    · exact .inr ⟨⟨xs, xs[i], hq, List.getElem?_eq_getElem hi⟩, Pv (i + 1), nxt, fun x H' ⟨e, y⟩ => by subst e; exact step x (y xs hq)⟩
    · exact .inr ⟨⟨xs, xs[i], hq, List.getElem?_eq_getElem hi⟩, Pv (i + 1), nxt, fun x H' ⟨e, y⟩ => by subst e; exact step x (y xs hq)⟩
  · have ei : i = xs.length := by omega
    subst ei
    rcases hJ1 with ⟨rfl, hq⟩ | ⟨rfl, hq⟩
    · exact .inl ⟨⟨xs, hq, Nat.le_refl _⟩, hd σ1 H1 p⟩
    · exact .inl ⟨⟨xs, hq, Nat.le_refl _⟩, hd σ1 H1 p⟩

/-! ### the mathematics -/
def bitZ (b : Bool) : Int := if b then 1 else 0
def bitV (b : Bool) : V := .int (bitZ b)
def rdV : Option Bool → V
  | none => .non
  | some b => bitV b
theorem bitZ_inj {a b : Bool} (h : bitZ a = bitZ b) : a = b := by
  cases a <;> cases b <;> first | rfl | (exact absurd h (by decide))
/-- bits in the place of all None -/
inductive Comp : List (Option Bool) → List Bool → Prop
  | nil : Comp [] []
  | free {r : List (Option Bool)} {bs : List Bool} (b : Bool) : Comp r bs → Comp (none :: r) (b :: bs)
  | told {r : List (Option Bool)} {bs : List Bool} (b : Bool) : Comp r bs → Comp (some b :: r) (b :: bs)
def idx : List Bool → Nat
  | [] => 0
  | b :: r => (if b then 1 else 0) + 2 * idx r
theorem Comp.length {rs : List (Option Bool)} {bs : List Bool} (h : Comp rs bs) : bs.length = rs.length := by
  induction h with
  | nil => rfl
  | free b _ ih => simp [ih]
  | told b _ ih => simp [ih]
theorem idx_lt (bs : List Bool) : idx bs < 2 ^ bs.length := by
  induction bs with
  | nil => decide
  | cons b r ih =>
    have : 2 ^ (b :: r).length = 2 * 2 ^ r.length := by rw [List.length_cons, Nat.pow_succ, Nat.mul_comm]
    unfold idx
    split <;> omega
/-- what one source does to the places -/
def stp (x : Nat × List Nat) (r : Option Bool) : Nat × List Nat := (2 * x.1, match r with
  | none => x.2 ++ x.2.map (· + x.1)
  | some true => x.2.map (· + x.1)
  | some false => x.2)
def plc (rs : List (Option Bool)) : Nat × List Nat := rs.foldl stp (1, [0])
theorem plc_gen (rs : List (Option Bool)) : ∀ (w : Nat) (ps : List Nat), (rs.foldl stp (w, ps)).1 = w * 2 ^ rs.length ∧ ∀ p, p ∈ (rs.foldl stp (w, ps)).2 ↔ ∃ q ∈ ps, ∃ bs, Comp rs bs ∧ p = q + w * idx bs := by
  induction rs with
  | nil =>
    intro w ps
    refine ⟨by simp, fun p => ⟨fun h => ⟨p, h, [], .nil, by simp [idx]⟩, fun ⟨q, hq, bs, hc, e⟩ => ?_⟩⟩
    cases hc
    simp [idx] at e
    rw [e]
    exact hq
  | cons r rs ih =>
    intro w ps
    obtain ⟨h1, h2⟩ := ih (2 * w) (stp (w, ps) r).2
    have e0 : (r :: rs).foldl stp (w, ps) = rs.foldl stp (2 * w, (stp (w, ps) r).2) := rfl
    rw [e0]
    refine ⟨by rw [h1, List.length_cons, Nat.pow_succ, Nat.mul_comm 2 w, Nat.mul_assoc, Nat.mul_comm 2], fun p => ?_⟩
    rw [h2 p]
    have a0 : ∀ k : Nat, w * (0 + 2 * k) = 2 * w * k := fun k => by
      rw [Nat.zero_add, ← Nat.mul_assoc, Nat.mul_comm w 2]
    have a1 : ∀ k : Nat, w * (1 + 2 * k) = w + 2 * w * k := fun k => by
      rw [Nat.mul_add, ← Nat.mul_assoc, Nat.mul_comm w 2, Nat.mul_one]
    have i0 : ∀ bs : List Bool, w * idx (false :: bs) = 2 * w * idx bs := fun bs => a0 _
    have i1 : ∀ bs : List Bool, w * idx (true :: bs) = w + 2 * w * idx bs := fun bs => a1 _
    constructor
    · rintro ⟨q, hq, bs, hc, e⟩
      rcases r with _ | _ | _
      · rcases List.mem_append.mp hq with hq | hq
        · exact ⟨q, hq, false :: bs, .free _ hc, by rw [i0, e]⟩
        · obtain ⟨q', hq', rfl⟩ := List.mem_map.mp hq
          exact ⟨q', hq', true :: bs, .free _ hc, by rw [i1, e]; exact Nat.add_assoc ..⟩
      · exact ⟨q, hq, false :: bs, .told _ hc, by rw [i0, e]⟩
      · obtain ⟨q', hq', rfl⟩ := List.mem_map.mp hq
        exact ⟨q', hq', true :: bs, .told _ hc, by rw [i1, e]; exact Nat.add_assoc ..⟩
    · rintro ⟨q, hq, bs, hc, e⟩
      cases hc with
      | @free _ bs b hc =>
        cases b with
        | false => exact ⟨q, List.mem_append_left _ hq, bs, hc, by rw [i0] at e; exact e⟩
        | true => exact ⟨q + w, List.mem_append_right _ (List.mem_map.mpr ⟨q, hq, rfl⟩), bs, hc, by rw [i1] at e; rw [e]; exact (Nat.add_assoc ..).symm⟩
      | @told _ bs b hc =>
        cases b with
        | false => exact ⟨q, hq, bs, hc, by rw [i0] at e; exact e⟩
        | true => exact ⟨q + w, List.mem_map.mpr ⟨q, hq, rfl⟩, bs, hc, by rw [i1] at e; rw [e]; exact (Nat.add_assoc ..).symm⟩
theorem plc_fst (rs : List (Option Bool)) : (plc rs).1 = 2 ^ rs.length := by
  have h := (plc_gen rs 1 [0]).1
  rw [Nat.one_mul] at h
  exact h
theorem plc_mem (rs : List (Option Bool)) (p : Nat) : p ∈ (plc rs).2 ↔ ∃ bs, Comp rs bs ∧ idx bs = p := by
  have h := (plc_gen rs 1 [0]).2 p
  unfold plc
  rw [h]
  constructor
  · rintro ⟨q, hq, bs, hc, e⟩
    rw [List.mem_singleton.mp hq] at e
    exact ⟨bs, hc, by omega⟩
  · rintro ⟨bs, hc, e⟩
    exact ⟨0, List.mem_singleton.mpr rfl, bs, hc, by omega⟩
theorem plc_lt {rs : List (Option Bool)} {p : Nat} (h : p ∈ (plc rs).2) : p < 2 ^ rs.length := by
  obtain ⟨bs, hc, rfl⟩ := (plc_mem rs p).mp h
  rw [← hc.length]
  exact idx_lt bs
theorem plc_len (rs : List (Option Bool)) : (plc rs).2.length ≤ 2 ^ rs.length ∧ 0 < (plc rs).2.length := by
  have gen : ∀ (l : List (Option Bool)) (x : Nat × List Nat), (l.foldl stp x).2.length ≤ x.2.length * 2 ^ l.length ∧ (0 < x.2.length → 0 < (l.foldl stp x).2.length) := by
    intro l
    induction l with
    | nil => intro x; simp
    | cons r l ih =>
      intro x
      have h := ih (stp x r)
      have e : (stp x r).2.length ≤ 2 * x.2.length ∧ (0 < x.2.length → 0 < (stp x r).2.length) := by
        rcases r with _ | _ | _
        · simp only [stp, List.length_append, List.length_map]
          omega
        · simp only [stp]
          omega
        · simp only [stp, List.length_map]
          omega
      refine ⟨?_, fun h0 => h.2 (e.2 h0)⟩
      show (l.foldl stp (stp x r)).2.length ≤ _
      rw [List.length_cons, Nat.pow_succ, Nat.mul_comm (2 ^ l.length) 2, ← Nat.mul_assoc, Nat.mul_comm x.2.length 2]
      exact Nat.le_trans h.1 (Nat.mul_le_mul_right _ e.1)
  have h := gen rs (1, [0])
  refine ⟨by simpa [plc] using h.1, h.2 (by decide)⟩
theorem plc_snoc (rs : List (Option Bool)) (r : Option Bool) : plc (rs ++ [r]) = stp (plc rs) r := by
  unfold plc
  rw [List.foldl_append]
  rfl
/-- the one bit that all have -/
def one (l : List Bool) : Option Bool := match l with
  | [] => none
  | b :: r => if r.all (fun x => x == b) then some b else none
theorem one_some {l : List Bool} {b : Bool} : one l = some b ↔ l ≠ [] ∧ ∀ x ∈ l, x = b := by
  cases l with
  | nil => simp [one]
  | cons a r =>
    have e : one (a :: r) = if (r.all fun x => x == a) = true then some a else none := rfl
    rw [e]
    by_cases hall : (r.all fun x => x == a) = true
    · rw [if_pos hall]
      have h2 : ∀ x ∈ r, x = a := fun x hx => by simpa using List.all_eq_true.mp hall x hx
      constructor
      · intro h
        have h : a = b := Option.some.inj h
        subst h
        refine ⟨by simp, fun x hx => ?_⟩
        rcases List.mem_cons.mp hx with hx | hx
        · exact hx
        · exact h2 x hx
      · rintro ⟨_, h⟩
        rw [h a (List.mem_cons_self ..)]
    · rw [if_neg hall]
      constructor
      · intro h
        cases h
      · rintro ⟨_, h⟩
        refine absurd (List.all_eq_true.mpr fun x hx => ?_) hall
        rw [h a (List.mem_cons_self ..), h x (List.mem_cons_of_mem _ hx)]
        simp
theorem one_congr {l m : List Bool} (h : ∀ b, b ∈ l ↔ b ∈ m) : one l = one m := by
  have ne : l ≠ [] ↔ m ≠ [] := by
    constructor
    · intro hl hm
      obtain ⟨x, r, rfl⟩ := List.exists_cons_of_ne_nil hl
      have z := (h x).mp (List.mem_cons_self ..)
      rw [hm] at z
      cases z
    · intro hm hl
      obtain ⟨x, r, rfl⟩ := List.exists_cons_of_ne_nil hm
      have z := (h x).mpr (List.mem_cons_self ..)
      rw [hl] at z
      cases z
  have key : ∀ b, one l = some b ↔ one m = some b := fun b => by
    rw [one_some, one_some, ne]
    exact and_congr_right fun _ => ⟨fun q x hx => q x ((h x).mpr hx), fun q x hx => q x ((h x).mp hx)⟩
  cases e : one l with
  | some b => rw [(key b).mp e]
  | none =>
    cases e2 : one m with
    | none => rfl
    | some b =>
      rw [(key b).mpr e2] at e
      cases e
/-- what a gate with this table reads -/
def gateR (tb : List Bool) (rs : List (Option Bool)) : Option Bool := one ((plc rs).2.map fun p => tb.getD p false)
theorem minmax_one {l : List Bool} {lo hi : Int} (h1 : lo ∈ l.map bitZ) (h2 : ∀ y, y ∈ l.map bitZ → lo ≤ y) (h3 : hi ∈ l.map bitZ) (h4 : ∀ y, y ∈ l.map bitZ → y ≤ hi) :
    (lo = hi → ∃ b r, l = b :: r ∧ one l = some b) ∧ (lo ≠ hi → one l = none) := by
  constructor
  · intro e
    obtain ⟨b, hb, eb⟩ := List.mem_map.mp h1
    have all : ∀ x ∈ l, bitZ x = lo := fun x hx => by
      have q1 := h2 _ (List.mem_map.mpr ⟨x, hx, rfl⟩)
      have q2 := h4 _ (List.mem_map.mpr ⟨x, hx, rfl⟩)
      omega
    cases l with
    | nil => cases hb
    | cons a r =>
      refine ⟨a, r, rfl, one_some.mpr ⟨by simp, fun x hx => bitZ_inj ((all x hx).trans (all a (List.mem_cons_self ..)).symm)⟩⟩
  · intro e
    cases q : one l with
    | none => rfl
    | some b =>
      obtain ⟨_, hall⟩ := one_some.mp q
      obtain ⟨x, hx, ex⟩ := List.mem_map.mp h1
      obtain ⟨y, hy, ey⟩ := List.mem_map.mp h3
      rw [hall x hx] at ex
      rw [hall y hy] at ey
      exact absurd (ex.symm.trans ey) e
def natV (ps : List Nat) : List V := ps.map fun p : Nat => V.int (Int.ofNat p)
theorem natV_len (ps : List Nat) : (natV ps).length = ps.length := List.length_map ..
theorem natV_get {ps : List Nat} {i : Nat} {x : V} (h : (natV ps)[i]? = some x) : ∃ p : Nat, ps[i]? = some p ∧ x = .int (p : Int) := by
  unfold natV at h
  rw [List.getElem?_map] at h
  obtain ⟨p, hp, e⟩ := Option.map_eq_some_iff.mp h
  exact ⟨p, hp, e.symm⟩
theorem pw2 (i : Nat) : ((2 ^ i : Nat) : Int) * 2 = ((2 ^ (i + 1) : Nat) : Int) := by
  rw [Nat.pow_succ, Int.natCast_mul]
  rfl
theorem pow16 {n : Nat} (h : n ≤ 4) : 2 ^ n ≤ 16 := Nat.pow_le_pow_right (by decide) h
theorem natV_app (a b : List Nat) : natV (a ++ b) = natV a ++ natV b := List.map_append ..
theorem get_snoc {α : Type} {xs : List α} {i : Nat} {x : α} (h : xs[i]? = some x) : xs.take (i + 1) = xs.take i ++ [x] := take_snoc h

section
variable {P : Program} {w : World} {K : PySem.W.Frag} {mg : Str → Option Value} {base : Heap}
/-- the answer, as a value -/
def spTable (K : PySem.W.Frag) : Sp := fun vs H Q _ => ∃ (a b : Addr) (tb : List Bool) (rs : List (Option Bool)) (J : It), vs = [.ref a, .ref b] ∧ SqT K H a (tb.map bitV) ∧ SeqJ K H b (rs.map rdV) J ∧ rs.length ≤ 4 ∧ tb.length = 2 ^ rs.length ∧
  ∀ H', Same H H' → Q (rdV (gateR tb rs)) H'
theorem scTable : FnScope ["table", "readings", "places", "worth", "reading", "bits", "place"] ["table", "readings"] (defScope sTable) := ⟨rfl, rfl, rfl, by decide +kernel, rfl, by decide +kernel, by decide +kernel⟩
theorem ok_table {f : Addr} {fd : FuncData} (F : Fun K "table_reading" "table_reading" sTable f fd) (mmin : mg "min" = none) (mmax : mg "max" = none) : FnOk P w K mg base CX0 1 f fd ["table", "readings"] (spTable K) := by
  refine F.ok scTable (fun vs H Q E h => ?_) (fun cdv A outer s H vs Q E hr h => ?_)
  · obtain ⟨a, b, tb, rs, J, rfl, _⟩ := h
    rfl
  · obtain ⟨a, b, tb, rs, J, rfl, hT, hR, hl4, hlt, q⟩ := h
    refine ⟨_, pss_cons (ps_set (i := 2) scTable.nd rfl (Or.inl rfl) (pe_lst (pa_cons pe_int pa_nil)))
      (pss_cons (ps_set (i := 3) scTable.nd rfl (Or.inr rfl) pe_int)
      (pss_cons (ps_for PassesOwn.never rfl (pi_seq (pv 1)) (pg_name (i := 4) scTable.nd rfl (Or.inl rfl))
        (pss_cons (ps_if (pt_cmpR op_isN (pv 4) pe_non (nomark _))
            (pss_one (ps_set (i := 2) scTable.nd rfl (Or.inl rfl) (pe_op op_cat (pv 2) (pe_lc (own := [("place", 6)]) (g := gName 6) (tt := tYes) rfl scTable.nd (pi_list (pv 2)) (blkOk_by (N := ["table", "readings", "places", "worth", "reading", "bits", "place"]) (sc := defScope sTable) (by decide +kernel))
              (fun _ _ _ _ _ => pg_name (i := 6) scTable.nd rfl (Or.inl rfl)) (fun _ _ _ _ _ => pts_nil) (fun _ _ _ _ _ => pe_op op_add (pv 6) (pv 3))))))
            (pss_one (ps_if (pt_cmpR op_eq (pv 4) pe_int (nomark _))
              (pss_one (ps_setLc (i := 2) (own := [("place", 6)]) (g := gName 6) (tt := tYes) rfl scTable.nd rfl rfl (sw_true rfl rfl rfl (by decide +kernel)) (pi_list (pv 2)) (blkOk_by (N := ["table", "readings", "places", "worth", "reading", "bits", "place"]) (sc := defScope sTable) (by decide +kernel))
                (fun _ _ _ _ _ => pg_name (i := 6) scTable.nd rfl (Or.inl rfl)) (fun _ _ _ _ _ => pts_nil) (fun _ _ _ _ _ => pe_op op_add (pv 6) (pv 3)))) pss_nil)))
          (pss_one (ps_set (i := 3) scTable.nd rfl (Or.inr rfl) (pe_op op_mul (pv 3) pe_int)))))
      (pss_cons (ps_setLc (i := 5) (own := [("place", 6)]) (g := gName 6) (tt := tYes) rfl scTable.nd rfl rfl (sw_true rfl rfl rfl (by decide +kernel)) (pi_list (pv 2)) (blkOk_by (N := ["table", "readings", "places", "worth", "reading", "bits", "place"]) (sc := defScope sTable) (by decide +kernel))
        (fun _ _ _ _ _ => pg_name (i := 6) scTable.nd rfl (Or.inl rfl)) (fun _ _ _ _ _ => pts_nil) (fun _ _ _ _ _ => pe_ix (r := rIxT K) ix_tup (pv 0) (pv 6) (fun _ _ => rfl)))
      (pss_cons (ps_if (pt_cmpR op_eq (pe_callB (cr_min rfl) (by rfl) mmin (by decide +kernel) (pa_cons (pv 5) pa_nil)) (pe_callB (cr_max rfl) (by rfl) mmax (by decide +kernel) (pa_cons (pv 5) pa_nil)) (nomark _)) (pss_one (ps_ret (pe_ix ix_list (pv 5) pe_int (fun _ _ => rfl)))) pss_nil)
      (pss_one (ps_ret pe_non)))))), ?_⟩
    refine ⟨by show 1 ≤ sizeLine; decide, fun p0 np0 => ?_⟩
    have s0 := same_new (o := .lst [.int 0]) np0
    refine ⟨_, rfl, b, rs.map rdV, J, rfl, hR.ext (extN_same s0), for_seq (fun i σ H1 => ∃ (pl : Addr) (y4 : Option V), σ = [some (.ref a), some (.ref b), some (.ref pl), some (.int (2 ^ i : Nat)), y4, none, none] ∧ Same H H1 ∧ H1 pl = some (.lst (natV (plc (rs.take i)).2))) (hR.ext (extN_same s0)) ⟨p0, none, rfl, s0, upd_same⟩
      (fun i σ' H' _ ⟨pl, y4, _, s1, _⟩ => hR.ext (extN_same s1)) (fun i x σ H1 hx ⟨pl, y4, e, s1, e1⟩ => ?_) (fun σ H1 ⟨pl, y4, e, s1, e1⟩ => ?_)⟩
    · subst e
      rw [List.getElem?_map] at hx
      obtain ⟨r, hr1, rfl⟩ := Option.map_eq_some_iff.mp hx
      have hi : i < rs.length := (List.getElem?_eq_some_iff.mp hr1).1
      have hlen : (rs.take i).length = i := by
        rw [List.length_take]
        omega
      have hfst : (plc (rs.take i)).1 = 2 ^ i := by rw [plc_fst, hlen]
      have hsz : (plc (rs.take i)).2.length ≤ 16 := by
        have h1 := (plc_len (rs.take i)).1
        rw [hlen] at h1
        exact Nat.le_trans h1 (pow16 (by omega))
      have hsnoc : plc (rs.take (i + 1)) = stp (plc (rs.take i)) r := by rw [take_snoc hr1, plc_snoc]
      have hPl : SqL K H1 pl (natV (plc (rs.take i)).2) := .inl (.inl e1)
      -- [place + worth for place in places]
      have turn : ∀ (D : Addr), H1 D = none → ∀ (j : Nat) (x : V) (H2 : Hp), (natV (plc (rs.take i)).2)[j]? = some x → (Same H1 H2 ∧ H2 D = some (.lst (natV (((plc (rs.take i)).2.take j).map (· + 2 ^ i))))) →
          ∃ p : Nat, x = .int p ∧ (natV (((plc (rs.take i)).2.take j).map (· + 2 ^ i))).length < sizeLine ∧ Same H1 (upd H2 D (.lst (natV (((plc (rs.take i)).2.take j).map (· + 2 ^ i)) ++ [.int ((p : Int) + (2 ^ i : Nat))]))) ∧
            (upd H2 D (.lst (natV (((plc (rs.take i)).2.take j).map (· + 2 ^ i)) ++ [.int ((p : Int) + (2 ^ i : Nat))]))) D = some (.lst (natV (((plc (rs.take i)).2.take (j + 1)).map (· + 2 ^ i)))) := fun D nD j x H2 hj ⟨s2, e2⟩ => by
        obtain ⟨p, hp, rfl⟩ := natV_get hj
        refine ⟨p, rfl, ?_, fun b' o e => ?_, ?_⟩
        · rw [natV_len, List.length_map, List.length_take]
          exact small1000 (by omega)
        · rw [upd_ne (ne_of_none e nD)]
          exact s2 b' o e
        · rw [upd_same, take_snoc hp, List.map_append, natV_app]
          rfl
      have full : ∀ (D : Addr) (H2 : Hp), H2 D = some (.lst (natV (((plc (rs.take i)).2.take (natV (plc (rs.take i)).2).length).map (· + 2 ^ i)))) → H2 D = some (.lst (natV ((plc (rs.take i)).2.map (· + 2 ^ i)))) := fun D H2 e => by
        rw [natV_len, List.take_length] at e
        exact e
      cases r with
      | none =>
        refine ⟨_, rfl, rfl, _, rfl, ite2 (fun _ => ?_) (fun z => absurd (decide_eq_true rfl) z)⟩
        refine ⟨_, rfl, _, rfl, pl, rfl, ⟨_, hPl⟩, fun D nD => lc_list (K := K) (a := pl) (xs := natV (plc (rs.take i)).2) (fun j H2 => Same H1 H2 ∧ H2 D = some (.lst (natV (((plc (rs.take i)).2.take j).map (· + 2 ^ i))))) ⟨same_new nD, upd_same⟩ (fun j H2 _ h2 => h2.1.seq hPl) (fun j x H2 hj h2 => ?_) (fun H2 ⟨s2, e2⟩ => ?_)⟩
        · obtain ⟨p, rfl, z1, z2, z3⟩ := turn D nD j x H2 hj h2
          exact ⟨rfl, _, rfl, _, rfl, _, _, rfl, rfl, _, h2.2, z1, z2, z3⟩
        · have e2 := full D H2 e2
          refine ⟨pl, D, _, _, rfl, rfl, s2 _ _ e1, e2, ?_, fun p np => ⟨_, rfl, _, _, rfl, rfl, .inr ⟨by decide, by decide⟩, p, _, by rw [← pw2 i]; rfl, ?_, ?_⟩⟩
          · rw [natV_len, natV_len, List.length_map]
            exact Nat.le_of_lt (small1000 (by omega))
          · exact (s1.trans s2).trans (same_new np)
          · rw [upd_same, hsnoc, ← natV_app]
            show some (HO.lst (natV ((plc (rs.take i)).2 ++ (plc (rs.take i)).2.map (· + 2 ^ i)))) = some (HO.lst (natV ((plc (rs.take i)).2 ++ (plc (rs.take i)).2.map (· + (plc (rs.take i)).1))))
            rw [hfst]
      | some c =>
        refine ⟨_, rfl, rfl, _, rfl, ite2 (fun z => absurd (of_decide_eq_true z) (by intro z; cases z)) (fun _ => ?_)⟩
        cases c with
        | true =>
          refine ⟨_, rfl, rfl, _, rfl, ite2 (fun _ => ?_) (fun z => absurd (decide_eq_true rfl) z)⟩
          refine ⟨_, rfl, pl, rfl, ⟨_, hPl⟩, fun D nD => lc_list (K := K) (a := pl) (xs := natV (plc (rs.take i)).2) (fun j H2 => Same H1 H2 ∧ H2 D = some (.lst (natV (((plc (rs.take i)).2.take j).map (· + 2 ^ i))))) ⟨same_new nD, upd_same⟩ (fun j H2 _ h2 => h2.1.seq hPl) (fun j x H2 hj h2 => ?_) (fun H2 ⟨s2, e2⟩ => ?_)⟩
          · obtain ⟨p, rfl, z1, z2, z3⟩ := turn D nD j x H2 hj h2
            exact ⟨rfl, _, rfl, _, rfl, _, _, rfl, rfl, _, h2.2, z1, z2, z3⟩
          · have e2 := full D H2 e2
            refine ⟨_, rfl, _, _, rfl, rfl, .inr ⟨by decide, by decide⟩, D, _, by rw [← pw2 i]; rfl, s1.trans s2, ?_⟩
            rw [e2, hsnoc]
            show some (HO.lst (natV ((plc (rs.take i)).2.map (· + 2 ^ i)))) = some (HO.lst (natV ((plc (rs.take i)).2.map (· + (plc (rs.take i)).1))))
            rw [hfst]
        | false =>
          refine ⟨_, rfl, rfl, _, rfl, ite2 (fun z => absurd (V.int.inj (of_decide_eq_true z)) (by decide)) (fun _ => ?_)⟩
          refine ⟨_, rfl, _, _, rfl, rfl, .inr ⟨by decide, by decide⟩, pl, _, by rw [← pw2 i]; rfl, s1, ?_⟩
          rw [e1, hsnoc]
          rfl
    · subst e
      have e1' : H1 pl = some (.lst (natV (plc rs).2)) := by
        rw [List.length_map, List.take_length] at e1
        exact e1
      have hPl : SqL K H1 pl (natV (plc rs).2) := .inl (.inl e1')
      have hsz : (plc rs).2.length ≤ 16 := Nat.le_trans (plc_len rs).1 (pow16 hl4)
      have hT1 : SqT K H1 a (tb.map bitV) := extN_seqT (extN_same s1) hT
      generalize hL : ((plc rs).2.map fun p => tb.getD p false) = L
      have hgl : gateR tb rs = one L := by rw [← hL]; rfl
      refine ⟨_, rfl, pl, rfl, ⟨_, hPl⟩, fun D nD => lc_list (K := K) (a := pl) (xs := natV (plc rs).2) (fun j H2 => Same H1 H2 ∧ H2 D = some (.lst ((L.take j).map bitV))) ⟨same_new nD, upd_same⟩ (fun j H2 _ h2 => h2.1.seq hPl) (fun j x H2 hj ⟨s2, e2⟩ => ?_) (fun H2 ⟨s2, e2⟩ => ?_)⟩
      · obtain ⟨p, hp, rfl⟩ := natV_get hj
        have hlt2 : p < tb.length := by
          rw [hlt]
          exact plc_lt (List.mem_of_getElem? hp)
        have hL1 : L[j]? = some tb[p] := by
          rw [← hL, List.getElem?_map, hp]
          simp [List.getD_eq_getElem?_getD, List.getElem?_eq_getElem hlt2]
        refine ⟨rfl, _, rfl, _, rfl, a, _, _, bitV tb[p], rfl, rfl, extN_seqT (extN_same s2) hT1, atI_nat ?_, _, e2, ?_, fun b' o e => ?_, ?_⟩
        · rw [List.getElem?_map, List.getElem?_eq_getElem hlt2]
          rfl
        · rw [List.length_map, List.length_take, ← hL, List.length_map]
          exact small1000 (by omega)
        · rw [upd_ne (ne_of_none e nD)]
          exact s2 b' o e
        · rw [upd_same, take_snoc hL1, List.map_append]
          rfl
      · have hLlen : L.length = (plc rs).2.length := by rw [← hL, List.length_map]
        have e2' : H2 D = some (.lst (L.map bitV)) := by
          rw [natV_len, ← hLlen, List.take_length] at e2
          exact e2
        have hD : SqL K H2 D ((L.map bitZ).map V.int) := by
          refine .inl (.inl ?_)
          rw [e2', List.map_map]
          rfl
        have hpos : 0 < (L.map bitZ).length := by
          rw [List.length_map, hLlen]
          exact (plc_len rs).2
        refine ⟨_, rfl, D, _, rfl, hD, hpos, fun lo l1 l2 => ⟨_, rfl, D, _, rfl, hD, hpos, fun hi h1 h2 => ⟨rfl, _, rfl, ite2 (fun hc => ?_) (fun hc => ?_)⟩⟩⟩
        · obtain ⟨b', r, el, eo⟩ := (minmax_one l1 l2 h1 h2).1 (V.int.inj (of_decide_eq_true hc))
          have z := q H2 (s1.trans s2)
          rw [hgl, eo] at z
          refine ⟨_, rfl, D, _, 0, bitV b', rfl, rfl, hD, ?_, z⟩
          rw [el]
          exact atI_nat (j := 0) rfl
        · have eo := (minmax_one l1 l2 h1 h2).2 fun z => hc (decide_eq_true (congrArg V.int z))
          have z := q H2 (s1.trans s2)
          rw [hgl, eo] at z
          exact z
end
end K02

set_option Elab.async false
set_option linter.all false
set_option maxRecDepth 100000
set_option maxHeartbeats 1000000
/-! Circuits, as they stand: sources, registers. -/
namespace K02
open PySem PySem.Spec L2
open PyProof.Rows GenW GxR
open LamX (ExtN)
abbrev sUpTo : Stmt := top 20 -- is_tuple_up_to
abbrev sIsSource : Stmt := top 21 -- is_source
abbrev sIsRegister : Stmt := top 22 -- is_register
/-- a source -/
inductive Src
  | inp (i : Nat)
  | reg (i : Nat)
  | gate (i : Nat)
  | bit (b : Bool)
def Src.kind : Src → Str
  | .inp _ => "in"
  | .reg _ => "reg"
  | .gate _ => "gate"
  | .bit _ => "bit"
def Src.at_ : Src → Int
  | .inp i => i
  | .reg i => i
  | .gate i => i
  | .bit b => bitZ b
def Src.ok (ni nr ng : Nat) : Src → Prop
  | .inp i => i < ni
  | .reg i => i < nr
  | .gate i => i < ng
  | .bit _ => True
/-- y is the source s -/
def SrcAt (H : Hp) (y : V) (s : Src) : Prop := ∃ t, y = .ref t ∧ H t = some (.tup [.str s.kind, .int s.at_])
theorem SrcAt.ext {H H' : Hp} {y : V} {s : Src} (h : SrcAt H y s) (e : ExtN H H') : SrcAt H' y s := by
  obtain ⟨t, a, b⟩ := h
  exact ⟨t, a, e _ _ b fun _ z => by cases z⟩
section
variable {P : Program} {w : World} {K : PySem.W.Frag} {mg : Str → Option Value} {base : Heap}
theorem tyT {H : Hp} {a : Addr} {xs : List V} (h : H a = some (.tup xs)) : Ty1 K H (.ref a) "tuple" := ⟨.base (.tup h), by decide⟩
theorem tyI {H : Hp} (i : Int) : Ty1 K H (.int i) "int" := ⟨.base (.int i), by decide⟩
theorem bel_nat {i l : Nat} (h : i < l) : bel (.int (i : Int)) (l : Int) = true := by
  show (decide ((0 : Int) ≤ i) && decide ((i : Int) < l)) = true
  rw [decide_eq_true (Int.natCast_nonneg i), decide_eq_true (Int.ofNat_lt.mpr h)]
  rfl
def spUpTo (K : PySem.W.Frag) : Sp := fun vs H Q _ => ∃ (x : V) (t : String) (xs : List V) (n : Int), vs = [x, .int n] ∧ Ty1 K H x t ∧ TupV K H x t xs ∧ Q (.bl (decide (t = "tuple") && decide ((xs.length : Int) ≤ n))) H
theorem scUpTo : FnScope ["thing", "most"] ["thing", "most"] (defScope sUpTo) := ⟨rfl, rfl, rfl, by decide +kernel, rfl, by decide +kernel, by decide +kernel⟩
theorem ok_upTo {f : Addr} {fd : FuncData} (F : Fun K "is_tuple_up_to" "is_tuple_up_to" sUpTo f fd) (mi : mg "isinstance" = none) (mtuple : mg "tuple" = none) (mlen : mg "len" = none) : FnOk P w K mg base CX0 1 f fd ["thing", "most"] (spUpTo K) := by
  refine F.ok scUpTo (fun vs H Q E h => ?_) (fun cdv A outer s H vs Q E hr h => ?_)
  · obtain ⟨x, t, xs, n, rfl, _⟩ := h
    rfl
  · obtain ⟨x, t, xs, n, rfl, ht, hx, q⟩ := h
    refine ⟨_, pss_one (ps_ret (pe_and (pe_callB call_isi (by rfl) mi (by decide +kernel) (pa_cons (pv 0) (pa_cons (pe_bltn (v := .ty "tuple") (u := .type "tuple") (by rfl) mtuple (by decide +kernel) rfl) pa_nil)))
      (pe_one (pe_cmpR op_le (pe_callB call_len_seq (by rfl) mlen PySem.boot_len (pa_cons (pv 0) pa_nil)) (pv 1) (nomark _))))), ?_⟩
    refine ⟨_, rfl, x, .ty "tuple", _, _, _, rfl, .ty "tuple", ht.ty, kit_of1 ht.mem (by decide), _, rfl, ?_⟩
    by_cases h1 : t = "tuple"
    · obtain ⟨a, rfl, hS⟩ := hx h1
      subst h1
      exact ⟨_, rfl, a, xs, rfl, .inr hS, _, rfl, _, _, rfl, rfl, q⟩
    · have e : kitR t "tuple" = false := by
        unfold kitR
        rw [decide_eq_false h1]
        simp
      rw [e]
      rw [decide_eq_false h1] at q
      exact iteF q
def spSource : Sp := fun vs H Q _ => ∃ (y : V) (z : Addr) (s : Src) (ni nr ng : Nat), vs = [y, .ref z] ∧ SrcAt H y s ∧ H z = some (.tup [.int ni, .int nr, .int ng]) ∧ s.ok ni nr ng ∧ Q (.bl true) H
theorem scSource : FnScope ["thing", "sizes", "kind", "at"] ["thing", "sizes"] (defScope sIsSource) := ⟨rfl, rfl, rfl, by decide +kernel, rfl, by decide +kernel, by decide +kernel⟩
theorem ok_source {f fT fB f1 : Addr} {fd fdT fdB fd1 : FuncData} (F : Fun K "is_source" "is_source" sIsSource f fd)
    (GT : FnOk P w K mg base CX0 1 fT fdT ["thing", "many"] (spTupleOf K)) (kT : PySem.W.keepIn K (.ref fT) = true) (bT : Binds K fdT ["thing", "many"] []) (mT : mg "is_tuple_of" = some (.ref fT))
    (GB : FnOk P w K mg base CX0 2 fB fdB ["thing", "limit"] (spBelow K)) (kB : PySem.W.keepIn K (.ref fB) = true) (bB : Binds K fdB ["thing", "limit"] []) (mB : mg "is_below" = some (.ref fB))
    (G1 : FnOk P w K mg base CX0 3 f1 fd1 ["thing"] (spBit K)) (k1 : PySem.W.keepIn K (.ref f1) = true) (b1 : Binds K fd1 ["thing"] []) (m1 : mg "is_bit" = some (.ref f1)) : FnOk P w K mg base CX0 4 f fd ["thing", "sizes"] spSource := by
  refine F.ok scSource (fun vs H Q E h => ?_) (fun cdv A outer s H vs Q E hr h => ?_)
  · obtain ⟨y, z, s, ni, nr, ng, rfl, _⟩ := h
    rfl
  · obtain ⟨y, z, sr, ni, nr, ng, rfl, ⟨t, rfl, et⟩, ez, ok, q⟩ := h
    refine ⟨_, pss_cons (ps_if (pt_not (pt_val (pe_call GT (hr.mono (by decide)) (by rfl) mT kT bT .nil pass0 (pa_cons (pv 0) (pa_cons pe_int pa_nil))))) (pss_one (ps_ret pe_bl)) pss_nil)
      (pss_cons (ps_asg (pv 0) (pg_tup rfl (pgs_cons (pg_name (i := 2) scSource.nd rfl (Or.inl rfl)) (pgs_cons (pg_name (i := 3) scSource.nd rfl (Or.inl rfl)) pgs_nil))))
      (pss_cons (ps_if (pt_cmpR op_eq (pv 2) pe_str (nomark _)) (pss_one (ps_ret (pe_call GB (hr.mono (by decide)) (by rfl) mB kB bB .nil pass0 (pa_cons (pv 3) (pa_cons (pe_ix (r := rIxT K) ix_tup (pv 1) pe_int (fun _ _ => rfl)) pa_nil))))) pss_nil)
      (pss_cons (ps_if (pt_cmpR op_eq (pv 2) pe_str (nomark _)) (pss_one (ps_ret (pe_call GB (hr.mono (by decide)) (by rfl) mB kB bB .nil pass0 (pa_cons (pv 3) (pa_cons (pe_ix (r := rIxT K) ix_tup (pv 1) pe_int (fun _ _ => rfl)) pa_nil))))) pss_nil)
      (pss_cons (ps_if (pt_cmpR op_eq (pv 2) pe_str (nomark _)) (pss_one (ps_ret (pe_call GB (hr.mono (by decide)) (by rfl) mB kB bB .nil pass0 (pa_cons (pv 3) (pa_cons (pe_ix (r := rIxT K) ix_tup (pv 1) pe_int (fun _ _ => rfl)) pa_nil))))) pss_nil)
      (pss_one (ps_ret (pe_and (pe_cmpR op_eq (pv 2) pe_str (nomark _)) (pe_one (pe_call G1 hr (by rfl) m1 k1 b1 .nil pass0 (pa_cons (pv 3) pa_nil)))))))))), ?_⟩
    refine ⟨_, rfl, .ref t, "tuple", [.str sr.kind, .int sr.at_], 2, rfl, tyT et, fun _ => ⟨t, rfl, .inl (.inl et)⟩, _, rfl, ?_⟩
    refine iteF ⟨_, rfl, t, _, rfl, .inl (.inl et), rfl, _, _, rfl, _, _, rfl, rfl, ?_⟩
    have same_ : ∀ a : Str, decide (V.str a = V.str a) = true := fun a => decide_eq_true rfl
    have other : ∀ a b : Str, ¬ a = b → decide (V.str a = V.str b) = false := fun a b h => decide_eq_false fun z => h (V.str.inj z)
    cases sr with
    | inp i =>
      refine ⟨_, rfl, rfl, _, rfl, ?_⟩
      show (if decide (V.str ("in" : Str) = V.str "in") = true then _ else _)
      rw [same_]
      refine iteT ⟨_, rfl, _, rfl, z, _, 0, .int ni, rfl, rfl, .inl (.inl ez), rfl, .int (i : Int), "int", (ni : Int), rfl, tyI _, ?_⟩
      rw [bel_nat ok]
      exact q
    | reg i =>
      refine ⟨_, rfl, rfl, _, rfl, ?_⟩
      show (if decide (V.str ("reg" : Str) = V.str "in") = true then _ else _)
      rw [other _ _ (by decide +kernel)]
      refine iteF ⟨_, rfl, rfl, _, rfl, ?_⟩
      show (if decide (V.str ("reg" : Str) = V.str "reg") = true then _ else _)
      rw [same_]
      refine iteT ⟨_, rfl, _, rfl, z, _, 1, .int nr, rfl, rfl, .inl (.inl ez), rfl, .int (i : Int), "int", (nr : Int), rfl, tyI _, ?_⟩
      rw [bel_nat ok]
      exact q
    | gate i =>
      refine ⟨_, rfl, rfl, _, rfl, ?_⟩
      show (if decide (V.str ("gate" : Str) = V.str "in") = true then _ else _)
      rw [other _ _ (by decide +kernel)]
      refine iteF ⟨_, rfl, rfl, _, rfl, ?_⟩
      show (if decide (V.str ("gate" : Str) = V.str "reg") = true then _ else _)
      rw [other _ _ (by decide +kernel)]
      refine iteF ⟨_, rfl, rfl, _, rfl, ?_⟩
      show (if decide (V.str ("gate" : Str) = V.str "gate") = true then _ else _)
      rw [same_]
      refine iteT ⟨_, rfl, _, rfl, z, _, 2, .int ng, rfl, rfl, .inl (.inl ez), rfl, .int (i : Int), "int", (ng : Int), rfl, tyI _, ?_⟩
      rw [bel_nat ok]
      exact q
    | bit b =>
      refine ⟨_, rfl, rfl, _, rfl, ?_⟩
      show (if decide (V.str ("bit" : Str) = V.str "in") = true then _ else _)
      rw [other _ _ (by decide +kernel)]
      refine iteF ⟨_, rfl, rfl, _, rfl, ?_⟩
      show (if decide (V.str ("bit" : Str) = V.str "reg") = true then _ else _)
      rw [other _ _ (by decide +kernel)]
      refine iteF ⟨_, rfl, rfl, _, rfl, ?_⟩
      show (if decide (V.str ("bit" : Str) = V.str "gate") = true then _ else _)
      rw [other _ _ (by decide +kernel)]
      refine iteF ⟨_, rfl, rfl, _, rfl, ?_⟩
      show (if decide (V.str ("bit" : Str) = V.str "bit") = true then _ else _)
      rw [same_]
      refine iteT ⟨_, rfl, .int (bitZ b), "int", rfl, tyI _, ?_⟩
      have e : bel (.int (bitZ b)) 2 = true := by cases b <;> decide
      rw [e]
      exact q
/-- y is a register: its bit at the beginning, its source -/
def RegAt (H : Hp) (y : V) (r : Bool × Src) : Prop := ∃ t v, y = .ref t ∧ H t = some (.tup [bitV r.1, v]) ∧ SrcAt H v r.2
theorem RegAt.ext {H H' : Hp} {y : V} {r : Bool × Src} (h : RegAt H y r) (e : ExtN H H') : RegAt H' y r := by
  obtain ⟨t, v, a, b, c⟩ := h
  exact ⟨t, v, a, e _ _ b (fun _ z => by cases z), c.ext e⟩
theorem SrcAt.ty {H : Hp} {y : V} {s : Src} (h : SrcAt H y s) : Ty1 K H y "tuple" := by
  obtain ⟨t, rfl, e⟩ := h
  exact tyT e
def spRegister : Sp := fun vs H Q _ => ∃ (y : V) (z : Addr) (r : Bool × Src) (ni nr ng : Nat), vs = [y, .ref z] ∧ RegAt H y r ∧ H z = some (.tup [.int ni, .int nr, .int ng]) ∧ r.2.ok ni nr ng ∧ Q (.bl true) H
theorem scRegister : FnScope ["thing", "sizes"] ["thing", "sizes"] (defScope sIsRegister) := ⟨rfl, rfl, rfl, by decide +kernel, rfl, by decide +kernel, by decide +kernel⟩
theorem ok_register {f fT fS f1 : Addr} {fd fdT fdS fd1 : FuncData} (F : Fun K "is_register" "is_register" sIsRegister f fd)
    (GT : FnOk P w K mg base CX0 1 fT fdT ["thing", "many"] (spTupleOf K)) (kT : PySem.W.keepIn K (.ref fT) = true) (bT : Binds K fdT ["thing", "many"] []) (mT : mg "is_tuple_of" = some (.ref fT))
    (GS : FnOk P w K mg base CX0 4 fS fdS ["thing", "sizes"] spSource) (kS : PySem.W.keepIn K (.ref fS) = true) (bS : Binds K fdS ["thing", "sizes"] []) (mS : mg "is_source" = some (.ref fS))
    (G1 : FnOk P w K mg base CX0 3 f1 fd1 ["thing"] (spBit K)) (k1 : PySem.W.keepIn K (.ref f1) = true) (b1 : Binds K fd1 ["thing"] []) (m1 : mg "is_bit" = some (.ref f1)) : FnOk P w K mg base CX0 5 f fd ["thing", "sizes"] spRegister := by
  refine F.ok scRegister (fun vs H Q E h => ?_) (fun cdv A outer s H vs Q E hr h => ?_)
  · obtain ⟨y, z, r, ni, nr, ng, rfl, _⟩ := h
    rfl
  · obtain ⟨y, z, r, ni, nr, ng, rfl, ⟨t, v, rfl, et, hv⟩, ez, ok, q⟩ := h
    refine ⟨_, pss_one (ps_ret (pe_and (pe_call GT (hr.mono (by decide)) (by rfl) mT kT bT .nil pass0 (pa_cons (pv 0) (pa_cons pe_int pa_nil)))
      (pe_and (pe_call G1 (hr.mono (by decide)) (by rfl) m1 k1 b1 .nil pass0 (pa_cons (pe_ix (r := rIxT K) ix_tup (pv 0) pe_int (fun _ _ => rfl)) pa_nil))
        (pe_one (pe_call GS hr (by rfl) mS kS bS .nil pass0 (pa_cons (pe_ix (r := rIxT K) ix_tup (pv 0) pe_int (fun _ _ => rfl)) (pa_cons (pv 1) pa_nil))))))), ?_⟩
    refine ⟨_, rfl, .ref t, "tuple", [bitV r.1, v], 2, rfl, tyT et, fun _ => ⟨t, rfl, .inl (.inl et)⟩, _, rfl, ?_⟩
    refine iteT ⟨_, rfl, t, _, 0, bitV r.1, rfl, rfl, .inl (.inl et), rfl, bitV r.1, "int", rfl, tyI _, _, rfl, ?_⟩
    have e : bel (bitV r.1) 2 = true := by cases r.1 <;> decide
    rw [e]
    exact iteT ⟨_, rfl, t, _, 1, v, rfl, rfl, .inl (.inl et), rfl, _, rfl, v, z, r.2, ni, nr, ng, rfl, hv, ez, ok, q⟩
end
end K02

set_option Elab.async false
set_option linter.all false
set_option maxRecDepth 100000
set_option maxHeartbeats 1000000
/-! Circuits, as they stand: gates. -/
namespace K02
open PySem PySem.Spec L2
open PyProof.Rows GenW GxR
open LamX (ExtN)
abbrev sIsGate : Stmt := top 23 -- is_gate
/-- the items of vs are the things of xs -/
def AllAt {α : Type} (R : Hp → V → α → Prop) (H : Hp) (vs : List V) (xs : List α) : Prop := Paired (R H) vs xs
theorem all_get {α : Type} {R : V → α → Prop} {vs : List V} {xs : List α} (h : Paired R vs xs) : ∀ {i : Nat} {v : V}, vs[i]? = some v → ∃ x, xs[i]? = some x ∧ R v x := by
  induction h with
  | nil => intro i v hv; simp at hv
  | cons r t ih =>
    intro i v hv
    cases i with
    | zero =>
      cases hv
      exact ⟨_, rfl, r⟩
    | succ i => exact ih hv
theorem all_ext {α : Type} {R : Hp → V → α → Prop} {H H' : Hp} (hR : ∀ v x, R H v x → R H' v x) {vs : List V} {xs : List α} (h : AllAt R H vs xs) : AllAt R H' vs xs := by
  unfold AllAt at h ⊢
  induction h with
  | nil => exact .nil
  | cons r t ih => exact .cons (hR _ _ r) ih
abbrev Gate : Type := List Src × List Bool
def GateAt (H : Hp) (y : V) (g : Gate) : Prop := ∃ t a b vs, y = .ref t ∧ H t = some (.tup [.ref a, .ref b]) ∧ H a = some (.tup vs) ∧ AllAt SrcAt H vs g.1 ∧ H b = some (.tup (g.2.map bitV))
theorem GateAt.ext {H H' : Hp} {y : V} {g : Gate} (h : GateAt H y g) (e : ExtN H H') : GateAt H' y g := by
  obtain ⟨t, a, b, vs, h1, h2, h3, h4, h5⟩ := h
  exact ⟨t, a, b, vs, h1, e _ _ h2 (fun _ z => by cases z), e _ _ h3 (fun _ z => by cases z), all_ext (fun v x r => r.ext e) h4, e _ _ h5 (fun _ z => by cases z)⟩
def Gate.ok (ni nr ng : Nat) (g : Gate) : Prop := g.1.length ≤ 4 ∧ g.2.length = 2 ^ g.1.length ∧ ∀ s ∈ g.1, s.ok ni nr ng
section
variable {P : Program} {w : World} {K : PySem.W.Frag} {mg : Str → Option Value} {base : Heap}
def spGateT (TT : List Addr) : Sp := fun vs H Q _ => ∃ (y : V) (z : Addr) (g : Gate) (ni nr ng : Nat), vs = [y, .ref z] ∧ GateAt H y g ∧ H z = some (.tup [.int ni, .int nr, .int ng]) ∧ g.ok ni nr ng ∧ TabsG TT H ∧ ∀ H', Ex TT H H' → Q (.bl true) H'
theorem scGateT : FnScope ["thing", "sizes", "sources", "table", "item"] ["thing", "sizes"] (defScope sIsGate) := ⟨rfl, rfl, rfl, by decide +kernel, rfl, by decide +kernel, by decide +kernel⟩
theorem ok_gateT {TT : List Addr} {f fT fU fB fS c T : Addr} {fd fdT fdU fdB fdS : FuncData} {tk : Tok} (F : Fun K "is_gate" "is_gate" sIsGate f fd) (hc : fd.code = .ref c) (TB : TabB base mg c T) (hTT : T ∈ TT) (mall : mg "all" = none) (mlen : mg "len" = none) (m4 : mg "MOST_SOURCES" = some (.int 4 tk))
    (GT : FnOk P w K mg base CX0 1 fT fdT ["thing", "many"] (spTupleOf K)) (kT : PySem.W.keepIn K (.ref fT) = true) (bT : Binds K fdT ["thing", "many"] []) (mT : mg "is_tuple_of" = some (.ref fT))
    (GU : FnOk P w K mg base CX0 1 fU fdU ["thing", "most"] (spUpTo K)) (kU : PySem.W.keepIn K (.ref fU) = true) (bU : Binds K fdU ["thing", "most"] []) (mU : mg "is_tuple_up_to" = some (.ref fU))
    (GB : FnOk P w K mg base CX0 5 fB fdB ["thing", "many"] (spBits K TT)) (kB : PySem.W.keepIn K (.ref fB) = true) (bB : Binds K fdB ["thing", "many"] []) (mB : mg "is_bits" = some (.ref fB))
    (GS : FnOk P w K mg base CX0 4 fS fdS ["thing", "sizes"] spSource) (kS : PySem.W.keepIn K (.ref fS) = true) (bS : Binds K fdS ["thing", "sizes"] []) (mS : mg "is_source" = some (.ref fS)) : FnOk P w K mg base CX0 6 f fd ["thing", "sizes"] (spGateT TT) := by
  refine okC F hc scGateT (fun vs H Q E h => ?_) (fun A outer s H vs Q E hr h => ?_)
  · obtain ⟨y, z, g, ni, nr, ng, rfl, _⟩ := h
    rfl
  · obtain ⟨y, z, g, ni, nr, ng, rfl, ⟨t, a, b, vs, rfl, et, ea, hv, eb⟩, ez, ok, hT, q⟩ := h
    refine ⟨_, pss_cons (ps_if (pt_not (pt_val (pe_call GT (hr.mono (by decide)) (by rfl) mT kT bT .nil pass0 (pa_cons (pv 0) (pa_cons pe_int pa_nil))))) (pss_one (ps_ret pe_bl)) pss_nil)
      (pss_cons (ps_asg (pv 0) (pg_tup rfl (pgs_cons (pg_name (i := 2) scGateT.nd rfl (Or.inl rfl)) (pgs_cons (pg_name (i := 3) scGateT.nd rfl (Or.inl rfl)) pgs_nil))))
      (pss_cons (ps_if (pt_not (pt_val (pe_call GU (hr.mono (by decide)) (by rfl) mU kU bU .nil pass0 (pa_cons (pv 2) (pa_cons (pe_glob (v := .int 4) (by rfl) m4 ⟨_, rfl⟩) pa_nil))))) (pss_one (ps_ret pe_bl)) pss_nil)
      (pss_one (ps_ret (pe_and (pe_call GB hr (by rfl) mB kB bB .nil pass0 (pa_cons (pv 3) (pa_cons (pe_op op_shl pe_int (pe_callB call_len_seq (by rfl) mlen PySem.boot_len (pa_cons (pv 2) pa_nil))) pa_nil)))
        (pe_one (GX.pe_all (own := [("item", 4)]) (k := 4) hr (by rfl) mall TB rfl rfl scGateT.nd (pi_tup (pv 2)) (blkOk_by (N := ["thing", "sizes", "sources", "table", "item"]) (sc := defScope sIsGate) (by decide +kernel)) (GX.genNames_by (by decide +kernel))
          (fun _ _ _ _ _ _ _ => pg_name (i := 4) scGateT.nd rfl (Or.inl rfl)) (fun _ _ _ _ _ _ _ _ => pts_nil) (fun _ _ _ _ _ _ _ hr2 => pe_call GS hr2 (by rfl) mS kS bS .nil pass0 (pa_cons (pv 4) (pa_cons (pv 1) pa_nil)))))))))), ?_⟩
    refine ⟨_, rfl, .ref t, "tuple", [.ref a, .ref b], 2, rfl, tyT et, fun _ => ⟨t, rfl, .inl (.inl et)⟩, _, rfl, ?_⟩
    refine iteF ⟨_, rfl, t, _, rfl, .inl (.inl et), rfl, _, _, rfl, _, _, rfl, rfl, ?_⟩
    obtain ⟨ok1, ok2, ok3⟩ := ok
    have lv : vs.length = g.1.length := Paired.length hv
    have l4 : vs.length ≤ 4 := by omega
    have e1 : (decide (("tuple" : String) = "tuple") && decide ((vs.length : Int) ≤ 4)) = true := by
      rw [decide_eq_true rfl, decide_eq_true (show (vs.length : Int) ≤ 4 by omega)]
      rfl
    refine ⟨_, rfl, .ref a, "tuple", vs, 4, rfl, tyT ea, fun _ => ⟨a, rfl, .inl (.inl ea)⟩, _, rfl, ?_⟩
    rw [e1]
    refine iteF ⟨_, rfl, _, rfl, a, vs, rfl, .inr (.inl (.inl ea)), _, _, rfl, rfl, ⟨by omega, by omega, by decide⟩, .ref b, "tuple", g.2.map bitV, _, rfl, tyT eb, fun _ => ⟨b, rfl, .inl (.inl eb)⟩, fun _ y hy => ?_, hT, fun H1 x1 => ?_⟩
    · obtain ⟨bb, _, rfl⟩ := List.mem_map.mp hy
      exact ⟨_, tyI _⟩
    · have hb : (g.2.map bitV).all (fun y => bel y 2) = true := List.all_eq_true.mpr fun y hy => by
        obtain ⟨bb, _, rfl⟩ := List.mem_map.mp hy
        cases bb <;> decide
      have hn : ((g.2.map bitV).length : Int) = 1 * 2 ^ ((vs.length : Int)).toNat := by
        rw [List.length_map, ok2, Int.toNat_natCast, lv, Int.one_mul]
        exact Int.natCast_pow 2 _
      have e2 : (decide (("tuple" : String) = "tuple") && decide (((g.2.map bitV).length : Int) = 1 * 2 ^ ((vs.length : Int)).toNat) && (g.2.map bitV).all fun y => bel y 2) = true := by
        rw [hb, decide_eq_true rfl, decide_eq_true hn]
        rfl
      refine ⟨_, rfl, ?_⟩
      rw [e2]
      have hT1 := x1.tabs hT
      have n1 := x1.extN hT
      have ea1 := n1 _ _ ea (fun _ z => by cases z)
      refine iteT ⟨_, rfl, a, rfl, ⟨_, .inl (.inl ea1)⟩, hT1 T hTT, fun H2 hT2 => ⟨fun i m H3 => m + i = vs.length ∧ Ex TT H1 H3, ⟨vs.length, rfl, Ex.tabbed hTT hT2⟩, fun i m H3 hW => ?_⟩⟩
      obtain ⟨em, x3⟩ := hW
      have n3 := x3.extN hT1
      have ea3 := n3 _ _ ea1 (fun _ z => by cases z)
      have sq3 : SqT K H3 a vs := .inl (.inl ea3)
      by_cases hi : i < vs.length
      · refine .inr ⟨⟨vs, vs[i], sq3, List.getElem?_eq_getElem hi⟩, fun H4 => Ex TT H1 H4, fun H4 x4 => ⟨m - 1, by omega, by omega, x4⟩, fun y H4 hy => ?_⟩
        obtain ⟨rfl, hy⟩ := hy
        have ey := hy _ sq3
        obtain ⟨sr, hsr, hs⟩ := all_get hv ey
        have ez4 := n3 _ _ (n1 _ _ ez (fun _ z => by cases z)) (fun _ z => by cases z)
        refine ⟨rfl, _, rfl, _, rfl, y, z, sr, ni, nr, ng, rfl, (hs.ext n1).ext n3, ez4, ok3 sr (List.mem_of_getElem? hsr), _, rfl, ?_⟩
        exact ⟨(fun hc => by cases hc), (fun hc => x3)⟩
      · exact .inl ⟨⟨vs, sq3, by omega⟩, q H3 (x1.trans x3)⟩
end
end K02

set_option Elab.async false
set_option linter.all false
set_option maxRecDepth 100000
set_option maxHeartbeats 2000000
/-! Circuits, as they stand: is_circuit. -/
namespace K02
open PySem PySem.Spec L2
open PyProof.Rows GenW GxR
open LamX (ExtN)
abbrev sIsCircuit : Stmt := top 24 -- is_circuit
abbrev sCheckCircuit : Stmt := top 25 -- check_circuit
structure Circ where
  ni : Nat
  regs : List (Bool × Src)
  gates : List Gate
  outs : List Src
def CircAt (H : Hp) (y : V) (C : Circ) : Prop := ∃ t ra ga oa rs gs os, y = .ref t ∧ H t = some (.tup [.int C.ni, .ref ra, .ref ga, .ref oa]) ∧ H ra = some (.tup rs) ∧ H ga = some (.tup gs) ∧ H oa = some (.tup os) ∧ AllAt RegAt H rs C.regs ∧ AllAt GateAt H gs C.gates ∧ AllAt SrcAt H os C.outs
theorem CircAt.ext {H H' : Hp} {y : V} {C : Circ} (h : CircAt H y C) (e : ExtN H H') : CircAt H' y C := by
  obtain ⟨t, ra, ga, oa, rs, gs, os, h1, h2, h3, h4, h5, h6, h7, h8⟩ := h
  exact ⟨t, ra, ga, oa, rs, gs, os, h1, e _ _ h2 (fun _ z => by cases z), e _ _ h3 (fun _ z => by cases z), e _ _ h4 (fun _ z => by cases z), e _ _ h5 (fun _ z => by cases z), all_ext (fun v x r => r.ext e) h6, all_ext (fun v x r => r.ext e) h7, all_ext (fun v x r => r.ext e) h8⟩
structure Circ.ok (C : Circ) : Prop where
  ni : C.ni ≤ 8
  nr : C.regs.length ≤ 60
  ng : C.gates.length ≤ 2000
  no : C.outs.length ≤ 60
  regs : ∀ r ∈ C.regs, r.2.ok C.ni C.regs.length C.gates.length
  gates : ∀ g ∈ C.gates, g.ok C.ni C.regs.length C.gates.length
  outs : ∀ s ∈ C.outs, s.ok C.ni C.regs.length C.gates.length
section
variable {P : Program} {w : World} {K : PySem.W.Frag} {mg : Str → Option Value} {base : Heap}
/-- not a tuple of four -/
def Odd4 (K : PySem.W.Frag) (H : Hp) (y : V) : Prop := ∃ t xs, Ty1 K H y t ∧ TupV K H y t xs ∧ (decide (t = "tuple") && decide ((xs.length : Int) = 4)) = false
def spCircuitT (K : PySem.W.Frag) (TT : List Addr) : Sp := fun vs H Q _ => ∃ (y : V), vs = [y] ∧ ((∃ C : Circ, CircAt H y C ∧ C.ok ∧ TabsG TT H ∧ ∀ H', Ex TT H H' → Q (.bl true) H') ∨ (Odd4 K H y ∧ Q (.bl false) H))
theorem scCircuitT : FnScope ["thing", "inputs", "registers", "gates", "outputs", "sizes", "item"] ["thing"] (defScope sIsCircuit) := ⟨rfl, rfl, rfl, by decide +kernel, rfl, by decide +kernel, by decide +kernel⟩
theorem ok_circuitT {TT : List Addr} {f fT fU fL fG fR fS c T : Addr} {fd fdT fdU fdL fdG fdR fdS : FuncData} {tk1 tk2 tk3 tk4 : Tok} (F : Fun K "is_circuit" "is_circuit" sIsCircuit f fd) (hc : fd.code = .ref c) (TB : TabB base mg c T) (hTT : T ∈ TT) (mall : mg "all" = none) (mlen : mg "len" = none)
    (m1 : mg "MOST_INPUTS" = some (.int 8 tk1)) (m2 : mg "MOST_REGISTERS" = some (.int 60 tk2)) (m3 : mg "MOST_GATES" = some (.int 2000 tk3)) (m4 : mg "MOST_OUTPUTS" = some (.int 60 tk4))
    (GT : FnOk P w K mg base CX0 1 fT fdT ["thing", "many"] (spTupleOf K)) (kT : PySem.W.keepIn K (.ref fT) = true) (bT : Binds K fdT ["thing", "many"] []) (mT : mg "is_tuple_of" = some (.ref fT))
    (GU : FnOk P w K mg base CX0 1 fU fdU ["thing", "most"] (spUpTo K)) (kU : PySem.W.keepIn K (.ref fU) = true) (bU : Binds K fdU ["thing", "most"] []) (mU : mg "is_tuple_up_to" = some (.ref fU))
    (GL : FnOk P w K mg base CX0 2 fL fdL ["thing", "limit"] (spBelow K)) (kL : PySem.W.keepIn K (.ref fL) = true) (bL : Binds K fdL ["thing", "limit"] []) (mL : mg "is_below" = some (.ref fL))
    (GR : FnOk P w K mg base CX0 5 fR fdR ["thing", "sizes"] spRegister) (kR : PySem.W.keepIn K (.ref fR) = true) (bR : Binds K fdR ["thing", "sizes"] []) (mR : mg "is_register" = some (.ref fR))
    (GG : FnOk P w K mg base CX0 6 fG fdG ["thing", "sizes"] (spGateT TT)) (kG : PySem.W.keepIn K (.ref fG) = true) (bG : Binds K fdG ["thing", "sizes"] []) (mG : mg "is_gate" = some (.ref fG))
    (GS : FnOk P w K mg base CX0 4 fS fdS ["thing", "sizes"] spSource) (kS : PySem.W.keepIn K (.ref fS) = true) (bS : Binds K fdS ["thing", "sizes"] []) (mS : mg "is_source" = some (.ref fS)) : FnOk P w K mg base CX0 8 f fd ["thing"] (spCircuitT K TT) := by
  refine okC F hc scCircuitT (fun vs H Q E h => ?_) (fun A outer s H vs Q E hr h => ?_)
  · obtain ⟨y, rfl, _⟩ := h
    rfl
  · obtain ⟨y, rfl, h⟩ := h
    refine ⟨_, pss_cons (ps_if (pt_not (pt_val (pe_call GT (hr.mono (by decide)) (by rfl) mT kT bT .nil pass0 (pa_cons (pv 0) (pa_cons pe_int pa_nil))))) (pss_one (ps_ret pe_bl)) pss_nil)
      (pss_cons (ps_asg (pv 0) (pg_tup rfl (pgs_cons (pg_name (i := 1) scCircuitT.nd rfl (Or.inl rfl)) (pgs_cons (pg_name (i := 2) scCircuitT.nd rfl (Or.inl rfl)) (pgs_cons (pg_name (i := 3) scCircuitT.nd rfl (Or.inl rfl)) (pgs_cons (pg_name (i := 4) scCircuitT.nd rfl (Or.inl rfl)) pgs_nil))))))
      (pss_cons (ps_if (pw_or (pt_not (pt_val (pe_call GL (hr.mono (by decide)) (by rfl) mL kL bL .nil pass0 (pa_cons (pv 1) (pa_cons (pe_op op_add (pe_glob (v := .int 8) (by rfl) m1 ⟨_, rfl⟩) pe_int) pa_nil)))))
          (pw_or1 (pt_not (pt_val (pe_call GU (hr.mono (by decide)) (by rfl) mU kU bU .nil pass0 (pa_cons (pv 2) (pa_cons (pe_glob (v := .int 60) (by rfl) m2 ⟨_, rfl⟩) pa_nil))))))).pt (pss_one (ps_ret pe_bl)) pss_nil)
      (pss_cons (ps_if (pw_or (pt_not (pt_val (pe_call GU (hr.mono (by decide)) (by rfl) mU kU bU .nil pass0 (pa_cons (pv 3) (pa_cons (pe_glob (v := .int 2000) (by rfl) m3 ⟨_, rfl⟩) pa_nil)))))
          (pw_or1 (pt_not (pt_val (pe_call GU (hr.mono (by decide)) (by rfl) mU kU bU .nil pass0 (pa_cons (pv 4) (pa_cons (pe_glob (v := .int 60) (by rfl) m4 ⟨_, rfl⟩) pa_nil))))))).pt (pss_one (ps_ret pe_bl)) pss_nil)
      (pss_cons (ps_set (i := 5) scCircuitT.nd rfl (Or.inr rfl) (pe_tup (pa_cons (pv 1) (pa_cons (pe_callB call_len_seq (by rfl) mlen PySem.boot_len (pa_cons (pv 2) pa_nil)) (pa_cons (pe_callB call_len_seq (by rfl) mlen PySem.boot_len (pa_cons (pv 3) pa_nil)) pa_nil)))))
      (pss_cons (ps_if (pt_not (pt_val (GX.pe_all (own := [("item", 6)]) (k := 5) (hr.mono (by decide)) (by rfl) mall TB rfl rfl scCircuitT.nd (pi_tup (pv 2)) (blkOk_by (N := ["thing", "inputs", "registers", "gates", "outputs", "sizes", "item"]) (sc := defScope sIsCircuit) (by decide +kernel)) (GX.genNames_by (by decide +kernel))
          (fun _ _ _ _ _ _ _ => pg_name (i := 6) scCircuitT.nd rfl (Or.inl rfl)) (fun _ _ _ _ _ _ _ _ => pts_nil) (fun _ _ _ _ _ _ _ hr2 => pe_call GR hr2 (by rfl) mR kR bR .nil pass0 (pa_cons (pv 6) (pa_cons (pv 5) pa_nil)))))) (pss_one (ps_ret pe_bl)) pss_nil)
      (pss_cons (ps_if (pt_not (pt_val (GX.pe_all (own := [("item", 6)]) (k := 6) hr (by rfl) mall TB rfl rfl scCircuitT.nd (pi_tup (pv 3)) (blkOk_by (N := ["thing", "inputs", "registers", "gates", "outputs", "sizes", "item"]) (sc := defScope sIsCircuit) (by decide +kernel)) (GX.genNames_by (by decide +kernel))
          (fun _ _ _ _ _ _ _ => pg_name (i := 6) scCircuitT.nd rfl (Or.inl rfl)) (fun _ _ _ _ _ _ _ _ => pts_nil) (fun _ _ _ _ _ _ _ hr2 => pe_call GG hr2 (by rfl) mG kG bG .nil pass0 (pa_cons (pv 6) (pa_cons (pv 5) pa_nil)))))) (pss_one (ps_ret pe_bl)) pss_nil)
      (pss_one (ps_ret (GX.pe_all (own := [("item", 6)]) (k := 4) (hr.mono (by decide)) (by rfl) mall TB rfl rfl scCircuitT.nd (pi_tup (pv 4)) (blkOk_by (N := ["thing", "inputs", "registers", "gates", "outputs", "sizes", "item"]) (sc := defScope sIsCircuit) (by decide +kernel)) (GX.genNames_by (by decide +kernel))
          (fun _ _ _ _ _ _ _ => pg_name (i := 6) scCircuitT.nd rfl (Or.inl rfl)) (fun _ _ _ _ _ _ _ _ => pts_nil) (fun _ _ _ _ _ _ _ hr2 => pe_call GS hr2 (by rfl) mS kS bS .nil pass0 (pa_cons (pv 6) (pa_cons (pv 5) pa_nil)))))))))))), ?_⟩
    rcases h with ⟨C, ⟨t, ra, ga, oa, rs, gs, os, rfl, et, er, eg, eo, hrs, hgs, hos⟩, ok, hT, q⟩ | ⟨⟨ty, xs, ht, hx, no⟩, q⟩
    case inr =>
      refine ⟨_, rfl, y, ty, xs, 4, rfl, ht, hx, _, rfl, ?_⟩
      rw [no]
      exact iteT q
    refine ⟨_, rfl, .ref t, "tuple", [.int C.ni, .ref ra, .ref ga, .ref oa], 4, rfl, tyT et, fun _ => ⟨t, rfl, .inl (.inl et)⟩, _, rfl, ?_⟩
    refine iteF ⟨_, rfl, t, _, rfl, .inl (.inl et), rfl, _, _, rfl, _, _, rfl, _, _, rfl, _, _, rfl, rfl, ?_⟩
    have lr : rs.length = C.regs.length := Paired.length hrs
    have lg : gs.length = C.gates.length := Paired.length hgs
    have lo : os.length = C.outs.length := Paired.length hos
    have k1 := ok.ni
    have k2 := ok.nr
    have k3 := ok.ng
    have k4 := ok.no
    have u1 : (decide (("tuple" : String) = "tuple") && decide ((rs.length : Int) ≤ 60)) = true := by
      rw [decide_eq_true rfl, decide_eq_true (show (rs.length : Int) ≤ 60 by omega)]
      rfl
    have u2 : (decide (("tuple" : String) = "tuple") && decide ((gs.length : Int) ≤ 2000)) = true := by
      rw [decide_eq_true rfl, decide_eq_true (show (gs.length : Int) ≤ 2000 by omega)]
      rfl
    have u3 : (decide (("tuple" : String) = "tuple") && decide ((os.length : Int) ≤ 60)) = true := by
      rw [decide_eq_true rfl, decide_eq_true (show (os.length : Int) ≤ 60 by omega)]
      rfl
    have ub : bel (.int (C.ni : Int)) 9 = true := bel_nat (l := 9) (show C.ni < 9 by omega)
    refine ⟨_, rfl, _, _, rfl, rfl, .int C.ni, "int", 9, rfl, tyI _, _, rfl, ?_⟩
    rw [ub]
    refine iteF ⟨_, rfl, .ref ra, "tuple", rs, 60, rfl, tyT er, fun _ => ⟨ra, rfl, .inl (.inl er)⟩, _, rfl, ?_⟩
    rw [u1]
    refine iteF ⟨_, rfl, .ref ga, "tuple", gs, 2000, rfl, tyT eg, fun _ => ⟨ga, rfl, .inl (.inl eg)⟩, _, rfl, ?_⟩
    rw [u2]
    refine iteF ⟨_, rfl, .ref oa, "tuple", os, 60, rfl, tyT eo, fun _ => ⟨oa, rfl, .inl (.inl eo)⟩, _, rfl, ?_⟩
    rw [u3]
    refine iteF ⟨_, rfl, _, rfl, ra, rs, rfl, .inr (.inl (.inl er)), _, rfl, ga, gs, rfl, .inr (.inl (.inl eg)), (show 3 ≤ sizeLine by decide +kernel), fun z nz => ?_⟩
    have xz : Ex TT H (L2.upd H z (.tup [.int C.ni, .int rs.length, .int gs.length])) := Ex.same (same_new nz)
    have ez : (L2.upd H z (.tup [.int C.ni, .int rs.length, .int gs.length])) z = some (.tup [.int C.ni, .int C.regs.length, .int C.gates.length]) := by
      rw [upd_same, lr, lg]
    revert xz ez
    generalize (L2.upd H z (.tup [.int C.ni, .int rs.length, .int gs.length])) = Hz
    intro xz ez
    have hTz := xz.tabs hT
    have nz1 := xz.extN hT
    have erz := nz1 _ _ er (fun _ z => by cases z)
    have egz := nz1 _ _ eg (fun _ z => by cases z)
    have eoz := nz1 _ _ eo (fun _ z => by cases z)
    have hrz : AllAt RegAt Hz rs C.regs := all_ext (fun v x r => r.ext nz1) hrs
    have hgz : AllAt GateAt Hz gs C.gates := all_ext (fun v x r => r.ext nz1) hgs
    have hoz : AllAt SrcAt Hz os C.outs := all_ext (fun v x r => r.ext nz1) hos
    refine ⟨_, rfl, ra, rfl, ⟨_, .inl (.inl erz)⟩, hTz T hTT, fun H2 hT2 => ⟨fun i m H3 => m + i = rs.length ∧ Ex TT Hz H3, ⟨rs.length, rfl, Ex.tabbed hTT hT2⟩, fun i m H3 hW => ?_⟩⟩
    · obtain ⟨em, x3⟩ := hW
      have n3 := x3.extN hTz
      have er3 := n3 _ _ erz (fun _ z => by cases z)
      have sq3 : SqT K H3 ra rs := .inl (.inl er3)
      by_cases hi : i < rs.length
      · refine .inr ⟨⟨rs, rs[i], sq3, List.getElem?_eq_getElem hi⟩, fun H4 => Ex TT Hz H4, fun H4 x4 => ⟨m - 1, by omega, by omega, x4⟩, fun y H4 hy => ?_⟩
        obtain ⟨rfl, hy⟩ := hy
        have ey := hy _ sq3
        obtain ⟨r, hr1, hs⟩ := all_get hrz ey
        refine ⟨rfl, _, rfl, _, rfl, y, z, r, C.ni, C.regs.length, C.gates.length, rfl, hs.ext n3, n3 _ _ ez (fun _ z => by cases z), ok.regs r (List.mem_of_getElem? hr1), _, rfl, ?_⟩
        exact ⟨(fun hc => by cases hc), (fun hc => x3)⟩
      · refine .inl ⟨⟨rs, sq3, by omega⟩, _, rfl, ?_⟩
        refine iteF ?_
        have hT3 := x3.tabs hTz
        have eg3 := n3 _ _ egz (fun _ z => by cases z)
        have hg3 : AllAt GateAt H3 gs C.gates := all_ext (fun v x r => r.ext n3) hgz
        have xa := xz.trans x3
        have na := xa.extN hT
        have ez3 := n3 _ _ ez (fun _ z => by cases z)
        refine ⟨_, rfl, ga, rfl, ⟨_, .inl (.inl eg3)⟩, hT3 T hTT, fun H5 hT5 => ⟨fun i m H6 => m + i = gs.length ∧ Ex TT H3 H6, ⟨gs.length, rfl, Ex.tabbed hTT hT5⟩, fun i m H6 hW => ?_⟩⟩
        obtain ⟨em, x6⟩ := hW
        have n6 := x6.extN hT3
        have eg6 := n6 _ _ eg3 (fun _ z => by cases z)
        have sq6 : SqT K H6 ga gs := .inl (.inl eg6)
        by_cases hi : i < gs.length
        · refine .inr ⟨⟨gs, gs[i], sq6, List.getElem?_eq_getElem hi⟩, fun H7 => Ex TT H3 H7, fun H7 x7 => ⟨m - 1, by omega, by omega, x7⟩, fun y H7 hy => ?_⟩
          obtain ⟨rfl, hy⟩ := hy
          have ey := hy _ sq6
          obtain ⟨g, hg1, hs⟩ := all_get hg3 ey
          refine ⟨rfl, _, rfl, _, rfl, y, z, g, C.ni, C.regs.length, C.gates.length, rfl, hs.ext n6, n6 _ _ ez3 (fun _ z => by cases z), ok.gates g (List.mem_of_getElem? hg1), x6.tabs hT3, fun H8 x8 => ⟨_, rfl, ?_⟩⟩
          exact ⟨(fun hc => by cases hc), (fun hc => x6.trans x8)⟩
        · refine .inl ⟨⟨gs, sq6, by omega⟩, _, rfl, ?_⟩
          refine iteF ?_
          have hT6 := x6.tabs hT3
          have xb := xa.trans x6
          have nb := xb.extN hT
          have eo6 := nb _ _ eo (fun _ z => by cases z)
          have ho6 : AllAt SrcAt H6 os C.outs := all_ext (fun v x r => r.ext nb) hos
          have ez6 := n6 _ _ ez3 (fun _ z => by cases z)
          refine ⟨_, rfl, oa, rfl, ⟨_, .inl (.inl eo6)⟩, hT6 T hTT, fun H9 hT9 => ⟨fun i m H6' => m + i = os.length ∧ Ex TT H6 H6', ⟨os.length, rfl, Ex.tabbed hTT hT9⟩, fun i m Ha hW => ?_⟩⟩
          obtain ⟨em, xc⟩ := hW
          have nc := xc.extN hT6
          have eo9 := nc _ _ eo6 (fun _ z => by cases z)
          have sq9 : SqT K Ha oa os := .inl (.inl eo9)
          by_cases hi : i < os.length
          · refine .inr ⟨⟨os, os[i], sq9, List.getElem?_eq_getElem hi⟩, fun Hb => Ex TT H6 Hb, fun Hb x7 => ⟨m - 1, by omega, by omega, x7⟩, fun y Hb hy => ?_⟩
            obtain ⟨rfl, hy⟩ := hy
            have ey := hy _ sq9
            obtain ⟨sr, hg1, hs⟩ := all_get ho6 ey
            refine ⟨rfl, _, rfl, _, rfl, y, z, sr, C.ni, C.regs.length, C.gates.length, rfl, hs.ext nc, nc _ _ ez6 (fun _ z => by cases z), ok.outs sr (List.mem_of_getElem? hg1), _, rfl, ?_⟩
            exact ⟨(fun hc => by cases hc), (fun hc => xc)⟩
          · exact .inl ⟨⟨os, sq9, by omega⟩, q Ha (xb.trans xc)⟩
end
end K02

set_option Elab.async false
set_option linter.all false
set_option maxRecDepth 100000
set_option maxHeartbeats 2000000
/-! Cases: check_circuit, is_readings, check_case. -/
namespace K02
open PySem PySem.Spec L2
open PyProof.Rows GenW GxR
open LamX (ExtN)
section
variable {P : Program} {w : World} {K : PySem.W.Frag} {mg : Str → Option Value} {base : Heap}
/-- as okC, for a def that may raise -/
theorem okCX {x qual : Str} {st : Stmt} {f c : Addr} {fd : FuncData} {N ps : List Str} {k : Nat} {sp : Sp} (F : Fun K x qual st f fd) (hc : fd.code = .ref c) (S : FnScope N ps (defScope st)) (len : ∀ vs H Q E, sp vs H Q E → vs.length = ps.length)
    (hbody : ∀ (A : Around) (outer : List Env) (s : Shared) (H : Hp) (vs : List V) (Q : VK) (E : XK), Room k (A.deeper (envOfC qual (defScope st) s.heap.objs.size f (.ref c))) → sp vs H Q E →
      ∃ t, PSs (cxOf (L2.CX P w) P w K mg base N qual (defScope st) f (.ref c) A outer s H E) (defBody st) t ∧ t { nx := fun _ H' => Q .non H', rt := Q } (start N vs) H) : FnOk P w K mg base (L2.CX P w) (k + 1) f fd ps sp := by
  obtain ⟨oc, od, kV, doc, pm, an, cdv, ct, osl, rfl, lk, hcd⟩ := F.ex
  have e : cdv = .ref c := hc
  subst e
  exact fn_of lk hcd S len fun A outer s H vs Q E hr hsp => hbody A outer s H vs Q E hr hsp

def spCheckC (K : PySem.W.Frag) (TT : List Addr) (CC : Addr) : Sp := fun vs H Q E => ∃ (y : V), vs = [y] ∧ ((∃ C : Circ, CircAt H y C ∧ C.ok ∧ TabsG TT H ∧ ∀ H', Ex TT H H' → Q .non H') ∨ (Odd4 K H y ∧ E (.ref CC) none H))
theorem scCheckC : FnScope ["circuit"] ["circuit"] (defScope sCheckCircuit) := ⟨rfl, rfl, rfl, by decide +kernel, rfl, by decide +kernel, by decide +kernel⟩
theorem ok_checkC {TT : List Addr} {f fC c CC : Addr} {fd fdC : FuncData} (F : Fun K "check_circuit" "check_circuit" sCheckCircuit f fd) (hc : fd.code = .ref c)
    (xC : PySem.W.excIn K CC [.type "ValueError", .type "Exception", .type "BaseException", .type "object"] "ValueError.__new__" = true) (gC : mg "BadCircuit" = some (.ref CC)) (kCC : PySem.W.keepIn K (.ref CC) = true) (bCC : PySem.W.subIn K (.ref CC) (.type "BaseException") = some true) (tCC : PySem.W.typeIn K (.ref CC) = some (.type "type"))
    (GC : FnOk P w K mg base CX0 8 fC fdC ["thing"] (spCircuitT K TT)) (kC : PySem.W.keepIn K (.ref fC) = true) (bC : Binds K fdC ["thing"] []) (mC : mg "is_circuit" = some (.ref fC)) :
    FnOk P w K mg base (L2.CX P w) 9 f fd ["circuit"] (spCheckC K TT CC) := by
  refine okCX F hc scCheckC (fun vs H Q E h => ?_) (fun A outer s H vs Q E hr h => ?_)
  · obtain ⟨y, rfl, _⟩ := h
    rfl
  · obtain ⟨y, rfl, h⟩ := h
    refine ⟨_, pss_one (ps_if (pt_not (pt_val (pe_call GC hr (by rfl) mC kC bC .nil pass0 (pa_cons (pv 0) pa_nil))))
        (pss_one (ps_raise rfl (takes_of rfl rfl rfl rfl) (pmk_own PySem.F.excBase_ValueError xC gC kCC (raises_own bCC tCC) (by rfl)))) pss_nil), ?_⟩
    rcases h with ⟨C, hC, ok, hT, q⟩ | ⟨o, q⟩
    · exact ⟨_, rfl, y, rfl, .inl ⟨C, hC, ok, hT, fun H' x => ⟨_, rfl, iteF (q H' x)⟩⟩⟩
    · exact ⟨_, rfl, y, rfl, .inr ⟨o, _, rfl, iteT q⟩⟩
end
end K02

set_option Elab.async false
set_option linter.all false
set_option maxRecDepth 100000
set_option maxHeartbeats 2000000
/-! check_case. -/
namespace K02
open PySem PySem.Spec L2
open PyProof.Rows GenW GxR
open LamX (ExtN)
theorem bel_bit {y : V} (h : bel y 2 = true) : ∃ b, y = bitV b := by
  cases y with
  | int i =>
    have h : (decide (0 ≤ i) && decide (i < 2)) = true := h
    simp only [Bool.and_eq_true, decide_eq_true_eq] at h
    by_cases h1 : i = 1
    · exact ⟨true, by rw [h1]; rfl⟩
    · exact ⟨false, by rw [show i = 0 by omega]; rfl⟩
  | _ => cases h
theorem rdB_rd {y : V} (h : rdB y = true) : ∃ r, y = rdV r := by
  unfold rdB at h
  rcases (Bool.or_eq_true _ _).mp h with h | h
  · exact ⟨none, of_decide_eq_true h⟩
  · obtain ⟨b, e⟩ := bel_bit h
    exact ⟨some b, e⟩
theorem all_bits {xs : List V} (h : (xs.all fun y => bel y 2) = true) : ∃ tb : List Bool, xs = tb.map bitV := by
  induction xs with
  | nil => exact ⟨[], rfl⟩
  | cons x r ih =>
    rw [List.all_cons, Bool.and_eq_true] at h
    obtain ⟨b, e⟩ := bel_bit h.1
    obtain ⟨tb, e2⟩ := ih h.2
    exact ⟨b :: tb, by rw [e, e2]; rfl⟩
theorem all_rds {xs : List V} (h : xs.all rdB = true) : ∃ rs : List (Option Bool), xs = rs.map rdV := by
  induction xs with
  | nil => exact ⟨[], rfl⟩
  | cons x r ih =>
    rw [List.all_cons, Bool.and_eq_true] at h
    obtain ⟨b, e⟩ := rdB_rd h.1
    obtain ⟨tb, e2⟩ := ih h.2
    exact ⟨b :: tb, by rw [e, e2]; rfl⟩
def okRd (t : String) (xs : List V) (n : Nat) : Bool := decide (t = "tuple") && decide ((xs.length : Int) = n) && xs.all rdB
theorem okRd_rds {t : String} {xs : List V} {n : Nat} (h : okRd t xs n = true) : t = "tuple" ∧ xs.length = n ∧ ∃ rs : List (Option Bool), xs = rs.map rdV := by
  unfold okRd at h
  simp only [Bool.and_eq_true, decide_eq_true_eq] at h
  obtain ⟨⟨a, b⟩, c⟩ := h
  exact ⟨a, by omega, all_rds c⟩
section
variable {P : Program} {w : World} {K : PySem.W.Frag} {mg : Str → Option Value} {base : Heap}
/-- what is known of a value that stands for readings -/
def ItemsV (K : PySem.W.Frag) (H : Hp) (x : V) (t : String) (xs : List V) : Prop := Ty1 K H x t ∧ TupV K H x t xs ∧ (t = "tuple" → ∀ y ∈ xs, ∃ ty, Ty1 K H y ty)
theorem ItemsV.ext {H H' : Hp} {x : V} {t : String} {xs : List V} (h : ItemsV K H x t xs) (e : ExtN H H') : ItemsV K H' x t xs :=
  ⟨h.1.ext e, h.2.1.ext e, fun ht y hy => by
    obtain ⟨ty, z⟩ := h.2.2 ht y hy
    exact ⟨ty, z.ext e⟩⟩
end
end K02

set_option Elab.async false
set_option linter.all false
set_option maxRecDepth 100000
set_option maxHeartbeats 2000000
/-! source_reading, gate_now. -/
namespace K02
open PySem PySem.Spec L2
open PyProof.Rows GenW GxR
open LamX (ExtN)
abbrev sSrcR : Stmt := top 28 -- source_reading
abbrev sGateNow : Stmt := top 30 -- gate_now
abbrev Rd : Type := Option Bool
def srcV (gv hv fv : List Rd) : Src → Rd
  | .inp i => gv.getD i none
  | .reg i => hv.getD i none
  | .gate i => fv.getD i none
  | .bit b => some b
def gateV (gv hv fv : List Rd) (g : Gate) : Rd := gateR g.2 (g.1.map (srcV gv hv fv))
theorem at_rd {l : List Rd} {i : Nat} (h : i < l.length) : atI (l.map rdV) (i : Int) = some (rdV (l.getD i none)) := by
  refine atI_nat ?_
  rw [List.getElem?_map, List.getElem?_eq_getElem h, List.getD_eq_getElem?_getD, List.getElem?_eq_getElem h]
  rfl
section
variable {P : Program} {w : World} {K : PySem.W.Frag} {mg : Str → Option Value} {base : Heap}
def spSrcR (K : PySem.W.Frag) : Sp := fun vs H Q _ => ∃ (y : V) (ga ha la : Addr) (s : Src) (gv hv fv : List Rd), vs = [y, .ref ga, .ref ha, .ref la] ∧ SrcAt H y s ∧ SqT K H ga (gv.map rdV) ∧ SqT K H ha (hv.map rdV) ∧ H la = some (.lst (fv.map rdV)) ∧ s.ok gv.length hv.length fv.length ∧ Q (rdV (srcV gv hv fv s)) H
theorem scSrcR : FnScope ["source", "given", "held", "gates", "kind", "at"] ["source", "given", "held", "gates"] (defScope sSrcR) := ⟨rfl, rfl, rfl, by decide +kernel, rfl, by decide +kernel, by decide +kernel⟩
theorem ok_srcR {f : Addr} {fd : FuncData} (F : Fun K "source_reading" "source_reading" sSrcR f fd) : FnOk P w K mg base CX0 1 f fd ["source", "given", "held", "gates"] (spSrcR K) := by
  refine F.ok scSrcR (fun vs H Q E h => ?_) (fun cdv A outer s H vs Q E hr h => ?_)
  · obtain ⟨y, ga, ha, la, sr, gv, hv, fv, rfl, _⟩ := h
    rfl
  · obtain ⟨y, ga, ha, la, sr, gv, hv, fv, rfl, ⟨t, rfl, et⟩, hg, hh, hl, ok, q⟩ := h
    refine ⟨_, pss_cons (ps_asg (pv 0) (pg_tup rfl (pgs_cons (pg_name (i := 4) scSrcR.nd rfl (Or.inl rfl)) (pgs_cons (pg_name (i := 5) scSrcR.nd rfl (Or.inl rfl)) pgs_nil))))
      (pss_cons (ps_if (pt_cmpR op_eq (pv 4) pe_str (nomark _)) (pss_one (ps_ret (pe_ix (r := rIxT K) ix_tup (pv 1) (pv 5) (fun _ _ => rfl)))) pss_nil)
      (pss_cons (ps_if (pt_cmpR op_eq (pv 4) pe_str (nomark _)) (pss_one (ps_ret (pe_ix (r := rIxT K) ix_tup (pv 2) (pv 5) (fun _ _ => rfl)))) pss_nil)
      (pss_cons (ps_if (pt_cmpR op_eq (pv 4) pe_str (nomark _)) (pss_one (ps_ret (pe_ix (r := rIxL K) ix_list (pv 3) (pv 5) (fun _ _ => rfl)))) pss_nil)
      (pss_one (ps_ret (pv 5)))))), ?_⟩
    refine ⟨_, rfl, t, _, rfl, .inl (.inl et), rfl, _, _, rfl, _, _, rfl, rfl, ?_⟩
    have same_ : ∀ a : Str, decide (V.str a = V.str a) = true := fun a => decide_eq_true rfl
    have other : ∀ a b : Str, ¬ a = b → decide (V.str a = V.str b) = false := fun a b h => decide_eq_false fun z => h (V.str.inj z)
    cases sr with
    | inp i =>
      refine ⟨_, rfl, rfl, _, rfl, ?_⟩
      show (if decide (V.str ("in" : Str) = V.str "in") = true then _ else _)
      rw [same_]
      exact iteT ⟨_, rfl, _, rfl, ga, _, (i : Int), _, rfl, rfl, hg, at_rd ok, q⟩
    | reg i =>
      refine ⟨_, rfl, rfl, _, rfl, ?_⟩
      show (if decide (V.str ("reg" : Str) = V.str "in") = true then _ else _)
      rw [other _ _ (by decide +kernel)]
      refine iteF ⟨_, rfl, rfl, _, rfl, ?_⟩
      show (if decide (V.str ("reg" : Str) = V.str "reg") = true then _ else _)
      rw [same_]
      exact iteT ⟨_, rfl, _, rfl, ha, _, (i : Int), _, rfl, rfl, hh, at_rd ok, q⟩
    | gate i =>
      refine ⟨_, rfl, rfl, _, rfl, ?_⟩
      show (if decide (V.str ("gate" : Str) = V.str "in") = true then _ else _)
      rw [other _ _ (by decide +kernel)]
      refine iteF ⟨_, rfl, rfl, _, rfl, ?_⟩
      show (if decide (V.str ("gate" : Str) = V.str "reg") = true then _ else _)
      rw [other _ _ (by decide +kernel)]
      refine iteF ⟨_, rfl, rfl, _, rfl, ?_⟩
      show (if decide (V.str ("gate" : Str) = V.str "gate") = true then _ else _)
      rw [same_]
      exact iteT ⟨_, rfl, _, rfl, la, _, (i : Int), _, rfl, rfl, .inl (.inl hl), at_rd ok, q⟩
    | bit b =>
      refine ⟨_, rfl, rfl, _, rfl, ?_⟩
      show (if decide (V.str ("bit" : Str) = V.str "in") = true then _ else _)
      rw [other _ _ (by decide +kernel)]
      refine iteF ⟨_, rfl, rfl, _, rfl, ?_⟩
      show (if decide (V.str ("bit" : Str) = V.str "reg") = true then _ else _)
      rw [other _ _ (by decide +kernel)]
      refine iteF ⟨_, rfl, rfl, _, rfl, ?_⟩
      show (if decide (V.str ("bit" : Str) = V.str "gate") = true then _ else _)
      rw [other _ _ (by decide +kernel)]
      exact iteF ⟨_, rfl, q⟩
def spGateNow (K : PySem.W.Frag) : Sp := fun vs H Q _ => ∃ (y : V) (C : Circ) (gi : Nat) (g : Gate) (ga ha la : Addr) (gv hv fv : List Rd), vs = [y, .int (gi : Int), .ref ga, .ref ha, .ref la] ∧ CircAt H y C ∧ C.gates[gi]? = some g ∧ g.ok gv.length hv.length fv.length ∧ SqT K H ga (gv.map rdV) ∧ SqT K H ha (hv.map rdV) ∧ H la = some (.lst (fv.map rdV)) ∧
  ∀ H', Same H H' → Q (rdV (gateV gv hv fv g)) H'
theorem scGateNow : FnScope ["circuit", "gate", "given", "held", "gates", "sources", "table", "item"] ["circuit", "gate", "given", "held", "gates"] (defScope sGateNow) := ⟨rfl, rfl, rfl, by decide +kernel, rfl, by decide +kernel, by decide +kernel⟩
theorem ok_gateNow {f fS fT : Addr} {fd fdS fdT : FuncData} (F : Fun K "gate_now" "gate_now" sGateNow f fd)
    (GS : FnOk P w K mg base CX0 1 fS fdS ["source", "given", "held", "gates"] (spSrcR K)) (kS : PySem.W.keepIn K (.ref fS) = true) (bS : Binds K fdS ["source", "given", "held", "gates"] []) (mS : mg "source_reading" = some (.ref fS))
    (GT : FnOk P w K mg base CX0 1 fT fdT ["table", "readings"] (spTable K)) (kT : PySem.W.keepIn K (.ref fT) = true) (bT : Binds K fdT ["table", "readings"] []) (mT : mg "table_reading" = some (.ref fT)) :
    FnOk P w K mg base CX0 2 f fd ["circuit", "gate", "given", "held", "gates"] (spGateNow K) := by
  refine F.ok scGateNow (fun vs H Q E h => ?_) (fun cdv A outer s H vs Q E hr h => ?_)
  · obtain ⟨y, C, gi, g, ga, ha, la, gv, hv, fv, rfl, _⟩ := h
    rfl
  · obtain ⟨y, C, gi, g, ga, ha, la, gv, hv, fv, rfl, ⟨t, ra, gaa, oa, rs, gs, os, rfl, et, er, eg, eo, hrs, hgs, hos⟩, hgi, ok, hg, hh, hl, q⟩ := h
    obtain ⟨gv_, hgv⟩ : ∃ v, gs[gi]? = some v := by
      have hlt : gi < C.gates.length := (List.getElem?_eq_some_iff.mp hgi).1
      rw [← Paired.length hgs] at hlt
      exact ⟨_, List.getElem?_eq_getElem hlt⟩
    obtain ⟨g2, hg2, hgat⟩ := all_get hgs hgv
    have eg2 : g2 = g := by
      rw [hgi] at hg2
      exact (Option.some.inj hg2).symm
    subst eg2
    obtain ⟨tt, a, b, vs, rfl, ett, ea, hv2, eb⟩ := hgat
    obtain ⟨ok1, ok2, ok3⟩ := ok
    have lv : vs.length = g2.1.length := Paired.length hv2
    refine ⟨_, pss_cons (ps_asg (pe_ix (r := rIxT K) ix_tup (pe_ix (r := rIxT K) ix_tup (pv 0) pe_int (fun _ _ => rfl)) (pv 1) (fun _ _ => rfl)) (pg_tup rfl (pgs_cons (pg_name (i := 5) scGateNow.nd rfl (Or.inl rfl)) (pgs_cons (pg_name (i := 6) scGateNow.nd rfl (Or.inl rfl)) pgs_nil))))
      (pss_one (ps_ret (pe_call GT hr (by rfl) mT kT bT .nil pass0 (pa_cons (pv 6) (pa_cons (pe_lc (own := [("item", 7)]) (g := gName 7) (tt := tYes) rfl scGateNow.nd (pi_tup (pv 5)) (blkOk_by (N := ["circuit", "gate", "given", "held", "gates", "sources", "table", "item"]) (sc := defScope sGateNow) (by decide +kernel))
        (fun _ _ _ _ _ => pg_name (i := 7) scGateNow.nd rfl (Or.inl rfl)) (fun _ _ _ _ _ => pts_nil) (fun _ _ _ _ _ => pe_call GS hr (by rfl) mS kS bS .nil pass0 (pa_cons (pv 7) (pa_cons (pv 2) (pa_cons (pv 3) (pa_cons (pv 4) pa_nil)))))) pa_nil))))), ?_⟩
    refine ⟨_, rfl, t, _, 2, .ref gaa, rfl, rfl, .inl (.inl et), rfl, _, rfl, gaa, gs, (gi : Int), .ref tt, rfl, rfl, .inl (.inl eg), atI_nat hgv, tt, _, rfl, .inl (.inl ett), rfl, _, _, rfl, _, _, rfl, rfl, ?_⟩
    refine ⟨_, rfl, _, rfl, a, rfl, ⟨_, .inl (.inl ea)⟩, fun D nD => ⟨fun i m H3 => m + i = vs.length ∧ Same H H3 ∧ H3 D = some (.lst ((g2.1.take i).map fun s => rdV (srcV gv hv fv s))), ⟨vs.length, rfl, same_new nD, upd_same⟩, fun i m H3 hW => ?_⟩⟩
    obtain ⟨em, s3, e3⟩ := hW
    have ea3 := s3 _ _ ea
    have sq3 : SqT K H3 a vs := .inl (.inl ea3)
    by_cases hi : i < vs.length
    · refine .inr ⟨⟨vs, vs[i], sq3, List.getElem?_eq_getElem hi⟩, fun H4 => Same H H4 ∧ H4 D = some (.lst ((g2.1.take (i + 1)).map fun s => rdV (srcV gv hv fv s))), fun H4 x4 => ⟨m - 1, by omega, by omega, x4.1, x4.2⟩, fun y H4 hy => ?_⟩
      obtain ⟨rfl, hy⟩ := hy
      have ey := hy _ sq3
      obtain ⟨sr, hsr, hs⟩ := all_get hv2 ey
      have nn := extN_same s3
      refine ⟨rfl, _, rfl, _, rfl, _, rfl, _, rfl, y, ga, ha, la, sr, gv, hv, fv, rfl, hs.ext nn, extN_seqT nn hg, extN_seqT nn hh, s3 _ _ hl, ok3 sr (List.mem_of_getElem? hsr), _, e3, ?_, fun b' o e => ?_, ?_⟩
      · rw [List.length_map]
        exact small1000 (by rw [List.length_take]; omega)
      · have n1 : b' ≠ D := ne_of_none e nD
        rw [upd_ne n1]
        exact s3 _ _ e
      · rw [upd_same, take_snoc hsr, List.map_append]
        rfl
    · refine .inl ⟨⟨vs, sq3, by omega⟩, ?_⟩
      rw [List.take_of_length_le (by omega)] at e3
      have e4 : H3 D = some (.lst ((g2.1.map (srcV gv hv fv)).map rdV)) := by
        rw [e3, List.map_map]
        rfl
      refine ⟨b, D, g2.2, g2.1.map (srcV gv hv fv), _, rfl, .inl (.inl (s3 _ _ eb)), .inl ⟨rfl, .inl (.inl e4)⟩, by rw [List.length_map]; exact ok1, by rw [List.length_map]; exact ok2, fun H' s' => q H' (s3.trans s')⟩
end
end K02

set_option Elab.async false
set_option linter.all false
set_option maxRecDepth 100000
set_option maxHeartbeats 2000000
/-! A caught exception that is still known behind its try; a lambda handed to a def, with the other tables kept. -/
namespace CE
open PySem PySem.Spec L2
open PyProof.Rows

/-- an exception of the class cls stands at a -/
def CauO (cls : Value) (d : Option Addr) (a : Addr) : HO := .ext fun h => ∃ (oe : Obj) (vs : Array Value), h.get? a = some oe ∧ Zc cls d oe ∧ oe.data = .fields vs

section
variable {X : Cx} {pins : List (Addr × Obj)} {σ : L2.St} {H : Hp} {s : Shared}
theorem told {a : Addr} {oe : Obj} {cls : Value} {d : Option Addr} {vs : Array Value} (I : Inv X pins σ H s) (e : s.heap.get? a = some oe) (z : Zc cls d oe) (hd : oe.data = .fields vs) (na : H a = none)
    (n0 : X.s_0.heap.get? a = none) (nl : a ≠ X.env.locals) (np : ∀ p ∈ X.pn ++ pins, p.1 ≠ a) : Inv X pins σ (upd H a (CauO cls d a)) s where
  ok := I.ok
  os := I.os
  bare := I.bare
  base := by
    have U := I.base
    refine ⟨U.keep, U.slot, fun b o q n x => ?_, U.there, fun b xs q => ?_, fun b o u q => ?_, fun b ps q => ?_⟩
    · have hb : b ≠ a := fun w => by
        rw [w, n0] at q
        cases q
      rw [upd_ne hb]
      exact U.free b o q n x
    · have q' := U.tups b xs q
      rw [upd_ne (ne_of_none q' na)]
      exact q'
    · have q' := U.frzs b o u q
      rw [upd_ne (ne_of_none q' na)]
      exact q'
    · obtain ⟨m, q'⟩ := U.tbls b ps q
      refine ⟨m, ?_⟩
      rw [upd_ne (ne_of_none q' na)]
      exact q'
  loc := I.loc
  cell := I.cell
  free := by
    rw [upd_ne (Ne.symm nl)]
    exact I.free
  freeC := fun x c hc => by
    have n : c ≠ a := fun w => by
      obtain ⟨v, o', e1, e2⟩ := I.cell x c hc
      rw [w, e] at e1
      cases e1
      rw [hd] at e2
      cases e2
    rw [upd_ne n]
    exact I.freeC x c hc
  pin := fun p hp => by
    obtain ⟨p1, p2, p3⟩ := I.pin p hp
    refine ⟨p1, ?_, p3⟩
    rw [upd_ne (np p hp)]
    exact p2
  hok := fun b u q => by
    by_cases hb : b = a
    · rw [hb, upd_same] at q
      cases q
      rw [hb]
      exact ⟨⟨oe, vs, e, z, hd⟩, ⟨oe, e⟩, fun _ _ ⟨o, v, g, r⟩ k => ⟨o, v, k o g, r⟩⟩
    · rw [upd_ne hb] at q
      exact (I.hok b u q).stay (fun _ _ _ g => g) (fun c g => by rw [upd_ne (ne_of_none g na)]; exact g) fun c xs g => by rw [upd_ne (ne_of_none g na)]; exact g
  len := I.len
end
/-- what a try with one clause `except c as n` asks; behind its suite the caught error is known -/
def wKept (K : PySem.W.Frag) (c : Value) (i : Nat) (ts : Addr → Value → Option Addr → TS) (Wout : WX) (D : Ends) : WX := fun cls d σ H => ∃ b, PySem.W.exmOne K cls c = some b ∧
  (b = true → ∀ a, H a = none → ts a cls d { nx := fun σ' H' => D.nx (σ'.set i none) (upd H' a (CauO cls d a)), rt := fun _ _ => False, bk := fun _ _ => False, ct := fun _ _ => False } (σ.set i (some (.ref a))) H) ∧ (b = false → Wout cls d σ H)

section
variable {X : Cx} {body : List Stmt} {x n : Str} {c : Value} {i : Nat} {b₀ : Stmt} {suite : List Stmt} {Wout : WX} {tb : WX → TS} {ts : Addr → Value → Option Addr → TS} {np pos pos' : Pos}
theorem ps_try_kept (hs : X.stack = X.env :: X.outer) (hf : X.env.frame = some X.env.locals) (hex : X.ex = []) (hN : X.N.Nodup) (hi : X.N[i]? = some n) (hln : X.env.kindOf n = some .local) (hc : Names X x c) (tk : Takes X Wout)
    (hb : ∀ (W : WX) (pn : List (Addr × Obj)) (xe : Value → Shared → Prop), Takes (X.tr pn xe) W → PassesOwn (model X.prog X.w) X.A X.env xe → PSs (X.tr pn xe) body (tb W))
    (hsu : ∀ (a : Addr) (oe : Obj) (cls : Value) (d : Option Addr) (pn : List (Addr × Obj)), PSs (X.suite a ((a, oe) :: pn)) (b₀ :: suite) (ts a cls d)) :
    PS X (.Try body [.ExceptHandler (some (.Name x np)) (some n) (b₀ :: suite) pos'] [] [] pos) (fun D σ H => tb (wKept X.K c i ts Wout D) D σ H) := by
  constructor
  intro pins s σ H D I h
  have ok := I.ok
  have fr : X.A.frames = some (X.env :: X.outer) := ok.frames.trans (by rw [hs])
  have lc : Loc X.env.scope n := .inl hln
  apply wpAny_Try_except
  have hb' := hb (wKept X.K c i ts Wout D) (X.pn ++ pins) (fun e s₁ => wpAny (model X.prog X.w) X.A (noteFrame e X.env) (fun _ s₂ => wpAny (model X.prog X.w) X.A (setFlight e none) (fun _ s₃ =>
    wpAny (model X.prog X.w) X.A (handleBy e X.env [.ExceptHandler (some (.Name x np)) (some n) (b₀ :: suite) pos']) (SP X pins D) X.xe s₃) X.xe s₂) X.xe s₁)
  refine wpAny_mono ((hb' ?caught PassesOwn.looking).run [] s σ H D (I.toTry _) h) ?through fun e s1 he => he
  case through =>
    intro f s1 sp
    cases f with
    | next => exact sp.elim fun σ1 z => z.elim fun H1 z => wpAny_execs_nil ⟨σ1, H1, z.1.ofTry ok, z.2⟩
    | brk => exact sp.elim fun σ1 z => z.elim fun H1 z => ⟨σ1, H1, z.1.ofTry ok, z.2⟩
    | cont => exact sp.elim fun σ1 z => z.elim fun H1 z => ⟨σ1, H1, z.1.ofTry ok, z.2⟩
    | ret u => exact sp.elim fun v z => z.elim fun σ1 z => z.elim fun H1 z => ⟨v, σ1, H1, z.1.ofTry ok, z.2.1, z.2.2⟩
  case caught =>
    rintro u s' ⟨a, B, sI, pins', σ1, H1, cls, d, rfl, J', nb, up, sky, na, os, ag, b, hb1, yes, no⟩
    have J : Inv X pins σ1 H1 sI := J'.ofTry ok
    have sky1 : Sky B (X.env :: X.outer) a (Zc cls d) X.env.locals s'.heap := hs ▸ sky
    show wpAny (model X.prog X.w) X.A (noteFrame (.ref a) X.env) _ _ _
    refine Sky.land Zc.steady fr hf sky1 fun h3 fl up3 => ?_
    obtain ⟨o3, v3, g3, z3, d3⟩ := fl.there
    have J3 : Inv X pins σ1 H1 { s' with heap := h3 } := J.landed nb fl.1 (up.trans up3) os ag
    have out : a ∉ frs (X.env :: X.outer) := fun hm => by
      obtain ⟨_, o', e', nf⟩ := fl.2.2.1.mem hm
      rw [g3] at e'
      cases e'
      exact nf _ d3
    have nl : a ≠ X.env.locals := fun w => out (List.mem_filterMap.mpr ⟨X.env, List.mem_cons_self, by rw [hf, w]⟩)
    have nfs : a ∉ X.fs := fun hm => by
      obtain ⟨e, m, q⟩ := List.mem_filterMap.mp hm
      exact out (List.mem_filterMap.mpr ⟨e, List.mem_cons_of_mem _ m, q⟩)
    have none_ : sI.heap.get? a = none := by
      cases q : sI.heap.get? a with
      | none => rfl
      | some o =>
        have z := nb a o q (by rw [hs]; exact out)
        rw [fl.2.1] at z
        cases z
    have none0 : X.s_0.heap.get? a = none := by
      cases q : X.s_0.heap.get? a with
      | none => rfl
      | some o =>
        obtain ⟨o', z⟩ := J.base.there a o q (by rw [hex]; exact List.not_mem_nil)
        rw [none_] at z
        cases z
    have pn_ : ∀ p ∈ X.pn ++ pins, p.1 ≠ a := fun p hp w => by
      have z := (J.pin p hp).1
      rw [w, none_] at z
      cases z
    have S3 := J3.suite g3 d3 na nl nfs
    have lt : PySem.W.Looks (model X.prog X.w) h3 (typeOf (.ref a)) cls := fun _ _ _ _ k q => wpAny_typeOf_ref (k _ _ g3) (z3.1 ▸ q)
    have lm := PySem.W.exm_one (M := model X.prog X.w) J3.kIn lt hb1
    have ask : ∀ {Q : Value → Shared → Prop} {E : Value → Shared → Prop}, Q c { s' with heap := h3 } → wpAny (model X.prog X.w) (X.A.mark (some (.ref a))) (eval (.Name x np) X.env) Q E { s' with heap := h3 } := by
      intro Q E q
      rcases hc with ⟨hg, hdb, hm | ⟨hm, hv, hnn⟩⟩
      · exact ld_glob (X := X.suite a _) S3 hg hm q hdb
      · exact ld_blt (X := X.suite a _) S3 hg hm hv q hnn hdb
    refine wpAny_handleBy_cons (codeAny_handlers_test (ask (lm.here ?_))) (by intro q; cases q)
    cases b with
    | true =>
      refine codeAny_handlers_suite_as (HandSPX.lands_againZ fl fun h4 fl4 up4 => ?_)
      obtain ⟨o4, v4, g4, z4, d4⟩ := fl4.there
      have J4 : Inv X pins σ1 H1 { s' with heap := h4 } := J.landed nb fl4.1 ((up.trans up3).trans up4) os ag
      have S4 := J4.suite g4 d4 na nl nfs
      refine store_ok (X := X.suite a ((a, o4) :: (X.pn ++ pins))) (v := .ref a) S4 hN hi lc rfl (fun s5 S5 => ?_) (.inr hln)
      refine wpAny_mono ((hsu a o4 cls d (X.pn ++ pins)).run [] s5 _ H1 _ S5 (yes rfl a na)) (fun f s6 sp => ?_) (fun _ _ w => w.elim)
      cases f with
      | next =>
        obtain ⟨σ6, H6, S6, q6⟩ := sp
        have p6 := S6.pin (a, o4) (List.mem_append_left _ List.mem_cons_self)
        have K6 := told (S6.unsuite ok) p6.1 z4 d4 p6.2.1 none0 nl pn_
        exact gone_ok K6 hN hi hln fun s7 J7 => ⟨_, _, J7, q6⟩
      | brk => exact sp.elim fun _ z => z.elim fun _ z => z.2.elim
      | cont => exact sp.elim fun _ z => z.elim fun _ z => z.2.elim
      | ret u => exact sp.elim fun _ z => z.elim fun _ z => z.elim fun _ z => z.2.2.elim
    | false =>
      show wpAny _ X.A (handleBy (.ref a) X.env []) _ _ _
      apply wpAny_handleBy_nil
      obtain ⟨_, _, _, oe, vs, T, oT, ts', he, _, hd, h1, _⟩ := id fl
      unfold PySem.passOn
      refine wpAny_bind (wpAny_field he hd h1 ?_)
      rw [if_neg (show ¬ ((Value.ref T == Value.none) = true) from by simp)]
      have fin : wpAny (model X.prog X.w) X.A (setFlight (.ref a) X.env.frame) (fun _ s4 => wpAny (model X.prog X.w) X.A (throw (.ref a) : Sem Flow) (SP X pins D) X.xe s4) X.xe { s' with heap := h3 } := by
        rw [hf]
        exact HandSPX.setFlight_upZ fl fun h4 hh4 up4 => wpAny_throw (tk _ _ ⟨a, B, sI, pins, σ1, H1, cls, d, rfl, J, nb, (up.trans up3).trans up4, .inr (.inr (by rw [hs]; exact hh4)), na, os, ag, no rfl⟩)
      first
        | exact wpAny_bind (wpAny_pure (wpAny_bind fin))
        | exact wpAny_bind fin
end

/-! ### isinstance of it -/
def rIsCau (K : PySem.W.Frag) (D : Addr) : List V → Hp → VK → Prop := fun xs H Q => ∃ (a : Addr) (c : V) (cv : Value) (b : Bool), xs = [.ref a, c] ∧ H a = some (CauO (.ref D) none a) ∧ (∀ u, RelV c u → u = cv) ∧ PySem.W.kitOne K (.ref D) cv = some b ∧ Q (.bl b) H
theorem call_isCau {X : Cx} {D : Addr} (C : ExcC X.K D) : CallR X (.builtin "isinstance") (rIsCau X.K D) := by
  intro pins s σ H xs us Q I r h
  obtain ⟨a, c, cv, b, rfl, hH, hcv, e, q⟩ := h
  rcases r with _ | ⟨rx, _ | ⟨rt, r0⟩⟩
  cases r0
  cases rx
  cases hcv _ rt
  obtain ⟨oe, vs, g, z, hd⟩ := (I.hok a _ hH).1
  have J : PySem.W.InstAt s.heap a oe D none := by
    rcases oe with ⟨oc, od, oda, osl⟩
    obtain ⟨h1, h2⟩ := z
    dsimp only at h1 h2 hd
    subst h1
    subst h2
    subst hd
    exact ⟨g, rfl, rfl, trivial⟩
  exact PySem.W.kia_one (PySem.W.handS_kitx_exc C.hg C.hk C.hs C.hd C.ha C.hn C.ht C.hm) I.kIn J e (fun z => nomatch z) fun tk => ⟨.bl b, H, I.kept (t' := tk) fun _ _ z => z, rfl, q⟩
end CE

set_option Elab.async false
set_option linter.all false
set_option maxRecDepth 100000
set_option maxHeartbeats 2000000
/-! _law_caught(lambda: ..). -/
namespace K02
open PySem PySem.Spec L2
open PyProof.Rows GenW GxR LamX CE
abbrev sCaught : Stmt := top 46 -- _law_caught
abbrev nCaught : List Str := ["work", "caught", "error"]
theorem scCaught : FnScope nCaught ["work"] (defScope sCaught) := ⟨rfl, rfl, rfl, by decide +kernel, rfl, by decide +kernel, by decide +kernel⟩
theorem takes_len {X : Cx} {W : WX} (t : Takes X W) : Takes X (fun cls d σ H => σ.length = X.N.length → W cls d σ H) := fun u s' ⟨a, B, sI, pins, σ, H, cls, d, e, I, nb, up, sky, na, os, ag, w⟩ =>
  t u s' ⟨a, B, sI, pins, σ, H, cls, d, e, I, nb, up, sky, na, os, ag, w I.len⟩
/-- what _law_caught makes of the lambda: the error that it raises is given back, or None -/
def TCau (K : PySem.W.Frag) (CS : Addr) : (XK → Hp → VK → Prop) → Hp → VK → Prop := fun tl H Q =>
  tl (fun cls d H' => ∃ b, PySem.W.exmOne K cls (.ref CS) = some b ∧ (b = true → ∀ a, H' a = none → Q (.ref a) (upd H' a (CauO cls d a))) ∧ (b = false → False)) H fun _ H' => Q .non H'
theorem three {σ : L2.St} (h : σ.length = 3) : ∃ a b c, σ = [a, b, c] := by
  rcases σ with _ | ⟨a, _ | ⟨b, _ | ⟨c, _ | ⟨d, r⟩⟩⟩⟩
  all_goals first
    | exact ⟨_, _, _, rfl⟩
    | exact absurd h (by simp)
theorem caught_gives {X : Cx} {g CS : Addr} {cdg : Value} {q : Str} (hm : X.mg "RestError" = some (.ref CS)) : GivesTo X nCaught "_law_caught" (defScope sCaught) g cdg (defBody sCaught) "work" q (TCau X.K CS) := by
  intro f c' s H Q tl act hc h
  refine ⟨_, pss_cons (ps_set (i := 1) scCaught.nd rfl (Or.inl rfl) pe_non)
    (pss_cons (ps_try_kept (X := (cxOf C8.CX0 X.prog X.w X.K X.mg X.base nCaught "_law_caught" (defScope sCaught) g cdg X.A X.stack s H C8.E0).nox) (c := .ref CS) (i := 2) (Wout := fun _ _ _ _ => False)
      (tb := fun W D σ H => ∃ Ech : XK, (∀ cls d σ' H', σ'.length = 3 → Ech cls d H' → W cls d σ' H') ∧ σ = [some (.ref f), some .non, Option.none] ∧ H c' = some (CodeO c' q) ∧ tl Ech H fun _ H' => D.nx σ H')
      (ts := fun a _ _ => fun D σ H => D.nx (σ.set 1 (some (.ref a))) H ∧ σ[2]? = some (some (.ref a)))
      rfl rfl rfl scCaught.nd rfl (by rfl) ⟨by rfl, by decide, .inl hm⟩ LamX.takes0 (fun W pn xe tk _ => ?body) (fun a oe cls d pn => ?suite))
    (pss_one (ps_ret (pv 1)))), ?q⟩
  case body =>
    refine ⟨fun pins s' σ H' D I h' => ?_⟩
    obtain ⟨Ech, hW, h1, h2, h3⟩ := h'
    exact (pss_one (ps_expr (act _ pn xe Ech _ _ (takes_len tk) (fun cls d σ' H' e l => hW cls d σ' H' l e)))).run pins s' σ H' D I ⟨by rw [h1]; rfl, h2, h3⟩
  case suite =>
    refine ⟨fun pins s' σ H' D I h' => ?_⟩
    exact (pss_one (ps_set (i := 1) scCaught.nd rfl (Or.inl rfl) (pv 2))).run pins s' σ H' D I ⟨_, h'.2, h'.1⟩
  case q =>
    refine ⟨fun cls d H' => ∃ b, PySem.W.exmOne X.K cls (.ref CS) = some b ∧ (b = true → ∀ a, H' a = none → Q (.ref a) (upd H' a (CauO cls d a))) ∧ (b = false → False), fun cls d σ' H' hl ⟨b, e1, e2, e3⟩ => ⟨b, e1, fun hb a na => ?_, fun hb => e3 hb⟩, rfl, hc, ?_⟩
    · obtain ⟨x, y, z, rfl⟩ := three hl
      exact ⟨⟨_, rfl, e2 hb a na⟩, rfl⟩
    · show tl _ H fun _ H' => ∃ v, ([some (V.ref f), some V.non, Option.none] : L2.St)[1]? = some (some v) ∧ Q v H'
      have e : (fun (_ : V) (H' : Hp) => ∃ v, ([some (V.ref f), some V.non, Option.none] : L2.St)[1]? = some (some v) ∧ Q v H') = fun _ H' => Q .non H' :=
        funext fun _ => funext fun H' => propext ⟨fun ⟨v, e, q⟩ => by cases e; exact q, fun q => ⟨_, rfl, q⟩⟩
      rw [e]
      exact h
end K02

set_option Elab.async false
set_option linter.all false
set_option maxRecDepth 100000
set_option maxHeartbeats 2000000
/-! A lambda handed to a def, all tables but the maker's own kept as they are. -/
namespace CE
open PySem PySem.Spec L2
open PyProof.Rows LamX
/-- all but P's table is as it was -/
def ButP (P : Addr) (H H' : Hp) : Prop := ∀ b o, b ≠ P → H b = some o → H' b = some o
def lamN (X : Cx) : Str := X.env.qual ++ "<lambda>"
section
variable {X : Cx} {pins : List (Addr × Obj)} {σ : L2.St} {H : Hp} {s : Shared}
theorem lam_mk {c P : Addr} {ps : Arguments} {body : Expr} {sc : Scope} {pos : Pos} {E Q : Value → Shared → Prop} (I : Inv X pins σ H s) (TB : TabB X.base X.mg c P) (hcode : X.env.code = .ref c) (hT : TabS H P (lamN X))
    (hdef : defaultsOf ps X.env = ([], [])) (hfree : ∀ y ∈ sc.names, y.2 = .free → ∃ c, X.env.cells.lookup y.1 = some c)
    (h : ∀ (f c' : Addr) (pm ctv : Value) (H1 : Hp) (s' : Shared), Inv X pins σ H1 s' → ButP P H H1 → TabS H1 P (lamN X) → s'.heap.get? f = some (PySem.W.kla_obj "<lambda>" (lamN X) ps body sc (cloFrom X.env.cells sc.names []) pm c' ctv) →
      H1 f = none → f ∉ frs X.stack → H1 c' = some (CodeO c' (lamN X)) → Q (.ref f) s') : wpAny (model X.prog X.w) X.A (eval (.Lambda ps body sc pos) X.env) Q E s := by
  obtain ⟨tb, tP, tt, tc⟩ := hT
  have inP : s.heap.get? P = some { cls := .none, data := .fields tb } := I.hok P _ tP
  have far : ∀ f, s.heap.objs.size ≤ f → f ∉ frs X.stack := by
    intro f hf z
    rcases List.mem_cons.mp (I.stkSub _ z) with e | e
    · have lt := I.lt
      rw [← e] at lt
      exact Nat.not_le_of_lt lt hf
    · exact I.nofs hf e
  apply PySem.W.kla_eval hdef
  rcases hc : codeAmong pos tb.toList with _ | cv
  · refine PySem.W.kla_makeFunction (mg := X.mg) (c := c) (P := P) (ps := tb) (closure_ok hfree) I.ok.glob (I.mod.glob.keeps I.bk) hcode (TB.code.keeps I.bk) inP tt hc TB.gP (TB.bm.keeps I.bk) ?_
    intro c' ctv h' tk hx hge hlt hrec htb
    obtain ⟨c2, oc, vs, t, ec, hoc, hd, hv⟩ := hrec
    cases ec
    have grow : s.heap.objs.size ≤ h'.objs.size := Nat.le_trans hge (Nat.le_of_lt hlt)
    have fresh : H c' = none := I.hok.fresh hge
    have nP : P ≠ c' := ne_of_none tP fresh
    have J := inv_table (t' := tk) (more := #[rawInt pos.line, rawInt pos.col, .ref c']) (h' := h'.push (PySem.W.kla_obj "<lambda>" (lamN X) ps body sc (cloFrom X.env.cells sc.names []) ((X.mg "__name__").getD .none) c' ctv)) I tP
      (fun b o hb e => Heap.get?_push_of_some _ (hx b o hb e)) (Heap.get?_push_of_some _ htb) hge ⟨oc, vs, t, Heap.get?_push_of_some _ hoc, hd, hv⟩
    refine h h'.objs.size c' _ ctv _ _ J (fun b o hb e => ?_) ⟨tb ++ #[rawInt pos.line, rawInt pos.col, .ref c'], ?_, ?_, fun p' cv hcv => ?_⟩ (Heap.get?_push_size _ rfl) ?_ (far _ grow) upd_same
    · rw [upd_ne (ne_of_none e fresh), upd_ne hb]
      exact e
    · rw [upd_ne nP, upd_same]
    · rw [Array.toList_append]
      exact PySem.TriplesOk_snoc _ _ _ _ tt
    · rw [Array.toList_append] at hcv
      rcases among_app _ tt hcv with z | z
      · obtain ⟨c0, e1, e2⟩ := tc p' cv z
        refine ⟨c0, e1, ?_⟩
        rw [upd_ne (ne_of_none e2 fresh), upd_ne (fun w => by rw [w, tP] at e2; exact codeO_ne _ (Option.some.inj e2).symm)]
        exact e2
      · exact ⟨c', z, upd_same⟩
    · have pLt := Heap.lt_size inP
      rw [upd_ne (Nat.ne_of_gt hlt), upd_ne (Nat.ne_of_gt (Nat.lt_of_lt_of_le pLt grow))]
      exact I.hok.fresh grow
  · obtain ⟨c', rfl, hco⟩ := tc pos cv hc
    refine PySem.W.kla_makeFunctionHit (mg := X.mg) (c := c) (P := P) (ps := tb) (closure_ok hfree) I.ok.glob (I.mod.glob.keeps I.bk) hcode (TB.code.keeps I.bk) inP tt hc (TB.bm.keeps I.bk) fun ctv h' tk hx hsz => ?_
    exact h h'.objs.size c' ((X.mg "__name__").getD .none) ctv H _ (I.kept (t' := tk) (h' := h'.push _) fun b o e => Heap.get?_push_of_some _ (hx b o e)) (fun _ _ _ e => e) ⟨tb, tP, tt, tc⟩ (Heap.get?_push_size _ rfl) (I.hok.fresh hsz) (far _ hsz) hco
end
def tLamP (P : Addr) (q : Str) (TT : (XK → Hp → VK → Prop) → Hp → VK → Prop) (t : XK → TE) : TE := fun σ H Q => TabS H P q ∧ ∀ H1, ButP P H H1 → TabS H1 P q → TT (fun E H' Q' => t E σ H' Q') H1 Q
section
variable {X : Cx}
/-- x(lambda: body), x a def of one parameter -/
theorem pe_lamP {TT : (XK → Hp → VK → Prop) → Hp → VK → Prop} {x a : Str} {g c P : Addr} {k : Nat} {pg : Arguments} {bg : List Stmt} {sg : Scope} {dV kV doc pm cdv ct oc : Value} {an od : Option Addr} {osl : Array (Option Value)} {Ng : List Str}
    {ps : Arguments} {body : Expr} {sc : Scope} {t : XK → TE} {p lpos pos : Pos} (hg : Gl X x) (hm : X.mg x = some (.ref g)) (hk : PySem.W.keepIn X.K (.ref g) = true) (lk : X.K.lookup g = some ⟨oc, od, .func (PySem.W.fnOf x x pg bg sg dV kV doc pm an cdv ct), osl⟩)
    (hcg : PySem.W.codeIn X.K cdv x = true) (hb : L2.Binds X.K (PySem.W.fnOf x x pg bg sg dV kV doc pm an cdv ct) [a] []) (Sg : FnScope Ng [a] sg) (hNg : Ng[0]? = some a) (hva : Vis sg a) (hG : GivesTo X Ng x sg g cdv bg a (lamN X) TT)
    (TB : TabB X.base X.mg c P) (hcode : X.env.code = .ref c) (hr : Room (k + 2) X.A) (L : LamS X.env.scope sc) (hdef : defaultsOf ps X.env = ([], [])) (hbind : ∀ (q : Str) (cl : List (Str × Addr)) (pm cv ctv : Value), bindArgs (PySem.W.kla_fn "<lambda>" q ps body sc cl pm cv ctv) ⟨[], []⟩ = pure [])
    (hbody : ∀ (A : Around) (outer : List Env) (s : Shared) (H : Hp) (E : XK) (f c' : Addr), Room k (A.deeper (lamEnv X sc s.heap.objs.size f c')) → PE (lamCx X A outer s H E sc f c') body (t E))
    (hdb : (x == ("__debug__" : Str)) = false := by decide) (hd : (a == ("__debug__" : Str)) = false := by decide) (hcd : (a == ("__classdict__" : Str)) = false := by decide) : PE X (.Call (.Name x p) [.Lambda ps body sc lpos] [] pos) (tLamP P (lamN X) TT t) := by
  constructor
  rintro pins s σ H Q I ⟨hT, h⟩
  refine wpAny_Call_Name_kw (ld_glob I hg hm ?_ hdb)
  refine PySem.W.callWith_K (h₀ := X.base) I.ok.mod.kin hk ?_ (by rfl) (by rfl)
  show wpAny _ _ (spliced ((false, eval (.Lambda ps body sc lpos) X.env) :: backTo pos (starEach [] X.env))) _ _ s
  apply Calls.spliced_cons
  refine lam_mk I TB hcode hT hdef (L.has I.ok) fun f c' pm' ctv H1 s' I1 eN T1 hf hfn hfr hco => Calls.spliced_nil ⟨I1.kIn, ?_⟩
  have run : codeAny (model X.prog X.w) X.A (.call (.ref g) ⟨[.ref f], []⟩) (CR C8.CX0 X.stack X.prog X.w H1 s' Q C8.E0) s' :=
    run_ofS (N := Ng) (ps := [a]) (us := [.ref f]) (vs := [.ref f]) lk hcg Sg hr I1.env0 (hb s' [.ref f] I1.kIn rfl) (.cons rfl .nil) rfl fun hr' => by
      obtain ⟨t', ht', hq'⟩ := hG f c' s' H1 Q (fun E H' Q' => t E σ H' Q') (fun W pn xe E p1 p2 tk hW => pe_act (i := 0) I1 L hf hfn hfr (hbind _ _ _ _ _) tk hW hr' (fun A outer s H hr2 => hbody A outer s H E f c' hr2) hNg hva hd hcd) hco (h H1 eN T1)
      exact ⟨t', ht'.nox, hq'⟩
  refine wpAny_call (codeAny_mono run fun r s2 hq => ?_)
  rcases r with e | fl
  · exact False.elim hq
  · cases fl with
    | ret u => exact I1.after hq
    | _ => exact False.elim hq
end
end CE

set_option Elab.async false
set_option linter.all false
set_option maxRecDepth 100000
set_option maxHeartbeats 2000000
/-! A dict whose keys are tuples of numbers, texts and None: stored into, asked, walked. -/
namespace TK
open PySem PySem.Spec L2
open PyProof.Rows
def leafV : Leaf → V
  | .none => .non
  | .num i => .int i
  | .text z => .str z
theorem leafV_inj {a b : Leaf} (h : leafV a = leafV b) : a = b := by
  cases a <;> cases b <;> first
    | rfl
    | (cases h; rfl)
    | cases h
abbrev Ent := List Leaf × Addr × V
abbrev kd (P : Program) (w : World) : HeapKind P w (List Leaf) := tupleKind (leafKind P w)
def TkO (d : Addr) (es : Array DictEntry) (ep : Nat) : HO := .ext fun h => ∃ o, h.get? d = some o ∧ o.ExactDict ∧ o.data = .dict es ep
abbrev EntR : Ent → List Leaf × Addr × Value → Prop := fun p q => p.1 = q.1 ∧ p.2.1 = q.2.1 ∧ RelV p.2.2 q.2.2
def TkD (P : Program) (w : World) (xs : List Ent) (es : Array DictEntry) : Prop := ∃ ys, es.toList = ys.map (entryOfKey (kd P w)) ∧ Paired EntR xs ys
structure TkAt (P : Program) (w : World) (H : Hp) (d : Addr) (xs : List Ent) (es : Array DictEntry) (ep : Nat) : Prop where
  at_ : H d = some (TkO d es ep)
  dat : TkD P w xs es
  keys : ∀ x ∈ xs, H x.2.1 = some (.tup (x.1.map leafV))
  nd : (xs.map (·.1)).Nodup
  low : (d == sysModules) = false
theorem TkAt.mono {P : Program} {w : World} {H H' : Hp} {d : Addr} {xs : List Ent} {es : Array DictEntry} {ep : Nat} (T : TkAt P w H d xs es ep) (k : ∀ b o, H b = some o → (∀ ps, o ≠ .tbl ps) → H' b = some o) : TkAt P w H' d xs es ep :=
  ⟨k _ _ T.at_ (fun ps z => by unfold TkO at z; cases z), T.dat, fun x hx => k _ _ (T.keys x hx) (fun ps z => by cases z), T.nd, T.low⟩

theorem leaf_is {P : Program} {w : World} {k : Leaf} {u : Value} (h : RelV (leafV k) u) : (leafKind P w).is k u = true := by
  cases k with
  | none =>
    cases h
    rfl
  | num i =>
    obtain ⟨t, rfl⟩ := h
    show decide (i = i) = true
    exact decide_eq_true rfl
  | text z =>
    obtain ⟨t, rfl⟩ := h
    show (Value.str z t).isStrOf z = true
    simp [Value.isStrOf]
theorem leaves_are {P : Program} {w : World} : ∀ {ks : List Leaf} {us : List Value}, Vals (ks.map leafV) us → ItemsAre (leafKind P w) ks us
  | [], _, r => by
    cases r
    exact .nil
  | k :: ks, _, r => by
    cases r with
    | cons h t => exact .cons (leaf_is h) (leaves_are t)
theorem is_key {P : Program} {w : World} {H : Hp} {h : Heap} {a : Addr} {ks : List Leaf} (ok : HOk P w H h) (e : H a = some (.tup (ks.map leafV))) : (kd P w).is h ks a := by
  obtain ⟨_, its, r, o, g1, g2, n, g3⟩ := (show ObjOk P w H h a (.tup (ks.map leafV)) from ok a _ e)
  refine ⟨o, its.toArray, n, g1, g2, g3, ?_⟩
  rw [List.toList_toArray]
  exact leaves_are r
theorem ents_of {xs : List Ent} {ys : List (List Leaf × Addr × Value)} (r : Paired EntR xs ys) : ys.map (·.1) = xs.map (·.1) := by
  induction r with
  | nil => rfl
  | cons h t ih => rw [List.map_cons, List.map_cons, ih, h.1]
theorem mem_of {xs : List Ent} {ys : List (List Leaf × Addr × Value)} (r : Paired EntR xs ys) : ∀ y ∈ ys, ∃ x ∈ xs, EntR x y := by
  induction r with
  | nil => intro y hy; cases hy
  | @cons p q ps qs h t ih =>
    intro y hy
    rcases List.mem_cons.mp hy with e | hy
    · exact ⟨p, List.mem_cons_self, by rw [e]; exact h⟩
    · obtain ⟨x, hx, z⟩ := ih y hy
      exact ⟨x, List.mem_cons_of_mem _ hx, z⟩
theorem get_of {xs : List Ent} {ys : List (List Leaf × Addr × Value)} (r : Paired EntR xs ys) : ∀ {i : Nat} {x : Ent}, xs[i]? = some x → ∃ y, ys[i]? = some y ∧ EntR x y := by
  induction r with
  | nil => intro i x h; simp at h
  | @cons p q ps qs h t ih =>
    intro i x hx
    cases i with
    | zero =>
      cases hx
      exact ⟨q, rfl, h⟩
    | succ i => exact ih hx
theorem snoc_of {xs : List Ent} {ys : List (List Leaf × Addr × Value)} {p : Ent} {q : List Leaf × Addr × Value} (r : Paired EntR xs ys) (h : EntR p q) : Paired EntR (xs ++ [p]) (ys ++ [q]) := by
  induction r with
  | nil => exact .cons h .nil
  | cons h' t ih => exact .cons h' ih

section
variable {X : Cx} {pins : List (Addr × Obj)} {σ : L2.St} {H : Hp} {s : Shared} {d b : Addr} {k : List Leaf} {xs : List Ent} {es : Array DictEntry} {ep : Nat}
theorem TkAt.of (I : Inv X pins σ H s) (T : TkAt X.prog X.w H d xs es ep) : ∃ ys, Paired EntR xs ys ∧ s.heap.DictOfH (kd X.prog X.w) d ys ∧ es.toList = ys.map (entryOfKey (kd X.prog X.w)) := by
  obtain ⟨o, e1, e2, e3⟩ := (I.hok d _ T.at_).1
  obtain ⟨ys, h1, h2⟩ := T.dat
  refine ⟨ys, h2, ⟨o, es, ep, e1, e2, e3, h1, fun y hy => ?_, ?_⟩, h1⟩
  · obtain ⟨x, hx, e, e', _⟩ := mem_of h2 y hy
    rw [← e, ← e']
    exact is_key I.hok (T.keys x hx)
  · rw [ents_of h2]
    exact T.nd
/-- d[k], k a key -/
def rTk (P : Program) (w : World) : R2 := fun x y H Q => ∃ (d b : Addr) (xs : List Ent) (es : Array DictEntry) (ep : Nat) (k : List Leaf) (a : Addr) (v : V), x = .ref d ∧ y = .ref b ∧ TkAt P w H d xs es ep ∧ H b = some (.tup (k.map leafV)) ∧ (k, a, v) ∈ xs ∧ Q v H
theorem ix_tk (hu : X.A.units + 1 < cLine) : IxR X (rTk X.prog X.w) := by
  intro value slice pins s σ H x y v u Q I rx ry h hs
  obtain ⟨d, b, xs, es, ep, k, a, v0, rfl, rfl, T, hb, hk, q⟩ := h
  cases rx
  cases ry
  obtain ⟨ys, rel, D, _⟩ := T.of I
  obtain ⟨i, hi⟩ := List.getElem?_of_mem hk
  obtain ⟨⟨k', a', u'⟩, hy, e1, e2, e3⟩ := get_of rel hi
  cases e1
  have hat := atKey_of_get (by rw [ents_of rel]; exact T.nd) hy
  exact tail_any D.typeIs slot_dict_getitem.lookup (wpAny_getItem_heap (tupleKind_room_in1 hu) (is_key I.hok hb) D hat ⟨v0, H, I.tok _, e3, q⟩) hs

/-- d[k] = v, k no key before -/
def sTkPut (P : Program) (w : World) (td ty tv : TE) : TS := fun D σ H => tv σ H fun v H1 => td σ H1 fun x H2 => ty σ H2 fun y H3 => ∃ (d b : Addr) (xs : List Ent) (k : List Leaf), x = .ref d ∧ y = .ref b ∧
  ((H3 d = some (.dT []) ∧ xs = []) ∨ ∃ es ep, TkAt P w H3 d xs es ep) ∧ H3 b = some (.tup (k.map leafV)) ∧ k ∉ xs.map (·.1) ∧ xs.length ≤ 1000 ∧ ∀ es ep, TkAt P w (upd H3 d (TkO d es ep)) d (xs ++ [(k, b, v)]) es ep → D.nx σ (upd H3 d (TkO d es ep))
theorem ps_tkput {o i value : Expr} {pos pos' : Pos} {td ty tv : TE} (hu : X.A.units + 1 < cLine) (ho : PE X o td) (hi : PE X i ty) (hv : PE X value tv) (hs : swapsWith value (some (.Subscript o i pos')) pos.line X.env = pure false := by rfl) :
    PS X (.Assign [.Subscript o i pos'] value pos) (sTkPut X.prog X.w td ty tv) := by
  constructor
  intro pins s σ H D I h
  refine wpAny_Assign_Subscript (thn (hv.run pins s σ H _ I h) fun r s1 ⟨v, H1, I1, rv, q1⟩ => thn (ho.run pins s1 σ H1 _ I1 q1) fun u s2 ⟨x, H2, I2, rx, q2⟩ => thn (hi.run pins s2 σ H2 _ I2 q2) fun iv s3 ⟨y, H3, I3, ry, d, b, xs, k, ex, ey, hd, hb, hk, hl, q3⟩ => ?_) hs
  subst ex
  subst ey
  cases rx
  cases ry
  have nbd : ∀ c xs', H3 c = some (.tup xs') → c ≠ d := fun c xs' e z => by
    rw [z] at e
    rcases hd with ⟨e', _⟩ | ⟨es, ep, T⟩
    · rw [e'] at e
      cases e
    · have e' := T.at_
      rw [e] at e'
      unfold TkO at e'
      cases e'
  have start : ∃ ys, Paired EntR xs ys ∧ s3.heap.DictOfH (kd X.prog X.w) d ys ∧ (d == sysModules) = false ∧ (xs.map (·.1)).Nodup ∧ (∀ x ∈ xs, H3 x.2.1 = some (.tup (x.1.map leafV))) ∧ Mut (H3 d) := by
    rcases hd with ⟨e', rfl⟩ | ⟨es, ep, T⟩
    · obtain ⟨_, hlow, ys0, r0, o, es0, ep0, g1, g2, g3, g4, g5, g6⟩ := dt_of I3.hok e'
      cases r0
      refine ⟨[], .nil, ⟨o, es0, ep0, g1, g2, g3, g4, (fun y hy => by cases hy), List.nodup_nil⟩, hlow, List.nodup_nil, (fun x hx => by cases hx), ?_⟩
      rw [e']
      trivial
    · obtain ⟨ys, r, D, _⟩ := T.of I3
      refine ⟨ys, r, D, T.low, T.nd, T.keys, ?_⟩
      rw [T.at_]
      trivial
  obtain ⟨ys, rel, DD, hlow, hnd, hks, hmut⟩ := start
  have hno : atKey ys k = none := by
    cases q : atKey ys k with
    | none => rfl
    | some p =>
      unfold atKey at q
      obtain ⟨y, hy, _⟩ := Option.map_eq_some_iff.mp q
      have e : y.1 = k := by
        have z := List.find?_some hy
        exact of_decide_eq_true z
      exact absurd (List.mem_map.mpr ⟨y, List.mem_of_find?_eq_some hy, e⟩) (by rw [ents_of rel]; exact hk)
  have hlen : ys.length ≤ sizeLine := by
    rw [← Paired.length rel]
    have : (1000 : Nat) ≤ sizeLine := by rw [sizeLine_eq]; decide
    omega
  refine wpAny_setItem_heap (tupleKind_room_in1 hu) (is_key I3.hok hb) DD (fun h' DD' sb => ?_) hlen
  rw [storedH_new hno] at DD'
  obtain ⟨o, es, ep, g1, g2, g3, g4, g5, g6⟩ := DD'
  have J := d_write (t' := s3.toks + (kd X.prog X.w).draws k) (ob := TkO d es ep) I3 hmut sb ⟨o, g1⟩ ⟨⟨o, g1, g2, g3⟩, ⟨o, g1⟩, fun h1 h2 ⟨o', f1, f2⟩ st => ⟨o', st _ f1, f2⟩⟩
  refine ⟨σ, _, J, q3 es ep ⟨upd_same, ⟨_, g4, snoc_of rel ⟨rfl, rfl, rv⟩⟩, fun x hx => ?_, ?_, hlow⟩⟩
  · have hx' : H3 x.2.1 = some (.tup (x.1.map leafV)) := by
      rcases List.mem_append.mp hx with hx | hx
      · exact hks x hx
      · rw [List.mem_singleton.mp hx]
        exact hb
    rw [upd_ne (nbd _ _ hx')]
    exact hx'
  · rw [List.map_append]
    exact List.nodup_append.mpr ⟨hnd, by simp, fun a ha b hb z => by
      have e := List.mem_singleton.mp hb
      rw [z, e] at ha
      exact hk ha⟩

/-! ### for k in d -/
def ItTk (P : Program) (w : World) (d : Addr) (xs : List Ent) (es : Array DictEntry) (ep : Nat) : It where
  go := fun i H => TkAt P w H d xs es ep ∧ i < xs.length
  yld := fun i H x H' => H' = H ∧ ∃ k b v, xs[i]? = some (k, b, v) ∧ x = .ref b ∧ H b = some (.tup (k.map leafV))
  stop := fun i H => TkAt P w H d xs es ep ∧ xs.length ≤ i
theorem turn_tk {tg : Expr} (it : Addr) : Turn X.prog X.w X.K tg (ItTk X.prog X.w d xs es ep) [it] it (fun i h => h.IsKeyIter it d i xs.length ep) where
  mem := List.mem_singleton.mpr rfl
  obj := fun i h st b hb => by
    rw [List.mem_singleton.mp hb]
    obtain ⟨oi, e, c, dd⟩ := st
    refine ⟨oi, e, fun v z => ?_⟩
    rw [dd] at z
    cases z
  keep := fun i h h' st k => st.at fun oi e => k it (List.mem_singleton.mpr rfl) oi e
  item := by
    intro Y hP hw hK hc i pins s σ H E I hf st hg
    obtain ⟨T, hi⟩ := hg
    obtain ⟨f0, f1, f2, f3, f4, f5⟩ := hf it (List.mem_singleton.mpr rfl)
    rw [← hP, ← hw] at T ⊢
    obtain ⟨ys, rel, _, hes⟩ := T.of I
    obtain ⟨o, e1, e2, e3⟩ := (I.hok d _ T.at_).1
    obtain ⟨⟨k', a', u'⟩, hy, g1, g2, g3⟩ := get_of rel (List.getElem?_eq_getElem hi)
    have hsz : es.size = xs.length := by
      rw [← Array.length_toList, hes, List.length_map, Paired.length rel]
    have hen : es[i]? = some (entryOfKey (kd Y.prog Y.w) (k', a', u')) := by
      rw [← Array.getElem?_toList, hes, List.getElem?_map, hy]
      rfl
    refine next_key_item st e1 e3 hsz hen fun h' st' sb => ?_
    have I1 : Inv Y pins σ H { s with heap := h' } := I.turned (t' := s.toks) (fun b ob hb e => (sb.2 b hb).trans e) f0 f1 f3 f4 f5
    obtain ⟨oi, e, c, dd⟩ := id st'
    refine ⟨_, rfl, go_of (s := { s with heap := h' }) e c dd (by decide) ⟨.ref a', H, I1, rfl, ⟨rfl, _, _, _, List.getElem?_eq_getElem hi, ?_, ?_⟩, st', fun b hb => (hf b hb).1⟩⟩
    · exact congrArg V.ref g2.symm
    · exact T.keys _ (List.getElem_mem hi)
  done := by
    intro Y hP hw hK hc i pins s σ H E I hf st hg
    obtain ⟨T, hi⟩ := hg
    obtain ⟨f0, f1, f2, f3, f4, f5⟩ := hf it (List.mem_singleton.mpr rfl)
    rw [← hP, ← hw] at T ⊢
    obtain ⟨ys, rel, _, hes⟩ := T.of I
    obtain ⟨o, e1, e2, e3⟩ := (I.hok d _ T.at_).1
    have hsz : es.size = xs.length := by
      rw [← Array.length_toList, hes, List.length_map, Paired.length rel]
    exact next_key_end (I.ok.hd hc) st e1 e3 hsz hi fun h' eb => ⟨rfl, I.turned (t' := s.toks) (fun b ob hb e => eb b ob hb e) f0 f1 f3 f4 f5⟩
  self := fun A i s Q E st h => by
    refine wpAny_pyIter_slot st.typeIs F.slot_dict_keyiterator_iter (wpAny_call_entry F.slot_dict_keyiterator_iter st.typeIs F.entry_dict_keyiterator_iter (show wpAny _ _ (ret (.ref it)) _ _ s from ?_) (F.args_dict_keyiterator_iter_1 _))
    exact wpAny_pure ⟨_, rfl, "dict_keyiterator", _, st.typeIs, F.slot_dict_keyiterator_next.lookup, h⟩
def iTk (P : Program) (w : World) (td : TE) : TI := fun σ H R => td σ H fun x H1 => ∃ (d : Addr) (xs : List Ent) (es : Array DictEntry) (ep : Nat), x = .ref d ∧ TkAt P w H1 d xs es ep ∧ R (ItTk P w d xs es ep) H1
theorem pi_tk {tg e : Expr} {td : TE} (he : PE X e td) : PI X tg e (iTk X.prog X.w td) := by
  constructor
  intro pins s σ H R I h
  refine thn (he.run pins s σ H _ I h) fun u s1 ⟨x, H1, I1, rx, d, xs, es, ep, ex, T, q⟩ => ?_
  subst ex
  cases rx
  obtain ⟨ys, rel, _, hes⟩ := T.of I1
  obtain ⟨o, e1, e2, e3⟩ := (I1.hok d _ T.at_).1
  have hsz : es.size = xs.length := by
    rw [← Array.length_toList, hes, List.length_map, Paired.length rel]
  refine iter_keys T.low e1 e2 e3 (pi_one (tk := s1.toks) I1 _ (turn_tk _) ⟨_, Heap.get?_push_size _ rfl, rfl, ?_⟩ q)
  rw [hsz] <;> rfl
end
end TK

set_option Elab.async false
set_option linter.all false
set_option maxRecDepth 100000
set_option maxHeartbeats 2000000
/-! enumerate of a tuple, zip of a list and a tuple, over the hand layer. -/
namespace EZ
open PySem PySem.Spec L2
open PyProof.Rows

/-! ### what hands out new pairs, by PyProof.WalksT -/
theorem turn_of {P : Program} {w : World} {K : PySem.W.Frag} {elts : List Expr} {kk : Nat} {tpos : Pos} {J : It} {it : Addr} {fp : List Addr} {tn : Nat → Heap → Prop} (mem : it ∈ fp)
    (obj : ∀ i h, tn i h → ∀ b ∈ fp, ∃ o, h.get? b = some o ∧ ∀ v : Option Value, o.data ≠ .cell v) (keep : ∀ i h h', tn i h → (∀ b ∈ fp, ∀ o, h.get? b = some o → h'.get? b = some o) → tn i h')
    (self : ∀ (A : Around) (i : Nat) (s : Shared) (Q E : Value → Shared → Prop), tn i s.heap → Q (.ref it) s → wpAny (model P w) A (pyIter (.ref it)) Q E s)
    (go : ∀ (X : Cx) (i : Nat) (pins : List (Addr × Obj)) (s : Shared) (σ : L2.St) (H : Hp), X.prog = P → X.w = w → X.K = K → X.A.handled = none → Inv X pins σ H s → tn i s.heap → J.go i H →
      ∃ (fpW wr : List Addr) (n : Nat) (Pt : Nat → Array Value → Prop) (St : Nat → Heap → Prop) (Mid : Nat → Addr → Heap → Prop), WalksT P w X.A it fpW wr n Pt St Mid ∧ i < n ∧ St i s.heap ∧ (∀ b ∈ wr, b ∈ fp) ∧ (∀ h, St (i + 1) h → tn (i + 1) h) ∧
        ∀ vals, Pt i vals → ∃ ys, Vals ys vals.toList ∧ ys.length ≤ 15 ∧ ∀ T, H T = none → J.yld i H (.ref T) (upd H T (.tup ys)))
    (stop : ∀ (X : Cx) (i : Nat) (pins : List (Addr × Obj)) (s : Shared) (σ : L2.St) (H : Hp), X.prog = P → X.w = w → X.K = K → X.A.handled = none → Inv X pins σ H s → tn i s.heap → J.stop i H →
      ∃ (fpW wr : List Addr) (n : Nat) (Pt : Nat → Array Value → Prop) (St : Nat → Heap → Prop) (Mid : Nat → Addr → Heap → Prop), WalksT P w X.A it fpW wr n Pt St Mid ∧ St n s.heap ∧ ∀ b ∈ wr, b ∈ fp) :
    Turn P w K (.Tuple elts kk tpos) J fp it tn where
  mem := mem
  obj := obj
  keep := keep
  self := self
  item := by
    intro X hP hw hK hc i pins s σ H E I hf st hg
    obtain ⟨fpW, wr, n, Pt, St, Mid, W, hi, hst, hwr, nxt, hy⟩ := go X i pins s σ H hP hw hK (I.ok.hd hc) I st hg
    refine W.item i s _ _ hi hst fun T vals h' tk hp hnew hT hm hk => ⟨_, rfl, W.go _ _ _ i T { s with heap := h', toks := tk } _ _ hm fun h2 st2 hk2 => ?_⟩
    obtain ⟨ys, rv, hl, hyl⟩ := hy vals hp
    have nT : H T = none := I.hok.fresh hnew
    have hT2 : h2.IsTuple T vals := hT.at fun o e => hk2 T o (W.apart i T h' hm) e
    have new : ObjOk X.prog X.w (upd H T (.tup ys)) h2 T (.tup ys) := by
      refine ⟨Nat.le_trans hl (by rw [sizeLine_eq]; decide), vals.toList, rv, ?_⟩
      exact hT2
    have I1 := I.turnedNew (t' := tk) (ch := fp) (fun b o hb q => hk2 b o (fun z => hb (hwr b z)) (hk b o (fun z => hb (hwr b z)) q)) hf hnew new
    refine ⟨.ref T, _, I1, rfl, hyl T nT, nxt _ st2, fun b hb => ?_⟩
    obtain ⟨ob, e, _⟩ := obj i _ st b hb
    have ne : b ≠ T := fun z => by
      have lt := Heap.lt_size e
      rw [z] at lt
      exact Nat.not_le_of_lt lt hnew
    rw [upd_ne ne]
    exact (hf b hb).1
  done := by
    intro X hP hw hK hc i pins s σ H E I hf st hg
    obtain ⟨fpW, wr, n, Pt, St, Mid, W, hst, hwr⟩ := stop X i pins s σ H hP hw hK (I.ok.hd hc) I st hg
    exact W.done s _ _ hst fun h' tk hk => ⟨rfl, I.turnedL (t' := tk) (ch := fp) (fun b o hb q => hk b o (fun z => hb (hwr b z)) q) hf⟩

/-! ### enumerate(t) -/
theorem meets_enum1 {v : Value} {o : Obj} {H : Heap → Prop} (B : Begins v o H) :
    Meets (Builtin.«enumerate.__new__» ⟨[.type "enumerate", v], []⟩) (fun _ R s => H s.heap ∧ R (.ok (.ret (.ref (s.heap.push o).objs.size))) { s with heap := (s.heap.push o).push { cls := .type "enumerate", data := .fields #[.none, .bool false, .ref s.heap.objs.size, rawInt 0, .none, .none] } }) :=
  .of_wp fun prog w A R s h => by
    obtain ⟨hp, g, d, tk, os⟩ := s
    obtain ⟨h1, h⟩ := h
    have hsub := sub_enumerate
    have q1 : ∀ {A' : Around} {E Q : Value → Shared → Prop}, Q (.ref hp.objs.size) ⟨hp.push o, g, d, tk, os⟩ → wpAny (model prog w) A' (pyIter v) Q E ⟨hp, g, d, tk, os⟩ := fun q => B.iter prog w _ _ ⟨hp, g, d, tk, os⟩ _ h1 q
    wp_walk using q1
    refine wpAny_stack_any fun st => wpAny_pure ?_
    split
    · rename_i c _ _ _ _ _
      cases (c == Value.type "enumerate") <;> (wp_walk using q1; exact ⟨_, rfl, h⟩)
    · wp_walk using q1
      exact ⟨_, rfl, h⟩
section
variable {prog : Program} {w : World} {A : Around} {E : Value → Shared → Prop} {s : Shared}
theorem call_enum1 {v : Value} {o : Obj} {H : Heap → Prop} {Q : Value → Shared → Prop} (B : Begins v o H) (h1 : H s.heap)
    (h : ∀ h', IsEnum h' (s.heap.objs.size + 1) s.heap.objs.size 0 .none → h'.get? s.heap.objs.size = some o → (∀ b o, s.heap.get? b = some o → h'.get? b = some o) → Q (.ref (s.heap.objs.size + 1)) { s with heap := h' }) :
    wpAny (model prog w) A (call (.type "enumerate") [v]) Q E s := by
  refine callType_new F.called_enumerate (by decide) (F.typeCall_enumerate_1 _) (F.newCall_enumerate_1 _) (fun obj => F.args_object_init_2 obj _) F.entry_enumerate_new (meets_enum1 B) ⟨h1, ?_⟩
  have hz : (s.heap.push o).objs.size = s.heap.objs.size + 1 := Heap.size_push ..
  have he := Heap.get?_push_size (s.heap.push o) (o := { cls := .type "enumerate", data := .fields #[.none, .bool false, .ref s.heap.objs.size, rawInt 0, .none, .none] }) rfl
  rw [hz] at he
  show _ ∧ _
  rw [hz]
  exact ⟨⟨_, he, rfl⟩, h _ he (Heap.get?_push_of_some _ (Heap.get?_push_size _ B.free)) fun b o x => Heap.get?_push_of_some _ (Heap.get?_push_of_some _ x)⟩
end
def IteT (K : PySem.W.Frag) (a : Addr) (xs : List V) : It :=
  ⟨fun i H => SqT K H a xs ∧ i < xs.length, fun i H v H' => ∃ T x, v = .ref T ∧ H T = none ∧ H' = upd H T (.tup [.int (i : Nat), x]) ∧ xs[i]? = some x, fun i H => SqT K H a xs ∧ i = xs.length⟩
theorem vals_at {xs : List V} {us : List Value} (r : Vals xs us) {i : Nat} {u : Value} (h : us[i]? = some u) : ∃ x, xs[i]? = some x ∧ RelV x u := by
  induction r generalizing i with
  | nil => simp at h
  | cons a t ih =>
    cases i with
    | zero =>
      cases h
      exact ⟨_, rfl, a⟩
    | succ i => exact ih h
theorem turn_enumT {P : Program} {w : World} {K : PySem.W.Frag} {elts : List Expr} {kk : Nat} {tpos : Pos} {a e it : Addr} {xs : List V} :
    Turn P w K (.Tuple elts kk tpos) (IteT K a xs) [e, it] e (fun i h => (∃ old, IsEnum h e it ((i : Nat) : Int) old) ∧ h.IsTupleIter it a i ∧ e ≠ it) := by
  have walk : ∀ (X : Cx) (pins : List (Addr × Obj)) (s : Shared) (σ : L2.St) (H : Hp) (i : Nat), X.prog = P → X.w = w → X.K = K → X.A.handled = none → Inv X pins σ H s → SqT K H a xs → ((∃ old, IsEnum s.heap e it ((i : Nat) : Int) old) ∧ s.heap.IsTupleIter it a i ∧ e ≠ it) →
      ∃ its : List Value, Vals xs its ∧ s.heap.IsTuple a its.toArray ∧ e ≠ a ∧ it ≠ a ∧ Draws P w X.A.in1 it [it, a] its.toArray.size (fun i v => its.toArray[i]? = some v) (fun i h => h.IsTupleIter it a i ∧ h.IsTuple a its.toArray) := by
    intro X pins s σ H i hP hw hK hh I hq st
    subst hP
    subst hw
    subst hK
    obtain ⟨⟨old, he⟩, hi, hne⟩ := st
    obtain ⟨its, rv, p, _⟩ := I.tuple hq
    have pa : s.heap.IsTuple a its.toArray := p
    obtain ⟨o1, g1, c1, _⟩ := id pa
    obtain ⟨o2, g2, c2, _⟩ := id hi
    have n1 : e ≠ a := fun z => by
      rw [z] at he
      have w := Option.some.inj (he.symm.trans g1)
      rw [← w] at c1
      have c1' : Value.type "enumerate" = Value.type "tuple" := c1
      injection c1' with c2'
      exact absurd c2' (by decide)
    have n2 : it ≠ a := fun z => by
      rw [z, g1] at g2
      cases g2
      rw [c1] at c2
      exact absurd c2 (by decide)
    have hh1 : X.A.in1.handled = none := hh
    exact ⟨its, rv, pa, n1, n2, Draws.tuple hh1 it a n2.symm _⟩
  refine turn_of (List.mem_cons_self ..) (fun i h st b hb => ?_) (fun i h h' st k => ?_) (fun A i s Q E st h => ?_) (fun X i pins s σ H hP hw hK hh I st hg => ?_) (fun X i pins s σ H hP hw hK hh I st hg => ?_)
  · obtain ⟨⟨old, he⟩, ⟨o, ho, hc, hd⟩, _⟩ := st
    rcases List.mem_cons.mp hb with z | z
    · rw [z]
      exact ⟨_, he, fun v q => nomatch q⟩
    · rw [List.mem_singleton.mp z]
      refine ⟨o, ho, fun v q => ?_⟩
      rw [hd] at q
      cases q
  · obtain ⟨⟨old, he⟩, hi, hne⟩ := st
    exact ⟨⟨old, k e (List.mem_cons_self ..) _ he⟩, hi.at fun o q => k it (List.mem_cons_of_mem _ (List.mem_cons_self ..)) o q, hne⟩
  · obtain ⟨⟨old, he⟩, _⟩ := st
    exact wpAny_pyIter_enum he h
  · obtain ⟨hq, hi⟩ := hg
    obtain ⟨its, rv, pa, n1, n2, D⟩ := walk X pins s σ H i hP hw hK hh I hq st
    have hl := rv.length
    refine ⟨_, _, _, _, _, _, WalksT.enumFrom 0 D e st.2.2 (fun z => ?_) (List.mem_cons_self ..), by simpa using by omega, ⟨by simpa using st.1, st.2.1, pa⟩, fun b hb => hb, fun h z => ⟨by simpa using z.1, z.2.1, st.2.2⟩, fun vals ⟨t, u, hu, ev⟩ => ?_⟩
    · rcases List.mem_cons.mp z with z | z
      · exact st.2.2 z
      · exact n1 (List.mem_singleton.mp z)
    · obtain ⟨x, hx, rx⟩ := vals_at rv (by simpa using hu)
      refine ⟨[.int (i : Nat), x], ?_, (by show 2 ≤ 15; decide), fun T nT => ⟨T, x, rfl, nT, rfl, hx⟩⟩
      rw [ev]
      exact .cons ⟨t, by simp⟩ (.cons rx .nil)
  · obtain ⟨hq, hi⟩ := hg
    obtain ⟨its, rv, pa, n1, n2, D⟩ := walk X pins s σ H i hP hw hK hh I hq st
    have hl := rv.length
    refine ⟨_, _, _, _, _, _, WalksT.enumFrom 0 D e st.2.2 (fun z => ?_) (List.mem_cons_self ..), ?_, fun b hb => hb⟩
    · rcases List.mem_cons.mp z with z | z
      · exact st.2.2 z
      · exact n1 (List.mem_singleton.mp z)
    · have hn : its.toArray.size = i := by
        rw [List.size_toArray, ← hl, hi]
      rw [hn]
      exact ⟨by simpa using st.1, st.2.1, pa⟩
def iEnumT (K : PySem.W.Frag) (ta : TA) : TI := fun σ H R => ta σ H fun vs H1 => ∃ a xs, vs = [.ref a] ∧ SqT K H1 a xs ∧ R (IteT K a xs) H1
theorem pi_enumT {X : Cx} {e : Expr} {ta : TA} {p pos tpos : Pos} {elts : List Expr} {kk : Nat} (hg : Gl X "enumerate") (hm : X.mg "enumerate" = none) (ha : PA X [e] ta) (hs : starEach [e] X.env = [(false, eval e X.env)] := by rfl) :
    PI X (.Tuple elts kk tpos) (.Call (.Name "enumerate" p) [e] [] pos) (iEnumT X.K ta) := by
  constructor
  intro pins s σ H R I h
  refine Call_ (ld_blt I hg hm boot_enumerate (PyProof.Rows.callWith_type1 (thn (ha.run pos pins s σ H _ I h) fun us s1 ⟨vs, H1, I1, r1, a, xs, ex, hq, q⟩ => ?_) hs rfl))
  subst ex
  rcases r1 with _ | ⟨r, r0⟩
  cases r0
  cases r
  obtain ⟨its, rv, pa, _⟩ := I1.tuple hq
  refine call_enum1 (begins_tuple a its.toArray) (show s1.heap.IsTuple a its.toArray from pa) fun h' he hit hk => wpAny_pyIter_enum he ?_
  refine ⟨s1.heap.objs.size + 1, [s1.heap.objs.size + 1, s1.heap.objs.size], _, _, H1, rfl, I1.kept (t' := s1.toks) hk, turn_enumT, ⟨⟨.none, he⟩, ⟨_, hit, rfl, rfl⟩, Nat.succ_ne_self _⟩, fun b hb => ?_, q⟩
  have hle : s1.heap.objs.size ≤ b := by
    rcases List.mem_cons.mp hb with z | z
    · rw [z]
      exact Nat.le_succ _
    · rw [List.mem_singleton.mp z]
      exact Nat.le_refl _
  exact I1.fpOk hle (I1.hok.fresh hle)

/-! ### zip(l, t) -/
def ItzLT (K : PySem.W.Frag) (a b : Addr) (xs ys : List V) : It :=
  ⟨fun i H => SqL K H a xs ∧ SqT K H b ys ∧ i < xs.length, fun i H v H' => ∃ T x y, v = .ref T ∧ H T = none ∧ H' = upd H T (.tup [x, y]) ∧ xs[i]? = some x ∧ ys[i]? = some y, fun i H => SqL K H a xs ∧ SqT K H b ys ∧ i = xs.length⟩
theorem turn_zipLT {P : Program} {w : World} {K : PySem.W.Frag} {elts : List Expr} {kk : Nat} {tpos : Pos} {a b z TI TO i1 i2 : Addr} {xs ys : List V} (hlen : xs.length = ys.length) (S : ZipSep2 z TI TO i1 i2 [i1, a] [i2, b]) (na : a ≠ i1) (nb : b ≠ i2) :
    Turn P w K (.Tuple elts kk tpos) (ItzLT K a b xs ys) [z, TI, TO, i1, i2] z (fun i h => IsZip h z TI TO .none ∧ IsTupOf2 h TI (.ref i1) (.ref i2) ∧ (∃ x y, IsTupOf2 h TO x y) ∧ h.IsListIter i1 a i ∧ h.IsTupleIter i2 b i) := by
  have lists : ∀ (X : Cx) (pins : List (Addr × Obj)) (s : Shared) (σ : L2.St) (H : Hp), X.K = K → X.prog = P → X.w = w → X.A.handled = none → Inv X pins σ H s → SqL K H a xs → SqT K H b ys →
      ∃ us vs : List Value, Vals xs us ∧ Vals ys vs ∧ s.heap.IsList a us.toArray ∧ s.heap.IsTuple b vs.toArray ∧ us.length = xs.length ∧ vs.length = xs.length ∧
        WalksT P w X.A z (z :: TI :: TO :: ([i1, a] ++ [i2, b])) [z, TO, i1, i2] (min us.toArray.size vs.toArray.size) (fun i vals => ∃ x1 x2, us.toArray[i]? = some x1 ∧ vs.toArray[i]? = some x2 ∧ vals = #[x1, x2])
          (fun i h => IsZip h z TI TO .none ∧ IsTupOf2 h TI (.ref i1) (.ref i2) ∧ (∃ a1 a2, IsTupOf2 h TO a1 a2) ∧ (h.IsListIter i1 a i ∧ h.IsList a us.toArray) ∧ h.IsTupleIter i2 b i ∧ h.IsTuple b vs.toArray)
          (fun i T h => IsZip h z TI TO (rawInt T) ∧ IsTupOf2 h TI (.ref i1) (.ref i2) ∧ (∃ a1 a2, IsTupOf2 h TO a1 a2) ∧ (h.IsListIter i1 a (i + 1) ∧ h.IsList a us.toArray) ∧ (h.IsTupleIter i2 b (i + 1) ∧ h.IsTuple b vs.toArray) ∧ T ≠ z ∧ T ≠ TO ∧ T ≠ i1 ∧ T ≠ i2) := by
    intro X pins s σ H hK hP hw hh I h1 h2
    subst hK
    subst hP
    subst hw
    obtain ⟨us, ru, pu, _⟩ := I.list h1
    obtain ⟨vs, rv, pv, _⟩ := I.tuple h2
    have hh1 : X.A.in1.handled = none := hh
    exact ⟨us, vs, ru, rv, pu.isList, pv, ru.length.symm, by rw [← rv.length, hlen], WalksT.zipD2 S (Draws.list hh1 i1 a na _) (Draws.tuple hh1 i2 b nb _)⟩
  have sub5 : ∀ c ∈ [z, TO, i1, i2], c ∈ [z, TI, TO, i1, i2] := fun c hc => by
    simp only [List.mem_cons, List.not_mem_nil, or_false] at hc ⊢
    rcases hc with e | e | e | e
    · exact .inl e
    · exact .inr (.inr (.inl e))
    · exact .inr (.inr (.inr (.inl e)))
    · exact .inr (.inr (.inr (.inr e)))
  refine turn_of (List.mem_cons_self ..) (fun i h st c hc => ?_) (fun i h h' st k => ?_) (fun A i s Q E st h => wpAny_pyIter_zip st.1 h) (fun X i pins s σ H hP hw hK hh I st hg => ?_) (fun X i pins s σ H hP hw hK hh I st hg => ?_)
  · obtain ⟨hz, hTI, ⟨x, y, hTO⟩, ⟨o1, e1, _, d1⟩, ⟨o2, e2, _, d2⟩⟩ := st
    simp only [List.mem_cons, List.not_mem_nil, or_false] at hc
    rcases hc with q | q | q | q | q
    all_goals rw [q]
    · exact ⟨_, hz, fun v q => nomatch q⟩
    · exact ⟨_, hTI, fun v q => nomatch q⟩
    · exact ⟨_, hTO, fun v q => nomatch q⟩
    · exact ⟨o1, e1, fun v q => by rw [d1] at q; cases q⟩
    · exact ⟨o2, e2, fun v q => by rw [d2] at q; cases q⟩
  · obtain ⟨hz, hTI, ⟨x, y, hTO⟩, h1, h2⟩ := st
    have m : ∀ c, c = z ∨ c = TI ∨ c = TO ∨ c = i1 ∨ c = i2 → ∀ o, h.get? c = some o → h'.get? c = some o := fun c hc => k c (by simpa using hc)
    exact ⟨m z (.inl rfl) _ hz, m TI (.inr (.inl rfl)) _ hTI, ⟨x, y, m TO (.inr (.inr (.inl rfl))) _ hTO⟩, h1.at fun o q => m i1 (.inr (.inr (.inr (.inl rfl)))) o q, h2.at fun o q => m i2 (.inr (.inr (.inr (.inr rfl)))) o q⟩
  · obtain ⟨h1, h2, hi⟩ := hg
    obtain ⟨us, vs, ru, rv, pu, pv, lu, lv, W⟩ := lists X pins s σ H hK hP hw hh I h1 h2
    refine ⟨_, _, _, _, _, _, W, ?_, ⟨st.1, st.2.1, st.2.2.1, ⟨st.2.2.2.1, pu⟩, st.2.2.2.2, pv⟩, sub5, fun h z => ⟨z.1, z.2.1, z.2.2.1, z.2.2.2.1.1, z.2.2.2.2.1⟩, fun vals ⟨u1, u2, g1, g2, ev⟩ => ?_⟩
    · rw [List.size_toArray, List.size_toArray, lu, lv, Nat.min_self]
      exact hi
    · obtain ⟨x, hx, rx⟩ := vals_at ru (by simpa using g1)
      obtain ⟨y, hy, ry⟩ := vals_at rv (by simpa using g2)
      refine ⟨[x, y], ?_, (by show 2 ≤ 15; decide), fun T nT => ⟨T, x, y, rfl, nT, rfl, hx, hy⟩⟩
      rw [ev]
      exact .cons rx (.cons ry .nil)
  · obtain ⟨h1, h2, hi⟩ := hg
    obtain ⟨us, vs, ru, rv, pu, pv, lu, lv, W⟩ := lists X pins s σ H hK hP hw hh I h1 h2
    refine ⟨_, _, _, _, _, _, W, ?_, sub5⟩
    have hn : min us.toArray.size vs.toArray.size = i := by
      rw [List.size_toArray, List.size_toArray, lu, lv, Nat.min_self, hi]
    rw [hn]
    exact ⟨st.1, st.2.1, st.2.2.1, ⟨st.2.2.2.1, pu⟩, st.2.2.2.2, pv⟩
def iZipLT (K : PySem.W.Frag) (ta : TA) : TI := fun σ H R => ta σ H fun vs H1 => ∃ a b xs ys, vs = [.ref a, .ref b] ∧ SqL K H1 a xs ∧ SqT K H1 b ys ∧ xs.length = ys.length ∧ R (ItzLT K a b xs ys) H1
theorem pi_zipLT {X : Cx} {e e2 : Expr} {ta : TA} {p pos tpos : Pos} {elts : List Expr} {kk : Nat} (hg : Gl X "zip") (hm : X.mg "zip" = none) (ha : PA X [e, e2] ta) (hs : starEach [e, e2] X.env = (false, eval e X.env) :: starEach [e2] X.env := by rfl)
    (hpl : (backTo pos (starEach [e2] X.env)).any (·.1) = false := by rfl) : PI X (.Tuple elts kk tpos) (.Call (.Name "zip" p) [e, e2] [] pos) (iZipLT X.K ta) := by
  constructor
  intro pins s σ H R I h
  refine Call_ (ld_blt I hg hm PyProof.Rows.boot_zip (PyProof.Rows.callWith_type1 (thn (ha.run pos pins s σ H _ I h) fun us s1 ⟨vs, H1, I1, r1, a, b, xs, ys, ex, h1, h2, hl, q⟩ => ?_) hs hpl))
  subst ex
  rcases r1 with _ | ⟨ra, _ | ⟨rb, r0⟩⟩
  cases r0
  cases ra
  cases rb
  obtain ⟨us, ru, pu, _⟩ := I1.list h1
  obtain ⟨vs, rv, pv, _⟩ := I1.tuple h2
  have pv' : s1.heap.IsTuple b vs.toArray := pv
  have la : a < s1.heap.objs.size := pu.isList.elim fun o z => Heap.lt_size z.1
  have lb : b < s1.heap.objs.size := pv'.elim fun o z => Heap.lt_size z.1
  refine zip_begins2 (begins_list a us.toArray) (begins_tuple b vs.toArray) pu.isList pv' fun h' hz hTI hTO e1 e2 hsz hk => wpAny_pyIter_zip hz ?_
  have S : ZipSep2 (s1.heap.objs.size + 4) (s1.heap.objs.size + 2) (s1.heap.objs.size + 3) s1.heap.objs.size (s1.heap.objs.size + 1) [s1.heap.objs.size, a] [s1.heap.objs.size + 1, b] :=
    zip_sep2 (N := s1.heap.objs.size) (fun c hc => by rw [List.mem_singleton.mp hc]; exact la) (fun c hc => by rw [List.mem_singleton.mp hc]; exact lb)
  refine ⟨s1.heap.objs.size + 4, [s1.heap.objs.size + 4, s1.heap.objs.size + 2, s1.heap.objs.size + 3, s1.heap.objs.size, s1.heap.objs.size + 1], _, _, H1, rfl, I1.kept (t' := s1.toks) hk, turn_zipLT hl S (Nat.ne_of_lt la) (Nat.ne_of_lt (Nat.lt_succ_of_lt lb)),
    ⟨hz, hTI, ⟨_, _, hTO⟩, ⟨_, e1, rfl, rfl⟩, ⟨_, e2, rfl, rfl⟩⟩, fun c hc => ?_, q⟩
  have hle : s1.heap.objs.size ≤ c := by
    simp only [List.mem_cons, List.not_mem_nil, or_false] at hc
    rcases hc with q | q | q | q | q <;> rw [q] <;> first
      | exact Nat.le_add_right _ _
      | exact Nat.le_refl _
  exact I1.fpOk hle (I1.hok.fresh hle)
end EZ

set_option Elab.async false
set_option linter.all false
set_option maxRecDepth 100000
set_option maxHeartbeats 1000000
/-! The law's own powers and bits. -/
namespace K02
open PySem PySem.Spec L2
open PyProof.Rows GenW GxR
open LamX (ExtN)
abbrev sPower : Stmt := top 49 -- _law_power
abbrev sBitsOf : Stmt := top 51 -- _law_bits_of
abbrev sAllBits : Stmt := top 52 -- _law_all_bits
abbrev sGateBit : Stmt := top 53 -- _law_gate_bit
def bitsOf (k n : Nat) : List Bool := (List.range n).map fun i => decide (k / 2 ^ i % 2 = 1)
theorem bitsOf_len (k n : Nat) : (bitsOf k n).length = n := by
  unfold bitsOf
  rw [List.length_map, List.length_range]
theorem bitsOf_succ (k n : Nat) : bitsOf k (n + 1) = bitsOf k n ++ [decide (k / 2 ^ n % 2 = 1)] := by
  unfold bitsOf
  rw [List.range_succ, List.map_append]
  rfl
theorem bit_at (k i : Nat) : (k : Int) / ((2 ^ i : Nat) : Int) % 2 = bitZ (decide (k / 2 ^ i % 2 = 1)) := by
  have h : (k : Int) / ((2 ^ i : Nat) : Int) % 2 = ((k / 2 ^ i % 2 : Nat) : Int) := by
    rw [Int.natCast_emod, Int.natCast_ediv]
    rfl
  rw [h]
  by_cases e : k / 2 ^ i % 2 = 1
  · rw [e, decide_eq_true rfl]
    rfl
  · rw [decide_eq_false e]
    have e0 : k / 2 ^ i % 2 = 0 := by omega
    rw [e0]
    rfl
section
variable {P : Program} {w : World} {K : PySem.W.Frag} {mg : Str → Option Value} {base : Heap}
def spPower : Sp := fun vs H Q _ => ∃ n : Nat, vs = [.int (n : Int)] ∧ n ≤ 5 ∧ Q (.int ((2 ^ n : Nat) : Int)) H
theorem scPower : FnScope ["number", "found", "lap"] ["number"] (defScope sPower) := ⟨rfl, rfl, rfl, by decide +kernel, rfl, by decide +kernel, by decide +kernel⟩
theorem ok_power {f : Addr} {fd : FuncData} (F : Fun K "_law_power" "_law_power" sPower f fd) (mr : mg "range" = none) : FnOk P w K mg base CX0 1 f fd ["number"] spPower := by
  refine F.ok scPower (fun vs H Q E h => ?_) (fun cdv A outer s H vs Q E hr h => ?_)
  · obtain ⟨n, rfl, _⟩ := h
    rfl
  · obtain ⟨n, rfl, hn, q⟩ := h
    refine ⟨_, pss_cons (ps_set (i := 1) scPower.nd rfl (Or.inl rfl) pe_int)
      (pss_cons (ps_for PassesOwn.never rfl (pi_range1 (by rfl) mr (pa_cons (pv 0) pa_nil)) (pg_name (i := 2) scPower.nd rfl (Or.inl rfl))
        (pss_one (ps_set (i := 1) scPower.nd rfl (Or.inl rfl) (pe_op op_mul pe_int (pv 1)))))
      (pss_one (ps_ret (pv 1)))), ?_⟩
    refine ⟨_, rfl, n, rfl, by omega, by omega, ?_⟩
    rw [Int.toNat_natCast]
    refine for_range (fun i σ H1 => ∃ y, σ = [some (.int (n : Int)), some (.int ((2 ^ i : Nat) : Int)), y] ∧ H1 = H) ⟨none, rfl, rfl⟩ (fun i σ H1 hi ⟨y, e, eh⟩ => ?_) (fun σ H1 ⟨y, e, eh⟩ => ?_)
    · subst e
      subst eh
      refine ⟨_, rfl, _, _, rfl, rfl, .inl ⟨by decide, by decide⟩, some (.int (0 + (i : Int))), ?_, rfl⟩
      rw [← pw2 i, Int.mul_comm]
      rfl
    · subst e
      subst eh
      exact ⟨_, rfl, q⟩

def spBitsOf : Sp := fun vs H Q _ => ∃ k n : Nat, vs = [.int (k : Int), .int (n : Int)] ∧ n ≤ 4 ∧ ∀ p H', Same H H' → H p = none → H' p = some (.tup ((bitsOf k n).map bitV)) → Q (.ref p) H'
theorem scBitsOf : FnScope ["number", "size", "spot"] ["number", "size"] (defScope sBitsOf) := ⟨rfl, rfl, rfl, by decide +kernel, rfl, by decide +kernel, by decide +kernel⟩
theorem ok_bitsOf {f fP : Addr} {fd fdP : FuncData} (F : Fun K "_law_bits_of" "_law_bits_of" sBitsOf f fd) (mr : mg "range" = none) (mt : mg "tuple" = none) (GP : FnOk P w K mg base CX0 1 fP fdP ["number"] spPower) (kP : PySem.W.keepIn K (.ref fP) = true) (bP : Binds K fdP ["number"] []) (mP : mg "_law_power" = some (.ref fP)) :
    FnOk P w K mg base CX0 2 f fd ["number", "size"] spBitsOf := by
  refine F.ok scBitsOf (fun vs H Q E h => ?_) (fun cdv A outer s H vs Q E hr h => ?_)
  · obtain ⟨k, n, rfl, _⟩ := h
    rfl
  · obtain ⟨k, n, rfl, hn, q⟩ := h
    refine ⟨_, pss_one (ps_ret (pe_callTy call_tuple_of (by rfl) mt (by decide +kernel) (pa_cons (pe_lc (own := [("spot", 2)]) (g := gName 2) (tt := tYes) rfl scBitsOf.nd (pi_range1 (by rfl) mr (pa_cons (pv 1) pa_nil)) (blkOk_by (N := ["number", "size", "spot"]) (sc := defScope sBitsOf) (by decide +kernel))
      (fun _ _ _ _ _ => pg_name (i := 2) scBitsOf.nd rfl (Or.inl rfl)) (fun _ _ _ _ _ => pts_nil) (fun _ _ _ _ _ => pe_op op_mod (pe_op op_fdiv (pv 0) (pe_call GP hr (by rfl) mP kP bP .nil pass0 (pa_cons (pv 2) pa_nil))) pe_int)) pa_nil))), ?_⟩
    refine ⟨_, rfl, n, rfl, by omega, by omega, fun D nD => ?_⟩
    rw [Int.toNat_natCast]
    refine lc_range (fun i H1 => Same H H1 ∧ H1 D = some (.lst ((bitsOf k i).map bitV))) ⟨same_new nD, upd_same⟩ (fun i H1 hi ⟨s1, e1⟩ => ?_) (fun H1 ⟨s1, e1⟩ => ?_)
    · have hp : 2 ^ i ≤ 16 := pow16 (by omega)
      have hp0 : 0 < 2 ^ i := Nat.two_pow_pos i
      refine ⟨rfl, _, rfl, _, rfl, i, by simp, by omega, _, _, rfl, rfl, ⟨by omega, by omega⟩, _, _, rfl, rfl, (by show (0 : Int) < 2; decide), _, e1, ?_, fun b o e => ?_, ?_⟩
      · rw [List.length_map, bitsOf_len]
        exact small1000 (by omega)
      · rw [upd_ne (ne_of_none e nD)]
        exact s1 b o e
      · rw [upd_same, bitsOf_succ, List.map_append]
        show some (HO.lst ((bitsOf k i).map bitV ++ [V.int ((k : Int) / ((2 ^ i : Nat) : Int) % 2)])) = _
        rw [bit_at]
        rfl
    · refine ⟨D, _, rfl, .inl ⟨.inl (.inl e1), fun p np => q p _ (s1.trans (same_new np)) (s1.free np) upd_same⟩⟩
/-! ### sorted -/
/-- sorted of a list of one -/
def rSort1 (K : PySem.W.Frag) : List V → Hp → VK → Prop := fun vs H Q => ∃ (a : Addr) (x : V), vs = [V.ref a] ∧ SqL K H a [x] ∧ ∀ p, H p = none → Q (.ref p) (upd H p (.lst [x]))
theorem cr_sort1 {X : Cx} : CallR X (.builtin "sorted") (rSort1 X.K) := by
  intro pins s σ H vs us Q I r h
  obtain ⟨a, x, rfl, hs, q⟩ := h
  obtain ⟨its, rv, hl, hz⟩ := I.list hs
  rw [Vals.ref1 r]
  have h1 : its.length = 1 := by
    rw [← rv.length]
    rfl
  refine Srt.sorted_any hl.isList (by rw [h1, sizeLine_eq]; decide) (fun z => by omega) fun out hp => ?_
  have eo : out = its := by
    obtain ⟨u, rfl⟩ := List.length_eq_one_iff.mp h1
    exact List.perm_singleton.mp hp
  rw [eo]
  obtain ⟨ep, he⟩ := PyProof.Rows.sortedAll_at s.heap its its.toArray
  exact ⟨.ref _, upd H (s.heap.objs.size + 1) (.lst [x]), I.laid (t' := s.toks) (fun _ _ => PyProof.Rows.sortedAll_old) (Nat.le_succ _) ⟨(by show 1 ≤ sizeLine; decide), its, ep, rv, he⟩, rfl, q _ (I.hok.fresh (Nat.le_succ _))⟩
end
end K02

set_option Elab.async false
set_option linter.all false
set_option maxRecDepth 100000
set_option maxHeartbeats 1000000
/-! All bits, and a gate's bit, as the law finds them. -/
namespace K02
open PySem PySem.Spec L2
open PyProof.Rows GenW GxR
open LamX (ExtN)
theorem idx_bits : ∀ bs : List Bool, bitsOf (idx bs) bs.length = bs := by
  have gen : ∀ (bs : List Bool) (i : Nat), i < bs.length → bs[i]? = some (decide (idx bs / 2 ^ i % 2 = 1)) := by
    intro bs
    induction bs with
    | nil => intro i h; simp at h
    | cons b r ih =>
      intro i h
      cases i with
      | zero =>
        cases b <;> simp [idx] <;> omega
      | succ i =>
        have h2 := ih i (by simpa using h)
        rw [List.getElem?_cons_succ, h2]
        have e : idx (b :: r) / 2 ^ (i + 1) = idx r / 2 ^ i := by
          rw [Nat.pow_succ, Nat.mul_comm, ← Nat.div_div_eq_div_mul]
          have : idx (b :: r) / 2 = idx r := by
            show ((if b then 1 else 0) + 2 * idx r) / 2 = idx r
            split <;> omega
          rw [this]
        rw [e]
  intro bs
  apply List.ext_getElem?
  intro i
  unfold bitsOf
  rw [List.getElem?_map]
  by_cases h : i < bs.length
  · rw [List.getElem?_range h, gen bs i h]
    rfl
  · rw [List.getElem?_eq_none (by simpa using h), List.getElem?_eq_none (by omega)]
    rfl
theorem low62 {m : Nat} (h : m ≤ 16) : -(2 ^ 62) ≤ (m : Int) := by omega
theorem high62 {m : Nat} (h : m ≤ 16) : (m : Int) < 2 ^ 62 := by omega
/-- y is a tuple of the bits bs -/
def IsB (H : Hp) (y : V) (bs : List Bool) : Prop := ∃ t, y = .ref t ∧ H t = some (.tup (bs.map bitV))
theorem IsB.keep {H H' : Hp} {y : V} {bs : List Bool} (h : IsB H y bs) (k : Same H H') : IsB H' y bs := by
  obtain ⟨t, e, g⟩ := h
  exact ⟨t, e, k _ _ g⟩
/-- just the bits of n places stand in ys -/
structure AllB (H : Hp) (ys : List V) (n : Nat) : Prop where
  len : ys.length = 2 ^ n
  all : ∀ y ∈ ys, ∃ bs, IsB H y bs ∧ bs.length = n
  each : ∀ bs : List Bool, bs.length = n → ∃ y ∈ ys, IsB H y bs
theorem bits_map (bs : List Bool) : bs.map bitV = (bs.map bitZ).map V.int := by
  rw [List.map_map]
  rfl
section
variable {P : Program} {w : World} {K : PySem.W.Frag} {mg : Str → Option Value} {base : Heap}
def spAllBits : Sp := fun vs H Q _ => ∃ n : Nat, vs = [.int (n : Int)] ∧ n ≤ 4 ∧ ∀ l ys H', Same H H' → H l = none → H' l = some (.lst ys) → AllB H' ys n → Q (.ref l) H'
theorem scAllBits : FnScope ["size", "number"] ["size"] (defScope sAllBits) := ⟨rfl, rfl, rfl, by decide +kernel, rfl, by decide +kernel, by decide +kernel⟩
theorem ok_allBits {f fP fB : Addr} {fd fdP fdB : FuncData} (F : Fun K "_law_all_bits" "_law_all_bits" sAllBits f fd) (mr : mg "range" = none) (ms : mg "sorted" = none)
    (GP : FnOk P w K mg base CX0 1 fP fdP ["number"] spPower) (kP : PySem.W.keepIn K (.ref fP) = true) (bP : Binds K fdP ["number"] []) (mP : mg "_law_power" = some (.ref fP))
    (GB : FnOk P w K mg base CX0 2 fB fdB ["number", "size"] spBitsOf) (kB : PySem.W.keepIn K (.ref fB) = true) (bB : Binds K fdB ["number", "size"] []) (mB : mg "_law_bits_of" = some (.ref fB)) :
    FnOk P w K mg base CX0 3 f fd ["size"] spAllBits := by
  refine F.ok scAllBits (fun vs H Q E h => ?_) (fun cdv A outer s H vs Q E hr h => ?_)
  · obtain ⟨n, rfl, _⟩ := h
    rfl
  · obtain ⟨n, rfl, hn, q⟩ := h
    have h16 := pow16 hn
    -- the list, before it is sorted
    have inv : ∀ (D : Addr), H D = none → ∀ Qd : Hp → Prop, (∀ H1 ys, Same H H1 → H1 D = some (.lst ys) → AllB H1 ys n → Qd H1) →
        ∃ Pv : Nat → Hp → Prop, Pv 0 (upd H D (.lst [])) ∧ (∀ (i : Nat) (H1 : Hp), i < 2 ^ n → Pv i H1 → Same H H1 ∧ ∃ acc, H1 D = some (.lst acc) ∧ acc.length < sizeLine ∧
          ∀ p H', Same H1 H' → H1 p = none → H' p = some (.tup ((bitsOf i n).map bitV)) → Pv (i + 1) (upd H' D (.lst (acc ++ [.ref p])))) ∧ ∀ H1, Pv (2 ^ n) H1 → Qd H1 := by
      intro D nD Qd qd
      refine ⟨fun i H1 => Same H H1 ∧ ∃ ys, H1 D = some (.lst ys) ∧ ys.length = i ∧ (∀ y ∈ ys, ∃ bs, IsB H1 y bs ∧ bs.length = n) ∧ ∀ k, k < i → ∃ y ∈ ys, IsB H1 y (bitsOf k n), ⟨same_new nD, [], upd_same, rfl, fun y hy => (nomatch hy), fun k hk => by omega⟩, fun i H1 hi ⟨s1, ys, e1, l1, a1, b1⟩ => ⟨s1, ys, e1, by rw [l1]; exact small1000 (by omega), fun p H' s2 np e2 => ?_⟩, fun H1 ⟨s1, ys, e1, l1, a1, b1⟩ => qd H1 ys s1 e1 ⟨l1, a1, fun bs hb => ?_⟩⟩
      · have off : ∀ {y bs}, IsB H1 y bs → IsB (upd H' D (.lst (ys ++ [.ref p]))) y bs := fun {y bs} ⟨t, e, g⟩ => ⟨t, e, by
          rw [upd_ne (fun z => by rw [z, e1] at g; cases g)]
          exact s2 _ _ g⟩
        have new : IsB (upd H' D (.lst (ys ++ [.ref p]))) (.ref p) (bitsOf i n) := ⟨p, rfl, by
          rw [upd_ne (fun z => by rw [z, e1] at np; cases np)]
          exact e2⟩
        refine ⟨fun b o e => ?_, _, upd_same, ?_, fun y hy => ?_, fun k hk => ?_⟩
        · rw [upd_ne (ne_of_none e nD)]
          exact s2 _ _ (s1 _ _ e)
        · rw [List.length_append, l1]
          rfl
        · rcases List.mem_append.mp hy with hy | hy
          · obtain ⟨bs, z, l⟩ := a1 y hy
            exact ⟨bs, off z, l⟩
          · rw [List.mem_singleton.mp hy]
            exact ⟨_, new, bitsOf_len _ _⟩
        · by_cases h : k < i
          · obtain ⟨y, hy, z⟩ := b1 k h
            exact ⟨y, List.mem_append_left _ hy, off z⟩
          · have e : k = i := by omega
            rw [e]
            exact ⟨_, List.mem_append_right _ (List.mem_singleton.mpr rfl), new⟩
      · have hlt := idx_lt bs
        rw [hb] at hlt
        have z := b1 _ hlt
        have e := idx_bits bs
        rw [hb] at e
        rw [e] at z
        exact z
    by_cases h0 : n = 0
    · subst h0
      refine ⟨_, pss_one (ps_ret (pe_callB cr_sort1 (by rfl) ms (by decide +kernel) (pa_cons (pe_lc (own := [("number", 1)]) (g := gName 1) (tt := tYes) rfl scAllBits.nd (pi_range1 (by rfl) mr (pa_cons (pe_call GP (hr.mono (by decide)) (by rfl) mP kP bP .nil pass0 (pa_cons (pv 0) pa_nil)) pa_nil)) (blkOk_by (N := ["size", "number"]) (sc := defScope sAllBits) (by decide +kernel))
        (fun _ _ _ _ _ => pg_name (i := 1) scAllBits.nd rfl (Or.inl rfl)) (fun _ _ _ _ _ => pts_nil) (fun _ _ _ _ _ => pe_call GB hr (by rfl) mB kB bB .nil pass0 (pa_cons (pv 1) (pa_cons (pv 0) pa_nil)))) pa_nil))), ?_⟩
      refine ⟨_, rfl, 0, rfl, by decide, _, rfl, by decide, by decide, fun D nD => ?_⟩
      have fin : ∀ H1 ys, Same H H1 → H1 D = some (.lst ys) → AllB H1 ys 0 → rSort1 K [.ref D] H1 Q := fun H1 ys s1 e1 a1 => ?fin
      · obtain ⟨Pv, p0, ps, pd⟩ := inv D nD (fun H1 => rSort1 K [.ref D] H1 Q) fin
        refine lc_range Pv p0 (fun i H1 hi p1 => ?_) pd
        obtain ⟨s1, acc, e1, hl, nxt⟩ := ps i H1 (by simpa using hi) p1
        exact ⟨rfl, _, rfl, _, rfl, i, 0, by simp, by decide, fun p H' s2 np e2 => ⟨acc, s2 _ _ e1, hl, nxt p H' s2 np e2⟩⟩
      case fin =>
        obtain ⟨y, rfl⟩ := List.length_eq_one_iff.mp a1.len
        refine ⟨D, y, rfl, .inl (.inl e1), fun p np => q p [y] _ (s1.trans (same_new np)) (s1.free np) upd_same ⟨a1.len, fun z hz => ?_, fun bs hb => ?_⟩⟩
        · obtain ⟨bs, g, l⟩ := a1.all z hz
          exact ⟨bs, g.keep (same_new np), l⟩
        · obtain ⟨z, hz, g⟩ := a1.each bs hb
          exact ⟨z, hz, g.keep (same_new np)⟩
    · refine ⟨_, pss_one (ps_ret (pe_callB (cr_sortT (d := n) (B := 2) (by omega)) (by rfl) ms (by decide +kernel) (pa_cons (pe_lc (own := [("number", 1)]) (g := gName 1) (tt := tYes) rfl scAllBits.nd (pi_range1 (by rfl) mr (pa_cons (pe_call GP (hr.mono (by decide)) (by rfl) mP kP bP .nil pass0 (pa_cons (pv 0) pa_nil)) pa_nil)) (blkOk_by (N := ["size", "number"]) (sc := defScope sAllBits) (by decide +kernel))
        (fun _ _ _ _ _ => pg_name (i := 1) scAllBits.nd rfl (Or.inl rfl)) (fun _ _ _ _ _ => pts_nil) (fun _ _ _ _ _ => pe_call GB hr (by rfl) mB kB bB .nil pass0 (pa_cons (pv 1) (pa_cons (pv 0) pa_nil)))) pa_nil))), ?_⟩
      refine ⟨_, rfl, n, rfl, by omega, _, rfl, low62 h16, high62 h16, fun D nD => ?_⟩
      rw [Int.toNat_natCast]
      have fin : ∀ H1 ys, Same H H1 → H1 D = some (.lst ys) → AllB H1 ys n → rSortU K n 2 [.ref D] H1 Q := fun H1 ys s1 e1 a1 => ?fin
      · obtain ⟨Pv, p0, ps, pd⟩ := inv D nD (fun H1 => rSortU K n 2 [.ref D] H1 Q) fin
        refine lc_range Pv p0 (fun i H1 hi p1 => ?_) pd
        obtain ⟨s1, acc, e1, hl, nxt⟩ := ps i H1 hi p1
        exact ⟨rfl, _, rfl, _, rfl, i, n, by simp, hn, fun p H' s2 np e2 => ⟨acc, s2 _ _ e1, hl, nxt p H' s2 np e2⟩⟩
      case fin =>
        refine ⟨D, ys, rfl, .inl (.inl e1), by rw [a1.len]; omega, fun x hx => ?_, fun zs p hp _ np => q p zs _ (s1.trans (same_new np)) (s1.free np) upd_same ⟨hp.length_eq.trans a1.len, fun z hz => ?_, fun bs hb => ?_⟩⟩
        · obtain ⟨bs, ⟨t, e, g⟩, l⟩ := a1.all x hx
          refine ⟨bs.map bitZ, ⟨t, e, by rw [← bits_map]; exact .inl (.inl g)⟩, by rw [List.length_map, l], fun m hm => ?_⟩
          obtain ⟨b, _, rfl⟩ := List.mem_map.mp hm
          cases b <;> decide
        · obtain ⟨bs, g, l⟩ := a1.all z (hp.mem_iff.mp hz)
          exact ⟨bs, g.keep (same_new np), l⟩
        · obtain ⟨z, hz, g⟩ := a1.each bs hb
          exact ⟨z, hp.mem_iff.mpr hz, g.keep (same_new np)⟩
end
end K02

set_option Elab.async false
set_option linter.all false
set_option maxRecDepth 100000
set_option maxHeartbeats 1000000
/-! A gate's bit, as the law finds it; bits in the place of all None. -/
namespace K02
open PySem PySem.Spec L2
open PyProof.Rows GenW GxR
open LamX (ExtN)
theorem idx_snoc (xs : List Bool) (b : Bool) : idx (xs ++ [b]) = idx xs + (if b then 1 else 0) * 2 ^ xs.length := by
  induction xs with
  | nil =>
    show (if b then 1 else 0) + 2 * idx [] = 0 + (if b then 1 else 0) * 2 ^ 0
    simp [idx]
  | cons x r ih =>
    show (if x then 1 else 0) + 2 * idx (r ++ [b]) = (if x then 1 else 0) + 2 * idx r + (if b then 1 else 0) * 2 ^ (r.length + 1)
    rw [ih, Nat.pow_succ]
    cases b <;> simp <;> omega
/-! ### None's places -/
def spotsF : List (Option Bool) → List Nat
  | [] => []
  | none :: r => 0 :: (spotsF r).map (· + 1)
  | some _ :: r => (spotsF r).map (· + 1)
theorem spotsF_snoc (xs : List (Option Bool)) (x : Option Bool) : spotsF (xs ++ [x]) = match x with
  | none => spotsF xs ++ [xs.length]
  | some _ => spotsF xs := by
  induction xs with
  | nil => cases x <;> rfl
  | cons y r ih =>
    cases x with
    | none =>
      have ih' : spotsF (r ++ [none]) = spotsF r ++ [r.length] := ih
      cases y with
      | none =>
        show 0 :: (spotsF (r ++ [none])).map (· + 1) = 0 :: (spotsF r).map (· + 1) ++ [r.length + 1]
        rw [ih', List.map_append]
        rfl
      | some c =>
        show (spotsF (r ++ [none])).map (· + 1) = (spotsF r).map (· + 1) ++ [r.length + 1]
        rw [ih', List.map_append]
        rfl
    | some d =>
      have ih' : spotsF (r ++ [some d]) = spotsF r := ih
      cases y with
      | none =>
        show 0 :: (spotsF (r ++ [some d])).map (· + 1) = 0 :: (spotsF r).map (· + 1)
        rw [ih']
      | some c =>
        show (spotsF (r ++ [some d])).map (· + 1) = (spotsF r).map (· + 1)
        rw [ih']
theorem spotsF_lt (rs : List (Option Bool)) : ∀ p ∈ spotsF rs, p < rs.length := by
  induction rs with
  | nil => intro p h; cases h
  | cons y r ih =>
    have key : ∀ p ∈ (spotsF r).map (· + 1), p < (y :: r).length := fun p h => by
      obtain ⟨q, hq, rfl⟩ := List.mem_map.mp h
      have := ih q hq
      rw [List.length_cons]
      omega
    intro p h
    cases y with
    | none =>
      rcases List.mem_cons.mp h with e | h
      · rw [e, List.length_cons]
        omega
      · exact key p h
    | some c => exact key p h
theorem spotsF_len (rs : List (Option Bool)) : (spotsF rs).length ≤ rs.length := by
  induction rs with
  | nil => exact Nat.le_refl _
  | cons y r ih =>
    cases y with
    | none =>
      show (0 :: (spotsF r).map (· + 1)).length ≤ r.length + 1
      rw [List.length_cons, List.length_map]
      omega
    | some c =>
      show ((spotsF r).map (· + 1)).length ≤ r.length + 1
      rw [List.length_map]
      omega
def setN (l : List (Option Bool)) (ps : List (Nat × Bool)) : List (Option Bool) := ps.foldl (fun l p => l.set p.1 (some p.2)) l
theorem setN_len (l : List (Option Bool)) (ps : List (Nat × Bool)) : (setN l ps).length = l.length := by
  induction ps generalizing l with
  | nil => rfl
  | cons p r ih =>
    show (setN (l.set p.1 (some p.2)) r).length = l.length
    rw [ih, List.length_set]
theorem setN_snoc (l : List (Option Bool)) (ps : List (Nat × Bool)) (p : Nat × Bool) : setN l (ps ++ [p]) = (setN l ps).set p.1 (some p.2) := by
  unfold setN
  rw [List.foldl_append]
  rfl
theorem setN_shift (x : Option Bool) (l : List (Option Bool)) (ps : List (Nat × Bool)) : setN (x :: l) (ps.map fun p => (p.1 + 1, p.2)) = x :: setN l ps := by
  induction ps generalizing l with
  | nil => rfl
  | cons p r ih =>
    show setN ((x :: l).set (p.1 + 1) (some p.2)) (r.map fun p => (p.1 + 1, p.2)) = x :: setN (l.set p.1 (some p.2)) r
    rw [List.set_cons_succ, ih]
theorem zip_shift (os : List Nat) (bs : List Bool) : (os.map (· + 1)).zip bs = (os.zip bs).map fun p => (p.1 + 1, p.2) := by
  rw [List.zip_map_left]
  rfl
theorem fill_ok : ∀ (rs : List (Option Bool)) (bs : List Bool), bs.length = (spotsF rs).length → ∃ full, setN rs ((spotsF rs).zip bs) = full.map some ∧ Comp rs full
  | [], bs, _ => ⟨[], by cases bs <;> rfl, .nil⟩
  | none :: r, bs, h => by
    cases bs with
    | nil => exact absurd h (by simp [spotsF])
    | cons b bs =>
      obtain ⟨full, e, c⟩ := fill_ok r bs (by simpa [spotsF] using h)
      refine ⟨b :: full, ?_, .free b c⟩
      show setN (some b :: r) (((spotsF r).map (· + 1)).zip bs) = some b :: full.map some
      rw [zip_shift, setN_shift, e]
  | some d :: r, bs, h => by
    obtain ⟨full, e, c⟩ := fill_ok r bs (by simpa [spotsF] using h)
    refine ⟨d :: full, ?_, .told d c⟩
    show setN (some d :: r) (((spotsF r).map (· + 1)).zip bs) = some d :: full.map some
    rw [zip_shift, setN_shift, e]
theorem fill_all {rs : List (Option Bool)} {full : List Bool} (c : Comp rs full) : ∃ bs : List Bool, bs.length = (spotsF rs).length ∧ setN rs ((spotsF rs).zip bs) = full.map some := by
  induction c with
  | nil => exact ⟨[], rfl, rfl⟩
  | @free r fs b c ih =>
    obtain ⟨bs, h, e⟩ := ih
    refine ⟨b :: bs, by simpa [spotsF] using h, ?_⟩
    show setN (some b :: r) (((spotsF r).map (· + 1)).zip bs) = some b :: fs.map some
    rw [zip_shift, setN_shift, e]
  | @told r fs d c ih =>
    obtain ⟨bs, h, e⟩ := ih
    refine ⟨bs, by simpa [spotsF] using h, ?_⟩
    show setN (some d :: r) (((spotsF r).map (· + 1)).zip bs) = some d :: fs.map some
    rw [zip_shift, setN_shift, e]
def fillV (rs : List (Option Bool)) (bs : List Bool) : List Bool := (setN rs ((spotsF rs).zip bs)).map fun x => x.getD false
theorem fillV_of {rs : List (Option Bool)} {bs full : List Bool} (e : setN rs ((spotsF rs).zip bs) = full.map some) : fillV rs bs = full := by
  unfold fillV
  rw [e, List.map_map]
  exact List.map_id _
theorem fillV_comp {rs : List (Option Bool)} {bs : List Bool} (h : bs.length = (spotsF rs).length) : Comp rs (fillV rs bs) ∧ (setN rs ((spotsF rs).zip bs)).map rdV = (fillV rs bs).map bitV := by
  obtain ⟨full, e, c⟩ := fill_ok rs bs h
  rw [fillV_of e, e]
  refine ⟨c, ?_⟩
  rw [List.map_map]
  rfl
/-- the bits of a gate over all bits of its open places: the gate's reading -/
theorem gate_all {tb : List Bool} {rs : List (Option Bool)} {bss : List (List Bool)} (h1 : ∀ bs ∈ bss, bs.length = (spotsF rs).length) (h2 : ∀ bs : List Bool, bs.length = (spotsF rs).length → bs ∈ bss) :
    one (bss.map fun bs => tb.getD (idx (fillV rs bs)) false) = gateR tb rs := by
  unfold gateR
  refine one_congr fun b => ?_
  rw [List.mem_map, List.mem_map]
  constructor
  · rintro ⟨bs, hb, e⟩
    exact ⟨idx (fillV rs bs), (plc_mem rs _).mpr ⟨_, (fillV_comp (h1 bs hb)).1, rfl⟩, e⟩
  · rintro ⟨p, hp, e⟩
    obtain ⟨full, c, rfl⟩ := (plc_mem rs p).mp hp
    obtain ⟨bs, hl, es⟩ := fill_all c
    refine ⟨bs, h2 bs hl, ?_⟩
    show tb.getD (idx (fillV rs bs)) false = b
    rw [fillV_of es]
    exact e

section
variable {P : Program} {w : World} {K : PySem.W.Frag} {mg : Str → Option Value} {base : Heap}
def spGateBit (K : PySem.W.Frag) : Sp := fun vs H Q _ => ∃ (a b : Addr) (tb bs : List Bool), vs = [.ref a, .ref b] ∧ SqT K H a (tb.map bitV) ∧ SqL K H b (bs.map bitV) ∧ bs.length ≤ 4 ∧ tb.length = 2 ^ bs.length ∧ ∀ H', Same H H' → Q (bitV (tb.getD (idx bs) false)) H'
theorem scGateBit : FnScope ["table", "bits", "spot", "bit"] ["table", "bits"] (defScope sGateBit) := ⟨rfl, rfl, rfl, by decide +kernel, rfl, by decide +kernel, by decide +kernel⟩
theorem ok_gateBit {f fP : Addr} {fd fdP : FuncData} (F : Fun K "_law_gate_bit" "_law_gate_bit" sGateBit f fd) (me : mg "enumerate" = none) (ms : mg "sum" = none)
    (GP : FnOk P w K mg base CX0 1 fP fdP ["number"] spPower) (kP : PySem.W.keepIn K (.ref fP) = true) (bP : Binds K fdP ["number"] []) (mP : mg "_law_power" = some (.ref fP)) : FnOk P w K mg base CX0 2 f fd ["table", "bits"] (spGateBit K) := by
  refine F.ok scGateBit (fun vs H Q E h => ?_) (fun cdv A outer s H vs Q E hr h => ?_)
  · obtain ⟨a, b, tb, bs, rfl, _⟩ := h
    rfl
  · obtain ⟨a, b, tb, bs, rfl, hT, hB, hl, htl, q⟩ := h
    refine ⟨_, pss_one (ps_ret (pe_ix (r := rIxT K) ix_tup (pv 0) (pe_callB (cr_sum rfl) (by rfl) ms (by decide +kernel) (pa_cons (pe_lc (own := [("spot", 2), ("bit", 3)]) (g := gTup K 2 (gCons (gName 2) (gCons (gName 3) gNil))) (tt := tYes) rfl scGateBit.nd (pi_enum (by rfl) me (pa_cons (pv 1) pa_nil)) (blkOk_by (N := ["table", "bits", "spot", "bit"]) (sc := defScope sGateBit) (by decide +kernel))
      (fun _ _ _ _ _ => pg_tup rfl (pgs_cons (pg_name (i := 2) scGateBit.nd rfl (Or.inl rfl)) (pgs_cons (pg_name (i := 3) scGateBit.nd rfl (Or.inl rfl)) pgs_nil))) (fun _ _ _ _ _ => pts_nil) (fun _ _ _ _ _ => pe_op op_mul (pv 3) (pe_call GP hr (by rfl) mP kP bP .nil pass0 (pa_cons (pv 2) pa_nil)))) pa_nil)) (fun _ _ => rfl))), ?_⟩
    refine ⟨_, rfl, _, rfl, b, bs.map bitV, rfl, hB, fun D nD => ?_⟩
    refine lc_it walk_enum (fun i H1 => Same H H1 ∧ ∃ ns : List Int, H1 D = some (.lst (ns.map V.int)) ∧ ns.length = i ∧ ns.sum = (idx (bs.take i) : Int)) ⟨same_new nD, [], upd_same, rfl, rfl⟩ (fun i H1 _ z => z.1.seq hB) (fun i x H1 H2 hi ⟨s1, ns, e1, l1, es⟩ hy => ?_) (fun H1 ⟨s1, ns, e1, l1, es⟩ => ?_)
    · obtain ⟨T, x1, y1, rfl, nT, rfl, hx, hy⟩ := hy
      cases hx
      have hy : (bs.map bitV)[i]? = some y1 := hy
      rw [List.getElem?_map] at hy
      obtain ⟨c, hc, rfl⟩ := Option.map_eq_some_iff.mp hy
      have hib : i < bs.length := (List.getElem?_eq_some_iff.mp hc).1
      have hlen : (bs.take i).length = i := by
        rw [List.length_take]
        omega
      have hb : bitZ c = (if c then 1 else 0 : Int) := by cases c <;> rfl
      refine ⟨T, _, rfl, .inl (.inl upd_same), rfl, _, _, rfl, _, _, rfl, rfl, rfl, _, rfl, _, rfl, i, rfl, by omega, _, _, rfl, rfl, .inl ⟨by cases c <;> decide, by cases c <;> decide⟩, ns.map V.int, ?_, ?_, fun b' o e => ?_, ns ++ [bitZ c * ((2 ^ i : Nat) : Int)], ?_, ?_, ?_⟩
      · rw [upd_ne (fun z => by rw [z, nT] at e1; cases e1)]
        exact e1
      · rw [List.length_map, l1]
        exact small1000 (by omega)
      · rw [upd_ne (ne_of_none e nD)]
        exact same_new nT _ _ (s1 _ _ e)
      · rw [upd_same, List.map_append]
        rfl
      · rw [List.length_append, l1]
        rfl
      · rw [List.sum_append, es, take_snoc hc, idx_snoc, hlen]
        show (idx (bs.take i) : Int) + (bitZ c * ((2 ^ i : Nat) : Int) + 0) = _
        cases c
        · show (idx (bs.take i) : Int) + (0 * ((2 ^ i : Nat) : Int) + 0) = ((idx (bs.take i) + 0 * 2 ^ i : Nat) : Int)
          rw [Int.zero_mul, Nat.zero_mul]
          simp
        · show (idx (bs.take i) : Int) + (1 * ((2 ^ i : Nat) : Int) + 0) = ((idx (bs.take i) + 1 * 2 ^ i : Nat) : Int)
          rw [Int.one_mul, Nat.one_mul, Int.natCast_add, Int.add_zero]
    · rw [List.length_map, List.take_length] at es
      have hlt : idx bs < tb.length := by
        rw [htl]
        exact idx_lt bs
      refine ⟨D, ns, rfl, .inl (.inl e1), a, _, _, bitV (tb.getD (idx bs) false), rfl, rfl, extN_seqT (extN_same s1) hT, ?_, q H1 s1⟩
      rw [es]
      refine atI_nat ?_
      rw [List.getElem?_map, List.getElem?_eq_getElem hlt]
      simp [List.getD_eq_getElem?_getD, List.getElem?_eq_getElem hlt]
end
end K02

set_option Elab.async false
set_option linter.all false
set_option maxRecDepth 100000
set_option maxHeartbeats 1000000
/-! A gate's reading, as the law finds it. -/
namespace K02
open PySem PySem.Spec L2
open PyProof.Rows GenW GxR EZ
open LamX (ExtN)
abbrev sLawReading : Stmt := top 54 -- _law_gate_reading
abbrev nLR : List Str := ["table", "readings", "open_spots", "told", "bits", "filled", "spot", "bit", "reading"]
theorem scLR : FnScope nLR ["table", "readings"] (defScope sLawReading) := ⟨rfl, rfl, rfl, by decide +kernel, rfl, by decide +kernel, by decide +kernel⟩
theorem bitV_inj {a b : List Bool} (h : a.map bitV = b.map bitV) : a = b := by
  induction a generalizing b with
  | nil =>
    cases b with
    | nil => rfl
    | cons y r => cases h
  | cons x r ih =>
    cases b with
    | nil => cases h
    | cons y q =>
      injection h with h1 h2
      rw [ih h2, bitZ_inj (V.int.inj h1)]
theorem bss_of {H : Hp} {n : Nat} : ∀ {ys : List V}, (∀ y ∈ ys, ∃ bs, IsB H y bs ∧ bs.length = n) → ∃ bss : List (List Bool), bss.length = ys.length ∧ ∀ (i : Nat) (y : V), ys[i]? = some y → ∃ bs, bss[i]? = some bs ∧ IsB H y bs ∧ bs.length = n
  | [], _ => ⟨[], rfl, fun i y h => by simp at h⟩
  | y :: r, h => by
    obtain ⟨bss, hl, hb⟩ := bss_of (ys := r) fun z hz => h z (List.mem_cons_of_mem _ hz)
    obtain ⟨bs, g, l⟩ := h y List.mem_cons_self
    refine ⟨bs :: bss, by rw [List.length_cons, List.length_cons, hl], fun i z hz => ?_⟩
    cases i with
    | zero =>
      cases hz
      exact ⟨bs, rfl, g, l⟩
    | succ i => exact hb i z hz
theorem IsB.inj {H : Hp} {y : V} {a b : List Bool} (h : IsB H y a) (g : IsB H y b) : a = b := by
  obtain ⟨t, rfl, e⟩ := h
  obtain ⟨t', e', e2⟩ := g
  cases e'
  rw [e] at e2
  injection e2 with e2
  injection e2 with e2
  exact bitV_inj e2
theorem walk_enumT {K : PySem.W.Frag} {a : Addr} {xs : List V} : Walk (IteT K a xs) xs.length (fun H => SqT K H a xs) (YPair (fun i => some (.int (i : Nat))) (fun i => xs[i]?)) :=
  ⟨fun _ _ hi q => ⟨q, hi⟩, fun _ q => ⟨q, rfl⟩, fun i H v H' _ _ ⟨T, x, h1, h2, h3, h4⟩ => ⟨T, _, x, h1, h2, h3, rfl, h4⟩⟩
theorem walk_zipLT {K : PySem.W.Frag} {a b : Addr} {xs ys : List V} : Walk (ItzLT K a b xs ys) xs.length (fun H => SqL K H a xs ∧ SqT K H b ys) (YPair (fun i => xs[i]?) (fun i => ys[i]?)) :=
  ⟨fun _ _ hi q => ⟨q.1, q.2, hi⟩, fun _ q => ⟨q.1, q.2, rfl⟩, fun i H v H' _ _ ⟨T, x, y, h1, h2, h3, h4, h5⟩ => ⟨T, x, y, h1, h2, h3, h4, h5⟩⟩
theorem rdV_non {r : Option Bool} : decide (rdV r = .non) = r.isNone := by
  cases r with
  | none => rfl
  | some c => rfl
section
variable {P : Program} {w : World} {K : PySem.W.Frag} {mg : Str → Option Value} {base : Heap}
def spLR (K : PySem.W.Frag) : Sp := fun vs H Q _ => ∃ (a b : Addr) (tb : List Bool) (rs : List (Option Bool)), vs = [.ref a, .ref b] ∧ SqT K H a (tb.map bitV) ∧ SqT K H b (rs.map rdV) ∧ rs.length ≤ 4 ∧ tb.length = 2 ^ rs.length ∧ ∀ H', Same H H' → Q (rdV (gateR tb rs)) H'
theorem ok_LR {f fA fG : Addr} {fd fdA fdG : FuncData} (F : Fun K "_law_gate_reading" "_law_gate_reading" sLawReading f fd) (me : mg "enumerate" = none) (ml : mg "len" = none) (mli : mg "list" = none) (mz : mg "zip" = none) (mmin : mg "min" = none) (mmax : mg "max" = none)
    (GA : FnOk P w K mg base CX0 3 fA fdA ["size"] spAllBits) (kA : PySem.W.keepIn K (.ref fA) = true) (bA : Binds K fdA ["size"] []) (mA : mg "_law_all_bits" = some (.ref fA))
    (GG : FnOk P w K mg base CX0 2 fG fdG ["table", "bits"] (spGateBit K)) (kG : PySem.W.keepIn K (.ref fG) = true) (bG : Binds K fdG ["table", "bits"] []) (mG : mg "_law_gate_bit" = some (.ref fG)) :
    FnOk P w K mg base CX0 4 f fd ["table", "readings"] (spLR K) := by
  refine F.ok scLR (fun vs H Q E h => ?_) (fun cdv A outer s H vs Q E hr h => ?_)
  · obtain ⟨a, b, tb, rs, rfl, _⟩ := h
    rfl
  · obtain ⟨a, b, tb, rs, rfl, hT, hR, hl, htl, q⟩ := h
    refine ⟨_, pss_cons (ps_par (i := 2) (j := 3) rfl scLR.nd rfl rfl (by decide) rfl rfl (pa_cons (pe_lc (own := [("spot", 6), ("reading", 8)]) (g := gTup K 2 (gCons (gName 6) (gCons (gName 8) gNil))) rfl scLR.nd (pi_enumT (by rfl) me (pa_cons (pv 1) pa_nil)) (blkOk_by (N := nLR) (sc := defScope sLawReading) (by decide +kernel))
        (fun _ _ _ _ _ => pg_tup rfl (pgs_cons (pg_name (i := 6) scLR.nd rfl (Or.inl rfl)) (pgs_cons (pg_name (i := 8) scLR.nd rfl (Or.inl rfl)) pgs_nil))) (fun _ _ _ _ _ => pts_one (pt_cmpR op_isN (pv 8) pe_non (nomark _))) (fun _ _ _ _ _ => pv 6)) (pa_cons (pe_lst pa_nil) pa_nil)) (by rfl))
      (pss_cons (ps_for PassesOwn.never rfl (pi_list (pe_call GA hr (by rfl) mA kA bA .nil pass0 (pa_cons (pe_callB call_len_seq (by rfl) ml PySem.boot_len (pa_cons (pv 2) pa_nil)) pa_nil))) (pg_name (i := 4) scLR.nd rfl (Or.inl rfl))
        (pss_cons (ps_set (i := 5) scLR.nd rfl (Or.inl rfl) (pe_callTy call_list_of (by rfl) mli (by decide +kernel) (pa_cons (pv 1) pa_nil)))
        (pss_cons (ps_for PassesOwn.never rfl (pi_zipLT (by rfl) mz (pa_cons (pv 2) (pa_cons (pv 4) pa_nil))) (pg_tup rfl (pgs_cons (pg_name (i := 6) scLR.nd rfl (Or.inl rfl)) (pgs_cons (pg_name (i := 7) scLR.nd rfl (Or.inl rfl)) pgs_nil)))
          (pss_one (ps_asg (pv 7) (pg_sub (pv 5) (pv 6) set_list))))
        (pss_one (ps_expr (pe_bm PySem.F.plainAttrs_list PySem.F.slot_list_append PySem.F.type_list_append mt_append (pv 3) (pa_cons (pe_call GG (hr.mono (by decide)) (by rfl) mG kG bG .nil pass0 (pa_cons (pv 0) (pa_cons (pv 5) pa_nil))) pa_nil)))))))
      (pss_one (ps_ret (pe_ifExp (pt_cmpR op_eq (pe_callB (cr_min rfl) (by rfl) mmin (by decide +kernel) (pa_cons (pv 3) pa_nil)) (pe_callB (cr_max rfl) (by rfl) mmax (by decide +kernel) (pa_cons (pv 3) pa_nil)) (nomark _)) (pe_ix ix_list (pv 3) pe_int (fun _ _ => rfl)) pe_non)))), ?_⟩
    -- open_spots, told = [..], []
    refine ⟨_, rfl, b, rs.map rdV, rfl, hR, fun D nD => ?_⟩
    refine lc_it walk_enumT (fun i H1 => Same H H1 ∧ H1 D = some (.lst (natV (spotsF (rs.take i))))) ⟨same_new nD, upd_same⟩ (fun i H1 _ z => extN_seqT (extN_same z.1) hR) (fun i x H1 H2 hi ⟨s1, e1⟩ hy => ?_) (fun H1 ⟨s1, e1⟩ => ?_)
    · obtain ⟨T, x1, y1, rfl, nT, rfl, hx, hy⟩ := hy
      cases hx
      have hy : (rs.map rdV)[i]? = some y1 := hy
      rw [List.getElem?_map] at hy
      obtain ⟨r, hr1, rfl⟩ := Option.map_eq_some_iff.mp hy
      have hir : i < rs.length := (List.getElem?_eq_some_iff.mp hr1).1
      have hlen : (rs.take i).length = i := by
        rw [List.length_take]
        omega
      have s2 := same_new (o := .tup [.int (i : Nat), rdV r]) nT
      have nDT : D ≠ T := fun z => by
        rw [z, nT] at e1
        cases e1
      have hsn := spotsF_snoc (rs.take i) r
      refine ⟨T, _, rfl, .inl (.inl upd_same), rfl, _, _, rfl, _, _, rfl, rfl, rfl, _, rfl, rfl, ?_⟩
      refine ⟨_, rfl, ?_⟩
      rw [rdV_non]
      cases r with
      | none =>
        have hsn : spotsF (rs.take i ++ [none]) = spotsF (rs.take i) ++ [(rs.take i).length] := hsn
        refine iteT ⟨_, rfl, natV (spotsF (rs.take i)), ?_, ?_, fun b' o e => ?_, ?_⟩
        · rw [upd_ne nDT]
          exact e1
        · rw [natV_len]
          have := spotsF_len (rs.take i)
          exact small1000 (by omega)
        · rw [upd_ne (ne_of_none e nD)]
          exact s2 _ _ (s1 _ _ e)
        · rw [upd_same, take_snoc hr1, hsn, hlen, natV_app]
          rfl
      | some c =>
        have hsn : spotsF (rs.take i ++ [some c]) = spotsF (rs.take i) := hsn
        refine iteF ⟨fun b' o e => s2 _ _ (s1 _ _ e), ?_⟩
        rw [take_snoc hr1, hsn, upd_ne nDT]
        exact e1
    · have e1' : H1 D = some (.lst (natV (spotsF rs))) := by
        rw [List.length_map, List.take_length] at e1
        exact e1
      clear e1
      have hsl : (spotsF rs).length ≤ 4 := Nat.le_trans (spotsF_len rs) hl
      refine ⟨Nat.zero_le _, fun L nL => ⟨_, _, rfl, ?_⟩⟩
      have s2 : Same H (upd H1 L (.lst [])) := s1.trans (same_new nL)
      have hLD : L ≠ D := fun z => by
        rw [z, e1'] at nL
        cases nL
      have e2 : upd H1 L (.lst []) D = some (.lst (natV (spotsF rs))) := by
        rw [upd_ne hLD.symm]
        exact e1'
      refine ⟨_, rfl, D, _, rfl, .inl (.inl (.inl e2)), (spotsF rs).length, by rw [natV_len]; rfl, hsl, fun l ys H3 s3 nl e3 A3 => ?_⟩
      obtain ⟨bss, lb, hbss⟩ := bss_of A3.all
      have e3L : H3 L = some (.lst []) := s3 _ _ upd_same
      have hD3 : SqL K H3 D (natV (spotsF rs)) := .inl (.inl (s3 _ _ e2))
      have s03 : Same H H3 := s2.trans s3
      have nlL : l ≠ L := fun z => by
        rw [z, upd_same] at nl
        cases nl
      have bl : bss.length ≤ 16 := by
        rw [lb, A3.len]
        exact pow16 hsl
      generalize hf : (fun bs : List Bool => tb.getD (idx (fillV rs bs)) false) = bitOf
      -- what stands but told
      have offL : ∀ c o, H c = some o → c ≠ L := fun c o e => ne_of_none (s1 _ _ e) nL
      refine ⟨l, rfl, ⟨ys, .inl (.inl e3)⟩, for_list (fun i σ Hx => ∃ y4 y5 y6 y7 : Option V, σ = [some (.ref a), some (.ref b), some (.ref D), some (.ref L), y4, y5, y6, y7, none] ∧ (∀ c o, c ≠ L → H3 c = some o → Hx c = some o) ∧ Hx L = some (.lst (((bss.take i).map bitOf).map bitV)))
        ⟨none, none, none, none, rfl, fun _ _ _ e => e, e3L⟩ (fun i σ Hx _ ⟨_, _, _, _, _, k, _⟩ => .inl (.inl (k _ _ nlL e3))) (fun i x σ Hx hx ⟨y4, y5, y6, y7, eσ, kx, eL⟩ => ?_) (fun σ Hx ⟨y4, y5, y6, y7, eσ, kx, eL⟩ => ?_)⟩
      · subst eσ
        obtain ⟨bs, hbi, ⟨t, rfl, et⟩, lbs⟩ := hbss i x hx
        have tL : t ≠ L := fun z => by
          rw [z, e3L] at et
          cases et
        refine ⟨_, rfl, b, rs.map rdV, rfl, .inr ?_, fun F nF => ?_⟩
        · exact extN_seqT (fun c o e _ => kx c o (offL c o e) (s03 _ _ e)) hR
        have k4 : ∀ c o, c ≠ L → H3 c = some o → upd Hx F (.lst (rs.map rdV)) c = some o := fun c o n e => by
          have z := kx c o n e
          rw [upd_ne (ne_of_none z nF)]
          exact z
        have FL : F ≠ L := fun z => by
          rw [z, eL] at nF
          cases nF
        have DL : D ≠ L := hLD.symm
        have FD : F ≠ D := fun z => by
          have w := kx D _ DL (s3 _ _ e2)
          rw [← z, nF] at w
          cases w
        have Ft : F ≠ t := fun z => by
          have w := kx t _ tL et
          rw [← z, nF] at w
          cases w
        refine ⟨_, rfl, _, rfl, D, t, natV (spotsF rs), bs.map bitV, rfl, .inl (.inl (k4 _ _ DL (s3 _ _ e2))), .inl (.inl (k4 _ _ tL et)), by rw [natV_len, List.length_map, lbs], ?_⟩
        refine for_it walk_zipLT (fun j σ Hy => ∃ y6 y7 : Option V, σ = [some (.ref a), some (.ref b), some (.ref D), some (.ref L), some (.ref t), some (.ref F), y6, y7, none] ∧ (∀ c o, c ≠ F → upd Hx F (.lst (rs.map rdV)) c = some o → Hy c = some o) ∧ Hy F = some (.lst ((setN rs (((spotsF rs).zip bs).take j)).map rdV)))
          ⟨y6, y7, rfl, fun _ _ _ e => e, upd_same⟩ (fun j σ Hy _ ⟨_, _, _, ky, _⟩ => ⟨.inl (.inl (ky _ _ FD.symm (k4 _ _ DL (s3 _ _ e2)))), .inl (.inl (ky _ _ Ft.symm (k4 _ _ tL et)))⟩) (fun j x σ Hy Hz hj ⟨y6', y7', eσ, ky, eF⟩ hy => ?_) (fun σ Hy ⟨y6', y7', eσ, ky, eF⟩ => ?_)
        · subst eσ
          obtain ⟨T, x1, y1, rfl, nT, rfl, hx1, hy1⟩ := hy
          obtain ⟨p, hp, rfl⟩ := natV_get hx1
          have hy1 : (bs.map bitV)[j]? = some y1 := hy1
          rw [List.getElem?_map] at hy1
          obtain ⟨c, hc, rfl⟩ := Option.map_eq_some_iff.mp hy1
          have hz : ((spotsF rs).zip bs)[j]? = some (p, c) := List.getElem?_zip_eq_some.mpr ⟨hp, hc⟩
          have hpl : p < rs.length := spotsF_lt rs p (List.mem_of_getElem? hp)
          have FT : F ≠ T := fun z => by
            rw [z, nT] at eF
            cases eF
          refine ⟨T, _, rfl, .inl (.inl upd_same), rfl, _, _, rfl, _, _, rfl, rfl, ?_⟩
          refine ⟨_, rfl, _, rfl, _, rfl, F, (setN rs (((spotsF rs).zip bs).take j)).map rdV, (p : Int), p, rfl, rfl, ?_, ?_, some (.int (p : Int)), some (bitV c), rfl, fun d o n e => ?_, ?_⟩
          · rw [upd_ne FT]
            exact eF
          · have hpn : p < ((setN rs (((spotsF rs).zip bs).take j)).map rdV).length := by
              rw [List.length_map, setN_len]
              exact hpl
            unfold ixN
            rw [if_pos (Int.natCast_nonneg _), if_pos (Int.ofNat_lt.mpr hpn), Int.toNat_natCast]
          · have z := ky d o n e
            rw [upd_ne n, upd_ne (ne_of_none z nT)]
            exact z
          · rw [upd_same, take_snoc hz, setN_snoc, List.map_set]
            rfl
        · subst eσ
          have hzl : ((spotsF rs).zip bs).length = (natV (spotsF rs)).length := by
            rw [List.length_zip, natV_len, lbs, Nat.min_self]
          rw [← hzl, List.take_length, (fillV_comp lbs).2] at eF
          have kz : ∀ c o, c ≠ L → H3 c = some o → Hy c = some o := fun c o n e => ky c o (fun z => by
            have w := kx c o n e
            rw [z, nF] at w
            cases w) (k4 c o n e)
          have hlen : (fillV rs bs).length = rs.length := (fillV_comp lbs).1.length
          refine ⟨_, rfl, ?_, _, rfl, _, rfl, a, F, tb, fillV rs bs, rfl, ?_, .inl (.inl eF), by rw [hlen]; exact hl, by rw [hlen]; exact htl, fun H' s' => ⟨L, ((bss.take i).map bitOf).map bitV, _, rfl, rfl, ?_, ?_, ?_⟩⟩
          · refine .inl ⟨rfl, ((bss.take i).map bitOf).map bitV, .inl (.inl (ky L _ FL.symm ?_))⟩
            rw [upd_ne FL.symm]
            exact eL
          · exact extN_seqT (fun c o e _ => kz c o (offL c o e) (s03 _ _ e)) hT
          · refine s' _ _ (ky L _ FL.symm ?_)
            rw [upd_ne FL.symm]
            exact eL
          · rw [List.length_map, List.length_map, List.length_take]
            exact small1000 (by omega)
          · refine ⟨some (.ref t), some (.ref F), y6', y7', rfl, fun c o n e => ?_, ?_⟩
            · rw [upd_ne n]
              exact s' _ _ (kz c o n e)
            · rw [upd_same, take_snoc hbi, List.map_append, List.map_append, ← hf]
              rfl
      · subst eσ
        have e : Hx L = some (.lst ((bss.map bitOf).map bitV)) := by
          have hyl : ys.length = bss.length := lb.symm
          rw [hyl, List.take_length] at eL
          exact eL
        have hone : one (bss.map bitOf) = gateR tb rs := by
          rw [← hf]
          refine gate_all (fun bs hb => ?_) (fun bs hl => ?_)
          · obtain ⟨i, hi⟩ := List.getElem?_of_mem hb
            have hiy : i < ys.length := by
              rw [← lb]
              exact (List.getElem?_eq_some_iff.mp hi).1
            obtain ⟨bs', h1, _, h3⟩ := hbss i _ (List.getElem?_eq_getElem hiy)
            rw [hi] at h1
            cases h1
            exact h3
          · obtain ⟨y, hy, g⟩ := A3.each bs hl
            obtain ⟨i, hi⟩ := List.getElem?_of_mem hy
            obtain ⟨bs', h1, g', _⟩ := hbss i y hi
            rw [g.inj g']
            exact List.mem_of_getElem? h1
        generalize hLL : bss.map bitOf = LL at e hone
        have hD : SqL K Hx L ((LL.map bitZ).map V.int) := by
          refine .inl (.inl ?_)
          rw [e, List.map_map]
          rfl
        have hpos : 0 < (LL.map bitZ).length := by
          rw [List.length_map, ← hLL, List.length_map, lb, A3.len]
          exact Nat.two_pow_pos _
        have sx : Same H Hx := fun c o e => kx c o (offL c o e) (s03 _ _ e)
        refine ⟨_, rfl, L, _, rfl, hD, hpos, fun lo l1 l2 => ⟨_, rfl, L, _, rfl, hD, hpos, fun hi h1 h2 => ⟨rfl, _, rfl, ite2 (fun hc => ?_) (fun hc => ?_)⟩⟩⟩
        · obtain ⟨b', r, el, eo⟩ := (minmax_one l1 l2 h1 h2).1 (V.int.inj (of_decide_eq_true hc))
          have z := q Hx sx
          rw [← hone, eo] at z
          refine ⟨_, rfl, L, _, 0, bitV b', rfl, rfl, hD, ?_, z⟩
          rw [el]
          exact atI_nat (j := 0) rfl
        · have eo := (minmax_one l1 l2 h1 h2).2 fun z => hc (decide_eq_true (congrArg V.int z))
          have z := q Hx sx
          rw [← hone, eo] at z
          exact z
end
end K02

set_option Elab.async false
set_option linter.all false
set_option maxRecDepth 100000
set_option maxHeartbeats 1000000
/-! The law's tables and readings. -/
namespace K02
open PySem PySem.Spec L2
open PyProof.Rows GenW GxR EZ
open LamX (ExtN)
abbrev sLTable : Stmt := top 59 -- _law_table
theorem StOk.up {H : Hp} {st lg cl : Addr} {t t' : Nat} (S : StOk H st lg cl t) (h : t ≤ t') : StOk H st lg cl t' := by
  obtain ⟨ls, cs, left, turn, S⟩ := S
  exact ⟨ls, cs, left, turn, S.d, S.l, S.c, S.lp, S.l0, S.t0, by have := S.tt; omega, S.ll, S.cc, S.ne⟩
theorem But.st_new {st lg cl p : Addr} {H : Hp} {o : HO} {t : Nat} (S : StOk H st lg cl t) (np : H p = none) : p ≠ st ∧ p ≠ lg := by
  obtain ⟨ls, cs, left, turn, S⟩ := S
  exact ⟨ne_of_none S.d np |>.symm, ne_of_none S.l np |>.symm⟩
theorem But.free {st lg cl p : Addr} {H H' : Hp} {t : Nat} (B : But st lg H H') (S : StOk H' st lg cl t) (np : H' p = none) : H p = none := by
  have n := But.st_new (o := .tup []) S np
  cases e : H p with
  | none => rfl
  | some o =>
    have z := B p o e n.1 n.2
    rw [np] at z
    cases z
theorem StOk.upd {st lg cl p : Addr} {H : Hp} {o : HO} {t : Nat} (S : StOk H st lg cl t) (n1 : p ≠ st) (n2 : p ≠ lg) (n3 : p ≠ cl) : StOk (upd H p o) st lg cl t := by
  obtain ⟨ls, cs, left, turn, S⟩ := S
  exact ⟨ls, cs, left, turn, by rw [upd_ne n1.symm]; exact S.d, by rw [upd_ne n2.symm]; exact S.l, by rw [upd_ne n3.symm]; exact S.c, S.lp, S.l0, S.t0, S.tt, S.ll, S.cc, S.ne⟩
theorem StOk.cl_ne {st lg cl p : Addr} {H : Hp} {t : Nat} (S : StOk H st lg cl t) (np : H p = none) : p ≠ cl := by
  obtain ⟨ls, cs, left, turn, S⟩ := S
  exact (ne_of_none S.c np).symm
theorem bits01 {k : Int} (h0 : 0 ≤ k) (h1 : k < 2) : ∃ b, V.int k = bitV b := by
  by_cases h : k = 1
  · exact ⟨true, by rw [h]; rfl⟩
  · exact ⟨false, by rw [show k = 0 by omega]; rfl⟩
section
variable {P : Program} {w : World} {K : PySem.W.Frag} {mg : Str → Option Value} {base : Heap}
def spLTable : Sp := fun vs H Q _ => ∃ (st lg cl : Addr) (t n : Nat), vs = [.ref st, .int (n : Int)] ∧ n ≤ 4 ∧ t + 100 < 1000000000 ∧ StOk H st lg cl t ∧
  ∀ (tb : List Bool) (p : Addr) (H' : Hp), tb.length = 2 ^ n → H' p = some (.tup (tb.map bitV)) → H p = none → StOk H' st lg cl (t + 17) → But st lg H H' → Q (.ref p) H'
theorem scLTable : FnScope ["state", "size", "way", "count", "spot"] ["state", "size"] (defScope sLTable) := ⟨rfl, rfl, rfl, by decide +kernel, rfl, by decide +kernel, by decide +kernel⟩
theorem rep_one {α : Type} (x : α) (n : Nat) : (List.replicate n [x]).flatten = List.replicate n x := by
  induction n with
  | zero => rfl
  | succ n ih =>
    rw [List.replicate_succ, List.flatten_cons, ih, List.replicate_succ]
    rfl
theorem ok_ltable {f fD fP : Addr} {fd fdD fdP : FuncData} (F : Fun K "_law_table" "_law_table" sLTable f fd) (mt : mg "tuple" = none) (mr : mg "range" = none)
    (GD : FnOk P w K mg base CX0 1 fD fdD ["state", "size_here"] spDraw) (kD : PySem.W.keepIn K (.ref fD) = true) (bD : Binds K fdD ["state", "size_here"] []) (mD : mg "_law_draw" = some (.ref fD))
    (GP : FnOk P w K mg base CX0 1 fP fdP ["number"] spPower) (kP : PySem.W.keepIn K (.ref fP) = true) (bP : Binds K fdP ["number"] []) (mP : mg "_law_power" = some (.ref fP)) :
    FnOk P w K mg base CX0 2 f fd ["state", "size"] spLTable := by
  refine F.ok scLTable (fun vs H Q E h => ?_) (fun cdv A outer s H vs Q E hr h => ?_)
  · obtain ⟨st, lg, cl, t, n, rfl, _⟩ := h
    rfl
  · obtain ⟨st, lg, cl, t, n, rfl, hn, ht, S, q⟩ := h
    have h16 := pow16 hn
    have hp0 : 0 < 2 ^ n := Nat.two_pow_pos n
    refine ⟨_, pss_cons (ps_par (i := 2) (j := 3) rfl scLTable.nd rfl rfl (by decide) rfl rfl (pa_cons (pe_call GD hr (by rfl) mD kD bD .nil pass0 (pa_cons (pv 0) (pa_cons pe_int pa_nil))) (pa_cons (pe_call GP hr (by rfl) mP kP bP .nil pass0 (pa_cons (pv 1) pa_nil)) pa_nil)) (by rfl))
      (pss_cons (ps_if (pt_cmpR op_eq (pv 2) pe_int (nomark _)) (pss_one (ps_ret (pe_callTy call_tuple_of (by rfl) mt (by decide +kernel) (pa_cons (pe_op op_cat (pe_lst (pa_cons pe_int pa_nil)) (pe_op op_rep (pe_lst (pa_cons pe_int pa_nil)) (pe_op op_sub (pv 3) pe_int))) pa_nil)))) pss_nil)
      (pss_cons (ps_if (pt_cmpR op_eq (pv 2) pe_int (nomark _)) (pss_one (ps_ret (pe_callTy call_tuple_of (by rfl) mt (by decide +kernel) (pa_cons (pe_op op_cat (pe_op op_rep (pe_lst (pa_cons pe_int pa_nil)) (pe_op op_sub (pv 3) pe_int)) (pe_lst (pa_cons pe_int pa_nil))) pa_nil)))) pss_nil)
      (pss_cons (ps_if (pw_and (pt_cmpR op_eq (pv 2) pe_int (nomark _)) (pw_and1 (pt_cmpR op_eq (pv 1) pe_int (nomark _)))).pt (pss_one (ps_ret (pe_tup (pa_cons pe_int (pa_cons pe_int pa_nil))))) pss_nil)
      (pss_one (ps_ret (pe_callTy call_tuple_of (by rfl) mt (by decide +kernel) (pa_cons (pe_lc (own := [("spot", 4)]) (g := gName 4) (tt := tYes) rfl scLTable.nd (pi_range1 (by rfl) mr (pa_cons (pv 3) pa_nil)) (blkOk_by (N := ["state", "size", "way", "count", "spot"]) (sc := defScope sLTable) (by decide +kernel))
        (fun _ _ _ _ _ => pg_name (i := 4) scLTable.nd rfl (Or.inl rfl)) (fun _ _ _ _ _ => pts_nil) (fun _ _ _ _ _ => pe_call GD hr (by rfl) mD kD bD .nil pass0 (pa_cons (pv 0) (pa_cons pe_int pa_nil)))) pa_nil))))))), ?_⟩
    refine ⟨_, rfl, st, lg, cl, t, 5, rfl, by decide, by decide, by omega, S, fun k H1 k0 k1 S1 B1 => ?_⟩
    refine ⟨_, rfl, n, rfl, by omega, ⟨_, _, rfl, ?_⟩⟩
    have fin : ∀ (tb : List Bool) (ys : List V) (H2 : Hp), Same H1 H2 → ys = tb.map bitV → tb.length = 2 ^ n → ∀ l, H2 l = none → Q (.ref l) (L2.upd H2 l (.tup ys)) := fun tb ys H2 s2 e hl l nl => by
      refine q tb l _ hl ?_ (B1.free S1 (s2.free nl)) ((S1.keep (s2.trans (same_new nl))).up (by omega)) (B1.trans (But.of (s2.trans (same_new nl))))
      rw [upd_same, e]
    have hm : (((2 ^ n : Nat) : Int) - 1).toNat = 2 ^ n - 1 := by omega
    have b1 : (-(2 ^ 63) : Int) ≤ ((2 ^ n : Nat) : Int) - 1 := by
      have := Int.natCast_nonneg (2 ^ n)
      omega
    have b2 : ((2 ^ n : Nat) : Int) - 1 < 2 ^ 63 := by
      have : ((2 ^ n : Nat) : Int) ≤ 16 := Int.ofNat_le.mpr h16
      omega
    refine ⟨_, rfl, rfl, _, rfl, ite2 (fun e => ?_) (fun e => ?_)⟩
    · refine ⟨(by show 1 ≤ sizeLine; decide), fun p1 np1 => ⟨(by show 1 ≤ sizeLine; decide), fun p2 np2 => ⟨_, rfl, _, _, rfl, rfl, p2, _, [.int 1], rfl, rfl, upd_same, b1, b2, ?_, fun p3 np3 => ?_⟩⟩⟩
      · rw [hm]
        exact Nat.le_of_lt (small1000 (by show 1 * (2 ^ n - 1) ≤ 1000; omega))
      · have s3 := ((same_new (o := .lst [.int 0]) np1).trans (same_new (o := .lst [.int 1]) np2)).trans (same_new (o := .lst (List.replicate (((2 ^ n : Nat) : Int) - 1).toNat [V.int 1]).flatten) np3)
        refine ⟨p1, p3, [.int 0], _, rfl, rfl, same_new np3 _ _ (same_new np2 _ _ upd_same), upd_same, ?_, fun p4 np4 => ⟨p4, _, rfl, .inl ⟨.inl (.inl upd_same), fin (false :: List.replicate (2 ^ n - 1) true) _ _ (s3.trans (same_new np4)) ?_ ?_⟩⟩⟩
        · rw [rep_one, List.length_replicate, hm]
          exact Nat.le_of_lt (small1000 (by show 1 + (2 ^ n - 1) ≤ 1000; omega))
        · rw [rep_one, hm, List.map_cons, List.map_replicate]
          rfl
        · rw [List.length_cons, List.length_replicate]
          omega
    · refine ⟨_, rfl, rfl, _, rfl, ite2 (fun e => ?_) (fun e => ?_)⟩
      · refine ⟨(by show 1 ≤ sizeLine; decide), fun p2 np2 => ⟨_, rfl, _, _, rfl, rfl, p2, _, [.int 0], rfl, rfl, upd_same, b1, b2, ?_, fun p3 np3 => ⟨(by show 1 ≤ sizeLine; decide), fun p1 np1 => ?_⟩⟩⟩
        · rw [hm]
          exact Nat.le_of_lt (small1000 (by show 1 * (2 ^ n - 1) ≤ 1000; omega))
        · have s3 := ((same_new (o := .lst [.int 0]) np2).trans (same_new (o := .lst (List.replicate (((2 ^ n : Nat) : Int) - 1).toNat [V.int 0]).flatten) np3)).trans (same_new (o := .lst [.int 1]) np1)
          refine ⟨p3, p1, _, [.int 1], rfl, rfl, same_new np1 _ _ upd_same, upd_same, ?_, fun p4 np4 => ⟨p4, _, rfl, .inl ⟨.inl (.inl upd_same), fin (List.replicate (2 ^ n - 1) false ++ [true]) _ _ (s3.trans (same_new np4)) ?_ ?_⟩⟩⟩
          · rw [rep_one, List.length_replicate, hm]
            exact Nat.le_of_lt (small1000 (by show (2 ^ n - 1) + 1 ≤ 1000; omega))
          · rw [rep_one, hm, List.map_append, List.map_replicate]
            rfl
          · rw [List.length_append, List.length_replicate]
            show 2 ^ n - 1 + 1 = 2 ^ n
            omega
      · refine ⟨_, rfl, rfl, ?_⟩
        have last : ∀ D, H1 D = none → ∀ Qd : Hp → Prop, (∀ (H2 : Hp) (bs : List Bool), bs.length = 2 ^ n → H2 D = some (.lst (bs.map bitV)) → StOk H2 st lg cl (t + 17) → But st lg H1 H2 → Qd H2) →
            ∃ Pv : Nat → Hp → Prop, Pv 0 (L2.upd H1 D (.lst [])) ∧ (∀ (i : Nat) (H2 : Hp), i < 2 ^ n → Pv i H2 → spDraw [.ref st, .int 2] H2 (fun y H4 => ∃ acc, H4 D = some (.lst acc) ∧ acc.length < sizeLine ∧ Pv (i + 1) (L2.upd H4 D (.lst (acc ++ [y])))) E) ∧ ∀ H2, Pv (2 ^ n) H2 → Qd H2 := by
          intro D nD Qd qd
          have nn := But.st_new (o := .tup []) S1 nD
          have n3 := S1.cl_ne nD
          refine ⟨fun i H2 => ∃ bs : List Bool, bs.length = i ∧ H2 D = some (.lst (bs.map bitV)) ∧ StOk H2 st lg cl (t + 1 + i) ∧ But st lg H1 H2, ⟨[], rfl, upd_same, S1.upd nn.1 nn.2 n3, But.of (same_new nD)⟩, fun i H2 hi ⟨bs, l2, e2, S2, B2⟩ => ⟨st, lg, cl, t + 1 + i, 2, rfl, by decide, by decide, by omega, S2, fun k H3 k0 k1 S3 B3 => ⟨bs.map bitV, B3 _ _ e2 nn.1 nn.2, ?_, ?_⟩⟩, fun H2 ⟨bs, l2, e2, S2, B2⟩ => qd H2 bs l2 e2 (S2.up (by omega)) B2⟩
          · rw [List.length_map, l2]
            exact small1000 (by omega)
          · obtain ⟨b, eb⟩ := bits01 k0 k1
            refine ⟨bs ++ [b], by rw [List.length_append, l2]; rfl, ?_, S3.upd nn.1 nn.2 n3, fun c o ec m1 m2 => ?_⟩
            · rw [upd_same, List.map_append, eb]
              rfl
            · rw [upd_ne (ne_of_none ec nD)]
              exact B3 _ _ (B2 _ _ ec m1 m2) m1 m2
        refine ⟨_, rfl, ite2 (fun e2 => ⟨_, rfl, rfl, _, rfl, ite2 (fun e3 => ?one) (fun e3 => ?_)⟩) (fun e2 => ?_)⟩
        case one =>
          have hn1 : n = 1 := by
            have z := V.int.inj (of_decide_eq_true e3)
            omega
          refine ⟨(by show 2 ≤ sizeLine; decide), fun p np => fin [true, false] _ _ (fun _ _ e => e) rfl ?_ p np⟩
          rw [hn1]
          rfl
        all_goals
          refine ⟨_, rfl, _, rfl, low62 h16, high62 h16, fun D nD => ?_⟩
          rw [Int.toNat_natCast]
          have tail : ∀ (H2 : Hp) (bs : List Bool), bs.length = 2 ^ n → H2 D = some (.lst (bs.map bitV)) → StOk H2 st lg cl (t + 17) → But st lg H1 H2 → ∀ l, H2 l = none → Q (.ref l) (L2.upd H2 l (.tup (bs.map bitV))) := fun H2 bs l2 e2 S2 B2 l nl =>
            q bs l _ l2 upd_same (B1.free S1 (B2.free S2 nl)) (S2.keep (same_new nl)) ((B1.trans B2).trans (But.of (same_new nl)))
          obtain ⟨Pv, p0, ps, pd⟩ := last D nD (fun H2 => ∃ bs : List Bool, H2 D = some (.lst (bs.map bitV)) ∧ ∀ l, H2 l = none → Q (.ref l) (L2.upd H2 l (.tup (bs.map bitV)))) (fun H2 bs l2 e2 S2 B2 => ⟨bs, e2, tail H2 bs l2 e2 S2 B2⟩)
          refine lc_range Pv p0 (fun i H2 hi p1 => ⟨rfl, _, rfl, ps i H2 hi p1⟩) fun H2 p2 => ?_
          obtain ⟨bs, e2, fq⟩ := pd H2 p2
          exact ⟨D, _, rfl, .inl ⟨.inl (.inl e2), fq⟩⟩
end
end K02

set_option Elab.async false
set_option linter.all false
set_option maxRecDepth 100000
set_option maxHeartbeats 1000000
/-! Rules that the law's own text wants. -/
namespace K02
open PySem PySem.Spec L2
open PyProof.Rows GenW GxR EZ
open LamX (ExtN)
/-- repr of a reading -/
def rdS : Option Bool → Str
  | none => "None"
  | some b => toString (bitZ b)
theorem call_reprR {X : Cx} : CallR X (.builtin "repr") (fun xs H Q => ∃ r : Option Bool, xs = [rdV r] ∧ Q (.str (rdS r)) H) := by
  intro pins s σ H xs us Q I r h
  obtain ⟨o, rfl, q⟩ := h
  cases o with
  | none =>
    rcases r with _ | ⟨ra, r0⟩
    cases r0
    cases ra
    exact PySem.P.repr_of_none ⟨.str _, H, I.tok _, ⟨_, rfl⟩, q⟩
  | some b =>
    rcases r with _ | ⟨ra, r0⟩
    cases r0
    obtain ⟨t, rfl⟩ := ra
    exact PySem.P.repr_of_int (by cases b <;> decide) ⟨.str _, H, I.tok _, ⟨_, rfl⟩, q⟩
/-- f(k = v, ..) -/
theorem pe_callK0 {X : Cx} {CX : CXT} {k : Nat} {f : Addr} {fd : FuncData} {ps ks : List Str} {sp : Sp} {g : List Value → List Value → List Value} {gV : List V → List V → List V} {E : XK} {x : Str} {p pos : Pos} {kws : List Keyword} {tk : TA} (F : FnOk X.prog X.w X.K X.mg X.base CX k f fd ps sp) (hr : Room k X.A) (hg : Gl X x)
    (hm : X.mg x = some (.ref f)) (hk : PySem.W.keepIn X.K (.ref f) = true) (hb : KBinds X.K fd ps ks g gV) (hx : Passes CX X E) (hkw : PK X kws tk) (hall : (backToKw pos (keywordEach kws X.env)).all (·.1.isSome) = true := by rfl)
    (hks : (backToKw pos (keywordEach kws X.env)).filterMap (·.1) = ks := by rfl) (hdb : (x == ("__debug__" : Str)) = false := by decide) (hpl : ((backTo pos (starEach [] X.env)).any (·.1) || (backToKw pos (keywordEach kws X.env)).any (·.1.isNone)) = false := by rfl) :
    PE X (.Call (.Name x p) [] kws pos) (tCallK sp gV E tNil tk) := by
  constructor
  intro pins s σ H Q I h
  refine wpAny_Call_Name_kw (ld_glob I hg hm (PySem.W.callWith_KW0 (h₀ := X.base) I.ok.mod.kin hk hall (thn (hkw.run pos pins s σ H _ I h) fun ws s2 ⟨zs, H2, I2, rz, q2⟩ => ⟨I2.kIn, ?_⟩) hpl) hdb)
  rw [hks]
  exact run_fnk F hr hb hx I2 .nil rz q2
/-- no error leaves a call that has none -/
theorem passNone {X : Cx} : Passes (L2.CX X.prog X.w) X fun _ _ _ => False := fun _ _ _ _ _ _ _ c => by
  obtain ⟨_, _, _, _, _, _, _, _, _, _, _, _, z⟩ := c
  exact z.elim
end K02

set_option Elab.async false
set_option linter.all false
set_option maxRecDepth 100000
set_option maxHeartbeats 4000000
namespace TM
open PySem PySem.Spec PySem.Calls PyProof.Rows L2
theorem tuple_mul1 (l : Addr) (items : Array Value) (n : Nat) (dd : Option Addr) (sl : Array (Option Value)) (u : Tok) :
    Meets (Builtin.«tuple.__mul__» ⟨[.ref l, .int 1 u], []⟩) (fun _ R s => s.heap.get? l = some { cls := .type "tuple", dict := dd, data := .seq items n, slots := sl } ∧ R (.ok (.ret (.ref l))) s) :=
  .of_wp fun prog w A R s h => by
    obtain ⟨hp, g, d, tk, os⟩ := s
    obtain ⟨hl, h⟩ := h
    have f1 := AutoSeq1.idx_int
    wp_walk using wpAny_loadPart' hl
    exact ⟨_, rfl, h⟩
/-- t * k, k at least 1 (t * 1 is t itself) -/
def rRepA (K : PySem.W.Frag) : R2 := fun x y H Q => ∃ l k xs, x = .ref l ∧ y = .int k ∧ SqT K H l xs ∧ xs ≠ [] ∧ 1 ≤ k ∧ k ≤ 1000 ∧ xs.length ≤ 1000 ∧ (k = 1 → Q (.ref l) H) ∧ (2 ≤ k → ∀ p, H p = none → Q (.ref p) (upd H p (.tup (List.replicate k.toNat xs).flatten)))
theorem op_repA {X : Cx} : OpR X (binaryOp .Mult) (rRepA X.K) := by
  intro pins s σ H x y v u Q I rx ry h
  obtain ⟨l, k, xs, rfl, rfl, hT, hne, h1, h2, hz, q1, q2⟩ := h
  by_cases hk : k = 1
  · subst hk
    cases rx
    obtain ⟨t, rfl⟩ := ry
    obtain ⟨its, r, ⟨⟨cls, dd, data, sl⟩, ho, hc, n, hd⟩, hs⟩ := I.tuple hT
    simp only at hc hd
    subst hc
    subst hd
    exact wpAny_binaryOp_repeat_ref (T := "tuple") (U := "int") (by decide) ⟨_, ho, rfl⟩ (fun s' => typeIs_int s' 1 t) noFill_tuple_mul F.fills_int_mul F.slot_int_rmul repeat_tuple F.slot_int_index.lookup
      (call_meets F.slot_int_rmul (typeIs_int s 1 t) F.entry_int_rmul (F.args_int_rmul_2 _ _) (int_rmul_tuple 1 t l its.toArray n dd sl)
        ⟨ho, rfl, ⟨_, ho, rfl⟩, call_meets F.slot_tuple_mul ⟨_, ho, rfl⟩ F.entry_tuple_mul (F.args_tuple_mul_2 _ _) (tuple_mul1 l its.toArray n dd sl t) ⟨ho, ⟨.ref l, H, I, rfl, q1 rfl⟩⟩⟩)
  · exact op_repT pins s σ H (.ref l) (.int k) v u Q I rx ry ⟨l, k, xs, rfl, rfl, hT, hne, by omega, h2, hz, q2 (by omega)⟩
end TM

set_option Elab.async false
set_option linter.all false
set_option maxRecDepth 100000
set_option maxHeartbeats 1000000
/-! Kinds of values that stand in a heap. -/
namespace K02
open PySem PySem.Spec L2
open PyProof.Rows GenW GxR EZ TK
open LamX (ExtN)
def atomV : V → Bool
  | .non => true
  | .bl _ => true
  | .int _ => true
  | .str _ => true
  | _ => false
/-! ### types -/
section
variable {K : PySem.W.Frag} {H : Hp}
theorem ty_non : Ty1 K H .non "NoneType" := ⟨.base .non, by decide⟩
theorem ty_int (i : Int) : Ty1 K H (.int i) "int" := ⟨.base (.int i), by decide⟩
theorem ty_bl (b : Bool) : Ty1 K H (.bl b) "bool" := ⟨.base (.bl b), by decide⟩
theorem ty_str (z : Str) : Ty1 K H (.str z) "str" := ⟨.base (.str z), by decide⟩
theorem ty_tup {a : Addr} {xs : List V} (h : H a = some (.tup xs)) : Ty1 K H (.ref a) "tuple" := ⟨.base (.tup h), by decide⟩
theorem ty_lst {a : Addr} {xs : List V} (h : H a = some (.lst xs)) : Ty1 K H (.ref a) "list" := ⟨.base (.lst h), by decide⟩
theorem ty_dT {a : Addr} {xs : List (List L2.Key × V)} (h : H a = some (.dT xs)) : Ty1 K H (.ref a) "dict" := ⟨.base (.dT h), by decide⟩
theorem ty_rd (r : Option Bool) : ∃ t, Ty1 K H (rdV r) t := by
  cases r with
  | none => exact ⟨_, ty_non⟩
  | some b => exact ⟨_, ty_int _⟩
theorem bel_bitV (b : Bool) : bel (bitV b) 2 = true := by cases b <;> decide
theorem rdB_rdV (r : Option Bool) : rdB (rdV r) = true := by
  cases r with
  | none => rfl
  | some b => cases b <;> decide
variable {H' : Hp}
theorem atom_ty {y : V} (h : atomV y = true) : ∃ t, Ty1 K H y t := by
  cases y with
  | non => exact ⟨_, ty_non⟩
  | bl b => exact ⟨_, ty_bl b⟩
  | int i => exact ⟨_, ty_int i⟩
  | str z => exact ⟨_, ty_str z⟩
  | _ => cases h
theorem rep_all {α : Type} (f : α → Bool) (x : α) (n : Nat) (h : f x = true) : (List.replicate n x).all f = true := List.all_eq_true.mpr fun y hy => by
  rw [List.eq_of_mem_replicate hy]
  exact h
theorem rep_bad {α : Type} (f : α → Bool) (x : α) {n : Nat} (h : f x = false) (hn : 0 < n) : (List.replicate n x).all f = false := by
  cases n with
  | zero => cases hn
  | succ n =>
    rw [List.replicate_succ, List.all_cons, h]
    rfl
theorem repA_to {x : Addr} {v : V} {k : Int} {Q : VK} (hx : H x = some (.tup [v])) (h1 : 1 ≤ k) (h2 : k ≤ 1000) (q : ∀ p H', Same H H' → H' p = some (.tup (List.replicate k.toNat v)) → Q (.ref p) H') : TM.rRepA K (.ref x) (.int k) H Q := by
  refine ⟨x, k, [v], rfl, rfl, .inl (.inl hx), by simp, h1, h2, (by show 1 ≤ 1000; decide), fun z => ?_, fun _ p np => q p _ (same_new np) ?_⟩
  · refine q x H (fun _ _ e => e) ?_
    rw [z]
    exact hx
  · rw [upd_same, rep_one]
end
end K02

set_option Elab.async false
set_option linter.all false
set_option maxRecDepth 100000
set_option maxHeartbeats 1000000
/-! What stands between the turns of a law: the state of the draws, the tables. -/
namespace K02
open PySem PySem.Spec L2
open PyProof.Rows GenW GxR EZ TK CE LamX
theorem catA_to {K : PySem.W.Frag} {H : Hp} {x y : Addr} {xs ys : List V} {Q : VK} (hx : H x = some (.tup xs)) (hy : H y = some (.tup ys)) (hl : xs.length + ys.length ≤ 1000) (q : ∀ p H', Same H H' → H' p = some (.tup (xs ++ ys)) → Q (.ref p) H') : rCatA K (.ref x) (.ref y) H Q := by
  refine ⟨x, y, xs, ys, rfl, rfl, .inl (.inl hx), .inl (.inl hy), Nat.le_of_lt (small1000 hl), fun z => ?_, fun _ z => ?_, fun _ _ p np => q p _ (same_new np) upd_same⟩
  · refine q y H (fun _ _ e => e) ?_
    rw [z]
    exact hy
  · refine q x H (fun _ _ e => e) ?_
    rw [z, List.append_nil]
    exact hx
/-- the name of the law's lambdas -/
abbrev lawQ : Str := ("law" ++ ".<locals>.") ++ "<lambda>"
/-- the heap without what the draws write -/
def hid (st lg : Addr) (H : Hp) : Hp := fun b => if b = st ∨ b = lg then none else H b
theorem hid_at {st lg b : Addr} {H : Hp} (n1 : b ≠ st) (n2 : b ≠ lg) : hid st lg H b = H b := by
  unfold hid
  rw [if_neg (by rintro (z | z); exact n1 z; exact n2 z)]
theorem hid_tup {st lg cl b : Addr} {H : Hp} {t : Nat} {xs : List V} (S : StOk H st lg cl t) (e : H b = some (.tup xs)) : hid st lg H b = some (.tup xs) := by
  obtain ⟨ls, cs, left, turn, S⟩ := S
  rw [hid_at (fun z => by rw [z, S.d] at e; cases e) (fun z => by rw [z, S.l] at e; cases e)]
  exact e
theorem hid_ext {st lg : Addr} {H H' : Hp} (U : But st lg H H') : ExtN (hid st lg H) H' := fun b o e _ => by
  unfold hid at e
  by_cases h : b = st ∨ b = lg
  · rw [if_pos h] at e
    cases e
  · rw [if_neg h] at e
    exact U b o e (fun z => h (.inl z)) (fun z => h (.inr z))
/-- what stands between the turns -/
structure Between (st lg cl Pl : Addr) (TT : List Addr) (H : Hp) (t : Nat) : Prop where
  s : StOk H st lg cl t
  tt : TabsG TT H
  tl : LamX.TabS H Pl lawQ
theorem Between.same {st lg cl Pl : Addr} {TT : List Addr} {H H' : Hp} {t : Nat} (B : Between st lg cl Pl TT H t) (k : Same H H') : Between st lg cl Pl TT H' t := ⟨B.s.keep k, (Ex.same k).tabs B.tt, B.tl.ext k⟩
theorem codeO_st {c : Addr} {q : Str} : (∀ kvs, CodeO c q ≠ .dK kvs) ∧ ∀ xs, CodeO c q ≠ .lst xs := by
  unfold CodeO
  exact ⟨fun _ z => (by cases z), fun _ z => (by cases z)⟩
theorem But.keepO {st lg cl : Addr} {H H' : Hp} {t : Nat} {b : Addr} {o : HO} (U : But st lg H H') (S : StOk H st lg cl t) (e : H b = some o) (n1 : ∀ kvs, o ≠ .dK kvs) (n2 : ∀ xs, o ≠ .lst xs) : H' b = some o := by
  obtain ⟨ls, cs, left, turn, S⟩ := S
  refine U b o e (fun z => ?_) (fun z => ?_)
  · rw [z, S.d] at e
    exact n1 _ (Option.some.inj e).symm
  · rw [z, S.l] at e
    exact n2 _ (Option.some.inj e).symm
theorem Between.but {st lg cl Pl : Addr} {TT : List Addr} {H H' : Hp} {t t' : Nat} (B : Between st lg cl Pl TT H t) (S' : StOk H' st lg cl t') (U : But st lg H H') : Between st lg cl Pl TT H' t' := by
  refine ⟨S', fun P hP => ?_, ?_⟩
  · obtain ⟨ps, e, r⟩ := B.tt P hP
    exact ⟨ps, U.keepO B.s e (fun _ z => by cases z) (fun _ z => by cases z), r⟩
  · obtain ⟨ps, e, r, ce⟩ := B.tl
    refine ⟨ps, U.keepO B.s e (fun _ z => by cases z) (fun _ z => by cases z), r, fun pos cv h => ?_⟩
    obtain ⟨c, e1, e2⟩ := ce pos cv h
    exact ⟨c, e1, U.keepO B.s e2 codeO_st.1 codeO_st.2⟩
/-- all but d and the tables TT is as it was -/
def FR (d : Addr) (TT : List Addr) (H H' : Hp) : Prop := ∀ b o, b ≠ d → b ∉ TT → H b = some o → H' b = some o
theorem FR.refl (d : Addr) (TT : List Addr) (H : Hp) : FR d TT H H := fun _ _ _ _ e => e
theorem FR.same {d : Addr} {TT : List Addr} {H H1 H2 : Hp} (a : FR d TT H H1) (k : Same H1 H2) : FR d TT H H2 := fun b o n m e => k _ _ (a b o n m e)
theorem FR.ex {d : Addr} {TT : List Addr} {H H1 H2 : Hp} (a : FR d TT H H1) (k : Ex TT H1 H2) : FR d TT H H2 := fun b o n m e => k.keep _ _ m (a b o n m e)
theorem FR.upd {d : Addr} {TT : List Addr} {H H1 : Hp} {o : HO} (a : FR d TT H H1) : FR d TT H (upd H1 d o) := fun b x n m e => by
  rw [upd_ne n]
  exact a b x n m e
theorem notTT {TT : List Addr} {H : Hp} (t : TabsG TT H) {b : Addr} {o : HO} (e : H b = some o) (n : ∀ ps, o ≠ .tbl ps) : b ∉ TT := fun z => by
  obtain ⟨ps, g, _⟩ := t b z
  rw [g] at e
  exact n ps (Option.some.inj e).symm
theorem Between.fr {st lg cl Pl d : Addr} {TT : List Addr} {H0 H H' : Hp} {t : Nat} (B : Between st lg cl Pl TT H t) (hPT : Pl ∉ TT) (k0 : ∀ b o, H0 b = some o → H b = some o) (B0 : Between st lg cl Pl TT H0 t) (nd : H0 d = none) (F : FR d TT H H') (T : TabsG TT H') : Between st lg cl Pl TT H' t := by
  have key : ∀ b o, H0 b = some o → (∀ ps, o ≠ .tbl ps) → H' b = some o := fun b o e n => F b o (fun z => by rw [z, nd] at e; cases e) (notTT B0.tt e n) (k0 _ _ e)
  refine ⟨?_, T, ?_⟩
  · obtain ⟨ls, cs, left, turn, S⟩ := B0.s
    exact ⟨ls, cs, left, turn, key _ _ S.d (fun _ z => by cases z), key _ _ S.l (fun _ z => by cases z), key _ _ S.c (fun _ z => by cases z), S.lp, S.l0, S.t0, S.tt, S.ll, S.cc, S.ne⟩
  · obtain ⟨ps, e, r, ce⟩ := B0.tl
    refine ⟨ps, F Pl _ (fun z => by rw [z, nd] at e; cases e) hPT (k0 _ _ e), r, fun pos cv h => ?_⟩
    obtain ⟨c, e1, e2⟩ := ce pos cv h
    exact ⟨c, e1, key _ _ e2 (fun ps => codeO_ne ps)⟩
theorem Between.lam {st lg cl Pl ad : Addr} {TT : List Addr} {H H3 H4 : Hp} {t : Nat} {o : HO} (B : Between st lg cl Pl TT H t) (hPT : Pl ∉ TT) (bp : ButP Pl H H3) (T3 : LamX.TabS H3 Pl lawQ) :
    TabsG TT H3 ∧ ExtN H H3 ∧ (Ex TT H3 H4 → H4 ad = none → Between st lg cl Pl TT (upd H4 ad o) t ∧ ExtN H (upd H4 ad o)) := by
  obtain ⟨ps, e, r, ce⟩ := B.tl
  have x3 : ExtN H H3 := fun b o' h n => bp b o' (fun z => by rw [z, e] at h; exact n _ (Option.some.inj h).symm) h
  have t3 : TabsG TT H3 := fun P hP => by
    obtain ⟨ps', e', r'⟩ := B.tt P hP
    exact ⟨ps', bp P _ (fun z => hPT (z ▸ hP)) e', r'⟩
  refine ⟨t3, x3, fun x4 nad => ?_⟩
  have x5 : ExtN H (upd H4 ad o) := fun b o' h n => by
    have z := x4.extN t3 b o' (x3 b o' h n) n
    rw [upd_ne (ne_of_none z nad)]
    exact z
  refine ⟨⟨?_, fun P hP => ?_, ?_⟩, x5⟩
  · obtain ⟨ls, cs, left, turn, S⟩ := B.s
    exact ⟨ls, cs, left, turn, x5 _ _ S.d (fun _ z => by cases z), x5 _ _ S.l (fun _ z => by cases z), x5 _ _ S.c (fun _ z => by cases z), S.lp, S.l0, S.t0, S.tt, S.ll, S.cc, S.ne⟩
  · obtain ⟨ps', e', r'⟩ := x4.tabs t3 P hP
    exact ⟨ps', by rw [upd_ne (ne_of_none e' nad)]; exact e', r'⟩
  · obtain ⟨ps3, e3, r3, ce3⟩ := T3
    have k := x4.keep _ _ hPT e3
    refine ⟨ps3, by rw [upd_ne (ne_of_none k nad)]; exact k, r3, fun pos cv h => ?_⟩
    obtain ⟨c, e1, e2⟩ := ce3 pos cv h
    have z := x4.extN t3 c _ e2 (fun ps => codeO_ne ps)
    exact ⟨c, e1, by rw [upd_ne (ne_of_none z nad)]; exact z⟩
end K02

set_option Elab.async false
set_option linter.all false
set_option maxRecDepth 100000
set_option maxHeartbeats 2000000
/-! The end: the tables of the defs that hold generator expressions or lambdas. -/
namespace EN
open PySem PySem.Spec PyProof.Rows L2 LamX
theorem walk_tabs {l : PySem.W.OpenLaw} {n k : Nat} {q : Program} {loose : List Str} {XP : (Str → Option Value) → Heap → Prop} {YP : World → Heap → Prop} {d : DefRec} {K : Params → PySem.W.Frag} {CX : World → CXT} {x : Str} (names : List Str)
    (hn : l.most = some n) (hn2 : n ≤ sizeLine) (hdf : d.params.defaults = []) (hr : Room k callerA) (hrec : (names.all fun y => (recsOf q).any fun e => e.name == y) = true) (hY : ∀ (w : World) (h : Heap), YP w h → (K w.params).In h)
    (F : ∀ (w : World) (mg : Str → Option Value) (fa : Addr) (h : Heap), YP w h → (K w.params).In h → h.Ns mainGlobals mg → mg d.name = some (.ref fa) → (∀ y ∈ names, ∀ f, mg y = some (.ref f) → OwnTab (K w.params) f h) → LawAtS l w (K w.params) (CX w) k n x mg fa h)
    (hCX : ∀ (w : World) (H : Hp) (s : Shared) (e : Value) (s' : Shared), CX w [] H s (fun _ _ _ => False) e s' → False) : PySem.W.WalkO q loose XP YP l.row.toRowW d [] (fun f vs => PySem.call f vs) := by
  refine Att.attach_callB hn hdf fun w s₀ s₁ mg mb fa o pm cd doc a vs ns G Y ho hd hcd hmg hobj hints hlen hbits hg => ?_
  have KX := hY w _ Y
  have own : ∀ y ∈ names, ∀ f, mg y = some (.ref f) → OwnTab (K w.params) f s₁.heap := by
    intro y hy f hf c P o1 fd1 e dd vs1 sl k1 k2 k3 k4 k5
    obtain ⟨dL, hm, hn1⟩ := List.any_eq_true.mp (List.all_eq_true.mp hrec y hy)
    obtain ⟨a', o', fd', c', P', h1, h2, h3, h4, _, ⟨oc, vc, e1, _, e3, e4⟩, hP⟩ := G.T.tab dL hm
    rw [beq_iff_eq.mp hn1, hf] at h1
    cases h1
    rw [KX _ _ k1] at h2
    cases h2
    rw [k2] at h3
    cases h3
    rw [k3] at h4
    cases h4
    rw [KX _ _ k4] at e1
    cases e1
    cases e3
    rw [k5] at e4
    cases e4
    exact hP
  obtain ⟨fd, cs, sp, hT, nT, C, hb, hsp, hF⟩ := F w mg fa _ Y KX G.T.g hmg own
  exact law_callTs KX G.T.g G.T.b G.T.builtins G.T.nolimit hg hT nT C G.T.bmain hobj hints (Nat.le_trans hlen hn2) hr hF hb (fun H hH hS => hsp H a ns hlen hbits hH hS) fun H e s' => hCX w H s₁ e s'
end EN

set_option Elab.async false
set_option linter.all false
set_option maxRecDepth 100000
set_option maxHeartbeats 1000000
/-! repr of data (numbers, bools, texts, None, lists and tuples of these), where no repr is under way. -/
namespace RP
open PySem PySem.Spec L2
open PyProof.Rows
def rRepr (K : PySem.W.Frag) : List V → Hp → VK → Prop := fun xs H Q => ∃ (x : V) (d : PyData), xs = [x] ∧ Dp K H x d ∧ d.showable = true ∧ d.hasDict = false ∧ d.depth ≤ 60 ∧ d.shown.length ≤ sizeLine ∧ (∀ i, d = .int i → i.natAbs.log2 < 1920) ∧ Q (.str d.shown) H
theorem call_reprD {X : Cx} (hg : X.A.guards = some []) (hu : X.A.units + 64 < cLine) : CallR X (.builtin "repr") (rRepr X.K) := by
  intro pins s σ H xs us Q I r h
  obtain ⟨x, d, rfl, hd, hs, hdi, hdp, hl, hi, q⟩ := h
  rcases r with _ | ⟨rx, r0⟩
  cases r0
  cases hd with
  | non =>
    cases rx
    exact PySem.P.repr_of_none ⟨.str _, H, I.tok _, ⟨_, rfl⟩, q⟩
  | bl b =>
    cases rx
    refine PySem.P.repr_of_bool ⟨.str _, H, I.tok _, ⟨_, rfl⟩, ?_⟩
    cases b <;> exact q
  | int i =>
    obtain ⟨t, rfl⟩ := rx
    exact PySem.P.repr_of_int (hi i rfl) ⟨.str _, H, I.tok _, ⟨_, rfl⟩, q⟩
  | str z =>
    obtain ⟨t, rfl⟩ := rx
    exact PySem.P.repr_of_str ⟨.str _, H, I.tok _, ⟨_, rfl⟩, q⟩ hl
  | lst h1 h2 =>
    cases rx
    obtain ⟨as, rd⟩ := Dp.reads I _ _ _ (.lst h1 h2) rfl
    exact repr_of_reads' rd hs (fun z => by rw [hdi] at z; cases z) hg (by omega) (fun _ _ e => e) (fun h' u tk hk => ⟨.str _, H, I.kept (t' := tk) hk, ⟨_, rfl⟩, q⟩) hl
  | tup h1 h2 =>
    cases rx
    obtain ⟨as, rd⟩ := Dp.reads I _ _ _ (.tup h1 h2) rfl
    exact repr_of_reads' rd hs (fun z => by rw [hdi] at z; cases z) hg (by omega) (fun _ _ e => e) (fun h' u tk hk => ⟨.str _, H, I.kept (t' := tk) hk, ⟨_, rfl⟩, q⟩) hl
end RP

set_option Elab.async false
set_option linter.all false
set_option maxRecDepth 100000
set_option maxHeartbeats 2000000
/-! sum of lists from a list on; a list or a tuple turned about by a slice; sorted of a tuple of tuples; repr of an empty dict. -/
namespace RU
open PySem PySem.Spec L2
open PyProof.Rows

/-! ### sum(xs, ys) of lists -/
theorem args_sum2 (a b : Value) : argsOk "sum" ⟨[a, b], []⟩ := by unfold argsOk; kernel_rfl
theorem sub_list_str : isSubtype (.type "list") (.type "str") = pure false := by rw [isSubtype_type]; kernel_rfl
theorem sub_list_bytes : isSubtype (.type "list") (.type "bytes") = pure false := by rw [isSubtype_type]; kernel_rfl
theorem sub_list_bytearray : isSubtype (.type "list") (.type "bytearray") = pure false := by rw [isSubtype_type]; kernel_rfl
abbrev Lo (xs : List Value) (n : Nat) : Obj := { cls := .type "list", data := .seq xs.toArray n }
section
variable {prog : Program} {w : World} {A : Around}
theorem sum_lists_loop {R : Result → Shared → Prop} {I l S : Addr} {items : Array Value} {old : Heap} {L : Nat → List Value} (hh : A.in1.handled = none) (hne : l ≠ I) (hSI : S ≠ I) (hSl : S ≠ l)
    (ho : ∀ b o, old.get? b = some o → b ≠ I ∧ b ≠ S) (hP : ∀ (i : Nat) (v : Value), items[i]? = some v → ∃ a n, v = .ref a ∧ old.get? a = some (Lo (L i) n)) (hz : ∀ i, i ≤ items.size → ((List.range i).flatMap L).length ≤ sizeLine) :
    ∀ (k i : Nat) (s : Shared) (acc : Addr) (c nn : Nat), items.size - i = k → i ≤ items.size → s.heap.IsListIter I l i → s.heap.IsList l items → s.heap.get? S = some (Lo [.ref acc] c) → acc ≠ S → acc ≠ I →
      s.heap.get? acc = some (Lo ((List.range i).flatMap L) nn) → (∀ b o, old.get? b = some o → s.heap.get? b = some o) →
      (∀ r h' m, (∀ b o, old.get? b = some o → h'.get? b = some o) → h'.get? r = some (Lo ((List.range items.size).flatMap L) m) → (r = acc ∧ i = items.size ∨ old.get? r = none) → R (.ok (.ret (.ref r))) { s with heap := h' }) →
      codeAny (model prog w) A (.builtin "sum.loop" ⟨[.ref I, .ref S, rawInt 2, rawInt 0], []⟩) R s := by
  intro k
  induction k with
  | zero =>
    intro i s acc c nn hk hi hit hl hS hSa hIa hacc hold hR
    have hin : i = items.size := by omega
    subst hin
    refine codeAny_builtin F.entry_sum_loop ?_
    rw [Around.under_plainId F.plain_sum_loop _]
    show wpAny _ A.in1 (seqItems? (.ref S) >>= _) _ _ s
    refine wpAny_bind (wpAny_seqItems hS rfl ?_)
    show wpAny _ A.in1 (tryCatch (pyNext (.ref I)) _ >>= _) _ _ s
    refine wpAny_bind (wpAny_tryCatch (wpAny_pyNext_list_end hh hit hl (by simp) fun h' he => ?_))
    exact wpAny_pure (hR acc h' nn (fun b o e => he b o (ho b o e).1 (hold b o e)) (he _ _ hIa hacc) (.inl ⟨rfl, rfl⟩))
  | succ k ih =>
    intro i s acc c nn hk hi hit hl hS hSa hIa hacc hold hR
    have hlt : i < items.size := by omega
    obtain ⟨a, na, ev, ha⟩ := hP i items[i] (by simp [hlt])
    refine codeAny_builtin F.entry_sum_loop ?_
    rw [Around.under_plainId F.plain_sum_loop _]
    show wpAny _ A.in1 (seqItems? (.ref S) >>= _) _ _ s
    refine wpAny_bind (wpAny_seqItems hS rfl ?_)
    show wpAny _ A.in1 (tryCatch (pyNext (.ref I)) _ >>= _) _ _ s
    refine wpAny_bind (wpAny_tryCatch (wpAny_pyNext_list_item hit hl (x := items[i]) (by simp [hlt]) fun h1 hit1 hs1 => ?_))
    rw [ev]
    have k1 : ∀ b o, b ≠ I → s.heap.get? b = some o → h1.get? b = some o := fun b o n e => (hs1.2 b n).trans e
    have hS1 := k1 _ _ hSI hS
    have hacc1 := k1 _ _ hIa hacc
    have ha1 := k1 _ _ (ho _ _ ha).1 (hold _ _ ha)
    have hl1 : h1.IsList l items := hl.extBut hs1.extBut hne
    have hsum : (List.range (i + 1)).flatMap L = (List.range i).flatMap L ++ L i := by rw [List.range_succ, List.flatMap_append]; simp
    have hz1 := hz (i + 1) hlt
    rw [hsum, List.length_append] at hz1
    show wpAny _ A.in1 ((holding [Value.ref a] (binaryOp .Add (.ref acc) (.ref a))).attempt >>= _) _ _ _
    refine wpAny_bind (wpAny_attempt (wpAny_holding (PySem.P.add_list (s := { s with heap := h1 }) hacc1 ha1 ?_ (by rw [List.size_toArray, List.size_toArray]; exact hz1))))
    have eo : (((List.range i).flatMap L).toArray ++ (L i).toArray) = ((List.range (i + 1)).flatMap L).toArray := by rw [hsum]; simp
    rw [eo]
    show wpAny _ A.in1 (updateSeq S (fun _ => #[Value.ref h1.objs.size]) >>= _) _ _ _
    have hS2 : (h1.push (Lo ((List.range (i + 1)).flatMap L) 0)).get? S = some (Lo [.ref acc] c) := Heap.get?_push_of_some _ hS1
    have hp2 : (h1.push (Lo ((List.range (i + 1)).flatMap L) 0)).get? h1.objs.size = some (Lo ((List.range (i + 1)).flatMap L) 0) := Heap.get?_push_size _ rfl
    have nS : h1.objs.size ≠ S := fun z => absurd (z ▸ Heap.lt_size hS1) (Nat.lt_irrefl _)
    have nI : h1.objs.size ≠ I := fun z => by
      obtain ⟨o, e, _⟩ := hit1
      exact absurd (z ▸ Heap.lt_size e) (Nat.lt_irrefl _)
    have k2 : ∀ b o, h1.get? b = some o → (h1.push (Lo ((List.range (i + 1)).flatMap L) 0)).get? b = some o := fun b o e => Heap.get?_push_of_some _ e
    have hit2 : (h1.push (Lo ((List.range (i + 1)).flatMap L) 0)).IsListIter I l (i + 1) := hit1.at fun o e => k2 I o e
    have hl2 : (h1.push (Lo ((List.range (i + 1)).flatMap L) 0)).IsList l items := hl1.push _
    generalize h1.push (Lo ((List.range (i + 1)).flatMap L) 0) = h2 at hS2 hp2 k2 hit2 hl2
    refine wpAny_bind (wpAny_updateSeq hS2 rfl ?_)
    have hS3 := Heap.get?_update_self (Obj.mapSeq fun _ => #[Value.ref h1.objs.size]) hS2 rfl
    have k3 : ∀ b, b ≠ S → (h2.update S (Obj.mapSeq fun _ => #[Value.ref h1.objs.size])).get? b = h2.get? b := fun b n => Heap.get?_update_other _ _ (Ne.symm n)
    generalize h2.update S (Obj.mapSeq fun _ => #[Value.ref h1.objs.size]) = h3 at hS3 k3
    refine wpAny_bind (wpAny_letGo ?_)
    have hS4 := Heap.get?_update_self (Obj.mapSeq fun _ => #[Value.ref h1.objs.size]) hS3 rfl
    have k4 : ∀ b, b ≠ S → (h3.update S (Obj.mapSeq fun _ => #[Value.ref h1.objs.size])).get? b = h3.get? b := fun b n => Heap.get?_update_other _ _ (Ne.symm n)
    refine wpAny_bind (wpAny_updateSeq hS3 rfl ?_)
    generalize h3.update S (Obj.mapSeq fun _ => #[Value.ref h1.objs.size]) = h4 at hS4 k4
    have k5 : ∀ b o, b ≠ S → h2.get? b = some o → h4.get? b = some o := fun b o n e => ((k4 b n).trans (k3 b n)).trans e
    refine wpAny_pure ⟨plainId_quiet F.plain_sum_loop _, ih (i + 1) { s with heap := h4 } h1.objs.size _ _ (by omega) hlt (hit2.at fun o e => k5 I o (Ne.symm hSI) e) ?_ hS4 nS nI (k5 _ _ nS hp2) (fun b o e => k5 b o (ho b o e).2 (k2 b o (k1 b o (ho b o e).1 (hold b o e)))) fun r h' m q1 q2 q3 => hR r h' m q1 q2 ?_⟩
    · obtain ⟨o, e, r⟩ := hl2
      exact ⟨o, k5 _ _ (Ne.symm hSl) e, r⟩
    · rcases q3 with ⟨q3, _⟩ | q3
      · refine .inr ?_
        rw [q3]
        cases z : old.get? h1.objs.size with
        | none => rfl
        | some o => exact absurd (Heap.lt_size (k1 _ _ (ho _ _ z).1 (hold _ _ z))) (Nat.lt_irrefl _)
      · exact .inr q3
theorem call_sum_lists {E : Value → Shared → Prop} {s : Shared} {l b : Addr} {nb : Nat} {items : Array Value} {L : Nat → List Value} {Q : Value → Shared → Prop} (hh : A.handled = none) (hl : s.heap.IsList l items)
    (hP : ∀ (i : Nat) (v : Value), items[i]? = some v → ∃ a n, v = .ref a ∧ s.heap.get? a = some (Lo (L i) n)) (hb : s.heap.get? b = some (Lo [] nb)) (hz : ∀ i, i ≤ items.size → ((List.range i).flatMap L).length ≤ sizeLine)
    (h : ∀ r h' m, (∀ c o, s.heap.get? c = some o → h'.get? c = some o) → h'.get? r = some (Lo ((List.range items.size).flatMap L) m) → (r = b ∧ 0 = items.size ∨ s.heap.get? r = none) → Q (.ref r) { s with heap := h' }) :
    wpAny (model prog w) A (call (.builtin "sum") [.ref l, .ref b]) Q E s := by
  have hlt : l < s.heap.objs.size := by obtain ⟨_, e, _⟩ := hl; exact Heap.lt_size e
  refine call_function_tree F.kind_sum F.plain_sum F.entry_sum (args_sum2 _ _) ?_
  unfold Builtin.«sum»
  simp only [List.length_cons, List.length_nil]
  rw [if_neg (by decide)]
  refine wpAny_bind (wpAny_of_eq (show Builtin.Builtins.bindParams "sum" ["start"] 0 ⟨[.ref b], []⟩ = pure [some (.ref b)] from rfl) ?_)
  refine wpAny_bind (wpAny_pyIter_list hl ?_)
  refine wpAny_bind (wpAny_pure ?_)
  have kI : ∀ c o, s.heap.get? c = some o → (s.heap.push { cls := .type "list_iterator", data := .fields #[.ref l, .int 0 0] }).get? c = some o := fun c o e => Heap.get?_push_of_some _ e
  have hitI : (s.heap.push { cls := .type "list_iterator", data := .fields #[.ref l, .int 0 0] }).IsListIter s.heap.objs.size l 0 := ⟨_, Heap.get?_push_size _ rfl, rfl, rfl⟩
  have hlI : (s.heap.push { cls := .type "list_iterator", data := .fields #[.ref l, .int 0 0] }).IsList l items := hl.push _
  generalize s.heap.push { cls := .type "list_iterator", data := .fields #[.ref l, .int 0 0] } = hI at kI hitI hlI
  have tb : ({ s with heap := hI } : Shared).TypeIs (.ref b) "list" := ⟨_, kI _ _ hb, rfl⟩
  simp only [List.forIn_cons, List.forIn_nil]
  refine wpAny_bind (wpAny_bind (wpAny_bind (wpAny_isInstance (T := "list") (b := false) tb sub_list_str ?_)))
  simp only [Bool.false_eq_true, if_false]
  refine wpAny_pure (wpAny_bind (wpAny_bind (wpAny_isInstance (T := "list") (b := false) tb sub_list_bytes ?_)))
  simp only [Bool.false_eq_true, if_false]
  refine wpAny_pure (wpAny_bind (wpAny_bind (wpAny_isInstance (T := "list") (b := false) tb sub_list_bytearray ?_)))
  simp only [Bool.false_eq_true, if_false]
  refine wpAny_pure (wpAny_pure ?_)
  refine wpAny_bind (wpAny_newObj_type ?_)
  have nb1 : b ≠ hI.objs.size := fun z => absurd (z ▸ Heap.lt_size (kI _ _ hb)) (Nat.lt_irrefl _)
  have nI1 : hI.objs.size ≠ s.heap.objs.size := fun z => by
    obtain ⟨o, e, _⟩ := hitI
    exact absurd (z ▸ Heap.lt_size e) (Nat.lt_irrefl _)
  have nl1 : hI.objs.size ≠ l := fun z => by
    obtain ⟨o, e, _⟩ := hlI
    exact absurd (z ▸ Heap.lt_size e) (Nat.lt_irrefl _)
  refine wpAny_pure ⟨plainId_quiet F.plain_sum_loop _, sum_lists_loop (old := s.heap) (l := l) (items := items) (L := L) hh (Nat.ne_of_lt hlt) nI1 nl1 (fun c o e => ⟨Nat.ne_of_lt (Heap.lt_size e), fun z => absurd (z ▸ Heap.lt_size (kI _ _ e)) (Nat.lt_irrefl _)⟩) hP hz items.size 0 _ b _ _ rfl (Nat.zero_le _)
    (hitI.at fun o e => Heap.get?_push_of_some _ e) (hlI.push _) (Heap.get?_push_size _ rfl) nb1 (fun z => absurd (z ▸ Heap.lt_size hb) (Nat.lt_irrefl _)) (Heap.get?_push_of_some _ (kI _ _ hb)) (fun c o e => Heap.get?_push_of_some _ (kI _ _ e)) fun r h' m q1 q2 q3 => h r h' m q1 q2 q3⟩
end
theorem flat_range {α : Type} : ∀ (vss : List (List α)), (List.range vss.length).flatMap (fun i => vss.getD i []) = vss.flatten
  | [] => rfl
  | v :: r => by
    rw [List.length_cons, List.range_succ_eq_map, List.flatMap_cons, List.flatMap_map, List.flatten_cons, ← flat_range r]
    rfl
theorem flat_up {α : Type} (f : Nat → List α) (i : Nat) : ∀ k, ((List.range i).flatMap f).length ≤ ((List.range (i + k)).flatMap f).length
  | 0 => Nat.le_refl _
  | k + 1 => by
    refine Nat.le_trans (flat_up f i k) ?_
    rw [show i + (k + 1) = (i + k) + 1 from rfl, List.range_succ, List.flatMap_append, List.length_append]
    omega
theorem flat_le {α : Type} {vss : List (List α)} {n : Nat} (h : vss.flatten.length ≤ n) (i : Nat) (hi : i ≤ vss.length) : ((List.range i).flatMap (fun i => vss.getD i [])).length ≤ n := by
  have z := flat_up (fun i => vss.getD i []) i (vss.length - i)
  rw [show i + (vss.length - i) = vss.length by omega, flat_range] at z
  omega
/-- sum(xs, []) of a list of lists -/
def rSumL (K : PySem.W.Frag) : List V → Hp → VK → Prop := fun vs H Q => ∃ (l b : Addr) (xs : List V) (yss : List (List V)), vs = [.ref l, .ref b] ∧ SqL K H l xs ∧ H b = some (.lst []) ∧ Paired (fun x ys => ∃ a, x = V.ref a ∧ H a = some (.lst ys)) xs yss ∧
  yss.flatten.length ≤ sizeLine ∧ (xs = [] → Q (.ref b) H) ∧ ∀ p, H p = none → Q (.ref p) (upd H p (.lst yss.flatten))
theorem vss_of {X : Cx} {pins : List (Addr × Obj)} {σ : L2.St} {H : Hp} {s : Shared} (I : Inv X pins σ H s) {xs : List V} {yss : List (List V)} (h : Paired (fun x ys => ∃ a, x = V.ref a ∧ H a = some (.lst ys)) xs yss) :
    ∀ {its : List Value}, Vals xs its → ∃ vss : List (List Value), vss.length = its.length ∧ Vals yss.flatten vss.flatten ∧ ∀ (i : Nat) (v : Value), its[i]? = some v → ∃ a n, v = .ref a ∧ s.heap.get? a = some (Lo (vss.getD i []) n) := by
  induction h with
  | nil =>
    intro its r
    cases r
    exact ⟨[], rfl, .nil, fun i v e => by simp at e⟩
  | cons r t ih =>
    intro its rv
    cases rv with
    | cons rx rt =>
      obtain ⟨a, rfl, ha⟩ := r
      cases rx
      obtain ⟨vss, h1, h2, h3⟩ := ih rt
      obtain ⟨us, n, ru, e, _⟩ := I.lst ha
      refine ⟨us :: vss, by simp [h1], ?_, fun i v hv => ?_⟩
      · rw [List.flatten_cons, List.flatten_cons]
        exact ru.append h2
      · cases i with
        | zero =>
          cases hv
          exact ⟨a, n, rfl, e⟩
        | succ i => exact h3 i v hv
theorem cr_sumL {X : Cx} (hc : X.calm = true) : CallR X (.builtin "sum") (rSumL X.K) := by
  intro pins s σ H vs us Q I r h
  obtain ⟨l, b, xs, yss, rfl, hs, hb, hp, hz, q0, q1⟩ := h
  rcases r with _ | ⟨r1, r2⟩
  rcases r2 with _ | ⟨r2, r3⟩
  cases r3
  cases r1
  cases r2
  obtain ⟨its, rv, hl, _⟩ := I.list hs
  obtain ⟨bs, nb, rb, eb, _⟩ := I.lst hb
  cases rb
  obtain ⟨vss, h1, h2, h3⟩ := vss_of I hp rv
  have hz2 : vss.flatten.length ≤ sizeLine := by rw [← h2.length]; exact hz
  refine call_sum_lists (L := fun i => vss.getD i []) (I.ok.hd hc) hl.isList (fun i v e => h3 i v (by simpa using e)) eb (fun i hi => flat_le hz2 i (by rw [h1]; simpa using hi)) fun r h' m k1 k2 k3 => ?_
  rw [List.size_toArray, ← h1, flat_range] at k2
  rcases k3 with ⟨rfl, k3⟩ | k3
  · have e : xs = [] := by
      have := rv.length
      rw [List.size_toArray] at k3
      exact List.length_eq_zero_iff.mp (by omega)
    exact ⟨.ref _, H, I.kept k1, rfl, q0 e⟩
  · have hn : H r = none := I.hok.gone k3
    have new : ObjOk X.prog X.w (upd H r (.lst yss.flatten)) h' r (.lst yss.flatten) := ⟨hz, _, m, h2, k2⟩
    exact ⟨.ref r, _, I.laidN (t' := s.toks) k1 k3 hn new, rfl, q1 r hn⟩

/-! ### xs[::-1] -/
/-- what a value turned about is: the slice object stands at sl -/
def RevR (X : Cx) (r : V → Hp → VK → Prop) : Prop :=
  ∀ (pins : List (Addr × Obj)) (s : Shared) (σ : L2.St) (H : Hp) (x : V) (v : Value) (sl : Addr) (t : Tok) (Q : VK), Inv X pins σ H s → RelV x v → s.heap.IsSliceOf sl .none .none (.int (-1) t) → r x H Q →
    ∃ T id, typeLookup (.type T) "__getitem__" = pure (some (.builtin id)) ∧ s.TypeIs v T ∧ wpAny (model X.prog X.w) X.A (getItem v (.ref sl)) (EP X pins σ Q) X.xe s
def tRev (r : V → Hp → VK → Prop) (te ts : TE) : TE := fun σ H Q => te σ H fun x H1 => ts σ H1 fun k H2 => k = .int (-1) ∧ r x H2 Q
theorem pe_rev {X : Cx} {e st : Expr} {te ts : TE} {pos p2 : Pos} {r : V → Hp → VK → Prop} (hr : RevR X r) (he : PE X e te) (hst : PE X st ts) : PE X (.Subscript e (.Slice none none (some st) p2) pos) (tRev r te ts) := by
  refine ⟨fun pins s σ H Q I h => ?_⟩
  refine Subscript_ (thn (he.run pins s σ H _ I h) fun v s1 ⟨x, H1, I1, r1, q1⟩ => ?_)
  refine wpAny_Slice ?_
  rw [evalPart_none, evalPart_some]
  refine wpAny_pure (wpAny_pure ?_)
  refine thn (hst.run pins s1 σ H1 _ I1 q1) fun u s2 ⟨k, H2, I2, r2, ek, q2⟩ => ?_
  subst ek
  obtain ⟨t, rfl⟩ := r2
  have I4 : Inv X pins σ H2 { s2 with heap := s2.heap.push { cls := .type "slice", data := .fields #[.none, .none, .int (-1) t] } } := I2.kept (t' := s2.toks) fun b ob q => Heap.get?_push_of_some _ q
  obtain ⟨T, id, hT, ht, hg⟩ := hr pins { s2 with heap := s2.heap.push { cls := .type "slice", data := .fields #[.none, .none, .int (-1) t] } } σ H2 x v s2.heap.objs.size t Q I4 r1 (Heap.IsSliceOf.new ..) q2
  show wpAny (model X.prog X.w) X.A (subscriptTail e (.Slice none none (some st) p2) v (.ref s2.heap.objs.size)) (EP X pins σ Q) X.xe { s2 with heap := s2.heap.push { cls := .type "slice", data := .fields #[.none, .none, .int (-1) t] } }
  exact tail_any (ops := [v, .ref s2.heap.objs.size]) ht hT hg (by with_unfolding_all rfl)
theorem back_pick {α : Type} : ∀ (ys : List α), (List.range ys.length).filterMap (fun k => ys.reverse[ys.length - 1 - k]?) = ys
  | [] => rfl
  | a :: ys => by
    rw [List.length_cons, List.range_succ_eq_map, List.filterMap_cons, List.filterMap_map]
    have e0 : (a :: ys).reverse[ys.length + 1 - 1 - 0]? = some a := by
      rw [List.reverse_cons, List.getElem?_append_right (by rw [List.length_reverse]; omega), List.length_reverse]
      have : ys.length + 1 - 1 - 0 - ys.length = 0 := by omega
      rw [this]
      rfl
    rw [e0]
    show a :: _ = a :: ys
    congr 1
    by_cases hn : ys.length = 0
    · rw [List.length_eq_zero_iff.mp hn]
      rfl
    · refine Eq.trans ?_ (back_pick ys)
      congr 1
      funext k
      show (a :: ys).reverse[ys.length + 1 - 1 - (k + 1)]? = ys.reverse[ys.length - 1 - k]?
      have : ys.length + 1 - 1 - (k + 1) = ys.length - 1 - k := by omega
      rw [this, List.reverse_cons, List.getElem?_append_left (by rw [List.length_reverse]; omega)]
theorem pick_rev {α : Type} (xs : List α) : (List.range xs.length).filterMap (fun k => xs[xs.length - 1 - k]?) = xs.reverse := by
  have := back_pick xs.reverse
  rw [List.length_reverse, List.reverse_reverse] at this
  exact this
theorem pick_back (its : List Value) : slicePick its.toArray none none (some (-1)) = its.reverse.toArray := by
  unfold slicePick
  have e : sliceRange (sliceBounds none none (some (-1)) its.toArray.size).1 (sliceBounds none none (some (-1)) its.toArray.size).2.1 (sliceBounds none none (some (-1)) its.toArray.size).2.2 = (List.range its.length).map fun k => its.length - 1 - k := by
    have e1 : sliceBounds none none (some (-1)) its.toArray.size = ((its.length : Int) - 1, -1, -1) := by simp [sliceBounds]
    rw [e1]
    show sliceRange ((its.length : Int) - 1) (-1) (-1) = _
    unfold sliceRange
    have c : (if (-1 : Int) > 0 then (if (its.length : Int) - 1 < -1 then (-1 - ((its.length : Int) - 1) + -1 - 1) / -1 else 0) else (if (its.length : Int) - 1 > -1 then ((its.length : Int) - 1 - -1 - -1 - 1) / (- -1) else 0)) = (its.length : Int) := by
      rw [if_neg (by omega)]
      split
      · have : (- -1 : Int) = 1 := by decide
        rw [this, Int.ediv_one]
        omega
      · omega
    simp only [c, Int.toNat_natCast]
    refine List.map_congr_left fun k hk => ?_
    have := List.mem_range.mp hk
    omega
  rw [e, List.filterMap_map, ← pick_rev its]
  congr 2
  funext k
  show its.toArray[its.length - 1 - k]? = _
  rw [List.getElem?_toArray]
def rRevL (K : PySem.W.Frag) : V → Hp → VK → Prop := fun x H Q => ∃ a xs, x = .ref a ∧ SqL K H a xs ∧ ∀ p, H p = none → Q (.ref p) (upd H p (.lst xs.reverse))
def rRevT (K : PySem.W.Frag) : V → Hp → VK → Prop := fun x H Q => ∃ a xs, x = .ref a ∧ SqT K H a xs ∧ ∀ p, H p = none → Q (.ref p) (upd H p (.tup xs.reverse))
theorem vals_rev {xs : List V} {us : List Value} (r : Vals xs us) : Vals xs.reverse us.reverse := by
  induction r with
  | nil => exact .nil
  | cons a t ih =>
    rw [List.reverse_cons, List.reverse_cons]
    exact ih.append (.cons a .nil)
theorem rev_list {X : Cx} : RevR X (rRevL X.K) := by
  intro pins s σ H x v sl t Q I rx hs h
  obtain ⟨a, xs, rfl, hx, q⟩ := h
  cases rx
  obtain ⟨its, r, ht, hz⟩ := I.list hx
  have hlen := r.length
  refine ⟨"list", _, slot_list_getitem.lookup, ht.isList.typeIs, ?_⟩
  refine wpAny_getItem_list_slice ht.isList hs .none .none (.int (-1) t) (by simp) ?_ (by rw [List.size_toArray] <;> omega)
  rw [pick_back]
  refine ⟨.ref s.heap.objs.size, _, I.laid (t' := s.toks) (o := .lst xs.reverse) (fun b ob q => Heap.get?_push_of_some _ q) (Nat.le_refl _) ?_, rfl, q _ (I.hok.fresh (Nat.le_refl _))⟩
  exact ⟨by rw [List.length_reverse]; exact hz, _, 0, vals_rev r, Heap.get?_push_size _ rfl⟩
theorem sliceApplied_back {prog : Program} {w : World} {A : Around} {E : Value → Shared → Prop} {s : Shared} {sl : Addr} {t : Tok} {n : Nat} {Q : Int × Int × Nat → Shared → Prop} (hs : s.heap.IsSliceOf sl .none .none (.int (-1) t))
    (h : Q ((n : Int) - 1, -1, n) s) : wpAny (model prog w) A (Builtin.Slice.sliceApplied (.ref sl) (pure (n : Int))) Q E s := by
  obtain ⟨os, hos, hcs, hds⟩ := id hs
  unfold Builtin.Slice.sliceApplied Builtin.Slice.sliceFields
  refine wpAny_bind (wpAny_bind (wpAny_field hos hds (x := .none) rfl (wpAny_bind (wpAny_field hos hds (x := .none) rfl (wpAny_bind (wpAny_field hos hds (x := .int (-1) t) rfl (wpAny_pure ?_)))))))
  refine wpAny_bind (HT.slicePart_ (.int (-1) t) ?_)
  show wpAny _ _ (if ((-1 : Int) == 0) = true then _ else _) _ _ s
  rw [if_neg (by decide)]
  refine wpAny_bind (HT.slicePart_ .none (wpAny_bind (HT.slicePart_ .none (wpAny_bind (wpAny_pure ?_)))))
  have e : Builtin.Slice.slicePlaces ((n : Int) - 1) (-1) (-1) = n := by
    unfold Builtin.Slice.slicePlaces
    rw [if_neg (by decide)]
    have : (- -1 : Int) = 1 := by decide
    rw [this, Int.ediv_one]
    split <;> omega
  show wpAny _ _ (pure ((n : Int) - 1, (-1 : Int), Builtin.Slice.slicePlaces ((n : Int) - 1) (-1) (-1))) _ _ s
  rw [e]
  exact wpAny_pure h
theorem pickT (xs : Array Value) : ((List.range xs.size).filterMap fun (k : Nat) => xs[(((xs.size : Nat) : Int) - 1 + (k : Int) * (-1)).toNat]?).toArray = xs.toList.reverse.toArray := by
  rw [← pick_rev xs.toList]
  congr 1
  rw [Array.length_toList]
  congr 1
  funext k
  have : (((xs.size : Nat) : Int) - 1 + (k : Int) * (-1)).toNat = xs.size - 1 - k := by omega
  rw [this, Array.getElem?_toList]
theorem getItem_tuple_back {prog : Program} {w : World} {A : Around} {E : Value → Shared → Prop} {s : Shared} {t sl : Addr} {k : Tok} {items : Array Value} {Q : Value → Shared → Prop} (ht : IsTup s.heap t items) (hs : s.heap.IsSliceOf sl .none .none (.int (-1) k))
    (h : Q (.ref s.heap.objs.size) { s with heap := s.heap.push { cls := .type "tuple", data := .seq items.toList.reverse.toArray } })
    (hsz : items.size ≤ sizeLine) : wpAny (model prog w) A (getItem (.ref t) (.ref sl)) Q E s := by
  have htake : sizeOk (.seq items.toList.reverse.toArray) := by
    show items.toList.reverse.toArray.size ≤ sizeLine
    rw [List.size_toArray, List.length_reverse, Array.length_toList]
    exact hsz
  obtain ⟨os, hos, hcs, hds⟩ := id hs
  have hTs : s.TypeIs (.ref sl) "slice" := ⟨os, hos, hcs⟩
  unfold getItem
  try with_reducible refine wpAny_holding ?_
  first | refine wpAny_bind (wpAny_pure ?_) | skip
  refine wpAny_bind (wpAny_sequenceKey ht.typeIs (by decide) ?_)
  refine wpAny_bind (wpAny_callSpecial?_slot (name := Str.ofString "__getitem__") ht.typeIs PyProof.Rows.slot_tuple_getitem
    (wpAny_call_entry PyProof.Rows.slot_tuple_getitem ht.typeIs entry_tuple_getitem ?_ (args_tuple_getitem _ _)))
  show wpAny _ _ (Builtin.Tuple.tupleItemsOf (.ref t) >>= _) _ _ s
  refine wpAny_bind (tupleItemsOf_ ht ?_)
  refine wpAny_bind (wpAny_typeOf hTs ?_)
  rw [if_pos (by decide)]
  refine wpAny_bind (sliceApplied_back hs ?_)
  show wpAny _ _ (if ((((items.size : Nat) : Int) - 1 == 0 && (-1 : Int) == 1 && items.size == items.size)) = true then _ else _) _ _ s
  rw [if_neg (by simp), pickT]
  first
    | exact wpAny_bind (m := Builtin.Tuple.tupleExact _) (wpAny_newObj_type (wpAny_pure ⟨_, rfl, wpAny_pure h⟩) htake)
    | exact wpAny_bind (m := Builtin.Tuple.tupleExact _) (wpAny_newObj_type (wpAny_bind (wpAny_pure (wpAny_pure ⟨_, rfl, wpAny_pure h⟩))) htake)
    | exact wpAny_bind (wpAny_bind (m := Builtin.Tuple.tupleExact _) (wpAny_newObj_type (wpAny_pure (wpAny_pure ⟨_, rfl, wpAny_pure h⟩)) htake))
    | exact wpAny_bind (wpAny_bind (m := Builtin.Tuple.tupleExact _) (wpAny_newObj_type (wpAny_pure ⟨_, rfl, wpAny_pure h⟩) htake))
theorem rev_tup {X : Cx} : RevR X (rRevT X.K) := by
  intro pins s σ H x v sl t Q I rx hs h
  obtain ⟨a, xs, rfl, hx, q⟩ := h
  cases rx
  obtain ⟨its, r, ht, hz⟩ := I.tuple hx
  have hlen := r.length
  refine ⟨"tuple", _, PyProof.Rows.slot_tuple_getitem.lookup, ht.typeIs, ?_⟩
  refine getItem_tuple_back ht hs ?_ (by rw [List.size_toArray] <;> omega)
  refine ⟨.ref s.heap.objs.size, _, I.laid (t' := s.toks) (o := .tup xs.reverse) (fun b ob q => Heap.get?_push_of_some _ q) (Nat.le_refl _) ?_, rfl, q _ (I.hok.fresh (Nat.le_refl _))⟩
  exact ⟨by rw [List.length_reverse]; exact hz, _, vals_rev r, IsTup.new _ _⟩

/-! ### sorted(t), t a tuple of tuples of numbers -/
section
variable {prog : Program} {w : World} {A : Around} {E : Value → Shared → Prop} {s : Shared}
theorem collect_tuple {l : Addr} {vs : List Value} {Q : List Value → Shared → Prop} (hl : IsTup s.heap l vs.toArray)
    (h : Q vs { s with heap := (s.heap.push (seqObj "list" #[] 0)).update s.heap.objs.size (Obj.mapSeq (· ++ vs.toArray)) }) (hsz : vs.length ≤ sizeLine) :
    wpAny (model prog w) A (collect (.ref l)) Q E s := by
  obtain ⟨o, ho, hc, n, hd⟩ := id hl
  unfold collect
  refine wpAny_bind (wpAny_runValue (codeAny_builtin entry_proto_collect' ?_))
  show wpAny _ _ (do again (.builtin "list.__iadd__" ⟨[← newList [], .ref l], []⟩)) _ _ s
  refine wpAny_bind (wpAny_newList (wpAny_pure ⟨Code.quiet_builtin _ (by decide +kernel), codeAny_builtin entry_list_iadd' ?_⟩))
  show wpAny _ _ (Builtin.List.listExtendWith (.ref s.heap.objs.size) (.ref l) (.ref s.heap.objs.size)) _ _ { s with heap := s.heap.push (seqObj "list" #[] 0) }
  unfold Builtin.List.listExtendWith
  have ho' : (s.heap.push (seqObj "list" #[] 0)).get? l = some o := Heap.get?_push_of_some _ ho
  refine wpAny_bind (wpAny_typeOf (T := "tuple") ⟨o, ho', hc⟩ ?_)
  have ht : (Value.type "tuple" == Value.type "tuple") = true := by rfl
  rw [if_pos (by rw [ht]; simp)]
  refine wpAny_bind (listItems_at ho' hd ?_)
  refine wpAny_bind (listItems_at (xs := #[]) (n := 0) (Heap.get?_push_size _ rfl) rfl ?_)
  rw [if_neg (by simp)]
  refine wpAny_bind (listUpdate_at (xs := #[]) (n := 0) (Heap.get?_push_size _ rfl) rfl ?_ (Nat.zero_le _) (by show (#[] ++ vs.toArray).size ≤ sizeLine + 1; simp only [Array.size_append, List.size_toArray, List.length_nil]; omega))
  refine wpAny_pure ?_
  show wpAny (model prog w) A (do
      let o ← load s.heap.objs.size
      match o.data with
      | .seq xs _ => pure xs.toList
      | _ => unsupported "internal:collect") Q E { s with heap := (s.heap.push (seqObj "list" #[] 0)).update s.heap.objs.size (Obj.mapSeq (· ++ vs.toArray)) }
  refine wpAny_bind (wpAny_load (get?_update_seq (Heap.get?_push_size _ rfl) _) ?_)
  show wpAny _ _ (pure ((#[] : Array Value) ++ vs.toArray).toList) Q E _
  rw [show ((#[] : Array Value) ++ vs.toArray).toList = vs by simp]
  exact wpAny_pure h
theorem sorted_tupsT {l : Addr} {vs : List Value} {d : Nat} {B : Int} {Q : Value → Shared → Prop} (hl : IsTup s.heap l vs.toArray) (h64 : vs.length < 64) (hd : 1 ≤ d) (x : TS.TupsOk s.heap d B vs)
    (h : ∀ out : Array Value, out.toList.Perm vs → out.toList.Pairwise (fun u v => TS.code B (TS.intsOf s.heap u) ≤ TS.code B (TS.intsOf s.heap v)) → Q (.ref (s.heap.objs.size + 1)) { s with heap := sortedAll s.heap vs out }) :
    wpAny (model prog w) A (call (.builtin "sorted") [.ref l]) Q E s := by
  refine Calls.call_function_entry kind_sorted plain_sorted entry_sorted (args_sorted1 _) ?_
  unfold Builtin.«sorted»
  refine wpAny_bind (m := checkCount "sorted" 1 1 _) (wpAny_pure ?_)
  refine wpAny_bind (collect_tuple hl ?_ (by rw [sizeLine_eq]; omega))
  refine wpAny_bind (wpAny_newList ?_ (by rw [sizeLine_eq]; omega))
  have hsz : ((s.heap.push (seqObj "list" #[] 0)).update s.heap.objs.size (Obj.mapSeq (· ++ vs.toArray))).objs.size = s.heap.objs.size + 1 := by
    rw [Heap.size_update, size_push']
  have hoL : (((s.heap.push (seqObj "list" #[] 0)).update s.heap.objs.size (Obj.mapSeq (· ++ vs.toArray))).push (seqObj "list" vs.toArray 0)).get? (s.heap.objs.size + 1) = some (seqObj "list" vs.toArray 0) := by
    rw [← hsz]; exact Heap.get?_push_size _ rfl
  have keep : ∀ b o, s.heap.get? b = some o → o.cls = .type "tuple" → (((s.heap.push (seqObj "list" #[] 0)).update s.heap.objs.size (Obj.mapSeq (· ++ vs.toArray))).push (seqObj "list" vs.toArray 0)).get? b = some o := fun b o q _ => by
    have hlt : b < s.heap.objs.size := Heap.lt_size q
    rw [Heap.get?_push_ne _ _ _ (by rw [hsz]; exact Nat.ne_of_lt (Nat.lt_succ_of_lt hlt)), Heap.get?_update_ne _ _ _ _ (Nat.ne_of_lt hlt), Heap.get?_push_ne _ _ _ (Nat.ne_of_lt hlt)]
    exact q
  show wpAny _ _ _ _ _ { s with heap := ((s.heap.push (seqObj "list" #[] 0)).update s.heap.objs.size (Obj.mapSeq (· ++ vs.toArray))).push (seqObj "list" vs.toArray 0) }
  rw [hsz]
  refine wpAny_bind (wpAny_holding (wpAny_call_entry slot_list_sort ⟨_, hoL, rfl⟩ entry_list_sort (TS.sort_tups hoL h64 hd (x.keeps keep) (fun v => TS.code B (TS.intsOf s.heap v)) (fun v hv ns t => ?_) fun out a1 a2 => ⟨_, rfl, ?_⟩) (args_list_sort _)))
  · obtain ⟨ns0, t0, _⟩ := x v hv
    have e : ns = ns0 := t.ints.symm.trans (t0.keeps keep).ints
    rw [e]
    show TS.code B (TS.intsOf s.heap v) = TS.code B ns0
    rw [t0.ints]
  · exact wpAny_pure ⟨_, rfl, h out a1 a2⟩
end
/-- sorted(t), t a tuple of fewer than 64 tuples of d ints in [0, B) -/
def rSortV (K : PySem.W.Frag) (d : Nat) (B : Int) : List V → Hp → VK → Prop := fun vs H Q => ∃ (a : Addr) (xs : List V), vs = [V.ref a] ∧ SqT K H a xs ∧ xs.length < 64 ∧ (∀ x ∈ xs, ∃ ns, TupI K H x ns ∧ ns.length = d ∧ TS.Bd B ns) ∧
  ∀ (ys : List V) (p : Addr), ys.Perm xs → ys.Pairwise (fun x y => ∀ n m, TupI K H x n → TupI K H y m → TS.code B n ≤ TS.code B m) → H p = none → Q (.ref p) (upd H p (.lst ys))
theorem cr_sortV {X : Cx} {d : Nat} {B : Int} (hd : 1 ≤ d) : CallR X (.builtin "sorted") (rSortV X.K d B) := by
  intro pins s σ H vs us Q I r h
  obtain ⟨a, xs, rfl, hs, h64, hx, q⟩ := h
  obtain ⟨its, rv, hl, hz⟩ := I.tuple hs
  rw [Vals.ref1 r]
  obtain ⟨e1, e2⟩ := bkV_refs rv fun x m => by
    obtain ⟨ns, ⟨t, e, _⟩, _⟩ := hx x m
    exact ⟨t, e⟩
  refine sorted_tupsT (d := d) (B := B) hl (by rw [← rv.length]; exact h64) hd (fun v hv => ?_) fun out h1 h2 => ?_
  · obtain ⟨t, rfl⟩ := e2 v hv
    have hm : V.ref t ∈ xs := by
      rw [e1]
      exact List.mem_map.mpr ⟨_, hv, rfl⟩
    obtain ⟨ns, ⟨t', e, ht⟩, hn, hb⟩ := hx _ hm
    cases e
    exact ⟨ns, tupI_raw I ht, hn, hb⟩
  · obtain ⟨ep, he'⟩ := PyProof.Rows.sortedAll_at s.heap its out
    have h3 : ∀ u ∈ out.toList, ∃ a, u = Value.ref a := fun u hu => e2 u (h1.mem_iff.mp hu)
    have hp : (out.toList.map bkV).Perm xs := by
      rw [e1]
      exact h1.map bkV
    have hlen : (out.toList.map bkV).length ≤ sizeLine := by
      rw [hp.length_eq]
      exact hz
    refine ⟨.ref _, upd H (s.heap.objs.size + 1) (.lst (out.toList.map bkV)), I.laid (t' := s.toks) (fun _ _ => PyProof.Rows.sortedAll_old) (Nat.le_succ _) ⟨hlen, out.toList, ep, bkV_vals h3, he'⟩, rfl, q _ _ hp ?_ (I.hok.fresh (Nat.le_succ _))⟩
    rw [List.pairwise_map]
    refine List.Pairwise.imp (fun {u v} huv n m hn hm => ?_) h2
    obtain ⟨t, et, ht⟩ := hn
    obtain ⟨t', et', ht'⟩ := hm
    have eu := bkV_ref et
    have ev := bkV_ref et'
    have i1 : TS.intsOf s.heap u = n := by
      rw [eu]
      exact (tupI_raw I ht).ints
    have i2 : TS.intsOf s.heap v = m := by
      rw [ev]
      exact (tupI_raw I ht').ints
    rw [← i1, ← i2]
    exact huv

/-! ### repr({}) -/
def rReprU (K : PySem.W.Frag) : List V → Hp → VK → Prop := fun xs H Q => RP.rRepr K xs H Q ∨ ∃ a, xs = [.ref a] ∧ H a = some (.dT []) ∧ Q (.str (PyData.dict []).shown) H
theorem call_reprU {X : Cx} (hg : X.A.guards = some []) (hu : X.A.units + 64 < cLine) : CallR X (.builtin "repr") (rReprU X.K) := by
  intro pins s σ H xs us Q I r h
  rcases h with h | ⟨a, rfl, ha, q⟩
  · exact RP.call_reprD hg hu pins s σ H xs us Q I r h
  · rw [Vals.ref1 r]
    obtain ⟨_, hsys, ks, rel, o, es, ep, g1, g2, g3, g4, _⟩ := (show ObjOk X.prog X.w H s.heap a (.dT []) from I.hok a _ ha)
    cases rel
    have e0 : es.toList = [] := g4
    have rd : Reads s.heap (.ref a) (.dict []) (a :: [] ++ []) := Reads.dict g1 g2.1 g3 (by rw [e0]; exact .nil) (by rw [e0]; exact .nil)
    exact repr_of_reads' rd (by decide +kernel) (fun _ z => by
      simp only [List.append_nil, List.mem_singleton] at z
      rw [← z] at hsys
      simp at hsys) hg (by show X.A.units + (_ + 1) < cLine; have : (PyData.dict []).depth ≤ 3 := by decide
                           omega) (fun _ _ e => e) (fun h' u tk hk => ⟨.str _, H, I.kept (t' := tk) hk, ⟨_, rfl⟩, q⟩) (by rw [sizeLine_eq]; decide +kernel)
end RU

set_option Elab.async false
set_option linter.all false
set_option maxRecDepth 100000
set_option maxHeartbeats 2000000
/-! gate_readers. -/
namespace K02
open PySem PySem.Spec L2
open PyProof.Rows GenW GxR
open LamX (ExtN)
open EZ
abbrev sGateReaders : Stmt := top 31 -- gate_readers
section
variable {P : Program} {w : World} {K : PySem.W.Frag} {mg : Str → Option Value} {base : Heap}
def leans (C : Circ) (g at_ : Nat) : Prop := ∃ gt, C.gates[g]? = some gt ∧ Src.gate at_ ∈ gt.1
theorem walk_enT {K : PySem.W.Frag} {a : Addr} {xs : List V} : Walk (IteT K a xs) xs.length (fun H => SqT K H a xs) (YPair (fun i => some (.int (i : Nat))) (fun i => xs[i]?)) :=
  ⟨fun _ _ hi q => ⟨q, hi⟩, fun _ q => ⟨q, rfl⟩, fun i H v H' _ _ ⟨T, x, h1, h2, h3, h4⟩ => ⟨T, _, x, h1, h2, h3, rfl, h4⟩⟩
def nV (ns : List Nat) : List V := ns.map fun (n : Nat) => V.int (n : Int)
/-- new lists of numbers, one each, and a list of them all at D -/
structure RS (H0 H : Hp) (D : Addr) (las : List Addr) (rd : Nat → List Nat) : Prop where
  all : H D = some (.lst (las.map .ref))
  inj : ∀ (i j : Nat) (l : Addr), las[i]? = some l → las[j]? = some l → i = j
  off : D ∉ las
  new : ∀ l ∈ las, H0 l = none
  newD : H0 D = none
  at_ : ∀ (i : Nat) (l : Addr), las[i]? = some l → H l = some (.lst (nV (rd i)))
  keep : Same H0 H
theorem RS.begin {H : Hp} {D : Addr} (nD : H D = none) : RS H (upd H D (.lst [])) D [] (fun _ => []) :=
  ⟨upd_same, fun i j l z => by simp at z, by simp, by simp, nD, fun i l z => by simp at z, same_new nD⟩
theorem RS.push {H0 H : Hp} {D L : Addr} {las : List Addr} (r : RS H0 H D las (fun _ => [])) (nL : H L = none) : RS H0 (upd (upd H L (.lst [])) D (.lst (las.map .ref ++ [.ref L]))) D (las ++ [L]) (fun _ => []) := by
  have LD : L ≠ D := fun z => by
    have := r.all
    rw [← z, nL] at this
    cases this
  have Ll : ∀ l ∈ las, l ≠ L := fun l hl z => by
    obtain ⟨i, hi⟩ := List.mem_iff_getElem?.mp hl
    have := r.at_ i l hi
    rw [z, nL] at this
    cases this
  have nL0 : H0 L = none := by
    cases e : H0 L with
    | none => rfl
    | some o =>
      rw [r.keep _ _ e] at nL
      cases nL
  have last : ∀ (i : Nat) (l : Addr), (las ++ [L])[i]? = some l → (i < las.length ∧ las[i]? = some l) ∨ (i = las.length ∧ l = L) := fun i l hi => by
    by_cases h : i < las.length
    · rw [List.getElem?_append_left h] at hi
      exact .inl ⟨h, hi⟩
    · rw [List.getElem?_append_right (by omega)] at hi
      have h0 : i - las.length = 0 := by
        by_cases h0 : i - las.length = 0
        · exact h0
        · rw [List.getElem?_eq_none (by simp; omega)] at hi
          cases hi
      rw [h0] at hi
      cases hi
      exact .inr ⟨by omega, rfl⟩
  refine ⟨by rw [upd_same, List.map_append]; rfl, fun i j l hi hj => ?_, fun z => ?_, fun l hl => ?_, r.newD, fun i l hi => ?_, fun b o e => ?_⟩
  · rcases last i l hi with ⟨a1, a2⟩ | ⟨a1, a2⟩ <;> rcases last j l hj with ⟨b1, b2⟩ | ⟨b1, b2⟩
    · exact r.inj i j l a2 b2
    · exact absurd b2 (Ll l (List.mem_of_getElem? a2))
    · exact absurd a2 (Ll l (List.mem_of_getElem? b2))
    · omega
  · rcases List.mem_append.mp z with z | z
    · exact r.off z
    · exact LD (List.mem_singleton.mp z).symm
  · rcases List.mem_append.mp hl with z | z
    · exact r.new l z
    · rw [List.mem_singleton.mp z]
      exact nL0
  · rcases last i l hi with ⟨a1, a2⟩ | ⟨a1, a2⟩
    · have m := List.mem_of_getElem? a2
      rw [upd_ne (fun z => r.off (by rw [← z]; exact m)), upd_ne (Ll l m)]
      exact r.at_ i l a2
    · rw [a2, upd_ne LD, upd_same]
      rfl
  · have b1 : b ≠ D := ne_of_none e r.newD
    have b2 : b ≠ L := ne_of_none e nL0
    rw [upd_ne b1, upd_ne b2]
    exact r.keep _ _ e
theorem RS.same {H0 H H' : Hp} {D : Addr} {las : List Addr} {rd : Nat → List Nat} (r : RS H0 H D las rd) (s : Same H H') : RS H0 H' D las rd :=
  ⟨s _ _ r.all, r.inj, r.off, r.new, r.newD, fun i l hi => s _ _ (r.at_ i l hi), r.keep.trans s⟩
theorem RS.add {H0 H : Hp} {D l : Addr} {las : List Addr} {rd : Nat → List Nat} {k g : Nat} (r : RS H0 H D las rd) (hl : las[k]? = some l) : RS H0 (upd H l (.lst (nV (rd k) ++ [.int (g : Int)]))) D las (fun j => if j = k then rd k ++ [g] else rd j) := by
  have m := List.mem_of_getElem? hl
  have Dl : D ≠ l := fun z => r.off (z ▸ m)
  refine ⟨by rw [upd_ne Dl]; exact r.all, r.inj, r.off, r.new, r.newD, fun i l' hi => ?_, fun b o e => ?_⟩
  · by_cases h : i = k
    · subst h
      rw [hl] at hi
      cases hi
      rw [upd_same, if_pos rfl]
      unfold nV
      rw [List.map_append]
      rfl
    · rw [if_neg h, upd_ne (fun z => h (r.inj i k l (by rw [← z]; exact hi) hl))]
      exact r.at_ i l' hi
  · rw [upd_ne (ne_of_none e (r.new l m))]
    exact r.keep _ _ e
/-- how many readers these gates have -/
def tot (rd : Nat → List Nat) (ks : List Nat) : Nat := (ks.map fun k => (rd k).length).sum
theorem tot_other {rd : Nat → List Nat} {k g : Nat} : ∀ {ks : List Nat}, k ∉ ks → tot (fun j => if j = k then rd k ++ [g] else rd j) ks = tot rd ks
  | [], _ => rfl
  | a :: r, h => by
    have ne : a ≠ k := fun z => h (by rw [z]; exact List.mem_cons_self)
    have ih := tot_other (rd := rd) (k := k) (g := g) (ks := r) fun z => h (List.mem_cons_of_mem _ z)
    unfold tot at ih ⊢
    rw [List.map_cons, List.map_cons, List.sum_cons, List.sum_cons, ih]
    simp only [if_neg ne]
theorem tot_add {rd : Nat → List Nat} {k g : Nat} : ∀ {ks : List Nat}, ks.Nodup → tot (fun j => if j = k then rd k ++ [g] else rd j) ks ≤ tot rd ks + 1
  | [], _ => Nat.zero_le _
  | a :: r, h => by
    obtain ⟨h1, h2⟩ := List.nodup_cons.mp h
    by_cases e : a = k
    · have ih := tot_other (rd := rd) (k := k) (g := g) (ks := r) (by rw [← e]; exact h1)
      unfold tot at ih ⊢
      rw [List.map_cons, List.map_cons, List.sum_cons, List.sum_cons, ih]
      simp only [if_pos e, List.length_append, List.length_cons, List.length_nil]
      rw [e]
      omega
    · have ih := tot_add (rd := rd) (k := k) (g := g) (ks := r) h2
      unfold tot at ih ⊢
      rw [List.map_cons, List.map_cons, List.sum_cons, List.sum_cons]
      show (if a = k then rd k ++ [g] else rd a).length + _ ≤ _
      rw [if_neg e]
      omega
def fanG (gs : List Gate) : Nat := (gs.map fun g => g.1.length).sum
theorem fan_snoc {gs : List Gate} {i : Nat} {g : Gate} (h : gs[i]? = some g) : fanG (gs.take (i + 1)) = fanG (gs.take i) + g.1.length := by
  unfold fanG
  rw [take_snoc h, List.map_append, List.sum_append, List.map_cons, List.map_nil, List.sum_cons, List.sum_nil, Nat.add_zero]
def spReadersG : Sp := fun vs H Q _ => ∃ (y : V) (C : Circ), vs = [y] ∧ CircAt H y C ∧ C.ok ∧ ∀ (r : Addr) (las : List Addr) (rd : Nat → List Nat) (H' : Hp), RS H H' r las rd → las.length = C.gates.length → (∀ k g, g ∈ rd k ↔ leans C g k) → (∀ k, (rd k).length ≤ 8000) → (∀ ks : List Nat, ks.Nodup → tot rd ks ≤ fanG C.gates) → Q (.ref r) H'
theorem scReadersG : FnScope ["circuit", "readers", "gate", "sources", "_", "kind", "at"] ["circuit"] (defScope sGateReaders) := ⟨rfl, rfl, rfl, by decide +kernel, rfl, by decide +kernel, by decide +kernel⟩
theorem ok_readersG {f : Addr} {fd : FuncData} (F : Fun K "gate_readers" "gate_readers" sGateReaders f fd) (men : mg "enumerate" = none) : FnOk P w K mg base CX0 1 f fd ["circuit"] spReadersG := by
  refine F.ok scReadersG (fun vs H Q E h => ?_) (fun cdv A outer s H vs Q E hr h => ?_)
  · obtain ⟨y, C, rfl, _⟩ := h
    rfl
  · obtain ⟨y, C, rfl, ⟨t, ra, gaa, oa, rs, gs, os, rfl, et, er, eg, eo, hrs, hgs, hos⟩, ok, q⟩ := h
    refine ⟨_, pss_cons (ps_setLc (i := 1) (own := [("_", 4)]) (g := gName 4) (tt := tYes) rfl scReadersG.nd rfl rfl (sw_true rfl rfl rfl (by decide +kernel)) (pi_tup (pe_ix (r := rIxT K) ix_tup (pv 0) pe_int (fun _ _ => rfl))) (blkOk_by (N := ["circuit", "readers", "gate", "sources", "_", "kind", "at"]) (sc := defScope sGateReaders) (by decide +kernel))
        (fun _ _ _ _ _ => pg_name (i := 4) scReadersG.nd rfl (Or.inl rfl)) (fun _ _ _ _ _ => pts_nil) (fun _ _ _ _ _ => pe_lst pa_nil))
      (pss_cons (ps_for PassesOwn.never rfl (pi_enumT (by rfl) men (pa_cons (pe_ix (r := rIxT K) ix_tup (pv 0) pe_int (fun _ _ => rfl)) pa_nil)) (pg_tup rfl (pgs_cons (pg_name (i := 2) scReadersG.nd rfl (Or.inl rfl)) (pgs_cons (pg_tup rfl (pgs_cons (pg_name (i := 3) scReadersG.nd rfl (Or.inl rfl)) (pgs_cons (pg_name (i := 4) scReadersG.nd rfl (Or.inl rfl)) pgs_nil))) pgs_nil)))
        (pss_one (ps_for PassesOwn.never rfl (pi_tup (pv 3)) (pg_tup rfl (pgs_cons (pg_name (i := 5) scReadersG.nd rfl (Or.inl rfl)) (pgs_cons (pg_name (i := 6) scReadersG.nd rfl (Or.inl rfl)) pgs_nil)))
          (pss_one (ps_if (pt_cmpR op_eq (pv 5) pe_str (nomark _)) (pss_one (ps_expr (pe_bm PySem.F.plainAttrs_list PySem.F.slot_list_append PySem.F.type_list_append mt_append (pe_ix (r := rIxL K) ix_list (pv 1) (pv 6) (fun _ _ => rfl)) (pa_cons (pv 2) pa_nil)))) pss_nil)))))
      (pss_one (ps_ret (pv 1)))), ?_⟩
    refine ⟨_, rfl, t, _, 2, .ref gaa, rfl, rfl, .inl (.inl et), rfl, gaa, rfl, ⟨_, .inl (.inl eg)⟩, fun D nD => ?_⟩
    have lg : gs.length = C.gates.length := Paired.length hgs
    have k3 := ok.ng
    refine lc_tup (fun i H' => ∃ las : List Addr, las.length = i ∧ RS H H' D las (fun _ => [])) ⟨[], rfl, RS.begin nD⟩ (fun i H' _ ⟨las, _, r⟩ => .inl (.inl (r.keep _ _ eg))) (fun i x H' hx ⟨las, ll, r⟩ => ?_) (fun H' ⟨las, ll, r⟩ => ?_)
    · refine ⟨rfl, Nat.zero_le _, fun L nL => ⟨las.map .ref, ?_, ?_, las ++ [L], by rw [List.length_append, ll]; rfl, r.push nL⟩⟩
      · rw [upd_ne (fun z => by
          have := r.all
          rw [z, nL] at this
          cases this)]
        exact r.all
      · have hi : i < gs.length := (List.getElem?_eq_some_iff.mp hx).1
        rw [List.length_map, ll, sizeLine_eq]
        omega
    · -- the gates, one by one
      rw [lg] at ll
      refine ⟨_, rfl, t, _, 2, .ref gaa, rfl, rfl, .inl (.inl (r.keep _ _ et)), rfl, gaa, gs, rfl, .inl (.inl (r.keep _ _ eg)), for_it walk_enT (fun i σ Hx => ∃ (y2 y3 y4 y5 y6 : Option V) (rd : Nat → List Nat), σ = [some (.ref t), some (.ref D), y2, y3, y4, y5, y6] ∧ RS H Hx D las rd ∧ (∀ k g, g ∈ rd k ↔ g < i ∧ leans C g k) ∧ (∀ k, (rd k).length ≤ 4 * i) ∧ ∀ ks : List Nat, ks.Nodup → tot rd ks ≤ fanG (C.gates.take i))
        ⟨none, none, none, none, none, fun _ => [], rfl, r, fun k g => by simp, fun k => Nat.le_refl _, fun ks _ => by
          have z : ∀ l : List Nat, tot (fun _ => []) l = 0 := fun l => by
            unfold tot
            induction l with
            | nil => rfl
            | cons a r ih => rw [List.map_cons, List.sum_cons, ih]; rfl
          rw [z]
          exact Nat.zero_le _⟩ (fun i σ Hx _ ⟨_, _, _, _, _, _, _, r2, _⟩ => .inl (.inl (r2.keep _ _ eg))) (fun i x σ Hx Hy hi ⟨y2, y3, y4, y5, y6, rd, eσ, r2, mem, len, few⟩ hy => ?_) (fun σ Hx ⟨y2, y3, y4, y5, y6, rd, eσ, r2, mem, len, few⟩ => ?_)⟩
      · subst eσ
        obtain ⟨T, x1, y1, rfl, nT, rfl, hx, hy⟩ := hy
        cases hx
        have hy : gs[i]? = some y1 := hy
        obtain ⟨gt, hg2, hgat⟩ := all_get hgs hy
        obtain ⟨tt, a, b, vs, rfl, ett, ea, hv2, eb⟩ := hgat
        have r3 := r2.same (same_new (o := .tup [.int (i : Nat), .ref tt]) nT)
        have l4 : gt.1.length ≤ 4 := (ok.gates gt (List.mem_of_getElem? hg2)).1
        have lv : vs.length = gt.1.length := Paired.length hv2
        have hii : i < 2000 := by omega
        have back : ∀ k g, leans C g k → g = i → Src.gate k ∈ gt.1 := fun k g z e => by
          obtain ⟨g3, e3, m3⟩ := z
          rw [e, hg2] at e3
          rw [Option.some.inj e3]
          exact m3
        refine ⟨T, _, rfl, .inl (.inl upd_same), rfl, _, _, rfl, _, _, rfl, tt, _, rfl, .inl (.inl (r3.keep _ _ ett)), rfl, _, _, rfl, _, _, rfl, rfl, rfl, ?_⟩
        refine ⟨_, rfl, a, rfl, ⟨vs, .inl (.inl (r3.keep _ _ ea))⟩, for_tup (fun j σ Hx => ∃ (y5 y6 : Option V) (rd : Nat → List Nat), σ = [some (.ref t), some (.ref D), some (.int (i : Nat)), some (.ref a), some (.ref b), y5, y6] ∧ RS H Hx D las rd ∧ (∀ k g, g ∈ rd k ↔ (g < i ∧ leans C g k) ∨ (g = i ∧ Src.gate k ∈ gt.1.take j)) ∧ (∀ k, (rd k).length ≤ 4 * i + j) ∧ ∀ ks : List Nat, ks.Nodup → tot rd ks ≤ fanG (C.gates.take i) + j)
          ⟨y5, y6, rd, rfl, r3, fun k g => by rw [mem]; simp, len, few⟩ (fun j σ Hx _ ⟨_, _, _, _, r4, _⟩ => .inl (.inl (r4.keep _ _ ea))) (fun j x σ Hz hx ⟨y5, y6, rd, eσ, r4, mem, len, few⟩ => ?_) (fun σ Hz ⟨y5, y6, rd, eσ, r4, mem, len, few⟩ => ?_)⟩
        · subst eσ
          obtain ⟨sr, hsr, t2, rfl, et2⟩ := all_get hv2 hx
          have hj : j < gt.1.length := (List.getElem?_eq_some_iff.mp hsr).1
          have tk := take_snoc hsr
          refine ⟨t2, _, rfl, .inl (.inl (r4.keep _ _ et2)), rfl, _, _, rfl, _, _, rfl, rfl, ?_⟩
          refine ⟨_, rfl, rfl, _, rfl, ?_⟩
          have other : ∀ a b : Str, ¬ a = b → decide (V.str a = V.str b) = false := fun a b h => decide_eq_false fun z => h (V.str.inj z)
          have pass : (∀ k, sr ≠ .gate k) → ∀ k g, g ∈ rd k ↔ (g < i ∧ leans C g k) ∨ (g = i ∧ Src.gate k ∈ gt.1.take (j + 1)) := fun nk k g => by
            rw [mem, tk, List.mem_append, List.mem_singleton]
            have : ¬ Src.gate k = sr := fun z => nk k z.symm
            simp [this]
          cases sr with
          | gate k =>
            show (if decide (V.str ("gate" : Str) = V.str "gate") = true then _ else _)
            rw [decide_eq_true rfl]
            have hk : k < C.gates.length := (ok.gates gt (List.mem_of_getElem? hg2)).2.2 _ (List.mem_of_getElem? hsr)
            have hkl : las[k]? = some las[k] := List.getElem?_eq_getElem (by omega)
            refine iteT ⟨_, rfl, _, rfl, D, _, (k : Int), .ref las[k], rfl, rfl, .inl (.inl r4.all), (atI_nat (v := V.ref las[k]) (by rw [List.getElem?_map, hkl]; rfl)), .inl ⟨rfl, _, .inl (.inl (r4.at_ k _ hkl))⟩, _, rfl, las[k], _, _, rfl, rfl, r4.at_ k _ hkl, ?_, _, _, _, rfl, r4.add hkl, fun k2 g => ?_, fun k2 => ?_, fun ks nd => Nat.le_trans (tot_add nd) (by have := few ks nd; omega)⟩
            · have := len k
              unfold nV
              rw [List.length_map, sizeLine_eq]
              omega
            · rw [tk, List.mem_append, List.mem_singleton]
              by_cases e : k2 = k
              · subst e
                rw [if_pos rfl, List.mem_append, List.mem_singleton, mem]
                constructor
                · rintro ((z | z) | z)
                  · exact .inl z
                  · exact .inr ⟨z.1, .inl z.2⟩
                  · exact .inr ⟨z, .inr rfl⟩
                · rintro (z | ⟨z1, z2 | z2⟩)
                  · exact .inl (.inl z)
                  · exact .inl (.inr ⟨z1, z2⟩)
                  · exact .inr z1
              · rw [if_neg e, mem]
                have : ¬ Src.gate k2 = Src.gate k := fun z => e (Src.gate.inj z)
                simp [this]
            · have := len k2
              by_cases e : k2 = k
              · rw [if_pos e, List.length_append, ← e]
                show (rd k2).length + 1 ≤ _
                omega
              · rw [if_neg e]
                omega
          | inp k =>
            show (if decide (V.str ("in" : Str) = V.str "gate") = true then _ else _)
            rw [other _ _ (by decide +kernel)]
            exact iteF ⟨_, _, rd, rfl, r4, pass (fun k z => by cases z), fun k => Nat.le_succ_of_le (len k), fun ks nd => Nat.le_succ_of_le (few ks nd)⟩
          | reg k =>
            show (if decide (V.str ("reg" : Str) = V.str "gate") = true then _ else _)
            rw [other _ _ (by decide +kernel)]
            exact iteF ⟨_, _, rd, rfl, r4, pass (fun k z => by cases z), fun k => Nat.le_succ_of_le (len k), fun ks nd => Nat.le_succ_of_le (few ks nd)⟩
          | bit k =>
            show (if decide (V.str ("bit" : Str) = V.str "gate") = true then _ else _)
            rw [other _ _ (by decide +kernel)]
            exact iteF ⟨_, _, rd, rfl, r4, pass (fun k z => by cases z), fun k => Nat.le_succ_of_le (len k), fun ks nd => Nat.le_succ_of_le (few ks nd)⟩
        · subst eσ
          refine ⟨_, _, _, _, _, rd, rfl, r4, fun k g => ?_, fun k => ?_, fun ks nd => by
            rw [fan_snoc hg2]
            have := few ks nd
            omega⟩
          · rw [mem, lv, List.take_of_length_le (Nat.le_refl _)]
            constructor
            · rintro (⟨z1, z2⟩ | ⟨z1, z2⟩)
              · exact ⟨by omega, z2⟩
              · exact ⟨by omega, gt, by rw [z1]; exact hg2, z2⟩
            · rintro ⟨z1, z2⟩
              by_cases e : g = i
              · exact .inr ⟨e, back k g z2 e⟩
              · exact .inl ⟨by omega, z2⟩
          · have := len k
            omega
      · subst eσ
        refine ⟨_, rfl, q D las rd Hx r2 ll (fun k g => ?_) (fun k => ?_) (fun ks nd => by
          have z := few ks nd
          rw [lg, List.take_length] at z
          exact z)⟩
        · rw [mem]
          refine ⟨fun z => z.2, fun z => ⟨?_, z⟩⟩
          obtain ⟨gt, e, _⟩ := z
          rw [lg]
          exact (List.getElem?_eq_some_iff.mp e).1
        · have := len k
          omega
end
end K02

set_option Elab.async false
set_option linter.all false
set_option maxRecDepth 100000
set_option maxHeartbeats 1000000
/-! The mathematics of sure readings: laps from all None, least where all gates agree. -/
namespace K02
open PySem PySem.Spec L2
open PyProof.Rows GenW GxR
def le1 (a b : Rd) : Prop := a = none ∨ a = b
theorem le1.refl (a : Rd) : le1 a a := .inr rfl
theorem le1.trans {a b c : Rd} (h : le1 a b) (g : le1 b c) : le1 a c := by
  rcases h with h | h
  · exact .inl h
  · rw [h]
    exact g
theorem comp_mono {rs rs' : List Rd} (h : Paired le1 rs rs') : ∀ {bs : List Bool}, Comp rs' bs → Comp rs bs := by
  induction h with
  | nil => exact fun c => c
  | cons r t ih =>
    intro bs c
    rcases r with e | e
    · subst e
      cases c with
      | free b c => exact .free b (ih c)
      | told b c => exact .free b (ih c)
    · subst e
      cases c with
      | free b c => exact .free b (ih c)
      | told b c => exact .told b (ih c)
theorem gateR_mono {tb : List Bool} {rs rs' : List Rd} (h : Paired le1 rs rs') : le1 (gateR tb rs) (gateR tb rs') := by
  cases e : gateR tb rs with
  | none => exact .inl rfl
  | some b =>
    refine .inr ?_
    have e1 := (one_some.mp e).2
    symm
    refine one_some.mpr ⟨fun z => ?_, fun x hx => ?_⟩
    · have := (plc_len rs').2
      rw [List.map_eq_nil_iff] at z
      rw [z] at this
      exact absurd this (by decide)
    · obtain ⟨p, hp, rfl⟩ := List.mem_map.mp hx
      obtain ⟨bs, hc, rfl⟩ := (plc_mem rs' p).mp hp
      exact e1 _ (List.mem_map.mpr ⟨_, (plc_mem rs _).mpr ⟨bs, comp_mono h hc, rfl⟩, rfl⟩)
/-- G tells what F tells -/
def FLe (F G : List Rd) : Prop := F.length = G.length ∧ ∀ i, le1 (F.getD i none) (G.getD i none)
theorem FLe.refl (F : List Rd) : FLe F F := ⟨rfl, fun i => le1.refl _⟩
theorem FLe.trans {F G I : List Rd} (a : FLe F G) (b : FLe G I) : FLe F I := ⟨a.1.trans b.1, fun i => (a.2 i).trans (b.2 i)⟩
theorem srcV_mono {gv hv F G : List Rd} (h : FLe F G) (s : Src) : le1 (srcV gv hv F s) (srcV gv hv G s) := by
  cases s with
  | gate i => exact h.2 i
  | inp i => exact le1.refl _
  | reg i => exact le1.refl _
  | bit b => exact le1.refl _
theorem paired_map {α β : Type} {R : β → β → Prop} {f g : α → β} (h : ∀ x, R (f x) (g x)) : ∀ l : List α, Paired R (l.map f) (l.map g)
  | [] => .nil
  | x :: r => .cons (h x) (paired_map h r)
theorem gateV_mono {gv hv F G : List Rd} (h : FLe F G) (g : Gate) : le1 (gateV gv hv F g) (gateV gv hv G g) := gateR_mono (paired_map (fun s => srcV_mono h s) g.1)
/-- one lap: what is told stays, what is not told is read -/
def readG (gs : List Gate) (gv hv F : List Rd) (i : Nat) : Rd := match gs[i]? with
  | some g => gateV gv hv F g
  | none => none
def lapF (gs : List Gate) (gv hv F : List Rd) : List Rd := (List.range gs.length).map fun i => match F.getD i none with
  | some b => some b
  | none => readG gs gv hv F i
theorem lapF_len (gs : List Gate) (gv hv F : List Rd) : (lapF gs gv hv F).length = gs.length := by simp [lapF]
theorem lapF_get {gs : List Gate} {gv hv F : List Rd} {i : Nat} (h : i < gs.length) : (lapF gs gv hv F).getD i none = match F.getD i none with
  | some b => some b
  | none => readG gs gv hv F i := by
  unfold lapF
  rw [List.getD_eq_getElem?_getD, List.getElem?_map, List.getElem?_range h]
  rfl
theorem lapF_le {gs : List Gate} {gv hv F : List Rd} (h : F.length = gs.length) : FLe F (lapF gs gv hv F) := by
  refine ⟨by rw [lapF_len, h], fun i => ?_⟩
  by_cases hi : i < gs.length
  · rw [lapF_get hi]
    cases F.getD i none with
    | none => exact .inl rfl
    | some b => exact .inr rfl
  · refine .inl ?_
    rw [List.getD_eq_getElem?_getD, List.getElem?_eq_none (by omega)]
    rfl
/-- how many are not told -/
def openN (F : List Rd) : Nat := (F.filter fun r => r.isNone).length
theorem openN_le {F G : List Rd} (h : FLe F G) : openN G ≤ openN F ∧ (openN G = openN F → F = G) := by
  obtain ⟨hl, h⟩ := h
  induction F generalizing G with
  | nil =>
    cases G with
    | nil => exact ⟨Nat.le_refl _, fun _ => rfl⟩
    | cons b r => cases hl
  | cons a r ih =>
    cases G with
    | nil => cases hl
    | cons b r' =>
      have h0 : le1 a b := h 0
      obtain ⟨i1, i2⟩ := ih (G := r') (by simpa using hl) fun i => h (i + 1)
      unfold openN at i1 i2 ⊢
      rcases h0 with e | e
      · subst e
        cases b with
        | none =>
          refine ⟨by simpa using i1, fun z => ?_⟩
          rw [i2 (by simpa using z)]
        | some c =>
          refine ⟨by simp; omega, fun z => ?_⟩
          simp at z
          omega
      · subst e
        cases a with
        | none =>
          refine ⟨by simpa using i1, fun z => ?_⟩
          rw [i2 (by simpa using z)]
        | some c =>
          refine ⟨by simpa using i1, fun z => ?_⟩
          rw [i2 (by simpa using z)]
def lapsF (gs : List Gate) (gv hv : List Rd) : Nat → List Rd → List Rd
  | 0, F => F
  | n + 1, F => lapsF gs gv hv n (lapF gs gv hv F)
/-- the sure readings -/
def sureF (gs : List Gate) (gv hv : List Rd) : List Rd := lapsF gs gv hv gs.length (List.replicate gs.length none)
theorem lapsF_fix {gs : List Gate} {gv hv : List Rd} : ∀ (n : Nat) (F : List Rd), F.length = gs.length → openN F ≤ n → lapF gs gv hv (lapsF gs gv hv n F) = lapsF gs gv hv n F := by
  intro n
  induction n with
  | zero =>
    intro F hl h0
    obtain ⟨a, b⟩ := openN_le (lapF_le (gv := gv) (hv := hv) hl)
    exact (b (by omega)).symm
  | succ n ih =>
    intro F hl hn
    obtain ⟨a, b⟩ := openN_le (lapF_le (gv := gv) (hv := hv) hl)
    by_cases e : openN (lapF gs gv hv F) = openN F
    · have e2 := b e
      have all : ∀ m, lapsF gs gv hv m F = F := fun m => by
        induction m with
        | zero => rfl
        | succ m im =>
          show lapsF gs gv hv m (lapF gs gv hv F) = F
          rw [← e2]
          exact im
      rw [all (n + 1)]
      exact e2.symm
    · exact ih _ (lapF_len _ _ _ _) (by omega)
theorem sureF_fix (gs : List Gate) (gv hv : List Rd) : lapF gs gv hv (sureF gs gv hv) = sureF gs gv hv :=
  lapsF_fix _ _ List.length_replicate (Nat.le_trans (List.length_filter_le _ _) (by rw [List.length_replicate]; exact Nat.le_refl _))
/-- below each filling with which all gates agree -/
theorem lapsF_least {gs : List Gate} {gv hv G : List Rd} (hG : ∀ i, i < gs.length → le1 (readG gs gv hv G i) (G.getD i none)) (lG : G.length = gs.length) : ∀ (n : Nat) (F : List Rd), FLe F G → FLe (lapsF gs gv hv n F) G := by
  intro n
  induction n with
  | zero => exact fun F h => h
  | succ n ih =>
    intro F h
    refine ih _ ⟨by rw [lapF_len, lG], fun i => ?_⟩
    by_cases hi : i < gs.length
    · rw [lapF_get hi]
      cases e : F.getD i none with
      | some b =>
        show le1 (some b) _
        rw [← e]
        exact h.2 i
      | none =>
        refine le1.trans ?_ (hG i hi)
        show le1 (readG gs gv hv F i) _
        unfold readG
        rw [List.getElem?_eq_getElem hi]
        exact gateV_mono h _
    · refine .inl ?_
      rw [List.getD_eq_getElem?_getD, List.getElem?_eq_none (by rw [lapF_len]; omega)]
      rfl
theorem sureF_least {gs : List Gate} {gv hv G : List Rd} (hG : ∀ i, i < gs.length → le1 (readG gs gv hv G i) (G.getD i none)) (lG : G.length = gs.length) : FLe (sureF gs gv hv) G := by
  refine lapsF_least hG lG _ _ ⟨by rw [List.length_replicate, lG], fun i => .inl ?_⟩
  rw [List.getD_eq_getElem?_getD]
  by_cases h : i < gs.length
  · rw [List.getElem?_replicate, if_pos h]
    rfl
  · rw [List.getElem?_eq_none (by rw [List.length_replicate]; omega)]
    rfl
end K02

set_option Elab.async false
set_option linter.all false
set_option maxRecDepth 100000
set_option maxHeartbeats 1000000
/-! What reads otherwise leans on what is told anew; readings told one by one in any sequence. -/
namespace K02
open PySem PySem.Spec L2
open PyProof.Rows GenW GxR
theorem map_congr_mem {α β : Type} {f g : α → β} : ∀ {l : List α}, (∀ x ∈ l, f x = g x) → l.map f = l.map g
  | [], _ => rfl
  | x :: r, h => by
    rw [List.map_cons, List.map_cons, h x List.mem_cons_self, map_congr_mem fun y hy => h y (List.mem_cons_of_mem _ hy)]
theorem gateV_congr {gv hv F G : List Rd} {g : Gate} (h : ∀ k, Src.gate k ∈ g.1 → F.getD k none = G.getD k none) : gateV gv hv F g = gateV gv hv G g := by
  unfold gateV
  rw [map_congr_mem fun s hs => ?_]
  cases s with
  | gate k => exact h k hs
  | inp k => rfl
  | reg k => rfl
  | bit b => rfl
theorem readG_changed {gs : List Gate} {gv hv F G : List Rd} {i : Nat} (h : readG gs gv hv F i ≠ readG gs gv hv G i) : ∃ gt k, gs[i]? = some gt ∧ Src.gate k ∈ gt.1 ∧ F.getD k none ≠ G.getD k none := by
  unfold readG at h
  cases e : gs[i]? with
  | none =>
    rw [e] at h
    exact absurd rfl h
  | some g =>
    rw [e] at h
    have h : gateV gv hv F g ≠ gateV gv hv G g := h
    refine Classical.byContradiction fun n => h (gateV_congr fun k hk => Classical.byContradiction fun z => n ⟨g, k, rfl, hk, z⟩)
theorem getD_set {F : List Rd} {i j : Nat} {x : Rd} (hi : i < F.length) : (F.set i x).getD j none = if i = j then x else F.getD j none := by
  rw [List.getD_eq_getElem?_getD, List.getElem?_set]
  by_cases e : i = j
  · rw [if_pos e, if_pos e, if_pos hi]
    rfl
  · rw [if_neg e, if_neg e, List.getD_eq_getElem?_getD]
theorem set_ge {F : List Rd} {i : Nat} {x : Rd} (hi : i < F.length) (ho : F.getD i none = none) : FLe F (F.set i x) := by
  refine ⟨by rw [List.length_set], fun j => ?_⟩
  rw [getD_set hi]
  by_cases e : i = j
  · rw [← e]
    exact .inl ho
  · rw [if_neg e]
    exact le1.refl _
theorem FLe.antisymm {F G : List Rd} (a : FLe F G) (b : FLe G F) : F = G := by
  refine List.ext_getElem? fun i => ?_
  by_cases h : i < F.length
  · have hg : i < G.length := by
      rw [← a.1]
      exact h
    have x := a.2 i
    have y := b.2 i
    rw [List.getD_eq_getElem?_getD, List.getD_eq_getElem?_getD, List.getElem?_eq_getElem h, List.getElem?_eq_getElem hg] at x y
    have x : le1 F[i] G[i] := x
    have y : le1 G[i] F[i] := y
    rw [List.getElem?_eq_getElem h, List.getElem?_eq_getElem hg]
    rcases x with x | x
    · rcases y with y | y
      · rw [x, y]
      · rw [y]
    · rw [x]
  · rw [List.getElem?_eq_none (by omega), List.getElem?_eq_none (by have := a.1; omega)]
/-- one reading told: what comes is below each filling that agrees -/
theorem set_le {gs : List Gate} {gv hv F G : List Rd} {i : Nat} (hG : le1 (readG gs gv hv G i) (G.getD i none)) (h : FLe F G) (hi : i < F.length) : FLe (F.set i (readG gs gv hv F i)) G := by
  refine ⟨by rw [List.length_set]; exact h.1, fun j => ?_⟩
  rw [getD_set hi]
  by_cases e : i = j
  · rw [if_pos e, ← e]
    refine le1.trans ?_ hG
    unfold readG
    cases gs[i]? with
    | none => exact le1.refl _
    | some g => exact gateV_mono h g
  · rw [if_neg e]
    exact h.2 j
theorem readG_mono {gs : List Gate} {gv hv F G : List Rd} (h : FLe F G) (i : Nat) : le1 (readG gs gv hv F i) (readG gs gv hv G i) := by
  unfold readG
  cases gs[i]? with
  | none => exact le1.refl _
  | some g => exact gateV_mono h g
/-- what is told is what is read -/
def Agr (gs : List Gate) (gv hv F : List Rd) : Prop := ∀ i b, i < gs.length → F.getD i none = some b → readG gs gv hv F i = some b
theorem Agr.lap {gs : List Gate} {gv hv F : List Rd} (h : Agr gs gv hv F) (hl : F.length = gs.length) : Agr gs gv hv (lapF gs gv hv F) := fun i b hi e => by
  have m := readG_mono (gs := gs) (gv := gv) (hv := hv) (lapF_le (gv := gv) (hv := hv) hl) i
  have key : readG gs gv hv F i = some b := by
    rw [lapF_get hi] at e
    cases e2 : F.getD i none with
    | some c =>
      rw [e2] at e
      have e : some c = some b := e
      rw [← e]
      exact h i c hi e2
    | none =>
      rw [e2] at e
      exact e
  rcases m with m | m
  · rw [key] at m
    cases m
  · rw [← m]
    exact key
theorem Agr.laps {gs : List Gate} {gv hv : List Rd} : ∀ (n : Nat) {F : List Rd}, Agr gs gv hv F → F.length = gs.length → Agr gs gv hv (lapsF gs gv hv n F)
  | 0, _, h, _ => h
  | n + 1, _, h, hl => Agr.laps n (h.lap hl) (lapF_len _ _ _ _)
theorem getD_rep (n i : Nat) : (List.replicate n (none : Rd)).getD i none = none := by
  rw [List.getD_eq_getElem?_getD]
  by_cases h : i < n
  · rw [List.getElem?_replicate, if_pos h]
    rfl
  · rw [List.getElem?_eq_none (by rw [List.length_replicate]; omega)]
    rfl
theorem lapsF_len {gs : List Gate} {gv hv : List Rd} : ∀ (n : Nat) {F : List Rd}, F.length = gs.length → (lapsF gs gv hv n F).length = gs.length
  | 0, _, h => h
  | n + 1, _, _ => lapsF_len n (lapF_len _ _ _ _)
theorem sureF_len (gs : List Gate) (gv hv : List Rd) : (sureF gs gv hv).length = gs.length := lapsF_len _ List.length_replicate
/-- all gates agree with the sure readings -/
theorem sureF_agree (gs : List Gate) (gv hv : List Rd) {i : Nat} (hi : i < gs.length) : readG gs gv hv (sureF gs gv hv) i = (sureF gs gv hv).getD i none := by
  have a : Agr gs gv hv (sureF gs gv hv) := Agr.laps _ (fun i b _ e => by
    rw [getD_rep] at e
    cases e) List.length_replicate
  cases e : (sureF gs gv hv).getD i none with
  | some b => exact a i b hi e
  | none =>
    have f := sureF_fix gs gv hv
    have z : (lapF gs gv hv (sureF gs gv hv)).getD i none = none := by rw [f, e]
    rw [lapF_get hi, e] at z
    exact z
theorem lapF_mono {gs : List Gate} {gv hv F G S : List Rd} (h : FLe F G) (hS : FLe G S) (aS : ∀ i, i < gs.length → readG gs gv hv S i = S.getD i none) : FLe (lapF gs gv hv F) (lapF gs gv hv G) := by
  refine ⟨by rw [lapF_len, lapF_len], fun i => ?_⟩
  by_cases hi : i < gs.length
  · have x := h.2 i
    rw [lapF_get hi, lapF_get hi]
    cases e : F.getD i none with
    | some b =>
      rw [e] at x
      rcases x with x | x
      · cases x
      · rw [← x]
        exact le1.refl _
    | none =>
      show le1 (readG gs gv hv F i) _
      cases e2 : G.getD i none with
      | none => exact readG_mono h i
      | some b =>
        show le1 _ (some b)
        have y := hS.2 i
        rw [e2] at y
        rcases y with y | y
        · cases y
        · rw [y, ← aS i hi]
          exact readG_mono (h.trans hS) i
  · refine .inl ?_
    rw [List.getD_eq_getElem?_getD, List.getElem?_eq_none (by rw [lapF_len]; omega)]
    rfl
end K02

set_option Elab.async false
set_option linter.all false
set_option maxRecDepth 100000
set_option maxHeartbeats 1000000
/-! Laps: which gates get their bit in a lap, and where these are looked for. -/
namespace K02
open PySem PySem.Spec L2
open PyProof.Rows GenW GxR
abbrev Lap : Type := List (Nat × Bool)
/-- two rising lists with the same members are one -/
theorem asc_ext : ∀ {l m : List Nat}, l.Pairwise (· < ·) → m.Pairwise (· < ·) → (∀ x, x ∈ l ↔ x ∈ m) → l = m
  | [], [], _, _, _ => rfl
  | [], b :: m, _, _, h => by
    have := (h b).mpr List.mem_cons_self
    cases this
  | a :: l, [], _, _, h => by
    have := (h a).mp List.mem_cons_self
    cases this
  | a :: l, b :: m, hl, hm, h => by
    obtain ⟨l1, l2⟩ := List.pairwise_cons.mp hl
    obtain ⟨m1, m2⟩ := List.pairwise_cons.mp hm
    have e : a = b := by
      rcases List.mem_cons.mp ((h a).mp List.mem_cons_self) with x | x
      · exact x
      · rcases List.mem_cons.mp ((h b).mpr List.mem_cons_self) with y | y
        · exact y.symm
        · have p := m1 a x
          have q := l1 b y
          omega
    subst e
    have t : l = m := asc_ext l2 m2 fun x => by
      constructor
      · intro hx
        rcases List.mem_cons.mp ((h x).mp (List.mem_cons_of_mem _ hx)) with y | y
        · have p := l1 x hx
          omega
        · exact y
      · intro hx
        rcases List.mem_cons.mp ((h x).mpr (List.mem_cons_of_mem _ hx)) with y | y
        · have p := m1 x hx
          omega
        · exact y
    rw [t]
theorem filterMap_filter' {α β : Type} (f : α → Option β) : ∀ l : List α, l.filterMap f = (l.filter fun x => (f x).isSome).filterMap f
  | [] => rfl
  | a :: l => by
    cases e : f a with
    | none =>
      rw [List.filterMap_cons_none e, List.filter_cons_of_neg (by rw [e]; exact Bool.false_ne_true)]
      exact filterMap_filter' f l
    | some b =>
      rw [List.filterMap_cons_some e, List.filter_cons_of_pos (by rw [e]; rfl), List.filterMap_cons_some e, filterMap_filter' f l]
theorem filterMap_same {β : Type} {f : Nat → Option β} {l m : List Nat} (hl : l.Pairwise (· < ·)) (hm : m.Pairwise (· < ·)) (h : ∀ x, (f x).isSome = true → (x ∈ l ↔ x ∈ m)) : l.filterMap f = m.filterMap f := by
  rw [filterMap_filter' f l, filterMap_filter' f m]
  have e : (l.filter fun x => (f x).isSome) = m.filter fun x => (f x).isSome := asc_ext (hl.filter _) (hm.filter _) fun x => by
    rw [List.mem_filter, List.mem_filter]
    exact ⟨fun ⟨a, b⟩ => ⟨(h x b).mp a, b⟩, fun ⟨a, b⟩ => ⟨(h x b).mpr a, b⟩⟩
  rw [e]
/-- what gate i gets in the lap from F on -/
def getsF (gs : List Gate) (gv hv F : List Rd) (i : Nat) : Option (Nat × Bool) := match F.getD i none with
  | some _ => none
  | none => (readG gs gv hv F i).map fun b => (i, b)
def lapOf (gs : List Gate) (gv hv F : List Rd) : Lap := (List.range gs.length).filterMap (getsF gs gv hv F)
theorem gets_some {gs : List Gate} {gv hv F : List Rd} {i : Nat} {p : Nat × Bool} : getsF gs gv hv F i = some p ↔ p.1 = i ∧ F.getD i none = none ∧ readG gs gv hv F i = some p.2 := by
  unfold getsF
  cases e : F.getD i none with
  | some c => simp
  | none =>
    cases e2 : readG gs gv hv F i with
    | none => simp
    | some b =>
      obtain ⟨p1, p2⟩ := p
      simp only [Option.map_some, Option.some.injEq, Prod.mk.injEq, true_and]
      exact ⟨fun ⟨a, b⟩ => ⟨a.symm, b⟩, fun ⟨a, b⟩ => ⟨a.symm, b⟩⟩
theorem lapOf_mem {gs : List Gate} {gv hv F : List Rd} {p : Nat × Bool} : p ∈ lapOf gs gv hv F ↔ p.1 < gs.length ∧ F.getD p.1 none = none ∧ readG gs gv hv F p.1 = some p.2 := by
  unfold lapOf
  rw [List.mem_filterMap]
  constructor
  · rintro ⟨i, hi, e⟩
    obtain ⟨rfl, a, b⟩ := gets_some.mp e
    exact ⟨List.mem_range.mp hi, a, b⟩
  · rintro ⟨a, b, c⟩
    exact ⟨p.1, List.mem_range.mpr a, gets_some.mpr ⟨rfl, b, c⟩⟩
theorem readG_none_of_ge {gs : List Gate} {gv hv F : List Rd} {i : Nat} (h : ¬ i < gs.length) : readG gs gv hv F i = none := by
  unfold readG
  rw [List.getElem?_eq_none (by omega)]
/-- a place to look at: open, and it comes to a bit -/
def Ripe (gs : List Gate) (gv hv F : List Rd) (i : Nat) : Prop := F.getD i none = none ∧ readG gs gv hv F i ≠ none
theorem gets_ripe {gs : List Gate} {gv hv F : List Rd} {i : Nat} (h : (getsF gs gv hv F i).isSome = true) : Ripe gs gv hv F i := by
  obtain ⟨p, e⟩ := Option.isSome_iff_exists.mp h
  obtain ⟨_, a, b⟩ := gets_some.mp e
  exact ⟨a, by rw [b]; simp⟩
theorem lapOf_waiting {gs : List Gate} {gv hv F : List Rd} {ns : List Nat} (asc : ns.Pairwise (· < ·)) (h : ∀ i, Ripe gs gv hv F i → i ∈ ns) : ns.filterMap (getsF gs gv hv F) = lapOf gs gv hv F := by
  refine filterMap_same asc List.pairwise_lt_range fun x hx => ⟨fun _ => ?_, fun _ => h x (gets_ripe hx)⟩
  have r := gets_ripe hx
  refine List.mem_range.mpr (Classical.byContradiction fun z => r.2 (readG_none_of_ge z))
/-- found behind the first of a lap -/
def putL (F : List Rd) (lap : Lap) : List Rd := lap.foldl (fun G p => G.set p.1 (some p.2)) F
theorem putL_len (F : List Rd) (lap : Lap) : (putL F lap).length = F.length := by
  unfold putL
  induction lap generalizing F with
  | nil => rfl
  | cons p r ih =>
    show (r.foldl _ (F.set p.1 (some p.2))).length = _
    rw [ih, List.length_set]
theorem putL_snoc (F : List Rd) (lap : Lap) (p : Nat × Bool) : putL F (lap ++ [p]) = (putL F lap).set p.1 (some p.2) := by
  unfold putL
  rw [List.foldl_append]
  rfl
theorem putL_get {F : List Rd} {i : Nat} : ∀ {lap : Lap} {f : Nat → Rd}, (∀ p ∈ lap, p.1 < F.length ∧ f p.1 = some p.2) → (putL F lap).getD i none = if i ∈ lap.map (·.1) then f i else F.getD i none := by
  intro lap
  induction lap generalizing F with
  | nil =>
    intro f h
    simp [putL]
  | cons p r ih =>
    intro f h
    have h0 := h p List.mem_cons_self
    show (putL (F.set p.1 (some p.2)) r).getD i none = _
    rw [ih (F := F.set p.1 (some p.2)) (f := f) fun q hq => by
      rw [List.length_set]
      exact h q (List.mem_cons_of_mem _ hq)]
    rw [getD_set h0.1]
    by_cases m : i ∈ r.map (·.1)
    · rw [if_pos m, if_pos (by simp only [List.map_cons]; exact List.mem_cons_of_mem _ m)]
    · rw [if_neg m]
      by_cases e : p.1 = i
      · rw [if_pos e, if_pos (by simp [e]), ← e, h0.2]
      · rw [if_neg e, if_neg (by simp only [List.map_cons, List.mem_cons, not_or]; exact ⟨fun z => e z.symm, m⟩)]
theorem lapOf_fst {gs : List Gate} {gv hv F : List Rd} {i : Nat} : i ∈ (lapOf gs gv hv F).map (·.1) ↔ Ripe gs gv hv F i := by
  rw [List.mem_map]
  constructor
  · rintro ⟨p, hp, rfl⟩
    obtain ⟨_, b, c⟩ := lapOf_mem.mp hp
    exact ⟨b, by rw [c]; simp⟩
  · rintro ⟨a, b⟩
    obtain ⟨c, e⟩ := Option.ne_none_iff_exists'.mp b
    refine ⟨(i, c), lapOf_mem.mpr ⟨Classical.byContradiction fun z => ?_, a, e⟩, rfl⟩
    rw [readG_none_of_ge z] at e
    cases e
theorem putL_lap {gs : List Gate} {gv hv F : List Rd} (hl : F.length = gs.length) : putL F (lapOf gs gv hv F) = lapF gs gv hv F := by
  refine List.ext_getElem? fun i => ?_
  have l1 : (putL F (lapOf gs gv hv F)).length = gs.length := by rw [putL_len, hl]
  have l2 : (lapF gs gv hv F).length = gs.length := lapF_len _ _ _ _
  by_cases hi : i < gs.length
  · have e : (putL F (lapOf gs gv hv F)).getD i none = (lapF gs gv hv F).getD i none := by
      rw [putL_get (f := readG gs gv hv F) fun p hp => by
        obtain ⟨a, b, c⟩ := lapOf_mem.mp hp
        exact ⟨by omega, c⟩]
      rw [lapF_get hi]
      by_cases m : i ∈ (lapOf gs gv hv F).map (·.1)
      · rw [if_pos m, (lapOf_fst.mp m).1]
      · rw [if_neg m]
        cases e1 : F.getD i none with
        | some b => rfl
        | none =>
          cases e2 : readG gs gv hv F i with
          | none => rfl
          | some b => exact absurd (lapOf_fst.mpr ⟨e1, by rw [e2]; simp⟩) m
    rw [List.getD_eq_getElem?_getD, List.getD_eq_getElem?_getD, List.getElem?_eq_getElem (by omega), List.getElem?_eq_getElem (by omega)] at e
    rw [List.getElem?_eq_getElem (by omega), List.getElem?_eq_getElem (by omega)]
    exact congrArg some e
  · rw [List.getElem?_eq_none (by omega), List.getElem?_eq_none (by omega)]
theorem lapOf_nil {gs : List Gate} {gv hv F : List Rd} (hl : F.length = gs.length) : lapOf gs gv hv F = [] ↔ lapF gs gv hv F = F := by
  constructor
  · intro e
    rw [← putL_lap hl, e]
    rfl
  · intro e
    cases q : lapOf gs gv hv F with
    | nil => rfl
    | cons p r =>
      have hp : p ∈ lapOf gs gv hv F := by rw [q]; exact List.mem_cons_self
      obtain ⟨a, b, c⟩ := lapOf_mem.mp hp
      have z := lapF_get (gv := gv) (hv := hv) (F := F) a
      rw [e, b] at z
      have z : none = readG gs gv hv F p.1 := z
      rw [c] at z
      cases z
/-- the laps from F on -/
def lapsL (gs : List Gate) (gv hv : List Rd) : Nat → List Rd → List Lap
  | 0, _ => []
  | n + 1, F => if lapOf gs gv hv F = [] then [] else lapOf gs gv hv F :: lapsL gs gv hv n (lapF gs gv hv F)
theorem lapsL_nil {gs : List Gate} {gv hv F : List Rd} (h : lapOf gs gv hv F = []) (n : Nat) : lapsL gs gv hv n F = [] := by
  cases n with
  | zero => rfl
  | succ n => exact if_pos h
theorem openN_lap {gs : List Gate} {gv hv F : List Rd} (hl : F.length = gs.length) (h : lapOf gs gv hv F ≠ []) : openN (lapF gs gv hv F) < openN F := by
  obtain ⟨a, b⟩ := openN_le (lapF_le (gv := gv) (hv := hv) hl)
  have n : openN (lapF gs gv hv F) ≠ openN F := fun z => h ((lapOf_nil hl).mpr (b z).symm)
  omega
theorem openN_len (F : List Rd) : openN F ≤ F.length := List.length_filter_le _ _
/-- enough laps are enough -/
theorem lapsL_enough {gs : List Gate} {gv hv : List Rd} : ∀ (n m : Nat) (F : List Rd), F.length = gs.length → openN F ≤ n → openN F ≤ m → lapsL gs gv hv n F = lapsL gs gv hv m F := by
  intro n
  induction n with
  | zero =>
    intro m F hl h1 h2
    have e : lapOf gs gv hv F = [] := Classical.byContradiction fun z => by
      have := openN_lap hl z
      omega
    rw [lapsL_nil e, lapsL_nil e]
  | succ n ih =>
    intro m F hl h1 h2
    by_cases e : lapOf gs gv hv F = []
    · rw [lapsL_nil e, lapsL_nil e]
    · have lt_ := openN_lap hl e
      cases m with
      | zero => omega
      | succ m =>
        show (if _ then _ else _) = (if _ then _ else _)
        rw [if_neg e, if_neg e, ih m _ (lapF_len _ _ _ _) (by omega) (by omega)]
theorem lapsF_stay {gs : List Gate} {gv hv F : List Rd} (h : lapF gs gv hv F = F) : ∀ n, lapsF gs gv hv n F = F
  | 0 => rfl
  | n + 1 => by
    show lapsF gs gv hv n (lapF gs gv hv F) = F
    rw [h]
    exact lapsF_stay h n
theorem putL_laps {gs : List Gate} {gv hv : List Rd} : ∀ (n : Nat) (F : List Rd), F.length = gs.length → (lapsL gs gv hv n F).foldl putL F = lapsF gs gv hv n F := by
  intro n
  induction n with
  | zero => exact fun F _ => rfl
  | succ n ih =>
    intro F hl
    by_cases e : lapOf gs gv hv F = []
    · rw [lapsL_nil e, lapsF_stay ((lapOf_nil hl).mp e)]
      rfl
    · show (if _ then _ else _ : List Lap).foldl putL F = _
      rw [if_neg e, List.foldl_cons, putL_lap hl, ih _ (lapF_len _ _ _ _)]
      rfl
/-- all laps of a circuit in a case -/
def lapsAll (gs : List Gate) (gv hv : List Rd) : List Lap := lapsL gs gv hv gs.length (List.replicate gs.length none)
theorem lapsAll_put (gs : List Gate) (gv hv : List Rd) : (lapsAll gs gv hv).foldl putL (List.replicate gs.length none) = sureF gs gv hv := putL_laps _ _ List.length_replicate
theorem lapsL_mem {gs : List Gate} {gv hv : List Rd} : ∀ (n : Nat) (F : List Rd) (lap : Lap), lap ∈ lapsL gs gv hv n F → ∀ p ∈ lap, p.1 < gs.length := by
  intro n
  induction n with
  | zero =>
    intro F lap h
    cases h
  | succ n ih =>
    intro F lap h
    by_cases e : lapOf gs gv hv F = []
    · rw [lapsL_nil e] at h
      cases h
    · have h : lap ∈ (if lapOf gs gv hv F = [] then [] else lapOf gs gv hv F :: lapsL gs gv hv n (lapF gs gv hv F)) := h
      rw [if_neg e] at h
      rcases List.mem_cons.mp h with z | z
      · intro p hp
        rw [z] at hp
        exact (lapOf_mem.mp hp).1
      · exact ih _ lap z
/-- what becomes ripe leans on what was told in this lap -/
theorem ripe_next {gs : List Gate} {gv hv F : List Rd} {i : Nat} (hl : F.length = gs.length) (h : Ripe gs gv hv (lapF gs gv hv F) i) : ∃ gt k, gs[i]? = some gt ∧ Src.gate k ∈ gt.1 ∧ k ∈ (lapOf gs gv hv F).map (·.1) := by
  have hF : F.getD i none = none := by
    have m := (lapF_le (gv := gv) (hv := hv) hl).2 i
    rw [h.1] at m
    rcases m with m | m <;> exact m
  have hi : i < gs.length := Classical.byContradiction fun z => h.2 (readG_none_of_ge z)
  have hr : readG gs gv hv F i = none := by
    have z := lapF_get (gv := gv) (hv := hv) (F := F) hi
    rw [h.1, hF] at z
    exact z.symm
  obtain ⟨gt, k, a, b, c⟩ := readG_changed (gs := gs) (gv := gv) (hv := hv) (F := F) (G := lapF gs gv hv F) (i := i) fun z => h.2 (by rw [← z, hr])
  refine ⟨gt, k, a, b, Classical.byContradiction fun z => c ?_⟩
  rw [← putL_lap (gv := gv) (hv := hv) hl, putL_get (f := readG gs gv hv F) fun p hp => by
    obtain ⟨a, b, c⟩ := lapOf_mem.mp hp
    exact ⟨by omega, c⟩]
  rw [if_neg z]
end K02

set_option Elab.async false
set_option linter.all false
set_option maxRecDepth 100000
set_option maxHeartbeats 4000000
/-! set of a list of ints, and sorted of a set of ints of any size. -/
namespace STL
open PySem PySem.Spec PyProof.Rows L2
section
variable {P : Program} {w : World} {A : Around} {E : Value → Shared → Prop} {s : Shared}
/-- an empty set that was just made -/
abbrev bare (w : World) : Obj := { cls := .type "set", dict := none, data := .set #[] 0 (.fresh 0 0 (!w.params.followText "set-order")) }
set_option maxHeartbeats 3200000 in
theorem set_of_list {l : Addr} {xs : Array Value} (ns : List Int) {Q : Value → Shared → Prop} (quiet : A.handled = none) (isL : s.heap.IsList l xs)
    (are : IntsAre xs.toList ns) (few : ns.length + 1 < scanBound)
    (fin : ∀ (g : Heap) (tk c : Nat), SetR w g s.heap.objs.size (fun j => decide (j ∈ ns)) c → c ≤ ns.length →
      (∀ b o, s.heap.get? b = some o → g.get? b = some o) → Q (.ref s.heap.objs.size) { s with heap := g, toks := tk }) :
    wpAny (model P w) A (call (.type "set") [.ref l]) Q E s := by
  have size_ : xs.size = ns.length := by
    rw [← Array.length_toList]
    exact IntsAre.length are
  obtain ⟨cc, rest, mro_⟩ := F.called_set.mro
  have m1 := F.called_set.made
  have m2 := F.called_set.sub
  refine wpAny_call (codeAny_of_tree ?_)
  show wpAny _ _ (callAny (.type "set") _) _ _ _
  refine wpAny_pure ⟨Code.quiet_builtin _ (by decide +kernel), codeAny_builtin F.entry_type_call ?_⟩
  rw [Around.under_plain (weight_type_call_type "set" [.ref l] []) rfl]
  have m3 := F.called_set.notType
  have m4 := F.called_set.canCreate
  have m5 := F.typeCall_set_1 (.ref l)
  repeat (any_goals (first | assumption | wp_step))
  refine codeAny_mono (code_set_led1 (.ref l) (E := E) (Q₁ := fun v s₁ => v = .ref s.heap.objs.size ∧ s₁ = { s with heap := s.heap.push (bare w) }) ⟨rfl, rfl⟩) fun r s₁ got => ?_
  cases r with
  | error e => exact got
  | ok fl =>
    cases fl with
    | ret v =>
      obtain ⟨rfl, rfl⟩ := got
      have at_ : (s.heap.push (bare w)).get? s.heap.objs.size = some (bare w) := Heap.get?_push_size _ rfl
      have ty_ : Shared.TypeIs { s with heap := s.heap.push (bare w) } (.ref s.heap.objs.size) "set" := ⟨_, at_, rfl⟩
      have i1 := F.called_set.init.lookup
      have i2 := F.called_set.init.bind (.ref s.heap.objs.size)
      repeat (any_goals (first | assumption | wp_step))
      refine codeAny_mono (codeAny_call_builtin (R := wants (fun r s₂ => r = .none ∧ ∃ g tk c, s₂ = { s with heap := g, toks := tk } ∧
          SetR w g s.heap.objs.size (fun j => decide (j ∈ ns)) c ∧ c ≤ ns.length ∧ (∀ b o, s.heap.get? b = some o → g.get? b = some o)) E)
        F.called_set.init.plain F.entry_set_init (check_set_init_1 ty_ ?_)) fun r₂ s₂ got₂ => ?_
      · obtain ⟨⟨k1, k2, k3, k4⟩, ol, k5, nl, k6⟩ := isL
        simp only at k5 k6
        subst k5; subst k6
        have ol' : (s.heap.push (bare w)).get? l = some { cls := .type "list", dict := k2, data := .seq xs nl, slots := k4 } := Heap.get?_push_of_some _ ol
        have j1 := F.sub_list_set
        have j2 := F.sub_list_frozenset
        have j3 : (Value.type "list" == Value.type "dict") = false := by decide
        have isL' : (s.heap.push (bare w)).IsList l xs := ⟨_, ol', rfl, nl, rfl⟩
        unfold Builtin.«set.__init__» noKeywords Builtin.Frozenset.updateFrom
        generalize eI : pyIter = PI
        wp_walk
        subst eI
        refine wpAny_pyIter_list isL' ?_
        refine wpAny_bind (wpAny_runValue ?_)
        have lS : l < s.heap.objs.size := Heap.lt_size ol
        have quiet3 : A.in1.in1.in1.handled = none := by simp [quiet]
        have nI : l ≠ (s.heap.push (bare w)).objs.size := by
          rw [Heap.size_push]
          exact Nat.ne_of_lt (Nat.lt_succ_of_lt lS)
        have off : s.heap.objs.size ∉ [(s.heap.push (bare w)).objs.size, l] := by
          rw [Heap.size_push]
          simp only [List.mem_cons, List.not_mem_nil, or_false, not_or]
          exact ⟨Nat.ne_of_lt (Nat.lt_succ_self _), Nat.ne_of_gt lS⟩
        have val : ∀ (i : Nat) (v : Value), xs[i]? = some v → ∃ k t, ns[i]? = some k ∧ v = .int k t := fun i v hv => by
          have hi : i < ns.length := by
            rw [← size_]
            exact (Array.getElem?_eq_some_iff.mp hv).1
          obtain ⟨t, e⟩ := PyProof.Rows.IntsAre.int_at are i v (by rw [Array.getElem?_toList]; exact hv)
          refine ⟨ns[i], t, List.getElem?_eq_getElem hi, e.trans ?_⟩
          rw [List.getD_eq_getElem?_getD, List.getElem?_eq_getElem hi]
          rfl
        refine set_update_ints ((Walks.list quiet3 _ l nI xs).toS) s.heap.objs.size off ns size_ few val (xs.size - 0) 0 _ (by omega) (Nat.zero_le _)
          ⟨⟨_, Heap.get?_push_size _ rfl, rfl, rfl⟩, (isL'.push _)⟩ ⟨0, Nat.le_refl 0, setR_new_at (Heap.get?_push_of_some _ at_)⟩ ?fin_
        intro s' c' mv cl sr
        obtain ⟨g, g2, d', tk', os'⟩ := s'
        have q1 : g2 = s.gens := mv.gens
        have q2 : d' = s.drawn := mv.drawn
        have q3 : os' = s.os := mv.os
        subst q1; subst q2; subst q3
        show wpAny _ _ _ _ _ _
        refine wpAny_pure ?_
        show wpAny _ _ (ret Value.none) _ _ _
        rw [size_] at cl
        refine wpAny_pure ⟨rfl, g, tk', c', rfl, sr, cl, fun b o e => ?_⟩
        have b0 : b < s.heap.objs.size := Heap.lt_size e
        refine mv.heap b o ?_ (Heap.get?_push_of_some _ (Heap.get?_push_of_some _ e))
        rw [Heap.size_push]
        simp only [List.mem_cons, List.not_mem_nil, or_false, not_or]
        exact ⟨Nat.ne_of_lt b0, Nat.ne_of_lt (Nat.lt_succ_of_lt b0)⟩
      · cases r₂ with
        | error e => exact got₂
        | ok fl₂ =>
          cases fl₂ with
          | ret r =>
            obtain ⟨rfl, g, tk, c', rfl, sr, cl, kk⟩ := got₂
            repeat (any_goals (first | assumption | wp_step))
            exact fin _ _ _ sr cl kk
          | _ => exact got₂.elim
    | _ => exact got.elim
/-- sorted of a set of ints, as many as it may have -/
theorem sorted_of_set {a : Addr} {S : Int → Bool} {n : Nat} {Q : Value → Shared → Prop} (R : SetR w s.heap a S n) (quiet : A.handled = none)
    (fin : ∀ s' p (out : Array Value) (c : Nat) (ns : List Int), (∀ b o, s.heap.get? b = some o → s'.heap.get? b = some o) → s'.gens = s.gens → s'.os = s.os → s.heap.objs.size ≤ p →
      s'.heap.get? p = some (seqObj "list" out c) → IntsAre out.toList ns → ns.Pairwise (· < ·) → (∀ k, k ∈ ns ↔ S k = true) → ns.length = n → Q (.ref p) s') :
    wpAny (model P w) A (call (.builtin "sorted") [.ref a]) Q E s := by
  obtain ⟨o, es, ep, t, r1, r2, r3, r4, r5, r6, r7, r8, r9, r10, r11⟩ := R
  refine Calls.call_function_entry kind_sorted plain_sorted entry_sorted (args_sorted1 _) ?_
  unfold Builtin.«sorted»
  refine wpAny_bind (m := checkCount "sorted" 1 1 _) (wpAny_pure ?_)
  refine wpAny_bind (collect_set (A := A.in1) quiet ⟨o, r1, r2.1, r3⟩ r8 r7 r10 r11 fun s1 vs kp hz g1 o1 pm => ?_)
  have len_ : vs.length = n := by
    rw [pm.length_eq, List.length_map, Array.length_toList]
    exact r9
  have ints_ : IntsAre vs (vs.map Builtin.Re.reRawOf) := ints_of vs fun v hv => by
    obtain ⟨e, he, q⟩ := List.mem_map.mp (pm.mem_iff.mp hv)
    obtain ⟨k, tk, h1, _⟩ := r4 e he
    exact ⟨k, tk, by rw [← q]; exact h1⟩
  have pk : (vs.map Builtin.Re.reRawOf).Perm (es.toList.map keyOf) := by
    have q := pm.map Builtin.Re.reRawOf
    rw [List.map_map] at q
    exact q
  have small : vs.length ≤ sizeLine := by
    rw [len_, ← r9]
    exact fits_of_scanBound r7
  refine wpAny_bind (wpAny_newList ?_ small)
  have made : (s1.heap.push (seqObj "list" vs.toArray 0)).get? s1.heap.objs.size = some (seqObj "list" vs.toArray 0) := Heap.get?_push_size _ rfl
  refine wpAny_bind (wpAny_holding (wpAny_call_entry slot_list_sort ⟨_, made, rfl⟩ entry_list_sort
    (SrtO.list_sort_ord SrtO.swo_int made small (fun h2 => SrtO.ints_sortable ints_ h2) fun out h1 h2 => ⟨_, rfl, ?_⟩) (args_list_sort _)))
  obtain ⟨a1, a2, a3⟩ := SrtO.ints_out ints_ h1 h2
  obtain ⟨c, hc⟩ := sortedHeap_at (vs := vs) (out := out.toArray) made
  have pn : (out.map SrtO.iv).Perm (es.toList.map keyOf) := a2.trans pk
  refine wpAny_pure ⟨_, rfl, fin _ s1.heap.objs.size out.toArray c (out.map SrtO.iv) (fun b u e => ?_) g1 o1 hz hc a1 (lt_of_le_nodup _ a3 (pn.nodup_iff.mpr r5)) (fun k => by rw [pn.mem_iff, ← r6 k]) ?_⟩
  · have q := kp b u e
    have lt_ := Heap.lt_size q
    show (sortedHeap (s1.heap.push (seqObj "list" vs.toArray 0)) s1.heap.objs.size vs out.toArray).get? b = some u
    rw [sortedHeap_old (Nat.ne_of_lt lt_) (by rw [size_push']; exact Nat.lt_succ_of_lt lt_)]
    exact Heap.get?_push_of_some _ q
  · rw [pn.length_eq, List.length_map, Array.length_toList]
    exact r9
end
section
variable {X : Cx}
/-- set(ns), ns a list of ints -/
def rSetL (K : PySem.W.Frag) (w : World) : List V → Hp → VK → Prop := fun vs H Q => ∃ (a : Addr) (ns : List Int), vs = [V.ref a] ∧ SqL K H a (ns.map V.int) ∧ ns.length + 1 < scanBound ∧
  ∀ (p : Addr) (c : Nat), H p = none → c ≤ ns.length → Q (.ref p) (upd H p (SetO w p (fun j => decide (j ∈ ns)) c))
theorem cr_setL (hc : X.calm = true) : CallR X (.type "set") (rSetL X.K X.w) := by
  intro pins s σ H vs us Q I r h
  obtain ⟨a, ns, rfl, hs, few, q⟩ := h
  obtain ⟨its, rv, hl, hz⟩ := I.list hs
  rw [Vals.ref1 r]
  refine set_of_list ns (I.ok.hd hc) hl.isList rv.ints few fun g tk c sr cl kp => ?_
  have hn : H s.heap.objs.size = none := I.hok.fresh (Nat.le_refl _)
  refine ⟨.ref _, upd H s.heap.objs.size (SetO X.w s.heap.objs.size (fun j => decide (j ∈ ns)) c), I.laid (t' := tk) kp (Nat.le_refl _) (setO_new sr), rfl, q _ _ hn cl⟩
/-- sorted(S), S a set of ints -/
def rSrtS (w : World) : List V → Hp → VK → Prop := fun vs H Q => ∃ (a : Addr) (S : Int → Bool) (n : Nat), vs = [V.ref a] ∧ H a = some (SetO w a S n) ∧
  ∀ (ns : List Int) (p : Addr), ns.Pairwise (· < ·) → (∀ k : Int, k ∈ ns ↔ S k = true) → ns.length = n → ns.length ≤ 4096 → H p = none → Q (.ref p) (upd H p (.lst (ns.map V.int)))
theorem cr_srtS (hc : X.calm = true) : CallR X (.builtin "sorted") (rSrtS X.w) := by
  intro pins s σ H vs us Q I r h
  obtain ⟨a, S, n, rfl, ha, q⟩ := h
  have R := setO_get I ha
  have nb : n < scanBound := by
    obtain ⟨o, es, ep, t, r1, r2, r3, r4, r5, r6, r7, r8, r9, _⟩ := R
    rw [← r9]
    exact r7
  rw [Vals.ref1 r]
  refine sorted_of_set R (I.ok.hd hc) fun s' p out c ns k g o hp hg hi hs hm hl => ?_
  have hlen : (ns.map V.int).length ≤ sizeLine := by
    rw [List.length_map, hl]
    exact fits_of_scanBound nb
  have hn : H p = none := I.hok.fresh hp
  have J : Inv X pins σ (upd H p (.lst (ns.map V.int))) { s with heap := s'.heap, gens := s'.gens, drawn := s'.drawn, toks := s'.toks } :=
    I.call (ch := []) (Un.laid k hp hn) (I.hok.laid k hp ⟨hlen, out.toList, c, vals_of_ints hi, hg⟩) (by rw [g]; exact I.bare) (fun _ z => nomatch z)
  have e : s' = { s with heap := s'.heap, gens := s'.gens, drawn := s'.drawn, toks := s'.toks } := by
    cases s'
    cases s
    cases o
    rfl
  rw [e]
  exact ⟨.ref p, _, J, rfl, q ns p hs hm hl (by rw [hl]; exact Nat.le_of_lt nb) hn⟩
end
end STL

set_option Elab.async false
set_option linter.all false
set_option maxRecDepth 100000
set_option maxHeartbeats 4000000
/-! sure_laps. -/
namespace K02
open PySem PySem.Spec L2
open PyProof.Rows GenW GxR
open LamX (ExtN)
open EZ STL
abbrev sSureLaps : Stmt := top 32 -- sure_laps
/-- all tuples stay -/
def TupKeep (H H' : Hp) : Prop := ∀ t xs, H t = some (.tup xs) → H' t = some (.tup xs)
theorem TupKeep.of {H H' : Hp} (s : Same H H') : TupKeep H H' := fun _ _ e => s _ _ e
theorem TupKeep.upd {H : Hp} {a : Addr} {o o' : HO} (e : H a = some o) (n : ∀ xs, o ≠ .tup xs) : TupKeep H (L2.upd H a o') := fun t xs z => by
  rw [upd_ne fun q => by
    rw [q, e] at z
    exact n _ (Option.some.inj z)]
  exact z
theorem TupKeep.trans {H H1 H2 : Hp} (a : TupKeep H H1) (b : TupKeep H1 H2) : TupKeep H H2 := fun t xs e => b t xs (a t xs e)
def PairAt (H : Hp) (v : V) (p : Nat × Bool) : Prop := ∃ t, v = .ref t ∧ H t = some (.tup [.int (p.1 : Int), bitV p.2])
theorem PairAt.keep {H H' : Hp} {v : V} {p : Nat × Bool} (h : PairAt H v p) (k : TupKeep H H') : PairAt H' v p := by
  obtain ⟨t, a, b⟩ := h
  exact ⟨t, a, k _ _ b⟩
theorem pairs_keep {H H' : Hp} {us : List V} {lap : Lap} (h : AllAt PairAt H us lap) (k : TupKeep H H') : AllAt PairAt H' us lap := all_ext (fun _ _ r => r.keep k) h
def LapAt (N : Addr → Prop) (H : Hp) (v : V) (lap : Lap) : Prop := ∃ a us, v = .ref a ∧ N a ∧ H a = some (.lst us) ∧ AllAt PairAt H us lap
theorem LapAt.keep {N : Addr → Prop} {H H' : Hp} {v : V} {lap : Lap} (h : LapAt N H v lap) (k : TupKeep H H') (kl : ∀ a us, N a → H a = some (.lst us) → H' a = some (.lst us)) : LapAt N H' v lap := by
  obtain ⟨a, us, e, n, b, c⟩ := h
  exact ⟨a, us, e, n, kl _ _ n b, pairs_keep c k⟩
theorem laps_keep {N : Addr → Prop} {H H' : Hp} {vs : List V} {laps : List Lap} (h : AllAt (LapAt N) H vs laps) (k : TupKeep H H') (kl : ∀ a us, N a → H a = some (.lst us) → H' a = some (.lst us)) : AllAt (LapAt N) H' vs laps := all_ext (fun _ _ r => r.keep k kl) h
theorem LapAt.weak {N M : Addr → Prop} {H : Hp} {v : V} {lap : Lap} (h : LapAt N H v lap) (k : ∀ a, N a → M a) : LapAt M H v lap := by
  obtain ⟨a, us, e, n, b, c⟩ := h
  exact ⟨a, us, e, k _ n, b, c⟩
theorem paired_snoc {α β : Type} {R : α → β → Prop} {a : α} {b : β} : ∀ {xs : List α} {ys : List β}, Paired R xs ys → R a b → Paired R (xs ++ [a]) (ys ++ [b])
  | _, _, .nil, r => .cons r .nil
  | _, _, .cons h t, r => .cons h (paired_snoc t r)
theorem paired_imp {α β : Type} {R S : α → β → Prop} (f : ∀ a b, R a b → S a b) : ∀ {xs : List α} {ys : List β}, Paired R xs ys → Paired S xs ys
  | _, _, .nil => .nil
  | _, _, .cons h t => .cons (f _ _ h) (paired_imp f t)
theorem nV_int (ns : List Nat) : nV ns = (ns.map fun n : Nat => (n : Int)).map V.int := by
  unfold nV
  rw [List.map_map]
  rfl
theorem nV_len (ns : List Nat) : (nV ns).length = ns.length := List.length_map ..
theorem nV_get {ns : List Nat} {i : Nat} {x : V} (h : (nV ns)[i]? = some x) : ∃ n : Nat, ns[i]? = some n ∧ x = .int (n : Int) := by
  unfold nV at h
  rw [List.getElem?_map] at h
  obtain ⟨p, hp, e⟩ := Option.map_eq_some_iff.mp h
  exact ⟨p, hp, e.symm⟩
theorem rep_none (n : Nat) : (List.replicate n [V.non]).flatten = (List.replicate n (none : Rd)).map rdV := by
  induction n with
  | zero => rfl
  | succ n ih =>
    rw [List.replicate_succ, List.flatten_cons, ih, List.replicate_succ]
    rfl
theorem rgV_nV (n : Nat) : rgV 0 (n : Int) = nV (List.range n) := by
  unfold rgV nV
  have e : ((n : Int) - 0).toNat = n := by omega
  rw [e]
  exact map_congr_mem fun x _ => by rw [Int.zero_add]
/-- rising whole numbers whose members are these -/
theorem ints_nats {ns : List Int} {acc : List Nat} (h : ∀ k : Int, k ∈ ns ↔ k ∈ acc.map fun n : Nat => (n : Int)) (asc : ns.Pairwise (· < ·)) : ∃ ms : List Nat, ns.map V.int = nV ms ∧ ms.Pairwise (· < ·) ∧ ∀ i, i ∈ ms ↔ i ∈ acc := by
  have nn : ∀ k ∈ ns, 0 ≤ k := fun k hk => by
    obtain ⟨n, _, rfl⟩ := List.mem_map.mp ((h k).mp hk)
    exact Int.natCast_nonneg n
  refine ⟨ns.map Int.toNat, ?_, ?_, fun i => ?_⟩
  · unfold nV
    rw [List.map_map]
    exact map_congr_mem fun k hk => by
      show V.int k = V.int ((k.toNat : Nat) : Int)
      rw [Int.toNat_of_nonneg (nn k hk)]
  · refine List.pairwise_map.mpr (asc.imp_of_mem fun {a b} ha hb lt_ => ?_)
    have x := nn a ha
    have y := nn b hb
    omega
  · rw [List.mem_map]
    constructor
    · rintro ⟨k, hk, rfl⟩
      obtain ⟨n, hn, e⟩ := List.mem_map.mp ((h k).mp hk)
      rw [← e]
      exact hn
    · intro hi
      exact ⟨(i : Int), (h _).mpr (List.mem_map.mpr ⟨i, hi, rfl⟩), rfl⟩
theorem asc_nodup : ∀ {l : List Nat}, l.Pairwise (· < ·) → l.Nodup := fun h => h.imp fun {a b} lt_ z => by omega
theorem asc_len : ∀ {l : List Nat} {a n : Nat}, l.Pairwise (· < ·) → (∀ x ∈ l, a ≤ x ∧ x < n) → l.length ≤ n - a
  | [], _, _, _, _ => Nat.zero_le _
  | x :: r, a, n, h, m => by
    obtain ⟨h1, h2⟩ := List.pairwise_cons.mp h
    have hx := m x List.mem_cons_self
    have ih := asc_len (a := x + 1) (n := n) h2 fun y hy => ⟨h1 y hy, (m y (List.mem_cons_of_mem _ hy)).2⟩
    rw [List.length_cons]
    omega
theorem lapOf_asc (gs : List Gate) (gv hv F : List Rd) : ((lapOf gs gv hv F).map (·.1)).Nodup := by
  refine asc_nodup ?_
  unfold lapOf
  generalize hr : List.range gs.length = l
  have asc : l.Pairwise (· < ·) := by
    rw [← hr]
    exact List.pairwise_lt_range
  clear hr
  induction l with
  | nil => exact List.Pairwise.nil
  | cons a r ih =>
    obtain ⟨h1, h2⟩ := List.pairwise_cons.mp asc
    cases e : getsF gs gv hv F a with
    | none =>
      rw [List.filterMap_cons_none e]
      exact ih h2
    | some p =>
      rw [List.filterMap_cons_some e, List.map_cons]
      refine List.pairwise_cons.mpr ⟨fun x hx => ?_, ih h2⟩
      obtain ⟨q, hq, rfl⟩ := List.mem_map.mp hx
      obtain ⟨i, hi, e2⟩ := List.mem_filterMap.mp hq
      rw [(gets_some.mp e).1, (gets_some.mp e2).1]
      exact h1 i hi
theorem nodup_take {l : List Nat} (h : l.Nodup) (i : Nat) : (l.take i).Nodup := h.sublist (List.take_sublist i l)
theorem rdV_isN {r : Rd} : decide (rdV r = .non) = r.isNone := by
  cases r with
  | none => rfl
  | some c => cases c <;> rfl
section
variable {P : Program} {w : World} {K : PySem.W.Frag} {mg : Str → Option Value} {base : Heap}
def spLaps (K : PySem.W.Frag) : Sp := fun vs H Q _ => ∃ (y : V) (C : Circ) (ga ha : Addr) (gv hv : List Rd), vs = [y, .ref ga, .ref ha] ∧ CircAt H y C ∧ C.ok ∧ gv.length = C.ni ∧ hv.length = C.regs.length ∧ SqT K H ga (gv.map rdV) ∧ SqT K H ha (hv.map rdV) ∧ fanG C.gates ≤ 4000 ∧
  ∀ (r : Addr) (us : List V) (H' : Hp), Same H H' → H r = none → H' r = some (.lst us) → AllAt (LapAt fun a => H a = none) H' us (lapsAll C.gates gv hv) → Q (.ref r) H'
abbrev nSL : List Str := ["circuit", "given", "held", "readers", "found", "waiting", "told", "lap", "gate", "reading", "bit", "near", "_", "reader"]
theorem scSL : FnScope nSL ["circuit", "given", "held"] (defScope sSureLaps) := ⟨rfl, rfl, rfl, by decide +kernel, rfl, by decide +kernel, by decide +kernel⟩
theorem ok_sureLaps {f fR fN : Addr} {fd fdR fdN : FuncData} (F : Fun K "sure_laps" "sure_laps" sSureLaps f fd) (mlen : mg "len" = none) (mlist : mg "list" = none) (mrange : mg "range" = none) (msorted : mg "sorted" = none) (mset : mg "set" = none)
    (GR : FnOk P w K mg base CX0 1 fR fdR ["circuit"] spReadersG) (kR : PySem.W.keepIn K (.ref fR) = true) (bR : Binds K fdR ["circuit"] []) (mR : mg "gate_readers" = some (.ref fR))
    (GN : FnOk P w K mg base CX0 2 fN fdN ["circuit", "gate", "given", "held", "gates"] (spGateNow K)) (kN : PySem.W.keepIn K (.ref fN) = true) (bN : Binds K fdN ["circuit", "gate", "given", "held", "gates"] []) (mN : mg "gate_now" = some (.ref fN)) :
    FnOk P w K mg base CX0 3 f fd ["circuit", "given", "held"] (spLaps K) := by
  refine F.ok scSL (fun vs H Q E h => ?_) (fun cdv A outer s H vs Q E hr h => ?_)
  · obtain ⟨y, C, ga, ha, gv, hv, rfl, _⟩ := h
    rfl
  · obtain ⟨y, C, ga, ha, gv, hv, rfl, hC, ok, lgv, lhv, hg, hh, fan, q⟩ := h
    refine ⟨_, pss_cons (ps_set (i := 3) scSL.nd rfl (Or.inr rfl) (pe_call GR (hr.mono (by decide)) (by rfl) mR kR bR .nil pass0 (pa_cons (pv 0) pa_nil)))
      (pss_cons (ps_set (i := 4) scSL.nd rfl (Or.inr rfl) (pe_op op_rep (pe_lst (pa_cons pe_non pa_nil)) (pe_callB call_len_seq (by rfl) mlen PySem.boot_len (pa_cons (pe_ix (r := rIxT K) ix_tup (pv 0) pe_int (fun _ _ => rfl)) pa_nil))))
      (pss_cons (ps_set (i := 5) scSL.nd rfl (Or.inl rfl) (pe_listRg rfl (by rfl) mlist (prg_1 (by rfl) mrange (pe_callB call_len_seq (by rfl) mlen PySem.boot_len (pa_cons (pe_ix (r := rIxT K) ix_tup (pv 0) pe_int (fun _ _ => rfl)) pa_nil)))))
      (pss_cons (ps_set (i := 6) scSL.nd rfl (Or.inl rfl) (pe_lst pa_nil))
      (pss_one (ps_while PassesOwn.never (pt_val pe_bl)
        (pss_cons (ps_set (i := 7) scSL.nd rfl (Or.inl rfl) (pe_lst pa_nil))
        (pss_cons (ps_for PassesOwn.never rfl (pi_list (pv 5)) (pg_name (i := 8) scSL.nd rfl (Or.inl rfl))
          (pss_cons (ps_set (i := 9) scSL.nd rfl (Or.inl rfl) (pe_call GN hr (by rfl) mN kN bN .nil pass0 (pa_cons (pv 0) (pa_cons (pv 8) (pa_cons (pv 1) (pa_cons (pv 2) (pa_cons (pv 4) pa_nil)))))))
          (pss_one (ps_if (pt_cmpR op_notN (pv 9) pe_non (nomark _)) (pss_one (ps_expr (pe_bm PySem.F.plainAttrs_list PySem.F.slot_list_append PySem.F.type_list_append mt_append (pv 7) (pa_cons (pe_tup (pa_cons (pv 8) (pa_cons (pv 9) pa_nil))) pa_nil)))) pss_nil))))
        (pss_cons (ps_if (pt_not (pt_truth (pv 7) (fun _ => rfl))) (pss_one (ps_ret (pv 6))) pss_nil)
        (pss_cons (ps_expr (pe_bm PySem.F.plainAttrs_list PySem.F.slot_list_append PySem.F.type_list_append mt_append (pv 6) (pa_cons (pv 7) pa_nil)))
        (pss_cons (ps_for PassesOwn.never rfl (pi_list (pv 7)) (pg_tup rfl (pgs_cons (pg_name (i := 8) scSL.nd rfl (Or.inl rfl)) (pgs_cons (pg_name (i := 10) scSL.nd rfl (Or.inl rfl)) pgs_nil)))
          (pss_one (ps_asg (pv 10) (pg_sub (pv 4) (pv 8) set_list))))
        (pss_cons (ps_setLc2 (i := 11) (own := [("gate", 8), ("_", 12), ("reader", 13)]) (vs1 := [13]) (g := gTup K 2 (gCons (gName 8) (gCons (gName 12) gNil))) (g1 := gName 13) (wi1 := iList K _) (tt := tYes) rfl scSL.nd rfl rfl (sw_true rfl rfl rfl (by decide +kernel)) (pi_list (pv 7)) (blkOk_by (N := nSL) (sc := defScope sSureLaps) (by decide +kernel)) (by decide)
            (fun _ _ _ _ _ => pg_tup rfl (pgs_cons (pg_name (i := 8) scSL.nd rfl (Or.inl rfl)) (pgs_cons (pg_name (i := 12) scSL.nd rfl (Or.inl rfl)) pgs_nil))) (fun _ _ _ _ _ => pts_nil)
            (fun _ _ _ _ _ => pi_list (pe_ix (r := rIxL K) ix_list (pv 3) (pv 8) (fun _ _ => rfl))) (fun _ _ _ _ _ => pg_name (i := 13) scSL.nd rfl (Or.inl rfl))
            (fun _ _ _ _ _ => pts_one (pt_cmpR op_isN (pe_ix (r := rIxL K) ix_list (pv 4) (pv 13) (fun _ _ => rfl)) pe_non (nomark _))) (fun _ _ _ _ _ => pv 13))
        (pss_one (ps_set (i := 5) scSL.nd rfl (Or.inl rfl) (pe_callB (cr_srtS rfl) (by rfl) msorted (by decide +kernel) (pa_cons (pe_callTy (cr_setL rfl) (by rfl) mset (by decide +kernel) (pa_cons (pv 11) pa_nil)) pa_nil))))))))))))))), ?_⟩
    have hC' := hC
    obtain ⟨t, ra, gaa, oa, rs, gs, os, rfl, et, er, eg, eo, hrs, hgs, hos⟩ := hC'
    have lg : gs.length = C.gates.length := Paired.length hgs
    have k3 := ok.ng
    -- readers, found, waiting, told
    refine ⟨_, rfl, .ref t, C, rfl, hC, ok, fun R las rd H1 r ll mem rlen rtot => ?_⟩
    have s01 : Same H H1 := r.keep
    refine ⟨(by show 1 ≤ sizeLine; decide), fun p np => ?_⟩
    refine ⟨_, rfl, t, _, 2, .ref gaa, rfl, rfl, .inl (.inl (same_new np _ _ (s01 _ _ et))), rfl, gaa, gs, rfl, .inr (.inl (.inl (same_new np _ _ (s01 _ _ eg)))), p, _, [V.non], rfl, rfl, upd_same, by omega, by omega, ?_, fun fa nfa => ?_⟩
    · rw [sizeLine_eq]
      show 1 * ((gs.length : Int)).toNat ≤ _
      omega
    have n1p : Same H1 (L2.upd H1 p (.lst [V.non])) := same_new np
    generalize hHp : L2.upd H1 p (.lst [V.non]) = Hp1 at nfa n1p
    have e2 : (L2.upd Hp1 fa (.lst (List.replicate ((gs.length : Int)).toNat [V.non]).flatten)) fa = some (.lst ((List.replicate C.gates.length (none : Rd)).map rdV)) := by
      rw [upd_same, Int.toNat_natCast, lg, rep_none]
    have s12 : Same H1 (L2.upd Hp1 fa (.lst (List.replicate ((gs.length : Int)).toNat [V.non]).flatten)) := n1p.trans (same_new nfa)
    have n1fa : H1 fa = none := n1p.free nfa
    generalize L2.upd Hp1 fa (.lst (List.replicate ((gs.length : Int)).toNat [V.non]).flatten) = H2 at e2 s12
    clear hHp n1p nfa np
    refine ⟨_, rfl, t, _, 2, .ref gaa, rfl, rfl, .inl (.inl (s12 _ _ (s01 _ _ et))), rfl, gaa, gs, rfl, .inr (.inl (.inl (s12 _ _ (s01 _ _ eg)))), _, rfl, RgOk.of_le (by decide) (by omega) (by decide) (by omega), fun wa nwa => ?_⟩
    have e3 : (L2.upd H2 wa (.lst (rgV 0 (gs.length : Int)))) wa = some (.lst (nV (List.range C.gates.length))) := by rw [upd_same, lg, rgV_nV]
    have s23 : Same H2 (L2.upd H2 wa (.lst (rgV 0 (gs.length : Int)))) := same_new nwa
    generalize L2.upd H2 wa (.lst (rgV 0 (gs.length : Int))) = H3 at e3 s23
    refine ⟨Nat.zero_le _, fun ta nta => ?_⟩
    have s34 : Same H3 (L2.upd H3 ta (.lst [])) := same_new nta
    have e4 : (L2.upd H3 ta (.lst [])) ta = some (.lst []) := upd_same
    have n1ta : H1 ta = none := s12.free (s23.free nta)
    have fata : fa ≠ ta := fun z => by
      have := s23 _ _ e2
      rw [z, nta] at this
      cases this
    generalize L2.upd H3 ta (.lst []) = H4 at e4 s34
    have n0ta : H ta = none := s01.free n1ta
    -- while True
    refine ⟨fun m σ Hx => ∃ (F : List Rd) (ns : List Nat) (vs : List V) (laps : List Lap) (wa : Addr) (y7 y8 y9 y10 y11 : Option V), σ = [some (.ref t), some (.ref ga), some (.ref ha), some (.ref R), some (.ref fa), some (.ref wa), some (.ref ta), y7, y8, y9, y10, y11, none, none] ∧
        m = openN F ∧ Same H1 Hx ∧ Hx fa = some (.lst (F.map rdV)) ∧ Hx ta = some (.lst vs) ∧ AllAt (LapAt fun a => a ≠ fa ∧ a ≠ ta ∧ H1 a = none) Hx vs laps ∧ Hx wa = some (.lst (nV ns)) ∧ ns.Pairwise (· < ·) ∧ (∀ i ∈ ns, F.getD i none = none ∧ i < C.gates.length) ∧
        (∀ i, Ripe C.gates gv hv F i → i ∈ ns) ∧ laps ++ lapsL C.gates gv hv C.gates.length F = lapsAll C.gates gv hv ∧ F.length = C.gates.length ∧ laps.length + openN F ≤ C.gates.length,
      ⟨_, _, _, _, _, _, _, _, _, _, _, rfl, rfl, (s12.trans s23).trans s34, s34 _ _ (s23 _ _ e2), e4, .nil, s34 _ _ e3, List.pairwise_lt_range, fun i hi => ⟨getD_rep _ _, List.mem_range.mp hi⟩, fun i hi => ?_, rfl, List.length_replicate, ?_⟩, fun m σ Hx hW => ?_⟩
    · exact List.mem_range.mpr (Classical.byContradiction fun z => hi.2 (readG_none_of_ge z))
    · have z := openN_len (List.replicate C.gates.length (none : Rd))
      rw [List.length_replicate] at z
      show 0 + _ ≤ _
      omega
    obtain ⟨F, ns, vs, laps, wa, y7, y8, y9, y10, y11, rfl, rfl, s1x, efa, eta, hlaps, ewa, asc, hns, ripe, hall, lF, hfew⟩ := hW
    have lvs : vs.length = laps.length := Paired.length hlaps
    have sx : Same H Hx := s01.trans s1x
    refine ⟨true, rfl, iteT ⟨fun σ' H' => ∃ (F' : List Rd) (ns : List Nat) (vs : List V) (laps : List Lap) (wa : Addr) (y7 y8 y9 y10 y11 : Option V), σ' = [some (.ref t), some (.ref ga), some (.ref ha), some (.ref R), some (.ref fa), some (.ref wa), some (.ref ta), y7, y8, y9, y10, y11, none, none] ∧
        openN F' < openN F ∧ Same H1 H' ∧ H' fa = some (.lst (F'.map rdV)) ∧ H' ta = some (.lst vs) ∧ AllAt (LapAt fun a => a ≠ fa ∧ a ≠ ta ∧ H1 a = none) H' vs laps ∧ H' wa = some (.lst (nV ns)) ∧ ns.Pairwise (· < ·) ∧ (∀ i ∈ ns, F'.getD i none = none ∧ i < C.gates.length) ∧
        (∀ i, Ripe C.gates gv hv F' i → i ∈ ns) ∧ laps ++ lapsL C.gates gv hv C.gates.length F' = lapsAll C.gates gv hv ∧ F'.length = C.gates.length ∧ laps.length + openN F' ≤ C.gates.length,
      fun σ' H' ⟨F', ns, vs, laps, wa, a7, a8, a9, a10, a11, b1, b2, b3⟩ => ⟨openN F', b2, F', ns, vs, laps, wa, a7, a8, a9, a10, a11, b1, rfl, b3⟩, ?_⟩⟩
    -- lap = []
    refine ⟨Nat.zero_le _, fun la nla => ?_⟩
    have fala : fa ≠ la := fun z => by
      rw [z, nla] at efa
      cases efa
    have tala : ta ≠ la := fun z => by
      rw [z, nla] at eta
      cases eta
    have n1la : H1 la = none := s1x.free nla
    -- for gate in waiting
    refine ⟨_, rfl, wa, rfl, ⟨nV ns, .inl (.inl (same_new nla _ _ ewa))⟩, for_list (fun i σ Hy => ∃ (y8 y9 : Option V) (us : List V), σ = [some (.ref t), some (.ref ga), some (.ref ha), some (.ref R), some (.ref fa), some (.ref wa), some (.ref ta), some (.ref la), y8, y9, y10, y11, none, none] ∧
        Same Hx Hy ∧ Hy la = some (.lst us) ∧ AllAt PairAt Hy us ((ns.take i).filterMap (getsF C.gates gv hv F)) ∧ us.length ≤ i)
      ⟨y8, y9, [], rfl, same_new nla, upd_same, .nil, Nat.le_refl _⟩ (fun i σ Hy _ ⟨_, _, _, _, k, _⟩ => .inl (.inl (k _ _ ewa))) (fun i x σ Hy hx ⟨y8, y9, us, eσ, k, ela, hus, hul⟩ => ?_) (fun σ Hy ⟨y8, y9, us, eσ, k, ela, hus, hul⟩ => ?_)⟩
    · subst eσ
      obtain ⟨g, hgi, rfl⟩ := nV_get hx
      have hg0 := hns g (List.mem_of_getElem? hgi)
      have tk := take_snoc hgi
      have hgt : C.gates[g]? = some C.gates[g] := List.getElem?_eq_getElem hg0.2
      have gok := ok.gates _ (List.mem_of_getElem? hgt)
      have sy : Same H Hy := sx.trans k
      refine ⟨_, rfl, _, rfl, _, rfl, _, rfl, _, rfl, .ref t, C, g, C.gates[g], ga, ha, fa, gv, hv, F, rfl, hC.ext (extN_same sy), hgt, ?_, extN_seqT (extN_same sy) hg, extN_seqT (extN_same sy) hh, k _ _ efa, fun Hz sz => ?_⟩
      · rw [lgv, lhv, lF]
        exact gok
      have er_ : gateV gv hv F C.gates[g] = readG C.gates gv hv F g := by
        unfold readG
        rw [hgt]
      rw [er_]
      refine ⟨_, rfl, rfl, _, rfl, ?_⟩
      have ge : getsF C.gates gv hv F g = (readG C.gates gv hv F g).map fun b => (g, b) := by
        unfold getsF
        rw [hg0.1]
      cases er2 : readG C.gates gv hv F g with
      | none =>
        rw [er2] at ge
        refine iteF ⟨_, _, us, rfl, k.trans sz, sz _ _ ela, ?_, Nat.le_succ_of_le hul⟩
        rw [tk, List.filterMap_append, List.filterMap_cons_none ge, List.filterMap_nil, List.append_nil]
        exact pairs_keep hus (.of sz)
      | some b =>
        rw [er2] at ge
        have nb : decide (rdV (some b) = V.non) = false := by cases b <;> rfl
        rw [nb]
        refine iteT ⟨_, rfl, .inl ⟨rfl, us, .inl (.inl (sz _ _ ela))⟩, _, rfl, _, rfl, (by show 2 ≤ sizeLine; decide), fun p np => ?_⟩
        have sp := same_new (o := .tup [.int (g : Int), rdV (some b)]) np
        have epp : (L2.upd Hz p (.tup [.int (g : Int), rdV (some b)])) p = some (.tup [.int (g : Int), rdV (some b)]) := upd_same
        generalize L2.upd Hz p (.tup [.int (g : Int), rdV (some b)]) = Hq at sp epp
        have skq : Same Hy Hq := sz.trans sp
        have elq := skq _ _ ela
        refine ⟨la, us, _, rfl, rfl, elq, ?_, _, _, us ++ [.ref p], rfl, fun c o e => ?_, upd_same, ?_, ?_⟩
        · rw [sizeLine_eq]
          have : ns.length ≤ C.gates.length - 0 := asc_len asc fun x hx => ⟨Nat.zero_le _, (hns x hx).2⟩
          have hlt : i < ns.length := (List.getElem?_eq_some_iff.mp hgi).1
          omega
        · rw [upd_ne (ne_of_none e nla)]
          exact skq _ _ (k _ _ e)
        · rw [tk, List.filterMap_append, List.filterMap_cons_some ge, List.filterMap_nil]
          have tu : TupKeep Hq (L2.upd Hq la (.lst (us ++ [.ref p]))) := TupKeep.upd elq fun xs z => by cases z
          exact paired_snoc (pairs_keep hus ((TupKeep.of skq).trans tu)) ⟨p, rfl, tu _ _ epp⟩
        · rw [List.length_append]
          show us.length + 1 ≤ i + 1
          omega
    subst eσ
    rw [nV_len, List.take_length, lapOf_waiting asc ripe] at hus
    have lus : us.length = (lapOf C.gates gv hv F).length := Paired.length hus
    have sy : Same H Hy := sx.trans k
    -- if not lap: return told
    have klap : ∀ (a : Addr) (zs : List V), (a ≠ fa ∧ a ≠ ta ∧ H1 a = none) → Hx a = some (.lst zs) → Hy a = some (.lst zs) := fun a zs _ e => k _ _ e
    by_cases hnil : lapOf C.gates gv hv F = []
    · have un : us = [] := by
        cases us with
        | nil => rfl
        | cons a r => rw [hnil] at lus; cases lus
      rw [lapsL_nil hnil, List.append_nil] at hall
      have hl2 : AllAt (LapAt fun a => a ≠ fa ∧ a ≠ ta ∧ H1 a = none) Hx vs (lapsAll C.gates gv hv) := by
        rw [← hall]
        exact hlaps
      have tr : TruV K (.ref la) Hy false := .inl ⟨us, .inl (.inl ela), by rw [un]; rfl⟩
      exact ⟨_, rfl, false, tr, iteT ⟨_, rfl, q ta vs Hy sy n0ta (k _ _ eta) (paired_imp (fun a b r => r.weak fun z hz => s01.free hz.2.2) (laps_keep hl2 (.of k) klap))⟩⟩
    · have un : us ≠ [] := fun z => hnil (List.length_eq_zero_iff.mp (by rw [← lus, z]; rfl))
      have tr : TruV K (.ref la) Hy true := .inl ⟨us, .inl (.inl ela), by
        cases us with
        | nil => exact absurd rfl un
        | cons a r => rfl⟩
      -- told.append(lap)
      refine ⟨_, rfl, true, tr, iteF ⟨_, rfl, .inl ⟨rfl, vs, .inl (.inl (k _ _ eta))⟩, _, rfl, ta, vs, _, rfl, rfl, k _ _ eta, (by rw [lvs, sizeLine_eq]; omega), ?_⟩⟩
      have efay := k _ _ efa
      have etay := k _ _ eta
      have keep2 : ∀ b o, b ≠ ta → Hy b = some o → (L2.upd Hy ta (.lst (vs ++ [.ref la]))) b = some o := fun b o n e => by
        rw [upd_ne n]
        exact e
      have tup2 : TupKeep Hy (L2.upd Hy ta (.lst (vs ++ [.ref la]))) := TupKeep.upd etay fun xs z => by cases z
      have eta2 : (L2.upd Hy ta (.lst (vs ++ [.ref la]))) ta = some (.lst (vs ++ [.ref la])) := upd_same
      generalize L2.upd Hy ta (.lst (vs ++ [.ref la])) = Ha at keep2 tup2 eta2
      have ela2 := keep2 _ _ tala.symm ela
      have efa2 := keep2 _ _ fata efay
      have hus2 := pairs_keep hus tup2
      -- found[gate] = bit
      refine ⟨_, rfl, la, rfl, ⟨us, .inl (.inl ela2)⟩, for_list (fun i σ Hz => ∃ (y8 y10 : Option V), σ = [some (.ref t), some (.ref ga), some (.ref ha), some (.ref R), some (.ref fa), some (.ref wa), some (.ref ta), some (.ref la), y8, y9, y10, y11, none, none] ∧
          (∀ b o, b ≠ fa → Ha b = some o → Hz b = some o) ∧ Hz fa = some (.lst ((putL F ((lapOf C.gates gv hv F).take i)).map rdV)) ∧ TupKeep Ha Hz)
        ⟨y8, y10, rfl, fun _ _ _ e => e, efa2, fun _ _ e => e⟩ (fun i σ Hz _ ⟨_, _, _, kz, _⟩ => .inl (.inl (kz _ _ fala.symm ela2))) (fun i x σ Hz hx ⟨y8, y10, eσ, kz, ez, tz⟩ => ?_) (fun σ Hz ⟨y8, y10, eσ, kz, ez, tz⟩ => ?_)⟩
      · subst eσ
        obtain ⟨⟨g, b⟩, hp, tt, rfl, ett⟩ := all_get hus2 hx
        have hm := lapOf_mem.mp (List.mem_of_getElem? hp)
        have lput : (putL F ((lapOf C.gates gv hv F).take i)).length = C.gates.length := by rw [putL_len, lF]
        refine ⟨tt, _, rfl, .inl (.inl (tz _ _ ett)), rfl, _, _, rfl, _, _, rfl, rfl, ?_⟩
        have hg2 : g < C.gates.length := hm.1
        have ixn : ixN ((putL F ((lapOf C.gates gv hv F).take i)).map rdV).length (g : Int) = some g := by
          unfold ixN
          rw [List.length_map, lput, if_pos (Int.natCast_nonneg g), if_pos (by omega)]
          rfl
        refine ⟨_, rfl, _, rfl, _, rfl, fa, _, (g : Int), g, rfl, rfl, ez, ixn, _, _, rfl, fun c o n e => ?_, ?_, tz.trans (TupKeep.upd ez fun xs z => by cases z)⟩
        · rw [upd_ne n]
          exact kz _ _ n e
        · rw [upd_same, take_snoc hp, putL_snoc, List.map_set]
          rfl
      · subst eσ
        rw [lus, List.take_length, putL_lap lF] at ez
        have keep5 : Same H1 Hz := fun b o e => kz _ _ (ne_of_none e n1fa) (keep2 _ _ (ne_of_none e n1ta) (k _ _ (s1x _ _ e)))
        have eR := keep5 _ _ r.all
        have erd : ∀ (i : Nat) (l : Addr), las[i]? = some l → Hz l = some (.lst (nV (rd i))) := fun i l hi => keep5 _ _ (r.at_ i l hi)
        have ela5 := kz _ _ fala.symm ela2
        have eta5 := kz _ _ fata.symm eta2
        have hus5 := pairs_keep hus2 tz
        have lF' : (lapF C.gates gv hv F).length = C.gates.length := lapF_len _ _ _ _
        have rlt : ∀ x g, x ∈ rd g → x < C.gates.length := fun x g hx => by
          obtain ⟨gt, e, _⟩ := (mem g x).mp hx
          exact (List.getElem?_eq_some_iff.mp e).1
        have nd : ∀ i, (((lapOf C.gates gv hv F).take i).map (·.1)).Nodup := fun i => by
          rw [List.map_take]
          exact nodup_take (lapOf_asc _ _ _ _) i
        -- near
        refine ⟨_, rfl, la, rfl, ⟨us, .inl (.inl ela5)⟩, fun D nD => ⟨fun i m Hc => m + i = us.length ∧ Same Hz Hc ∧ ∃ acc : List Nat, Hc D = some (.lst (nV acc)) ∧ acc.length ≤ tot rd (((lapOf C.gates gv hv F).take i).map (·.1)) ∧
            ∀ x, x ∈ acc ↔ ∃ g ∈ ((lapOf C.gates gv hv F).take i).map (·.1), x ∈ rd g ∧ (lapF C.gates gv hv F).getD x none = none,
          ⟨us.length, rfl, same_new nD, [], upd_same, Nat.zero_le _, fun x => by simp⟩, fun i m Hc hW => ?_⟩⟩
        obtain ⟨em, sc, acc, eD, few1, macc⟩ := hW
        have sq : SqL K Hc la us := .inl (.inl (sc _ _ ela5))
        by_cases hi : i < us.length
        · refine .inr ⟨⟨us, us[i], sq, List.getElem?_eq_getElem hi⟩, fun Hc' => Same Hz Hc' ∧ ∃ acc : List Nat, Hc' D = some (.lst (nV acc)) ∧ acc.length ≤ tot rd (((lapOf C.gates gv hv F).take (i + 1)).map (·.1)) ∧
              ∀ x, x ∈ acc ↔ ∃ g ∈ ((lapOf C.gates gv hv F).take (i + 1)).map (·.1), x ∈ rd g ∧ (lapF C.gates gv hv F).getD x none = none, fun H' x => ⟨m - 1, by omega, by omega, x⟩, fun y H' hy => ?_⟩
          obtain ⟨rfl, hy⟩ := hy
          have ey := hy _ sq
          obtain ⟨⟨g, b⟩, hp, tt, rfl, ett⟩ := all_get hus5 ey
          have hm := lapOf_mem.mp (List.mem_of_getElem? hp)
          have hg2 : g < C.gates.length := hm.1
          have hkl : las[g]? = some las[g] := List.getElem?_eq_getElem (by omega)
          have tsn : tot rd (((lapOf C.gates gv hv F).take (i + 1)).map (·.1)) = tot rd (((lapOf C.gates gv hv F).take i).map (·.1)) + (rd g).length := by
            rw [take_snoc hp]
            unfold tot
            rw [List.map_append, List.map_append, List.sum_append]
            show _ + ((rd g).length + 0) = _
            omega
          have msn : ∀ x, (∃ g ∈ ((lapOf C.gates gv hv F).take (i + 1)).map (·.1), x ∈ rd g ∧ (lapF C.gates gv hv F).getD x none = none) ↔ (∃ g ∈ ((lapOf C.gates gv hv F).take i).map (·.1), x ∈ rd g ∧ (lapF C.gates gv hv F).getD x none = none) ∨ (x ∈ rd g ∧ (lapF C.gates gv hv F).getD x none = none) := fun x => by
            rw [take_snoc hp, List.map_append]
            constructor
            · rintro ⟨g', hg', z⟩
              rcases List.mem_append.mp hg' with h | h
              · exact .inl ⟨g', h, z⟩
              · have h : g' = g := by simpa using h
                rw [h] at z
                exact .inr z
            · rintro (⟨g', hg', z⟩ | z)
              · exact ⟨g', List.mem_append_left _ hg', z⟩
              · exact ⟨g, List.mem_append_right _ (by simp), z⟩
          refine ⟨tt, _, rfl, .inl (.inl (sc _ _ ett)), rfl, _, _, rfl, _, _, rfl, rfl, rfl, ?_⟩
          refine ⟨_, rfl, _, rfl, R, _, (g : Int), .ref las[g], rfl, rfl, .inl (.inl (sc _ _ eR)), atI_nat (v := V.ref las[g]) (by rw [List.getElem?_map, hkl]; rfl), las[g], rfl, ⟨_, .inl (.inl (sc _ _ (erd _ _ hkl)))⟩, ?_⟩
          refine ⟨fun j k Hd => k + j = (rd g).length ∧ Same Hz Hd ∧ ∃ acc : List Nat, Hd D = some (.lst (nV acc)) ∧ acc.length ≤ tot rd (((lapOf C.gates gv hv F).take i).map (·.1)) + j ∧
              ∀ x, x ∈ acc ↔ (∃ g ∈ ((lapOf C.gates gv hv F).take i).map (·.1), x ∈ rd g ∧ (lapF C.gates gv hv F).getD x none = none) ∨ (x ∈ (rd g).take j ∧ (lapF C.gates gv hv F).getD x none = none),
            ⟨(rd g).length, rfl, sc, acc, eD, few1, fun x => by rw [macc]; simp⟩, fun j kk Hd hW => ?_⟩
          obtain ⟨em2, sd, acc2, eD2, few2, macc2⟩ := hW
          have sq2 : SqL K Hd las[g] (nV (rd g)) := .inl (.inl (sd _ _ (erd _ _ hkl)))
          have lnv := nV_len (rd g)
          by_cases hj : j < (rd g).length
          · refine .inr ⟨⟨nV (rd g), (nV (rd g))[j], sq2, List.getElem?_eq_getElem (by omega)⟩, fun Hd' => Same Hz Hd' ∧ ∃ acc : List Nat, Hd' D = some (.lst (nV acc)) ∧ acc.length ≤ tot rd (((lapOf C.gates gv hv F).take i).map (·.1)) + (j + 1) ∧
              ∀ x, x ∈ acc ↔ (∃ g ∈ ((lapOf C.gates gv hv F).take i).map (·.1), x ∈ rd g ∧ (lapF C.gates gv hv F).getD x none = none) ∨ (x ∈ (rd g).take (j + 1) ∧ (lapF C.gates gv hv F).getD x none = none), fun H' x => ⟨kk - 1, by omega, by omega, x⟩, fun y H' hy => ?_⟩
            obtain ⟨rfl, hy⟩ := hy
            have ey2 := hy _ sq2
            obtain ⟨x, hx, rfl⟩ := nV_get ey2
            have hxl := rlt x g (List.mem_of_getElem? hx)
            have tk := take_snoc hx
            refine ⟨rfl, _, rfl, _, rfl, fa, _, (x : Int), _, rfl, rfl, .inl (.inl (sd _ _ ez)), at_rd (by rw [lF']; exact hxl), rfl, _, rfl, ?_⟩
            rw [rdV_isN]
            cases ex : (lapF C.gates gv hv F).getD x none with
            | none =>
              refine iteT ⟨_, rfl, nV acc2, eD2, ?_, fun c o e => ?_, acc2 ++ [x], ?_, ?_, fun z => ?_⟩
              · have := nd i
                have z := rtot _ this
                have z2 : (rd g).length ≤ 8000 := rlen g
                rw [nV_len, sizeLine_eq]
                omega
              · rw [upd_ne (ne_of_none e nD)]
                exact sd _ _ e
              · rw [upd_same]
                unfold nV
                rw [List.map_append]
                rfl
              · rw [List.length_append]
                show acc2.length + 1 ≤ _
                omega
              · rw [List.mem_append, List.mem_singleton, macc2, tk, List.mem_append, List.mem_singleton]
                constructor
                · rintro ((z1 | z1) | z1)
                  · exact .inl z1
                  · exact .inr ⟨.inl z1.1, z1.2⟩
                  · exact .inr ⟨.inr z1, by rw [z1]; exact ex⟩
                · rintro (z1 | ⟨z1 | z1, z2⟩)
                  · exact .inl (.inl z1)
                  · exact .inl (.inr ⟨z1, z2⟩)
                  · exact .inr z1
            | some b2 =>
              refine iteF ⟨sd, acc2, eD2, Nat.le_succ_of_le few2, fun z => ?_⟩
              rw [macc2, tk, List.mem_append, List.mem_singleton]
              constructor
              · rintro (z1 | z1)
                · exact .inl z1
                · exact .inr ⟨.inl z1.1, z1.2⟩
              · rintro (z1 | ⟨z1 | z1, z2⟩)
                · exact .inl z1
                · exact .inr ⟨z1, z2⟩
                · rw [z1, ex] at z2
                  cases z2
          · refine .inl ⟨⟨nV (rd g), sq2, by omega⟩, sd, acc2, eD2, ?_, fun x => ?_⟩
            · rw [tsn]
              omega
            · rw [macc2, msn, List.take_of_length_le (show (rd g).length ≤ j by omega)]
        · refine .inl ⟨⟨us, sq, by omega⟩, ?_⟩
          rw [List.take_of_length_le (by omega)] at few1 macc
          have z4 := rtot _ (lapOf_asc C.gates gv hv F)
          have eDi : SqL K Hc D ((acc.map fun n : Nat => (n : Int)).map V.int) := .inl (.inl (by rw [← nV_int]; exact eD))
          refine ⟨_, rfl, D, acc.map fun n : Nat => (n : Int), rfl, eDi, ?_, fun p c np cl => ⟨p, _, c, rfl, upd_same, fun ns2 p2 asc2 mem2 len2 l4 np2 => ?_⟩⟩
          · rw [List.length_map]
            show _ < 4096
            omega
          obtain ⟨ms, ems, masc, mms⟩ := ints_nats (acc := acc) (fun kk => by rw [mem2, decide_eq_true_eq]) asc2
          have sc2 : Same Hc (L2.upd (L2.upd Hc p (SetO w p (fun j => decide (j ∈ acc.map fun n : Nat => (n : Int))) c)) p2 (.lst (ns2.map V.int))) := (same_new np).trans (same_new np2)
          have s5 := sc.trans sc2
          have lt_ := openN_lap (gv := gv) (hv := hv) lF hnil
          refine ⟨lapF C.gates gv hv F, ms, vs ++ [.ref la], laps ++ [lapOf C.gates gv hv F], p2, _, _, _, _, _, rfl, lt_, keep5.trans s5, s5 _ _ ez, s5 _ _ eta5, ?_, by rw [upd_same, ems], masc, fun i hi => ?_, fun i hri => ?_, ?_, lF', ?_⟩
          · refine paired_snoc (laps_keep hlaps ((TupKeep.of k).trans (tup2.trans (tz.trans (.of s5)))) fun a zs na e => s5 _ _ (kz _ _ na.1 (keep2 _ _ na.2.1 (k _ _ e)))) ⟨la, us, rfl, ⟨fala.symm, tala.symm, n1la⟩, s5 _ _ ela5, pairs_keep hus5 (.of s5)⟩
          · obtain ⟨g, _, x1, x2⟩ := (macc i).mp ((mms i).mp hi)
            exact ⟨x2, rlt i g x1⟩
          · obtain ⟨gt, kk, a1, a2, a3⟩ := ripe_next lF hri
            exact (mms i).mpr ((macc i).mpr ⟨kk, a3, (mem kk i).mpr ⟨gt, a1, a2⟩, hri.1⟩)
          · rw [List.append_assoc, ← hall]
            congr 1
            have lo := openN_len F
            have n0 : C.gates.length = (C.gates.length - 1) + 1 := by omega
            have e1 : lapsL C.gates gv hv C.gates.length F = lapOf C.gates gv hv F :: lapsL C.gates gv hv (C.gates.length - 1) (lapF C.gates gv hv F) := by
              rw [n0]
              show (if lapOf C.gates gv hv F = [] then [] else _) = _
              rw [if_neg hnil]
              rfl
            rw [e1, lapsL_enough C.gates.length (C.gates.length - 1) _ lF' (by omega) (by omega)]
            rfl
          · rw [List.length_append]
            show laps.length + 1 + _ ≤ _
            omega
end
end K02

set_option Elab.async false
set_option linter.all false
set_option maxRecDepth 100000
set_option maxHeartbeats 4000000
/-! sure_list, sure_readings, is_whole. -/
namespace K02
open PySem PySem.Spec L2
open PyProof.Rows GenW GxR
open LamX (ExtN)
open EZ STL
abbrev sSureList : Stmt := top 33 -- sure_list
section
variable {P : Program} {w : World} {K : PySem.W.Frag} {mg : Str → Option Value} {base : Heap}
def spSureL (K : PySem.W.Frag) : Sp := fun vs H Q _ => ∃ (y : V) (C : Circ) (ga ha : Addr) (gv hv : List Rd), vs = [y, .ref ga, .ref ha] ∧ CircAt H y C ∧ C.ok ∧ gv.length = C.ni ∧ hv.length = C.regs.length ∧ SqT K H ga (gv.map rdV) ∧ SqT K H ha (hv.map rdV) ∧ fanG C.gates ≤ 4000 ∧
  ∀ (r : Addr) (H' : Hp), Same H H' → H r = none → H' r = some (.lst ((sureF C.gates gv hv).map rdV)) → Q (.ref r) H'
theorem scSureL : FnScope ["circuit", "given", "held", "found", "lap", "gate", "bit"] ["circuit", "given", "held"] (defScope sSureList) := ⟨rfl, rfl, rfl, by decide +kernel, rfl, by decide +kernel, by decide +kernel⟩
theorem ok_sureList {f fL : Addr} {fd fdL : FuncData} (F : Fun K "sure_list" "sure_list" sSureList f fd) (mlen : mg "len" = none)
    (GL : FnOk P w K mg base CX0 3 fL fdL ["circuit", "given", "held"] (spLaps K)) (kL : PySem.W.keepIn K (.ref fL) = true) (bL : Binds K fdL ["circuit", "given", "held"] []) (mL : mg "sure_laps" = some (.ref fL)) :
    FnOk P w K mg base CX0 4 f fd ["circuit", "given", "held"] (spSureL K) := by
  refine F.ok scSureL (fun vs H Q E h => ?_) (fun cdv A outer s H vs Q E hr h => ?_)
  · obtain ⟨y, C, ga, ha, gv, hv, rfl, _⟩ := h
    rfl
  · obtain ⟨y, C, ga, ha, gv, hv, rfl, hC, ok, lgv, lhv, hg, hh, fan, q⟩ := h
    refine ⟨_, pss_cons (ps_set (i := 3) scSureL.nd rfl (Or.inl rfl) (pe_op op_rep (pe_lst (pa_cons pe_non pa_nil)) (pe_callB call_len_seq (by rfl) mlen PySem.boot_len (pa_cons (pe_ix (r := rIxT K) ix_tup (pv 0) pe_int (fun _ _ => rfl)) pa_nil))))
      (pss_cons (ps_for PassesOwn.never rfl (pi_list (pe_call GL hr (by rfl) mL kL bL .nil pass0 (pa_cons (pv 0) (pa_cons (pv 1) (pa_cons (pv 2) pa_nil))))) (pg_name (i := 4) scSureL.nd rfl (Or.inl rfl))
        (pss_one (ps_for PassesOwn.never rfl (pi_list (pv 4)) (pg_tup rfl (pgs_cons (pg_name (i := 5) scSureL.nd rfl (Or.inl rfl)) (pgs_cons (pg_name (i := 6) scSureL.nd rfl (Or.inl rfl)) pgs_nil)))
          (pss_one (ps_asg (pv 6) (pg_sub (pv 3) (pv 5) set_list))))))
      (pss_one (ps_ret (pv 3)))), ?_⟩
    have hC' := hC
    obtain ⟨t, ra, gaa, oa, rs, gs, os, rfl, et, er, eg, eo, hrs, hgs, hos⟩ := hC'
    have lg : gs.length = C.gates.length := Paired.length hgs
    have k3 := ok.ng
    refine ⟨(by show 1 ≤ sizeLine; decide), fun p np => ?_⟩
    refine ⟨_, rfl, t, _, 2, .ref gaa, rfl, rfl, .inl (.inl (same_new np _ _ et)), rfl, gaa, gs, rfl, .inr (.inl (.inl (same_new np _ _ eg))), p, _, [V.non], rfl, rfl, upd_same, by omega, by omega, ?_, fun fa nfa => ?_⟩
    · rw [sizeLine_eq]
      show 1 * ((gs.length : Int)).toNat ≤ _
      omega
    have n1p : Same H (L2.upd H p (.lst [V.non])) := same_new np
    generalize L2.upd H p (.lst [V.non]) = Hp1 at nfa n1p
    have e2 : (L2.upd Hp1 fa (.lst (List.replicate ((gs.length : Int)).toNat [V.non]).flatten)) fa = some (.lst ((List.replicate C.gates.length (none : Rd)).map rdV)) := by
      rw [upd_same, Int.toNat_natCast, lg, rep_none]
    have s12 : Same H (L2.upd Hp1 fa (.lst (List.replicate ((gs.length : Int)).toNat [V.non]).flatten)) := n1p.trans (same_new nfa)
    have n1fa : H fa = none := n1p.free nfa
    generalize L2.upd Hp1 fa (.lst (List.replicate ((gs.length : Int)).toNat [V.non]).flatten) = H2 at e2 s12
    clear n1p nfa np
    have x12 := extN_same s12
    refine ⟨_, rfl, _, rfl, _, rfl, .ref t, C, ga, ha, gv, hv, rfl, hC.ext x12, ok, lgv, lhv, extN_seqT x12 hg, extN_seqT x12 hh, fan, fun r us H3 s23 nr er3 hlaps => ?_⟩
    have efa3 := s23 _ _ e2
    have far : fa ≠ r := fun z => by
      rw [← z, e2] at nr
      cases nr
    have s13 := s12.trans s23
    have lall : us.length = (lapsAll C.gates gv hv).length := Paired.length hlaps
    refine ⟨r, rfl, ⟨us, .inl (.inl er3)⟩, for_list (fun i σ Hx => ∃ (y4 y5 y6 : Option V), σ = [some (.ref t), some (.ref ga), some (.ref ha), some (.ref fa), y4, y5, y6] ∧ (∀ b o, b ≠ fa → H3 b = some o → Hx b = some o) ∧ Hx fa = some (.lst ((((lapsAll C.gates gv hv).take i).foldl putL (List.replicate C.gates.length (none : Rd))).map rdV)) ∧ TupKeep H3 Hx)
      ⟨_, _, _, rfl, fun _ _ _ e => e, efa3, fun _ _ e => e⟩ (fun i σ Hx _ ⟨_, _, _, _, kx, _⟩ => .inl (.inl (kx _ _ far.symm er3))) (fun i x σ Hx hx ⟨y4, y5, y6, eσ, kx, ex, tx⟩ => ?_) (fun σ Hx ⟨y4, y5, y6, eσ, kx, ex, tx⟩ => ?_)⟩
    · subst eσ
      obtain ⟨lap, hlap, la, zs, rfl, nla, ela, hzs⟩ := all_get hlaps hx
      have fala : fa ≠ la := fun z => by
        rw [← z, e2] at nla
        cases nla
      have elax := kx _ _ fala.symm ela
      have lF : (((lapsAll C.gates gv hv).take i).foldl putL (List.replicate C.gates.length (none : Rd))).length = C.gates.length := by
        generalize (lapsAll C.gates gv hv).take i = ls
        have gen : ∀ (ls : List Lap) (F : List Rd), (ls.foldl putL F).length = F.length := fun ls => by
          induction ls with
          | nil => exact fun F => rfl
          | cons a r ih =>
            intro F
            show (r.foldl putL (putL F a)).length = F.length
            rw [ih, putL_len]
        rw [gen, List.length_replicate]
      have lz : zs.length = lap.length := Paired.length hzs
      have hlt := lapsL_mem C.gates.length (List.replicate C.gates.length none) lap (List.mem_of_getElem? hlap)
      have tks := take_snoc hlap
      generalize hF : ((lapsAll C.gates gv hv).take i).foldl putL (List.replicate C.gates.length (none : Rd)) = F0 at ex lF
      refine ⟨_, rfl, la, rfl, ⟨zs, .inl (.inl elax)⟩, for_list (fun j σ Hy => ∃ (y5 y6 : Option V), σ = [some (.ref t), some (.ref ga), some (.ref ha), some (.ref fa), some (.ref la), y5, y6] ∧ (∀ b o, b ≠ fa → H3 b = some o → Hy b = some o) ∧ Hy fa = some (.lst ((putL F0 (lap.take j)).map rdV)) ∧ TupKeep H3 Hy)
        ⟨y5, y6, rfl, kx, ex, tx⟩ (fun j σ Hy _ ⟨_, _, _, ky, _⟩ => .inl (.inl (ky _ _ fala.symm ela))) (fun j x σ Hy hxj ⟨y5, y6, eσ, ky, ey, ty⟩ => ?_) (fun σ Hy ⟨y5, y6, eσ, ky, ey, ty⟩ => ?_)⟩
      · subst eσ
        obtain ⟨⟨g, b⟩, hp, tt, rfl, ett⟩ := all_get hzs hxj
        have hg2 : g < C.gates.length := hlt _ (List.mem_of_getElem? hp)
        have lput : (putL F0 (lap.take j)).length = C.gates.length := by rw [putL_len, lF]
        have ixn : ixN ((putL F0 (lap.take j)).map rdV).length (g : Int) = some g := by
          unfold ixN
          rw [List.length_map, lput, if_pos (Int.natCast_nonneg g), if_pos (by omega)]
          rfl
        refine ⟨tt, _, rfl, .inl (.inl (ty _ _ ett)), rfl, _, _, rfl, _, _, rfl, rfl, ?_⟩
        refine ⟨_, rfl, _, rfl, _, rfl, fa, _, (g : Int), g, rfl, rfl, ey, ixn, _, _, rfl, fun c o n e => ?_, ?_, ty.trans (TupKeep.upd ey fun xs z => by cases z)⟩
        · rw [upd_ne n]
          exact ky _ _ n e
        · rw [upd_same, take_snoc hp, putL_snoc, List.map_set]
          rfl
      · subst eσ
        refine ⟨_, _, _, rfl, ky, ?_, ty⟩
        rw [tks, List.foldl_append, hF]
        rw [lz, List.take_length] at ey
        exact ey
    · subst eσ
      rw [lall, List.take_length, lapsAll_put] at ex
      exact ⟨_, rfl, q fa Hx (fun b o e => kx _ _ (ne_of_none e n1fa) (s13 _ _ e)) n1fa ex⟩
theorem rd_flat (l : List Rd) : (l.map rdV).all flatV = true := List.all_eq_true.mpr fun y hy => by
  obtain ⟨r, _, rfl⟩ := List.mem_map.mp hy
  cases r <;> rfl
theorem rd_inN (l : List Rd) : inV .non (l.map rdV) = l.any fun r => r.isNone := by
  unfold inV
  rw [List.any_map]
  congr 1
  funext r
  cases r <;> rfl
end
end K02

set_option Elab.async false
set_option linter.all false
set_option maxRecDepth 100000
set_option maxHeartbeats 2000000
/-! Readings, pairs and rows of these, as data that is compared and shown. -/
namespace K02
open PySem PySem.Spec L2
open PyProof.Rows GenW GxR EZ TK
open LamX (ExtN)
/-- a leaf -/
def leafD : PyData → Bool
  | .none => true
  | .bool _ => true
  | .int _ => true
  | _ => false
theorem leaf_lay {d : PyData} (h : leafD d = true) : d.canLay0 = true ∧ d.depth = 0 := by
  cases d <;> first | exact ⟨rfl, rfl⟩ | cases h
theorem leaf_layAll : ∀ {ds : List PyData}, ds.all leafD = true → PyData.canLayAll0 ds = true ∧ PyData.depthAll ds = 0
  | [], _ => ⟨rfl, rfl⟩
  | d :: r, h => by
    rw [List.all_cons, Bool.and_eq_true] at h
    obtain ⟨a, b⟩ := leaf_lay h.1
    obtain ⟨c, e⟩ := leaf_layAll h.2
    refine ⟨?_, ?_⟩
    · simp [PyData.canLayAll0, a, c]
    · simp [PyData.depthAll, b, e]
/-- laid out no deeper than n -/
def LayN (n : Nat) (d : PyData) : Prop := d.canLay0 = true ∧ d.depth ≤ n
def LayAllN (n : Nat) (ds : List PyData) : Prop := PyData.canLayAll0 ds = true ∧ PyData.depthAll ds ≤ n
theorem layAll_of {n : Nat} : ∀ {ds : List PyData}, (∀ d ∈ ds, LayN n d) → LayAllN n ds
  | [], _ => ⟨rfl, Nat.zero_le _⟩
  | d :: r, h => by
    obtain ⟨a, b⟩ := h d List.mem_cons_self
    obtain ⟨c, e⟩ := layAll_of fun x hx => h x (List.mem_cons_of_mem _ hx)
    refine ⟨?_, ?_⟩
    · simp [PyData.canLayAll0, a, c]
    · simp only [PyData.depthAll]
      omega
theorem layN_leaf {d : PyData} (h : leafD d = true) : LayN 0 d := ⟨(leaf_lay h).1, Nat.le_of_eq (leaf_lay h).2⟩
theorem layN_mono {n m : Nat} {d : PyData} (h : LayN n d) (l : n ≤ m) : LayN m d := ⟨h.1, Nat.le_trans h.2 l⟩
theorem layN_list {n : Nat} {ds : List PyData} (h : ∀ d ∈ ds, LayN n d) : LayN (n + 1) (.list ds) := by
  obtain ⟨a, b⟩ := layAll_of h
  refine ⟨?_, ?_⟩
  · simp [PyData.canLay0, a]
  · simp only [PyData.depth]
    omega
theorem layN_tuple {n : Nat} {ds : List PyData} (h : ∀ d ∈ ds, LayN n d) : LayN (n + 1) (.tuple ds) := by
  obtain ⟨a, b⟩ := layAll_of h
  refine ⟨?_, ?_⟩
  · simp [PyData.canLay0, a]
  · simp only [PyData.depth]
    omega
theorem layN_shaped {n : Nat} {d : PyData} (h : LayN n d) (l : n ≤ 64) : SeqAt.shaped d = true := by
  unfold SeqAt.shaped
  rw [h.1, decide_eq_true (Nat.le_trans h.2 l)]
  rfl
def rdD : Rd → PyData
  | none => .none
  | some b => .int (bitZ b)
theorem rdD_leaf (r : Rd) : leafD (rdD r) = true := by cases r <;> rfl
theorem dp_rd {K : PySem.W.Frag} {H : Hp} (r : Rd) : Dp K H (rdV r) (rdD r) := by
  cases r with
  | none => exact .non
  | some b => exact .int _
theorem dp_rds {K : PySem.W.Frag} {H : Hp} : ∀ rs : List Rd, DpAll K H (rs.map rdV) (rs.map rdD)
  | [] => .nil
  | r :: l => .cons (dp_rd r) (dp_rds l)
theorem lay_rds (rs : List Rd) : ∀ d ∈ rs.map rdD, LayN 0 d := fun d hd => by
  obtain ⟨r, _, rfl⟩ := List.mem_map.mp hd
  exact layN_leaf (rdD_leaf r)
theorem rdD_inj {a b : Rd} (h : PyData.eqv (rdD a) (rdD b) = true) : a = b := by
  cases a with
  | none =>
    cases b with
    | none => rfl
    | some c => cases h
  | some x =>
    cases b with
    | none => cases h
    | some c =>
      have h : (bitZ x == bitZ c) = true := h
      rw [bitZ_inj (beq_iff_eq.mp h)]
theorem rdD_refl (a : Rd) : PyData.eqv (rdD a) (rdD a) = true := by
  cases a with
  | none => rfl
  | some b => exact beq_self_eq_true _
theorem eqv_rds : ∀ (a b : List Rd), PyData.eqvAll (a.map rdD) (b.map rdD) = decide (a = b)
  | [], [] => rfl
  | [], _ :: _ => rfl
  | _ :: _, [] => rfl
  | x :: r, y :: q => by
    have ih := eqv_rds r q
    show (PyData.eqv (rdD x) (rdD y) && PyData.eqvAll (r.map rdD) (q.map rdD)) = _
    rw [ih]
    by_cases e : x = y
    · subst e
      rw [rdD_refl]
      by_cases e2 : r = q
      · subst e2
        simp
      · simp [e2]
    · have z : PyData.eqv (rdD x) (rdD y) = false := by
        cases q2 : PyData.eqv (rdD x) (rdD y) with
        | false => rfl
        | true => exact absurd (rdD_inj q2) e
      rw [z]
      simp [e]
def pairD (p : Nat × Bool) : PyData := .tuple [.int (p.1 : Int), .int (bitZ p.2)]
theorem dp_pairs {K : PySem.W.Frag} {H : Hp} {us : List V} {lap : Lap} (h : AllAt PairAt H us lap) : DpAll K H us (lap.map pairD) := by
  unfold AllAt at h
  induction h with
  | nil => exact .nil
  | cons r t ih =>
    obtain ⟨t1, rfl, e⟩ := r
    exact .cons (.tup (.inl (.inl e)) (.cons (.int _) (.cons (.int _) .nil))) ih
theorem lay_pairs (lap : Lap) : ∀ d ∈ lap.map pairD, LayN 1 d := fun d hd => by
  obtain ⟨p, _, rfl⟩ := List.mem_map.mp hd
  refine layN_tuple fun d hd => ?_
  rcases List.mem_cons.mp hd with z | z
  · rw [z]
    exact layN_leaf rfl
  · rw [List.mem_singleton.mp z]
    exact layN_leaf rfl
theorem eqv_nilL (ds : List PyData) : PyData.eqv (.list ds) (.list []) = ds.isEmpty := by
  cases ds <;> rfl
end K02

set_option Elab.async false
set_option linter.all false
set_option maxRecDepth 100000
set_option maxHeartbeats 2000000
/-! The end for a law that asks repr of lists or tuples: the law's call is the outermost, so no repr is under way. -/
namespace GE
open PySem PySem.Spec PyProof.Rows L2 LamX
/-- a def keeps its promise where no repr is under way -/
structure FnG (P : Program) (w : World) (K : PySem.W.Frag) (mg : Str → Option Value) (base : Heap) (CX : CXT) (k : Nat) (f : Addr) (fd : FuncData) (ps : List Str) (sp : Sp) : Prop where
  run : ∀ (A : Around) (outer : List Env) (s : Shared) (H : Hp) (args : Args) (us : List Value) (vs : List V) (Q : VK) (E : XK), A.guards = some [] → Room k A → Env0 P w K mg base A outer s H → BindsTo s fd args (ps.zip us) → Vals vs us → sp vs H Q E →
    codeAny (model P w) A (.call (.ref f) args) (CR CX outer P w H s Q E) s
/-- the abstract heap at the law's call: the tables are empty, the script stands at a -/
def startH (K : PySem.W.Frag) (T : List Addr) (a : Addr) (vs : List Value) (ns : List Int) : Hp := fun b =>
  if b ∈ T then some (.tbl #[]) else if b = a ∧ (K.lookup a).isNone = true then some (.frz { cls := .type "list", data := .seq vs.toArray } (.lst (ns.map V.int))) else none
section
variable {K : PySem.W.Frag} {T : List Addr} {a b : Addr} {vs : List Value} {ns : List Int}
theorem start_tab (h : b ∈ T) : startH K T a vs ns b = some (.tbl #[]) := if_pos h
theorem start_a (h : a ∉ T) (n : K.lookup a = none) : startH K T a vs ns a = some (.frz { cls := .type "list", data := .seq vs.toArray } (.lst (ns.map V.int))) := by
  unfold startH
  rw [if_neg h, if_pos ⟨rfl, by rw [n]; rfl⟩]
theorem start_none (h : b ∉ T) (h2 : ¬ (b = a ∧ (K.lookup a).isNone = true)) : startH K T a vs ns b = none := by
  unfold startH
  rw [if_neg h, if_neg h2]
/-- what may be tracked -/
theorem start_cases (b : Addr) : startH K T a vs ns b = none ∨ (b ∈ T ∧ startH K T a vs ns b = some (.tbl #[])) ∨ (b ∉ T ∧ b = a ∧ K.lookup a = none ∧ startH K T a vs ns b = some (.frz { cls := .type "list", data := .seq vs.toArray } (.lst (ns.map V.int)))) := by
  by_cases h : b ∈ T
  · exact .inr (.inl ⟨h, start_tab h⟩)
  · by_cases h2 : b = a ∧ (K.lookup a).isNone = true
    · obtain ⟨rfl, h3⟩ := h2
      have n : K.lookup b = none := Option.isNone_iff_eq_none.mp h3
      exact .inr (.inr ⟨h, rfl, n, start_a h n⟩)
    · exact .inl (start_none h h2)
end
/-- the law's call, its promise kept where no repr is under way -/
theorem end_call {P : Program} {w : World} {K : PySem.W.Frag} {mg mb : Str → Option Value} {CX : CXT} {k : Nat} {fa a : Addr} {cs : List (Addr × Addr)} {fd : FuncData} {x : Str} {sp : Sp} {s₁ : Shared} {vs : List Value} {ns : List Int} (KX : K.In s₁.heap) (hns : s₁.heap.Ns mainGlobals mg) (hb : s₁.heap.Ns builtinsNs mb)
    (hbb : ∀ x : Str, x ≠ "__name__" → mb x = bootBuiltins x) (hlim : s₁.heap.NoLimit) (hg : s₁.gens = #[]) (hT : ∀ p ∈ cs, s₁.heap.get? p.2 = some { cls := .none, data := .fields #[] }) (nT : ∀ p ∈ cs, K.lookup p.2 = none) (C : ∀ p ∈ cs, PySem.W.CodeHd s₁.heap p.1 p.2)
    (hbm : ∃ (bm : Addr) (ob : Obj), mg "__builtins__" = some (.ref bm) ∧ bm ≠ builtinsNs ∧ s₁.heap.get? bm = some ob ∧ ob.cls = .type "module" ∧ ob.dict = some builtinsNs ∧ ob.data = .plain) (ha : s₁.heap.get? a = some { cls := .type "list", data := .seq vs.toArray }) (hi : IntsAre vs ns) (hl : ns.length ≤ sizeLine) (hr : Room k callerA)
    (F : ∀ base : Heap, K.In base → base.Ns mainGlobals mg → (∀ p ∈ cs, TabB base mg p.1 p.2) → FnG P w K mg base CX k fa fd [x] sp) (hbind : ∀ (s : Shared) (u : Value), BindsTo s fd ⟨[u], []⟩ [(x, u)])
    (hsp : ∀ H : Hp, (∀ p ∈ cs, H p.2 = some (.tbl #[])) → SqL K H a (ns.map V.int) → sp [.ref a] H (fun v _ => v = .bl true) fun _ _ _ => False) (hCX : ∀ H e s', CX [] H s₁ (fun _ _ _ => False) e s' → False) :
    codeAny (model P w) callerA (.call (.ref fa) ⟨[.ref a], []⟩) (fun r s' => r = .ok (.ret (.bool true)) ∧ OldK s₁.heap s'.heap ∧ s'.os = s₁.os ∧ AllBare s'.gens) s₁ := by
  obtain ⟨T, hTd⟩ : ∃ T, T = cs.map (·.2) := ⟨_, rfl⟩
  have inT : ∀ p ∈ cs, p.2 ∈ T := fun p hp => by
    rw [hTd]
    exact List.mem_map.mpr ⟨p, hp, rfl⟩
  have ofT : ∀ b ∈ T, ∃ p ∈ cs, p.2 = b := fun b hb => by
    rw [hTd] at hb
    exact List.mem_map.mp hb
  have tabs : ∀ b ∈ T, s₁.heap.get? b = some { cls := .none, data := .fields #[] } ∧ K.lookup b = none := fun b hb => by
    obtain ⟨p, hp, rfl⟩ := ofT b hb
    exact ⟨hT p hp, nT p hp⟩
  have aT : a ∉ T := fun z => by
    have q := (tabs a z).1
    rw [ha] at q
    cases q
  obtain ⟨H, hH⟩ : ∃ H, H = startH K T a vs ns := ⟨_, rfl⟩
  have cases_ : ∀ b, H b = none ∨ (b ∈ T ∧ H b = some (.tbl #[])) ∨ (b ∉ T ∧ b = a ∧ K.lookup a = none ∧ H b = some (.frz { cls := .type "list", data := .seq vs.toArray } (.lst (ns.map V.int)))) := fun b => by
    rw [hH]
    exact start_cases b
  have rel : Vals (ns.map V.int) vs := vals_ints hi
  have len : vs.length = ns.length := hi.length
  -- an object that is neither the script's list nor an empty table is not tracked
  have free_ : ∀ {b : Addr} {o : Obj}, s₁.heap.get? b = some o → (∀ us n, o.data ≠ .seq us n) → o.data ≠ .fields #[] → H b = none := fun {b o} e n1 n2 => by
    rcases cases_ b with z | ⟨z, _⟩ | ⟨_, z, _⟩
    · exact z
    · rw [(tabs b z).1] at e
      cases e
      exact absurd rfl n2
    · rw [z, ha] at e
      cases e
      exact absurd rfl (n1 _ _)
  have dict_ : ∀ {b : Addr} {o : Obj} {es : Array DictEntry} {ep : Nat}, s₁.heap.get? b = some o → o.data = .dict es ep → H b = none := fun e d => free_ e (fun _ _ z => by rw [d] at z; cases z) (fun z => by rw [d] at z; cases z)
  have ns_ : ∀ {b : Addr} {m : Str → Option Value}, s₁.heap.Ns b m → (hidT s₁.heap H).Ns b m := fun {b m} z => by
    obtain ⟨o, es, ep, e, d, r⟩ := z
    exact ⟨o, es, ep, hidT_get e (dict_ e d), d, r⟩
  have inK : K.In (hidT s₁.heap H) := fun b o e => by
    refine hidT_get (KX b o e) ?_
    rcases cases_ b with z | ⟨z, _⟩ | ⟨_, z, z2, _⟩
    · exact z
    · rw [(tabs b z).2] at e
      cases e
    · rw [z, z2] at e
      cases e
  have md : L2.Mod K mg (hidT s₁.heap H) := by
    obtain ⟨mc, l1, l2⟩ := hlim
    exact ⟨inK, ns_ hns, ⟨mb, ns_ hb, hbb⟩, ⟨mc, ns_ l1, l2⟩⟩
  have TB : ∀ p ∈ cs, TabB (hidT s₁.heap H) mg p.1 p.2 := fun p hp => by
    obtain ⟨oG, esG, epG, eG, dG, _⟩ := id hns
    constructor
    · obtain ⟨o, us, fl, tf, fs, tg, inF, tx, tt, e1, r1, r2, r3, rest⟩ := C p hp
      refine ⟨o, us, fl, tf, fs, tg, inF, tx, tt, hidT_get e1 (free_ e1 (fun _ _ z => by rw [r2] at z; cases z) fun z => ?_), r1, r2, r3, rest⟩
      rw [r2] at z
      cases z
      simp at r3
    · obtain ⟨bm, ob, b1, b2, b3, b4, b5, b6⟩ := hbm
      refine ⟨bm, ob, b1, b2, fun z => ?_, fun z => ?_, hidT_get b3 (free_ b3 (fun _ _ z => by rw [b6] at z; cases z) (fun z => by rw [b6] at z; cases z)), b4, b5, b6⟩
      · rw [z, eG] at b3
        cases b3
        rw [dG] at b6
        cases b6
      · rw [z, hT p hp] at b3
        cases b3
        cases b6
    · intro z
      rw [z, hT p hp] at eG
      cases eG
      cases dG
  have ok : HOk P w H s₁.heap := fun b u e => by
    rcases cases_ b with z | ⟨z, z2⟩ | ⟨_, z, _, z2⟩
    · rw [z] at e
      cases e
    · rw [z2] at e
      cases e
      exact (tabs b z).1
    · rw [z2] at e
      cases e
      rw [z]
      exact ⟨ha, by rw [List.length_map]; exact hl, vs, _, rel, ha⟩
  have sq : SqL K H a (ns.map V.int) := by
    cases hk : K.lookup a with
    | none => exact .inl (.inr ⟨_, by rw [hH]; exact start_a aT hk⟩)
    | some o =>
      have e := KX a o hk
      rw [ha] at e
      cases e
      exact .inr ⟨_, vs.toArray, _, hk, rfl, rfl, rfl, by rw [List.size_toArray, len]; exact hl, by simpa using rel⟩
  have start : ∀ p ∈ cs, H p.2 = some (.tbl #[]) := fun p hp => by
    rw [hH]
    exact start_tab (inT p hp)
  have env : Env0 P w K mg (hidT s₁.heap H) callerA [] s₁ H := ⟨rfl, md, fun b o e => of_hidT e, Nat.le_of_eq (hidT_size _ _), trivial, fun b hb => (nomatch hb), ok, .of_eq hg⟩
  refine codeAny_mono ((F _ inK (ns_ hns) TB).run callerA [] s₁ H ⟨[.ref a], []⟩ [.ref a] [.ref a] _ _ rfl hr env (hbind s₁ (.ref a)) (.cons rfl .nil) (hsp H start sq)) fun r s' h => ?_
  rcases r with e | fl
  · exact (hCX H e s' h).elim
  · cases fl with
    | ret u =>
      obtain ⟨v, H', os, bare, un, ok', r', q⟩ := h
      cases q
      cases r'
      have kept : ∀ b o, b ∉ T → s₁.heap.get? b = some o → s'.heap.get? b = some o := fun b o nb e => by
        rcases cases_ b with z | ⟨z, _⟩ | ⟨_, _, _, z⟩
        · exact un.keep b o e z (fun z => nomatch z) (fun z => nomatch z)
        · exact absurd z nb
        · have g1 := (ok b _ z).1
          have g2 := (ok' b _ (un.frzs b _ _ z)).1
          rw [e] at g1
          cases g1
          exact g2
      have more : ∀ p ∈ cs, ∃ us : Array Value, s'.heap.get? p.2 = some { cls := .none, data := .fields us } := fun p hp => by
        obtain ⟨us, z⟩ := un.tbls p.2 #[] (start p hp)
        exact ⟨_, ok' p.2 _ z⟩
      refine ⟨rfl, ⟨fun b o e => ?_, fun b o e => ?_⟩, os, bare⟩
      · by_cases hb : b ∈ T
        · obtain ⟨p, hp, rfl⟩ := ofT b hb
          obtain ⟨us, hm⟩ := more p hp
          rw [hT p hp] at e
          cases e
          exact .inr (.inl ⟨((C p hp).tab (hT p hp)).isCodeTable, rfl, #[], us, rfl, by rw [Array.empty_append]; exact hm⟩)
        · exact .inl (kept b o hb e)
      · by_cases hb : b ∈ T
        · obtain ⟨p, hp, rfl⟩ := ofT b hb
          obtain ⟨us, hm⟩ := more p hp
          exact ⟨_, hm⟩
        · exact ⟨o, kept b o hb e⟩
    | _ => exact False.elim h
end GE

set_option Elab.async false
set_option linter.all false
set_option maxRecDepth 100000
set_option maxHeartbeats 2000000
/-! Defs where no repr is under way: how they are shown, and the end of a row with them. -/
namespace GE
open PySem PySem.Spec PyProof.Rows L2 LamX
section
variable {P : Program} {w : World} {K : PySem.W.Frag} {mg : Str → Option Value} {base : Heap}
theorem okG {CX : CXT} {x qual : Str} {st : Stmt} {f c : Addr} {fd : FuncData} {N ps : List Str} {k : Nat} {sp : Sp} (F : Fun K x qual st f fd) (hc : fd.code = .ref c) (S : FnScope N ps (defScope st)) (len : ∀ vs H Q E, sp vs H Q E → vs.length = ps.length)
    (hbody : ∀ (A : Around) (outer : List Env) (s : Shared) (H : Hp) (vs : List V) (Q : VK) (E : XK), (A.deeper (envOfC qual (defScope st) s.heap.objs.size f (.ref c))).guards = some [] → Room k (A.deeper (envOfC qual (defScope st) s.heap.objs.size f (.ref c))) → sp vs H Q E →
      ∃ t, PSs (cxOf CX P w K mg base N qual (defScope st) f (.ref c) A outer s H E) (defBody st) t ∧ t { nx := fun _ H' => Q .non H', rt := Q } (start N vs) H) : FnG P w K mg base CX (k + 1) f fd ps sp := by
  obtain ⟨oc, od, kV, doc, pm, an, cdv, ct, osl, rfl, lk, hcd⟩ := F.ex
  have e : cdv = .ref c := hc
  subst e
  exact ⟨fun A outer s H args us vs Q E hg hr e0 hb r hsp => run_ofS (N := N) lk hcd S hr e0 hb r (len _ _ _ _ hsp) fun hr' => hbody A outer s H vs Q E hg hr' hsp⟩
end
/-- as LawAtS, where no repr is under way -/
def LawAtG (l : PySem.W.OpenLaw) (w : World) (K : PySem.W.Frag) (CX : CXT) (k n : Nat) (x : Str) (mg : Str → Option Value) (fa : Addr) (h : Heap) : Prop :=
  ∃ (fd : FuncData) (cs : List (Addr × Addr)) (sp : Sp), (∀ p ∈ cs, h.get? p.2 = some { cls := .none, data := .fields #[] }) ∧ (∀ p ∈ cs, K.lookup p.2 = none) ∧ (∀ p ∈ cs, PySem.W.CodeHd h p.1 p.2) ∧ (∀ (s : Shared) (u : Value), BindsTo s fd ⟨[u], []⟩ [(x, u)]) ∧
    (∀ (H : Hp) (a : Addr) (ns : List Int), ns.length ≤ n → (∀ z ∈ ns, Builtin.Int.intBits z ≤ 1048576) → (∀ p ∈ cs, H p.2 = some (.tbl #[])) → SqL K H a (ns.map V.int) → sp [.ref a] H (fun v _ => v = .bl true) fun _ _ _ => False) ∧
    ∀ base : Heap, K.In base → base.Ns mainGlobals mg → (∀ p ∈ cs, TabB base mg p.1 p.2) → FnG l.prog w K mg base CX k fa fd [x] sp
theorem walk_tabsG {l : PySem.W.OpenLaw} {n k : Nat} {q : Program} {loose : List Str} {XP : (Str → Option Value) → Heap → Prop} {YP : World → Heap → Prop} {d : DefRec} {K : Params → PySem.W.Frag} {CX : World → CXT} {x : Str} (names : List Str) (hn : l.most = some n) (hn2 : n ≤ sizeLine) (hdf : d.params.defaults = []) (hr : Room k callerA)
    (hrec : (names.all fun y => (recsOf q).any fun e => e.name == y) = true) (hY : ∀ (w : World) (h : Heap), YP w h → (K w.params).In h)
    (F : ∀ (w : World) (mg : Str → Option Value) (fa : Addr) (h : Heap), YP w h → (K w.params).In h → h.Ns mainGlobals mg → mg d.name = some (.ref fa) → (∀ y ∈ names, ∀ f, mg y = some (.ref f) → OwnTab (K w.params) f h) → LawAtG l w (K w.params) (CX w) k n x mg fa h)
    (hCX : ∀ (w : World) (H : Hp) (s : Shared) (e : Value) (s' : Shared), CX w [] H s (fun _ _ _ => False) e s' → False) : PySem.W.WalkO q loose XP YP l.row.toRowW d [] (fun f vs => PySem.call f vs) := by
  refine Att.attach_callB hn hdf fun w s₀ s₁ mg mb fa o pm cd doc a vs ns G Y ho hd hcd hmg hobj hints hlen hbits hg => ?_
  have KX := hY w _ Y
  have own : ∀ y ∈ names, ∀ f, mg y = some (.ref f) → OwnTab (K w.params) f s₁.heap := by
    intro y hy f hf c P o1 fd1 e dd vs1 sl k1 k2 k3 k4 k5
    obtain ⟨dL, hm, hn1⟩ := List.any_eq_true.mp (List.all_eq_true.mp hrec y hy)
    obtain ⟨a', o', fd', c', P', h1, h2, h3, h4, _, ⟨oc, vc, e1, _, e3, e4⟩, hP⟩ := G.T.tab dL hm
    rw [beq_iff_eq.mp hn1, hf] at h1
    cases h1
    rw [KX _ _ k1] at h2
    cases h2
    rw [k2] at h3
    cases h3
    rw [k3] at h4
    cases h4
    rw [KX _ _ k4] at e1
    cases e1
    cases e3
    rw [k5] at e4
    cases e4
    exact hP
  obtain ⟨fd, cs, sp, hT, nT, C, hb, hsp, hF⟩ := F w mg fa _ Y KX G.T.g hmg own
  exact end_call KX G.T.g G.T.b G.T.builtins G.T.nolimit hg hT nT C G.T.bmain hobj hints (Nat.le_trans hlen hn2) hr hF hb (fun H hH hS => hsp H a ns hlen hbits hH hS) fun H e s' => hCX w H s₁ e s'
end GE

set_option Elab.async false
set_option linter.all false
set_option maxRecDepth 100000
set_option maxHeartbeats 2000000
/-! repr of rows of readings; what stands between the turns, behind a def that keeps the tables. -/
namespace K02
open PySem PySem.Spec L2
open PyProof.Rows GenW GxR EZ TK CE LamX
/-- what repr asks of data -/
def GoodD (d : PyData) : Prop := d.canLay0 = true ∧ d.showable = true ∧ d.hasDict = false ∧ d.intsShort 13 = true
def GoodAll (ds : List PyData) : Prop := PyData.canLayAll0 ds = true ∧ PyData.showableAll ds = true ∧ PyData.hasDictAll ds = false ∧ PyData.intsShortAll 13 ds = true
theorem good_all : ∀ {ds : List PyData}, (∀ d ∈ ds, GoodD d) → GoodAll ds
  | [], _ => ⟨rfl, rfl, rfl, rfl⟩
  | d :: r, h => by
    obtain ⟨a1, a2, a3, a4⟩ := h d List.mem_cons_self
    obtain ⟨b1, b2, b3, b4⟩ := good_all fun x hx => h x (List.mem_cons_of_mem _ hx)
    refine ⟨?_, ?_, ?_, ?_⟩
    · simp [PyData.canLayAll0, a1, b1]
    · simp [PyData.showableAll, a2, b2]
    · simp [PyData.hasDictAll, a3, b3]
    · simp [PyData.intsShortAll, a4, b4]
theorem good_tup {ds : List PyData} (h : ∀ d ∈ ds, GoodD d) : GoodD (.tuple ds) := by
  obtain ⟨a, b, c, e⟩ := good_all h
  exact ⟨by simp [PyData.canLay0, a], by simp [PyData.showable, b], by simp [PyData.hasDict, c], by simp [PyData.intsShort, e]⟩
theorem good_lst {ds : List PyData} (h : ∀ d ∈ ds, GoodD d) : GoodD (.list ds) := by
  obtain ⟨a, b, c, e⟩ := good_all h
  exact ⟨by simp [PyData.canLay0, a], by simp [PyData.showable, b], by simp [PyData.hasDict, c], by simp [PyData.intsShort, e]⟩
theorem short01 (b : Bool) : (PyData.int (bitZ b)).intsShort 13 = true := by
  cases b <;> decide +kernel
theorem good_rd (r : Rd) : GoodD (rdD r) := by
  cases r with
  | none => exact ⟨rfl, rfl, rfl, rfl⟩
  | some b => exact ⟨rfl, by cases b <;> decide +kernel, rfl, short01 b⟩
theorem good_bl (b : Bool) : GoodD (.bool b) := ⟨rfl, rfl, rfl, rfl⟩
theorem good_rds (rs : List Rd) : ∀ d ∈ rs.map rdD, GoodD d := fun d hd => by
  obtain ⟨r, _, rfl⟩ := List.mem_map.mp hd
  exact good_rd r
theorem weight_rd (r : Rd) : (rdD r).weight ≤ 1 := by
  cases r with
  | none => exact Nat.zero_le _
  | some b => cases b <;> decide +kernel
theorem weight_rds : ∀ rs : List Rd, PyData.weightAll (rs.map rdD) ≤ 2 * rs.length
  | [] => Nat.le_refl _
  | r :: l => by
    have a := weight_rd r
    have b := weight_rds l
    show (rdD r).weight + 1 + PyData.weightAll (l.map rdD) ≤ 2 * (l.length + 1)
    omega
theorem repr_to {K : PySem.W.Frag} {H : Hp} {x : V} {d : PyData} {Q : VK} (hd : Dp K H x d) (g : GoodD d) (dp : d.depth ≤ 60) (wt : d.weight ≤ 2 ^ 20) (ni : ∀ i, d ≠ .int i) (q : Q (.str d.shown) H) : RP.rRepr K [x] H Q := by
  refine ⟨x, d, rfl, hd, g.2.1, g.2.2.1, dp, ?_, fun i e => absurd e (ni i), q⟩
  have hl : d.layable0 = true := by
    unfold PyData.layable0
    rw [g.1, decide_eq_true (show d.depth ≤ 64 by omega), decide_eq_true wt]
    rfl
  have z := PyProof.Rows.shown_le13 hl g.2.2.2
  rw [sizeLine_eq]
  omega
def twoR (rs : List Rd) : PyData := .list [.tuple (rs.map rdD), .tuple (rs.map rdD)]
theorem repr_two {K : PySem.W.Frag} {H : Hp} {a p q : Addr} {rs : List Rd} {Q : VK} (hl : rs.length ≤ 100) (ha : H a = some (.lst [.ref p, .ref q])) (hp : H p = some (.tup (rs.map rdV))) (hq : H q = some (.tup (rs.map rdV))) (k : Q (.str (twoR rs).shown) H) : RP.rRepr K [.ref a] H Q := by
  have one : GoodD (.tuple (rs.map rdD)) := good_tup (good_rds rs)
  have lay : LayN 2 (twoR rs) := layN_list fun d hd => by
    simp only [List.mem_cons, List.not_mem_nil, or_false, or_self] at hd
    rw [hd]
    exact layN_tuple (lay_rds rs)
  refine repr_to (d := twoR rs) (.lst (.inl (.inl ha)) (.cons (.tup (.inl (.inl hp)) (dp_rds _)) (.cons (.tup (.inl (.inl hq)) (dp_rds _)) .nil))) (good_lst fun d hd => ?_) (Nat.le_trans lay.2 (by decide)) ?_ (fun i z => by unfold twoR at z; cases z) k
  · simp only [List.mem_cons, List.not_mem_nil, or_false, or_self] at hd
    rw [hd]
    exact one
  · have z := weight_rds rs
    show PyData.weightAll (rs.map rdD) + 1 + (PyData.weightAll (rs.map rdD) + 1 + 0) ≤ 2 ^ 20
    have : (2 : Nat) ^ 20 = 1048576 := by decide
    omega
theorem repr_bb {K : PySem.W.Frag} {H : Hp} {a : Addr} {b : Bool} {Q : VK} (ha : H a = some (.lst [.bl b, .bl b])) (k : Q (.str (PyData.list [.bool b, .bool b]).shown) H) : RP.rRepr K [.ref a] H Q := by
  refine repr_to (d := .list [.bool b, .bool b]) (.lst (.inl (.inl ha)) (.cons (.bl b) (.cons (.bl b) .nil))) (good_lst fun d hd => ?_) (by cases b <;> decide) (by cases b <;> decide) (fun i z => by cases z) k
  simp only [List.mem_cons, List.not_mem_nil, or_false, or_self] at hd
  rw [hd]
  exact good_bl b
theorem Between.ex {st lg cl Pl : Addr} {TT : List Addr} {H H' : Hp} {t : Nat} (B : Between st lg cl Pl TT H t) (hPT : Pl ∉ TT) (x : Ex TT H H') : Between st lg cl Pl TT H' t := by
  have n := x.extN B.tt
  refine ⟨?_, x.tabs B.tt, ?_⟩
  · obtain ⟨ls, cs, left, turn, S⟩ := B.s
    exact ⟨ls, cs, left, turn, n _ _ S.d (fun _ z => by cases z), n _ _ S.l (fun _ z => by cases z), n _ _ S.c (fun _ z => by cases z), S.lp, S.l0, S.t0, S.tt, S.ll, S.cc, S.ne⟩
  · obtain ⟨ps, e, r, ce⟩ := B.tl
    refine ⟨ps, x.keep _ _ hPT e, r, fun pos cv h => ?_⟩
    obtain ⟨c, e1, e2⟩ := ce pos cv h
    exact ⟨c, e1, n _ _ e2 (fun ps => codeO_ne ps)⟩
section
variable {P : Program} {w : World} {K : PySem.W.Frag} {mg : Str → Option Value} {base : Heap}
theorem okGN {x qual : Str} {st : Stmt} {f c : Addr} {fd : FuncData} {N ps : List Str} {k : Nat} {sp : Sp} (F : Fun K x qual st f fd) (hc : fd.code = .ref c) (S : FnScope N ps (defScope st)) (len : ∀ vs H Q E, sp vs H Q E → vs.length = ps.length)
    (hbody : ∀ (A : Around) (outer : List Env) (s : Shared) (H : Hp) (vs : List V) (Q : VK) (E : XK), (A.deeper (envOfC qual (defScope st) s.heap.objs.size f (.ref c))).guards = some [] → Room k (A.deeper (envOfC qual (defScope st) s.heap.objs.size f (.ref c))) → sp vs H Q E →
      ∃ t, PSs (cxOf CX0 P w K mg base N qual (defScope st) f (.ref c) A outer s H E).nox (defBody st) t ∧ t { nx := fun _ H' => Q .non H', rt := Q } (start N vs) H) : GE.FnG P w K mg base CX0 (k + 1) f fd ps sp :=
  GE.okG F hc S len fun A outer s H vs Q E hg hr hsp => by
    obtain ⟨t, h, q⟩ := hbody A outer s H vs Q E hg hr hsp
    exact ⟨t, h.nox, q⟩
end
end K02

set_option Elab.async false
set_option linter.all false
set_option maxRecDepth 100000
set_option maxHeartbeats 1000000
/-! A gate's reading, as the law finds it, of a list of readings. -/
namespace K02
open PySem PySem.Spec L2
open PyProof.Rows GenW GxR EZ
open LamX (ExtN)
section
variable {P : Program} {w : World} {K : PySem.W.Frag} {mg : Str → Option Value} {base : Heap}
def spLRL (K : PySem.W.Frag) : Sp := fun vs H Q _ => ∃ (a b : Addr) (tb : List Bool) (rs : List (Option Bool)), vs = [.ref a, .ref b] ∧ SqT K H a (tb.map bitV) ∧ SqL K H b (rs.map rdV) ∧ rs.length ≤ 4 ∧ tb.length = 2 ^ rs.length ∧ ∀ H', Same H H' → Q (rdV (gateR tb rs)) H'
theorem ok_LRL {f fA fG : Addr} {fd fdA fdG : FuncData} (F : Fun K "_law_gate_reading" "_law_gate_reading" sLawReading f fd) (me : mg "enumerate" = none) (ml : mg "len" = none) (mli : mg "list" = none) (mz : mg "zip" = none) (mmin : mg "min" = none) (mmax : mg "max" = none)
    (GA : FnOk P w K mg base CX0 3 fA fdA ["size"] spAllBits) (kA : PySem.W.keepIn K (.ref fA) = true) (bA : Binds K fdA ["size"] []) (mA : mg "_law_all_bits" = some (.ref fA))
    (GG : FnOk P w K mg base CX0 2 fG fdG ["table", "bits"] (spGateBit K)) (kG : PySem.W.keepIn K (.ref fG) = true) (bG : Binds K fdG ["table", "bits"] []) (mG : mg "_law_gate_bit" = some (.ref fG)) :
    FnOk P w K mg base CX0 4 f fd ["table", "readings"] (spLRL K) := by
  refine F.ok scLR (fun vs H Q E h => ?_) (fun cdv A outer s H vs Q E hr h => ?_)
  · obtain ⟨a, b, tb, rs, rfl, _⟩ := h
    rfl
  · obtain ⟨a, b, tb, rs, rfl, hT, hR, hl, htl, q⟩ := h
    refine ⟨_, pss_cons (ps_par (i := 2) (j := 3) rfl scLR.nd rfl rfl (by decide) rfl rfl (pa_cons (pe_lc (own := [("spot", 6), ("reading", 8)]) (g := gTup K 2 (gCons (gName 6) (gCons (gName 8) gNil))) rfl scLR.nd (pi_enum (by rfl) me (pa_cons (pv 1) pa_nil)) (blkOk_by (N := nLR) (sc := defScope sLawReading) (by decide +kernel))
        (fun _ _ _ _ _ => pg_tup rfl (pgs_cons (pg_name (i := 6) scLR.nd rfl (Or.inl rfl)) (pgs_cons (pg_name (i := 8) scLR.nd rfl (Or.inl rfl)) pgs_nil))) (fun _ _ _ _ _ => pts_one (pt_cmpR op_isN (pv 8) pe_non (nomark _))) (fun _ _ _ _ _ => pv 6)) (pa_cons (pe_lst pa_nil) pa_nil)) (by rfl))
      (pss_cons (ps_for PassesOwn.never rfl (pi_list (pe_call GA hr (by rfl) mA kA bA .nil pass0 (pa_cons (pe_callB call_len_seq (by rfl) ml PySem.boot_len (pa_cons (pv 2) pa_nil)) pa_nil))) (pg_name (i := 4) scLR.nd rfl (Or.inl rfl))
        (pss_cons (ps_set (i := 5) scLR.nd rfl (Or.inl rfl) (pe_callTy call_list_of (by rfl) mli (by decide +kernel) (pa_cons (pv 1) pa_nil)))
        (pss_cons (ps_for PassesOwn.never rfl (pi_zipLT (by rfl) mz (pa_cons (pv 2) (pa_cons (pv 4) pa_nil))) (pg_tup rfl (pgs_cons (pg_name (i := 6) scLR.nd rfl (Or.inl rfl)) (pgs_cons (pg_name (i := 7) scLR.nd rfl (Or.inl rfl)) pgs_nil)))
          (pss_one (ps_asg (pv 7) (pg_sub (pv 5) (pv 6) set_list))))
        (pss_one (ps_expr (pe_bm PySem.F.plainAttrs_list PySem.F.slot_list_append PySem.F.type_list_append mt_append (pv 3) (pa_cons (pe_call GG (hr.mono (by decide)) (by rfl) mG kG bG .nil pass0 (pa_cons (pv 0) (pa_cons (pv 5) pa_nil))) pa_nil)))))))
      (pss_one (ps_ret (pe_ifExp (pt_cmpR op_eq (pe_callB (cr_min rfl) (by rfl) mmin (by decide +kernel) (pa_cons (pv 3) pa_nil)) (pe_callB (cr_max rfl) (by rfl) mmax (by decide +kernel) (pa_cons (pv 3) pa_nil)) (nomark _)) (pe_ix ix_list (pv 3) pe_int (fun _ _ => rfl)) pe_non)))), ?_⟩
    -- open_spots, told = [..], []
    refine ⟨_, rfl, b, rs.map rdV, rfl, hR, fun D nD => ?_⟩
    refine lc_it walk_enum (fun i H1 => Same H H1 ∧ H1 D = some (.lst (natV (spotsF (rs.take i))))) ⟨same_new nD, upd_same⟩ (fun i H1 _ z => extN_seqL (extN_same z.1) hR) (fun i x H1 H2 hi ⟨s1, e1⟩ hy => ?_) (fun H1 ⟨s1, e1⟩ => ?_)
    · obtain ⟨T, x1, y1, rfl, nT, rfl, hx, hy⟩ := hy
      cases hx
      have hy : (rs.map rdV)[i]? = some y1 := hy
      rw [List.getElem?_map] at hy
      obtain ⟨r, hr1, rfl⟩ := Option.map_eq_some_iff.mp hy
      have hir : i < rs.length := (List.getElem?_eq_some_iff.mp hr1).1
      have hlen : (rs.take i).length = i := by
        rw [List.length_take]
        omega
      have s2 := same_new (o := .tup [.int (i : Nat), rdV r]) nT
      have nDT : D ≠ T := fun z => by
        rw [z, nT] at e1
        cases e1
      have hsn := spotsF_snoc (rs.take i) r
      refine ⟨T, _, rfl, .inl (.inl upd_same), rfl, _, _, rfl, _, _, rfl, rfl, rfl, _, rfl, rfl, ?_⟩
      refine ⟨_, rfl, ?_⟩
      rw [rdV_non]
      cases r with
      | none =>
        have hsn : spotsF (rs.take i ++ [none]) = spotsF (rs.take i) ++ [(rs.take i).length] := hsn
        refine iteT ⟨_, rfl, natV (spotsF (rs.take i)), ?_, ?_, fun b' o e => ?_, ?_⟩
        · rw [upd_ne nDT]
          exact e1
        · rw [natV_len]
          have := spotsF_len (rs.take i)
          exact small1000 (by omega)
        · rw [upd_ne (ne_of_none e nD)]
          exact s2 _ _ (s1 _ _ e)
        · rw [upd_same, take_snoc hr1, hsn, hlen, natV_app]
          rfl
      | some c =>
        have hsn : spotsF (rs.take i ++ [some c]) = spotsF (rs.take i) := hsn
        refine iteF ⟨fun b' o e => s2 _ _ (s1 _ _ e), ?_⟩
        rw [take_snoc hr1, hsn, upd_ne nDT]
        exact e1
    · have e1' : H1 D = some (.lst (natV (spotsF rs))) := by
        rw [List.length_map, List.take_length] at e1
        exact e1
      clear e1
      have hsl : (spotsF rs).length ≤ 4 := Nat.le_trans (spotsF_len rs) hl
      refine ⟨Nat.zero_le _, fun L nL => ⟨_, _, rfl, ?_⟩⟩
      have s2 : Same H (upd H1 L (.lst [])) := s1.trans (same_new nL)
      have hLD : L ≠ D := fun z => by
        rw [z, e1'] at nL
        cases nL
      have e2 : upd H1 L (.lst []) D = some (.lst (natV (spotsF rs))) := by
        rw [upd_ne hLD.symm]
        exact e1'
      refine ⟨_, rfl, D, _, rfl, .inl (.inl (.inl e2)), (spotsF rs).length, by rw [natV_len]; rfl, hsl, fun l ys H3 s3 nl e3 A3 => ?_⟩
      obtain ⟨bss, lb, hbss⟩ := bss_of A3.all
      have e3L : H3 L = some (.lst []) := s3 _ _ upd_same
      have hD3 : SqL K H3 D (natV (spotsF rs)) := .inl (.inl (s3 _ _ e2))
      have s03 : Same H H3 := s2.trans s3
      have nlL : l ≠ L := fun z => by
        rw [z, upd_same] at nl
        cases nl
      have bl : bss.length ≤ 16 := by
        rw [lb, A3.len]
        exact pow16 hsl
      generalize hf : (fun bs : List Bool => tb.getD (idx (fillV rs bs)) false) = bitOf
      -- what stands but told
      have offL : ∀ c o, H c = some o → c ≠ L := fun c o e => ne_of_none (s1 _ _ e) nL
      refine ⟨l, rfl, ⟨ys, .inl (.inl e3)⟩, for_list (fun i σ Hx => ∃ y4 y5 y6 y7 : Option V, σ = [some (.ref a), some (.ref b), some (.ref D), some (.ref L), y4, y5, y6, y7, none] ∧ (∀ c o, c ≠ L → H3 c = some o → Hx c = some o) ∧ Hx L = some (.lst (((bss.take i).map bitOf).map bitV)))
        ⟨none, none, none, none, rfl, fun _ _ _ e => e, e3L⟩ (fun i σ Hx _ ⟨_, _, _, _, _, k, _⟩ => .inl (.inl (k _ _ nlL e3))) (fun i x σ Hx hx ⟨y4, y5, y6, y7, eσ, kx, eL⟩ => ?_) (fun σ Hx ⟨y4, y5, y6, y7, eσ, kx, eL⟩ => ?_)⟩
      · subst eσ
        obtain ⟨bs, hbi, ⟨t, rfl, et⟩, lbs⟩ := hbss i x hx
        have tL : t ≠ L := fun z => by
          rw [z, e3L] at et
          cases et
        refine ⟨_, rfl, b, rs.map rdV, rfl, .inl ?_, fun F nF => ?_⟩
        · exact extN_seqL (fun c o e _ => kx c o (offL c o e) (s03 _ _ e)) hR
        have k4 : ∀ c o, c ≠ L → H3 c = some o → upd Hx F (.lst (rs.map rdV)) c = some o := fun c o n e => by
          have z := kx c o n e
          rw [upd_ne (ne_of_none z nF)]
          exact z
        have FL : F ≠ L := fun z => by
          rw [z, eL] at nF
          cases nF
        have DL : D ≠ L := hLD.symm
        have FD : F ≠ D := fun z => by
          have w := kx D _ DL (s3 _ _ e2)
          rw [← z, nF] at w
          cases w
        have Ft : F ≠ t := fun z => by
          have w := kx t _ tL et
          rw [← z, nF] at w
          cases w
        refine ⟨_, rfl, _, rfl, D, t, natV (spotsF rs), bs.map bitV, rfl, .inl (.inl (k4 _ _ DL (s3 _ _ e2))), .inl (.inl (k4 _ _ tL et)), by rw [natV_len, List.length_map, lbs], ?_⟩
        refine for_it walk_zipLT (fun j σ Hy => ∃ y6 y7 : Option V, σ = [some (.ref a), some (.ref b), some (.ref D), some (.ref L), some (.ref t), some (.ref F), y6, y7, none] ∧ (∀ c o, c ≠ F → upd Hx F (.lst (rs.map rdV)) c = some o → Hy c = some o) ∧ Hy F = some (.lst ((setN rs (((spotsF rs).zip bs).take j)).map rdV)))
          ⟨y6, y7, rfl, fun _ _ _ e => e, upd_same⟩ (fun j σ Hy _ ⟨_, _, _, ky, _⟩ => ⟨.inl (.inl (ky _ _ FD.symm (k4 _ _ DL (s3 _ _ e2)))), .inl (.inl (ky _ _ Ft.symm (k4 _ _ tL et)))⟩) (fun j x σ Hy Hz hj ⟨y6', y7', eσ, ky, eF⟩ hy => ?_) (fun σ Hy ⟨y6', y7', eσ, ky, eF⟩ => ?_)
        · subst eσ
          obtain ⟨T, x1, y1, rfl, nT, rfl, hx1, hy1⟩ := hy
          obtain ⟨p, hp, rfl⟩ := natV_get hx1
          have hy1 : (bs.map bitV)[j]? = some y1 := hy1
          rw [List.getElem?_map] at hy1
          obtain ⟨c, hc, rfl⟩ := Option.map_eq_some_iff.mp hy1
          have hz : ((spotsF rs).zip bs)[j]? = some (p, c) := List.getElem?_zip_eq_some.mpr ⟨hp, hc⟩
          have hpl : p < rs.length := spotsF_lt rs p (List.mem_of_getElem? hp)
          have FT : F ≠ T := fun z => by
            rw [z, nT] at eF
            cases eF
          refine ⟨T, _, rfl, .inl (.inl upd_same), rfl, _, _, rfl, _, _, rfl, rfl, ?_⟩
          refine ⟨_, rfl, _, rfl, _, rfl, F, (setN rs (((spotsF rs).zip bs).take j)).map rdV, (p : Int), p, rfl, rfl, ?_, ?_, some (.int (p : Int)), some (bitV c), rfl, fun d o n e => ?_, ?_⟩
          · rw [upd_ne FT]
            exact eF
          · have hpn : p < ((setN rs (((spotsF rs).zip bs).take j)).map rdV).length := by
              rw [List.length_map, setN_len]
              exact hpl
            unfold ixN
            rw [if_pos (Int.natCast_nonneg _), if_pos (Int.ofNat_lt.mpr hpn), Int.toNat_natCast]
          · have z := ky d o n e
            rw [upd_ne n, upd_ne (ne_of_none z nT)]
            exact z
          · rw [upd_same, take_snoc hz, setN_snoc, List.map_set]
            rfl
        · subst eσ
          have hzl : ((spotsF rs).zip bs).length = (natV (spotsF rs)).length := by
            rw [List.length_zip, natV_len, lbs, Nat.min_self]
          rw [← hzl, List.take_length, (fillV_comp lbs).2] at eF
          have kz : ∀ c o, c ≠ L → H3 c = some o → Hy c = some o := fun c o n e => ky c o (fun z => by
            have w := kx c o n e
            rw [z, nF] at w
            cases w) (k4 c o n e)
          have hlen : (fillV rs bs).length = rs.length := (fillV_comp lbs).1.length
          refine ⟨_, rfl, ?_, _, rfl, _, rfl, a, F, tb, fillV rs bs, rfl, ?_, .inl (.inl eF), by rw [hlen]; exact hl, by rw [hlen]; exact htl, fun H' s' => ⟨L, ((bss.take i).map bitOf).map bitV, _, rfl, rfl, ?_, ?_, ?_⟩⟩
          · refine .inl ⟨rfl, ((bss.take i).map bitOf).map bitV, .inl (.inl (ky L _ FL.symm ?_))⟩
            rw [upd_ne FL.symm]
            exact eL
          · exact extN_seqT (fun c o e _ => kz c o (offL c o e) (s03 _ _ e)) hT
          · refine s' _ _ (ky L _ FL.symm ?_)
            rw [upd_ne FL.symm]
            exact eL
          · rw [List.length_map, List.length_map, List.length_take]
            exact small1000 (by omega)
          · refine ⟨some (.ref t), some (.ref F), y6', y7', rfl, fun c o n e => ?_, ?_⟩
            · rw [upd_ne n]
              exact s' _ _ (kz c o n e)
            · rw [upd_same, take_snoc hbi, List.map_append, List.map_append, ← hf]
              rfl
      · subst eσ
        have e : Hx L = some (.lst ((bss.map bitOf).map bitV)) := by
          have hyl : ys.length = bss.length := lb.symm
          rw [hyl, List.take_length] at eL
          exact eL
        have hone : one (bss.map bitOf) = gateR tb rs := by
          rw [← hf]
          refine gate_all (fun bs hb => ?_) (fun bs hl => ?_)
          · obtain ⟨i, hi⟩ := List.getElem?_of_mem hb
            have hiy : i < ys.length := by
              rw [← lb]
              exact (List.getElem?_eq_some_iff.mp hi).1
            obtain ⟨bs', h1, _, h3⟩ := hbss i _ (List.getElem?_eq_getElem hiy)
            rw [hi] at h1
            cases h1
            exact h3
          · obtain ⟨y, hy, g⟩ := A3.each bs hl
            obtain ⟨i, hi⟩ := List.getElem?_of_mem hy
            obtain ⟨bs', h1, g', _⟩ := hbss i y hi
            rw [g.inj g']
            exact List.mem_of_getElem? h1
        generalize hLL : bss.map bitOf = LL at e hone
        have hD : SqL K Hx L ((LL.map bitZ).map V.int) := by
          refine .inl (.inl ?_)
          rw [e, List.map_map]
          rfl
        have hpos : 0 < (LL.map bitZ).length := by
          rw [List.length_map, ← hLL, List.length_map, lb, A3.len]
          exact Nat.two_pow_pos _
        have sx : Same H Hx := fun c o e => kx c o (offL c o e) (s03 _ _ e)
        refine ⟨_, rfl, L, _, rfl, hD, hpos, fun lo l1 l2 => ⟨_, rfl, L, _, rfl, hD, hpos, fun hi h1 h2 => ⟨rfl, _, rfl, ite2 (fun hc => ?_) (fun hc => ?_)⟩⟩⟩
        · obtain ⟨b', r, el, eo⟩ := (minmax_one l1 l2 h1 h2).1 (V.int.inj (of_decide_eq_true hc))
          have z := q Hx sx
          rw [← hone, eo] at z
          refine ⟨_, rfl, L, _, 0, bitV b', rfl, rfl, hD, ?_, z⟩
          rw [el]
          exact atI_nat (j := 0) rfl
        · have eo := (minmax_one l1 l2 h1 h2).2 fun z => hc (decide_eq_true (congrArg V.int z))
          have z := q Hx sx
          rw [← hone, eo] at z
          exact z
end
end K02

set_option Elab.async false
set_option linter.all false
set_option maxRecDepth 100000
set_option maxHeartbeats 2000000
/-! The law's sources and gates. -/
namespace K02
open PySem PySem.Spec L2
open PyProof.Rows GenW GxR EZ TK
open LamX (ExtN)
abbrev sLSource : Stmt := top 55 -- _law_source
abbrev sLOne : Stmt := top 56 -- _law_one
/-- a def that stands at its name and keeps its promise -/
def Cal (P : Program) (w : World) (K : PySem.W.Frag) (mg : Str → Option Value) (base : Heap) (CX : CXT) (k : Nat) (x : Str) (ps : List Str) (sp : Sp) : Prop :=
  ∃ f fd, FnOk P w K mg base CX k f fd ps sp ∧ PySem.W.keepIn K (.ref f) = true ∧ Binds K fd ps [] ∧ mg x = some (.ref f)
abbrev kIn : Key := Sum.inr ("in" : Str)
abbrev kReg : Key := Sum.inr ("reg" : Str)
abbrev kGate : Key := Sum.inr ("gate" : Str)
def srcD (a b c : Addr) : List (Key × V) := [(kIn, .ref a), (kReg, .ref b), (kGate, .ref c)]
theorem skn1 : ¬ ("in" : Str) = "reg" := by decide +kernel
theorem skn2 : ¬ ("in" : Str) = "gate" := by decide +kernel
theorem skn3 : ¬ ("reg" : Str) = "gate" := by decide +kernel
theorem merge_src (a b c : Addr) : mergeK [] (srcD a b c) = srcD a b c := by
  unfold mergeK putK srcD
  simp [skn1, skn2, skn3]
theorem src_in (a b c : Addr) : valV (srcD a b c) kIn = some (.ref a) := valV_pos rfl
theorem src_reg (a b c : Addr) : valV (srcD a b c) kReg = some (.ref b) := by
  unfold srcD
  rw [valV_neg fun z => skn1 (Sum.inr.inj z)]
  exact valV_pos rfl
theorem src_gate (a b c : Addr) : valV (srcD a b c) kGate = some (.ref c) := by
  unfold srcD
  rw [valV_neg fun z => skn2 (Sum.inr.inj z), valV_neg fun z => skn3 (Sum.inr.inj z)]
  exact valV_pos rfl
theorem upd_upd {H : Hp} {p : Addr} {o o' : HO} : L2.upd (L2.upd H p o) p o' = L2.upd H p o' := by
  funext b
  by_cases hb : b = p
  · rw [hb, upd_same, upd_same]
  · rw [upd_ne hb, upd_ne hb, upd_ne hb]
section
variable {P : Program} {w : World} {K : PySem.W.Frag} {mg : Str → Option Value} {base : Heap}
def spLSource (K : PySem.W.Frag) : Sp := fun vs H Q _ => ∃ (y : V) (ga ha la : Addr) (s : Src) (gv hv fv : List Rd), vs = [y, .ref ga, .ref ha, .ref la] ∧ SrcAt H y s ∧ SqT K H ga (gv.map rdV) ∧ SqT K H ha (hv.map rdV) ∧ (SqL K H la (fv.map rdV) ∨ SqT K H la (fv.map rdV)) ∧ s.ok gv.length hv.length fv.length ∧ ∀ H', Same H H' → Q (rdV (srcV gv hv fv s)) H'
theorem scLSource : FnScope ["source", "given", "held", "readings"] ["source", "given", "held", "readings"] (defScope sLSource) := ⟨rfl, rfl, rfl, by decide +kernel, rfl, by decide +kernel, by decide +kernel⟩
theorem ok_lsource {f : Addr} {fd : FuncData} (F : Fun K "_law_source" "_law_source" sLSource f fd) : FnOk P w K mg base CX0 1 f fd ["source", "given", "held", "readings"] (spLSource K) := by
  refine F.ok scLSource (fun vs H Q E h => ?_) (fun cdv A outer s H vs Q E hr h => ?_)
  · obtain ⟨y, ga, ha, la, sr, gv, hv, fv, rfl, _⟩ := h
    rfl
  · obtain ⟨y, ga, ha, la, sr, gv, hv, fv, rfl, ⟨t, rfl, et⟩, hg, hh, hl, ok, q⟩ := h
    have hu := hu_of hr
    have same_ : ∀ a : Str, decide (V.str a = V.str a) = true := fun a => decide_eq_true rfl
    have other : ∀ a b : Str, ¬ a = b → decide (V.str a = V.str b) = false := fun a b h => decide_eq_false fun z => h (V.str.inj z)
    have mkd : ∀ p, H p = none → (L2.upd (L2.upd H p (.dK [])) p (.dK (mergeK [] (srcD ga ha la)))) = L2.upd H p (.dK (srcD ga ha la)) := fun p _ => by rw [merge_src, upd_upd]
    have at0 : ∀ (H' : Hp), Same H H' → SqT K H' t [.str sr.kind, .int sr.at_] := fun H' s => .inl (.inl (s _ _ et))
    cases sr with
    | bit b =>
      refine ⟨_, pss_cons (ps_if (pt_cmpR op_eq (pe_ix (r := rIxT K) ix_tup (pv 0) pe_int (fun _ _ => rfl)) pe_str (nomark _)) (pss_one (ps_ret (pe_ix (r := rIxT K) ix_tup (pv 0) pe_int (fun _ _ => rfl)))) pss_nil)
        (pss_one (ps_ret (pe_ix (r := rIxT K) ix_tup (pe_dget hu (pe_disp (pps_cons pe_str (pv 1) (pps_cons pe_str (pv 2) (pps_cons pe_str (pv 3) pps_nil))) (by rfl) (by rfl) (fun z => by cases z) (by decide)) (pe_ix (r := rIxT K) ix_tup (pv 0) pe_int (fun _ _ => rfl)) (fun _ _ => rfl)) (pe_ix (r := rIxT K) ix_tup (pv 0) pe_int (fun _ _ => rfl)) (fun _ _ => rfl)))), ?_⟩
      refine ⟨_, rfl, t, _, 0, .str "bit", rfl, rfl, .inl (.inl et), rfl, rfl, _, rfl, ?_⟩
      rw [same_]
      exact iteT ⟨_, rfl, t, _, 1, .int (bitZ b), rfl, rfl, .inl (.inl et), rfl, q H fun _ _ e => e⟩
    | inp i =>
      refine ⟨_, pss_cons (ps_if (pt_cmpR op_eq (pe_ix (r := rIxT K) ix_tup (pv 0) pe_int (fun _ _ => rfl)) pe_str (nomark _)) (pss_one (ps_ret (pe_ix (r := rIxT K) ix_tup (pv 0) pe_int (fun _ _ => rfl)))) pss_nil)
        (pss_one (ps_ret (pe_ix (r := rIxT K) ix_tup (pe_dget hu (pe_disp (pps_cons pe_str (pv 1) (pps_cons pe_str (pv 2) (pps_cons pe_str (pv 3) pps_nil))) (by rfl) (by rfl) (fun z => by cases z) (by decide)) (pe_ix (r := rIxT K) ix_tup (pv 0) pe_int (fun _ _ => rfl)) (fun _ _ => rfl)) (pe_ix (r := rIxT K) ix_tup (pv 0) pe_int (fun _ _ => rfl)) (fun _ _ => rfl)))), ?_⟩
      refine ⟨_, rfl, t, _, 0, .str "in", rfl, rfl, .inl (.inl et), rfl, rfl, _, rfl, ?_⟩
      rw [other _ _ (by decide +kernel)]
      refine iteF ?_
      intro p np
      refine ⟨_, rfl, _, rfl, _, rfl, upd_same, srcD ga ha la, rfl, (by show 3 ≤ 15; decide), ?_⟩
      rw [mkd p np]
      have s1 := same_new (o := .dK (srcD ga ha la)) np
      refine ⟨_, rfl, t, _, 0, .str "in", rfl, rfl, at0 _ s1, rfl, p, _, rfl, (by rw [← src_in ga ha la]; exact DGet.k (k := kIn) upd_same), _, rfl, t, _, 1, .int (i : Int), rfl, rfl, at0 _ s1, rfl, ga, _, (i : Int), _, rfl, rfl, extN_seqT (extN_same s1) hg, at_rd ok, q _ s1⟩
    | reg i =>
      refine ⟨_, pss_cons (ps_if (pt_cmpR op_eq (pe_ix (r := rIxT K) ix_tup (pv 0) pe_int (fun _ _ => rfl)) pe_str (nomark _)) (pss_one (ps_ret (pe_ix (r := rIxT K) ix_tup (pv 0) pe_int (fun _ _ => rfl)))) pss_nil)
        (pss_one (ps_ret (pe_ix (r := rIxT K) ix_tup (pe_dget hu (pe_disp (pps_cons pe_str (pv 1) (pps_cons pe_str (pv 2) (pps_cons pe_str (pv 3) pps_nil))) (by rfl) (by rfl) (fun z => by cases z) (by decide)) (pe_ix (r := rIxT K) ix_tup (pv 0) pe_int (fun _ _ => rfl)) (fun _ _ => rfl)) (pe_ix (r := rIxT K) ix_tup (pv 0) pe_int (fun _ _ => rfl)) (fun _ _ => rfl)))), ?_⟩
      refine ⟨_, rfl, t, _, 0, .str "reg", rfl, rfl, .inl (.inl et), rfl, rfl, _, rfl, ?_⟩
      rw [other _ _ (by decide +kernel)]
      refine iteF ?_
      intro p np
      refine ⟨_, rfl, _, rfl, _, rfl, upd_same, srcD ga ha la, rfl, (by show 3 ≤ 15; decide), ?_⟩
      rw [mkd p np]
      have s1 := same_new (o := .dK (srcD ga ha la)) np
      refine ⟨_, rfl, t, _, 0, .str "reg", rfl, rfl, at0 _ s1, rfl, p, _, rfl, (by rw [← src_reg ga ha la]; exact DGet.k (k := kReg) upd_same), _, rfl, t, _, 1, .int (i : Int), rfl, rfl, at0 _ s1, rfl, ha, _, (i : Int), _, rfl, rfl, extN_seqT (extN_same s1) hh, at_rd ok, q _ s1⟩
    | gate i =>
      rcases hl with hl | hl
      · refine ⟨_, pss_cons (ps_if (pt_cmpR op_eq (pe_ix (r := rIxT K) ix_tup (pv 0) pe_int (fun _ _ => rfl)) pe_str (nomark _)) (pss_one (ps_ret (pe_ix (r := rIxT K) ix_tup (pv 0) pe_int (fun _ _ => rfl)))) pss_nil)
          (pss_one (ps_ret (pe_ix (r := rIxL K) ix_list (pe_dget hu (pe_disp (pps_cons pe_str (pv 1) (pps_cons pe_str (pv 2) (pps_cons pe_str (pv 3) pps_nil))) (by rfl) (by rfl) (fun z => by cases z) (by decide)) (pe_ix (r := rIxT K) ix_tup (pv 0) pe_int (fun _ _ => rfl)) (fun _ _ => rfl)) (pe_ix (r := rIxT K) ix_tup (pv 0) pe_int (fun _ _ => rfl)) (fun _ _ => rfl)))), ?_⟩
        refine ⟨_, rfl, t, _, 0, .str "gate", rfl, rfl, .inl (.inl et), rfl, rfl, _, rfl, ?_⟩
        rw [other _ _ (by decide +kernel)]
        refine iteF ?_
        intro p np
        refine ⟨_, rfl, _, rfl, _, rfl, upd_same, srcD ga ha la, rfl, (by show 3 ≤ 15; decide), ?_⟩
        rw [mkd p np]
        have s1 := same_new (o := .dK (srcD ga ha la)) np
        refine ⟨_, rfl, t, _, 0, .str "gate", rfl, rfl, at0 _ s1, rfl, p, _, rfl, (by rw [← src_gate ga ha la]; exact DGet.k (k := kGate) upd_same), _, rfl, t, _, 1, .int (i : Int), rfl, rfl, at0 _ s1, rfl, la, _, (i : Int), _, rfl, rfl, extN_seqL (extN_same s1) hl, at_rd ok, q _ s1⟩
      · refine ⟨_, pss_cons (ps_if (pt_cmpR op_eq (pe_ix (r := rIxT K) ix_tup (pv 0) pe_int (fun _ _ => rfl)) pe_str (nomark _)) (pss_one (ps_ret (pe_ix (r := rIxT K) ix_tup (pv 0) pe_int (fun _ _ => rfl)))) pss_nil)
          (pss_one (ps_ret (pe_ix (r := rIxT K) ix_tup (pe_dget hu (pe_disp (pps_cons pe_str (pv 1) (pps_cons pe_str (pv 2) (pps_cons pe_str (pv 3) pps_nil))) (by rfl) (by rfl) (fun z => by cases z) (by decide)) (pe_ix (r := rIxT K) ix_tup (pv 0) pe_int (fun _ _ => rfl)) (fun _ _ => rfl)) (pe_ix (r := rIxT K) ix_tup (pv 0) pe_int (fun _ _ => rfl)) (fun _ _ => rfl)))), ?_⟩
        refine ⟨_, rfl, t, _, 0, .str "gate", rfl, rfl, .inl (.inl et), rfl, rfl, _, rfl, ?_⟩
        rw [other _ _ (by decide +kernel)]
        refine iteF ?_
        intro p np
        refine ⟨_, rfl, _, rfl, _, rfl, upd_same, srcD ga ha la, rfl, (by show 3 ≤ 15; decide), ?_⟩
        rw [mkd p np]
        have s1 := same_new (o := .dK (srcD ga ha la)) np
        refine ⟨_, rfl, t, _, 0, .str "gate", rfl, rfl, at0 _ s1, rfl, p, _, rfl, (by rw [← src_gate ga ha la]; exact DGet.k (k := kGate) upd_same), _, rfl, t, _, 1, .int (i : Int), rfl, rfl, at0 _ s1, rfl, la, _, (i : Int), _, rfl, rfl, extN_seqT (extN_same s1) hl, at_rd ok, q _ s1⟩
/-- a gate's reading, of readings that stand in a list or a tuple -/
def spLOne (K : PySem.W.Frag) : Sp := fun vs H Q _ => ∃ (y : V) (g : Gate) (ga ha la : Addr) (gv hv fv : List Rd), vs = [y, .ref ga, .ref ha, .ref la] ∧ GateAt H y g ∧ g.ok gv.length hv.length fv.length ∧ SqT K H ga (gv.map rdV) ∧ SqT K H ha (hv.map rdV) ∧ (SqL K H la (fv.map rdV) ∨ SqT K H la (fv.map rdV)) ∧ ∀ H', Same H H' → Q (rdV (gateV gv hv fv g)) H'
theorem scLOne : FnScope ["gate", "given", "held", "readings", "source"] ["gate", "given", "held", "readings"] (defScope sLOne) := ⟨rfl, rfl, rfl, by decide +kernel, rfl, by decide +kernel, by decide +kernel⟩
theorem ok_lone {f : Addr} {fd : FuncData} (F : Fun K "_law_one" "_law_one" sLOne f fd) (cS : Cal P w K mg base CX0 1 "_law_source" ["source", "given", "held", "readings"] (spLSource K)) (cR : Cal P w K mg base CX0 4 "_law_gate_reading" ["table", "readings"] (spLRL K)) : FnOk P w K mg base CX0 5 f fd ["gate", "given", "held", "readings"] (spLOne K) := by
  obtain ⟨fS, fdS, GS, kS, bS, mS⟩ := cS
  obtain ⟨fR, fdR, GR, kR, bR, mR⟩ := cR
  refine F.ok scLOne (fun vs H Q E h => ?_) (fun cdv A outer s H vs Q E hr h => ?_)
  · obtain ⟨y, g, ga, ha, la, gv, hv, fv, rfl, _⟩ := h
    rfl
  · obtain ⟨y, g, ga, ha, la, gv, hv, fv, rfl, ⟨t, a, b, vs, rfl, et, ea, hv2, eb⟩, ⟨ok1, ok2, ok3⟩, hg, hh, hl, q⟩ := h
    refine ⟨_, pss_one (ps_ret (pe_call GR hr (by rfl) mR kR bR .nil pass0 (pa_cons (pe_ix (r := rIxT K) ix_tup (pv 0) pe_int (fun _ _ => rfl)) (pa_cons (pe_lc (own := [("source", 4)]) (g := gName 4) (tt := tYes) rfl scLOne.nd (pi_tup (pe_ix (r := rIxT K) ix_tup (pv 0) pe_int (fun _ _ => rfl))) (blkOk_by (N := ["gate", "given", "held", "readings", "source"]) (sc := defScope sLOne) (by decide +kernel))
      (fun _ _ _ _ _ => pg_name (i := 4) scLOne.nd rfl (Or.inl rfl)) (fun _ _ _ _ _ => pts_nil) (fun _ _ _ _ _ => pe_call GS (hr.mono (by decide)) (by rfl) mS kS bS .nil pass0 (pa_cons (pv 4) (pa_cons (pv 1) (pa_cons (pv 2) (pa_cons (pv 3) pa_nil)))))) pa_nil)))), ?_⟩
    have lv : vs.length = g.1.length := Paired.length hv2
    refine ⟨_, rfl, t, _, 1, .ref b, rfl, rfl, .inl (.inl et), rfl, _, rfl, t, _, 0, .ref a, rfl, rfl, .inl (.inl et), rfl, a, rfl, ⟨vs, .inl (.inl ea)⟩, fun D nD => lc_tup (fun i H3 => Same H H3 ∧ H3 D = some (.lst ((g.1.take i).map fun s => rdV (srcV gv hv fv s)))) ⟨same_new nD, upd_same⟩ (fun i H3 _ z => .inl (.inl (z.1 _ _ ea))) (fun i x H3 hx ⟨s3, e3⟩ => ?_) (fun H3 ⟨s3, e3⟩ => ?_)⟩
    · obtain ⟨sr, hsr, hs⟩ := all_get hv2 hx
      have nn := extN_same s3
      have hi : i < g.1.length := (List.getElem?_eq_some_iff.mp hsr).1
      refine ⟨rfl, _, rfl, _, rfl, _, rfl, _, rfl, x, ga, ha, la, sr, gv, hv, fv, rfl, hs.ext nn, extN_seqT nn hg, extN_seqT nn hh, hl.imp (extN_seqL nn) (extN_seqT nn), ok3 sr (List.mem_of_getElem? hsr), fun H4 s4 => ⟨_, s4 _ _ e3, ?_, fun b' o e => ?_, ?_⟩⟩
      · rw [List.length_map]
        exact small1000 (by rw [List.length_take]; omega)
      · rw [upd_ne (ne_of_none e nD)]
        exact s4 _ _ (s3 _ _ e)
      · rw [upd_same, take_snoc hsr, List.map_append]
        rfl
    · rw [lv, List.take_length] at e3
      have e4 : H3 D = some (.lst ((g.1.map (srcV gv hv fv)).map rdV)) := by
        rw [e3, List.map_map]
        rfl
      refine ⟨b, D, g.2, g.1.map (srcV gv hv fv), rfl, .inl (.inl (s3 _ _ eb)), .inl (.inl e4), by rw [List.length_map]; exact ok1, by rw [List.length_map]; exact ok2, fun H' s' => q H' (s3.trans s')⟩
end
end K02

set_option Elab.async false
set_option linter.all false
set_option maxRecDepth 100000
set_option maxHeartbeats 4000000
/-! The law's own laps. -/
namespace K02
open PySem PySem.Spec L2
open PyProof.Rows GenW GxR EZ TK
open LamX (ExtN)
abbrev sLSure : Stmt := top 57 -- _law_sure
/-- what is read of gate i, if it is open -/
def preG (gs : List Gate) (gv hv F : List Rd) (i : Nat) : Option (Nat × Rd) := match F.getD i none with
  | some _ => none
  | none => some (i, readG gs gv hv F i)
theorem pre_lap (gs : List Gate) (gv hv F : List Rd) : ((List.range gs.length).filterMap (preG gs gv hv F)).filterMap (fun p => p.2.map fun b => (p.1, b)) = lapOf gs gv hv F := by
  unfold lapOf
  rw [List.filterMap_filterMap]
  congr 1
  funext i
  unfold preG getsF
  cases F.getD i none <;> rfl
def OPairAt (H : Hp) (v : V) (p : Nat × Rd) : Prop := ∃ t, v = .ref t ∧ H t = some (.tup [.int (p.1 : Int), rdV p.2])
theorem OPairAt.keep {H H' : Hp} {v : V} {p : Nat × Rd} (h : OPairAt H v p) (k : TupKeep H H') : OPairAt H' v p := by
  obtain ⟨t, a, b⟩ := h
  exact ⟨t, a, k _ _ b⟩
theorem opairs_keep {H H' : Hp} {us : List V} {l : List (Nat × Rd)} (h : AllAt OPairAt H us l) (k : TupKeep H H') : AllAt OPairAt H' us l := all_ext (fun _ _ r => r.keep k) h
section
variable {P : Program} {w : World} {K : PySem.W.Frag} {mg : Str → Option Value} {base : Heap}
def spLSure (K : PySem.W.Frag) : Sp := fun vs H Q _ => ∃ (y : V) (C : Circ) (ga ha : Addr) (gv hv : List Rd), vs = [y, .ref ga, .ref ha] ∧ CircAt H y C ∧ C.ok ∧ gv.length = C.ni ∧ hv.length = C.regs.length ∧ SqT K H ga (gv.map rdV) ∧ SqT K H ha (hv.map rdV) ∧
  ∀ (T r l : Addr) (us : List V) (H' : Hp), Same H H' → H T = none → H r = none → H l = none → H' T = some (.tup [.ref r, .ref l]) → H' r = some (.lst ((sureF C.gates gv hv).map rdV)) → H' l = some (.lst us) → AllAt (LapAt fun a => H a = none) H' us (lapsAll C.gates gv hv) → Q (.ref T) H'
abbrev nLS : List Str := ["circuit", "given", "held", "gates", "readings", "laps", "going", "spot", "here", "bit", "gate"]
theorem scLS : FnScope nLS ["circuit", "given", "held"] (defScope sLSure) := ⟨rfl, rfl, rfl, by decide +kernel, rfl, by decide +kernel, by decide +kernel⟩
theorem ok_lsure {f : Addr} {fd : FuncData} (F : Fun K "_law_sure" "_law_sure" sLSure f fd) (mlen : mg "len" = none) (men : mg "enumerate" = none) (cO : Cal P w K mg base CX0 5 "_law_one" ["gate", "given", "held", "readings"] (spLOne K)) : FnOk P w K mg base CX0 6 f fd ["circuit", "given", "held"] (spLSure K) := by
  obtain ⟨fO, fdO, GO, kO, bO, mO⟩ := cO
  refine F.ok scLS (fun vs H Q E h => ?_) (fun cdv A outer s H vs Q E hr h => ?_)
  · obtain ⟨y, C, ga, ha, gv, hv, rfl, _⟩ := h
    rfl
  · obtain ⟨y, C, ga, ha, gv, hv, rfl, hC, ok, lgv, lhv, hg, hh, q⟩ := h
    have hu64 := hr.units
    refine ⟨_, (pss_cons (ps_set (i := 3) scLS.nd rfl (Or.inl rfl) (pe_ix (r := rIxT K) ix_tup (pv 0) pe_int (fun _ _ => rfl)))
      (pss_cons (ps_asg (pe_tup (pa_cons (pe_op op_rep (pe_lst (pa_cons pe_non pa_nil)) (pe_callB call_len_seq (by rfl) mlen PySem.boot_len (pa_cons (pv 3) pa_nil))) (pa_cons (pe_lst pa_nil) (pa_cons pe_bl pa_nil)))) (pg_tup rfl (pgs_cons (pg_name (i := 4) scLS.nd rfl (Or.inr rfl)) (pgs_cons (pg_name (i := 5) scLS.nd rfl (Or.inl rfl)) (pgs_cons (pg_name (i := 6) scLS.nd rfl (Or.inl rfl)) pgs_nil)))))
      (pss_cons (ps_while PassesOwn.never (pt_truth (pv 6) (fun _ => rfl))
        (pss_cons (ps_setLc (i := 8) (own := [("spot", 7), ("gate", 10)]) (g := gTup K 2 (gCons (gName 7) (gCons (gName 10) gNil))) rfl scLS.nd rfl rfl (sw_true rfl rfl rfl (by decide +kernel)) (pi_enumT (by rfl) men (pa_cons (pv 3) pa_nil)) (blkOk_by (N := nLS) (sc := defScope sLSure) (by decide +kernel)) (fun _ _ _ _ _ => (pg_tup rfl (pgs_cons (pg_name (i := 7) scLS.nd rfl (Or.inl rfl)) (pgs_cons (pg_name (i := 10) scLS.nd rfl (Or.inl rfl)) pgs_nil)))) (fun _ _ _ _ _ => pts_one (pt_cmpR op_isN (pe_ix (r := rIxL K) ix_list (pv 4) (pv 7) (fun _ _ => rfl)) pe_non (nomark _))) (fun _ _ _ _ _ => (pe_tup (pa_cons (pv 7) (pa_cons (pe_call GO (hr.mono (by decide)) (by rfl) mO kO bO .nil pass0 (pa_cons (pv 10) (pa_cons (pv 1) (pa_cons (pv 2) (pa_cons (pv 4) pa_nil))))) pa_nil)))))
        (pss_cons (ps_setLc (i := 8) (own := [("spot", 7), ("bit", 9)]) (g := gTup K 2 (gCons (gName 7) (gCons (gName 9) gNil))) rfl scLS.nd rfl rfl (sw_true rfl rfl rfl (by decide +kernel)) (pi_list (pv 8)) (blkOk_by (N := nLS) (sc := defScope sLSure) (by decide +kernel)) (fun _ _ _ _ _ => (pg_tup rfl (pgs_cons (pg_name (i := 7) scLS.nd rfl (Or.inl rfl)) (pgs_cons (pg_name (i := 9) scLS.nd rfl (Or.inl rfl)) pgs_nil)))) (fun _ _ _ _ _ => pts_one (pt_cmpR op_notN (pv 9) pe_non (nomark _))) (fun _ _ _ _ _ => (pe_tup (pa_cons (pv 7) (pa_cons (pv 9) pa_nil)))))
        (pss_cons (ps_for PassesOwn.never rfl (pi_list (pv 8)) (pg_tup rfl (pgs_cons (pg_name (i := 7) scLS.nd rfl (Or.inl rfl)) (pgs_cons (pg_name (i := 9) scLS.nd rfl (Or.inl rfl)) pgs_nil)))
          (pss_one (ps_asg (pv 9) (pg_sub (pv 4) (pv 7) set_list))))
        (pss_cons (ps_expr (pe_bm PySem.F.plainAttrs_list PySem.F.slot_list_append PySem.F.type_list_append mt_append (pv 5) (pa_cons (pv 8) pa_nil)))
        (pss_one (ps_set (i := 6) scLS.nd rfl (Or.inl rfl) (pe_cmpR (op_neD hu64) (pv 8) (pe_lst pa_nil) (nomark _)))))))))
      (pss_one (ps_ret (pe_tup (pa_cons (pv 4) (pa_cons (pe_slice sl_list (pv 5) po_none (po_some (pe_un un_neg pe_int))) pa_nil)))))))), ?_⟩
    have hC' := hC
    obtain ⟨t, ra, gaa, oa, rs, gs, os, rfl, et, er, eg, eo, hrs, hgs, hos⟩ := hC'
    have lg : gs.length = C.gates.length := Paired.length hgs
    have k3 := ok.ng
    -- gates; readings, laps, going
    refine ⟨_, rfl, t, _, 2, .ref gaa, rfl, rfl, .inl (.inl et), rfl, ?_⟩
    refine ⟨(by show 1 ≤ sizeLine; decide), fun p np => ?_⟩
    refine ⟨_, rfl, gaa, gs, rfl, .inr (.inl (.inl (same_new np _ _ eg))), p, _, [V.non], rfl, rfl, upd_same, by omega, by omega, ?_, fun ra1 nra => ?_⟩
    · rw [sizeLine_eq]
      show 1 * ((gs.length : Int)).toNat ≤ _
      omega
    have n1p : Same H (L2.upd H p (.lst [V.non])) := same_new np
    generalize L2.upd H p (.lst [V.non]) = Hp1 at nra n1p
    have e2 : (L2.upd Hp1 ra1 (.lst (List.replicate ((gs.length : Int)).toNat [V.non]).flatten)) ra1 = some (.lst ((List.replicate C.gates.length (none : Rd)).map rdV)) := by
      rw [upd_same, Int.toNat_natCast, lg, rep_none]
    have s12 : Same H (L2.upd Hp1 ra1 (.lst (List.replicate ((gs.length : Int)).toNat [V.non]).flatten)) := n1p.trans (same_new nra)
    have n0ra : H ra1 = none := n1p.free nra
    generalize L2.upd Hp1 ra1 (.lst (List.replicate ((gs.length : Int)).toNat [V.non]).flatten) = H2 at e2 s12
    clear n1p nra np
    refine ⟨Nat.zero_le _, fun la1 nla => ?_⟩
    have s23 : Same H2 (L2.upd H2 la1 (.lst [])) := same_new nla
    have e3 : (L2.upd H2 la1 (.lst [])) la1 = some (.lst []) := upd_same
    have n0la : H la1 = none := s12.free nla
    have rala : ra1 ≠ la1 := fun z => by
      rw [z, nla] at e2
      cases e2
    generalize L2.upd H2 la1 (.lst []) = H3 at e3 s23
    refine ⟨(by show 3 ≤ sizeLine; decide), fun tp ntp => ?_⟩
    have s34 : Same H3 (L2.upd H3 tp (.tup [.ref ra1, .ref la1, .bl true])) := same_new ntp
    have e4 : (L2.upd H3 tp (.tup [.ref ra1, .ref la1, .bl true])) tp = some (.tup [.ref ra1, .ref la1, .bl true]) := upd_same
    generalize L2.upd H3 tp (.tup [.ref ra1, .ref la1, .bl true]) = H4 at e4 s34
    refine ⟨tp, _, rfl, .inl (.inl e4), rfl, _, _, rfl, _, _, rfl, _, _, rfl, rfl, ?_⟩
    have init0 : putL (List.replicate C.gates.length (none : Rd)) [] = List.replicate C.gates.length none := rfl
    -- while going
    refine ⟨fun m σ Hx => ∃ (F : List Rd) (vs : List V) (laps : List Lap) (go : Bool) (y7 y8 y9 : Option V), σ = [some (.ref t), some (.ref ga), some (.ref ha), some (.ref gaa), some (.ref ra1), some (.ref la1), some (.bl go), y7, y8, y9, none] ∧
        Same H Hx ∧ Hx ra1 = some (.lst (F.map rdV)) ∧ Hx la1 = some (.lst vs) ∧ AllAt (LapAt fun a => a ≠ ra1 ∧ a ≠ la1 ∧ H a = none) Hx vs laps ∧ F.length = C.gates.length ∧ laps.foldl putL (List.replicate C.gates.length none) = F ∧
        (go = true → laps ++ lapsL C.gates gv hv C.gates.length F = lapsAll C.gates gv hv ∧ laps.length + openN F ≤ C.gates.length ∧ m = openN F + 1) ∧ (go = false → laps = lapsAll C.gates gv hv ++ [[]] ∧ m = 0),
      ⟨_, _, _, _, _, _, _, _, rfl, (s12.trans s23).trans s34, s34 _ _ (s23 _ _ e2), s34 _ _ e3, .nil, List.length_replicate, rfl, fun _ => ⟨rfl, ?_, rfl⟩, fun z => by cases z⟩, fun m σ Hx hW => ?_⟩
    · have z := openN_len (List.replicate C.gates.length (none : Rd))
      rw [List.length_replicate] at z
      show 0 + _ ≤ _
      omega
    obtain ⟨F, vs, laps, go, y7, y8, y9, rfl, sx, era, ela, hlaps, lF, hput, hgo, hst⟩ := hW
    refine ⟨_, rfl, go, rfl, ?_⟩
    cases go with
    | false =>
      obtain ⟨hl, rfl⟩ := hst rfl
      refine iteF ?_
      subst hl
      have lvs : vs.length = (lapsAll C.gates gv hv).length + 1 := by
        have z := Paired.length hlaps
        rw [List.length_append] at z
        exact z
      have hcut : cutV vs none (some (-1)) = vs.take (lapsAll C.gates gv hv).length := by
        unfold cutV
        have z1 : HT.sIx vs.length 0 none = 0 := rfl
        have z2 : HT.sIx vs.length vs.length (some (-1)) = vs.length - 1 := by
          show (if (-1 : Int) < 0 then ((-1 : Int) + (vs.length : Int)).toNat else min (-1 : Int).toNat vs.length) = _
          rw [if_pos (by decide)]
          omega
        rw [z1, z2, List.drop_zero, Nat.sub_zero, lvs]
        rfl
      have hput2 : sureF C.gates gv hv = F := by
        rw [← lapsAll_put, ← hput, List.foldl_append]
        rfl
      refine ⟨_, rfl, _, rfl, _, rfl, _, rfl, la1, vs, rfl, .inl (.inl ela), fun l nl => ?_⟩
      have hlt : AllAt (LapAt fun a => a ≠ ra1 ∧ a ≠ la1 ∧ H a = none) Hx (vs.take (lapsAll C.gates gv hv).length) (lapsAll C.gates gv hv) := by
        have z : ∀ {α β : Type} {R : α → β → Prop} {xs : List α} {ys : List β} (n : Nat), Paired R xs ys → Paired R (xs.take n) (ys.take n) := fun {α β R xs ys} n h => by
          induction h generalizing n with
          | nil => simp; exact .nil
          | cons r t ih =>
            cases n with
            | zero => exact .nil
            | succ n => exact .cons r (ih n)
        have z2 := z (lapsAll C.gates gv hv).length hlaps
        rw [List.take_left' rfl] at z2
        exact z2
      rw [hcut]
      have s1 : Same Hx (L2.upd Hx l (.lst (vs.take (lapsAll C.gates gv hv).length))) := same_new nl
      have e1 : (L2.upd Hx l (.lst (vs.take (lapsAll C.gates gv hv).length))) l = some (.lst (vs.take (lapsAll C.gates gv hv).length)) := upd_same
      generalize L2.upd Hx l (.lst (vs.take (lapsAll C.gates gv hv).length)) = Hy at s1 e1
      refine ⟨(by show 2 ≤ sizeLine; decide), fun T nT => ?_⟩
      have s2 : Same Hy (L2.upd Hy T (.tup [.ref ra1, .ref l])) := same_new nT
      have sH := sx.trans s1
      rw [← hput2] at era
      refine q T ra1 l _ _ (sH.trans s2) (sH.free nT) n0ra (sx.free nl) upd_same (s2 _ _ (s1 _ _ era)) (s2 _ _ e1) ?_
      exact paired_imp (fun a b r => r.weak fun z hz => hz.2.2) (laps_keep hlt (.of (s1.trans s2)) fun a zs _ e => (s1.trans s2) _ _ e)
    | true =>
      obtain ⟨hall, hfew, rfl⟩ := hgo rfl
      have lvs : vs.length = laps.length := Paired.length hlaps
      refine iteT ⟨fun σ' H' => ∃ (F' : List Rd) (vs : List V) (laps : List Lap) (go : Bool) (y7 y8 y9 : Option V), σ' = [some (.ref t), some (.ref ga), some (.ref ha), some (.ref gaa), some (.ref ra1), some (.ref la1), some (.bl go), y7, y8, y9, none] ∧
          Same H H' ∧ H' ra1 = some (.lst (F'.map rdV)) ∧ H' la1 = some (.lst vs) ∧ AllAt (LapAt fun a => a ≠ ra1 ∧ a ≠ la1 ∧ H a = none) H' vs laps ∧ F'.length = C.gates.length ∧ laps.foldl putL (List.replicate C.gates.length none) = F' ∧
          (go = true → laps ++ lapsL C.gates gv hv C.gates.length F' = lapsAll C.gates gv hv ∧ laps.length + openN F' ≤ C.gates.length ∧ openN F' < openN F) ∧ (go = false → laps = lapsAll C.gates gv hv ++ [[]]),
        fun σ' H' ⟨F', vs, laps, go, a7, a8, a9, b1, b2, b3, b4, b5, b6, b7, b8, b9⟩ => ?_, ?_⟩
      · cases go with
        | true => exact ⟨openN F' + 1, Nat.succ_lt_succ (b8 rfl).2.2, F', vs, laps, true, a7, a8, a9, b1, b2, b3, b4, b5, b6, b7, fun _ => ⟨(b8 rfl).1, (b8 rfl).2.1, rfl⟩, (fun z => by cases z)⟩
        | false => exact ⟨0, Nat.succ_pos _, F', vs, laps, false, a7, a8, a9, b1, b2, b3, b4, b5, b6, b7, (fun z => by cases z), fun _ => ⟨b9 rfl, rfl⟩⟩
      -- here = [(spot, _law_one(..)) ..]
      refine ⟨_, rfl, gaa, gs, rfl, .inl (.inl (sx _ _ eg)), fun D nD => ?_⟩
      refine lc_it walk_enumT (fun i H1 => Same Hx H1 ∧ ∃ zs, H1 D = some (.lst zs) ∧ AllAt OPairAt H1 zs ((List.range i).filterMap (preG C.gates gv hv F)) ∧ zs.length ≤ i) ⟨same_new nD, [], upd_same, .nil, Nat.le_refl _⟩ (fun i H1 _ z => .inl (.inl (z.1 _ _ (sx _ _ eg)))) (fun i x H1 H1' hi ⟨s1, zs, e1, hz, lz⟩ hy => ?_) (fun H1 ⟨s1, zs, e1, hz, lz⟩ => ?_)
      · obtain ⟨T, x1, y1, rfl, nT, rfl, hx, hy⟩ := hy
        cases hx
        have hy : gs[i]? = some y1 := hy
        obtain ⟨gt, hg2, hgat⟩ := all_get hgs hy
        have hil : i < C.gates.length := (List.getElem?_eq_some_iff.mp hg2).1
        have sT := same_new (o := .tup [.int (i : Nat), y1]) nT
        have eT : (L2.upd H1 T (.tup [.int (i : Nat), y1])) T = some (.tup [.int (i : Nat), y1]) := upd_same
        have e1T := sT _ _ e1
        generalize L2.upd H1 T (.tup [.int (i : Nat), y1]) = Ht at sT eT e1T
        have sxt := s1.trans sT
        have sHt := sx.trans sxt
        have gok := ok.gates gt (List.mem_of_getElem? hg2)
        refine ⟨T, _, rfl, .inl (.inl eT), rfl, _, _, rfl, _, _, rfl, rfl, rfl, ?_⟩
        refine ⟨_, rfl, _, rfl, ra1, _, (i : Int), _, rfl, rfl, .inl (.inl (sxt _ _ era)), at_rd (by rw [lF]; exact hil), rfl, _, rfl, ?_⟩
        rw [rdV_isN]
        cases ei : F.getD i none with
        | some b =>
          have pe : preG C.gates gv hv F i = none := by
            unfold preG
            rw [ei]
          refine iteF ⟨sxt, zs, e1T, ?_, Nat.le_succ_of_le lz⟩
          rw [List.range_succ, List.filterMap_append, List.filterMap_cons_none pe, List.filterMap_nil, List.append_nil]
          exact opairs_keep hz (.of sT)
        | none =>
          have re : gateV gv hv F gt = readG C.gates gv hv F i := by
            unfold readG
            rw [hg2]
          have pe : preG C.gates gv hv F i = some (i, readG C.gates gv hv F i) := by
            unfold preG
            rw [ei]
          refine iteT ⟨_, rfl, _, rfl, _, rfl, _, rfl, _, rfl, y1, gt, ga, ha, ra1, gv, hv, F, rfl, hgat.ext (extN_same sHt), by rw [lgv, lhv, lF]; exact gok, extN_seqT (extN_same sHt) hg, extN_seqT (extN_same sHt) hh, .inl (.inl (.inl (sxt _ _ era))), fun H5 s5 => ⟨(by show 2 ≤ sizeLine; decide), fun p5 np5 => ?_⟩⟩
          rw [re]
          have s6 := same_new (o := .tup [.int ((i : Nat) : Int), rdV (readG C.gates gv hv F i)]) np5
          have e6 : (L2.upd H5 p5 (.tup [.int ((i : Nat) : Int), rdV (readG C.gates gv hv F i)])) p5 = some (.tup [.int ((i : Nat) : Int), rdV (readG C.gates gv hv F i)]) := upd_same
          generalize L2.upd H5 p5 (.tup [.int ((i : Nat) : Int), rdV (readG C.gates gv hv F i)]) = H6 at s6 e6
          have s16 := sT.trans (s5.trans s6)
          have e16 := s16 _ _ e1
          have tu : TupKeep H6 (L2.upd H6 D (.lst (zs ++ [.ref p5]))) := TupKeep.upd e16 fun xs z => by cases z
          refine ⟨zs, e16, ?_, fun c o e => ?_, zs ++ [.ref p5], upd_same, ?_, ?_⟩
          · rw [sizeLine_eq]
            omega
          · rw [upd_ne (ne_of_none e nD)]
            exact s16 _ _ (s1 _ _ e)
          · rw [List.range_succ, List.filterMap_append, List.filterMap_cons_some pe, List.filterMap_nil]
            exact paired_snoc (opairs_keep hz ((TupKeep.of s16).trans tu)) ⟨p5, rfl, tu _ _ e6⟩
          · rw [List.length_append]
            show zs.length + 1 ≤ i + 1
            omega
      -- here = [(spot, bit) .. if bit is not None]
      rw [lg] at hz lz
      have n0D : H D = none := sx.free nD
      have lz2 : zs.length = ((List.range C.gates.length).filterMap (preG C.gates gv hv F)).length := Paired.length hz
      generalize hP : (List.range C.gates.length).filterMap (preG C.gates gv hv F) = PL at hz lz2
      refine ⟨_, rfl, D, rfl, ⟨zs, .inl (.inl e1)⟩, fun D2 nD2 => lc_list (fun i H7 => Same H1 H7 ∧ ∃ us, H7 D2 = some (.lst us) ∧ AllAt PairAt H7 us ((PL.take i).filterMap fun p => p.2.map fun b => (p.1, b)) ∧ us.length ≤ i) ⟨same_new nD2, [], upd_same, .nil, Nat.le_refl _⟩ (fun i H7 _ z => .inl (.inl (z.1 _ _ e1))) (fun i x H7 hx ⟨s7, us, e7, hus, lu⟩ => ?_) (fun H7 ⟨s7, us, e7, hus, lu⟩ => ?_)⟩
      · obtain ⟨⟨j, r⟩, hp, t2, rfl, et2⟩ := all_get hz hx
        have tk := take_snoc hp
        refine ⟨t2, _, rfl, .inl (.inl (s7 _ _ et2)), rfl, _, _, rfl, _, _, rfl, rfl, rfl, _, rfl, rfl, _, rfl, ?_⟩
        cases r with
        | none =>
          refine iteF ⟨s7, us, e7, ?_, Nat.le_succ_of_le lu⟩
          rw [tk, List.filterMap_append, List.filterMap_cons_none (f := fun p : Nat × Rd => p.2.map fun b => (p.1, b)) (a := (j, none)) rfl, List.filterMap_nil, List.append_nil]
          exact hus
        | some b =>
          have nb : decide (rdV (some b) = V.non) = false := by cases b <;> rfl
          show (if (!decide (rdV (some b) = V.non)) = true then _ else _)
          rw [nb]
          refine iteT ⟨_, rfl, _, rfl, (by show 2 ≤ sizeLine; decide), fun p5 np5 => ?_⟩
          have s6 := same_new (o := .tup [.int ((j : Nat) : Int), rdV (some b)]) np5
          have e6 : (L2.upd H7 p5 (.tup [.int ((j : Nat) : Int), rdV (some b)])) p5 = some (.tup [.int ((j : Nat) : Int), rdV (some b)]) := upd_same
          generalize L2.upd H7 p5 (.tup [.int ((j : Nat) : Int), rdV (some b)]) = H6 at s6 e6
          have e16 := s6 _ _ e7
          have tu : TupKeep H6 (L2.upd H6 D2 (.lst (us ++ [.ref p5]))) := TupKeep.upd e16 fun xs z => by cases z
          refine ⟨us, e16, ?_, fun c o e => ?_, us ++ [.ref p5], upd_same, ?_, ?_⟩
          · rw [sizeLine_eq]
            have : i < zs.length := (List.getElem?_eq_some_iff.mp hx).1
            omega
          · rw [upd_ne (ne_of_none e nD2)]
            exact s6 _ _ (s7 _ _ e)
          · rw [tk, List.filterMap_append, List.filterMap_cons_some (f := fun p : Nat × Rd => p.2.map fun b => (p.1, b)) (a := (j, some b)) (b := (j, b)) rfl, List.filterMap_nil]
            exact paired_snoc (pairs_keep hus ((TupKeep.of s6).trans tu)) ⟨p5, rfl, tu _ _ e6⟩
          · rw [List.length_append]
            show us.length + 1 ≤ i + 1
            omega
      rw [lz2, List.take_length, ← hP, pre_lap] at hus
      have sx7 := s1.trans s7
      have s07 := sx.trans sx7
      have lus : us.length = (lapOf C.gates gv hv F).length := Paired.length hus
      have n0D2 : H D2 = none := (sx.trans s1).free nD2
      have raD2 : ra1 ≠ D2 := fun z => by
        have := s1 _ _ era
        rw [z, nD2] at this
        cases this
      have laD2 : la1 ≠ D2 := fun z => by
        have := s1 _ _ ela
        rw [z, nD2] at this
        cases this
      have era7 := sx7 _ _ era
      have ela7 := sx7 _ _ ela
      -- readings[spot] = bit
      refine ⟨_, rfl, D2, rfl, ⟨us, .inl (.inl e7)⟩, for_list (fun i σ Hz => ∃ (y7 y9 : Option V), σ = [some (.ref t), some (.ref ga), some (.ref ha), some (.ref gaa), some (.ref ra1), some (.ref la1), some (.bl true), y7, some (.ref D2), y9, none] ∧
          (∀ b o, b ≠ ra1 → H7 b = some o → Hz b = some o) ∧ Hz ra1 = some (.lst ((putL F ((lapOf C.gates gv hv F).take i)).map rdV)) ∧ TupKeep H7 Hz)
        ⟨y7, y9, rfl, fun _ _ _ e => e, era7, fun _ _ e => e⟩ (fun i σ Hz _ ⟨_, _, _, kz, _⟩ => .inl (.inl (kz _ _ raD2.symm e7))) (fun i x σ Hz hx ⟨y7, y9, eσ, kz, ez, tz⟩ => ?_) (fun σ Hz ⟨y7, y9, eσ, kz, ez, tz⟩ => ?_)⟩
      · subst eσ
        obtain ⟨⟨g, b⟩, hp, tt, rfl, ett⟩ := all_get hus hx
        have hm := lapOf_mem.mp (List.mem_of_getElem? hp)
        have lput : (putL F ((lapOf C.gates gv hv F).take i)).length = C.gates.length := by rw [putL_len, lF]
        have hg2 : g < C.gates.length := hm.1
        have ixn : ixN ((putL F ((lapOf C.gates gv hv F).take i)).map rdV).length (g : Int) = some g := by
          unfold ixN
          rw [List.length_map, lput, if_pos (Int.natCast_nonneg g), if_pos (by omega)]
          rfl
        refine ⟨tt, _, rfl, .inl (.inl (tz _ _ ett)), rfl, _, _, rfl, _, _, rfl, rfl, ?_⟩
        refine ⟨_, rfl, _, rfl, _, rfl, ra1, _, (g : Int), g, rfl, rfl, ez, ixn, _, _, rfl, fun c o n e => ?_, ?_, tz.trans (TupKeep.upd ez fun xs z => by cases z)⟩
        · rw [upd_ne n]
          exact kz _ _ n e
        · rw [upd_same, take_snoc hp, putL_snoc, List.map_set]
          rfl
      subst eσ
      rw [lus, List.take_length, putL_lap lF] at ez
      have keepH : Same H Hz := fun b o e => kz _ _ (ne_of_none e n0ra) (s07 _ _ e)
      have ela8 := kz _ _ rala.symm ela7
      have e78 := kz _ _ raD2.symm e7
      have hus8 := pairs_keep hus tz
      have hlaps8 : AllAt (LapAt fun a => a ≠ ra1 ∧ a ≠ la1 ∧ H a = none) Hz vs laps := laps_keep hlaps ((TupKeep.of sx7).trans tz) fun a zs na e => kz _ _ na.1 (sx7 _ _ e)
      -- laps.append(here); going = here != []
      refine ⟨_, rfl, .inl ⟨rfl, vs, .inl (.inl ela8)⟩, _, rfl, la1, vs, _, rfl, rfl, ela8, (by rw [lvs, sizeLine_eq]; omega), ?_⟩
      have keep9 : ∀ b o, b ≠ la1 → Hz b = some o → (L2.upd Hz la1 (.lst (vs ++ [.ref D2]))) b = some o := fun b o n e => by
        rw [upd_ne n]
        exact e
      have tu9 : TupKeep Hz (L2.upd Hz la1 (.lst (vs ++ [.ref D2]))) := TupKeep.upd ela8 fun xs z => by cases z
      have e9 : (L2.upd Hz la1 (.lst (vs ++ [.ref D2]))) la1 = some (.lst (vs ++ [.ref D2])) := upd_same
      generalize L2.upd Hz la1 (.lst (vs ++ [.ref D2])) = H9 at keep9 tu9 e9
      refine ⟨_, rfl, Nat.zero_le _, fun p np => ?_⟩
      have sp := same_new (o := .lst []) np
      have ep : (L2.upd H9 p (.lst [])) p = some (.lst []) := upd_same
      generalize L2.upd H9 p (.lst []) = Ha at sp ep
      have eD2a := sp _ _ (keep9 _ _ laD2.symm e78)
      have husa := pairs_keep hus8 (tu9.trans (.of sp))
      refine ⟨.list ((lapOf C.gates gv hv F).map pairD), .list [], .lst (.inl (.inl eD2a)) (dp_pairs husa), .lst (.inl (.inl ep)) .nil, layN_shaped (layN_list (lay_pairs _)) (by decide), layN_shaped (layN_list (n := 0) fun d hd => by cases hd) (by decide), ?_⟩
      rw [eqv_nilL]
      have lF' : (lapF C.gates gv hv F).length = C.gates.length := lapF_len _ _ _ _
      refine ⟨lapF C.gates gv hv F, vs ++ [.ref D2], laps ++ [lapOf C.gates gv hv F], _, _, _, _, rfl, fun b o e => sp _ _ (keep9 _ _ (ne_of_none e n0la) (keepH _ _ e)), sp _ _ (keep9 _ _ rala ez), sp _ _ e9, ?_, lF', ?_, fun hgo => ?_, fun hgo => ?_⟩
      · exact paired_snoc (laps_keep hlaps8 (tu9.trans (.of sp)) fun a zs na e => sp _ _ (keep9 _ _ na.2.1 e)) ⟨D2, us, rfl, ⟨raD2.symm, laD2.symm, n0D2⟩, eD2a, husa⟩
      · rw [List.foldl_append, hput]
        exact putL_lap lF
      · have hne : lapOf C.gates gv hv F ≠ [] := fun z => by
          rw [z] at hgo
          cases hgo
        have lt_ := openN_lap (gv := gv) (hv := hv) lF hne
        refine ⟨?_, ?_, lt_⟩
        · rw [List.append_assoc, ← hall]
          congr 1
          have lo := openN_len F
          have n0 : C.gates.length = (C.gates.length - 1) + 1 := by omega
          have e1 : lapsL C.gates gv hv C.gates.length F = lapOf C.gates gv hv F :: lapsL C.gates gv hv (C.gates.length - 1) (lapF C.gates gv hv F) := by
            rw [n0]
            show (if lapOf C.gates gv hv F = [] then [] else _) = _
            rw [if_neg hne]
            rfl
          rw [e1, lapsL_enough C.gates.length (C.gates.length - 1) _ lF' (by omega) (by omega)]
          rfl
        · rw [List.length_append]
          show laps.length + 1 + _ ≤ _
          omega
      · have hnil : lapOf C.gates gv hv F = [] := by
          cases q2 : lapOf C.gates gv hv F with
          | nil => rfl
          | cons a r =>
            rw [q2] at hgo
            cases hgo
        rw [lapsL_nil hnil, List.append_nil] at hall
        rw [hnil, hall]
end
end K02

set_option Elab.async false
set_option linter.all false
set_option maxRecDepth 100000
set_option maxHeartbeats 4000000
/-! The law's drawn sources and circuits. -/
namespace K02
open PySem PySem.Spec L2
open PyProof.Rows GenW GxR EZ TK
open LamX (ExtN)
abbrev sSomeSource : Stmt := top 58 -- _law_some_source
abbrev sLCircuit : Stmt := top 60 -- _law_circuit
/-- a statement behind which ways come together -/
theorem ps_join {X : Cx} {st : Stmt} {t : TS} (h : PS X st t) : PS X st (fun D σ H => ∃ Pv : L2.St → Hp → Prop, t { D with nx := Pv } σ H ∧ ∀ σ' H', Pv σ' H' → D.nx σ' H') := by
  refine ⟨fun pins s σ H D I ⟨Pv, a, b⟩ => wpAny_mono (h.run pins s σ H _ I a) (fun f s' sp => ?_) fun _ _ x => x⟩
  cases f with
  | next =>
    obtain ⟨σ', H', I', q⟩ := sp
    exact ⟨σ', H', I', b _ _ q⟩
  | brk => exact sp
  | cont => exact sp
  | ret u => exact sp
theorem pe_join {X : Cx} {e : Expr} {t : TE} (h : PE X e t) : PE X e (fun σ H Q => ∃ R : VK, t σ H R ∧ ∀ x H', R x H' → Q x H') := by
  refine ⟨fun pins s σ H Q I ⟨R, a, b⟩ => wpAny_mono (h.run pins s σ H _ I a) (fun u s' sp => ?_) fun _ _ x => x⟩
  obtain ⟨v, H', I', r, q⟩ := sp
  exact ⟨v, H', I', r, b _ _ q⟩
theorem SrcAt.but {st lg cl : Addr} {H H' : Hp} {t : Nat} {y : V} {s : Src} (h : SrcAt H y s) (U : But st lg H H') (S : StOk H st lg cl t) : SrcAt H' y s := by
  obtain ⟨a, e, b⟩ := h
  exact ⟨a, e, U.keepO S b (fun _ z => by cases z) (fun _ z => by cases z)⟩
/-- a list of sources to pick from -/
def SomeS (st lg : Addr) (H : Hp) (ni nr ng n : Nat) (v : V) : Prop := ∃ a vs, v = .ref a ∧ a ≠ st ∧ a ≠ lg ∧ H a = some (.lst vs) ∧ 0 < vs.length ∧ vs.length ≤ n ∧ ∀ x ∈ vs, ∃ s : Src, SrcAt H x s ∧ s.ok ni nr ng
theorem flat_one {α : Type} (x : α) (n : Nat) : (List.replicate n [x]).flatten = List.replicate n x := rep_one x n
section
variable {P : Program} {w : World} {K : PySem.W.Frag} {mg : Str → Option Value} {base : Heap}
def spSomeS : Sp := fun vs H Q _ => ∃ (st lg cl : Addr) (t ni nr ng : Nat), vs = [.ref st, .int (ni : Int), .int (nr : Int), .int (ng : Int)] ∧ ni ≤ 8 ∧ nr ≤ 60 ∧ ng ≤ 2000 ∧ t + 100 < 1000000000 ∧ StOk H st lg cl t ∧
  ∀ (x : V) (s : Src) (H' : Hp), SrcAt H' x s → s.ok ni nr ng → StOk H' st lg cl (t + 5) → But st lg H H' → Q x H'
theorem scSS : FnScope ["state", "inputs", "registers", "gates", "some"] ["state", "inputs", "registers", "gates"] (defScope sSomeSource) := ⟨rfl, rfl, rfl, by decide +kernel, rfl, by decide +kernel, by decide +kernel⟩
/-- a list with several new sources behind it, all one -/
theorem some_more {H H1 : Hp} {st lg cl : Addr} {t t1 ni nr ng n : Nat} {v : V} {s : Src} {k : Int} {Q : VK} (h : SomeS st lg H ni nr ng n v) (U : But st lg H H1) (S : StOk H st lg cl t) (S1 : StOk H1 st lg cl t1) (ok : s.ok ni nr ng) (hk : n + k.toNat ≤ 1000)
    (q : ∀ v' H', SomeS st lg H' ni nr ng (n + k.toNat) v' → Same H1 H' → Q v' H') : ∀ p, H1 p = none → ∀ p2, (L2.upd H1 p (.tup [.str s.kind, .int s.at_])) p2 = none → ∀ p3, (L2.upd (L2.upd H1 p (.tup [.str s.kind, .int s.at_])) p2 (.lst [.ref p])) p3 = none →
      rCat v (.ref p3) (L2.upd (L2.upd (L2.upd H1 p (.tup [.str s.kind, .int s.at_])) p2 (.lst [.ref p])) p3 (.lst (List.replicate k.toNat [V.ref p]).flatten)) Q := by
  intro p np p2 np2 p3 np3
  obtain ⟨a, vs, rfl, na1, na2, ea, l0, l1, hv⟩ := h
  have s1 := same_new (o := .tup [.str s.kind, .int s.at_]) np
  have ep : (L2.upd H1 p (.tup [.str s.kind, .int s.at_])) p = some (.tup [.str s.kind, .int s.at_]) := upd_same
  generalize L2.upd H1 p (.tup [.str s.kind, .int s.at_]) = Ha at s1 ep np2 np3
  have s2 := same_new (o := .lst [.ref p]) np2
  generalize L2.upd Ha p2 (.lst [.ref p]) = Hb at s2 np3
  have s3 := same_new (o := .lst (List.replicate k.toNat [V.ref p]).flatten) np3
  have e3 : (L2.upd Hb p3 (.lst (List.replicate k.toNat [V.ref p]).flatten)) p3 = some (.lst (List.replicate k.toNat [V.ref p]).flatten) := upd_same
  generalize L2.upd Hb p3 (.lst (List.replicate k.toNat [V.ref p]).flatten) = Hc at s3 e3
  have s13 := s1.trans (s2.trans s3)
  rw [flat_one] at e3
  have lr : (List.replicate k.toNat (V.ref p)).length = k.toNat := List.length_replicate
  refine ⟨a, p3, vs, _, rfl, rfl, s13 _ _ (U _ _ ea na1 na2), e3, Nat.le_of_lt (small1000 (by omega)), fun p4 np4 => ?_⟩
  have s4 := same_new (o := .lst (vs ++ List.replicate k.toNat (V.ref p))) np4
  have n4 := But.st_new (o := .tup []) S1 (s13.free np4)
  refine q _ _ ⟨p4, _, rfl, n4.1, n4.2, upd_same, by rw [List.length_append]; omega, by rw [List.length_append]; omega, fun x hx => ?_⟩ (s13.trans s4)
  rcases List.mem_append.mp hx with z | z
  · obtain ⟨sr, h1, h2⟩ := hv x z
    exact ⟨sr, (h1.but U S).ext (extN_same (s13.trans s4)), h2⟩
  · rw [List.eq_of_mem_replicate z]
    exact ⟨s, ⟨p, rfl, s4 _ _ (s3 _ _ (s2 _ _ ep))⟩, ok⟩
theorem ok_someS {f : Addr} {fd : FuncData} (F : Fun K "_law_some_source" "_law_some_source" sSomeSource f fd) (cD : Cal P w K mg base CX0 1 "_law_draw" ["state", "size_here"] spDraw) (cK : Cal P w K mg base CX0 2 "_law_pick" ["state", "several"] (spPick K)) :
    FnOk P w K mg base CX0 3 f fd ["state", "inputs", "registers", "gates"] spSomeS := by
  obtain ⟨fD, fdD, GD, kD, bD, mD⟩ := cD
  obtain ⟨fK, fdK, GK, kK, bK, mK⟩ := cK
  refine F.ok scSS (fun vs H Q E h => ?_) (fun cdv A outer s H vs Q E hr h => ?_)
  · obtain ⟨st, lg, cl, t, ni, nr, ng, rfl, _⟩ := h
    rfl
  · obtain ⟨st, lg, cl, t, ni, nr, ng, rfl, l1, l2, l3, ht, S, q⟩ := h
    refine ⟨_, (pss_cons (ps_set (i := 4) scSS.nd rfl (Or.inl rfl) (pe_lst (pa_cons (pe_tup (pa_cons pe_str (pa_cons (pe_call GD (hr.mono (by decide)) (by rfl) mD kD bD .nil pass0 (pa_cons (pv 0) (pa_cons pe_int pa_nil))) pa_nil))) pa_nil)))
      (pss_cons (ps_join (ps_if (pt_cmpR op_gt (pv 1) pe_int (nomark _)) (pss_one (ps_set (i := 4) scSS.nd rfl (Or.inl rfl) (pe_op op_cat (pv 4) (pe_op op_rep (pe_lst (pa_cons (pe_tup (pa_cons pe_str (pa_cons (pe_call GD (hr.mono (by decide)) (by rfl) mD kD bD .nil pass0 (pa_cons (pv 0) (pa_cons (pv 1) pa_nil))) pa_nil))) pa_nil)) pe_int)))) pss_nil))
      (pss_cons (ps_join (ps_if (pt_cmpR op_gt (pv 2) pe_int (nomark _)) (pss_one (ps_set (i := 4) scSS.nd rfl (Or.inl rfl) (pe_op op_cat (pv 4) (pe_op op_rep (pe_lst (pa_cons (pe_tup (pa_cons pe_str (pa_cons (pe_call GD (hr.mono (by decide)) (by rfl) mD kD bD .nil pass0 (pa_cons (pv 0) (pa_cons (pv 2) pa_nil))) pa_nil))) pa_nil)) pe_int)))) pss_nil))
      (pss_cons (ps_join (ps_if (pt_cmpR op_gt (pv 3) pe_int (nomark _)) (pss_one (ps_set (i := 4) scSS.nd rfl (Or.inl rfl) (pe_op op_cat (pv 4) (pe_op op_rep (pe_lst (pa_cons (pe_tup (pa_cons pe_str (pa_cons (pe_call GD (hr.mono (by decide)) (by rfl) mD kD bD .nil pass0 (pa_cons (pv 0) (pa_cons (pv 3) pa_nil))) pa_nil))) pa_nil)) pe_int)))) pss_nil))
      (pss_one (ps_ret (pe_call GK (hr.mono (by decide)) (by rfl) mK kK bK .nil pass0 (pa_cons (pv 0) (pa_cons (pv 4) pa_nil))))))))), ?_⟩
    refine ⟨_, rfl, st, lg, cl, t, 2, rfl, by decide, by decide, by omega, S, fun k H1 k0 k2 S1 U1 => ⟨(by show 2 ≤ sizeLine; decide), fun p np => ⟨(by show 1 ≤ sizeLine; decide), fun p2 np2 => ?_⟩⟩⟩
    obtain ⟨b, eb⟩ := bits01 k0 k2
    have s1 := same_new (o := .tup [.str "bit", .int k]) np
    have ep : (L2.upd H1 p (.tup [.str "bit", .int k])) p = some (.tup [.str "bit", .int k]) := upd_same
    generalize L2.upd H1 p (.tup [.str "bit", .int k]) = Ha at s1 ep np2
    have s2 := same_new (o := .lst [.ref p]) np2
    have n2 := But.st_new (o := .tup []) S1 (s1.free np2)
    have some0 : SomeS st lg (L2.upd Ha p2 (.lst [.ref p])) ni nr ng 1 (.ref p2) := ⟨p2, [.ref p], rfl, n2.1, n2.2, upd_same, (show 0 < 1 by decide), Nat.le_refl _, fun x hx => by
      rw [List.mem_singleton.mp hx]
      refine ⟨.bit b, ⟨p, rfl, ?_⟩, trivial⟩
      rw [s2 _ _ ep, eb]
      rfl⟩
    have S2 := S1.keep (s1.trans s2)
    have U2 := U1.trans (But.of (s1.trans s2))
    generalize L2.upd Ha p2 (.lst [.ref p]) = H2 at some0 S2 U2
    refine ⟨fun σ Hx => ∃ v, σ = [some (.ref st), some (.int (ni : Int)), some (.int (nr : Int)), some (.int (ng : Int)), some v] ∧ SomeS st lg Hx ni nr ng 4 v ∧ StOk Hx st lg cl (t + 2) ∧ But st lg H Hx, ⟨_, rfl, _, _, rfl, rfl, _, rfl, ite2 (fun e => ?_) (fun e => ?_)⟩, ?_⟩
    · have hpos : 0 < ni := by have := of_decide_eq_true e; omega
      refine ⟨_, rfl, _, rfl, _, rfl, st, lg, cl, t + 1, (ni : Int), rfl, by omega, by omega, by omega, S2, fun k H3 k0 k2 S3 U3 => ⟨(by show 2 ≤ sizeLine; decide), fun p np => ⟨(by show 1 ≤ sizeLine; decide), fun p2 np2 => ⟨p2, 3, _, rfl, rfl, upd_same, by decide, by decide, (by show 1 * 3 ≤ sizeLine; decide), fun p3 np3 => ?_⟩⟩⟩⟩
      obtain ⟨i, rfl⟩ : ∃ i : Nat, k = i := ⟨k.toNat, (Int.toNat_of_nonneg k0).symm⟩
      exact some_more (s := .inp i) (k := 3) some0 U3 S2 S3 (show i < ni by omega) (by decide) (fun v' H' hs sm => ⟨v', rfl, hs, S3.keep sm, (U2.trans U3).trans (But.of sm)⟩) p np p2 np2 p3 np3
    · exact ⟨_, rfl, by obtain ⟨a, vs, x1, x2, x3, x4, x5, x6, x7⟩ := some0; exact ⟨a, vs, x1, x2, x3, x4, x5, by omega, x7⟩, S2.up (by omega), U2⟩
    rintro σ H3 ⟨v3, rfl, some3, S3, U3⟩
    refine ⟨fun σ Hx => ∃ v, σ = [some (.ref st), some (.int (ni : Int)), some (.int (nr : Int)), some (.int (ng : Int)), some v] ∧ SomeS st lg Hx ni nr ng 6 v ∧ StOk Hx st lg cl (t + 3) ∧ But st lg H Hx, ⟨_, rfl, _, _, rfl, rfl, _, rfl, ite2 (fun e => ?_) (fun e => ?_)⟩, ?_⟩
    · have hpos : 0 < nr := by have := of_decide_eq_true e; omega
      refine ⟨_, rfl, _, rfl, _, rfl, st, lg, cl, t + 2, (nr : Int), rfl, by omega, by omega, by omega, S3, fun k H4 k0 k2 S4 U4 => ⟨(by show 2 ≤ sizeLine; decide), fun p np => ⟨(by show 1 ≤ sizeLine; decide), fun p2 np2 => ⟨p2, 2, _, rfl, rfl, upd_same, by decide, by decide, (by show 1 * 2 ≤ sizeLine; decide), fun p3 np3 => ?_⟩⟩⟩⟩
      obtain ⟨i, rfl⟩ : ∃ i : Nat, k = i := ⟨k.toNat, (Int.toNat_of_nonneg k0).symm⟩
      exact some_more (s := .reg i) (k := 2) some3 U4 S3 S4 (show i < nr by omega) (by decide) (fun v' H' hs sm => ⟨v', rfl, hs, S4.keep sm, (U3.trans U4).trans (But.of sm)⟩) p np p2 np2 p3 np3
    · exact ⟨_, rfl, by obtain ⟨a, vs, x1, x2, x3, x4, x5, x6, x7⟩ := some3; exact ⟨a, vs, x1, x2, x3, x4, x5, by omega, x7⟩, S3.up (by omega), U3⟩
    rintro σ H4 ⟨v4, rfl, some4, S4, U4⟩
    refine ⟨fun σ Hx => ∃ v, σ = [some (.ref st), some (.int (ni : Int)), some (.int (nr : Int)), some (.int (ng : Int)), some v] ∧ SomeS st lg Hx ni nr ng 12 v ∧ StOk Hx st lg cl (t + 4) ∧ But st lg H Hx, ⟨_, rfl, _, _, rfl, rfl, _, rfl, ite2 (fun e => ?_) (fun e => ?_)⟩, ?_⟩
    · have hpos : 0 < ng := by have := of_decide_eq_true e; omega
      refine ⟨_, rfl, _, rfl, _, rfl, st, lg, cl, t + 3, (ng : Int), rfl, by omega, by omega, by omega, S4, fun k H5 k0 k2 S5 U5 => ⟨(by show 2 ≤ sizeLine; decide), fun p np => ⟨(by show 1 ≤ sizeLine; decide), fun p2 np2 => ⟨p2, 6, _, rfl, rfl, upd_same, by decide, by decide, (by show 1 * 6 ≤ sizeLine; decide), fun p3 np3 => ?_⟩⟩⟩⟩
      obtain ⟨i, rfl⟩ : ∃ i : Nat, k = i := ⟨k.toNat, (Int.toNat_of_nonneg k0).symm⟩
      exact some_more (s := .gate i) (k := 6) some4 U5 S4 S5 (show i < ng by omega) (by decide) (fun v' H' hs sm => ⟨v', rfl, hs, S5.keep sm, (U4.trans U5).trans (But.of sm)⟩) p np p2 np2 p3 np3
    · exact ⟨_, rfl, by obtain ⟨a, vs, x1, x2, x3, x4, x5, x6, x7⟩ := some4; exact ⟨a, vs, x1, x2, x3, x4, x5, by omega, x7⟩, S4.up (by omega), U4⟩
    rintro σ H5 ⟨v5, rfl, ⟨a, vs, rfl, n1, n2', ea, p0, p1, hv⟩, S5, U5⟩
    refine ⟨_, rfl, _, rfl, st, lg, cl, a, t + 4, vs, rfl, p0, by omega, n1, n2', .inl (.inl ea), by omega, S5, fun x H6 hx S6 U6 => ?_⟩
    obtain ⟨sr, h1, h2⟩ := hv x hx
    exact q x sr H6 (h1.but U6 S5) h2 S6 (U5.trans U6)
end
end K02

set_option Elab.async false
set_option linter.all false
set_option maxRecDepth 100000
set_option maxHeartbeats 4000000
/-! The law's drawn circuits. -/
namespace K02
open PySem PySem.Spec L2
open PyProof.Rows GenW GxR EZ TK
open LamX (ExtN)
theorem But.tup {st lg cl : Addr} {H H' : Hp} {t : Nat} (U : But st lg H H') (S : StOk H st lg cl t) : TupKeep H H' := fun _ _ e => U.keepO S e (fun _ z => by cases z) (fun _ z => by cases z)
theorem SrcAt.keep {H H' : Hp} {y : V} {s : Src} (h : SrcAt H y s) (k : TupKeep H H') : SrcAt H' y s := by
  obtain ⟨a, e, b⟩ := h
  exact ⟨a, e, k _ _ b⟩
theorem RegAt.keep {H H' : Hp} {y : V} {r : Bool × Src} (h : RegAt H y r) (k : TupKeep H H') : RegAt H' y r := by
  obtain ⟨t, v, a, b, c⟩ := h
  exact ⟨t, v, a, k _ _ b, c.keep k⟩
theorem GateAt.keep {H H' : Hp} {y : V} {g : Gate} (h : GateAt H y g) (k : TupKeep H H') : GateAt H' y g := by
  obtain ⟨t, a, b, vs, h1, h2, h3, h4, h5⟩ := h
  exact ⟨t, a, b, vs, h1, k _ _ h2, k _ _ h3, all_ext (fun v x r => r.keep k) h4, k _ _ h5⟩
theorem CircAt.keep {H H' : Hp} {y : V} {C : Circ} (h : CircAt H y C) (k : TupKeep H H') : CircAt H' y C := by
  obtain ⟨t, ra, ga, oa, rs, gs, os, h1, h2, h3, h4, h5, h6, h7, h8⟩ := h
  exact ⟨t, ra, ga, oa, rs, gs, os, h1, k _ _ h2, k _ _ h3, k _ _ h4, k _ _ h5, all_ext (fun v x r => r.keep k) h6, all_ext (fun v x r => r.keep k) h7, all_ext (fun v x r => r.keep k) h8⟩
/-- a list at D that grows by drawn things -/
def DI {α : Type} (R : Hp → V → α → Prop) (ok : α → Prop) (st lg cl : Addr) (H1 : Hp) (D : Addr) (t c i : Nat) (Hx : Hp) : Prop := ∃ (vs : List V) (xs : List α), Hx D = some (.lst vs) ∧ vs.length = i ∧ AllAt R Hx vs xs ∧ (∀ x ∈ xs, ok x) ∧ StOk Hx st lg cl (t + c * i) ∧ But st lg H1 Hx
theorem DI.zero {α : Type} {R : Hp → V → α → Prop} {ok : α → Prop} {st lg cl : Addr} {H1 : Hp} {D : Addr} {t c : Nat} (nD : H1 D = none) (S : StOk H1 st lg cl t) : DI R ok st lg cl H1 D t c 0 (L2.upd H1 D (.lst [])) :=
  ⟨[], [], upd_same, rfl, .nil, (fun _ z => by cases z), S.keep (same_new nD), But.of (same_new nD)⟩
theorem DI.push {α : Type} {R : Hp → V → α → Prop} {ok : α → Prop} {st lg cl : Addr} {H1 Hx H4 : Hp} {D : Addr} {t c i t1 : Nat} {y : V} {x : α} (hR : ∀ H H' v x, TupKeep H H' → R H v x → R H' v x) (nD : H1 D = none) (S : StOk H1 st lg cl t1)
    (d : DI R ok st lg cl H1 D t c i Hx) (hi : i < 16000) (U : But st lg Hx H4) (S4 : StOk H4 st lg cl (t + c * (i + 1))) (hy : R H4 y x) (hx : ok x) :
    ∃ acc, H4 D = some (.lst acc) ∧ acc.length < sizeLine ∧ DI R ok st lg cl H1 D t c (i + 1) (L2.upd H4 D (.lst (acc ++ [y]))) := by
  obtain ⟨vs, xs, e, l, al, oks, Sx, Ux⟩ := d
  have nn := But.st_new (o := .tup []) S nD
  have n3 := S.cl_ne nD
  have e4 := U _ _ e nn.1 nn.2
  have tu : TupKeep H4 (L2.upd H4 D (.lst (vs ++ [y]))) := TupKeep.upd e4 fun xs z => by cases z
  refine ⟨vs, e4, by rw [l, sizeLine_eq]; omega, vs ++ [y], xs ++ [x], upd_same, by rw [List.length_append, l]; rfl, ?_, fun z hz => ?_, S4.upd nn.1 nn.2 n3, fun b o eb m1 m2 => ?_⟩
  · exact paired_snoc (all_ext (fun v x r => hR _ _ v x ((U.tup Sx).trans tu) r) al) (hR _ _ _ _ tu hy)
  · rcases List.mem_append.mp hz with z1 | z1
    · exact oks z z1
    · rw [List.mem_singleton.mp z1]
      exact hx
  · rw [upd_ne (ne_of_none eb nD)]
    exact U _ _ (Ux _ _ eb m1 m2) m1 m2
theorem DI.all {α : Type} {R : Hp → V → α → Prop} {ok : α → Prop} {st lg cl : Addr} {H1 Hx : Hp} {D : Addr} {t c i : Nat} (d : DI R ok st lg cl H1 D t c i Hx) : ∃ (vs : List V) (xs : List α), Hx D = some (.lst vs) ∧ xs.length = i ∧ AllAt R Hx vs xs ∧ (∀ x ∈ xs, ok x) ∧ StOk Hx st lg cl (t + c * i) ∧ But st lg H1 Hx := by
  obtain ⟨vs, xs, e, l, al, r⟩ := d
  exact ⟨vs, xs, e, by rw [← l]; exact (Paired.length al).symm, al, r⟩
theorem pick_size : ∀ x ∈ [V.int 0, .int 1, .int 1, .int 2, .int 2, .int 2, .int 3, .int 4], ∃ k : Nat, x = V.int (k : Int) ∧ k ≤ 4 := by
  intro x hx
  simp only [List.mem_cons, List.not_mem_nil, or_false] at hx
  rcases hx with h | h | h | h | h | h | h | h
  · exact ⟨0, h, by decide⟩
  · exact ⟨1, h, by decide⟩
  · exact ⟨1, h, by decide⟩
  · exact ⟨2, h, by decide⟩
  · exact ⟨2, h, by decide⟩
  · exact ⟨2, h, by decide⟩
  · exact ⟨3, h, by decide⟩
  · exact ⟨4, h, by decide⟩
section
variable {P : Program} {w : World} {K : PySem.W.Frag} {mg : Str → Option Value} {base : Heap}
def spLCirc : Sp := fun vs H Q _ => ∃ (st lg cl : Addr) (t most br : Nat), vs = [.ref st, .int (most : Int), .int (br : Int)] ∧ 0 < most ∧ most ≤ 100 ∧ br ≤ 4000 ∧ t + 10000 < 1000000000 ∧ StOk H st lg cl t ∧
  ∀ (y : V) (C : Circ) (H' : Hp), CircAt H' y C → C.ok → C.ni ≤ 3 → C.regs.length ≤ 2 → 1 ≤ C.gates.length → C.gates.length ≤ most → C.outs.length ≤ 3 → fanG C.gates ≤ br → StOk H' st lg cl (t + 40 * most + 60) → But st lg H H' → Q y H'
abbrev nLC : List Str := ["state", "most", "branches", "inputs", "registers", "gates", "found", "left", "spot", "size", "held", "outputs", "lap"]
theorem scLC : FnScope nLC ["state", "most", "branches"] (defScope sLCircuit) := ⟨rfl, rfl, rfl, by decide +kernel, rfl, by decide +kernel, by decide +kernel⟩
theorem ok_lcirc {f : Addr} {fd : FuncData} (F : Fun K "_law_circuit" "_law_circuit" sLCircuit f fd) (mrange : mg "range" = none) (mmin : mg "min" = none) (mtuple : mg "tuple" = none)
    (cD : Cal P w K mg base CX0 1 "_law_draw" ["state", "size_here"] spDraw) (cK : Cal P w K mg base CX0 2 "_law_pick" ["state", "several"] (spPick K)) (cS : Cal P w K mg base CX0 3 "_law_some_source" ["state", "inputs", "registers", "gates"] spSomeS) (cT : Cal P w K mg base CX0 2 "_law_table" ["state", "size"] spLTable) :
    FnOk P w K mg base CX0 4 f fd ["state", "most", "branches"] spLCirc := by
  obtain ⟨fD, fdD, GD, kD, bD, mD⟩ := cD
  obtain ⟨fK, fdK, GK, kK, bK, mK⟩ := cK
  obtain ⟨fS, fdS, GS, kS, bS, mS⟩ := cS
  obtain ⟨fT, fdT, GT, kT, bT, mT⟩ := cT
  refine F.ok scLC (fun vs H Q E h => ?_) (fun cdv A outer s H vs Q E hr h => ?_)
  · obtain ⟨st, lg, cl, t, most, br, rfl, _⟩ := h
    rfl
  · obtain ⟨st, lg, cl, t, most, br, rfl, hm0, hm1, hbr, ht, S, q⟩ := h
    refine ⟨_, (pss_cons (ps_asg (pe_tup (pa_cons (pe_call GD (hr.mono (by decide)) (by rfl) mD kD bD .nil pass0 (pa_cons (pv 0) (pa_cons pe_int pa_nil))) (pa_cons (pe_call GD (hr.mono (by decide)) (by rfl) mD kD bD .nil pass0 (pa_cons (pv 0) (pa_cons pe_int pa_nil))) (pa_cons (pe_op op_add pe_int (pe_call GD (hr.mono (by decide)) (by rfl) mD kD bD .nil pass0 (pa_cons (pv 0) (pa_cons (pv 1) pa_nil)))) pa_nil)))) (pg_tup rfl (pgs_cons (pg_name (i := 3) scLC.nd rfl (Or.inr rfl)) (pgs_cons (pg_name (i := 4) scLC.nd rfl (Or.inr rfl)) (pgs_cons (pg_name (i := 5) scLC.nd rfl (Or.inr rfl)) pgs_nil)))))
      (pss_cons (ps_par (i := 6) (j := 7) rfl scLC.nd rfl rfl (by decide) rfl rfl (pa_cons (pe_lst pa_nil) (pa_cons (pv 2) pa_nil)) (by rfl))
      (pss_cons (ps_for PassesOwn.never rfl (pi_range1 (by rfl) mrange (pa_cons (pv 5) pa_nil)) (pg_name (i := 8) scLC.nd rfl (Or.inl rfl))
        (pss_cons (ps_set (i := 9) scLC.nd rfl (Or.inl rfl) (pe_callB (call_min2 rfl) (by rfl) mmin (by decide +kernel) (pa_cons (pv 7) (pa_cons (pe_call GK (hr.mono (by decide)) (by rfl) mK kK bK .nil pass0 (pa_cons (pv 0) (pa_cons (pe_lst (pa_cons pe_int (pa_cons pe_int (pa_cons pe_int (pa_cons pe_int (pa_cons pe_int (pa_cons pe_int (pa_cons pe_int (pa_cons pe_int pa_nil))))))))) pa_nil))) pa_nil))))
        (pss_cons (ps_set (i := 7) scLC.nd rfl (Or.inl rfl) (pe_op op_sub (pv 7) (pv 9)))
        (pss_one (ps_expr (pe_bm PySem.F.plainAttrs_list PySem.F.slot_list_append PySem.F.type_list_append mt_append (pv 6) (pa_cons (pe_tup (pa_cons (pe_callTy call_tuple_of (by rfl) mtuple (by decide +kernel) (pa_cons (pe_lc (own := [("lap", 12)]) (g := gName 12) (tt := tYes) rfl scLC.nd (pi_range1 (by rfl) mrange (pa_cons (pv 9) pa_nil)) (blkOk_by (N := nLC) (sc := defScope sLCircuit) (by decide +kernel)) (fun _ _ _ _ _ => (pg_name (i := 12) scLC.nd rfl (Or.inl rfl))) (fun _ _ _ _ _ => pts_nil) (fun _ _ _ _ _ => (pe_call GS (hr.mono (by decide)) (by rfl) mS kS bS .nil pass0 (pa_cons (pv 0) (pa_cons (pv 3) (pa_cons (pv 4) (pa_cons (pv 5) pa_nil))))))) pa_nil)) (pa_cons (pe_call GT (hr.mono (by decide)) (by rfl) mT kT bT .nil pass0 (pa_cons (pv 0) (pa_cons (pv 9) pa_nil))) pa_nil))) pa_nil)))))))
      (pss_cons (ps_set (i := 10) scLC.nd rfl (Or.inl rfl) (pe_callTy call_tuple_of (by rfl) mtuple (by decide +kernel) (pa_cons (pe_lc (own := [("spot", 8)]) (g := gName 8) (tt := tYes) rfl scLC.nd (pi_range1 (by rfl) mrange (pa_cons (pv 4) pa_nil)) (blkOk_by (N := nLC) (sc := defScope sLCircuit) (by decide +kernel)) (fun _ _ _ _ _ => (pg_name (i := 8) scLC.nd rfl (Or.inl rfl))) (fun _ _ _ _ _ => pts_nil) (fun _ _ _ _ _ => (pe_tup (pa_cons (pe_call GD (hr.mono (by decide)) (by rfl) mD kD bD .nil pass0 (pa_cons (pv 0) (pa_cons pe_int pa_nil))) (pa_cons (pe_call GS (hr.mono (by decide)) (by rfl) mS kS bS .nil pass0 (pa_cons (pv 0) (pa_cons (pv 3) (pa_cons (pv 4) (pa_cons (pv 5) pa_nil))))) pa_nil))))) pa_nil)))
      (pss_cons (ps_set (i := 11) scLC.nd rfl (Or.inl rfl) (pe_callTy call_tuple_of (by rfl) mtuple (by decide +kernel) (pa_cons (pe_lc (own := [("spot", 8)]) (g := gName 8) (tt := tYes) rfl scLC.nd (pi_range1 (by rfl) mrange (pa_cons (pe_call GD (hr.mono (by decide)) (by rfl) mD kD bD .nil pass0 (pa_cons (pv 0) (pa_cons pe_int pa_nil))) pa_nil)) (blkOk_by (N := nLC) (sc := defScope sLCircuit) (by decide +kernel)) (fun _ _ _ _ _ => (pg_name (i := 8) scLC.nd rfl (Or.inl rfl))) (fun _ _ _ _ _ => pts_nil) (fun _ _ _ _ _ => (pe_call GS (hr.mono (by decide)) (by rfl) mS kS bS .nil pass0 (pa_cons (pv 0) (pa_cons (pv 3) (pa_cons (pv 4) (pa_cons (pv 5) pa_nil))))))) pa_nil)))
      (pss_one (ps_ret (pe_tup (pa_cons (pv 3) (pa_cons (pv 10) (pa_cons (pe_callTy call_tuple_of (by rfl) mtuple (by decide +kernel) (pa_cons (pv 6) pa_nil)) (pa_cons (pv 11) pa_nil)))))))))))), ?_⟩
    -- inputs, registers, gates
    refine ⟨_, rfl, st, lg, cl, t, 4, rfl, by decide, by decide, by omega, S, fun k1 H1 a0 a1 S1 U1 => ⟨_, rfl, st, lg, cl, t + 1, 3, rfl, by decide, by decide, by omega, S1, fun k2 H2 b0 b1 S2 U2 => ⟨_, rfl, _, rfl, st, lg, cl, t + 2, (most : Int), rfl, by omega, by omega, by omega, S2, fun k3 H3 c0 c1 S3 U3 => ?_⟩⟩⟩
    obtain ⟨ni, rfl⟩ : ∃ n : Nat, k1 = n := ⟨k1.toNat, (Int.toNat_of_nonneg a0).symm⟩
    obtain ⟨nr, rfl⟩ : ∃ n : Nat, k2 = n := ⟨k2.toNat, (Int.toNat_of_nonneg b0).symm⟩
    obtain ⟨ng, eng, ng1, ng2⟩ : ∃ n : Nat, 1 + k3 = (n : Int) ∧ 1 ≤ n ∧ n ≤ most := ⟨(1 + k3).toNat, by omega, by omega, by omega⟩
    refine ⟨_, _, rfl, rfl, ?_⟩
    refine ⟨(by show 3 ≤ sizeLine; decide), fun tp ntp => ?_⟩
    have s34 := same_new (o := .tup [.int (ni : Int), .int (nr : Int), .int (1 + k3)]) ntp
    have e4 : (L2.upd H3 tp (.tup [.int (ni : Int), .int (nr : Int), .int (1 + k3)])) tp = some (.tup [.int (ni : Int), .int (nr : Int), .int (1 + k3)]) := upd_same
    have S4 := S3.keep s34
    have U4 := ((U1.trans U2).trans U3).trans (But.of s34)
    generalize L2.upd H3 tp (.tup [.int (ni : Int), .int (nr : Int), .int (1 + k3)]) = H4 at e4 S4 U4
    rw [eng] at e4
    refine ⟨tp, _, rfl, .inl (.inl e4), rfl, _, _, rfl, _, _, rfl, _, _, rfl, rfl, ?_⟩
    -- found, left = [], branches
    refine ⟨Nat.zero_le _, fun fa nfa => ⟨_, rfl, _, _, rfl, ?_⟩⟩
    have nfs := But.st_new (o := .tup []) S4 nfa
    have d1 : DI GateAt (fun g : Gate => g.ok ni nr ng) st lg cl H4 fa (t + 3) 40 0 (L2.upd H4 fa (.lst [])) := DI.zero nfa S4
    generalize L2.upd H4 fa (.lst []) = H5 at d1
    refine ⟨_, rfl, ng, rfl, by omega, by omega, ?_⟩
    rw [Int.toNat_natCast]
    refine for_range (fun i σ Hx => ∃ (li : Int) (y8 y9 y10 y11 : Option V) (lf : Nat), σ = [some (.ref st), some (.int (most : Int)), some (.int (br : Int)), some (.int (ni : Int)), some (.int (nr : Int)), some (.int (ng : Int)), some (.ref fa), some (.int li), y8, y9, y10, y11, none] ∧ li = (lf : Int) ∧
        ∃ (vs : List V) (xs : List Gate), Hx fa = some (.lst vs) ∧ vs.length = i ∧ AllAt GateAt Hx vs xs ∧ (∀ x ∈ xs, x.ok ni nr ng) ∧ StOk Hx st lg cl (t + 3 + 40 * i) ∧ But st lg H4 Hx ∧ fanG xs + lf ≤ br)
      ?start (fun i σ Hx hi hh => ?turn) (fun σ Hx hh => ?done)
    case start =>
      obtain ⟨vs, xs, h1, h2, h3, h4, h5, h6⟩ := d1
      refine ⟨_, _, _, _, _, br, rfl, rfl, vs, xs, h1, h2, h3, h4, h5, h6, ?_⟩
      have : xs = [] := by
        cases xs with
        | nil => rfl
        | cons a r =>
          have z := Paired.length h3
          rw [h2] at z
          cases z
      rw [this]
      show 0 + br ≤ br
      omega
    case turn =>
      obtain ⟨_, y8, y9, y10, y11, lf, rfl, rfl, vs, xs, efa, lvs, hvs, hok, Sx, Ux, hfan⟩ := hh
      -- size = min(left, _law_pick(..))
      refine ⟨_, rfl, _, rfl, (by show 8 ≤ sizeLine; decide), fun lp nlp => ?_⟩
      have s1 := same_new (o := .lst [V.int 0, .int 1, .int 1, .int 2, .int 2, .int 2, .int 3, .int 4]) nlp
      have nlp2 := But.st_new (o := .tup []) Sx nlp
      refine ⟨st, lg, cl, lp, t + 3 + 40 * i, [V.int 0, .int 1, .int 1, .int 2, .int 2, .int 2, .int 3, .int 4], rfl, (by show 0 < 8; decide), (by show 8 ≤ 1000; decide), nlp2.1, nlp2.2, .inl (.inl upd_same), by omega, Sx.keep s1, fun x H6 hx S6 U6 => ?_⟩
      obtain ⟨k, rfl, hk4⟩ := pick_size x hx
      refine ⟨_, _, rfl, ?_⟩
      obtain ⟨sz, esz, hs1, hs2⟩ : ∃ sz : Nat, (if (k : Int) < (lf : Int) then (k : Int) else (lf : Int)) = (sz : Int) ∧ sz ≤ 4 ∧ sz ≤ lf := by
        by_cases c : (k : Int) < (lf : Int)
        · exact ⟨k, if_pos c, hk4, by omega⟩
        · exact ⟨lf, if_neg c, by omega, Nat.le_refl _⟩
      rw [esz]
      have efa6 := U6 _ _ (s1 _ _ efa) nfs.1 nfs.2
      have hvs6 : AllAt GateAt H6 vs xs := all_ext (fun v x r => r.keep ((TupKeep.of s1).trans (U6.tup (Sx.keep s1)))) hvs
      have Ux6 := (Ux.trans (But.of s1)).trans U6
      -- left = left - size
      refine ⟨_, rfl, _, rfl, _, _, rfl, rfl, ?_⟩
      have elf : (lf : Int) - (sz : Int) = ((lf - sz : Nat) : Int) := by omega
      -- found.append((tuple([..]), _law_table(state, size)))
      refine ⟨_, rfl, .inl ⟨rfl, vs, .inl (.inl efa6)⟩, _, rfl, sz, rfl, by omega, by omega, fun D nD => ?_⟩
      rw [Int.toNat_natCast]
      have nDs := But.st_new (o := .tup []) S6 nD
      have Dfa : D ≠ fa := fun z => by
        rw [z, efa6] at nD
        cases nD
      refine lc_range (DI SrcAt (fun sr : Src => sr.ok ni nr ng) st lg cl H6 D (t + 3 + 40 * i + 1) 5) (DI.zero nD S6) (fun j H7 hj d => ?_) (fun H7 d => ?_)
      · obtain ⟨_, _, _, _, _, _, S7, _⟩ := id d
        refine ⟨rfl, _, rfl, _, rfl, _, rfl, _, rfl, st, lg, cl, t + 3 + 40 * i + 1 + 5 * j, ni, nr, ng, rfl, by omega, by omega, by omega, by omega, S7, fun x sr H8 hs oks S8 U8 => ?_⟩
        exact DI.push (fun H H' v x k r => r.keep k) nD S6 d (by omega) U8 (S8.up (by omega)) hs oks
      obtain ⟨zs, srs, eD, lsr, hzs, oks, S7, U7⟩ := d.all
      refine ⟨D, zs, rfl, .inl ⟨.inl (.inl eD), fun p np => ?_⟩⟩
      have s8 := same_new (o := .tup zs) np
      have ep : (L2.upd H7 p (.tup zs)) p = some (.tup zs) := upd_same
      have S8 := S7.keep s8
      have U8 := U7.trans (But.of s8)
      have hzs8 : AllAt SrcAt (L2.upd H7 p (.tup zs)) zs srs := all_ext (fun v x r => r.keep (.of s8)) hzs
      generalize L2.upd H7 p (.tup zs) = H8 at ep S8 U8 hzs8
      refine ⟨_, rfl, _, rfl, st, lg, cl, _, sz, rfl, hs1, by omega, S8, fun tb p2 H9 ltb e9 n9 S9 U9 => ⟨(by show 2 ≤ sizeLine; decide), fun gp ngp => ?_⟩⟩
      have s10 := same_new (o := .tup [.ref p, .ref p2]) ngp
      have egp : (L2.upd H9 gp (.tup [.ref p, .ref p2])) gp = some (.tup [.ref p, .ref p2]) := upd_same
      have S10 := S9.keep s10
      have U10 := (U8.trans U9).trans (But.of s10)
      have k9 := (U9.tup S8).trans (TupKeep.of s10)
      have hga : GateAt (L2.upd H9 gp (.tup [.ref p, .ref p2])) (.ref gp) (srs, tb) := ⟨gp, p, p2, zs, rfl, egp, k9 _ _ ep, all_ext (fun v x r => r.keep k9) hzs8, s10 _ _ e9⟩
      have hvs10 : AllAt GateAt (L2.upd H9 gp (.tup [.ref p, .ref p2])) vs xs := all_ext (fun v x r => r.keep (U10.tup S6)) hvs6
      have efa10 := U10 _ _ efa6 nfs.1 nfs.2
      have hok' : Gate.ok ni nr ng (srs, tb) := ⟨by show srs.length ≤ 4; omega, by show tb.length = 2 ^ srs.length; rw [lsr, ltb], oks⟩
      generalize L2.upd H9 gp (.tup [.ref p, .ref p2]) = Ha at egp S10 U10 hga hvs10 efa10
      have tu : TupKeep Ha (L2.upd Ha fa (.lst (vs ++ [.ref gp]))) := TupKeep.upd efa10 fun xs z => by cases z
      refine ⟨fa, vs, _, rfl, rfl, efa10, by rw [lvs, sizeLine_eq]; omega, _, _, _, _, _, lf - sz, rfl, elf, vs ++ [.ref gp], xs ++ [(srs, tb)], upd_same, by rw [List.length_append, lvs]; rfl, ?_, fun z hz => ?_, (S10.up (by omega)).upd nfs.1 nfs.2 (S4.cl_ne nfa), fun b o eb m1 m2 => ?_, ?_⟩
      · exact paired_snoc (all_ext (fun v x r => r.keep tu) hvs10) (hga.keep tu)
      · rcases List.mem_append.mp hz with z1 | z1
        · exact hok z z1
        · rw [List.mem_singleton.mp z1]
          exact hok'
      · rw [upd_ne (ne_of_none eb nfa)]
        exact (Ux6.trans U10) _ _ eb m1 m2
      · have e : fanG (xs ++ [(srs, tb)]) = fanG xs + sz := by
          unfold fanG
          rw [List.map_append, List.sum_append]
          show _ + (srs.length + 0) = _
          omega
        rw [e]
        omega
    case done =>
      obtain ⟨_, y8, y9, y10, y11, lf, rfl, rfl, vs, xs, efa, lvs, hvs, hok, Sx, Ux, hfan⟩ := hh
      have lxs : xs.length = ng := by rw [← lvs]; exact (Paired.length hvs).symm
      -- held = tuple([..])
      refine ⟨_, rfl, nr, rfl, by omega, by omega, fun D nD => ?_⟩
      rw [Int.toNat_natCast]
      refine lc_range (DI RegAt (fun r : Bool × Src => r.2.ok ni nr ng) st lg cl Hx D (t + 3 + 40 * ng) 6) (DI.zero nD Sx) (fun j H7 hj d => ?_) (fun H7 d => ?_)
      · obtain ⟨_, _, _, _, _, _, S7, _⟩ := id d
        refine ⟨rfl, _, rfl, st, lg, cl, t + 3 + 40 * ng + 6 * j, 2, rfl, by decide, by decide, by omega, S7, fun k H8 k0 k1 S8 U8 => ⟨_, rfl, _, rfl, _, rfl, _, rfl, st, lg, cl, _, ni, nr, ng, rfl, by omega, by omega, by omega, by omega, S8, fun x sr H9 hs oks S9 U9 => ⟨(by show 2 ≤ sizeLine; decide), fun p np => ?_⟩⟩⟩
        obtain ⟨b, eb⟩ := bits01 k0 k1
        have s10 := same_new (o := .tup [.int k, x]) np
        refine DI.push (x := (b, sr)) (fun H H' v x k r => r.keep k) nD Sx d (by omega) ((U8.trans U9).trans (But.of s10)) ((S9.keep s10).up (by omega)) ⟨p, x, rfl, ?_, hs.keep (.of s10)⟩ oks
        rw [upd_same, eb]
      obtain ⟨zr, rgs, eD, lrg, hzr, okr, S7, U7⟩ := d.all
      refine ⟨D, zr, rfl, .inl ⟨.inl (.inl eD), fun pr npr => ?_⟩⟩
      have s8 := same_new (o := .tup zr) npr
      have epr : (L2.upd H7 pr (.tup zr)) pr = some (.tup zr) := upd_same
      have S8 := S7.keep s8
      have U8 := (Ux.trans U7).trans (But.of s8)
      have k78 := (U7.tup Sx).trans (TupKeep.of s8)
      have hzr8 : AllAt RegAt (L2.upd H7 pr (.tup zr)) zr rgs := all_ext (fun v x r => r.keep (.of s8)) hzr
      have hvs8 : AllAt GateAt (L2.upd H7 pr (.tup zr)) vs xs := all_ext (fun v x r => r.keep k78) hvs
      have efa8 := s8 _ _ (U7 _ _ efa nfs.1 nfs.2)
      generalize L2.upd H7 pr (.tup zr) = H8 at epr S8 U8 hzr8 hvs8 efa8
      -- outputs = tuple([..])
      refine ⟨_, rfl, st, lg, cl, _, 4, rfl, by decide, by decide, by omega, S8, fun k H9 k0 k1 S9 U9 => ⟨_, rfl, by omega, by omega, fun D2 nD2 => ?_⟩⟩
      obtain ⟨no, rfl⟩ : ∃ n : Nat, k = n := ⟨k.toNat, (Int.toNat_of_nonneg k0).symm⟩
      rw [Int.toNat_natCast]
      refine lc_range (DI SrcAt (fun sr : Src => sr.ok ni nr ng) st lg cl H9 D2 (t + 3 + 40 * ng + 6 * nr + 1) 5) (DI.zero nD2 S9) (fun j H7 hj d => ?_) (fun H10 d => ?_)
      · obtain ⟨_, _, _, _, _, _, S7, _⟩ := id d
        refine ⟨rfl, _, rfl, _, rfl, _, rfl, _, rfl, st, lg, cl, _, ni, nr, ng, rfl, by omega, by omega, by omega, by omega, S7, fun x sr H8 hs oks S8 U8 => ?_⟩
        exact DI.push (fun H H' v x k r => r.keep k) nD2 S9 d (by omega) U8 (S8.up (by omega)) hs oks
      obtain ⟨zo, ous, eD2, lou, hzo, oko, S10, U10⟩ := d.all
      refine ⟨D2, zo, rfl, .inl ⟨.inl (.inl eD2), fun po npo => ?_⟩⟩
      have s11 := same_new (o := .tup zo) npo
      have epo : (L2.upd H10 po (.tup zo)) po = some (.tup zo) := upd_same
      have S11 := S10.keep s11
      have U11 := (U9.trans U10).trans (But.of s11)
      have k11 := U11.tup S8
      have hzo11 : AllAt SrcAt (L2.upd H10 po (.tup zo)) zo ous := all_ext (fun v x r => r.keep (.of s11)) hzo
      have efa11 := U11 _ _ efa8 nfs.1 nfs.2
      generalize L2.upd H10 po (.tup zo) = H11 at epo S11 U11 k11 hzo11 efa11
      refine ⟨_, rfl, _, rfl, _, rfl, fa, vs, rfl, .inl ⟨.inl (.inl efa11), fun pg npg => ⟨_, rfl, (by show 4 ≤ sizeLine; decide), fun pc npc => ?_⟩⟩⟩
      have s12 := same_new (o := .tup vs) npg
      have epg : (L2.upd H11 pg (.tup vs)) pg = some (.tup vs) := upd_same
      generalize L2.upd H11 pg (.tup vs) = H12 at s12 epg npc
      have s13 := same_new (o := .tup [.int (ni : Int), .ref pr, .ref pg, .ref po]) npc
      have s23 := s12.trans s13
      have kk := k11.trans (TupKeep.of s23)
      refine q (.ref pc) ⟨ni, rgs, xs, ous⟩ _ ⟨pc, pr, pg, po, zr, vs, zo, rfl, upd_same, kk _ _ epr, s13 _ _ epg, s23 _ _ epo, all_ext (fun v x r => r.keep kk) hzr8, all_ext (fun v x r => r.keep kk) hvs8, all_ext (fun v x r => r.keep (.of s23)) hzo11⟩
        ⟨by show ni ≤ 8; omega, by show rgs.length ≤ 60; omega, by show xs.length ≤ 2000; omega, by show ous.length ≤ 60; omega, fun r hr => by show r.2.ok ni rgs.length xs.length; rw [lrg, lxs]; exact okr r hr, fun g hg => by show g.ok ni rgs.length xs.length; rw [lrg, lxs]; exact hok g hg, fun s hs => by show s.ok ni rgs.length xs.length; rw [lrg, lxs]; exact oko s hs⟩
        (by show ni ≤ 3; omega) (by show rgs.length ≤ 2; omega) (by show 1 ≤ xs.length; omega) (by show xs.length ≤ most; omega) (by show ous.length ≤ 3; omega) (by show fanG xs ≤ br; omega) ((S11.keep s23).up ?_) (((U4.trans U8).trans U11).trans (But.of s23))
      have h1 : 40 * ng ≤ 40 * most := Nat.mul_le_mul_left _ ng2
      omega
end
end K02

set_option Elab.async false
set_option linter.all false
set_option maxRecDepth 100000
set_option maxHeartbeats 4000000
/-! The law's mixed rows, drawn cases, values that are no readings. -/
namespace K02
open PySem PySem.Spec L2
open PyProof.Rows GenW GxR EZ TK
open LamX (ExtN)
abbrev sCaseBits : Stmt := top 61 -- _law_case_bits
section
variable {P : Program} {w : World} {K : PySem.W.Frag} {mg : Str → Option Value} {base : Heap}
def spCaseB : Sp := fun vs H Q _ => ∃ (st lg cl : Addr) (t : Nat) (y : V) (C : Circ), vs = [.ref st, y] ∧ CircAt H y C ∧ C.ok ∧ t + 1000 < 1000000000 ∧ StOk H st lg cl t ∧
  ∀ (T g h : Addr) (gv hv : List Bool) (H' : Hp), H' T = some (.tup [.ref g, .ref h]) → H' g = some (.tup (gv.map bitV)) → H' h = some (.tup (hv.map bitV)) → gv.length = C.ni → hv.length = C.regs.length → StOk H' st lg cl (t + 68) → But st lg H H' → Q (.ref T) H'
theorem scCB : FnScope ["state", "circuit", "lap", "latch"] ["state", "circuit"] (defScope sCaseBits) := ⟨rfl, rfl, rfl, by decide +kernel, rfl, by decide +kernel, by decide +kernel⟩
def isBitR (_ : Hp) (v : V) (b : Bool) : Prop := v = bitV b
theorem bits_all {H : Hp} : ∀ {vs : List V} {bs : List Bool}, AllAt isBitR H vs bs → vs = bs.map bitV
  | _, _, .nil => rfl
  | _, _, .cons r t => by
    rw [List.map_cons, ← bits_all t]
    rw [show _ = bitV _ from r]
def isRdR (_ : Hp) (v : V) (b : Rd) : Prop := v = rdV b
theorem rds_all {H : Hp} : ∀ {vs : List V} {bs : List Rd}, AllAt isRdR H vs bs → vs = bs.map rdV
  | _, _, .nil => rfl
  | _, _, .cons r t => by
    rw [List.map_cons, ← rds_all t]
    rw [show _ = rdV _ from r]
theorem ok_caseB {f : Addr} {fd : FuncData} (F : Fun K "_law_case_bits" "_law_case_bits" sCaseBits f fd) (mrange : mg "range" = none) (mtuple : mg "tuple" = none) (cD : Cal P w K mg base CX0 1 "_law_draw" ["state", "size_here"] spDraw) : FnOk P w K mg base CX0 2 f fd ["state", "circuit"] spCaseB := by
  obtain ⟨fD, fdD, GD, kD, bD, mD⟩ := cD
  refine F.ok scCB (fun vs H Q E h => ?_) (fun cdv A outer s H vs Q E hr h => ?_)
  · obtain ⟨st, lg, cl, t, y, C, rfl, _⟩ := h
    rfl
  · obtain ⟨st, lg, cl, t, y, C, rfl, hC, ok, ht, S, q⟩ := h
    refine ⟨_, (pss_one (ps_ret (pe_tup (pa_cons (pe_callTy call_tuple_of (by rfl) mtuple (by decide +kernel) (pa_cons (pe_lc (own := [("lap", 2)]) (g := gName 2) (tt := tYes) rfl scCB.nd (pi_range1 (by rfl) mrange (pa_cons (pe_ix (r := rIxT K) ix_tup (pv 1) pe_int (fun _ _ => rfl)) pa_nil)) (blkOk_by (N := ["state", "circuit", "lap", "latch"]) (sc := defScope sCaseBits) (by decide +kernel)) (fun _ _ _ _ _ => (pg_name (i := 2) scCB.nd rfl (Or.inl rfl))) (fun _ _ _ _ _ => pts_nil) (fun _ _ _ _ _ => (pe_call GD (hr.mono (by decide)) (by rfl) mD kD bD .nil pass0 (pa_cons (pv 0) (pa_cons pe_int pa_nil))))) pa_nil)) (pa_cons (pe_callTy call_tuple_of (by rfl) mtuple (by decide +kernel) (pa_cons (pe_lc (own := [("latch", 3)]) (g := gName 3) (tt := tYes) rfl scCB.nd (pi_tup (pe_ix (r := rIxT K) ix_tup (pv 1) pe_int (fun _ _ => rfl))) (blkOk_by (N := ["state", "circuit", "lap", "latch"]) (sc := defScope sCaseBits) (by decide +kernel)) (fun _ _ _ _ _ => (pg_name (i := 3) scCB.nd rfl (Or.inl rfl))) (fun _ _ _ _ _ => pts_nil) (fun _ _ _ _ _ => (pe_call GD (hr.mono (by decide)) (by rfl) mD kD bD .nil pass0 (pa_cons (pv 0) (pa_cons pe_int pa_nil))))) pa_nil)) pa_nil))))), ?_⟩
    obtain ⟨ct, ra, gaa, oa, rs, gs, os, rfl, et, er, eg, eo, hrs, hgs, hos⟩ := hC
    have lr : rs.length = C.regs.length := Paired.length hrs
    have k1 := ok.ni
    have k2 := ok.nr
    refine ⟨_, rfl, ct, _, 0, .int (C.ni : Int), rfl, rfl, .inl (.inl et), rfl, (C.ni : Int), rfl, by omega, by omega, fun D nD => ?_⟩
    rw [Int.toNat_natCast]
    refine lc_range (DI isBitR (fun _ => True) st lg cl H D t 1) (DI.zero nD S) (fun i H1 hi d => ?_) (fun H1 d => ?_)
    · obtain ⟨_, _, _, _, _, _, S1, _⟩ := id d
      refine ⟨rfl, _, rfl, st, lg, cl, t + 1 * i, 2, rfl, by decide, by decide, by omega, S1, fun k H2 a0 a1 S2 U2 => ?_⟩
      obtain ⟨b, eb⟩ := bits01 a0 a1
      exact DI.push (x := b) (fun _ _ _ _ _ r => r) nD S d (by omega) U2 (S2.up (by omega)) eb trivial
    obtain ⟨zs, gv, eD, lgv, hz, _, S1, U1⟩ := d.all
    have hz := bits_all hz
    subst hz
    refine ⟨D, _, rfl, .inl ⟨.inl (.inl eD), fun g ng => ?_⟩⟩
    have s2 := same_new (o := .tup (gv.map bitV)) ng
    have eg2 : (L2.upd H1 g (.tup (gv.map bitV))) g = some (.tup (gv.map bitV)) := upd_same
    have S2 := S1.keep s2
    have U2 := U1.trans (But.of s2)
    generalize L2.upd H1 g (.tup (gv.map bitV)) = H2 at eg2 S2 U2
    have et2 := U2.tup S _ _ et
    have er2 := U2.tup S _ _ er
    refine ⟨_, rfl, ct, _, 1, .ref ra, rfl, rfl, .inl (.inl et2), rfl, ra, rfl, ⟨rs, .inl (.inl er2)⟩, fun D2 nD2 => ?_⟩
    refine lc_tup (xs := rs) (DI isBitR (fun _ => True) st lg cl H2 D2 (t + C.ni) 1) (DI.zero nD2 (S2.up (by omega))) (fun i H3 _ d => ?_) (fun i x H3 hx d => ?_) (fun H3 d => ?_)
    · obtain ⟨_, _, _, _, _, _, S3, U3⟩ := id d
      exact .inl (.inl (U3.tup S2 _ _ er2))
    · obtain ⟨_, _, _, _, _, _, S3, _⟩ := id d
      have hi : i < rs.length := (List.getElem?_eq_some_iff.mp hx).1
      refine ⟨rfl, _, rfl, st, lg, cl, t + C.ni + 1 * i, 2, rfl, by decide, by decide, by omega, S3, fun k H4 a0 a1 S4 U4 => ?_⟩
      obtain ⟨b, eb⟩ := bits01 a0 a1
      exact DI.push (x := b) (fun _ _ _ _ _ r => r) nD2 S2 d (by omega) U4 (S4.up (by omega)) eb trivial
    obtain ⟨zs, hv, eD2, lhv, hz, _, S3, U3⟩ := d.all
    have hz := bits_all hz
    subst hz
    refine ⟨D2, _, rfl, .inl ⟨.inl (.inl eD2), fun h nh => ⟨(by show 2 ≤ sizeLine; decide), fun T nT => ?_⟩⟩⟩
    have s4 := same_new (o := .tup (hv.map bitV)) nh
    have eh4 : (L2.upd H3 h (.tup (hv.map bitV))) h = some (.tup (hv.map bitV)) := upd_same
    generalize L2.upd H3 h (.tup (hv.map bitV)) = H4 at s4 eh4 nT
    have s5 := same_new (o := .tup [.ref g, .ref h]) nT
    have k45 := (U3.tup S2).trans (TupKeep.of (s4.trans s5))
    refine q T g h gv hv _ upd_same (k45 _ _ eg2) (s5 _ _ eh4) lgv (by omega) ((S3.keep (s4.trans s5)).up (by omega)) ((U2.trans U3).trans (But.of (s4.trans s5)))
end
end K02

set_option Elab.async false
set_option linter.all false
set_option maxRecDepth 100000
set_option maxHeartbeats 4000000
/-! A tuple times a number, 0 among them. -/
namespace TM
open PySem PySem.Spec PySem.Calls PyProof.Rows L2
theorem tuple_mul0 (l : Addr) (items : Array Value) (n : Nat) (dd : Option Addr) (sl : Array (Option Value)) (u : Tok) (c1 : items.isEmpty = false) :
    Meets (Builtin.«tuple.__mul__» ⟨[.ref l, .int 0 u], []⟩) (fun _ R s => s.heap.get? l = some { cls := .type "tuple", dict := dd, data := .seq items n, slots := sl } ∧
      R (.ok (.ret (Value.ref s.heap.objs.size))) { s with heap := s.heap.push { cls := Value.type "tuple", data := Data.seq #[] }, toks := s.toks }) :=
  .of_wp fun prog w A R s h => by
    obtain ⟨hp, g, d, tk, os⟩ := s
    obtain ⟨hl, h⟩ := h
    have f1 := AutoSeq1.idx_int
    wp_walk using wpAny_loadPart' hl
    exact ⟨_, rfl, h⟩
/-- t * k, k at least 0 (t * 1 is t itself) -/
def rRepZ (K : PySem.W.Frag) : R2 := fun x y H Q => ∃ l k xs, x = .ref l ∧ y = .int k ∧ SqT K H l xs ∧ xs ≠ [] ∧ 0 ≤ k ∧ k ≤ 1000 ∧ xs.length ≤ 1000 ∧ (k = 1 → Q (.ref l) H) ∧ (k ≠ 1 → ∀ p, H p = none → Q (.ref p) (upd H p (.tup (List.replicate k.toNat xs).flatten)))
theorem op_repZ {X : Cx} : OpR X (binaryOp .Mult) (rRepZ X.K) := by
  intro pins s σ H x y v u Q I rx ry h
  obtain ⟨l, k, xs, rfl, rfl, hT, hne, h1, h2, hz, q1, q2⟩ := h
  by_cases hk : k = 0
  · subst hk
    cases rx
    obtain ⟨t, rfl⟩ := ry
    obtain ⟨its, r, ⟨⟨cls, dd, data, sl⟩, ho, hc, n, hd⟩, hs⟩ := I.tuple hT
    simp only at hc hd
    subst hc
    subst hd
    have full : its.toArray.isEmpty = false := by
      cases its with
      | nil =>
        cases r
        exact absurd rfl hne
      | cons a b => rfl
    refine wpAny_binaryOp_repeat_ref (T := "tuple") (U := "int") (by decide) ⟨_, ho, rfl⟩ (fun s' => typeIs_int s' 0 t) noFill_tuple_mul F.fills_int_mul F.slot_int_rmul repeat_tuple F.slot_int_index.lookup
      (call_meets F.slot_int_rmul (typeIs_int s 0 t) F.entry_int_rmul (F.args_int_rmul_2 _ _) (int_rmul_tuple 0 t l its.toArray n dd sl)
        ⟨ho, rfl, ⟨_, ho, rfl⟩, call_meets F.slot_tuple_mul ⟨_, ho, rfl⟩ F.entry_tuple_mul (F.args_tuple_mul_2 _ _) (tuple_mul0 l its.toArray n dd sl t full) ⟨ho, ?_⟩⟩)
    exact ⟨.ref s.heap.objs.size, _, I.laid (t' := s.toks) (o := .tup []) (fun b ob q => Heap.get?_push_of_some _ q) (Nat.le_refl _) ⟨Nat.zero_le _, [], .nil, IsTup.new _ _⟩, rfl, q2 (by decide) _ (I.hok.fresh (Nat.le_refl _))⟩
  · exact op_repA pins s σ H (.ref l) (.int k) v u Q I rx ry ⟨l, k, xs, rfl, rfl, hT, hne, by omega, h2, hz, q1, fun z => q2 (by omega)⟩
end TM

set_option Elab.async false
set_option linter.all false
set_option maxRecDepth 100000
set_option maxHeartbeats 4000000
/-! Values that are no readings. -/
namespace K02
open PySem PySem.Spec L2
open PyProof.Rows GenW GxR EZ TK
open LamX (ExtN)
abbrev sBadR : Stmt := top 63 -- _law_bad_readings
/-- v is no tuple of n readings -/
inductive WR (st lg : Addr) (H : Hp) (n : Nat) : V → Prop
  | atom {v : V} : atomV v = true → WR st lg H n v
  | tup {a : Addr} {xs : List V} : H a = some (.tup xs) → xs.all atomV = true → (xs.length ≠ n ∨ xs.all rdB = false) → WR st lg H n (.ref a)
  | lst {a : Addr} {xs : List V} : H a = some (.lst xs) → a ≠ st → a ≠ lg → WR st lg H n (.ref a)
  | dic {a : Addr} : H a = some (.dT []) → WR st lg H n (.ref a)
theorem WR.but {st lg cl : Addr} {H H' : Hp} {t n : Nat} {v : V} (h : WR st lg H n v) (U : But st lg H H') (S : StOk H st lg cl t) : WR st lg H' n v := by
  cases h with
  | atom a => exact .atom a
  | tup e a o => exact .tup (U.tup S _ _ e) a o
  | lst e n1 n2 => exact .lst (U _ _ e n1 n2) n1 n2
  | dic e => exact .dic (U.keepO S e (fun _ z => by cases z) (fun _ z => by cases z))
theorem WR.same {st lg : Addr} {H H' : Hp} {n : Nat} {v : V} (h : WR st lg H n v) (s : Same H H') : WR st lg H' n v := by
  cases h with
  | atom a => exact .atom a
  | tup e a o => exact .tup (s _ _ e) a o
  | lst e n1 n2 => exact .lst (s _ _ e) n1 n2
  | dic e => exact .dic (s _ _ e)
theorem WR.items {K : PySem.W.Frag} {st lg : Addr} {H : Hp} {n : Nat} {v : V} (h : WR st lg H n v) : ∃ t xs, ItemsV K H v t xs ∧ okRd t xs n = false := by
  have no : ∀ t : String, t ≠ "tuple" → okRd t [] n = false := fun t h => by
    unfold okRd
    rw [decide_eq_false h]
    rfl
  have mk : ∀ (t : String), Ty1 K H v t → t ≠ "tuple" → ∃ t xs, ItemsV K H v t xs ∧ okRd t xs n = false := fun t ht nt => ⟨t, [], ⟨ht, fun z => absurd z nt, fun z => absurd z nt⟩, no t nt⟩
  cases h with
  | atom a =>
    cases v with
    | non => exact mk _ ty_non (by decide)
    | bl b => exact mk _ (ty_bl b) (by decide)
    | int i => exact mk _ (ty_int i) (by decide)
    | str z => exact mk _ (ty_str z) (by decide)
    | _ => cases a
  | @tup a xs e al o =>
    refine ⟨"tuple", xs, ⟨ty_tup e, fun _ => ⟨a, rfl, .inl (.inl e)⟩, fun _ y hy => atom_ty (List.all_eq_true.mp al y hy)⟩, ?_⟩
    unfold okRd
    rcases o with o | o
    · rw [decide_eq_false (show ¬ ((xs.length : Int) = (n : Int)) by omega)]
      simp
    · rw [o]
      simp
  | lst e n1 n2 => exact mk _ (ty_lst e) (by decide)
  | dic e => exact mk _ (ty_dT e) (by decide)
theorem rz_to {K : PySem.W.Frag} {H : Hp} {x : Addr} {v : V} {k : Int} {Q : VK} (hx : H x = some (.tup [v])) (h0 : 0 ≤ k) (h2 : k ≤ 1000) (q : ∀ p H', Same H H' → H' p = some (.tup (List.replicate k.toNat v)) → Q (.ref p) H') : TM.rRepZ K (.ref x) (.int k) H Q := by
  refine ⟨x, k, [v], rfl, rfl, .inl (.inl hx), by simp, h0, h2, (by show 1 ≤ 1000; decide), fun z => ?_, fun _ p np => q p _ (same_new np) ?_⟩
  · refine q x H (fun _ _ e => e) ?_
    rw [z]
    exact hx
  · rw [upd_same, rep_one]
/-- a list of values that are no readings, to pick from -/
def SomeW (st lg : Addr) (H : Hp) (n m : Nat) (v : V) : Prop := ∃ a vs, v = .ref a ∧ a ≠ st ∧ a ≠ lg ∧ H a = some (.lst vs) ∧ 0 < vs.length ∧ vs.length ≤ m ∧ ∀ x ∈ vs, WR st lg H n x
section
variable {P : Program} {w : World} {K : PySem.W.Frag} {mg : Str → Option Value} {base : Heap}
def spBadR : Sp := fun vs H Q _ => ∃ (st lg cl : Addr) (t n : Nat), vs = [.ref st, .int (n : Int)] ∧ n ≤ 60 ∧ t + 100 < 1000000000 ∧ StOk H st lg cl t ∧
  ∀ (x : V) (H' : Hp), WR st lg H' n x → StOk H' st lg cl (t + 1) → But st lg H H' → Q x H'
theorem scBadR : FnScope ["state", "size", "some"] ["state", "size"] (defScope sBadR) := ⟨rfl, rfl, rfl, by decide +kernel, rfl, by decide +kernel, by decide +kernel⟩
theorem ok_badR {f : Addr} {fd : FuncData} (F : Fun K "_law_bad_readings" "_law_bad_readings" sBadR f fd) (cK : Cal P w K mg base CX0 2 "_law_pick" ["state", "several"] (spPick K)) : FnOk P w K mg base CX0 3 f fd ["state", "size"] spBadR := by
  obtain ⟨fK, fdK, GK, kK, bK, mK⟩ := cK
  refine F.ok scBadR (fun vs H Q E h => ?_) (fun cdv A outer s H vs Q E hr h => ?_)
  · obtain ⟨st, lg, cl, t, n, rfl, _⟩ := h
    rfl
  · obtain ⟨st, lg, cl, t, n, rfl, hn, ht, S, q⟩ := h
    refine ⟨_, (pss_cons (ps_set (i := 2) scBadR.nd rfl (Or.inl rfl) (pe_lst (pa_cons pe_non (pa_cons pe_int (pa_cons (pe_op TM.op_repZ (pe_tup (pa_cons pe_int pa_nil)) (pe_op op_add (pv 1) pe_int)) (pa_cons (pe_op op_rep (pe_lst (pa_cons pe_int pa_nil)) (pe_op op_add (pv 1) pe_int)) (pa_cons pe_dnewT (pa_cons pe_str (pa_cons (pe_op TM.op_repZ (pe_tup (pa_cons pe_non pa_nil)) (pe_op op_add (pv 1) pe_int)) pa_nil)))))))))
      (pss_cons (ps_join (ps_if (pt_cmpR op_gt (pv 1) pe_int (nomark _)) (pss_one (ps_set (i := 2) scBadR.nd rfl (Or.inl rfl) (pe_op op_cat (pv 2) (pe_lst (pa_cons (pe_op op_catA (pe_tup (pa_cons pe_int pa_nil)) (pe_op TM.op_repZ (pe_tup (pa_cons pe_int pa_nil)) (pe_op op_sub (pv 1) pe_int))) (pa_cons (pe_op TM.op_repZ (pe_tup (pa_cons pe_bl pa_nil)) (pv 1)) (pa_cons (pe_op TM.op_repZ (pe_tup (pa_cons pe_str pa_nil)) (pv 1)) (pa_cons (pe_op TM.op_repZ (pe_tup (pa_cons pe_int pa_nil)) (pe_op op_sub (pv 1) pe_int)) (pa_cons (pe_op op_rep (pe_lst (pa_cons pe_int pa_nil)) (pv 1)) pa_nil))))))))) pss_nil))
      (pss_one (ps_ret (pe_call GK (hr.mono (by decide)) (by rfl) mK kK bK .nil pass0 (pa_cons (pv 0) (pa_cons (pv 2) pa_nil))))))), ?_⟩
    have one_ : ∀ {p : Addr} {Hx : Hp} {v : V}, (L2.upd Hx p (.tup [v])) p = some (.tup [v]) := upd_same
    -- (0,) * (size + 1)
    refine ⟨(by show 1 ≤ sizeLine; decide), fun p1 np1 => ⟨_, rfl, _, _, rfl, rfl, rz_to one_ (by omega) (by omega) fun a1 H1 s1 e1 => ?_⟩⟩
    have s1 := (same_new np1).trans s1
    clear np1
    -- [0] * (size + 1)
    refine ⟨(by show 1 ≤ sizeLine; decide), fun p2 np2 => ⟨_, rfl, _, _, rfl, rfl, p2, _, [V.int 0], rfl, rfl, upd_same, by omega, by omega, ?_, fun a2 n2 => ?_⟩⟩
    · show 1 * ((n : Int) + 1).toNat ≤ sizeLine
      rw [sizeLine_eq]
      omega
    have s2 := (same_new (o := .lst [V.int 0]) np2).trans (same_new (o := .lst (List.replicate ((n : Int) + 1).toNat [V.int 0]).flatten) n2)
    have e2 : (L2.upd (L2.upd H1 p2 (.lst [V.int 0])) a2 (.lst (List.replicate ((n : Int) + 1).toNat [V.int 0]).flatten)) a2 = _ := upd_same
    have m2 := But.st_new (o := .tup []) (S.keep (s1.trans (same_new (o := .lst [V.int 0]) np2))) n2
    generalize L2.upd (L2.upd H1 p2 (.lst [V.int 0])) a2 (.lst (List.replicate ((n : Int) + 1).toNat [V.int 0]).flatten) = H2 at s2 e2
    clear np2 n2
    -- {}
    refine fun a3 n3 => ?_
    have s3 := same_new (o := .dT []) n3
    have e3 : (L2.upd H2 a3 (.dT [])) a3 = some (.dT []) := upd_same
    generalize L2.upd H2 a3 (.dT []) = H3 at s3 e3
    -- (None,) * (size + 2)
    refine ⟨(by show 1 ≤ sizeLine; decide), fun p4 np4 => ⟨_, rfl, _, _, rfl, rfl, rz_to one_ (by omega) (by omega) fun a4 H4 s4 e4 => ?_⟩⟩
    have s4 := (same_new np4).trans s4
    refine ⟨(by show 7 ≤ sizeLine; decide), fun L nL => ?_⟩
    have s14 := s2.trans (s3.trans s4)
    have s5 := same_new (o := .lst [V.non, .int 5, .ref a1, .ref a2, .ref a3, .str "0", .ref a4]) nL
    have S4 := S.keep (s1.trans s14)
    have nLs := But.st_new (o := .tup []) S4 nL
    have some0 : SomeW st lg (L2.upd H4 L (.lst [V.non, .int 5, .ref a1, .ref a2, .ref a3, .str "0", .ref a4])) n 7 (.ref L) := by
      refine ⟨L, _, rfl, nLs.1, nLs.2, upd_same, (by show 0 < 7; decide), Nat.le_refl _, fun x hx => ?_⟩
      simp only [List.mem_cons, List.not_mem_nil, or_false] at hx
      rcases hx with h | h | h | h | h | h | h <;> subst h
      · exact .atom rfl
      · exact .atom rfl
      · exact .tup (s5 _ _ (s14 _ _ e1)) (rep_all _ _ _ rfl) (.inl (by rw [List.length_replicate]; omega))
      · exact .lst (s5 _ _ (s4 _ _ (s3 _ _ e2))) m2.1 m2.2
      · exact .dic (s5 _ _ (s4 _ _ e3))
      · exact .atom rfl
      · exact .tup (s5 _ _ e4) (rep_all _ _ _ rfl) (.inl (by rw [List.length_replicate]; omega))
    have S5 := S4.keep s5
    have U5 : But st lg H (L2.upd H4 L (.lst [V.non, .int 5, .ref a1, .ref a2, .ref a3, .str "0", .ref a4])) := But.of ((s1.trans s14).trans s5)
    generalize L2.upd H4 L (.lst [V.non, .int 5, .ref a1, .ref a2, .ref a3, .str "0", .ref a4]) = H5 at some0 S5 U5
    clear s1 e1 s2 e2 s3 e3 s4 e4 s14 s5 nL n3 np4
    refine ⟨fun σ Hx => ∃ v, σ = [some (.ref st), some (.int (n : Int)), some v] ∧ SomeW st lg Hx n 12 v ∧ StOk Hx st lg cl t ∧ But st lg H Hx, ⟨_, rfl, _, _, rfl, rfl, _, rfl, ite2 (fun e => ?_) (fun e => ?_)⟩, ?_⟩
    · have hpos : 0 < n := by have := of_decide_eq_true e; omega
      obtain ⟨a0, vs, ha0, x1, x2, x3, x4, x5, x6⟩ := some0
      cases ha0
      -- (2,) + (0,) * (size - 1)
      refine ⟨_, rfl, (by show 1 ≤ sizeLine; decide), fun p0 np0 => ⟨(by show 1 ≤ sizeLine; decide), fun p1 np1 => ⟨_, rfl, _, _, rfl, rfl, rz_to one_ (by omega) (by omega) fun b1 H1 s1 e1 => ?_⟩⟩⟩
      have s0 := (same_new (o := .tup [V.int 0]) np1).trans s1
      refine catA_to (xs := [V.int 2]) (s0 _ _ upd_same) e1 (by rw [List.length_replicate]; show 1 + _ ≤ 1000; omega) fun a1 H2 s2 e2 => ?_
      have s52 := (same_new (o := .tup [V.int 2]) np0).trans (s0.trans s2)
      clear s0 s1 e1 np0 np1 s2
      -- (True,) * size
      refine ⟨(by show 1 ≤ sizeLine; decide), fun p2 np2 => ⟨_, rfl, rz_to one_ (by omega) (by omega) fun a2 H3 s3 e3 => ?_⟩⟩
      have s3 := (same_new np2).trans s3
      -- ('0',) * size
      refine ⟨(by show 1 ≤ sizeLine; decide), fun p3 np3 => ⟨_, rfl, rz_to one_ (by omega) (by omega) fun a3 H4 s4 e4 => ?_⟩⟩
      have s4 := (same_new np3).trans s4
      -- (0,) * (size - 1)
      refine ⟨(by show 1 ≤ sizeLine; decide), fun p4 np4 => ⟨_, rfl, _, _, rfl, rfl, rz_to one_ (by omega) (by omega) fun a4 H6 s5 e5 => ?_⟩⟩
      have s5 := (same_new np4).trans s5
      -- [0] * size
      refine ⟨(by show 1 ≤ sizeLine; decide), fun p5 np5 => ⟨_, rfl, p5, _, [V.int 0], rfl, rfl, upd_same, by omega, by omega, ?_, fun a5 n5 => ?_⟩⟩
      · show 1 * ((n : Int)).toNat ≤ sizeLine
        rw [sizeLine_eq]
        omega
      have s6 := (same_new (o := .lst [V.int 0]) np5).trans (same_new (o := .lst (List.replicate ((n : Int)).toNat [V.int 0]).flatten) n5)
      have e6 : (L2.upd (L2.upd H6 p5 (.lst [V.int 0])) a5 (.lst (List.replicate ((n : Int)).toNat [V.int 0]).flatten)) a5 = _ := upd_same
      have m5 := But.st_new (o := .tup []) (S5.keep (s52.trans (s3.trans (s4.trans (s5.trans (same_new (o := .lst [V.int 0]) np5)))))) n5
      generalize L2.upd (L2.upd H6 p5 (.lst [V.int 0])) a5 (.lst (List.replicate ((n : Int)).toNat [V.int 0]).flatten) = H7 at s6 e6
      refine ⟨(by show 5 ≤ sizeLine; decide), fun L2' nL2 => ?_⟩
      have s7 := same_new (o := .lst [V.ref a1, .ref a2, .ref a3, .ref a4, .ref a5]) nL2
      have e7 : (L2.upd H7 L2' (.lst [V.ref a1, .ref a2, .ref a3, .ref a4, .ref a5])) L2' = some (.lst [V.ref a1, .ref a2, .ref a3, .ref a4, .ref a5]) := upd_same
      generalize L2.upd H7 L2' (.lst [V.ref a1, .ref a2, .ref a3, .ref a4, .ref a5]) = H8 at s7 e7
      have t7 := s6.trans s7
      have t5 := s5.trans t7
      have t4 := s4.trans t5
      have t3 := s3.trans t4
      have t0 := s52.trans t3
      refine ⟨L, L2', vs, [V.ref a1, .ref a2, .ref a3, .ref a4, .ref a5], rfl, rfl, t0 _ _ x3, e7, Nat.le_of_lt (small1000 (by show _ + 5 ≤ 1000; omega)), fun p9 np9 => ?_⟩
      have s9 := same_new (o := .lst (vs ++ [V.ref a1, .ref a2, .ref a3, .ref a4, .ref a5])) np9
      have m9 := But.st_new (o := .tup []) (S5.keep t0) np9
      refine ⟨_, rfl, ⟨p9, _, rfl, m9.1, m9.2, upd_same, by rw [List.length_append]; omega, by rw [List.length_append]; show _ + 5 ≤ 12; omega, fun x hx => ?_⟩, S5.keep (t0.trans s9), U5.trans (But.of (t0.trans s9))⟩
      rcases List.mem_append.mp hx with h | h
      · exact (x6 x h).same (t0.trans s9)
      · simp only [List.mem_cons, List.not_mem_nil, or_false] at h
        rcases h with h | h | h | h | h <;> subst h
        · refine .tup (s9 _ _ (t3 _ _ e2)) ?_ (.inr ?_)
          · rw [List.all_append, rep_all _ _ _ rfl]
            rfl
          · rfl
        · exact .tup (s9 _ _ (t4 _ _ e3)) (rep_all _ _ _ rfl) (.inr (rep_bad _ _ rfl (by omega)))
        · exact .tup (s9 _ _ (t5 _ _ e4)) (rep_all _ _ _ rfl) (.inr (rep_bad _ _ rfl (by omega)))
        · exact .tup (s9 _ _ (t7 _ _ e5)) (rep_all _ _ _ rfl) (.inl (by rw [List.length_replicate]; omega))
        · exact .lst (s9 _ _ (s7 _ _ e6)) m5.1 m5.2
    · exact ⟨_, rfl, by obtain ⟨a, vs, x1, x2, x3, x4, x5, x6, x7⟩ := some0; exact ⟨a, vs, x1, x2, x3, x4, x5, by omega, x7⟩, S5, U5⟩
    rintro σ H6 ⟨v5, rfl, ⟨a, vs, rfl, n1, n2', ea, p0, p1, hv⟩, S6, U6⟩
    refine ⟨_, rfl, _, rfl, st, lg, cl, a, t, vs, rfl, p0, by omega, n1, n2', .inl (.inl ea), by omega, S6, fun x H7 hx S7 U7 => ?_⟩
    exact q x H7 ((hv x hx).but U7 S6) S7 (U6.trans U7)
end
end K02

set_option Elab.async false
set_option linter.all false
set_option maxRecDepth 100000
set_option maxHeartbeats 2000000
/-! Values that are no circuit. -/
namespace K02
open PySem PySem.Spec L2
open PyProof.Rows GenW GxR EZ TK CE LamX
/-- v is no tuple of four -/
inductive OD (st lg : Addr) (H : Hp) : V → Prop
  | non : OD st lg H .non
  | int (i : Int) : OD st lg H (.int i)
  | tup {a : Addr} {xs : List V} : H a = some (.tup xs) → xs.length ≠ 4 → OD st lg H (.ref a)
  | lst {a : Addr} {xs : List V} : H a = some (.lst xs) → a ≠ st → a ≠ lg → OD st lg H (.ref a)
theorem OD.but {st lg cl : Addr} {H H' : Hp} {t : Nat} {v : V} (h : OD st lg H v) (U : But st lg H H') (S : StOk H st lg cl t) : OD st lg H' v := by
  cases h with
  | non => exact .non
  | int i => exact .int i
  | tup e l => exact .tup (U.tup S _ _ e) l
  | lst e n1 n2 => exact .lst (U _ _ e n1 n2) n1 n2
theorem OD.ext {st lg : Addr} {H H' : Hp} {v : V} (h : OD st lg H v) (x : ExtN H H') : OD st lg H' v := by
  cases h with
  | non => exact .non
  | int i => exact .int i
  | tup e l => exact .tup (x _ _ e (fun _ z => by cases z)) l
  | lst e n1 n2 => exact .lst (x _ _ e (fun _ z => by cases z)) n1 n2
theorem WR.ext {st lg : Addr} {H H' : Hp} {n : Nat} {v : V} (h : WR st lg H n v) (x : ExtN H H') : WR st lg H' n v := by
  cases h with
  | atom a => exact .atom a
  | tup e a o => exact .tup (x _ _ e (fun _ z => by cases z)) a o
  | lst e n1 n2 => exact .lst (x _ _ e (fun _ z => by cases z)) n1 n2
  | dic e => exact .dic (x _ _ e (fun _ z => by cases z))
section
variable {K : PySem.W.Frag}
theorem OD.odd {st lg : Addr} {H : Hp} {v : V} (h : OD st lg H v) : Odd4 K H v := by
  cases h with
  | non => exact ⟨_, [], ty_non, fun z => absurd z (by decide), by decide⟩
  | int i => exact ⟨_, [], ty_int i, fun z => absurd z (by decide), by decide⟩
  | @tup a xs e l =>
    refine ⟨"tuple", xs, ty_tup e, fun _ => ⟨a, rfl, .inl (.inl e)⟩, ?_⟩
    rw [decide_eq_false (show ¬ ((xs.length : Int) = 4) by omega), Bool.and_false]
  | lst e n1 n2 => exact ⟨_, [], ty_lst e, fun z => absurd z (by decide), by decide⟩
end
end K02

set_option Elab.async false
set_option linter.all false
set_option maxRecDepth 100000
/-! Readings. -/
namespace K02
open PySem PySem.Spec L2
open PyProof.Rows GenW GxR
open LamX (ExtN)
abbrev sIsReading : Stmt := top 10 -- is_reading
section
variable {P : Program} {w : World} {K : PySem.W.Frag} {mg : Str → Option Value} {base : Heap}
def spReading (K : PySem.W.Frag) : Sp := fun vs H Q _ => ∃ (x : V) (t : String), vs = [x] ∧ Ty1 K H x t ∧ Q (.bl (rdB x)) H
theorem scReading : FnScope ["thing"] ["thing"] (defScope sIsReading) := ⟨rfl, rfl, rfl, by decide +kernel, rfl, by decide +kernel, by decide +kernel⟩
theorem ok_reading {f fB : Addr} {fd fdB : FuncData} (F : Fun K "is_reading" "is_reading" sIsReading f fd) (GB : FnOk P w K mg base CX0 3 fB fdB ["thing"] (spBit K)) (kB : PySem.W.keepIn K (.ref fB) = true) (bB : Binds K fdB ["thing"] []) (mB : mg "is_bit" = some (.ref fB)) :
    FnOk P w K mg base CX0 4 f fd ["thing"] (spReading K) := by
  refine F.ok scReading (fun vs H Q E h => ?_) (fun cdv A outer s H vs Q E hr h => ?_)
  · obtain ⟨x, t, rfl, _⟩ := h
    rfl
  · obtain ⟨x, t, rfl, ht, q⟩ := h
    refine ⟨_, pss_one (ps_ret (pe_or (pe_cmpR op_isN (pv 0) pe_non (nomark _)) (pe_one (pe_call GB hr (by rfl) mB kB bB .nil pass0 (pa_cons (pv 0) pa_nil))))), ?_⟩
    refine ⟨_, rfl, rfl, _, rfl, ite2 (fun hc => ?_) (fun hc => ?_)⟩
    · have e : rdB x = true := by
        unfold rdB
        rw [hc]
        rfl
      rw [e] at q
      exact q
    · refine ⟨_, rfl, x, t, rfl, ht, ?_⟩
      have e : rdB x = bel x 2 := by
        unfold rdB
        rw [Bool.not_eq_true] at hc
        rw [hc]
        rfl
      rw [e] at q
      exact q

end
end K02

set_option Elab.async false
set_option linter.all false
set_option maxRecDepth 100000
set_option maxHeartbeats 2000000
/-! Tuples of readings. -/
namespace K02
open PySem PySem.Spec L2
open PyProof.Rows GenW GxR
open LamX (ExtN)
abbrev sIsReadings : Stmt := top 13 -- is_readings
section
variable {P : Program} {w : World} {K : PySem.W.Frag} {mg : Str → Option Value} {base : Heap}
def spReadings (K : PySem.W.Frag) (TT : List Addr) : Sp := fun vs H Q _ => ∃ (x : V) (t : String) (xs : List V) (n : Int), vs = [x, .int n] ∧ Ty1 K H x t ∧ TupV K H x t xs ∧ (t = "tuple" → ∀ y ∈ xs, ∃ ty, Ty1 K H y ty) ∧ TabsG TT H ∧
  ∀ H', Ex TT H H' → Q (.bl (decide (t = "tuple") && decide ((xs.length : Int) = n) && xs.all rdB)) H'
theorem scReadings : FnScope ["thing", "many", "item"] ["thing", "many"] (defScope sIsReadings) := ⟨rfl, rfl, rfl, by decide +kernel, rfl, by decide +kernel, by decide +kernel⟩
theorem ok_readings {TT : List Addr} {f fT fB c T : Addr} {fd fdT fdB : FuncData} (F : Fun K "is_readings" "is_readings" sIsReadings f fd) (hc : fd.code = .ref c) (TB : TabB base mg c T) (hTT : T ∈ TT) (mall : mg "all" = none)
    (GT : FnOk P w K mg base CX0 1 fT fdT ["thing", "many"] (spTupleOf K)) (kT : PySem.W.keepIn K (.ref fT) = true) (bT : Binds K fdT ["thing", "many"] []) (mT : mg "is_tuple_of" = some (.ref fT))
    (GB : FnOk P w K mg base CX0 4 fB fdB ["thing"] (spReading K)) (kB : PySem.W.keepIn K (.ref fB) = true) (bB : Binds K fdB ["thing"] []) (mB : mg "is_reading" = some (.ref fB)) :
    FnOk P w K mg base CX0 6 f fd ["thing", "many"] (spReadings K TT) := by
  refine okC F hc scReadings (fun vs H Q E h => ?_) (fun A outer s H vs Q E hr h => ?_)
  · obtain ⟨x, t, xs, n, rfl, _⟩ := h
    rfl
  · obtain ⟨x, t, xs, n, rfl, ht, hx, hys, hT, q⟩ := h
    refine ⟨_, pss_one (ps_ret (pe_and (pe_call GT (hr.mono (by decide)) (by rfl) mT kT bT .nil pass0 (pa_cons (pv 0) (pa_cons (pv 1) pa_nil)))
      (pe_one (GX.pe_all (own := [("item", 2)]) (k := 4) hr (by rfl) mall TB rfl rfl scReadings.nd (pi_tup (pv 0)) (blkOk_by (N := ["thing", "many", "item"]) (sc := defScope sIsReadings) (by decide +kernel)) (GX.genNames_by (by decide +kernel))
        (fun _ _ _ _ _ _ _ => pg_name (i := 2) scReadings.nd rfl (Or.inl rfl)) (fun _ _ _ _ _ _ _ _ => pts_nil) (fun _ _ _ _ _ _ _ hr2 => pe_call GB hr2 (by rfl) mB kB bB .nil pass0 (pa_cons (pv 2) pa_nil)))))), ?_⟩
    refine ⟨_, rfl, _, rfl, x, t, xs, n, rfl, ht, hx, _, rfl, ite2 (fun hb => ?_) (fun hb => ?_)⟩
    · obtain ⟨h1, h2⟩ := (Bool.and_eq_true _ _).mp hb
      have h1 := of_decide_eq_true h1
      obtain ⟨a, rfl, hS⟩ := hx h1
      subst h1
      have q2 : ∀ H', Ex TT H H' → Q (.bl (xs.all rdB)) H' := fun H' e1 => by
        have z := q H' e1
        rw [h2] at z
        exact z
      have hys := hys rfl
      refine ⟨_, rfl, a, rfl, ⟨_, hS⟩, hT T hTT, fun H2 hT2 => ⟨fun i m H3 => m + i = xs.length ∧ Ex TT H H3 ∧ ((xs.take i).all rdB) = true, ⟨xs.length, rfl, Ex.tabbed hTT hT2, rfl⟩, fun i m H3 hW => ?_⟩⟩
      obtain ⟨em, x3, ha⟩ := hW
      have e3 := x3.extN hT
      by_cases hi : i < xs.length
      · refine .inr ⟨⟨xs, xs[i], extN_seqT e3 hS, List.getElem?_eq_getElem hi⟩, fun H4 => Ex TT H H4 ∧ ((xs.take (i + 1)).all rdB) = true, fun H4 ⟨x4, a4⟩ => ⟨m - 1, by omega, by omega, x4, a4⟩, fun y H4 hy => ?_⟩
        obtain ⟨rfl, hy⟩ := hy
        have ey := hy _ (extN_seqT e3 hS)
        obtain ⟨ty, hty⟩ := hys y (List.mem_of_getElem? ey)
        refine ⟨rfl, _, rfl, y, ty, rfl, hty.ext e3, _, rfl, fun hc => ?_, fun hc => ⟨x3, ?_⟩⟩
        · have z := q2 H4 x3
          have e : (xs.all rdB) = false := by
            rw [Bool.eq_false_iff]
            intro z
            have z2 := List.all_eq_true.mp z y (List.mem_of_getElem? ey)
            rw [z2] at hc
            cases hc
          rw [e] at z
          exact z
        · rw [take_snoc ey, List.all_append, ha]
          simpa using hc
      · refine .inl ⟨⟨xs, extN_seqT e3 hS, by omega⟩, ?_⟩
        have z := q2 H3 x3
        rw [List.take_of_length_le (by omega)] at ha
        rw [ha] at z
        exact z
    · rw [Bool.not_eq_true] at hb
      have z := q H (Ex.refl TT H)
      rw [hb] at z
      exact z
end
end K02

set_option Elab.async false
set_option linter.all false
set_option maxRecDepth 100000
set_option maxHeartbeats 2000000
/-! Cases. -/
namespace K02
open PySem PySem.Spec L2
open PyProof.Rows GenW GxR
open LamX (ExtN)
abbrev sCheckCase : Stmt := top 27 -- check_case
section
variable {P : Program} {w : World} {K : PySem.W.Frag} {mg : Str → Option Value} {base : Heap}
def spCheckCase (K : PySem.W.Frag) (TT : List Addr) (CC CG CH : Addr) : Sp := fun vs H Q E => ∃ (y x1 x2 : V), vs = [y, x1, x2] ∧ ((Odd4 K H y ∧ E (.ref CC) none H) ∨ (∃ (C : Circ) (t1 t2 : String) (xs1 xs2 : List V), CircAt H y C ∧ C.ok ∧ TabsG TT H ∧ ItemsV K H x1 t1 xs1 ∧ ItemsV K H x2 t2 xs2 ∧
  (okRd t1 xs1 C.ni = false → ∀ H', Ex TT H H' → E (.ref CG) none H') ∧ (okRd t1 xs1 C.ni = true → okRd t2 xs2 C.regs.length = false → ∀ H', Ex TT H H' → E (.ref CH) none H') ∧
  (okRd t1 xs1 C.ni = true → okRd t2 xs2 C.regs.length = true → ∀ H', Ex TT H H' → Q .non H')))
theorem scCheckCase : FnScope ["circuit", "given", "held"] ["circuit", "given", "held"] (defScope sCheckCase) := ⟨rfl, rfl, rfl, by decide +kernel, rfl, by decide +kernel, by decide +kernel⟩
theorem ok_checkCase {TT : List Addr} {f fC fR c CC CG CH : Addr} {fd fdC fdR : FuncData} (F : Fun K "check_case" "check_case" sCheckCase f fd) (hc : fd.code = .ref c) (mlen : mg "len" = none)
    (xG : PySem.W.excIn K CG [.type "ValueError", .type "Exception", .type "BaseException", .type "object"] "ValueError.__new__" = true) (gG : mg "BadGiven" = some (.ref CG)) (kCG : PySem.W.keepIn K (.ref CG) = true) (bCG : PySem.W.subIn K (.ref CG) (.type "BaseException") = some true) (tCG : PySem.W.typeIn K (.ref CG) = some (.type "type"))
    (xH : PySem.W.excIn K CH [.type "ValueError", .type "Exception", .type "BaseException", .type "object"] "ValueError.__new__" = true) (gH : mg "BadHeld" = some (.ref CH)) (kCH : PySem.W.keepIn K (.ref CH) = true) (bCH : PySem.W.subIn K (.ref CH) (.type "BaseException") = some true) (tCH : PySem.W.typeIn K (.ref CH) = some (.type "type"))
    (GC : FnOk P w K mg base (L2.CX P w) 9 fC fdC ["circuit"] (spCheckC K TT CC)) (kC : PySem.W.keepIn K (.ref fC) = true) (bC : Binds K fdC ["circuit"] []) (mC : mg "check_circuit" = some (.ref fC))
    (GR : FnOk P w K mg base CX0 6 fR fdR ["thing", "many"] (spReadings K TT)) (kR : PySem.W.keepIn K (.ref fR) = true) (bR : Binds K fdR ["thing", "many"] []) (mR : mg "is_readings" = some (.ref fR)) :
    FnOk P w K mg base (L2.CX P w) 10 f fd ["circuit", "given", "held"] (spCheckCase K TT CC CG CH) := by
  refine okCX F hc scCheckCase (fun vs H Q E h => ?_) (fun A outer s H vs Q E hr h => ?_)
  · obtain ⟨y, x1, x2, rfl, _⟩ := h
    rfl
  · obtain ⟨y, x1, x2, rfl, h⟩ := h
    refine ⟨_, pss_cons (ps_expr (pe_callS GC hr (by rfl) mC kC bC (passAt (takes_of rfl rfl rfl rfl)) (pa_cons (pv 0) pa_nil)))
      (pss_cons (ps_if (pt_not (pt_val (pe_call GR (hr.mono (by decide)) (by rfl) mR kR bR .nil pass0 (pa_cons (pv 1) (pa_cons (pe_ix (r := rIxT K) ix_tup (pv 0) pe_int (fun _ _ => rfl)) pa_nil)))))
        (pss_one (ps_raise rfl (takes_of rfl rfl rfl rfl) (pmk_own PySem.F.excBase_ValueError xG gG kCG (raises_own bCG tCG) (by rfl)))) pss_nil)
      (pss_one (ps_if (pt_not (pt_val (pe_call GR (hr.mono (by decide)) (by rfl) mR kR bR .nil pass0 (pa_cons (pv 2) (pa_cons (pe_callB call_len_seq (by rfl) mlen PySem.boot_len (pa_cons (pe_ix (r := rIxT K) ix_tup (pv 0) pe_int (fun _ _ => rfl)) pa_nil)) pa_nil)))))
        (pss_one (ps_raise rfl (takes_of rfl rfl rfl rfl) (pmk_own PySem.F.excBase_ValueError xH gH kCH (raises_own bCH tCH) (by rfl)))) pss_nil))), ?_⟩
    rcases h with ⟨o, q⟩ | ⟨C, t1, t2, xs1, xs2, hC, ok, hT, hx1, hx2, qG, qH, q⟩
    · exact ⟨_, rfl, y, rfl, .inr ⟨o, q⟩⟩
    · refine ⟨_, rfl, y, rfl, .inl ⟨C, hC, ok, hT, fun H1 e1 => ?_⟩⟩
      have hT1 := e1.tabs hT
      have n1 := e1.extN hT
      obtain ⟨t, ra, ga, oa, rs, gs, os, rfl, et, er, eg, eo, hrs, hgs, hos⟩ := hC
      have et1 := n1 _ _ et (fun _ z => by cases z)
      have er1 := n1 _ _ er (fun _ z => by cases z)
      have hx1' := hx1.ext n1
      have hx2' := hx2.ext n1
      have lr : rs.length = C.regs.length := Paired.length hrs
      refine ⟨_, rfl, _, rfl, t, _, 0, .int C.ni, rfl, rfl, .inl (.inl et1), rfl, x1, t1, xs1, C.ni, rfl, hx1'.1, hx1'.2.1, hx1'.2.2, hT1, fun H2 e2 => ⟨_, rfl, ?_⟩⟩
      have e12 := e1.trans e2
      have hT2 := e12.tabs hT
      have n2 := e12.extN hT
      have et2 := n2 _ _ et (fun _ z => by cases z)
      have er2 := n2 _ _ er (fun _ z => by cases z)
      have hx2'' := hx2.ext n2
      show (if (!okRd t1 xs1 C.ni) = true then _ else _)
      cases h1 : okRd t1 xs1 C.ni with
      | false => exact iteT (qG h1 H2 e12)
      | true =>
        refine iteF ⟨_, rfl, _, rfl, t, _, 1, .ref ra, rfl, rfl, .inl (.inl et2), rfl, ra, rs, rfl, .inr (.inl (.inl er2)), x2, t2, xs2, rs.length, rfl, hx2''.1, hx2''.2.1, hx2''.2.2, hT2, fun H3 e3 => ⟨_, rfl, ?_⟩⟩
        have e13 := e12.trans e3
        rw [lr]
        show (if (!okRd t2 xs2 C.regs.length) = true then _ else _)
        cases h2 : okRd t2 xs2 C.regs.length with
        | false => exact iteT (qH h1 h2 H3 e13)
        | true => exact iteF (q h1 h2 H3 e13)
end
end K02

set_option Elab.async false
set_option linter.all false
set_option maxRecDepth 100000
set_option maxHeartbeats 4000000
/-! Defs that first check their case. -/
namespace K02
open PySem PySem.Spec L2
open PyProof.Rows GenW GxR
open LamX (ExtN)
open EZ STL
section
variable {P : Program} {w : World} {K : PySem.W.Frag} {mg : Str → Option Value} {base : Heap}
/-- a def that first checks its case -/
def spCased (K : PySem.W.Frag) (TT : List Addr) (CC CG CH : Addr) (fin : Circ → List Rd → List Rd → Hp → VK → Prop) : Sp := fun vs H Q E => ∃ (y x1 x2 : V), vs = [y, x1, x2] ∧ ((Odd4 K H y ∧ E (.ref CC) none H) ∨ (∃ (C : Circ) (t1 t2 : String) (xs1 xs2 : List V), CircAt H y C ∧ C.ok ∧ fanG C.gates ≤ 4000 ∧ TabsG TT H ∧ ItemsV K H x1 t1 xs1 ∧ ItemsV K H x2 t2 xs2 ∧
  (okRd t1 xs1 C.ni = false → ∀ H', Ex TT H H' → E (.ref CG) none H') ∧ (okRd t1 xs1 C.ni = true → okRd t2 xs2 C.regs.length = false → ∀ H', Ex TT H H' → E (.ref CH) none H') ∧
  (∀ (gv hv : List Rd) H', t1 = "tuple" → t2 = "tuple" → xs1 = gv.map rdV → xs2 = hv.map rdV → gv.length = C.ni → hv.length = C.regs.length → Ex TT H H' → fin C gv hv H' Q)))
def finSure : Circ → List Rd → List Rd → Hp → VK → Prop := fun C gv hv H Q => ∀ (r : Addr) (H' : Hp), Same H H' → H r = none → H' r = some (.tup ((sureF C.gates gv hv).map rdV)) → Q (.ref r) H'
def finWhole : Circ → List Rd → List Rd → Hp → VK → Prop := fun C gv hv H Q => ∀ (H' : Hp), Same H H' → Q (.bl (!(sureF C.gates gv hv).any fun r => r.isNone)) H'
/-- what check_case asks, and what is known behind it -/
theorem case_to {TT : List Addr} {CC CG CH : Addr} {fin : Circ → List Rd → List Rd → Hp → VK → Prop} {y x1 x2 : V} {H : Hp} {Q : VK} {E : XK} {Qn : VK}
    (h : (Odd4 K H y ∧ E (.ref CC) none H) ∨ (∃ (C : Circ) (t1 t2 : String) (xs1 xs2 : List V), CircAt H y C ∧ C.ok ∧ fanG C.gates ≤ 4000 ∧ TabsG TT H ∧ ItemsV K H x1 t1 xs1 ∧ ItemsV K H x2 t2 xs2 ∧
      (okRd t1 xs1 C.ni = false → ∀ H', Ex TT H H' → E (.ref CG) none H') ∧ (okRd t1 xs1 C.ni = true → okRd t2 xs2 C.regs.length = false → ∀ H', Ex TT H H' → E (.ref CH) none H') ∧
      (∀ (gv hv : List Rd) H', t1 = "tuple" → t2 = "tuple" → xs1 = gv.map rdV → xs2 = hv.map rdV → gv.length = C.ni → hv.length = C.regs.length → Ex TT H H' → fin C gv hv H' Q)))
    (go : ∀ (C : Circ) (gv hv : List Rd) (ga ha : Addr) (H' : Hp), x1 = .ref ga → x2 = .ref ha → CircAt H' y C → C.ok → fanG C.gates ≤ 4000 → gv.length = C.ni → hv.length = C.regs.length → SqT K H' ga (gv.map rdV) → SqT K H' ha (hv.map rdV) → fin C gv hv H' Q → Qn .non H') :
    spCheckCase K TT CC CG CH [y, x1, x2] H Qn E := by
  refine ⟨y, x1, x2, rfl, ?_⟩
  rcases h with h | ⟨C, t1, t2, xs1, xs2, hC, ok, fan, hT, i1, i2, qG, qH, q⟩
  · exact .inl h
  · refine .inr ⟨C, t1, t2, xs1, xs2, hC, ok, hT, i1, i2, qG, qH, fun o1 o2 H' x => ?_⟩
    obtain ⟨e1, l1, gv, rfl⟩ := okRd_rds o1
    obtain ⟨e2, l2, hv, rfl⟩ := okRd_rds o2
    have n := x.extN hT
    rw [List.length_map] at l1 l2
    obtain ⟨ga, rfl, sg⟩ := i1.2.1 e1
    obtain ⟨ha, rfl, sh⟩ := i2.2.1 e2
    exact go C gv hv ga ha H' rfl rfl (hC.ext n) ok fan l1 l2 (extN_seqT n sg) (extN_seqT n sh) (q gv hv H' e1 e2 rfl rfl l1 l2 x)
end
end K02

set_option Elab.async false
set_option linter.all false
set_option maxRecDepth 100000
set_option maxHeartbeats 2000000
/-! Orders and closed lots: what is told. -/
namespace K02
open PySem PySem.Spec L2
open PyProof.Rows GenW GxR EZ TK
open LamX (ExtN)
abbrev sUnsureA : Stmt := top 38 -- unsure_among
abbrev sSureOrder : Stmt := top 35 -- sure_order
abbrev sClosedLot : Stmt := top 39 -- closed_lot
/-- the places that have no bit -/
def opensF (F : List Rd) : List Nat := (List.range F.length).filter fun i => (F.getD i none).isNone
def opensTo (F : List Rd) (i : Nat) : List Nat := (List.range i).filter fun i => (F.getD i none).isNone
theorem opens_len (F : List Rd) (i : Nat) : (opensTo F i).length ≤ i := by
  have z := List.length_filter_le (fun i => (F.getD i none).isNone) (List.range i)
  rw [List.length_range] at z
  exact z
theorem lapOf_len (gs : List Gate) (gv hv F : List Rd) : (lapOf gs gv hv F).length ≤ gs.length := by
  unfold lapOf
  refine Nat.le_trans (List.length_filterMap_le _ _) ?_
  rw [List.length_range]
  exact Nat.le_refl _
theorem lapsL_size (gs : List Gate) (gv hv : List Rd) : ∀ (n : Nat) (F : List Rd), (lapsL gs gv hv n F).flatten.length ≤ n * gs.length
  | 0, F => by
    show 0 ≤ _
    exact Nat.zero_le _
  | n + 1, F => by
    unfold lapsL
    split
    · exact Nat.zero_le _
    · have a := lapOf_len gs gv hv F
      have b := lapsL_size gs gv hv n (lapF gs gv hv F)
      rw [List.flatten_cons, List.length_append, Nat.succ_mul]
      omega
theorem laps_take (gs : List Gate) (gv hv : List Rd) (i : Nat) : ((lapsAll gs gv hv).take i).flatten.length ≤ gs.length * gs.length := by
  have a := lapsL_size gs gv hv gs.length (List.replicate gs.length none)
  have b : (lapsAll gs gv hv).flatten = ((lapsAll gs gv hv).take i).flatten ++ ((lapsAll gs gv hv).drop i).flatten := by
    rw [← List.flatten_append, List.take_append_drop]
  have c : (lapsAll gs gv hv).flatten.length ≤ gs.length * gs.length := a
  rw [b, List.length_append] at c
  omega
section
variable {P : Program} {w : World} {K : PySem.W.Frag} {mg : Str → Option Value} {base : Heap}
def spUnsureA (K : PySem.W.Frag) : Sp := fun vs H Q _ => ∃ (la : Addr) (F : List Rd), vs = [.ref la] ∧ SqL K H la (F.map rdV) ∧ F.length ≤ 2000 ∧ ∀ (T : Addr) (H' : Hp), Same H H' → H T = none → H' T = some (.tup (nV (opensF F))) → Q (.ref T) H'
theorem scUA : FnScope ["found", "gate", "bit"] ["found"] (defScope sUnsureA) := ⟨rfl, rfl, rfl, by decide +kernel, rfl, by decide +kernel, by decide +kernel⟩
theorem ok_unsureA {f : Addr} {fd : FuncData} (F : Fun K "unsure_among" "unsure_among" sUnsureA f fd) (mtuple : mg "tuple" = none) (men : mg "enumerate" = none) : FnOk P w K mg base CX0 1 f fd ["found"] (spUnsureA K) := by
  refine F.ok scUA (fun vs H Q E h => ?_) (fun cdv A outer s H vs Q E hr h => ?_)
  · obtain ⟨la, F, rfl, _⟩ := h
    rfl
  · obtain ⟨la, F, rfl, hl, l2, q⟩ := h
    refine ⟨_, (pss_one (ps_ret (pe_callTy call_tuple_of (by rfl) mtuple (by decide +kernel) (pa_cons (pe_lc (own := [("gate", 1), ("bit", 2)]) (g := gTup K 2 (gCons (gName 1) (gCons (gName 2) gNil))) rfl scUA.nd (pi_enum (by rfl) men (pa_cons (pv 0) pa_nil)) (blkOk_by (N := ["found", "gate", "bit"]) (sc := defScope sUnsureA) (by decide +kernel)) (fun _ _ _ _ _ => (pg_tup rfl (pgs_cons (pg_name (i := 1) scUA.nd rfl (Or.inl rfl)) (pgs_cons (pg_name (i := 2) scUA.nd rfl (Or.inl rfl)) pgs_nil)))) (fun _ _ _ _ _ => pts_one (pt_cmpR op_isN (pv 2) pe_non (nomark _))) (fun _ _ _ _ _ => (pv 1))) pa_nil)))), ?_⟩
    refine ⟨_, rfl, la, _, rfl, hl, fun D nD => ?_⟩
    refine lc_it (walk_enum (xs := F.map rdV)) (fun i H1 => Same H H1 ∧ H1 D = some (.lst (nV (opensTo F i)))) ⟨same_new nD, upd_same⟩ (fun i H1 _ z => extN_seqL (extN_same z.1) hl) (fun i x H1 H1' hi ⟨s1, e1⟩ hy => ?_) (fun H1 ⟨s1, e1⟩ => ?_)
    · obtain ⟨T, x1, y1, rfl, nT, rfl, hx, hy⟩ := hy
      cases hx
      have hy : (F.map rdV)[i]? = some y1 := hy
      rw [List.getElem?_map] at hy
      obtain ⟨r, hr2, rfl⟩ := Option.map_eq_some_iff.mp hy
      have sT := same_new (o := .tup [.int (i : Nat), rdV r]) nT
      have hg : F.getD i none = r := by rw [List.getD_eq_getElem?_getD, hr2]; rfl
      have hil : i < F.length := (List.getElem?_eq_some_iff.mp hr2).1
      have step : opensTo F (i + 1) = opensTo F i ++ (if r.isNone = true then [i] else []) := by
        unfold opensTo
        rw [List.range_succ, List.filter_append, List.filter_cons, hg]
        rfl
      refine ⟨T, _, rfl, .inl (.inl upd_same), rfl, _, _, rfl, _, _, rfl, rfl, rfl, ?_⟩
      refine ⟨_, rfl, rfl, _, rfl, ?_⟩
      rw [rdV_isN]
      cases r with
      | some b =>
        refine iteF ⟨s1.trans sT, ?_⟩
        rw [step, if_neg (show ¬ ((some b : Rd).isNone = true) from fun z => by cases z), List.append_nil]
        exact sT _ _ e1
      | none =>
        refine iteT ⟨_, rfl, _, sT _ _ e1, ?_, fun c o e => ?_, ?_⟩
        · have z := opens_len F i
          rw [nV_len, sizeLine_eq]
          omega
        · rw [upd_ne (ne_of_none e nD)]
          exact sT _ _ (s1 _ _ e)
        · rw [upd_same, step]
          show some (HO.lst (nV _ ++ [V.int (i : Int)])) = some (HO.lst (nV (_ ++ [i])))
          unfold nV
          rw [List.map_append]
          rfl
    · rw [List.length_map] at e1
      exact ⟨D, _, rfl, .inl ⟨.inl (.inl e1), fun T nT => q T _ (s1.trans (same_new nT)) (s1.free nT) upd_same⟩⟩
def finLot : Circ → List Rd → List Rd → Hp → VK → Prop := fun C gv hv H Q => ∀ (r : Addr) (H' : Hp), Same H H' → H r = none → H' r = some (.tup (nV (opensF (sureF C.gates gv hv)))) → Q (.ref r) H'
theorem scCL : FnScope ["circuit", "given", "held"] ["circuit", "given", "held"] (defScope sClosedLot) := ⟨rfl, rfl, rfl, by decide +kernel, rfl, by decide +kernel, by decide +kernel⟩
theorem ok_closedLot {TT : List Addr} {f fC fL fU CC CG CH : Addr} {fd fdC fdL fdU : FuncData} (F : Fun K "closed_lot" "closed_lot" sClosedLot f fd)
    (GC : FnOk P w K mg base (L2.CX P w) 10 fC fdC ["circuit", "given", "held"] (spCheckCase K TT CC CG CH)) (kC : PySem.W.keepIn K (.ref fC) = true) (bC : Binds K fdC ["circuit", "given", "held"] []) (mC : mg "check_case" = some (.ref fC))
    (GL : FnOk P w K mg base CX0 4 fL fdL ["circuit", "given", "held"] (spSureL K)) (kL : PySem.W.keepIn K (.ref fL) = true) (bL : Binds K fdL ["circuit", "given", "held"] []) (mL : mg "sure_list" = some (.ref fL))
    (GU : FnOk P w K mg base CX0 1 fU fdU ["found"] (spUnsureA K)) (kU : PySem.W.keepIn K (.ref fU) = true) (bU : Binds K fdU ["found"] []) (mU : mg "unsure_among" = some (.ref fU)) :
    FnOk P w K mg base (L2.CX P w) 11 f fd ["circuit", "given", "held"] (spCased K TT CC CG CH finLot) := by
  refine F.okX scCL (fun vs H Q E h => ?_) (fun cdv A outer s H vs Q E hr h => ?_)
  · obtain ⟨y, x1, x2, rfl, h⟩ := h
    rfl
  · obtain ⟨y, x1, x2, rfl, h⟩ := h
    refine ⟨_, (pss_cons (ps_expr (pe_callS GC hr (by rfl) mC kC bC (passAt (takes_of rfl rfl rfl rfl)) (pa_cons (pv 0) (pa_cons (pv 1) (pa_cons (pv 2) pa_nil)))))
      (pss_one (ps_ret (pe_call GU (hr.mono (by decide)) (by rfl) mU kU bU .nil pass0 (pa_cons (pe_call GL (hr.mono (by decide)) (by rfl) mL kL bL .nil pass0 (pa_cons (pv 0) (pa_cons (pv 1) (pa_cons (pv 2) pa_nil)))) pa_nil))))), ?_⟩
    refine ⟨_, rfl, _, rfl, _, rfl, ?_⟩
    dsimp only [tNil]
    refine case_to (E := E) h fun C gv hv ga ha H1 e1 e2 hC ok fan l1 l2 sg sh fin => ?_
    subst e1 e2
    refine ⟨_, rfl, _, rfl, _, rfl, y, C, ga, ha, gv, hv, rfl, hC, ok, l1, l2, sg, sh, fan, fun r H2 s2 nr er => ?_⟩
    exact ⟨r, _, rfl, .inl (.inl er), by rw [sureF_len]; exact ok.ng, fun T H3 s3 nT eT => fin T H3 (s2.trans s3) (s2.free nT) eT⟩
def finOrder : Circ → List Rd → List Rd → Hp → VK → Prop := fun C gv hv H Q => ∀ (r : Addr) (us : List V) (H' : Hp), Same H H' → H r = none → H' r = some (.tup us) → AllAt PairAt H' us (lapsAll C.gates gv hv).flatten → Q (.ref r) H'
abbrev nSO : List Str := ["circuit", "given", "held", "lap", "pair"]
theorem scSO : FnScope nSO ["circuit", "given", "held"] (defScope sSureOrder) := ⟨rfl, rfl, rfl, by decide +kernel, rfl, by decide +kernel, by decide +kernel⟩
theorem ok_sureOrder {TT : List Addr} {f fC fL CC CG CH : Addr} {fd fdC fdL : FuncData} (F : Fun K "sure_order" "sure_order" sSureOrder f fd) (mtuple : mg "tuple" = none)
    (GC : FnOk P w K mg base (L2.CX P w) 10 fC fdC ["circuit", "given", "held"] (spCheckCase K TT CC CG CH)) (kC : PySem.W.keepIn K (.ref fC) = true) (bC : Binds K fdC ["circuit", "given", "held"] []) (mC : mg "check_case" = some (.ref fC))
    (GL : FnOk P w K mg base CX0 3 fL fdL ["circuit", "given", "held"] (spLaps K)) (kL : PySem.W.keepIn K (.ref fL) = true) (bL : Binds K fdL ["circuit", "given", "held"] []) (mL : mg "sure_laps" = some (.ref fL)) :
    FnOk P w K mg base (L2.CX P w) 11 f fd ["circuit", "given", "held"] (spCased K TT CC CG CH finOrder) := by
  refine F.okX scSO (fun vs H Q E h => ?_) (fun cdv A outer s H vs Q E hr h => ?_)
  · obtain ⟨y, x1, x2, rfl, h⟩ := h
    rfl
  · obtain ⟨y, x1, x2, rfl, h⟩ := h
    refine ⟨_, (pss_cons (ps_expr (pe_callS GC hr (by rfl) mC kC bC (passAt (takes_of rfl rfl rfl rfl)) (pa_cons (pv 0) (pa_cons (pv 1) (pa_cons (pv 2) pa_nil)))))
      (pss_one (ps_ret (pe_callTy call_tuple_of (by rfl) mtuple (by decide +kernel) (pa_cons (pe_lc2 (own := [("lap", 3), ("pair", 4)]) (vs1 := [4]) (g := gName 3) (g1 := gName 4) (wi1 := iList K _) (tt := tYes) (tt1 := tYes) rfl scSO.nd (pi_list (pe_call GL (hr.mono (by decide)) (by rfl) mL kL bL .nil pass0 (pa_cons (pv 0) (pa_cons (pv 1) (pa_cons (pv 2) pa_nil))))) (blkOk_by (N := nSO) (sc := defScope sSureOrder) (by decide +kernel)) (by decide) (fun _ _ _ _ _ => pg_name (i := 3) scSO.nd rfl (Or.inl rfl)) (fun _ _ _ _ _ => pts_nil) (fun _ _ _ _ _ => pi_list (pv 3)) (fun _ _ _ _ _ => pg_name (i := 4) scSO.nd rfl (Or.inl rfl)) (fun _ _ _ _ _ => pts_nil) (fun _ _ _ _ _ => pv 4)) pa_nil))))), ?_⟩
    refine ⟨_, rfl, _, rfl, _, rfl, ?_⟩
    dsimp only [tNil]
    refine case_to (E := E) h fun C gv hv ga ha H1 e1 e2 hC ok fan l1 l2 sg sh fin => ?_
    subst e1 e2
    refine ⟨_, rfl, _, rfl, _, rfl, y, C, ga, ha, gv, hv, rfl, hC, ok, l1, l2, sg, sh, fan, fun r us H2 s2 nr er hus => ?_⟩
    have lus : us.length = (lapsAll C.gates gv hv).length := Paired.length hus
    refine ⟨r, rfl, ⟨us, .inl (.inl er)⟩, fun D nD => ⟨fun i m Hc => m + i = us.length ∧ Same H2 Hc ∧ ∃ acc : List V, Hc D = some (.lst acc) ∧ AllAt PairAt Hc acc ((lapsAll C.gates gv hv).take i).flatten, ⟨us.length, rfl, same_new nD, [], upd_same, .nil⟩, fun i m Hc hW => ?_⟩⟩
    obtain ⟨em, sc, acc, eD, hacc⟩ := hW
    have sq : SqL K Hc r us := .inl (.inl (sc _ _ er))
    have lacc : acc.length = ((lapsAll C.gates gv hv).take i).flatten.length := Paired.length hacc
    by_cases hi : i < us.length
    · refine .inr ⟨⟨us, us[i], sq, List.getElem?_eq_getElem hi⟩, fun Hc' => Same H2 Hc' ∧ ∃ acc : List V, Hc' D = some (.lst acc) ∧ AllAt PairAt Hc' acc ((lapsAll C.gates gv hv).take (i + 1)).flatten, fun H' x => ⟨m - 1, by omega, by omega, x⟩, fun v H' hy => ?_⟩
      obtain ⟨rfl, hy⟩ := hy
      have ey := hy _ sq
      obtain ⟨lap, hlap, la, zs, rfl, nla, ela, hzs⟩ := all_get hus ey
      have nlD : la ≠ D := fun z => by
        rw [z, nD] at ela
        cases ela
      have step : ((lapsAll C.gates gv hv).take (i + 1)).flatten = ((lapsAll C.gates gv hv).take i).flatten ++ lap := by
        rw [take_snoc hlap, List.flatten_append, List.flatten_singleton]
      have lz : zs.length = lap.length := Paired.length hzs
      have big := laps_take C.gates gv hv (i + 1)
      rw [step, List.length_append] at big
      have k3 := ok.ng
      have sqr : C.gates.length * C.gates.length ≤ 2000 * 2000 := Nat.mul_le_mul k3 k3
      refine ⟨rfl, _, rfl, la, rfl, ⟨zs, .inl (.inl (sc _ _ ela))⟩, ?_⟩
      refine ⟨fun j k Hd => k + j = zs.length ∧ Same H2 Hd ∧ ∃ acc : List V, Hd D = some (.lst acc) ∧ AllAt PairAt Hd acc (((lapsAll C.gates gv hv).take i).flatten ++ lap.take j), ⟨zs.length, rfl, sc, acc, eD, by rw [List.take_zero, List.append_nil]; exact hacc⟩, fun j kk Hd hW => ?_⟩
      obtain ⟨em2, sd, acc2, eD2, hacc2⟩ := hW
      have lacc2 : acc2.length = (((lapsAll C.gates gv hv).take i).flatten ++ lap.take j).length := Paired.length hacc2
      rw [List.length_append, List.length_take] at lacc2
      have sq2 : SqL K Hd la zs := .inl (.inl (sd _ _ ela))
      by_cases hj : j < zs.length
      · refine .inr ⟨⟨zs, zs[j], sq2, List.getElem?_eq_getElem hj⟩, fun Hd' => Same H2 Hd' ∧ ∃ acc : List V, Hd' D = some (.lst acc) ∧ AllAt PairAt Hd' acc (((lapsAll C.gates gv hv).take i).flatten ++ lap.take (j + 1)), fun H' x => ⟨kk - 1, by omega, by omega, x⟩, fun v H' hy => ?_⟩
        obtain ⟨rfl, hy⟩ := hy
        have ey2 := hy _ sq2
        obtain ⟨p, hp, hpa⟩ := all_get hzs ey2
        have tu : TupKeep H' (L2.upd H' D (.lst (acc2 ++ [v]))) := TupKeep.upd eD2 fun xs z => by cases z
        refine ⟨rfl, _, rfl, _, eD2, ?_, fun c o e => ?_, acc2 ++ [v], upd_same, ?_⟩
        · rw [sizeLine_eq, lacc2]
          omega
        · rw [upd_ne (ne_of_none e nD)]
          exact sd _ _ e
        · rw [take_snoc hp, ← List.append_assoc]
          exact paired_snoc (all_ext (fun v x r => r.keep tu) hacc2) ((hpa.keep (.of sd)).keep tu)
      · refine .inl ⟨⟨zs, sq2, by omega⟩, sd, acc2, eD2, ?_⟩
        rw [step]
        rw [List.take_of_length_le (l := lap) (by omega)] at hacc2
        exact hacc2
    · refine .inl ⟨⟨us, sq, by omega⟩, D, _, rfl, .inl ⟨.inl (.inl eD), fun T nT => fin T acc _ (s2.trans (sc.trans (same_new nT))) ((s2.trans sc).free nT) upd_same ?_⟩⟩
      rw [List.take_of_length_le (by omega)] at hacc
      exact all_ext (fun v x r => r.keep (.of (same_new nT))) hacc
end
end K02

set_option Elab.async false
set_option linter.all false
set_option maxRecDepth 100000
set_option maxHeartbeats 2000000
/-! Orders, of any value. -/
namespace K02
open PySem PySem.Spec L2
open PyProof.Rows GenW GxR EZ TK
open LamX (ExtN)
abbrev sToldBy : Stmt := top 36 -- told_by
/-- what is known of the value of an item -/
abbrev Item : Type := String × List V
/-- the pair (gate, bit) that an item is -/
def pairOf (n : Nat) : Item → Option (Nat × Bool)
  | (t, [x, y]) => if (decide (t = "tuple") && bel x n && bel y 2) = true then (match x, y with | .int i, .int j => some (i.toNat, decide (j = 1)) | _, _ => none) else none
  | _ => none
/-- the readings that an order tells -/
def toldI (gs : List Gate) (gv hv : List Rd) : List Item → List Rd → Option (List Rd)
  | [], F => some F
  | p :: r, F => match pairOf gs.length p with
    | none => none
    | some (g, b) => if F.getD g none = none ∧ readG gs gv hv F g = some b then toldI gs gv hv r (F.set g (some b)) else none
theorem pair_some {n : Nat} {p : Item} {g : Nat} {b : Bool} (h : pairOf n p = some (g, b)) : p.1 = "tuple" ∧ p.2 = [.int (g : Int), bitV b] ∧ g < n := by
  obtain ⟨t, xs⟩ := p
  match xs, h with
  | [x, y], h =>
    have h : (if (decide (t = "tuple") && bel x n && bel y 2) = true then (match x, y with | .int i, .int j => some (i.toNat, decide (j = 1)) | _, _ => none) else none) = some (g, b) := h
    by_cases c : (decide (t = "tuple") && bel x n && bel y 2) = true
    · rw [if_pos c] at h
      simp only [Bool.and_eq_true, decide_eq_true_eq] at c
      obtain ⟨⟨ht, hx⟩, hy⟩ := c
      obtain ⟨b', rfl⟩ := bel_bit hy
      cases x with
      | int i =>
        unfold bel at hx
        simp only [Bool.and_eq_true, decide_eq_true_eq] at hx
        have h : some (i.toNat, decide (bitZ b' = 1)) = some (g, b) := h
        obtain ⟨h1, h2⟩ := Prod.mk.inj (Option.some.inj h)
        have hb : b' = b := by
          rw [← h2]
          cases b' <;> decide
        refine ⟨ht, ?_, by omega⟩
        rw [← h1, hb, Int.toNat_of_nonneg hx.1]
      | _ => cases hx
    · rw [if_neg c] at h
      cases h
theorem pair_none {n : Nat} {t : String} {xs : List V} (h : pairOf n (t, xs) = none) : (decide (t = "tuple") && decide ((xs.length : Int) = 2)) = false ∨ ∃ x y, t = "tuple" ∧ xs = [x, y] ∧ (bel x n = false ∨ bel y 2 = false) := by
  by_cases ht : t = "tuple"
  · match xs, h with
    | [x, y], h =>
      refine .inr ⟨x, y, ht, rfl, ?_⟩
      have h : (if (decide (t = "tuple") && bel x n && bel y 2) = true then (match x, y with | .int i, .int j => some (i.toNat, decide (j = 1)) | _, _ => none) else none) = (none : Option (Nat × Bool)) := h
      by_cases c : (decide (t = "tuple") && bel x n && bel y 2) = true
      · rw [if_pos c] at h
        simp only [Bool.and_eq_true, decide_eq_true_eq] at c
        obtain ⟨⟨_, hx⟩, hy⟩ := c
        obtain ⟨b', rfl⟩ := bel_bit hy
        cases x with
        | int i => cases h
        | _ => cases hx
      · cases hx : bel x n with
        | false => exact .inl rfl
        | true =>
          cases hy : bel y 2 with
          | false => exact .inr rfl
          | true =>
            exact absurd (by rw [decide_eq_true ht, hx, hy]; rfl) c
    | [], _ => exact .inl (by simp)
    | [_], _ => exact .inl (by simp)
    | _ :: _ :: _ :: _, _ => exact .inl (by simp; omega)
  · exact .inl (by rw [decide_eq_false ht]; rfl)
theorem scal_rdN (a b : Rd) : scal (rdV a) (rdV b) = true := by
  cases a <;> cases b <;> rfl
theorem rdV_injN {a b : Rd} (h : rdV a = rdV b) : a = b := by
  cases a with
  | none =>
    cases b with
    | none => rfl
    | some y => cases y <;> cases h
  | some x =>
    cases b with
    | none => cases x <;> cases h
    | some y => cases x <;> cases y <;> first | rfl | cases h
theorem pr_getN {α β : Type} {R : α → β → Prop} {a : List α} {x : List β} (h : Paired R a x) : ∀ {i : Nat} {y : α}, a[i]? = some y → ∃ rs, x[i]? = some rs ∧ R y rs := by
  induction h with
  | nil => exact fun e => by simp at e
  | cons r t ih =>
    intro i y e
    cases i with
    | zero =>
      cases e
      exact ⟨_, rfl, r⟩
    | succ i => exact ih e
section
variable {P : Program} {w : World} {K : PySem.W.Frag} {mg : Str → Option Value} {base : Heap}
/-- what is known of a value that may be an order -/
def OrderV (K : PySem.W.Frag) (H : Hp) (x : V) (t : String) (ys : List V) (items : List Item) : Prop := Ty1 K H x t ∧ TupV K H x t ys ∧ (t = "tuple" → Paired (fun y (p : Item) => ItemsV K H y p.1 p.2) ys items)
def toldBy (C : Circ) (gv hv : List Rd) (t : String) (items : List Item) : Option (List Rd) := if t = "tuple" then toldI C.gates gv hv items (List.replicate C.gates.length none) else none
def spTold (K : PySem.W.Frag) : Sp := fun vs H Q _ => ∃ (y x : V) (C : Circ) (ga ha : Addr) (gv hv : List Rd) (t : String) (ys : List V) (items : List Item), vs = [y, .ref ga, .ref ha, x] ∧ CircAt H y C ∧ C.ok ∧ gv.length = C.ni ∧ hv.length = C.regs.length ∧ SqT K H ga (gv.map rdV) ∧ SqT K H ha (hv.map rdV) ∧ OrderV K H x t ys items ∧
  (toldBy C gv hv t items = none → ∀ H', Same H H' → Q .non H') ∧ (∀ (F : List Rd) (r : Addr) (H' : Hp), toldBy C gv hv t items = some F → Same H H' → H r = none → H' r = some (.lst (F.map rdV)) → Q (.ref r) H')
abbrev nTB : List Str := ["circuit", "given", "held", "order", "gates", "found", "pair", "gate", "bit"]
theorem scTB : FnScope nTB ["circuit", "given", "held", "order"] (defScope sToldBy) := ⟨rfl, rfl, rfl, by decide +kernel, rfl, by decide +kernel, by decide +kernel⟩
theorem ok_toldBy {f fT fL fB fN : Addr} {fd fdT fdL fdB fdN : FuncData} (F : Fun K "told_by" "told_by" sToldBy f fd) (mi : mg "isinstance" = none) (mtuple : mg "tuple" = none) (mlen : mg "len" = none)
    (GT : FnOk P w K mg base CX0 1 fT fdT ["thing", "many"] (spTupleOf K)) (kT : PySem.W.keepIn K (.ref fT) = true) (bT : Binds K fdT ["thing", "many"] []) (mT : mg "is_tuple_of" = some (.ref fT))
    (GL : FnOk P w K mg base CX0 2 fL fdL ["thing", "limit"] (spBelow K)) (kL : PySem.W.keepIn K (.ref fL) = true) (bL : Binds K fdL ["thing", "limit"] []) (mL : mg "is_below" = some (.ref fL))
    (GB : FnOk P w K mg base CX0 3 fB fdB ["thing"] (spBit K)) (kB : PySem.W.keepIn K (.ref fB) = true) (bB : Binds K fdB ["thing"] []) (mB : mg "is_bit" = some (.ref fB))
    (GN : FnOk P w K mg base CX0 2 fN fdN ["circuit", "gate", "given", "held", "gates"] (spGateNow K)) (kN : PySem.W.keepIn K (.ref fN) = true) (bN : Binds K fdN ["circuit", "gate", "given", "held", "gates"] []) (mN : mg "gate_now" = some (.ref fN)) :
    FnOk P w K mg base CX0 4 f fd ["circuit", "given", "held", "order"] (spTold K) := by
  refine F.ok scTB (fun vs H Q E h => ?_) (fun cdv A outer s H vs Q E hr h => ?_)
  · obtain ⟨y, x, C, ga, ha, gv, hv, t, ys, items, rfl, _⟩ := h
    rfl
  · obtain ⟨y, x, C, ga, ha, gv, hv, t, ys, items, rfl, hC, ok, lgv, lhv, hg, hh, ⟨hty, htv, hit⟩, qn, qs⟩ := h
    refine ⟨_, (pss_cons (ps_set (i := 4) scTB.nd rfl (Or.inl rfl) (pe_ix (r := rIxT K) ix_tup (pv 0) pe_int (fun _ _ => rfl)))
      (pss_cons (ps_if (pt_not (pt_val (pe_callB call_isi (by rfl) mi (by decide +kernel) (pa_cons (pv 3) (pa_cons (pe_bltn (v := .ty "tuple") (u := .type "tuple") (by rfl) mtuple (by decide +kernel) rfl) pa_nil))))) (pss_one (ps_ret pe_non)) pss_nil)
      (pss_cons (ps_set (i := 5) scTB.nd rfl (Or.inl rfl) (pe_op op_rep (pe_lst (pa_cons pe_non pa_nil)) (pe_callB call_len_seq (by rfl) mlen PySem.boot_len (pa_cons (pv 4) pa_nil))))
      (pss_cons (ps_for PassesOwn.never rfl (pi_tup (pv 3)) (pg_name (i := 6) scTB.nd rfl (Or.inl rfl))
        (pss_cons (ps_if (pw_or (pt_not (pt_val (pe_call GT (hr.mono (by decide)) (by rfl) mT kT bT .nil pass0 (pa_cons (pv 6) (pa_cons pe_int pa_nil))))) (pw_or (pt_not (pt_val (pe_call GL (hr.mono (by decide)) (by rfl) mL kL bL .nil pass0 (pa_cons (pe_ix (r := rIxT K) ix_tup (pv 6) pe_int (fun _ _ => rfl)) (pa_cons (pe_callB call_len_seq (by rfl) mlen PySem.boot_len (pa_cons (pv 4) pa_nil)) pa_nil))))) (pw_or1 (pt_not (pt_val (pe_call GB (hr.mono (by decide)) (by rfl) mB kB bB .nil pass0 (pa_cons (pe_ix (r := rIxT K) ix_tup (pv 6) pe_int (fun _ _ => rfl)) pa_nil))))))).pt (pss_one (ps_ret pe_non)) pss_nil)
        (pss_cons (ps_asg (pv 6) (pg_tup rfl (pgs_cons (pg_name (i := 7) scTB.nd rfl (Or.inl rfl)) (pgs_cons (pg_name (i := 8) scTB.nd rfl (Or.inl rfl)) pgs_nil))))
        (pss_cons (ps_if (pw_or (pt_cmpR op_notN (pe_ix (r := rIxL K) ix_list (pv 5) (pv 7) (fun _ _ => rfl)) pe_non (nomark _)) (pw_or1 (pt_cmpR op_ne (pe_call GN (hr.mono (by decide)) (by rfl) mN kN bN .nil pass0 (pa_cons (pv 0) (pa_cons (pv 7) (pa_cons (pv 1) (pa_cons (pv 2) (pa_cons (pv 5) pa_nil)))))) (pv 8) (nomark _)))).pt (pss_one (ps_ret pe_non)) pss_nil)
        (pss_one (ps_asg (pv 8) (pg_sub (pv 5) (pv 7) set_list)))))))
      (pss_one (ps_ret (pv 5))))))), ?_⟩
    obtain ⟨ct, ra, gaa, oa, rs, gs, os, rfl, et, er, eg, eo, hrs, hgs, hos⟩ := id hC
    have lgs : gs.length = C.gates.length := Paired.length hgs
    have k3 := ok.ng
    refine ⟨_, rfl, ct, _, 2, .ref gaa, rfl, rfl, .inl (.inl et), rfl, ?_⟩
    by_cases ht : t = "tuple"
    · subst ht
      obtain ⟨a, rfl, sq⟩ := htv rfl
      have hit := hit rfl
      have hby : toldBy C gv hv "tuple" items = toldI C.gates gv hv items (List.replicate C.gates.length none) := if_pos rfl
      rw [hby] at qn
      have qs := fun F r H' => (by rw [← hby]; exact qs F r H' : toldI C.gates gv hv items (List.replicate C.gates.length none) = some F → Same H H' → H r = none → H' r = some (.lst (F.map rdV)) → Q (.ref r) H')
      refine ⟨_, rfl, .ref a, .ty "tuple", _, _, _, rfl, .ty "tuple", hty.ty, kit_of1 hty.mem (by decide), _, rfl, ?_⟩
      have e0 : kitR "tuple" "tuple" = true := by decide
      rw [e0]
      refine iteF ?_
      refine ⟨(by show 1 ≤ sizeLine; decide), fun p np => ⟨_, rfl, gaa, gs, rfl, .inr (.inl (.inl (same_new np _ _ eg))), p, _, [V.non], rfl, rfl, upd_same, by omega, by omega, ?_, fun fa nfa => ?_⟩⟩
      · rw [sizeLine_eq]
        show 1 * ((gs.length : Int)).toNat ≤ _
        omega
      have n1p : Same H (L2.upd H p (.lst [V.non])) := same_new np
      generalize L2.upd H p (.lst [V.non]) = Hp1 at nfa n1p
      have e2 : (L2.upd Hp1 fa (.lst (List.replicate ((gs.length : Int)).toNat [V.non]).flatten)) fa = some (.lst ((List.replicate C.gates.length (none : Rd)).map rdV)) := by
        rw [upd_same, Int.toNat_natCast, lgs, rep_none]
      have s12 : Same H (L2.upd Hp1 fa (.lst (List.replicate ((gs.length : Int)).toNat [V.non]).flatten)) := n1p.trans (same_new nfa)
      have n1fa : H fa = none := n1p.free nfa
      generalize L2.upd Hp1 fa (.lst (List.replicate ((gs.length : Int)).toNat [V.non]).flatten) = H2 at e2 s12
      clear n1p nfa np
      have seqT : ∀ Hx, Same H Hx → SqT K Hx a ys := fun Hx s => extN_seqT (extN_same s) sq
      refine ⟨_, rfl, a, rfl, ⟨ys, seqT _ s12⟩, ?_⟩
      refine for_it (walk_tup (xs := ys)) (fun i σ Hx => ∃ (y6 y7 y8 : Option V) (F : List Rd), σ = [some (.ref ct), some (.ref ga), some (.ref ha), some (.ref a), some (.ref gaa), some (.ref fa), y6, y7, y8] ∧ Same H Hx ∧ Hx fa = some (.lst (F.map rdV)) ∧ F.length = C.gates.length ∧
          toldI C.gates gv hv items (List.replicate C.gates.length none) = toldI C.gates gv hv (items.drop i) F)
        ⟨_, _, _, _, rfl, s12, e2, List.length_replicate, rfl⟩ (fun i σ Hx _ hh => ?_) (fun i v σ Hx Hx' hi hh hy => ?_) (fun σ Hx hh => ?_)
      · obtain ⟨_, _, _, _, _, s, _⟩ := hh
        exact seqT _ s
      · obtain ⟨y6, y7, y8, F, rfl, sx, efa, lF, heq⟩ := hh
        obtain ⟨rfl, hv1⟩ := hy
        have hv1 : ys[i]? = some v := hv1
        obtain ⟨pp, hp, hI⟩ := pr_getN hit hv1
        have hIx := hI.ext (extN_same sx)
        have hdrop : items.drop i = pp :: items.drop (i + 1) := by
          obtain ⟨hh1, hh2⟩ := List.getElem?_eq_some_iff.mp hp
          rw [← hh2]
          exact List.drop_eq_getElem_cons hh1
        rw [hdrop] at heq
        obtain ⟨t, xs⟩ := pp
        refine ⟨_, rfl, v, t, xs, 2, rfl, hIx.1, hIx.2.1, _, rfl, ?_⟩
        cases hpo : pairOf C.gates.length (t, xs) with
        | none =>
          have hn : toldI C.gates gv hv ((t, xs) :: items.drop (i + 1)) F = none := by
            unfold toldI
            rw [hpo]
          rw [hn] at heq
          have out := qn heq _ sx
          rcases pair_none hpo with b0 | ⟨x1, x2, ht1, hxs, hb⟩
          · rw [b0]
            exact iteT (iteT out)
          · subst ht1 hxs
            obtain ⟨tp, rfl, sp⟩ := hIx.2.1 rfl
            obtain ⟨tx1, hx1⟩ := hIx.2.2 rfl x1 (by simp)
            obtain ⟨tx2, hx2⟩ := hIx.2.2 rfl x2 (by simp)
            refine iteF ?_
            refine ⟨_, rfl, tp, _, 0, x1, rfl, rfl, sp, rfl, _, rfl, gaa, gs, rfl, .inr (.inl (.inl (sx _ _ eg))), x1, tx1, (gs.length : Int), rfl, hx1, _, rfl, ?_⟩
            rw [lgs]
            cases h1 : bel x1 (C.gates.length : Int) with
            | false => exact iteT (iteT out)
            | true =>
              have h2 : bel x2 2 = false := by
                rcases hb with z | z
                · rw [h1] at z
                  cases z
                · exact z
              refine iteF ⟨_, rfl, tp, _, 1, x2, rfl, rfl, sp, rfl, x2, tx2, rfl, hx2, _, rfl, ?_⟩
              rw [h2]
              exact iteT out
        | some gb =>
          obtain ⟨g, b⟩ := gb
          obtain ⟨ht1, hxs, hgl⟩ := pair_some hpo
          have ht1 : t = "tuple" := ht1
          have hxs : xs = [.int (g : Int), bitV b] := hxs
          subst ht1 hxs
          obtain ⟨tp, rfl, sp⟩ := hIx.2.1 rfl
          have hs : toldI C.gates gv hv (("tuple", [.int (g : Int), bitV b]) :: items.drop (i + 1)) F = if F.getD g none = none ∧ readG C.gates gv hv F g = some b then toldI C.gates gv hv (items.drop (i + 1)) (F.set g (some b)) else none := by
            show (match pairOf C.gates.length ("tuple", [.int (g : Int), bitV b]) with | none => none | some (g, b) => _) = _
            rw [hpo]
          rw [hs] at heq
          refine iteF ?_
          have hbg : bel (.int (g : Int)) (C.gates.length : Int) = true := bel_nat hgl
          refine ⟨_, rfl, tp, _, 0, .int (g : Int), rfl, rfl, sp, rfl, _, rfl, gaa, gs, rfl, .inr (.inl (.inl (sx _ _ eg))), .int (g : Int), "int", (gs.length : Int), rfl, ty_int _, _, rfl, ?_⟩
          rw [lgs, hbg]
          refine iteF ⟨_, rfl, tp, _, 1, bitV b, rfl, rfl, sp, rfl, bitV b, "int", rfl, ty_int _, _, rfl, ?_⟩
          rw [bel_bitV]
          refine iteF ?_
          refine ⟨_, rfl, tp, _, rfl, sp, rfl, _, _, rfl, _, _, rfl, rfl, ?_⟩
          have hgt : C.gates[g]? = some C.gates[g] := List.getElem?_eq_getElem hgl
          have hre : readG C.gates gv hv F g = gateV gv hv F C.gates[g] := by
            unfold readG
            rw [hgt]
          have gok := ok.gates _ (List.getElem_mem hgl)
          refine ⟨_, rfl, _, rfl, fa, _, (g : Int), _, rfl, rfl, .inl (.inl efa), at_rd (by rw [lF]; exact hgl), rfl, _, rfl, ?_⟩
          cases eF : F.getD g none with
          | some b' =>
            have n : decide (rdV (some b') = V.non) = false := by cases b' <;> rfl
            rw [n]
            rw [eF, if_neg (fun z => by cases z.1)] at heq
            exact iteT (iteT (qn heq _ sx))
          | none =>
            refine iteF ⟨_, rfl, _, rfl, _, rfl, _, rfl, _, rfl, .ref ct, C, g, C.gates[g], ga, ha, fa, gv, hv, F, rfl, hC.ext (extN_same sx), hgt, by rw [lgv, lhv, lF]; exact gok, extN_seqT (extN_same sx) hg, extN_seqT (extN_same sx) hh, efa, fun H3 s3 => ⟨_, rfl, scal_rdN _ (some b), _, rfl, ?_⟩⟩
            rw [← hre]
            by_cases c : readG C.gates gv hv F g = some b
            · rw [eF, if_pos ⟨rfl, c⟩] at heq
              have e1 : (!decide (rdV (readG C.gates gv hv F g) = bitV b)) = false := by
                rw [c]
                simp [rdV]
              rw [e1]
              have ixn : ixN (F.map rdV).length (g : Int) = some g := by
                unfold ixN
                rw [List.length_map, lF, if_pos (Int.natCast_nonneg g), if_pos (by omega)]
                rfl
              refine iteF ⟨_, rfl, _, rfl, _, rfl, fa, _, (g : Int), g, rfl, rfl, s3 _ _ efa, ixn, _, _, _, F.set g (some b), rfl, fun b' o e => ?_, ?_, by rw [List.length_set, lF], heq⟩
              · rw [upd_ne (ne_of_none e n1fa)]
                exact s3 _ _ (sx _ _ e)
              · rw [upd_same, List.map_set]
                rfl
            · rw [eF, if_neg (fun z => c z.2)] at heq
              have e1 : (!decide (rdV (readG C.gates gv hv F g) = bitV b)) = true := by
                have z : ¬ rdV (readG C.gates gv hv F g) = bitV b := fun z => c (rdV_injN (b := some b) z)
                rw [decide_eq_false z]
                rfl
              rw [e1]
              exact iteT (qn heq _ (sx.trans s3))
      · obtain ⟨y6, y7, y8, F, rfl, sx, efa, lF, heq⟩ := hh
        have li : items.length = ys.length := (Paired.length hit).symm
        rw [← li, List.drop_length] at heq
        exact ⟨_, rfl, qs F fa Hx heq sx n1fa efa⟩
    · have e0 : kitR t "tuple" = false := by
        unfold kitR
        rw [decide_eq_false ht]
        simp
      refine ⟨_, rfl, x, .ty "tuple", _, _, _, rfl, .ty "tuple", hty.ty, kit_of1 hty.mem (by decide), _, rfl, ?_⟩
      rw [e0]
      exact iteT (qn (if_neg ht) H fun _ _ e => e)
end
end K02

set_option Elab.async false
set_option linter.all false
set_option maxRecDepth 100000
set_option maxHeartbeats 2000000
/-! is_order, is_numbers. -/
namespace K02
open PySem PySem.Spec L2
open PyProof.Rows GenW GxR EZ TK
open LamX (ExtN)
abbrev sIsOrder : Stmt := top 37 -- is_order
abbrev sIsNumbers : Stmt := top 8 -- is_numbers
def isI : V → Bool
  | .int _ => true
  | _ => false
theorem isI_ty {K : PySem.W.Frag} {H : Hp} {y : V} {ty : String} (h : Ty1 K H y ty) : isI y = decide (ty = "int") := by
  by_cases e : ty = "int"
  · subst e
    obtain ⟨i, rfl⟩ := h.int
    rfl
  · rw [decide_eq_false e]
    cases y with
    | int i =>
      exfalso
      obtain ⟨hb, hm⟩ := h
      cases hb with
      | base b =>
        cases b
        exact e rfl
    | _ => rfl
section
variable {P : Program} {w : World} {K : PySem.W.Frag} {mg : Str → Option Value} {base : Heap}
/-- a def that first checks its case, and takes more values -/
def spCasedX (K : PySem.W.Frag) (TT : List Addr) (CC CG CH : Addr) (n : Nat) (fin : Circ → List Rd → List Rd → List V → Hp → VK → Prop) : Sp := fun vs H Q E => ∃ (y x1 x2 : V) (zs : List V), vs = y :: x1 :: x2 :: zs ∧ zs.length = n ∧ ((Odd4 K H y ∧ E (.ref CC) none H) ∨ (∃ (C : Circ) (t1 t2 : String) (xs1 xs2 : List V), CircAt H y C ∧ C.ok ∧ fanG C.gates ≤ 4000 ∧ TabsG TT H ∧ ItemsV K H x1 t1 xs1 ∧ ItemsV K H x2 t2 xs2 ∧
  (okRd t1 xs1 C.ni = false → ∀ H', Ex TT H H' → E (.ref CG) none H') ∧ (okRd t1 xs1 C.ni = true → okRd t2 xs2 C.regs.length = false → ∀ H', Ex TT H H' → E (.ref CH) none H') ∧
  (∀ (gv hv : List Rd) H', t1 = "tuple" → t2 = "tuple" → xs1 = gv.map rdV → xs2 = hv.map rdV → gv.length = C.ni → hv.length = C.regs.length → Ex TT H H' → fin C gv hv zs H' Q)))
def finIsO (K : PySem.W.Frag) : Circ → List Rd → List Rd → List V → Hp → VK → Prop := fun C gv hv zs H Q => ∃ (x : V) (t : String) (ys : List V) (items : List Item), zs = [x] ∧ OrderV K H x t ys items ∧ ∀ H', Same H H' → Q (.bl (toldBy C gv hv t items).isSome) H'
theorem scIsO : FnScope ["circuit", "given", "held", "thing"] ["circuit", "given", "held", "thing"] (defScope sIsOrder) := ⟨rfl, rfl, rfl, by decide +kernel, rfl, by decide +kernel, by decide +kernel⟩
theorem ok_isOrder {TT : List Addr} {f fC fT CC CG CH : Addr} {fd fdC fdT : FuncData} (F : Fun K "is_order" "is_order" sIsOrder f fd)
    (GC : FnOk P w K mg base (L2.CX P w) 10 fC fdC ["circuit", "given", "held"] (spCheckCase K TT CC CG CH)) (kC : PySem.W.keepIn K (.ref fC) = true) (bC : Binds K fdC ["circuit", "given", "held"] []) (mC : mg "check_case" = some (.ref fC))
    (GT : FnOk P w K mg base CX0 4 fT fdT ["circuit", "given", "held", "order"] (spTold K)) (kT : PySem.W.keepIn K (.ref fT) = true) (bT : Binds K fdT ["circuit", "given", "held", "order"] []) (mT : mg "told_by" = some (.ref fT)) :
    FnOk P w K mg base (L2.CX P w) 11 f fd ["circuit", "given", "held", "thing"] (spCasedX K TT CC CG CH 1 (finIsO K)) := by
  refine F.okX scIsO (fun vs H Q E h => ?_) (fun cdv A outer s H vs Q E hr h => ?_)
  · obtain ⟨y, x1, x2, zs, rfl, l, h⟩ := h
    simp [l]
  · obtain ⟨y, x1, x2, zs, rfl, l, h⟩ := h
    obtain ⟨z, rfl⟩ : ∃ z, zs = [z] := by
      match zs, l with
      | [z], _ => exact ⟨z, rfl⟩
    refine ⟨_, (pss_cons (ps_expr (pe_callS GC hr (by rfl) mC kC bC (passAt (takes_of rfl rfl rfl rfl)) (pa_cons (pv 0) (pa_cons (pv 1) (pa_cons (pv 2) pa_nil)))))
      (pss_one (ps_ret (pe_cmpR op_notN (pe_call GT (hr.mono (by decide)) (by rfl) mT kT bT .nil pass0 (pa_cons (pv 0) (pa_cons (pv 1) (pa_cons (pv 2) (pa_cons (pv 3) pa_nil))))) pe_non (nomark _))))), ?_⟩
    refine ⟨_, rfl, _, rfl, _, rfl, ?_⟩
    dsimp only [tNil]
    refine case_to (E := E) (fin := fun C gv hv H Q => finIsO K C gv hv [z] H Q) h fun C gv hv ga ha H1 e1 e2 hC ok fan l1 l2 sg sh fin => ?_
    subst e1 e2
    obtain ⟨x, t, ys, items, ez, ov, q⟩ := fin
    cases ez
    refine ⟨_, rfl, _, rfl, _, rfl, _, rfl, y, z, C, ga, ha, gv, hv, t, ys, items, rfl, hC, ok, l1, l2, sg, sh, ov, fun e H' s => ?_, fun F r H' e s nr er => ?_⟩
    · refine ⟨rfl, ?_⟩
      have z := q H' s
      rw [e] at z
      exact z
    · refine ⟨rfl, ?_⟩
      have z := q H' s
      rw [e] at z
      exact z
def spNums (K : PySem.W.Frag) (TT : List Addr) : Sp := fun vs H Q _ => ∃ (x : V) (t : String) (xs : List V), vs = [x] ∧ Ty1 K H x t ∧ TupV K H x t xs ∧ (t = "tuple" → ∀ y ∈ xs, ∃ ty, Ty1 K H y ty) ∧ TabsG TT H ∧ ∀ H', Ex TT H H' → Q (.bl (decide (t = "tuple") && xs.all fun y => isI y)) H'
theorem scNums : FnScope ["thing", "item"] ["thing"] (defScope sIsNumbers) := ⟨rfl, rfl, rfl, by decide +kernel, rfl, by decide +kernel, by decide +kernel⟩
theorem ok_numbers {TT : List Addr} {f fN c T : Addr} {fd fdN : FuncData} (F : Fun K "is_numbers" "is_numbers" sIsNumbers f fd) (hc : fd.code = .ref c) (TB : TabB base mg c T) (hTT : T ∈ TT) (mall : mg "all" = none) (mi : mg "isinstance" = none) (mtuple : mg "tuple" = none)
    (GN : FnOk P w K mg base CX0 1 fN fdN ["thing"] (spNumber K)) (kN : PySem.W.keepIn K (.ref fN) = true) (bN : Binds K fdN ["thing"] []) (mN : mg "is_number" = some (.ref fN)) :
    FnOk P w K mg base CX0 3 f fd ["thing"] (spNums K TT) := by
  refine okC F hc scNums (fun vs H Q E h => ?_) (fun A outer s H vs Q E hr h => ?_)
  · obtain ⟨x, t, xs, rfl, _⟩ := h
    rfl
  · obtain ⟨x, t, xs, rfl, ht, hx, hys, hT, q⟩ := h
    refine ⟨_, (pss_one (ps_ret (pe_and (pe_callB call_isi (by rfl) mi (by decide +kernel) (pa_cons (pv 0) (pa_cons (pe_bltn (v := .ty "tuple") (u := .type "tuple") (by rfl) mtuple (by decide +kernel) rfl) pa_nil))) (pe_one (GX.pe_all (own := [("item", 1)]) (k := 1) hr (by rfl) mall TB rfl rfl scNums.nd (pi_tup (pv 0)) (blkOk_by (N := ["thing", "item"]) (sc := defScope sIsNumbers) (by decide +kernel)) (GX.genNames_by (by decide +kernel)) (fun _ _ _ _ _ _ _ => pg_name (i := 1) scNums.nd rfl (Or.inl rfl)) (fun _ _ _ _ _ _ _ _ => pts_nil) (fun _ _ _ _ _ _ _ hr2 => pe_call GN hr2 (by rfl) mN kN bN .nil pass0 (pa_cons (pv 1) pa_nil))))))), ?_⟩
    refine ⟨_, rfl, x, .ty "tuple", _, _, _, rfl, .ty "tuple", ht.ty, kit_of1 ht.mem (by decide), _, rfl, ?_⟩
    by_cases h1 : t = "tuple"
    · obtain ⟨a, rfl, hS⟩ := hx h1
      subst h1
      have e0 : kitR "tuple" "tuple" = true := by decide
      rw [e0]
      have q2 : ∀ H', Ex TT H H' → Q (.bl (xs.all fun y => isI y)) H' := fun H' e1 => by
        have z := q H' e1
        rw [decide_eq_true rfl, Bool.true_and] at z
        exact z
      have hys := hys rfl
      refine iteT ⟨_, rfl, a, rfl, ⟨_, hS⟩, hT T hTT, fun H2 hT2 => ⟨fun i m H3 => m + i = xs.length ∧ Ex TT H H3 ∧ ((xs.take i).all fun y => isI y) = true, ⟨xs.length, rfl, Ex.tabbed hTT hT2, rfl⟩, fun i m H3 hW => ?_⟩⟩
      obtain ⟨em, x3, ha⟩ := hW
      have e3 := x3.extN hT
      by_cases hi : i < xs.length
      · refine .inr ⟨⟨xs, xs[i], extN_seqT e3 hS, List.getElem?_eq_getElem hi⟩, fun H4 => Ex TT H H4 ∧ ((xs.take (i + 1)).all fun y => isI y) = true, fun H4 ⟨x4, a4⟩ => ⟨m - 1, by omega, by omega, x4, a4⟩, fun y H4 hy => ?_⟩
        obtain ⟨rfl, hy⟩ := hy
        have ey := hy _ (extN_seqT e3 hS)
        obtain ⟨ty, hty⟩ := hys y (List.mem_of_getElem? ey)
        refine ⟨rfl, _, rfl, y, ty, rfl, hty.ext e3, _, rfl, fun hc => ?_, fun hc => ⟨x3, ?_⟩⟩
        · have z := q2 H4 x3
          have e : (xs.all fun y => isI y) = false := by
            rw [Bool.eq_false_iff]
            intro z2
            have z3 := List.all_eq_true.mp z2 y (List.mem_of_getElem? ey)
            rw [← isI_ty hty] at hc
            rw [hc] at z3
            cases z3
          rw [e] at z
          exact z
        · rw [take_snoc ey, List.all_append, ha]
          rw [← isI_ty hty] at hc
          cases h : isI y with
          | true => simp [h]
          | false => exact absurd h hc
      · have z := q2 H3 x3
        rw [List.take_of_length_le (by omega)] at ha
        rw [ha] at z
        exact .inl ⟨⟨xs, extN_seqT e3 hS, by omega⟩, z⟩
    · have e0 : kitR t "tuple" = false := by
        unfold kitR
        rw [decide_eq_false h1]
        simp
      rw [e0]
      have z := q H (Ex.refl _ _)
      rw [decide_eq_false h1, Bool.false_and] at z
      exact iteF z
end
end K02

set_option Elab.async false
set_option linter.all false
set_option maxRecDepth 100000
set_option maxHeartbeats 2000000
/-! What a def that checks its case makes of it (also one with more parameters). -/
namespace K02
open PySem PySem.Spec L2
open PyProof.Rows GenW GxR EZ TK CE LamX
section
variable {K : PySem.W.Frag}
theorem okRd_of (l : List Rd) {n : Nat} (e : l.length = n) : okRd "tuple" (l.map rdV) n = true := by
  unfold okRd
  rw [List.length_map, e, decide_eq_true rfl, decide_eq_true rfl, List.all_eq_true.mpr fun y hy => by
    obtain ⟨r, _, rfl⟩ := List.mem_map.mp hy
    exact rdB_rdV r]
  rfl
theorem items_rds {H : Hp} {a : Addr} {l : List Rd} (e : H a = some (.tup (l.map rdV))) : ItemsV K H (.ref a) "tuple" (l.map rdV) := ⟨ty_tup e, fun _ => ⟨a, rfl, .inl (.inl e)⟩, fun _ y hy => by
  obtain ⟨r, _, rfl⟩ := List.mem_map.mp hy
  exact ty_rd r⟩
theorem rds_inj {a b : List Rd} (h : a.map rdV = b.map rdV) : a = b := (List.map_inj_right fun _ _ => rdV_injN).mp h
variable {TT : List Addr} {CC CG CH : Addr} {H : Hp} {y x1 x2 : V} {C : Circ} {Q : VK} {E : XK} {ga ha : Addr} {gv hv : List Rd} {n : Nat} {zs : List V}
section
variable {fin : Circ → List Rd → List Rd → Hp → VK → Prop}
theorem cased_ok (hC : CircAt H y C) (ok : C.ok) (fan : fanG C.gates ≤ 4000) (hT : TabsG TT H) (hg : H ga = some (.tup (gv.map rdV))) (hh : H ha = some (.tup (hv.map rdV))) (lg : gv.length = C.ni) (lh : hv.length = C.regs.length) (q : ∀ H', Ex TT H H' → fin C gv hv H' Q) : spCased K TT CC CG CH fin [y, .ref ga, .ref ha] H Q E := by
  refine ⟨y, .ref ga, .ref ha, rfl, .inr ⟨C, "tuple", "tuple", gv.map rdV, hv.map rdV, hC, ok, fan, hT, items_rds hg, items_rds hh, fun z => ?_, fun _ z => ?_, fun gv' hv' H' _ _ e1 e2 _ _ x => ?_⟩⟩
  · rw [okRd_of _ lg] at z
    cases z
  · rw [okRd_of _ lh] at z
    cases z
  · rw [← rds_inj e1, ← rds_inj e2]
    exact q H' x
theorem cased_odd (o : Odd4 K H y) (e : E (.ref CC) none H) : spCased K TT CC CG CH fin [y, x1, x2] H Q E := ⟨y, x1, x2, rfl, .inl ⟨o, e⟩⟩
theorem cased_bad1 (hC : CircAt H y C) (ok : C.ok) (fan : fanG C.gates ≤ 4000) (hT : TabsG TT H) (h1 : ∃ t xs, ItemsV K H x1 t xs ∧ okRd t xs C.ni = false) (h2 : ∃ t xs, ItemsV K H x2 t xs ∧ okRd t xs C.regs.length = false) (e : ∀ H', Ex TT H H' → E (.ref CG) none H') : spCased K TT CC CG CH fin [y, x1, x2] H Q E := by
  obtain ⟨t1, xs1, i1, o1⟩ := h1
  obtain ⟨t2, xs2, i2, o2⟩ := h2
  refine ⟨y, x1, x2, rfl, .inr ⟨C, t1, t2, xs1, xs2, hC, ok, fan, hT, i1, i2, fun _ => e, fun z => ?_, fun gv hv H' e1 e2 e3 e4 l1 l2 => ?_⟩⟩
  · rw [o1] at z
    cases z
  · rw [e1, e3, okRd_of gv l1] at o1
    cases o1
theorem cased_bad2 (hC : CircAt H y C) (ok : C.ok) (fan : fanG C.gates ≤ 4000) (hT : TabsG TT H) (hg : H ga = some (.tup (gv.map rdV))) (lg : gv.length = C.ni) (h2 : ∃ t xs, ItemsV K H x2 t xs ∧ okRd t xs C.regs.length = false) (e : ∀ H', Ex TT H H' → E (.ref CH) none H') : spCased K TT CC CG CH fin [y, .ref ga, x2] H Q E := by
  obtain ⟨t2, xs2, i2, o2⟩ := h2
  refine ⟨y, .ref ga, x2, rfl, .inr ⟨C, "tuple", t2, gv.map rdV, xs2, hC, ok, fan, hT, items_rds hg, i2, fun z => ?_, fun _ _ => e, fun gv' hv H' e1 e2 e3 e4 l1 l2 => ?_⟩⟩
  · rw [okRd_of gv lg] at z
    cases z
  · rw [e2, e4, okRd_of hv l2] at o2
    cases o2
end
section
variable {fin : Circ → List Rd → List Rd → List V → Hp → VK → Prop}
theorem casedX_ok (lz : zs.length = n) (hC : CircAt H y C) (ok : C.ok) (fan : fanG C.gates ≤ 4000) (hT : TabsG TT H) (hg : H ga = some (.tup (gv.map rdV))) (hh : H ha = some (.tup (hv.map rdV))) (lg : gv.length = C.ni) (lh : hv.length = C.regs.length) (q : ∀ H', Ex TT H H' → fin C gv hv zs H' Q) : spCasedX K TT CC CG CH n fin (y :: .ref ga :: .ref ha :: zs) H Q E := by
  refine ⟨y, .ref ga, .ref ha, zs, rfl, lz, .inr ⟨C, "tuple", "tuple", gv.map rdV, hv.map rdV, hC, ok, fan, hT, items_rds hg, items_rds hh, fun z => ?_, fun _ z => ?_, fun gv' hv' H' _ _ e1 e2 _ _ x => ?_⟩⟩
  · rw [okRd_of _ lg] at z
    cases z
  · rw [okRd_of _ lh] at z
    cases z
  · rw [← rds_inj e1, ← rds_inj e2]
    exact q H' x
theorem casedX_odd (lz : zs.length = n) (o : Odd4 K H y) (e : E (.ref CC) none H) : spCasedX K TT CC CG CH n fin (y :: x1 :: x2 :: zs) H Q E := ⟨y, x1, x2, zs, rfl, lz, .inl ⟨o, e⟩⟩
theorem casedX_bad1 (lz : zs.length = n) (hC : CircAt H y C) (ok : C.ok) (fan : fanG C.gates ≤ 4000) (hT : TabsG TT H) (h1 : ∃ t xs, ItemsV K H x1 t xs ∧ okRd t xs C.ni = false) (h2 : ∃ t xs, ItemsV K H x2 t xs ∧ okRd t xs C.regs.length = false) (e : ∀ H', Ex TT H H' → E (.ref CG) none H') : spCasedX K TT CC CG CH n fin (y :: x1 :: x2 :: zs) H Q E := by
  obtain ⟨t1, xs1, i1, o1⟩ := h1
  obtain ⟨t2, xs2, i2, o2⟩ := h2
  refine ⟨y, x1, x2, zs, rfl, lz, .inr ⟨C, t1, t2, xs1, xs2, hC, ok, fan, hT, i1, i2, fun _ => e, fun z => ?_, fun gv hv H' e1 e2 e3 e4 l1 l2 => ?_⟩⟩
  · rw [o1] at z
    cases z
  · rw [e1, e3, okRd_of gv l1] at o1
    cases o1
theorem casedX_bad2 (lz : zs.length = n) (hC : CircAt H y C) (ok : C.ok) (fan : fanG C.gates ≤ 4000) (hT : TabsG TT H) (hg : H ga = some (.tup (gv.map rdV))) (lg : gv.length = C.ni) (h2 : ∃ t xs, ItemsV K H x2 t xs ∧ okRd t xs C.regs.length = false) (e : ∀ H', Ex TT H H' → E (.ref CH) none H') : spCasedX K TT CC CG CH n fin (y :: .ref ga :: x2 :: zs) H Q E := by
  obtain ⟨t2, xs2, i2, o2⟩ := h2
  refine ⟨y, .ref ga, x2, zs, rfl, lz, .inr ⟨C, "tuple", t2, gv.map rdV, xs2, hC, ok, fan, hT, items_rds hg, i2, fun z => ?_, fun _ _ => e, fun gv' hv H' e1 e2 e3 e4 l1 l2 => ?_⟩⟩
  · rw [okRd_of gv lg] at z
    cases z
  · rw [e2, e4, okRd_of hv l2] at o2
    cases o2
end
end
end K02

set_option Elab.async false
set_option linter.all false
set_option maxRecDepth 100000
set_option maxHeartbeats 2000000
/-! Values that a law draws, with what they are as data: atoms, rows of these, rows of such rows. -/
namespace K02
open PySem PySem.Spec L2
open PyProof.Rows GenW GxR EZ TK CE LamX
/-- an atom, and what it is as data -/
inductive At0 : V → PyData → Prop
  | non : At0 .non .none
  | bl (b : Bool) : At0 (.bl b) (.bool b)
  | int (i : Int) : -100 ≤ i → i ≤ 100 → At0 (.int i) (.int i)
  | str (z : Str) : GoodD (.str z) → (PyData.str z).weight ≤ 20 → (PyData.str z).depth = 0 → At0 (.str z) (.str z)
/-- a row: its list is none of N -/
def Cont (N : Addr → Prop) (H : Hp) (R : V → PyData → Prop) (x : V) (d : PyData) : Prop := ∃ (a : Addr) (xs : List V) (ds : List PyData), x = .ref a ∧ Paired R xs ds ∧ xs.length ≤ 20 ∧ (H a = some (.tup xs) ∧ d = .tuple ds ∨ H a = some (.lst xs) ∧ ¬ N a ∧ d = .list ds)
def D1 (N : Addr → Prop) (H : Hp) (x : V) (d : PyData) : Prop := At0 x d ∨ Cont N H At0 x d
def D2 (N : Addr → Prop) (H : Hp) (x : V) (d : PyData) : Prop := At0 x d ∨ Cont N H (D1 N H) x d
inductive IT (N : Addr → Prop) (H : Hp) : V → PyData → Prop
  | d2 {x : V} {d : PyData} : D2 N H x d → IT N H x d
  | dic {a : Addr} : H a = some (.dT []) → IT N H (.ref a) (.dict [])
/-- tuples, lists but those of N, empty dicts are kept -/
structure KL (N : Addr → Prop) (H H' : Hp) : Prop where
  tup : TupKeep H H'
  lst : ∀ c xs, H c = some (.lst xs) → ¬ N c → H' c = some (.lst xs)
  dic : ∀ c, H c = some (.dT []) → H' c = some (.dT [])
theorem KL.trans {N : Addr → Prop} {H H1 H2 : Hp} (a : KL N H H1) (b : KL N H1 H2) : KL N H H2 := ⟨a.tup.trans b.tup, fun c xs e n => b.lst c xs (a.lst c xs e n) n, fun c e => b.dic c (a.dic c e)⟩
theorem KL.same {N : Addr → Prop} {H H' : Hp} (s : Same H H') : KL N H H' := ⟨.of s, fun c xs e _ => s _ _ e, fun c e => s _ _ e⟩
theorem KL.ext {N : Addr → Prop} {H H' : Hp} (x : ExtN H H') : KL N H H' := ⟨fun t xs e => x _ _ e (fun _ z => by cases z), fun c xs e _ => x _ _ e (fun _ z => by cases z), fun c e => x _ _ e (fun _ z => by cases z)⟩
theorem KL.but {N : Addr → Prop} {st lg cl : Addr} {H H' : Hp} {t : Nat} (U : But st lg H H') (S : StOk H st lg cl t) (n1 : N st) (n2 : N lg) : KL N H H' :=
  ⟨U.tup S, fun c xs e n => U _ _ e (fun z => n (z ▸ n1)) (fun z => n (z ▸ n2)), fun c e => U.keepO S e (fun _ z => by cases z) (fun _ z => by cases z)⟩
/-- a list of N is written anew -/
theorem KL.put {N : Addr → Prop} {H : Hp} {p : Addr} {xs : List V} {o : HO} (e : H p = some (.lst xs)) (n : N p) : KL N H (L2.upd H p o) :=
  ⟨TupKeep.upd e (fun _ z => by cases z), fun c ys ec m => by
    rw [upd_ne (show c ≠ p from fun z => m (by rw [z]; exact n))]
    exact ec, fun c ec => by
    have : c ≠ p := fun z => by
      rw [z, e] at ec
      cases ec
    rw [upd_ne this]
    exact ec⟩
theorem pairedMono {α β : Type} {R R' : α → β → Prop} (h : ∀ x d, R x d → R' x d) {xs : List α} {ds : List β} (p : Paired R xs ds) : Paired R' xs ds := by
  induction p with
  | nil => exact .nil
  | cons r t ih => exact .cons (h _ _ r) ih
theorem Cont.keep {N : Addr → Prop} {H H' : Hp} {R R' : V → PyData → Prop} {x : V} {d : PyData} (k : KL N H H') (h : ∀ x d, R x d → R' x d) (c : Cont N H R x d) : Cont N H' R' x d := by
  obtain ⟨a, xs, ds, e, p, l, o⟩ := c
  refine ⟨a, xs, ds, e, pairedMono h p, l, ?_⟩
  rcases o with ⟨e, z⟩ | ⟨e, n, z⟩
  · exact .inl ⟨k.tup _ _ e, z⟩
  · exact .inr ⟨k.lst _ _ e n, n, z⟩
theorem D1.keep {N : Addr → Prop} {H H' : Hp} {x : V} {d : PyData} (k : KL N H H') (c : D1 N H x d) : D1 N H' x d := by
  rcases c with c | c
  · exact .inl c
  · exact .inr (c.keep k fun _ _ h => h)
theorem D2.keep {N : Addr → Prop} {H H' : Hp} {x : V} {d : PyData} (k : KL N H H') (c : D2 N H x d) : D2 N H' x d := by
  rcases c with c | c
  · exact .inl c
  · exact .inr (c.keep k fun _ _ h => D1.keep k h)
theorem IT.keep {N : Addr → Prop} {H H' : Hp} {x : V} {d : PyData} (k : KL N H H') (c : IT N H x d) : IT N H' x d := by
  cases c with
  | d2 h => exact .d2 (h.keep k)
  | dic e => exact .dic (k.dic _ e)
theorem Cont.mono {N M : Addr → Prop} {H : Hp} {R R' : V → PyData → Prop} {x : V} {d : PyData} (m : ∀ a, M a → N a) (h : ∀ x d, R x d → R' x d) (c : Cont N H R x d) : Cont M H R' x d := by
  obtain ⟨a, xs, ds, e, p, l, o⟩ := c
  refine ⟨a, xs, ds, e, pairedMono h p, l, ?_⟩
  rcases o with o | ⟨e, n, z⟩
  · exact .inl o
  · exact .inr ⟨e, fun z => n (m _ z), z⟩
theorem D1.mono {N M : Addr → Prop} {H : Hp} {x : V} {d : PyData} (m : ∀ a, M a → N a) (c : D1 N H x d) : D1 M H x d := by
  rcases c with c | c
  · exact .inl c
  · exact .inr (c.mono m fun _ _ h => h)
theorem D2.mono {N M : Addr → Prop} {H : Hp} {x : V} {d : PyData} (m : ∀ a, M a → N a) (c : D2 N H x d) : D2 M H x d := by
  rcases c with c | c
  · exact .inl c
  · exact .inr (c.mono m fun _ _ h => D1.mono m h)
theorem IT.mono {N M : Addr → Prop} {H : Hp} {x : V} {d : PyData} (m : ∀ a, M a → N a) (c : IT N H x d) : IT M H x d := by
  cases c with
  | d2 h => exact .d2 (h.mono m)
  | dic e => exact .dic e
theorem Cont.tup {N : Addr → Prop} {H : Hp} {R : V → PyData → Prop} {a : Addr} {xs : List V} {ds : List PyData} (e : H a = some (.tup xs)) (p : Paired R xs ds) (l : xs.length ≤ 20 := by exact Nat.le_of_ble_eq_true rfl) : Cont N H R (.ref a) (.tuple ds) := ⟨a, xs, ds, rfl, p, l, .inl ⟨e, rfl⟩⟩
theorem Cont.lst {N : Addr → Prop} {H : Hp} {R : V → PyData → Prop} {a : Addr} {xs : List V} {ds : List PyData} (e : H a = some (.lst xs)) (n : ¬ N a) (p : Paired R xs ds) (l : xs.length ≤ 20 := by exact Nat.le_of_ble_eq_true rfl) : Cont N H R (.ref a) (.list ds) := ⟨a, xs, ds, rfl, p, l, .inr ⟨e, n, rfl⟩⟩
section
variable {K : PySem.W.Frag} {N : Addr → Prop} {H : Hp}
theorem dpAll_of {R : V → PyData → Prop} (h : ∀ x d, R x d → Dp K H x d) {xs : List V} {ds : List PyData} (p : Paired R xs ds) : DpAll K H xs ds := by
  induction p with
  | nil => exact .nil
  | cons r t ih => exact .cons (h _ _ r) ih
theorem At0.dp {x : V} {d : PyData} (h : At0 x d) : Dp K H x d := by
  cases h with
  | non => exact .non
  | bl b => exact .bl b
  | int i _ _ => exact .int i
  | str z _ _ _ => exact .str z
theorem Cont.dp {R : V → PyData → Prop} (h : ∀ x d, R x d → Dp K H x d) {x : V} {d : PyData} (c : Cont N H R x d) : Dp K H x d := by
  obtain ⟨a, xs, ds, rfl, p, l, o⟩ := c
  rcases o with ⟨e, rfl⟩ | ⟨e, n, rfl⟩
  · exact .tup (.inl (.inl e)) (dpAll_of h p)
  · exact .lst (.inl (.inl e)) (dpAll_of h p)
theorem D1.dp {x : V} {d : PyData} (h : D1 N H x d) : Dp K H x d := h.elim (·.dp) (·.dp fun _ _ z => z.dp)
theorem D2.dp {x : V} {d : PyData} (h : D2 N H x d) : Dp K H x d := h.elim (·.dp) (·.dp fun _ _ z => z.dp)
theorem small_good : ∀ k : Fin 201, (PyData.int ((k.1 : Int) - 100)).showable = true ∧ (PyData.int ((k.1 : Int) - 100)).intsShort 13 = true ∧ (PyData.int ((k.1 : Int) - 100)).weight ≤ 20 := by decide +kernel
theorem small_int {i : Int} (h1 : -100 ≤ i) (h2 : i ≤ 100) : GoodD (.int i) ∧ (PyData.int i).weight ≤ 20 := by
  have z := small_good ⟨(i + 100).toNat, by omega⟩
  have e : (((i + 100).toNat : Nat) : Int) - 100 = i := by omega
  rw [e] at z
  exact ⟨⟨rfl, z.1, rfl, z.2.1⟩, z.2.2⟩
theorem At0.good {x : V} {d : PyData} (h : At0 x d) : GoodD d ∧ d.weight ≤ 20 ∧ d.depth = 0 := by
  cases h with
  | non => exact ⟨⟨rfl, rfl, rfl, rfl⟩, by decide, rfl⟩
  | bl b => exact ⟨⟨rfl, rfl, rfl, rfl⟩, by cases b <;> decide, rfl⟩
  | int i a b => exact ⟨(small_int a b).1, (small_int a b).2, rfl⟩
  | str z a b c => exact ⟨a, b, c⟩
theorem all_good {R : V → PyData → Prop} {n m : Nat} (h : ∀ x d, R x d → GoodD d ∧ d.weight ≤ n ∧ d.depth ≤ m) {xs : List V} {ds : List PyData} (p : Paired R xs ds) : (∀ d ∈ ds, GoodD d) ∧ PyData.weightAll ds ≤ (n + 1) * xs.length ∧ PyData.depthAll ds ≤ m := by
  induction p with
  | nil => exact ⟨fun d z => (nomatch z), Nat.zero_le _, Nat.zero_le _⟩
  | @cons x d xs ds r t ih =>
    obtain ⟨a, b, c⟩ := h _ _ r
    obtain ⟨a', b', c'⟩ := ih
    refine ⟨fun y hy => ?_, ?_, ?_⟩
    · rcases List.mem_cons.mp hy with z | z
      · rw [z]
        exact a
      · exact a' y z
    · show d.weight + 1 + PyData.weightAll ds ≤ (n + 1) * (xs.length + 1)
      rw [Nat.mul_succ]
      omega
    · simp only [PyData.depthAll]
      omega
theorem Cont.good {R : V → PyData → Prop} {n m : Nat} (h : ∀ x d, R x d → GoodD d ∧ d.weight ≤ n ∧ d.depth ≤ m) {x : V} {d : PyData} (c : Cont N H R x d) : GoodD d ∧ d.weight ≤ (n + 1) * 20 ∧ d.depth ≤ m + 1 := by
  obtain ⟨a, xs, ds, rfl, p, l, o⟩ := c
  obtain ⟨g, w, dd⟩ := all_good h p
  have lw : (n + 1) * xs.length ≤ (n + 1) * 20 := Nat.mul_le_mul_left _ l
  rcases o with ⟨e, rfl⟩ | ⟨e, _, rfl⟩
  · exact ⟨good_tup g, (by show PyData.weightAll ds ≤ _; omega), by simp only [PyData.depth]; omega⟩
  · exact ⟨good_lst g, (by show PyData.weightAll ds ≤ _; omega), by simp only [PyData.depth]; omega⟩
theorem D1.good {x : V} {d : PyData} (h : D1 N H x d) : GoodD d ∧ d.weight ≤ 420 ∧ d.depth ≤ 1 := by
  rcases h with h | h
  · obtain ⟨a, b, c⟩ := h.good
    exact ⟨a, by omega, by omega⟩
  · exact h.good fun _ _ z => ⟨z.good.1, z.good.2.1, Nat.le_of_eq z.good.2.2⟩
theorem D2.good {x : V} {d : PyData} (h : D2 N H x d) : GoodD d ∧ d.weight ≤ 8420 ∧ d.depth ≤ 2 := by
  rcases h with h | h
  · obtain ⟨a, b, c⟩ := h.good
    exact ⟨a, by omega, by omega⟩
  · exact h.good fun _ _ z => z.good
theorem log_small {i : Int} (h1 : -100 ≤ i) (h2 : i ≤ 100) : i.natAbs.log2 < 1920 := by
  have : i.natAbs.log2 ≤ i.natAbs := Nat.log2_le_self _
  omega
theorem IT.repr {x : V} {d : PyData} (h : IT N H x d) {Q : VK} (q : Q (.str d.shown) H) : RU.rReprU K [x] H Q := by
  cases h with
  | dic e => exact .inr ⟨_, rfl, e, q⟩
  | d2 h =>
    obtain ⟨g, wt, dp⟩ := h.good
    refine .inl ⟨x, d, rfl, h.dp, g.2.1, g.2.2.1, by omega, ?_, fun i e => ?_, q⟩
    · have hl : d.layable0 = true := by
        unfold PyData.layable0
        have e2 : (2 : Nat) ^ 20 = 1048576 := by decide
        rw [g.1, decide_eq_true (show d.depth ≤ 64 by omega), decide_eq_true (show d.weight ≤ 2 ^ 20 by omega)]
        rfl
      have z := PyProof.Rows.shown_le13 hl g.2.2.2
      rw [sizeLine_eq]
      omega
    · subst e
      rcases h with h | h
      · cases h with
        | int i a b => exact log_small a b
      · obtain ⟨a, xs, ds, _, _, _, o⟩ := h
        rcases o with ⟨_, z⟩ | ⟨_, _, z⟩ <;> cases z
theorem At0.ty {x : V} {d : PyData} (h : At0 x d) : ∃ t, Ty1 K H x t ∧ t ≠ "tuple" := by
  cases h with
  | non => exact ⟨_, ty_non, by decide⟩
  | bl b => exact ⟨_, ty_bl b, by decide⟩
  | int i _ _ => exact ⟨_, ty_int i, by decide⟩
  | str z _ _ _ => exact ⟨_, ty_str z, by decide⟩
theorem Cont.ty {R : V → PyData → Prop} {x : V} {d : PyData} (h : Cont N H R x d) : ∃ t, Ty1 K H x t := by
  obtain ⟨a, xs, ds, rfl, _, _, o⟩ := h
  rcases o with ⟨e, _⟩ | ⟨e, _, _⟩
  · exact ⟨_, ty_tup e⟩
  · exact ⟨_, ty_lst e⟩
theorem paired_left {α β : Type} {R : α → β → Prop} {xs : List α} {ds : List β} (p : Paired R xs ds) : ∀ y ∈ xs, ∃ d, R y d := by
  induction p with
  | nil => exact fun y z => (nomatch z)
  | cons r t ih =>
    intro y hy
    rcases List.mem_cons.mp hy with z | z
    · rw [z]
      exact ⟨_, r⟩
    · exact ih y z
theorem D1.ty {x : V} {d : PyData} (h : D1 N H x d) : ∃ t, Ty1 K H x t := by
  rcases h with h | h
  · obtain ⟨t, a, _⟩ := h.ty (K := K) (H := H)
    exact ⟨t, a⟩
  · exact h.ty
theorem items_no {x : V} {t : String} (a : Ty1 K H x t) (n : t ≠ "tuple") : ItemsV K H x t [] := ⟨a, fun z => absurd z n, fun z => absurd z n⟩
theorem Cont.items {R : V → PyData → Prop} (hR : ∀ x d, R x d → ∃ t, Ty1 K H x t) {x : V} {d : PyData} (h : Cont N H R x d) : ∃ t xs, ItemsV K H x t xs ∧ xs.length ≤ 20 := by
  obtain ⟨a, xs, ds, rfl, p, l, o⟩ := h
  rcases o with ⟨e, _⟩ | ⟨e, _, _⟩
  · exact ⟨"tuple", xs, ⟨ty_tup e, fun _ => ⟨a, rfl, .inl (.inl e)⟩, fun _ y hy => by
      obtain ⟨d, hd⟩ := paired_left p y hy
      exact hR y d hd⟩, l⟩
  · exact ⟨"list", [], items_no (ty_lst e) (by decide), Nat.zero_le _⟩
theorem D1.items {x : V} {d : PyData} (h : D1 N H x d) : ∃ t xs, ItemsV K H x t xs ∧ xs.length ≤ 20 := by
  rcases h with h | h
  · obtain ⟨t, a, n⟩ := h.ty (K := K) (H := H)
    exact ⟨t, [], items_no a n, Nat.zero_le _⟩
  · exact h.items fun _ _ z => by
      obtain ⟨t, a, _⟩ := z.ty (K := K) (H := H)
      exact ⟨t, a⟩
theorem D2.order {x : V} {d : PyData} (h : D2 N H x d) : ∃ t ys items, OrderV K H x t ys items ∧ ys.length ≤ 20 := by
  have no : ∀ {x : V} {t : String}, Ty1 K H x t → t ≠ "tuple" → ∃ t ys items, OrderV K H x t ys items ∧ ys.length ≤ 20 := fun a n => ⟨_, [], [], ⟨a, fun z => absurd z n, fun z => absurd z n⟩, Nat.zero_le _⟩
  rcases h with h | h
  · obtain ⟨t, a, n⟩ := h.ty (K := K) (H := H)
    exact no a n
  · obtain ⟨a, xs, ds, rfl, p, l, o⟩ := h
    rcases o with ⟨e, e2⟩ | ⟨e, _, _⟩
    · have : ∃ items : List Item, Paired (fun y (p : Item) => ItemsV K H y p.1 p.2) xs items := by
        clear e l e2
        induction p with
        | nil => exact ⟨[], .nil⟩
        | cons r t ih =>
          obtain ⟨its, q⟩ := ih
          obtain ⟨t1, x1, i1, _⟩ := r.items (K := K)
          exact ⟨(t1, x1) :: its, .cons i1 q⟩
      obtain ⟨items, pi⟩ := this
      exact ⟨"tuple", xs, items, ⟨ty_tup e, fun _ => ⟨a, rfl, .inl (.inl e)⟩, fun _ => pi⟩, l⟩
    · exact no (ty_lst e) (by decide)
theorem IT.order {x : V} {d : PyData} (h : IT N H x d) : ∃ t ys items, OrderV K H x t ys items ∧ ys.length ≤ 20 := by
  cases h with
  | d2 h => exact h.order
  | dic e => exact ⟨_, [], [], ⟨ty_dT e, fun z => absurd z (by decide), fun z => absurd z (by decide)⟩, Nat.zero_le _⟩
end
end K02

set_option Elab.async false
set_option linter.all false
set_option maxRecDepth 100000
set_option maxHeartbeats 4000000
/-! Mixed lists of tuples of atoms. -/
namespace K02
open PySem PySem.Spec L2
open PyProof.Rows GenW GxR EZ TK
open LamX (ExtN)
abbrev sMixedV : Stmt := top 45 -- _law_mixed
theorem seqIxV {i n : Nat} (h : i < n) : seqIndex? (i : Int) n = some i := by
  unfold seqIndex?
  have e : (if ((i : Int) < 0) then ((i : Int) + (n : Int)) else (i : Int)) = (i : Int) := if_neg (by omega)
  rw [e]
  simp
  omega
theorem perm_eraseV {α : Type} : ∀ {l : List α} {i : Nat} (h : i < l.length), ([l[i]] ++ l.eraseIdx i).Perm l
  | a :: r, 0, _ => List.Perm.refl _
  | a :: r, i + 1, h => by
    have hi : i < r.length := by simpa using h
    have ih := perm_eraseV (l := r) (i := i) hi
    exact (List.Perm.swap a r[i] (r.eraseIdx i)).trans (List.Perm.cons a ih)
/-- a tuple of atoms -/
abbrev PT (H : Hp) (x : V) (d : PyData) : Prop := Cont (fun _ => True) H At0 x d
theorem paired_of {α β : Type} {R : α → β → Prop} : ∀ {xs : List α}, (∀ x ∈ xs, ∃ d, R x d) → ∃ ds, Paired R xs ds
  | [], _ => ⟨[], .nil⟩
  | x :: r, h => by
    obtain ⟨d, hd⟩ := h x List.mem_cons_self
    obtain ⟨ds, hs⟩ := paired_of fun y hy => h y (List.mem_cons_of_mem _ hy)
    exact ⟨d :: ds, .cons hd hs⟩
section
variable {P : Program} {w : World} {K : PySem.W.Frag} {mg : Str → Option Value} {base : Heap}
def spMixedV (K : PySem.W.Frag) : Sp := fun vs H Q _ => ∃ (st lg cl a : Addr) (t : Nat) (ns : List V), vs = [.ref st, .ref a] ∧ SqL K H a ns ∧ a ≠ st ∧ a ≠ lg ∧ ns.length ≤ 20 ∧ (∀ x ∈ ns, ∃ d, PT H x d) ∧ t + 3000 < 1000000000 ∧ StOk H st lg cl t ∧
  ∀ (r : Addr) (ms : List V) (H' : Hp), ms.Perm ns → H' r = some (.lst ms) → r ≠ st → r ≠ lg → H r = none → StOk H' st lg cl (t + ns.length) → But st lg H H' → Q (.ref r) H'
theorem scMixedV : FnScope ["state", "several", "line", "found"] ["state", "several"] (defScope sMixedV) := ⟨rfl, rfl, rfl, by decide +kernel, rfl, by decide +kernel, by decide +kernel⟩
theorem ok_mixedV {f : Addr} {fd : FuncData} (F : Fun K "_law_mixed" "_law_mixed" sMixedV f fd) (mlist : mg "list" = none) (mlen : mg "len" = none) (cD : Cal P w K mg base CX0 1 "_law_draw" ["state", "size_here"] spDraw) : FnOk P w K mg base CX0 2 f fd ["state", "several"] (spMixedV K) := by
  obtain ⟨fD, fdD, GD, kD, bD, mD⟩ := cD
  refine F.ok scMixedV (fun vs H Q E h => ?_) (fun cdv A outer s H vs Q E hr h => ?_)
  · obtain ⟨st, lg, cl, a, t, ns, rfl, _⟩ := h
    rfl
  · obtain ⟨st, lg, cl, a, t, ns, rfl, hS, n1, n2, hl, hd0, ht, S, q⟩ := h
    have hu64 := hr.units
    refine ⟨_, (pss_cons (ps_par (i := 2) (j := 3) rfl scMixedV.nd rfl rfl (by decide) rfl rfl (pa_cons (pe_callTy call_list_of (by rfl) mlist (by decide +kernel) (pa_cons (pv 1) pa_nil)) (pa_cons (pe_lst pa_nil) pa_nil)) (by rfl))
      (pss_cons (ps_while PassesOwn.never (pt_cmpR (op_neD hu64) (pv 2) (pe_lst pa_nil) (nomark _))
        (pss_one (ps_expr (pe_bm PySem.F.plainAttrs_list PySem.F.slot_list_append PySem.F.type_list_append mt_append (pv 3) (pa_cons (pe_bm PySem.F.plainAttrs_list PySem.F.slot_list_pop PySem.F.type_list_pop mt_popAt (pv 2) (pa_cons (pe_call GD (hr.mono (by decide)) (by rfl) mD kD bD .nil pass0 (pa_cons (pv 0) (pa_cons (pe_callB call_len_seq (by rfl) mlen PySem.boot_len (pa_cons (pv 2) pa_nil)) pa_nil))) pa_nil)) pa_nil)))))
      (pss_one (ps_ret (pv 3))))), ?_⟩
    refine ⟨_, rfl, a, ns, rfl, .inl hS, fun la nla => ⟨Nat.zero_le _, fun fa nfa => ⟨_, _, rfl, ?_⟩⟩⟩
    have s1 := same_new (o := .lst (ns)) nla
    have e1 : (L2.upd H la (.lst (ns))) la = some (.lst (ns)) := upd_same
    have S1 := S.keep s1
    have nls := But.st_new (o := .tup []) S nla
    have lcl := S.cl_ne nla
    generalize hH1 : L2.upd H la (.lst (ns)) = H1 at s1 e1 S1 nfa
    have s2 := same_new (o := .lst []) nfa
    have e2 : (L2.upd H1 fa (.lst [])) fa = some (.lst []) := upd_same
    have nfs := But.st_new (o := .tup []) S1 nfa
    have fcl := S1.cl_ne nfa
    have lafa : la ≠ fa := fun z => by
      rw [z, nfa] at e1
      cases e1
    have n0fa := s1.free nfa
    have e1' := s2 _ _ e1
    have S2 := S1.keep s2
    have s02 := s1.trans s2
    generalize L2.upd H1 fa (.lst []) = H2 at s2 e2 e1' S2 s02
    refine ⟨fun m σ Hx => σ = [some (.ref st), some (.ref a), some (.ref la), some (.ref fa)] ∧ ∃ (rest done : List V), m = rest.length ∧ Hx la = some (.lst rest) ∧ Hx fa = some (.lst done) ∧ (done ++ rest).Perm ns ∧ StOk Hx st lg cl (t + done.length) ∧ But st lg H Hx,
      ⟨_, rfl, ns, [], rfl, e1', e2, List.Perm.refl _, S2, But.of s02⟩, fun m σ Hx hW => ?_⟩
    obtain ⟨rfl, rest, done, rfl, el, ef, pm, Sx, Ux⟩ := hW
    have lsum : done.length + rest.length = ns.length := by
      rw [← List.length_append]
      exact pm.length_eq
    refine ⟨_, rfl, Nat.zero_le _, fun p np => ?_⟩
    have s3 := same_new (o := .lst []) np
    have ep : (L2.upd Hx p (.lst [])) p = some (.lst []) := upd_same
    have el3 := s3 _ _ el
    have ef3 := s3 _ _ ef
    have S3 := Sx.keep s3
    have U3 := Ux.trans (But.of s3)
    generalize L2.upd Hx p (.lst []) = H3 at ep el3 ef3 S3 U3
    have k3 : KL (fun _ => True) H H3 := ⟨U3.tup S, fun c xs _ n => absurd trivial n, fun c e => U3.keepO S e (fun _ z => by cases z) (fun _ z => by cases z)⟩
    obtain ⟨ds, hds⟩ : ∃ ds, Paired (PT H3) rest ds := paired_of fun x hx => by
      obtain ⟨d, hd⟩ := hd0 x (pm.mem_iff.mp (List.mem_append_right _ hx))
      exact ⟨d, hd.keep k3 fun _ _ z => z⟩
    have gd := all_good (n := 420) (m := 1) (fun x d (z : PT H3 x d) => by
      obtain ⟨a, b, c⟩ := z.good fun _ _ z => ⟨z.good.1, z.good.2.1, Nat.le_of_eq z.good.2.2⟩
      exact ⟨a, b, c⟩) hds
    refine ⟨.list ds, .list [], .lst (.inl (.inl el3)) (dpAll_of (fun _ _ z => z.dp fun _ _ y => y.dp) hds), .lst (.inl (.inl ep)) .nil, layN_shaped (n := 2) ⟨(good_lst gd.1).1, by simp only [PyData.depth]; omega⟩ (by decide), PySem.W.ke_shaped_ints [], _, rfl, ?_⟩
    cases rest with
    | nil =>
      cases hds
      refine iteF ?_
      rw [List.append_nil] at pm
      refine ⟨_, rfl, q fa done H3 pm ef3 nfs.1 nfs.2 n0fa (S3.up (by simp at lsum; omega)) U3⟩
    | cons x r =>
      cases hds
      refine iteT ⟨fun σ' Hy => σ' = [some (.ref st), some (.ref a), some (.ref la), some (.ref fa)] ∧ ∃ (rest done : List V), rest.length = r.length ∧ Hy la = some (.lst rest) ∧ Hy fa = some (.lst done) ∧ (done ++ rest).Perm ns ∧ StOk Hy st lg cl (t + done.length) ∧ But st lg H Hy,
        fun σ' Hy ⟨b1, rest, done, b2, b3⟩ => ⟨rest.length, by rw [b2]; exact Nat.lt_succ_self _, b1, rest, done, rfl, b3⟩, ?_⟩
      have hlen : (x :: r).length = r.length + 1 := by rfl
      refine ⟨_, rfl, .inl ⟨rfl, _, .inl (.inl ef3)⟩, _, rfl, .inl ⟨rfl, _, .inl (.inl el3)⟩, _, rfl, _, rfl, la, _, rfl, .inl (.inl (.inl el3)), st, lg, cl, t + done.length, ((x :: r).length : Int), rfl, by rw [hlen]; omega, by rw [hlen]; simp at lsum; omega, by simp at lsum; omega, S3, fun k H4 k0 k1 S4 U4 => ?_⟩
      obtain ⟨i, rfl⟩ : ∃ n : Nat, k = n := ⟨k.toNat, (Int.toNat_of_nonneg k0).symm⟩
      have hi : i < (x :: r).length := by
        omega
      have el4 := U4 _ _ el3 nls.1 nls.2
      have ef4 := U4 _ _ ef3 nfs.1 nfs.2
      have hil : i < (x :: r).length := by exact hi
      refine ⟨la, _, (i : Int), i, (x :: r)[i], rfl, rfl, el4, by omega, by simp at lsum hi; omega, seqIxV hil, ?_, ?_⟩
      · rw [List.getElem?_eq_getElem hi]
      have ef5 : (L2.upd H4 la (.lst ((x :: r).eraseIdx i))) fa = some (.lst done) := by
        rw [upd_ne lafa.symm]
        exact ef4
      refine ⟨fa, done, _, rfl, rfl, ef5, by rw [sizeLine_eq]; omega, rfl, (x :: r).eraseIdx i, done ++ [(x :: r)[i]], ?_, ?_, ?_, ?_, ?_, ?_⟩
      · rw [List.length_eraseIdx, if_pos hi]
        rfl
      · rw [upd_ne lafa, upd_same]
      · rw [upd_same]
      · refine List.Perm.trans ?_ pm
        rw [List.append_assoc]
        exact List.Perm.append_left _ (perm_eraseV hi)
      · rw [List.length_append]
        exact (S4.upd nls.1 nls.2 lcl).upd nfs.1 nfs.2 fcl
      · intro b o eb m1 m2
        have b1 : b ≠ la := ne_of_none eb nla
        have b2 : b ≠ fa := ne_of_none eb n0fa
        rw [upd_ne b2, upd_ne b1]
        exact (U3.trans U4) _ _ eb m1 m2
end
end K02

set_option Elab.async false
set_option linter.all false
set_option maxRecDepth 100000
set_option maxHeartbeats 2000000
/-! is_closed_lot. -/
namespace K02
open PySem PySem.Spec L2
open PyProof.Rows GenW GxR EZ TK
open LamX (ExtN)
abbrev sIsClosedLot : Stmt := top 40 -- is_closed_lot
/-- whether a value is the closed lot behind readings -/
def lotOk (C : Circ) (gv hv : List Rd) (F : List Rd) (t : String) (xs : List V) : Bool := decide (t = "tuple") && decide (xs = nV (opensF F)) && (opensF F).all fun g => (readG C.gates gv hv F g).isNone
def lotBy (C : Circ) (gv hv : List Rd) (r : Option (List Rd)) (t : String) (xs : List V) : Bool := match r with
  | none => false
  | some F => lotOk C gv hv F t xs
theorem toldI_len {gs : List Gate} {gv hv : List Rd} : ∀ {items : List Item} {F G : List Rd}, toldI gs gv hv items F = some G → G.length = F.length
  | [], F, G, h => by
    cases h
    rfl
  | p :: r, F, G, h => by
    have h : (match pairOf gs.length p with | none => none | some (g, b) => if F.getD g none = none ∧ readG gs gv hv F g = some b then toldI gs gv hv r (F.set g (some b)) else none) = some G := h
    cases e : pairOf gs.length p with
    | none =>
      rw [e] at h
      cases h
    | some gb =>
      obtain ⟨g, b⟩ := gb
      rw [e] at h
      have h : (if F.getD g none = none ∧ readG gs gv hv F g = some b then toldI gs gv hv r (F.set g (some b)) else none) = some G := h
      by_cases c : F.getD g none = none ∧ readG gs gv hv F g = some b
      · rw [if_pos c] at h
        rw [toldI_len h, List.length_set]
      · rw [if_neg c] at h
        cases h
theorem toldBy_len {C : Circ} {gv hv : List Rd} {t : String} {items : List Item} {F : List Rd} (h : toldBy C gv hv t items = some F) : F.length = C.gates.length := by
  unfold toldBy at h
  by_cases c : t = "tuple"
  · rw [if_pos c] at h
    rw [toldI_len h, List.length_replicate]
  · rw [if_neg c] at h
    cases h
theorem ints_of : ∀ {xs : List V}, (xs.all fun y => isI y) = true → ∃ ns : List Int, xs = ns.map V.int
  | [], _ => ⟨[], rfl⟩
  | x :: r, h => by
    rw [List.all_cons, Bool.and_eq_true] at h
    obtain ⟨ns, e⟩ := ints_of h.2
    cases x with
    | int i => exact ⟨i :: ns, by rw [e]; rfl⟩
    | _ => cases h.1
theorem all_ints (ns : List Int) : ((ns.map V.int).all fun y => isI y) = true := List.all_eq_true.mpr fun y hy => by
  obtain ⟨n, _, rfl⟩ := List.mem_map.mp hy
  rfl
theorem nV_ints (ns : List Nat) : nV ns = (ns.map fun (n : Nat) => (n : Int)).map V.int := by
  unfold nV
  rw [List.map_map]
  rfl
theorem eqv_ints : ∀ (a b : List Int), PyData.eqvAll (a.map PyData.int) (b.map PyData.int) = decide (a = b)
  | [], [] => rfl
  | [], _ :: _ => rfl
  | _ :: _, [] => rfl
  | x :: r, y :: q => by
    have ih := eqv_ints r q
    show ((x == y) && PyData.eqvAll (r.map PyData.int) (q.map PyData.int)) = _
    rw [ih]
    by_cases e : x = y
    · subst e
      by_cases e2 : r = q <;> simp [e2]
    · simp [e]
theorem dp_intsN {K : PySem.W.Frag} {H : Hp} : ∀ ns : List Int, DpAll K H (ns.map V.int) (ns.map PyData.int)
  | [] => .nil
  | n :: r => .cons (.int n) (dp_intsN r)
theorem lay_intsN (ns : List Int) : LayN 1 (.tuple (ns.map PyData.int)) := layN_tuple fun d hd => by
  obtain ⟨n, _, rfl⟩ := List.mem_map.mp hd
  exact layN_leaf rfl
theorem opens_mem {F : List Rd} {g : Nat} (h : g ∈ opensF F) : g < F.length ∧ F.getD g none = none := by
  unfold opensF at h
  obtain ⟨a, b⟩ := List.mem_filter.mp h
  refine ⟨List.mem_range.mp a, ?_⟩
  cases e : F.getD g none with
  | none => rfl
  | some x =>
    rw [e] at b
    cases b
section
variable {P : Program} {w : World} {K : PySem.W.Frag} {mg : Str → Option Value} {base : Heap}
def finICL (K : PySem.W.Frag) (TT : List Addr) : Circ → List Rd → List Rd → List V → Hp → VK → Prop := fun C gv hv zs H Q => ∃ (x l : V) (t tl : String) (ys xs : List V) (items : List Item), zs = [x, l] ∧ TabsG TT H ∧ OrderV K H x t ys items ∧ ItemsV K H l tl xs ∧ ∀ H', Ex TT H H' → Q (.bl (lotBy C gv hv (toldBy C gv hv t items) tl xs)) H'
abbrev nICL : List Str := ["circuit", "given", "held", "order", "lot", "found", "gate"]
theorem scICL : FnScope nICL ["circuit", "given", "held", "order", "lot"] (defScope sIsClosedLot) := ⟨rfl, rfl, rfl, by decide +kernel, rfl, by decide +kernel, by decide +kernel⟩
theorem ok_isClosedLot {TT : List Addr} {f fC fT fM fU fN c T CC CG CH : Addr} {fd fdC fdT fdM fdU fdN : FuncData} (F : Fun K "is_closed_lot" "is_closed_lot" sIsClosedLot f fd) (hc : fd.code = .ref c) (TB : TabB base mg c T) (hTT : T ∈ TT) (mall : mg "all" = none)
    (GC : FnOk P w K mg base (L2.CX P w) 10 fC fdC ["circuit", "given", "held"] (spCheckCase K TT CC CG CH)) (kC : PySem.W.keepIn K (.ref fC) = true) (bC : Binds K fdC ["circuit", "given", "held"] []) (mC : mg "check_case" = some (.ref fC))
    (GT : FnOk P w K mg base CX0 4 fT fdT ["circuit", "given", "held", "order"] (spTold K)) (kT : PySem.W.keepIn K (.ref fT) = true) (bT : Binds K fdT ["circuit", "given", "held", "order"] []) (mT : mg "told_by" = some (.ref fT))
    (GM : FnOk P w K mg base CX0 3 fM fdM ["thing"] (spNums K TT)) (kM : PySem.W.keepIn K (.ref fM) = true) (bM : Binds K fdM ["thing"] []) (mM : mg "is_numbers" = some (.ref fM))
    (GU : FnOk P w K mg base CX0 1 fU fdU ["found"] (spUnsureA K)) (kU : PySem.W.keepIn K (.ref fU) = true) (bU : Binds K fdU ["found"] []) (mU : mg "unsure_among" = some (.ref fU))
    (GN : FnOk P w K mg base CX0 2 fN fdN ["circuit", "gate", "given", "held", "gates"] (spGateNow K)) (kN : PySem.W.keepIn K (.ref fN) = true) (bN : Binds K fdN ["circuit", "gate", "given", "held", "gates"] []) (mN : mg "gate_now" = some (.ref fN)) :
    FnOk P w K mg base (L2.CX P w) 11 f fd ["circuit", "given", "held", "order", "lot"] (spCasedX K TT CC CG CH 2 (finICL K TT)) := by
  refine okCX F hc scICL (fun vs H Q E h => ?_) (fun A outer s H vs Q E hr h => ?_)
  · obtain ⟨y, x1, x2, zs, rfl, l, h⟩ := h
    simp [l]
  · obtain ⟨y, x1, x2, zs, rfl, l, h⟩ := h
    obtain ⟨z1, z2, rfl⟩ : ∃ z1 z2, zs = [z1, z2] := by
      match zs, l with
      | [z1, z2], _ => exact ⟨z1, z2, rfl⟩
    have hu64 := hr.units
    refine ⟨_, (pss_cons (ps_expr (pe_callS GC hr (by rfl) mC kC bC (passAt (takes_of rfl rfl rfl rfl)) (pa_cons (pv 0) (pa_cons (pv 1) (pa_cons (pv 2) pa_nil))))) (pss_cons (ps_set (i := 5) scICL.nd rfl (Or.inr rfl) (pe_call GT (hr.mono (by decide)) (by rfl) mT kT bT .nil pass0 (pa_cons (pv 0) (pa_cons (pv 1) (pa_cons (pv 2) (pa_cons (pv 3) pa_nil))))))
      (pss_cons (ps_if (pw_or (pt_cmpR op_isN (pv 5) pe_non (nomark _)) (pw_or (pt_not (pt_val (pe_call GM (hr.mono (by decide)) (by rfl) mM kM bM .nil pass0 (pa_cons (pv 4) pa_nil)))) (pw_or1 (pt_cmpR (op_neD hu64) (pv 4) (pe_call GU (hr.mono (by decide)) (by rfl) mU kU bU .nil pass0 (pa_cons (pv 5) pa_nil)) (nomark _))))).pt (pss_one (ps_ret pe_bl)) pss_nil)
      (pss_one (ps_ret (GX.pe_all (own := [("gate", 6)]) (k := 2) (hr.mono (by decide)) (by rfl) mall TB rfl rfl scICL.nd (pi_tup (pv 4)) (blkOk_by (N := nICL) (sc := defScope sIsClosedLot) (by decide +kernel)) (GX.genNames_by (by decide +kernel)) (fun _ _ _ _ _ _ _ => pg_name (i := 6) scICL.nd rfl (Or.inl rfl)) (fun _ _ _ _ _ _ _ _ => pts_nil) (fun _ _ _ _ _ _ _ hr2 => pe_cmpR op_isN (pe_call GN hr2 (by rfl) mN kN bN .nil pass0 (pa_cons (pv 0) (pa_cons (pv 6) (pa_cons (pv 1) (pa_cons (pv 2) (pa_cons (pv 5) pa_nil)))))) pe_non (nomark _)))))))), ?_⟩
    refine ⟨_, rfl, _, rfl, _, rfl, ?_⟩
    dsimp only [tNil]
    refine case_to (E := E) (fin := fun C gv hv H Q => finICL K TT C gv hv [z1, z2] H Q) h fun C gv hv ga ha H1 e1 e2 hC ok fan l1 l2 sg sh fin => ?_
    subst e1 e2
    obtain ⟨x, lv, t, tl, ys, xs, items, ez, hT, ov, il, q⟩ := fin
    cases ez
    refine ⟨_, rfl, _, rfl, _, rfl, _, rfl, y, z1, C, ga, ha, gv, hv, t, ys, items, rfl, hC, ok, l1, l2, sg, sh, ov, fun e H' s => ?_, fun F r H' e s nr er => ?_⟩
    · refine ⟨_, rfl, rfl, _, rfl, iteT (iteT ?_)⟩
      have z := q H' (Ex.same s)
      rw [e] at z
      exact z
    · have lF := toldBy_len e
      have e0 : decide (V.ref r = V.non) = false := rfl
      refine ⟨_, rfl, rfl, _, rfl, ?_⟩
      rw [e0]
      refine iteF ?_
      have hT1 := (Ex.same s).tabs hT
      have q2 : ∀ H3, Ex TT H' H3 → Q (.bl (lotOk C gv hv F tl xs)) H3 := fun H3 x3 => by
        have z := q H3 ((Ex.same s).trans x3)
        rw [e] at z
        exact z
      have il1 := il.ext (extN_same s)
      refine ⟨_, rfl, z2, tl, xs, rfl, il1.1, il1.2.1, il1.2.2, hT1, fun H3 x3 => ⟨_, rfl, ?_⟩⟩
      cases hn : (decide (tl = "tuple") && xs.all fun y => isI y) with
      | false =>
        refine iteT (iteT ?_)
        have z := q2 H3 x3
        have f : lotOk C gv hv F tl xs = false := by
          cases f : lotOk C gv hv F tl xs with
          | false => rfl
          | true =>
            unfold lotOk at f
            simp only [Bool.and_eq_true, decide_eq_true_eq] at f
            obtain ⟨⟨f1, f2⟩, _⟩ := f
            rw [f1, f2, nV_ints, all_ints] at hn
            cases hn
        rw [f] at z
        exact z
      | true =>
        obtain ⟨hn1, hn2⟩ := (Bool.and_eq_true _ _).mp hn
        have hn1 := of_decide_eq_true hn1
        subst hn1
        obtain ⟨ns, rfl⟩ := ints_of hn2
        obtain ⟨la, rfl, sl⟩ := il1.2.1 rfl
        have n3 := x3.extN hT1
        have er3 := n3 _ _ er (fun _ z => by cases z)
        have sl3 := extN_seqT n3 sl
        refine iteF ⟨_, rfl, _, rfl, r, F, rfl, .inl (.inl er3), by rw [lF]; exact ok.ng, fun T2 H4 s4 nT2 eT2 => ?_⟩
        have sl4 := extN_seqT (extN_same s4) sl3
        rw [nV_ints] at eT2
        refine ⟨.tuple (ns.map PyData.int), .tuple (((opensF F).map fun (n : Nat) => (n : Int)).map PyData.int), .tup sl4 (dp_intsN _), .tup (.inl (.inl eT2)) (dp_intsN _), layN_shaped (lay_intsN _) (by decide), layN_shaped (lay_intsN _) (by decide), _, rfl, ?_⟩
        have ee : PyData.eqv (.tuple (ns.map PyData.int)) (.tuple (((opensF F).map fun (n : Nat) => (n : Int)).map PyData.int)) = decide (ns = (opensF F).map fun (n : Nat) => (n : Int)) := eqv_ints _ _
        rw [ee]
        have x34 := x3.trans (Ex.same s4)
        by_cases c : ns = (opensF F).map fun (n : Nat) => (n : Int)
        · rw [decide_eq_true c]
          refine iteF ?_
          subst c
          rw [← nV_ints] at sl4 q2
          have hT4 := x34.tabs hT1
          have n34 := x34.extN hT1
          have q3 : ∀ H5, Ex TT H4 H5 → Q (.bl ((opensF F).all fun g => (readG C.gates gv hv F g).isNone)) H5 := fun H5 x5 => by
            have z := q2 H5 (x34.trans x5)
            unfold lotOk at z
            rw [decide_eq_true rfl, decide_eq_true rfl] at z
            exact z
          have hC4 := (hC.ext (extN_same s)).ext n34
          have sg4 := extN_seqT n34 (extN_seqT (extN_same s) sg)
          have sh4 := extN_seqT n34 (extN_seqT (extN_same s) sh)
          have er4 := s4 _ _ er3
          have lnv := nV_len (opensF F)
          refine ⟨_, rfl, la, rfl, ⟨_, sl4⟩, hT4 T hTT, fun H5 hT5 => ⟨fun i m H6 => m + i = (opensF F).length ∧ Ex TT H4 H6 ∧ (((opensF F).take i).all fun g => (readG C.gates gv hv F g).isNone) = true, ⟨(opensF F).length, rfl, Ex.tabbed hTT hT5, rfl⟩, fun i m H6 hW => ?_⟩⟩
          obtain ⟨em, x6, al⟩ := hW
          have n6 := x6.extN hT4
          have sl6 := extN_seqT n6 sl4
          by_cases hi : i < (opensF F).length
          · refine .inr ⟨⟨nV (opensF F), (nV (opensF F))[i], sl6, List.getElem?_eq_getElem (by omega)⟩, fun H7 => Ex TT H4 H7 ∧ (((opensF F).take (i + 1)).all fun g => (readG C.gates gv hv F g).isNone) = true, fun H7 x7 => ⟨m - 1, by omega, by omega, x7⟩, fun v H7 hy => ?_⟩
            obtain ⟨rfl, hy⟩ := hy
            have ey := hy _ sl6
            obtain ⟨g, hg, rfl⟩ := nV_get ey
            obtain ⟨hgl, _⟩ := opens_mem (List.mem_of_getElem? hg)
            rw [lF] at hgl
            have hgt : C.gates[g]? = some C.gates[g] := List.getElem?_eq_getElem hgl
            have hre : readG C.gates gv hv F g = gateV gv hv F C.gates[g] := by
              unfold readG
              rw [hgt]
            refine ⟨rfl, _, rfl, _, rfl, _, rfl, _, rfl, _, rfl, y, C, g, C.gates[g], ga, ha, r, gv, hv, F, rfl, hC4.ext n6, hgt, by rw [l1, l2, lF]; exact ok.gates _ (List.getElem_mem hgl), extN_seqT n6 sg4, extN_seqT n6 sh4, n6 _ _ er4 (fun _ z => by cases z), fun H8 s8 => ⟨rfl, _, rfl, fun hc => ?_, fun hc => ⟨x6.trans (Ex.same s8), ?_⟩⟩⟩
            · rw [rdV_isN, ← hre] at hc
              have z := q3 H8 (x6.trans (Ex.same s8))
              have f : ((opensF F).all fun g => (readG C.gates gv hv F g).isNone) = false := by
                rw [Bool.eq_false_iff]
                intro z2
                have z3 := List.all_eq_true.mp z2 g (List.mem_of_getElem? hg)
                rw [hc] at z3
                cases z3
              rw [f] at z
              exact z
            · rw [rdV_isN, ← hre] at hc
              rw [take_snoc hg, List.all_append, al]
              cases h : (readG C.gates gv hv F g).isNone with
              | true => simp [h]
              | false => exact absurd h hc
          · rw [List.take_of_length_le (by omega)] at al
            have z := q3 H6 x6
            rw [al] at z
            exact .inl ⟨⟨nV (opensF F), sl6, by omega⟩, z⟩
        · rw [decide_eq_false c]
          refine iteT ?_
          have z := q2 H4 x34
          have f : lotOk C gv hv F "tuple" (ns.map V.int) = false := by
            cases f : lotOk C gv hv F "tuple" (ns.map V.int) with
            | false => rfl
            | true =>
              unfold lotOk at f
              simp only [Bool.and_eq_true, decide_eq_true_eq] at f
              obtain ⟨⟨_, f2⟩, _⟩ := f
              rw [nV_ints] at f2
              exact absurd ((List.map_inj_right fun _ _ h => V.int.inj h).mp f2) c
          rw [f] at z
          exact z
end
end K02

set_option Elab.async false
set_option linter.all false
set_option maxRecDepth 100000
set_option maxHeartbeats 2000000
/-! The law's own judges of orders. -/
namespace K02
open PySem PySem.Spec L2
open PyProof.Rows GenW GxR EZ TK
open LamX (ExtN)
abbrev sLIsWhole : Stmt := top 47 -- _law_is_whole
abbrev sLIsBit : Stmt := top 50 -- _law_is_bit
abbrev sLIsOrder : Stmt := top 64 -- _law_is_order
section
variable {P : Program} {w : World} {K : PySem.W.Frag} {mg : Str → Option Value} {base : Heap}
theorem scLWh : FnScope ["item"] ["item"] (defScope sLIsWhole) := ⟨rfl, rfl, rfl, by decide +kernel, rfl, by decide +kernel, by decide +kernel⟩
theorem ok_lwhole {f : Addr} {fd : FuncData} (F : Fun K "_law_is_whole" "_law_is_whole" sLIsWhole f fd) (mi : mg "isinstance" = none) (mint : mg "int" = none) (mbool : mg "bool" = none) : FnOk P w K mg base CX0 1 f fd ["item"] (spNumber K) := by
  refine F.ok scLWh (fun vs H Q E h => ?_) (fun cdv A outer s H vs Q E hr h => ?_)
  · obtain ⟨x, t, rfl, _⟩ := h
    rfl
  · obtain ⟨x, t, rfl, ht, q⟩ := h
    refine ⟨_, pss_one (ps_ret (pe_and (pe_callB call_isi (by rfl) mi (by decide +kernel) (pa_cons (pv 0) (pa_cons (pe_bltn (v := .ty "int") (u := .type "int") (by rfl) mint (by decide +kernel) rfl) pa_nil)))
      (pe_one (pe_not (pe_callB call_isi (by rfl) mi (by decide +kernel) (pa_cons (pv 0) (pa_cons (pe_bltn (v := .ty "bool") (u := .type "bool") (by rfl) mbool (by decide +kernel) rfl) pa_nil))))))), ?_⟩
    refine ⟨_, rfl, x, .ty "int", _, _, _, rfl, .ty "int", ht.ty, kit_of1 ht.mem (by decide), _, rfl, ?_⟩
    by_cases h1 : t = "int"
    · subst h1
      exact ⟨_, rfl, x, .ty "bool", _, _, _, rfl, .ty "bool", ht.ty, kit_of1 ht.mem (by decide), _, rfl, q⟩
    · by_cases h2 : t = "bool"
      · subst h2
        exact ⟨_, rfl, x, .ty "bool", _, _, _, rfl, .ty "bool", ht.ty, kit_of1 ht.mem (by decide), _, rfl, q⟩
      · have e : kitR t "int" = false := by
          unfold kitR
          rw [decide_eq_false h1, decide_eq_false h2]
          rfl
        rw [e]
        rw [decide_eq_false h1] at q
        exact iteF q

theorem scLBit : FnScope ["item"] ["item"] (defScope sLIsBit) := ⟨rfl, rfl, rfl, by decide +kernel, rfl, by decide +kernel, by decide +kernel⟩
theorem ok_lbit {f fN : Addr} {fd fdN : FuncData} (F : Fun K "_law_is_bit" "_law_is_bit" sLIsBit f fd) (GN : FnOk P w K mg base CX0 1 fN fdN ["item"] (spNumber K)) (kN : PySem.W.keepIn K (.ref fN) = true) (bN : Binds K fdN ["item"] []) (mN : mg "_law_is_whole" = some (.ref fN)) :
    FnOk P w K mg base CX0 2 f fd ["item"] (spBit K) := by
  refine F.ok scLBit (fun vs H Q E h => ?_) (fun cdv A outer s H vs Q E hr h => ?_)
  · obtain ⟨x, t, rfl, _⟩ := h
    rfl
  · obtain ⟨x, t, rfl, ht, q⟩ := h
    refine ⟨_, pss_one (ps_ret (pe_and (pe_call GN hr (by rfl) mN kN bN .nil pass0 (pa_cons (pv 0) pa_nil)) (pe_one (pe_chain op_le op_le pe_int (pv 0) pe_int)))), ?_⟩
    refine ⟨_, rfl, x, t, rfl, ht, _, rfl, ?_⟩
    by_cases h1 : t = "int"
    · subst h1
      obtain ⟨i, rfl⟩ := ht.int
      refine ⟨_, rfl, _, _, rfl, rfl, _, rfl, ite2 (fun hc => ?_) (fun hc => ?_)⟩
      · refine ⟨_, _, rfl, rfl, ?_⟩
        have e : bel (.int i) 2 = decide (i ≤ 1) := by
          show (decide (0 ≤ i) && decide (i < 2)) = _
          rw [hc, Bool.true_and]
          by_cases z : i ≤ 1
          · rw [decide_eq_true z, decide_eq_true (show i < 2 by omega)]
          · rw [decide_eq_false z, decide_eq_false (show ¬ i < 2 by omega)]
        rw [e] at q
        exact q
      · have e : bel (.int i) 2 = false := by
          show (decide (0 ≤ i) && decide (i < 2)) = _
          rw [Bool.not_eq_true] at hc
          rw [hc]
          rfl
        rw [e] at q
        exact q
    · rw [ht.notInt h1] at q
      rw [decide_eq_false h1]
      exact iteF q
def spLOrder (K : PySem.W.Frag) : Sp := fun vs H Q _ => ∃ (y x : V) (C : Circ) (ga ha : Addr) (gv hv : List Rd) (t : String) (ys : List V) (items : List Item), vs = [y, .ref ga, .ref ha, x] ∧ CircAt H y C ∧ C.ok ∧ gv.length = C.ni ∧ hv.length = C.regs.length ∧ SqT K H ga (gv.map rdV) ∧ SqT K H ha (hv.map rdV) ∧ OrderV K H x t ys items ∧ ∀ H', Same H H' → Q (.bl (toldBy C gv hv t items).isSome) H'
abbrev nLO : List Str := ["circuit", "given", "held", "item", "readings", "pair"]
theorem scLO : FnScope nLO ["circuit", "given", "held", "item"] (defScope sLIsOrder) := ⟨rfl, rfl, rfl, by decide +kernel, rfl, by decide +kernel, by decide +kernel⟩
theorem ok_lorder {f fW fB : Addr} {fd fdW fdB : FuncData} (F : Fun K "_law_is_order" "_law_is_order" sLIsOrder f fd) (mi : mg "isinstance" = none) (mtuple : mg "tuple" = none) (mlen : mg "len" = none)
    (GW : FnOk P w K mg base CX0 1 fW fdW ["item"] (spNumber K)) (kW : PySem.W.keepIn K (.ref fW) = true) (bW : Binds K fdW ["item"] []) (mW : mg "_law_is_whole" = some (.ref fW))
    (GB : FnOk P w K mg base CX0 2 fB fdB ["item"] (spBit K)) (kB : PySem.W.keepIn K (.ref fB) = true) (bB : Binds K fdB ["item"] []) (mB : mg "_law_is_bit" = some (.ref fB))
    (cO : Cal P w K mg base CX0 5 "_law_one" ["gate", "given", "held", "readings"] (spLOne K)) : FnOk P w K mg base CX0 6 f fd ["circuit", "given", "held", "item"] (spLOrder K) := by
  obtain ⟨fO, fdO, GO, kO, bO, mO⟩ := cO
  refine F.ok scLO (fun vs H Q E h => ?_) (fun cdv A outer s H vs Q E hr h => ?_)
  · obtain ⟨y, x, C, ga, ha, gv, hv, t, ys, items, rfl, _⟩ := h
    rfl
  · obtain ⟨y, x, C, ga, ha, gv, hv, t, ys, items, rfl, hC, ok, lgv, lhv, hg, hh, ⟨hty, htv, hit⟩, q⟩ := h
    refine ⟨_, (pss_cons (ps_if (pt_not (pt_val (pe_callB call_isi (by rfl) mi (by decide +kernel) (pa_cons (pv 3) (pa_cons (pe_bltn (v := .ty "tuple") (u := .type "tuple") (by rfl) mtuple (by decide +kernel) rfl) pa_nil))))) (pss_one (ps_ret pe_bl)) pss_nil)
      (pss_cons (ps_set (i := 4) scLO.nd rfl (Or.inl rfl) (pe_op op_rep (pe_lst (pa_cons pe_non pa_nil)) (pe_callB call_len_seq (by rfl) mlen PySem.boot_len (pa_cons (pe_ix (r := rIxT K) ix_tup (pv 0) pe_int (fun _ _ => rfl)) pa_nil))))
      (pss_cons (ps_for PassesOwn.never rfl (pi_tup (pv 3)) (pg_name (i := 5) scLO.nd rfl (Or.inl rfl))
        (pss_cons (ps_if (pw_or (pt_not (pt_val (pe_callB call_isi (by rfl) mi (by decide +kernel) (pa_cons (pv 5) (pa_cons (pe_bltn (v := .ty "tuple") (u := .type "tuple") (by rfl) mtuple (by decide +kernel) rfl) pa_nil))))) (pw_or (pt_cmpR op_ne (pe_callB call_len_seq (by rfl) mlen PySem.boot_len (pa_cons (pv 5) pa_nil)) pe_int (nomark _)) (pw_or (pt_not (pt_val (pe_call GW (hr.mono (by decide)) (by rfl) mW kW bW .nil pass0 (pa_cons (pe_ix (r := rIxT K) ix_tup (pv 5) pe_int (fun _ _ => rfl)) pa_nil)))) (pw_or1 (pt_not (pt_val (pe_call GB (hr.mono (by decide)) (by rfl) mB kB bB .nil pass0 (pa_cons (pe_ix (r := rIxT K) ix_tup (pv 5) pe_int (fun _ _ => rfl)) pa_nil)))))))).pt (pss_one (ps_ret pe_bl)) pss_nil)
        (pss_cons (ps_if (pw_or (pt_not (pt_chain op_le op_lt pe_int (pe_ix (r := rIxT K) ix_tup (pv 5) pe_int (fun _ _ => rfl)) (pe_callB call_len_seq (by rfl) mlen PySem.boot_len (pa_cons (pv 4) pa_nil)))) (pw_or (pt_cmpR op_notN (pe_ix (r := rIxL K) ix_list (pv 4) (pe_ix (r := rIxT K) ix_tup (pv 5) pe_int (fun _ _ => rfl)) (fun _ _ => rfl)) pe_non (nomark _)) (pw_or1 (pt_cmpR op_ne (pe_call GO (hr.mono (by decide)) (by rfl) mO kO bO .nil pass0 (pa_cons (pe_ix (r := rIxT K) ix_tup (pe_ix (r := rIxT K) ix_tup (pv 0) pe_int (fun _ _ => rfl)) (pe_ix (r := rIxT K) ix_tup (pv 5) pe_int (fun _ _ => rfl)) (fun _ _ => rfl)) (pa_cons (pv 1) (pa_cons (pv 2) (pa_cons (pv 4) pa_nil))))) (pe_ix (r := rIxT K) ix_tup (pv 5) pe_int (fun _ _ => rfl)) (nomark _))))).pt (pss_one (ps_ret pe_bl)) pss_nil)
        (pss_one (ps_asg (pe_ix (r := rIxT K) ix_tup (pv 5) pe_int (fun _ _ => rfl)) (pg_sub (pv 4) (pe_ix (r := rIxT K) ix_tup (pv 5) pe_int (fun _ _ => rfl)) set_list))))))
      (pss_one (ps_ret pe_bl))))), ?_⟩
    obtain ⟨ct, ra, gaa, oa, rs, gs, os, rfl, et, er, eg, eo, hrs, hgs, hos⟩ := id hC
    have lgs : gs.length = C.gates.length := Paired.length hgs
    have k3 := ok.ng
    by_cases ht : t = "tuple"
    · subst ht
      obtain ⟨a, rfl, sq⟩ := htv rfl
      have hit := hit rfl
      have hby : toldBy C gv hv "tuple" items = toldI C.gates gv hv items (List.replicate C.gates.length none) := if_pos rfl
      rw [hby] at q
      refine ⟨_, rfl, .ref a, .ty "tuple", _, _, _, rfl, .ty "tuple", hty.ty, kit_of1 hty.mem (by decide), _, rfl, ?_⟩
      have e0 : kitR "tuple" "tuple" = true := by decide
      rw [e0]
      refine iteF ?_
      refine ⟨(by show 1 ≤ sizeLine; decide), fun p np => ⟨_, rfl, ct, _, 2, .ref gaa, rfl, rfl, .inl (.inl (same_new np _ _ et)), rfl, gaa, gs, rfl, .inr (.inl (.inl (same_new np _ _ eg))), p, _, [V.non], rfl, rfl, upd_same, by omega, by omega, ?_, fun fa nfa => ?_⟩⟩
      · rw [sizeLine_eq]
        show 1 * ((gs.length : Int)).toNat ≤ _
        omega
      have n1p : Same H (L2.upd H p (.lst [V.non])) := same_new np
      generalize L2.upd H p (.lst [V.non]) = Hp1 at nfa n1p
      have e2 : (L2.upd Hp1 fa (.lst (List.replicate ((gs.length : Int)).toNat [V.non]).flatten)) fa = some (.lst ((List.replicate C.gates.length (none : Rd)).map rdV)) := by
        rw [upd_same, Int.toNat_natCast, lgs, rep_none]
      have s12 : Same H (L2.upd Hp1 fa (.lst (List.replicate ((gs.length : Int)).toNat [V.non]).flatten)) := n1p.trans (same_new nfa)
      have n1fa : H fa = none := n1p.free nfa
      generalize L2.upd Hp1 fa (.lst (List.replicate ((gs.length : Int)).toNat [V.non]).flatten) = H2 at e2 s12
      clear n1p nfa np
      have seqT : ∀ Hx, Same H Hx → SqT K Hx a ys := fun Hx s => extN_seqT (extN_same s) sq
      refine ⟨_, rfl, a, rfl, ⟨ys, seqT _ s12⟩, ?_⟩
      refine for_it (walk_tup (xs := ys)) (fun i σ Hx => ∃ (y5 : Option V) (F : List Rd), σ = [some (.ref ct), some (.ref ga), some (.ref ha), some (.ref a), some (.ref fa), y5] ∧ Same H Hx ∧ Hx fa = some (.lst (F.map rdV)) ∧ F.length = C.gates.length ∧
          toldI C.gates gv hv items (List.replicate C.gates.length none) = toldI C.gates gv hv (items.drop i) F)
        ⟨_, _, rfl, s12, e2, List.length_replicate, rfl⟩ (fun i σ Hx _ hh => ?_) (fun i v σ Hx Hx' hi hh hy => ?_) (fun σ Hx hh => ?_)
      · obtain ⟨_, _, _, s, _⟩ := hh
        exact seqT _ s
      · obtain ⟨y5, F, rfl, sx, efa, lF, heq⟩ := hh
        obtain ⟨rfl, hv1⟩ := hy
        have hv1 : ys[i]? = some v := hv1
        obtain ⟨pp, hp, hI⟩ := pr_getN hit hv1
        have hIx := hI.ext (extN_same sx)
        have hdrop : items.drop i = pp :: items.drop (i + 1) := by
          obtain ⟨hh1, hh2⟩ := List.getElem?_eq_some_iff.mp hp
          rw [← hh2]
          exact List.drop_eq_getElem_cons hh1
        rw [hdrop] at heq
        obtain ⟨t, xs⟩ := pp
        refine ⟨_, rfl, v, .ty "tuple", _, _, _, rfl, .ty "tuple", hIx.1.ty, kit_of1 hIx.1.mem (by decide), _, rfl, ?_⟩
        cases hpo : pairOf C.gates.length (t, xs) with
        | none =>
          have hn : toldI C.gates gv hv ((t, xs) :: items.drop (i + 1)) F = none := by
            unfold toldI
            rw [hpo]
          rw [hn] at heq
          rw [heq] at q
          have out : ∀ H3, Same H H3 → Q (.bl false) H3 := q
          by_cases ht1 : t = "tuple"
          · subst ht1
            have e1 : kitR "tuple" "tuple" = true := by decide
            rw [e1]
            refine iteF ?_
            obtain ⟨tp, rfl, sp⟩ := hIx.2.1 rfl
            refine ⟨_, rfl, tp, xs, rfl, .inr sp, rfl, _, rfl, ?_⟩
            by_cases hl2 : xs.length = 2
            · obtain ⟨x1, x2, rfl⟩ : ∃ x1 x2, xs = [x1, x2] := by
                match xs, hl2 with
                | [x1, x2], _ => exact ⟨x1, x2, rfl⟩
              obtain ⟨tx1, hx1⟩ := hIx.2.2 rfl x1 (by simp)
              obtain ⟨tx2, hx2⟩ := hIx.2.2 rfl x2 (by simp)
              refine iteF ?_
              refine ⟨_, rfl, tp, _, 0, x1, rfl, rfl, sp, rfl, x1, tx1, rfl, hx1, _, rfl, ?_⟩
              by_cases hi1 : tx1 = "int"
              · subst hi1
                obtain ⟨n, rfl⟩ := hx1.int
                refine iteF ⟨_, rfl, tp, _, 1, x2, rfl, rfl, sp, rfl, x2, tx2, rfl, hx2, _, rfl, ?_⟩
                cases hb2 : bel x2 2 with
                | false => exact iteT (out _ sx)
                | true =>
                  refine iteF ?_
                  have hb1 : bel (.int n) (C.gates.length : Int) = false := by
                    cases hb1 : bel (.int n) (C.gates.length : Int) with
                    | false => rfl
                    | true =>
                      have z : pairOf C.gates.length ("tuple", [.int n, x2]) = (if (decide (("tuple" : String) = "tuple") && bel (.int n) C.gates.length && bel x2 2) = true then (match V.int n, x2 with | .int i, .int j => some (i.toNat, decide (j = 1)) | _, _ => none) else none) := rfl
                      rw [z, hb1, hb2, if_pos (by decide)] at hpo
                      obtain ⟨b, rfl⟩ := bel_bit hb2
                      cases hpo
                  refine ⟨_, rfl, tp, _, 0, .int n, rfl, rfl, sp, rfl, _, _, rfl, rfl, _, rfl, ite2 (fun hc => ?_) (fun hc => ?_)⟩
                  · refine ⟨_, rfl, fa, _, rfl, .inl (.inl (.inl efa)), _, _, rfl, rfl, _, rfl, ?_⟩
                    rw [List.length_map, lF]
                    have e2 : decide (n < (C.gates.length : Int)) = false := by
                      have z : (decide (0 ≤ n) && decide (n < (C.gates.length : Int))) = false := hb1
                      rw [hc] at z
                      exact z
                    rw [e2]
                    exact iteT (iteT (out _ sx))
                  · refine ⟨_, rfl, ?_⟩
                    exact iteT (iteT (out _ sx))
              · rw [decide_eq_false hi1]
                exact iteT (iteT (out _ sx))
            · have e2 : (!decide (V.int (xs.length : Int) = V.int 2)) = true := by
                rw [decide_eq_false fun z => hl2 (by have := V.int.inj z; omega)]
                rfl
              rw [e2]
              exact iteT (iteT (out _ sx))
          · have e1 : kitR t "tuple" = false := by
              unfold kitR
              rw [decide_eq_false ht1]
              simp
            rw [e1]
            exact iteT (iteT (out _ sx))
        | some gb =>
          obtain ⟨g, b⟩ := gb
          obtain ⟨ht1, hxs, hgl⟩ := pair_some hpo
          have ht1 : t = "tuple" := ht1
          have hxs : xs = [.int (g : Int), bitV b] := hxs
          subst ht1 hxs
          obtain ⟨tp, rfl, sp⟩ := hIx.2.1 rfl
          have hs : toldI C.gates gv hv (("tuple", [.int (g : Int), bitV b]) :: items.drop (i + 1)) F = if F.getD g none = none ∧ readG C.gates gv hv F g = some b then toldI C.gates gv hv (items.drop (i + 1)) (F.set g (some b)) else none := by
            show (match pairOf C.gates.length ("tuple", [.int (g : Int), bitV b]) with | none => none | some (g, b) => _) = _
            rw [hpo]
          rw [hs] at heq
          have e1 : kitR "tuple" "tuple" = true := by decide
          rw [e1]
          refine iteF ⟨_, rfl, tp, _, rfl, .inr sp, rfl, _, rfl, iteF ?_⟩
          refine ⟨_, rfl, tp, _, 0, .int (g : Int), rfl, rfl, sp, rfl, .int (g : Int), "int", rfl, ty_int _, _, rfl, iteF ?_⟩
          refine ⟨_, rfl, tp, _, 1, bitV b, rfl, rfl, sp, rfl, bitV b, "int", rfl, ty_int _, _, rfl, ?_⟩
          rw [bel_bitV]
          refine iteF ?_
          have c0 : decide ((0 : Int) ≤ (g : Int)) = true := decide_eq_true (Int.natCast_nonneg g)
          refine ⟨_, rfl, tp, _, 0, .int (g : Int), rfl, rfl, sp, rfl, _, _, rfl, rfl, _, rfl, ?_⟩
          rw [c0]
          refine iteT ⟨_, rfl, fa, _, rfl, .inl (.inl (.inl efa)), _, _, rfl, rfl, _, rfl, ?_⟩
          rw [List.length_map, lF]
          have c1 : decide ((g : Int) < (C.gates.length : Int)) = true := decide_eq_true (by omega)
          rw [c1]
          refine iteF ?_
          have hgg : gs[g]? = some (gs[g]'(by omega)) := List.getElem?_eq_getElem (by omega)
          obtain ⟨gt, hgt, hga⟩ := all_get hgs hgg
          have hre : readG C.gates gv hv F g = gateV gv hv F gt := by
            unfold readG
            rw [hgt]
          have nx := extN_same sx
          refine ⟨_, rfl, _, rfl, tp, _, 0, .int (g : Int), rfl, rfl, sp, rfl, fa, _, (g : Int), _, rfl, rfl, .inl (.inl efa), at_rd (by rw [lF]; exact hgl), rfl, _, rfl, ?_⟩
          cases eF : F.getD g none with
          | some b' =>
            have n : decide (rdV (some b') = V.non) = false := by cases b' <;> rfl
            rw [n]
            rw [eF, if_neg (fun z => by cases z.1)] at heq
            rw [heq] at q
            exact iteT (iteT (q _ sx))
          | none =>
            refine iteF ⟨_, rfl, ct, _, 2, .ref gaa, rfl, rfl, .inl (.inl (sx _ _ et)), rfl, _, rfl, tp, _, 0, .int (g : Int), rfl, rfl, sp, rfl, gaa, gs, (g : Int), _, rfl, rfl, .inl (.inl (sx _ _ eg)), atI_nat hgg, _, rfl, _, rfl, _, rfl, _, gt, ga, ha, fa, gv, hv, F, rfl, hga.ext nx, by rw [lgv, lhv, lF]; exact ok.gates gt (List.mem_of_getElem? hgt), extN_seqT nx hg, extN_seqT nx hh, .inl (.inl (.inl efa)), fun H3 s3 => ⟨_, rfl, tp, _, 1, bitV b, rfl, rfl, extN_seqT (extN_same s3) sp, rfl, scal_rdN _ (some b), _, rfl, ?_⟩⟩
            have sp3 := extN_seqT (extN_same s3) sp
            rw [← hre]
            by_cases c : readG C.gates gv hv F g = some b
            · rw [eF, if_pos ⟨rfl, c⟩] at heq
              have e1 : (!decide (rdV (readG C.gates gv hv F g) = bitV b)) = false := by
                rw [c]
                simp [rdV]
              rw [e1]
              have ixn : ixN (F.map rdV).length (g : Int) = some g := by
                unfold ixN
                rw [List.length_map, lF, if_pos (Int.natCast_nonneg g), if_pos (by omega)]
                rfl
              refine iteF ⟨_, rfl, tp, _, 1, bitV b, rfl, rfl, sp3, rfl, _, rfl, _, rfl, tp, _, 0, .int (g : Int), rfl, rfl, sp3, rfl, fa, _, (g : Int), g, rfl, rfl, s3 _ _ efa, ixn, _, F.set g (some b), rfl, fun b' o e => ?_, ?_, by rw [List.length_set, lF], heq⟩
              · rw [upd_ne (ne_of_none e n1fa)]
                exact s3 _ _ (sx _ _ e)
              · rw [upd_same, List.map_set]
                rfl
            · rw [eF, if_neg (fun z => c z.2)] at heq
              rw [heq] at q
              have e1 : (!decide (rdV (readG C.gates gv hv F g) = bitV b)) = true := by
                have z : ¬ rdV (readG C.gates gv hv F g) = bitV b := fun z => c (rdV_injN (b := some b) z)
                rw [decide_eq_false z]
                rfl
              rw [e1]
              exact iteT (q _ (sx.trans s3))
      · obtain ⟨y5, F, rfl, sx, efa, lF, heq⟩ := hh
        have li : items.length = ys.length := (Paired.length hit).symm
        rw [← li, List.drop_length] at heq
        have z := q Hx sx
        rw [heq] at z
        exact z
    · have e0 : kitR t "tuple" = false := by
        unfold kitR
        rw [decide_eq_false ht]
        simp
      refine ⟨_, rfl, x, .ty "tuple", _, _, _, rfl, .ty "tuple", hty.ty, kit_of1 hty.mem (by decide), _, rfl, ?_⟩
      rw [e0]
      have z := q H fun _ _ e => e
      have e1 : toldBy C gv hv t items = none := if_neg ht
      rw [e1] at z
      exact iteT z
end
end K02

set_option Elab.async false
set_option linter.all false
set_option maxRecDepth 100000
set_option maxHeartbeats 4000000
/-! The law's own judge of lots. -/
namespace K02
open PySem PySem.Spec L2
open PyProof.Rows GenW GxR EZ TK
open LamX (ExtN)
abbrev sLIsLot : Stmt := top 65 -- _law_is_lot
/-- the readings that pairs put, one behind the other -/
def putsI (n : Nat) : List Item → List Rd → List Rd
  | [], F => F
  | p :: r, F => match pairOf n p with
    | none => F
    | some (g, b) => putsI n r (F.set g (some b))
theorem told_puts {gs : List Gate} {gv hv : List Rd} : ∀ {items : List Item} {F G : List Rd}, toldI gs gv hv items F = some G → putsI gs.length items F = G ∧ ∀ p ∈ items, ∃ g b, pairOf gs.length p = some (g, b)
  | [], F, G, h => by
    cases h
    exact ⟨rfl, fun _ z => by cases z⟩
  | p :: r, F, G, h => by
    have h : (match pairOf gs.length p with | none => none | some (g, b) => if F.getD g none = none ∧ readG gs gv hv F g = some b then toldI gs gv hv r (F.set g (some b)) else none) = some G := h
    cases e : pairOf gs.length p with
    | none =>
      rw [e] at h
      cases h
    | some gb =>
      obtain ⟨g, b⟩ := gb
      rw [e] at h
      have h : (if F.getD g none = none ∧ readG gs gv hv F g = some b then toldI gs gv hv r (F.set g (some b)) else none) = some G := h
      by_cases c : F.getD g none = none ∧ readG gs gv hv F g = some b
      · rw [if_pos c] at h
        obtain ⟨h1, h2⟩ := told_puts h
        refine ⟨?_, fun q hq => ?_⟩
        · show (match pairOf gs.length p with | none => F | some (g, b) => putsI gs.length r (F.set g (some b))) = G
          rw [e]
          exact h1
        · rcases List.mem_cons.mp hq with z | z
          · rw [z]
            exact ⟨g, b, e⟩
          · exact h2 q z
      · rw [if_neg c] at h
        cases h
section
variable {P : Program} {w : World} {K : PySem.W.Frag} {mg : Str → Option Value} {base : Heap}
def spLLot (K : PySem.W.Frag) : Sp := fun vs H Q _ => ∃ (y x l : V) (C : Circ) (ga ha : Addr) (gv hv : List Rd) (t tl : String) (ys xs : List V) (items : List Item), vs = [y, .ref ga, .ref ha, x, l] ∧ CircAt H y C ∧ C.ok ∧ gv.length = C.ni ∧ hv.length = C.regs.length ∧ SqT K H ga (gv.map rdV) ∧ SqT K H ha (hv.map rdV) ∧ OrderV K H x t ys items ∧ ItemsV K H l tl xs ∧ xs.length ≤ 10000 ∧ ∀ H', Same H H' → Q (.bl (lotBy C gv hv (toldBy C gv hv t items) tl xs)) H'
abbrev nLL : List Str := ["circuit", "given", "held", "order", "item", "readings", "spot", "bit", "due", "reading"]
theorem scLL : FnScope nLL ["circuit", "given", "held", "order", "item"] (defScope sLIsLot) := ⟨rfl, rfl, rfl, by decide +kernel, rfl, by decide +kernel, by decide +kernel⟩
theorem ok_llot {f fW fR : Addr} {fd fdW fdR : FuncData} (F : Fun K "_law_is_lot" "_law_is_lot" sLIsLot f fd) (mi : mg "isinstance" = none) (mtuple : mg "tuple" = none) (mlen : mg "len" = none) (men : mg "enumerate" = none)
    (GW : FnOk P w K mg base CX0 1 fW fdW ["item"] (spNumber K)) (kW : PySem.W.keepIn K (.ref fW) = true) (bW : Binds K fdW ["item"] []) (mW : mg "_law_is_whole" = some (.ref fW))
    (GR : FnOk P w K mg base CX0 6 fR fdR ["circuit", "given", "held", "item"] (spLOrder K)) (kR : PySem.W.keepIn K (.ref fR) = true) (bR : Binds K fdR ["circuit", "given", "held", "item"] []) (mR : mg "_law_is_order" = some (.ref fR))
    (cO : Cal P w K mg base CX0 5 "_law_one" ["gate", "given", "held", "readings"] (spLOne K)) : FnOk P w K mg base CX0 7 f fd ["circuit", "given", "held", "order", "item"] (spLLot K) := by
  obtain ⟨fO, fdO, GO, kO, bO, mO⟩ := cO
  refine F.ok scLL (fun vs H Q E h => ?_) (fun cdv A outer s H vs Q E hr h => ?_)
  · obtain ⟨y, x, l, C, ga, ha, gv, hv, t, tl, ys, xs, items, rfl, _⟩ := h
    rfl
  · obtain ⟨y, x, l, C, ga, ha, gv, hv, t, tl, ys, xs, items, rfl, hC, ok, lgv, lhv, hg', hh, ov, il, lx, q⟩ := h
    have hu64 := hr.units
    refine ⟨_, (pss_cons (ps_if (pw_or (pt_not (pt_val (pe_call GR (hr.mono (by decide)) (by rfl) mR kR bR .nil pass0 (pa_cons (pv 0) (pa_cons (pv 1) (pa_cons (pv 2) (pa_cons (pv 3) pa_nil))))))) (pw_or (pt_not (pt_val (pe_callB call_isi (by rfl) mi (by decide +kernel) (pa_cons (pv 4) (pa_cons (pe_bltn (v := .ty "tuple") (u := .type "tuple") (by rfl) mtuple (by decide +kernel) rfl) pa_nil))))) (pw_or1 (pt_cmpR (op_neD hu64) (pe_lc (own := [("spot", 6)]) (g := gName 6) rfl scLL.nd (pi_tup (pv 4)) (blkOk_by (N := nLL) (sc := defScope sLIsLot) (by decide +kernel)) (fun _ _ _ _ _ => (pg_name (i := 6) scLL.nd rfl (Or.inl rfl))) (fun _ _ _ _ _ => pts_one (pt_not (pt_val (pe_call GW (hr.mono (by decide)) (by rfl) mW kW bW .nil pass0 (pa_cons (pv 6) pa_nil))))) (fun _ _ _ _ _ => pe_int)) (pe_lst pa_nil) (nomark _))))).pt (pss_one (ps_ret pe_bl)) pss_nil)
      (pss_cons (ps_set (i := 5) scLL.nd rfl (Or.inr rfl) (pe_op op_rep (pe_lst (pa_cons pe_non pa_nil)) (pe_callB call_len_seq (by rfl) mlen PySem.boot_len (pa_cons (pe_ix (r := rIxT K) ix_tup (pv 0) pe_int (fun _ _ => rfl)) pa_nil))))
      (pss_cons (ps_for PassesOwn.never rfl (pi_tup (pv 3)) (pg_tup rfl (pgs_cons (pg_name (i := 6) scLL.nd rfl (Or.inl rfl)) (pgs_cons (pg_name (i := 7) scLL.nd rfl (Or.inl rfl)) pgs_nil)))
        (pss_one (ps_asg (pv 7) (pg_sub (pv 5) (pv 6) set_list))))
      (pss_cons (ps_set (i := 8) scLL.nd rfl (Or.inl rfl) (pe_callTy call_tuple_of (by rfl) mtuple (by decide +kernel) (pa_cons (pe_lc (own := [("spot", 6), ("reading", 9)]) (g := gTup K 2 (gCons (gName 6) (gCons (gName 9) gNil))) rfl scLL.nd (pi_enum (by rfl) men (pa_cons (pv 5) pa_nil)) (blkOk_by (N := nLL) (sc := defScope sLIsLot) (by decide +kernel)) (fun _ _ _ _ _ => (pg_tup rfl (pgs_cons (pg_name (i := 6) scLL.nd rfl (Or.inl rfl)) (pgs_cons (pg_name (i := 9) scLL.nd rfl (Or.inl rfl)) pgs_nil)))) (fun _ _ _ _ _ => pts_one (pt_cmpR op_isN (pv 9) pe_non (nomark _))) (fun _ _ _ _ _ => (pv 6))) pa_nil)))
      (pss_one (ps_ret (pe_and (pe_cmpR (op_eqD hu64) (pv 4) (pv 8) (nomark _)) (pe_one (pe_cmpR (op_eqD hu64) (pe_lc (own := [("spot", 6)]) (g := gName 6) rfl scLL.nd (pi_tup (pv 8)) (blkOk_by (N := nLL) (sc := defScope sLIsLot) (by decide +kernel)) (fun _ _ _ _ _ => (pg_name (i := 6) scLL.nd rfl (Or.inl rfl))) (fun _ _ _ _ _ => pts_one (pt_cmpR op_notN (pe_call GO (hr.mono (by decide)) (by rfl) mO kO bO .nil pass0 (pa_cons (pe_ix (r := rIxT K) ix_tup (pe_ix (r := rIxT K) ix_tup (pv 0) pe_int (fun _ _ => rfl)) (pv 6) (fun _ _ => rfl)) (pa_cons (pv 1) (pa_cons (pv 2) (pa_cons (pv 5) pa_nil))))) pe_non (nomark _))) (fun _ _ _ _ _ => pe_int)) (pe_lst pa_nil) (nomark _)))))))))), ?_⟩
    obtain ⟨hty, htv, hit⟩ := id ov
    refine ⟨_, rfl, _, rfl, _, rfl, _, rfl, y, x, C, ga, ha, gv, hv, t, ys, items, rfl, hC, ok, lgv, lhv, hg', hh, ov, fun H1 s1 => ⟨_, rfl, ?_⟩⟩
    have il1 := il.ext (extN_same s1)
    cases hF : toldBy C gv hv t items with
    | none =>
      rw [hF] at q
      exact iteT (iteT (q H1 s1))
    | some G =>
      rw [hF] at q
      have q : ∀ H', Same H H' → Q (.bl (lotOk C gv hv G tl xs)) H' := q
      have lG := toldBy_len hF
      refine iteF ?_
      refine ⟨_, rfl, l, .ty "tuple", _, _, _, rfl, .ty "tuple", il1.1.ty, kit_of1 il1.1.mem (by decide), _, rfl, ?_⟩
      by_cases htl : tl = "tuple"
      · subst htl
        have e0 : kitR "tuple" "tuple" = true := by decide
        rw [e0]
        refine iteF ?_
        obtain ⟨lb, rfl, sl⟩ := il1.2.1 rfl
        have htys := il1.2.2 rfl
        refine ⟨_, rfl, lb, rfl, ⟨xs, sl⟩, fun D nD => ?_⟩
        refine lc_tup (xs := xs) (fun i H2 => Same H1 H2 ∧ ∃ k : Nat, H2 D = some (.lst (List.replicate k (V.int 1))) ∧ k ≤ i ∧ (k = 0 ↔ ((xs.take i).all fun z => isI z) = true)) ⟨same_new nD, 0, upd_same, Nat.le_refl _, (fun _ => rfl), (fun _ => rfl)⟩ (fun i H2 _ z => extN_seqT (extN_same z.1) sl) (fun i v H2 hv1 ⟨s2, k, e2, lk, hk⟩ => ?_) (fun H2 ⟨s2, k, e2, lk, hk⟩ => ?_)
        · obtain ⟨tv, htv1⟩ := htys v (List.mem_of_getElem? hv1)
          have hi2 : i < xs.length := (List.getElem?_eq_some_iff.mp hv1).1
          refine ⟨rfl, _, rfl, v, tv, rfl, htv1.ext (extN_same s2), _, rfl, ?_⟩
          rw [← isI_ty htv1]
          have step : ((xs.take (i + 1)).all fun z => isI z) = (((xs.take i).all fun z => isI z) && isI v) := by
            rw [take_snoc hv1, List.all_append]
            simp
          cases hiv : isI v with
          | true =>
            refine iteF ⟨s2, k, e2, Nat.le_succ_of_le lk, ?_⟩
            rw [step, hiv, Bool.and_true]
            exact hk
          | false =>
            refine iteT ⟨_, e2, ?_, fun c o e => ?_, k + 1, ?_, Nat.succ_le_succ lk, ?_⟩
            · rw [List.length_replicate, sizeLine_eq]
              omega
            · rw [upd_ne (ne_of_none e nD)]
              exact s2 _ _ e
            · rw [upd_same, List.replicate_succ']
            · rw [step, hiv, Bool.and_false]
              exact ⟨fun z => by omega, fun z => by cases z⟩
        rw [List.take_length] at hk
        refine ⟨Nat.zero_le _, fun p1 np1 => ?_⟩
        have s3 := same_new (o := .lst []) np1
        have er1 : List.replicate k (V.int 1) = (List.replicate k (1 : Int)).map V.int := by rw [List.map_replicate]
        have e3 := s3 _ _ e2
        rw [er1] at e3
        refine ⟨.list ((List.replicate k (1 : Int)).map PyData.int), .list [], .lst (.inl (.inl e3)) (dp_intsN _), .lst (.inl (.inl upd_same)) .nil, PySem.W.ke_shaped_ints _, rfl, _, rfl, ?_⟩
        have s13 := s1.trans (s2.trans s3)
        generalize L2.upd H2 p1 (.lst []) = H3 at s3 s13
        rw [eqv_nilL]
        by_cases hall : (xs.all fun z => isI z) = true
        · have k0 : k = 0 := hk.mpr hall
          subst k0
          refine iteF ?_
          obtain ⟨ns, rfl⟩ := ints_of hall
          have ht : t = "tuple" := by
            by_cases z : t = "tuple"
            · exact z
            · unfold toldBy at hF
              rw [if_neg z] at hF
              cases hF
          subst ht
          obtain ⟨a, rfl, sq⟩ := htv rfl
          have hit := hit rfl
          have hF2 : toldI C.gates gv hv items (List.replicate C.gates.length none) = some G := by
            have z : toldBy C gv hv "tuple" items = toldI C.gates gv hv items (List.replicate C.gates.length none) := if_pos rfl
            rw [← z, hF]
          obtain ⟨hput, hprs⟩ := told_puts hF2
          obtain ⟨ct, ra, gaa, oa, rs, gs, os, rfl, et, er, eg, eo, hrs, hgs, hos⟩ := id hC
          have lgs : gs.length = C.gates.length := Paired.length hgs
          have k3 := ok.ng
          have sl3 := extN_seqT (extN_same (s2.trans s3)) sl
          clear e3 er1 e2
          refine ⟨(by show 1 ≤ sizeLine; decide), fun p np => ⟨_, rfl, ct, _, 2, .ref gaa, rfl, rfl, .inl (.inl (same_new np _ _ (s13 _ _ et))), rfl, gaa, gs, rfl, .inr (.inl (.inl (same_new np _ _ (s13 _ _ eg)))), p, _, [V.non], rfl, rfl, upd_same, by omega, by omega, ?_, fun fa nfa => ?_⟩⟩
          · rw [sizeLine_eq]
            show 1 * ((gs.length : Int)).toNat ≤ _
            omega
          have n1p : Same H3 (L2.upd H3 p (.lst [V.non])) := same_new np
          generalize L2.upd H3 p (.lst [V.non]) = Hp1 at nfa n1p
          have e2 : (L2.upd Hp1 fa (.lst (List.replicate ((gs.length : Int)).toNat [V.non]).flatten)) fa = some (.lst ((List.replicate C.gates.length (none : Rd)).map rdV)) := by
            rw [upd_same, Int.toNat_natCast, lgs, rep_none]
          have s12 : Same H3 (L2.upd Hp1 fa (.lst (List.replicate ((gs.length : Int)).toNat [V.non]).flatten)) := n1p.trans (same_new nfa)
          have n1fa : H3 fa = none := n1p.free nfa
          generalize L2.upd Hp1 fa (.lst (List.replicate ((gs.length : Int)).toNat [V.non]).flatten) = H4 at e2 s12
          clear n1p nfa np
          have seqT : ∀ Hx, Same H3 Hx → SqT K Hx a ys := fun Hx s => extN_seqT (extN_same (s13.trans s)) sq
          refine ⟨_, rfl, a, rfl, ⟨ys, seqT _ s12⟩, ?_⟩
          refine for_it (walk_tup (xs := ys)) (fun i σ Hx => ∃ (y6 y7 : Option V) (F : List Rd), σ = [some (.ref ct), some (.ref ga), some (.ref ha), some (.ref a), some (.ref lb), some (.ref fa), y6, y7, none, none] ∧ Same H3 Hx ∧ Hx fa = some (.lst (F.map rdV)) ∧ F.length = C.gates.length ∧ putsI C.gates.length (items.drop i) F = G)
            ⟨_, _, _, rfl, s12, e2, List.length_replicate, hput⟩ (fun i σ Hx _ hh => ?_) (fun i v σ Hx Hx' hi hh hy => ?_) (fun σ Hx hh => ?_)
          · obtain ⟨_, _, _, _, s, _⟩ := hh
            exact seqT _ s
          · obtain ⟨y6, y7, F, rfl, sx, efa, lF, heq⟩ := hh
            obtain ⟨rfl, hv1⟩ := hy
            have hv1 : ys[i]? = some v := hv1
            obtain ⟨pp, hp, hI⟩ := pr_getN hit hv1
            have hIx := hI.ext (extN_same (s13.trans sx))
            have hdrop : items.drop i = pp :: items.drop (i + 1) := by
              obtain ⟨hh1, hh2⟩ := List.getElem?_eq_some_iff.mp hp
              rw [← hh2]
              exact List.drop_eq_getElem_cons hh1
            rw [hdrop] at heq
            obtain ⟨g, b, hpo⟩ := hprs pp (List.mem_of_getElem? hp)
            obtain ⟨t, xs⟩ := pp
            obtain ⟨ht1, hxs, hgl⟩ := pair_some hpo
            have ht1 : t = "tuple" := ht1
            have hxs : xs = [.int (g : Int), bitV b] := hxs
            subst ht1 hxs
            obtain ⟨tp, rfl, sp⟩ := hIx.2.1 rfl
            have hs : putsI C.gates.length (("tuple", [.int (g : Int), bitV b]) :: items.drop (i + 1)) F = putsI C.gates.length (items.drop (i + 1)) (F.set g (some b)) := by
              show (match pairOf C.gates.length ("tuple", [.int (g : Int), bitV b]) with | none => F | some (g, b) => _) = _
              rw [hpo]
            rw [hs] at heq
            have ixn : ixN (F.map rdV).length (g : Int) = some g := by
              unfold ixN
              rw [List.length_map, lF, if_pos (Int.natCast_nonneg g), if_pos (by omega)]
              rfl
            refine ⟨tp, _, rfl, sp, rfl, _, _, rfl, _, _, rfl, rfl, _, rfl, _, rfl, _, rfl, fa, _, (g : Int), g, rfl, rfl, efa, ixn, _, _, F.set g (some b), rfl, fun b' o e => ?_, ?_, by rw [List.length_set, lF], heq⟩
            · rw [upd_ne (ne_of_none e n1fa)]
              exact sx _ _ e
            · rw [upd_same, List.map_set]
              rfl
          obtain ⟨y6, y7, F, rfl, sx, efa, lF, heq⟩ := hh
          have li : items.length = ys.length := (Paired.length hit).symm
          rw [← li, List.drop_length] at heq
          have heq : F = G := heq
          subst heq
          clear hput hprs hF2 hF hit
          -- what is due
          refine ⟨_, rfl, fa, _, rfl, .inl (.inl efa), fun D2 nD2 => ?_⟩
          refine lc_it (walk_enum (xs := F.map rdV)) (fun i H5 => Same Hx H5 ∧ H5 D2 = some (.lst (nV (opensTo F i)))) ⟨same_new nD2, upd_same⟩ (fun i H5 _ z => .inl (.inl (z.1 _ _ efa))) (fun i v H5 H5' hi ⟨s5, e5⟩ hy => ?_) (fun H5 ⟨s5, e5⟩ => ?_)
          · obtain ⟨T, x1, y1, rfl, nT, rfl, hx, hy⟩ := hy
            cases hx
            have hy : (F.map rdV)[i]? = some y1 := hy
            rw [List.getElem?_map] at hy
            obtain ⟨r, hr2, rfl⟩ := Option.map_eq_some_iff.mp hy
            have sT := same_new (o := .tup [.int (i : Nat), rdV r]) nT
            have hg : F.getD i none = r := by rw [List.getD_eq_getElem?_getD, hr2]; rfl
            have step : opensTo F (i + 1) = opensTo F i ++ (if r.isNone = true then [i] else []) := by
              unfold opensTo
              rw [List.range_succ, List.filter_append, List.filter_cons, hg]
              rfl
            refine ⟨T, _, rfl, .inl (.inl upd_same), rfl, _, _, rfl, _, _, rfl, rfl, rfl, ?_⟩
            refine ⟨_, rfl, rfl, _, rfl, ?_⟩
            rw [rdV_isN]
            cases r with
            | some b =>
              refine iteF ⟨s5.trans sT, ?_⟩
              rw [step, if_neg (show ¬ ((some b : Rd).isNone = true) from fun z => by cases z), List.append_nil]
              exact sT _ _ e5
            | none =>
              refine iteT ⟨_, rfl, _, sT _ _ e5, ?_, fun c o e => ?_, ?_⟩
              · have z := opens_len F i
                have z2 : i < F.length := (List.getElem?_eq_some_iff.mp hr2).1
                rw [nV_len, sizeLine_eq]
                omega
              · rw [upd_ne (ne_of_none e nD2)]
                exact sT _ _ (s5 _ _ e)
              · rw [upd_same, step]
                show some (HO.lst (nV _ ++ [V.int (i : Int)])) = some (HO.lst (nV (_ ++ [i])))
                unfold nV
                rw [List.map_append]
                rfl
          rw [List.length_map] at e5
          have e5 : H5 D2 = some (.lst (nV (opensF F))) := e5
          refine ⟨D2, _, rfl, .inl ⟨.inl (.inl e5), fun du ndu => ?_⟩⟩
          have s6 := s5.trans (same_new (o := .tup (nV (opensF F))) ndu)
          have edu : (L2.upd H5 du (.tup (nV (opensF F)))) du = some (.tup (nV (opensF F))) := upd_same
          generalize L2.upd H5 du (.tup (nV (opensF F))) = H6 at s6 edu
          have s36 := sx.trans s6
          have efa6 := s6 _ _ efa
          have sl6 := extN_seqT (extN_same s36) sl3
          have edu' := edu
          rw [nV_ints] at edu'
          refine ⟨_, rfl, _, rfl, .tuple (ns.map PyData.int), .tuple (((opensF F).map fun (n : Nat) => (n : Int)).map PyData.int), .tup sl6 (dp_intsN _), .tup (.inl (.inl edu')) (dp_intsN _), layN_shaped (lay_intsN _) (by decide), layN_shaped (lay_intsN _) (by decide), ?_⟩
          have ee : PyData.eqv (.tuple (ns.map PyData.int)) (.tuple (((opensF F).map fun (n : Nat) => (n : Int)).map PyData.int)) = decide (ns = (opensF F).map fun (n : Nat) => (n : Int)) := eqv_ints _ _
          rw [ee]
          refine ⟨_, rfl, ?_⟩
          have sH6 := s13.trans s36
          by_cases c : ns = (opensF F).map fun (n : Nat) => (n : Int)
          · subst c
            rw [decide_eq_true rfl]
            refine iteT ?_
            rw [← nV_ints] at q
            have q3 : ∀ H7, Same H H7 → Q (.bl ((opensF F).all fun g => (readG C.gates gv hv F g).isNone)) H7 := fun H7 x7 => by
              have z := q H7 x7
              unfold lotOk at z
              rw [decide_eq_true rfl, decide_eq_true rfl] at z
              exact z
            refine ⟨_, rfl, du, rfl, ⟨_, .inl (.inl edu)⟩, fun D3 nD3 => ?_⟩
            refine lc_tup (xs := nV (opensF F)) (fun i H7 => Same H6 H7 ∧ ∃ k : Nat, H7 D3 = some (.lst (List.replicate k (V.int 1))) ∧ k ≤ i ∧ (k = 0 ↔ (((opensF F).take i).all fun g => (readG C.gates gv hv F g).isNone) = true)) ⟨same_new nD3, 0, upd_same, Nat.le_refl _, (fun _ => rfl), (fun _ => rfl)⟩ (fun i H7 _ z => .inl (.inl (z.1 _ _ edu))) (fun i v H7 hv1 ⟨s7, k, e7, lk, hk⟩ => ?_) (fun H7 ⟨s7, k, e7, lk, hk⟩ => ?_)
            · obtain ⟨g, hg, rfl⟩ := nV_get hv1
              obtain ⟨hgl, _⟩ := opens_mem (List.mem_of_getElem? hg)
              have hi2 : i < (opensF F).length := (List.getElem?_eq_some_iff.mp hg).1
              have lop : (opensF F).length ≤ F.length := opens_len F F.length
              rw [lF] at hgl lop
              have hgg : gs[g]? = some (gs[g]'(by omega)) := List.getElem?_eq_getElem (by omega)
              obtain ⟨gt, hgt, hga⟩ := all_get hgs hgg
              have hre : readG C.gates gv hv F g = gateV gv hv F gt := by
                unfold readG
                rw [hgt]
              have sH7 := sH6.trans s7
              have nx := extN_same sH7
              refine ⟨rfl, _, rfl, ct, _, 2, .ref gaa, rfl, rfl, .inl (.inl (sH7 _ _ et)), rfl, _, rfl, gaa, gs, (g : Int), _, rfl, rfl, .inl (.inl (sH7 _ _ eg)), atI_nat hgg, _, rfl, _, rfl, _, rfl, _, gt, ga, ha, fa, gv, hv, F, rfl, hga.ext nx, by rw [lgv, lhv, lF]; exact ok.gates gt (List.mem_of_getElem? hgt), extN_seqT nx hg', extN_seqT nx hh, .inl (.inl (.inl (s7 _ _ efa6))), fun H8 s8 => ⟨rfl, _, rfl, ?_⟩⟩
              rw [rdV_isN, ← hre]
              have step : (((opensF F).take (i + 1)).all fun g => (readG C.gates gv hv F g).isNone) = ((((opensF F).take i).all fun g => (readG C.gates gv hv F g).isNone) && (readG C.gates gv hv F g).isNone) := by
                rw [take_snoc hg, List.all_append]
                simp
              have e8 := s8 _ _ e7
              cases hr : (readG C.gates gv hv F g).isNone with
              | true =>
                refine iteF ⟨s7.trans s8, k, e8, Nat.le_succ_of_le lk, ?_⟩
                rw [step, hr, Bool.and_true]
                exact hk
              | false =>
                refine iteT ⟨_, e8, ?_, fun c o e => ?_, k + 1, ?_, Nat.succ_le_succ lk, ?_⟩
                · rw [List.length_replicate, sizeLine_eq]
                  omega
                · rw [upd_ne (ne_of_none e nD3)]
                  exact s8 _ _ (s7 _ _ e)
                · rw [upd_same, List.replicate_succ']
                · rw [step, hr, Bool.and_false]
                  exact ⟨fun z => by omega, fun z => by cases z⟩
            rw [nV_len, List.take_length] at hk
            refine ⟨Nat.zero_le _, fun p9 np9 => ?_⟩
            have s9 := same_new (o := .lst []) np9
            have er9 : List.replicate k (V.int 1) = (List.replicate k (1 : Int)).map V.int := by rw [List.map_replicate]
            have e9 := s9 _ _ e7
            rw [er9] at e9
            refine ⟨.list ((List.replicate k (1 : Int)).map PyData.int), .list [], .lst (.inl (.inl e9)) (dp_intsN _), .lst (.inl (.inl upd_same)) .nil, PySem.W.ke_shaped_ints _, rfl, ?_⟩
            rw [eqv_nilL]
            have z := q3 _ (sH6.trans (s7.trans s9))
            cases hall2 : (opensF F).all fun g => (readG C.gates gv hv F g).isNone with
            | true =>
              rw [hall2] at z hk
              have k0 : k = 0 := hk.mpr rfl
              subst k0
              exact z
            | false =>
              rw [hall2] at z hk
              have k0 : k ≠ 0 := fun w => by cases hk.mp w
              cases k with
              | zero => exact absurd rfl k0
              | succ k => exact z
          · rw [decide_eq_false c]
            refine iteF ?_
            have f : lotOk C gv hv F "tuple" (ns.map V.int) = false := by
              cases f : lotOk C gv hv F "tuple" (ns.map V.int) with
              | false => rfl
              | true =>
                unfold lotOk at f
                simp only [Bool.and_eq_true, decide_eq_true_eq] at f
                obtain ⟨⟨_, f2⟩, _⟩ := f
                rw [nV_ints] at f2
                exact absurd ((List.map_inj_right fun _ _ h => V.int.inj h).mp f2) c
            have z := q H6 sH6
            rw [f] at z
            exact z
        · have k0 : k ≠ 0 := fun z => hall (hk.mp z)
          have ef : ((List.replicate k (1 : Int)).map PyData.int).isEmpty = false := by
            cases k with
            | zero => exact absurd rfl k0
            | succ k => rfl
          rw [ef]
          have f : lotOk C gv hv G "tuple" xs = false := by
            cases f : lotOk C gv hv G "tuple" xs with
            | false => rfl
            | true =>
              unfold lotOk at f
              simp only [Bool.and_eq_true, decide_eq_true_eq] at f
              obtain ⟨⟨_, f2⟩, _⟩ := f
              rw [f2, nV_ints, all_ints] at hall
              exact absurd rfl hall
          have z := q H3 s13
          rw [f] at z
          exact iteT z
      · have e0 : kitR tl "tuple" = false := by
          unfold kitR
          rw [decide_eq_false htl]
          simp
        rw [e0]
        have z := q H1 s1
        have f : lotOk C gv hv G tl xs = false := by
          unfold lotOk
          rw [decide_eq_false htl]
          rfl
        rw [f] at z
        exact iteT (iteT z)
end
end K02

set_option Elab.async false
set_option linter.all false
set_option maxRecDepth 100000
set_option maxHeartbeats 4000000
/-! Values of other kinds, orders that are bent. -/
namespace K02
open PySem PySem.Spec L2
open PyProof.Rows GenW GxR EZ TK
open LamX (ExtN)
abbrev sOdd : Stmt := top 48 -- _law_odd
section
variable {P : Program} {w : World} {K : PySem.W.Frag} {mg : Str → Option Value} {base : Heap}
theorem StOk.there {H : Hp} {st lg cl : Addr} {t : Nat} (S : StOk H st lg cl t) : H st ≠ none ∧ H lg ≠ none := by
  obtain ⟨ls, cs, left, turn, S⟩ := S
  refine ⟨fun z => ?_, fun z => ?_⟩
  · have := S.d
    rw [z] at this
    cases this
  · have := S.l
    rw [z] at this
    cases this
theorem StOk.keepC {st lg cl ra : Addr} {H H' : Hp} {t : Nat} (S : StOk H st lg cl t) (k : ∀ b o, b ≠ ra → H b = some o → H' b = some o) (n1 : ra ≠ st) (n2 : ra ≠ lg) (n3 : ra ≠ cl) : StOk H' st lg cl t := by
  obtain ⟨ls, cs, left, turn, S⟩ := S
  exact ⟨ls, cs, left, turn, k _ _ n1.symm S.d, k _ _ n2.symm S.l, k _ _ n3.symm S.c, S.lp, S.l0, S.t0, S.tt, S.ll, S.cc, S.ne⟩
/-- what stands already -/
abbrev Here (H : Hp) (a : Addr) : Prop := H a ≠ none
theorem str_at (z : Str) (h1 : (PyData.str z).canLay0 = true := by decide +kernel) (h2 : (PyData.str z).showable = true := by decide +kernel) (h3 : (PyData.str z).intsShort 13 = true := by decide +kernel) (h4 : (PyData.str z).weight ≤ 20 := by decide +kernel) : At0 (.str z) (.str z) := .str z ⟨h1, h2, rfl, h3⟩ h4 rfl
theorem int_at (i : Int) (h1 : -100 ≤ i := by decide) (h2 : i ≤ 100 := by decide) : At0 (.int i) (.int i) := .int i h1 h2
def spOdd : Sp := fun vs H Q _ => ∃ (st lg cl : Addr) (t : Nat), vs = [.ref st] ∧ t + 100 < 1000000000 ∧ StOk H st lg cl t ∧
  ∀ (x : V) (d : PyData) (H' : Hp), IT (Here H) H' x d → StOk H' st lg cl (t + 1) → But st lg H H' → Q x H'
theorem scOdd : FnScope ["state"] ["state"] (defScope sOdd) := ⟨rfl, rfl, rfl, by decide +kernel, rfl, by decide +kernel, by decide +kernel⟩
theorem ok_odd {f : Addr} {fd : FuncData} (F : Fun K "_law_odd" "_law_odd" sOdd f fd) (cK : Cal P w K mg base CX0 2 "_law_pick" ["state", "several"] (spPick K)) : FnOk P w K mg base CX0 3 f fd ["state"] spOdd := by
  obtain ⟨fK, fdK, GK, kK, bK, mK⟩ := cK
  refine F.ok scOdd (fun vs H Q E h => ?_) (fun cdv A outer s H vs Q E hr h => ?_)
  · obtain ⟨st, lg, cl, t, rfl, _⟩ := h
    rfl
  · obtain ⟨st, lg, cl, t, rfl, ht, S, q⟩ := h
    refine ⟨_, (pss_one (ps_ret (pe_call GK (hr.mono (by decide)) (by rfl) mK kK bK .nil pass0 (pa_cons (pv 0) (pa_cons (pe_lst (pa_cons pe_non (pa_cons pe_bl (pa_cons pe_bl (pa_cons pe_str (pa_cons pe_str (pa_cons (pe_lst pa_nil) (pa_cons pe_dnewT (pa_cons (pe_tup (pa_cons pe_non pa_nil)) (pa_cons (pe_tup (pa_cons pe_str (pa_cons pe_int pa_nil))) (pa_cons (pe_lst (pa_cons (pe_lst (pa_cons pe_int pa_nil)) pa_nil)) (pa_cons (pe_tup (pa_cons pe_bl pa_nil)) (pa_cons (pe_tup (pa_cons (pe_tup pa_nil) pa_nil)) (pa_cons pe_int (pa_cons (pe_tup (pa_cons pe_str (pa_cons pe_int pa_nil))) pa_nil))))))))))))))) pa_nil))))), ?_⟩
    refine ⟨_, rfl, Nat.zero_le _, fun p1 n1 => ?_⟩
    have s1 := same_new (o := .lst []) n1
    have e1 : (L2.upd H p1 (.lst [])) p1 = some (.lst []) := upd_same
    generalize L2.upd H p1 (.lst []) = H1 at s1 e1
    refine fun p2 n2 => ?_
    have s2 := same_new (o := .dT []) n2
    have e2 : (L2.upd H1 p2 (.dT [])) p2 = some (.dT []) := upd_same
    generalize L2.upd H1 p2 (.dT []) = H2 at s2 e2
    refine ⟨(by show 1 ≤ sizeLine; decide), fun p3 n3 => ?_⟩
    have s3 := same_new (o := .tup [.non]) n3
    have e3 : (L2.upd H2 p3 (.tup [.non])) p3 = some (.tup [.non]) := upd_same
    generalize L2.upd H2 p3 (.tup [.non]) = H3 at s3 e3
    refine ⟨(by show 2 ≤ sizeLine; decide), fun p4 n4 => ?_⟩
    have s4 := same_new (o := .tup [.str "a", .int 1]) n4
    have e4 : (L2.upd H3 p4 (.tup [.str "a", .int 1])) p4 = some (.tup [.str "a", .int 1]) := upd_same
    generalize L2.upd H3 p4 (.tup [.str "a", .int 1]) = H4 at s4 e4
    refine ⟨(by show 1 ≤ sizeLine; decide), fun p5 n5 => ?_⟩
    have s5 := same_new (o := .lst [.int 0]) n5
    have e5 : (L2.upd H4 p5 (.lst [.int 0])) p5 = some (.lst [.int 0]) := upd_same
    generalize L2.upd H4 p5 (.lst [.int 0]) = H5 at s5 e5
    refine ⟨(by show 1 ≤ sizeLine; decide), fun p6 n6 => ?_⟩
    have s6 := same_new (o := .lst [.ref p5]) n6
    have e6 : (L2.upd H5 p6 (.lst [.ref p5])) p6 = some (.lst [.ref p5]) := upd_same
    generalize L2.upd H5 p6 (.lst [.ref p5]) = H6 at s6 e6
    refine ⟨(by show 1 ≤ sizeLine; decide), fun p7 n7 => ?_⟩
    have s7 := same_new (o := .tup [.bl true]) n7
    have e7 : (L2.upd H6 p7 (.tup [.bl true])) p7 = some (.tup [.bl true]) := upd_same
    generalize L2.upd H6 p7 (.tup [.bl true]) = H7 at s7 e7
    refine ⟨Nat.zero_le _, fun p8 n8 => ?_⟩
    have s8 := same_new (o := .tup []) n8
    have e8 : (L2.upd H7 p8 (.tup [])) p8 = some (.tup []) := upd_same
    generalize L2.upd H7 p8 (.tup []) = H8 at s8 e8
    refine ⟨(by show 1 ≤ sizeLine; decide), fun p9 n9 => ?_⟩
    have s9 := same_new (o := .tup [.ref p8]) n9
    have e9 : (L2.upd H8 p9 (.tup [.ref p8])) p9 = some (.tup [.ref p8]) := upd_same
    generalize L2.upd H8 p9 (.tup [.ref p8]) = H9 at s9 e9
    refine ⟨(by show 2 ≤ sizeLine; decide), fun p10 n10 => ?_⟩
    have s10 := same_new (o := .tup [.str "pause", .int 1]) n10
    have e10 : (L2.upd H9 p10 (.tup [.str "pause", .int 1])) p10 = some (.tup [.str "pause", .int 1]) := upd_same
    generalize L2.upd H9 p10 (.tup [.str "pause", .int 1]) = H10 at s10 e10
    have t10 : Same H10 H10 := fun _ _ e => e
    have t9 := s10.trans t10
    have t8 := s9.trans t9
    have t7 := s8.trans t8
    have t6 := s7.trans t7
    have t5 := s6.trans t6
    have t4 := s5.trans t5
    have t3 := s4.trans t4
    have t2 := s3.trans t3
    have t1 := s2.trans t2
    have s0 := s1.trans t1
    refine ⟨(by show 14 ≤ sizeLine; decide), fun L nL => ?_⟩
    have u := same_new (o := .lst [.non, .bl true, .bl false, .str "", .str "A", .ref p1, .ref p2, .ref p3, .ref p4, .ref p6, .ref p7, .ref p9, .int 5, .ref p10]) nL
    have S11 := S.keep (s0.trans u)
    have nLs := But.st_new (o := .tup []) (S.keep s0) nL
    have m1 : ¬ Here H p1 := fun z => z n1
    have m5 : ¬ Here H p5 := fun z => z ((s1.trans (s2.trans (s3.trans s4))).free n5)
    have m6 : ¬ Here H p6 := fun z => z ((s1.trans (s2.trans (s3.trans (s4.trans s5)))).free n6)
    have all : ∀ x ∈ [V.non, .bl true, .bl false, .str "", .str "A", .ref p1, .ref p2, .ref p3, .ref p4, .ref p6, .ref p7, .ref p9, .int 5, .ref p10], ∃ d, IT (Here H) (L2.upd H10 L (.lst [.non, .bl true, .bl false, .str "", .str "A", .ref p1, .ref p2, .ref p3, .ref p4, .ref p6, .ref p7, .ref p9, .int 5, .ref p10])) x d := by
      intro x hx
      simp only [List.mem_cons, List.not_mem_nil, or_false] at hx
      rcases hx with h | h | h | h | h | h | h | h | h | h | h | h | h | h <;> subst h
      · exact ⟨_, .d2 (.inl .non)⟩
      · exact ⟨_, .d2 (.inl (.bl _))⟩
      · exact ⟨_, .d2 (.inl (.bl _))⟩
      · exact ⟨_, .d2 (.inl (str_at ""))⟩
      · exact ⟨_, .d2 (.inl (str_at "A"))⟩
      · exact ⟨_, .d2 (.inr (.lst (u _ _ (t1 _ _ e1)) m1 .nil))⟩
      · exact ⟨_, .dic (u _ _ (t2 _ _ e2))⟩
      · exact ⟨_, .d2 (.inr (.tup (u _ _ (t3 _ _ e3)) (.cons (.inl .non) .nil)))⟩
      · exact ⟨_, .d2 (.inr (.tup (u _ _ (t4 _ _ e4)) (.cons (.inl (str_at "a")) (.cons (.inl (int_at 1)) .nil))))⟩
      · exact ⟨_, .d2 (.inr (.lst (u _ _ (t6 _ _ e6)) m6 (.cons (.inr (.lst (u _ _ (t5 _ _ e5)) m5 (.cons (int_at 0) .nil))) .nil)))⟩
      · exact ⟨_, .d2 (.inr (.tup (u _ _ (t7 _ _ e7)) (.cons (.inl (.bl _)) .nil)))⟩
      · exact ⟨_, .d2 (.inr (.tup (u _ _ (t9 _ _ e9)) (.cons (.inr (.tup (u _ _ (t8 _ _ e8)) .nil)) .nil)))⟩
      · exact ⟨_, .d2 (.inl (int_at 5))⟩
      · exact ⟨_, .d2 (.inr (.tup (u _ _ (t10 _ _ e10)) (.cons (.inl (str_at "pause")) (.cons (.inl (int_at 1)) .nil))))⟩
    refine ⟨st, lg, cl, L, t, _, rfl, (by show 0 < 14; decide), (by show 14 ≤ 1000; decide), nLs.1, nLs.2, .inl (.inl upd_same), by omega, S11, fun x H' mem S' U' => ?_⟩
    obtain ⟨d, hd⟩ := all x mem
    exact q x d H' (hd.keep (.but U' S11 S.there.1 S.there.2)) S' ((But.of (s0.trans u)).trans U')
abbrev sBent : Stmt := top 66 -- _law_bent_order
theorem mem_cut {xs : List V} {lo hi : Option Int} {x : V} (h : x ∈ cutV xs lo hi) : x ∈ xs := List.mem_of_mem_drop (List.mem_of_mem_take h)
theorem it_tup {N : Addr → Prop} {H : Hp} {a : Addr} {ys : List V} (e : H a = some (.tup ys)) (h : ∀ x ∈ ys, ∃ d, D1 N H x d) (l : ys.length ≤ 20) : ∃ d, IT N H (.ref a) d := by
  obtain ⟨ds, p⟩ := paired_of h
  exact ⟨_, .d2 (.inr (.tup e p l))⟩
theorem it_lst {N : Addr → Prop} {H : Hp} {a : Addr} {ys : List V} (e : H a = some (.lst ys)) (n : ¬ N a) (h : ∀ x ∈ ys, ∃ d, D1 N H x d) (l : ys.length ≤ 20) : ∃ d, IT N H (.ref a) d := by
  obtain ⟨ds, p⟩ := paired_of h
  exact ⟨_, .d2 (.inr (.lst e n p l))⟩
theorem str_numF : ∀ k : Fin 8, (PyData.str (Str.ofString (toString ((k.1 : Nat) : Int)))).canLay0 = true ∧ (PyData.str (Str.ofString (toString ((k.1 : Nat) : Int)))).showable = true ∧ (PyData.str (Str.ofString (toString ((k.1 : Nat) : Int)))).intsShort 13 = true ∧ (PyData.str (Str.ofString (toString ((k.1 : Nat) : Int)))).weight ≤ 20 := by decide +kernel
theorem str_num {g : Nat} (h : g ≤ 7) : At0 (.str (Str.ofString (toString (g : Int)))) (.str (Str.ofString (toString (g : Int)))) := by
  have z := str_numF ⟨g, by omega⟩
  exact .str _ ⟨z.1, z.2.1, rfl, z.2.2.1⟩ z.2.2.2 rfl
def spBent : Sp := fun vs H Q _ => ∃ (st lg cl oa : Addr) (t n : Nat) (us : List V) (ps : List (Nat × Bool)), vs = [.ref st, .ref oa, .int (n : Int)] ∧ H oa = some (.tup us) ∧ AllAt PairAt H us ps ∧ ps.length ≤ 7 ∧ (∀ p ∈ ps, p.1 ≤ 7) ∧ n ≤ 7 ∧ t + 4000 < 1000000000 ∧ StOk H st lg cl t ∧
  ∀ (x : V) (d : PyData) (H' : Hp), IT (Here H) H' x d → StOk H' st lg cl (t + 20) → But st lg H H' → Q x H'
abbrev nBO : List Str := ["state", "order", "many", "line", "some", "spot", "gate", "bit", "pair"]
theorem scBO : FnScope nBO ["state", "order", "many"] (defScope sBent) := ⟨rfl, rfl, rfl, by decide +kernel, rfl, by decide +kernel, by decide +kernel⟩
theorem ok_bent {f : Addr} {fd : FuncData} (F : Fun K "_law_bent_order" "_law_bent_order" sBent f fd) (mlist : mg "list" = none) (mtuple : mg "tuple" = none) (mlen : mg "len" = none) (mstr : mg "str" = none) (cK : Cal P w K mg base CX0 2 "_law_pick" ["state", "several"] (spPick K)) (cD : Cal P w K mg base CX0 1 "_law_draw" ["state", "size_here"] spDraw) (cM : Cal P w K mg base CX0 2 "_law_mixed" ["state", "several"] (spMixedV K)) : FnOk P w K mg base CX0 3 f fd ["state", "order", "many"] spBent := by
  obtain ⟨fK, fdK, GK, kK, bK, mK⟩ := cK
  obtain ⟨fD, fdD, GD, kD, bD, mD⟩ := cD
  obtain ⟨fM, fdM, GM, kM, bM, mM⟩ := cM
  refine F.ok scBO (fun vs H Q E h => ?_) (fun cdv A outer s H vs Q E hr h => ?_)
  · obtain ⟨st, lg, cl, oa, t, n, us, ps, rfl, _⟩ := h
    rfl
  · obtain ⟨st, lg, cl, oa, t, n, us, ps, rfl, eo, hps, hl7, hg7, hn7, ht, S, q⟩ := h
    have hu64 := hr.units
    refine ⟨_, (pss_cons (ps_set (i := 3) scBO.nd rfl (Or.inl rfl) (pe_callTy call_list_of (by rfl) mlist (by decide +kernel) (pa_cons (pv 1) pa_nil)))
      (pss_cons (ps_set (i := 4) scBO.nd rfl (Or.inl rfl) (pe_lst (pa_cons (pv 3) (pa_cons (pe_callTy call_tuple_of (by rfl) mtuple (by decide +kernel) (pa_cons (pe_slice sl_list (pv 3) (po_some pe_int) po_none) pa_nil)) (pa_cons (pe_callTy call_tuple_of (by rfl) mtuple (by decide +kernel) (pa_cons (pe_slice sl_list (pv 3) po_none (po_some (pe_un un_neg pe_int))) pa_nil)) (pa_cons (pe_callTy call_tuple_of (by rfl) mtuple (by decide +kernel) (pa_cons (RU.pe_rev RU.rev_list (pv 3) (pe_un un_neg pe_int)) pa_nil)) (pa_cons (pe_callTy call_tuple_of (by rfl) mtuple (by decide +kernel) (pa_cons (pe_op op_cat (pv 3) (pe_lst (pa_cons (pe_tup (pa_cons pe_int (pa_cons pe_int pa_nil))) pa_nil))) pa_nil)) (pa_cons (pe_callTy call_tuple_of (by rfl) mtuple (by decide +kernel) (pa_cons (pe_op op_cat (pv 3) (pe_lst (pa_cons (pe_tup (pa_cons (pv 2) (pa_cons pe_int pa_nil))) pa_nil))) pa_nil)) (pa_cons pe_non (pa_cons (pe_tup pa_nil) (pa_cons (pe_tup (pa_cons (pe_tup (pa_cons pe_int pa_nil)) pa_nil)) (pa_cons (pe_callTy call_tuple_of (by rfl) mtuple (by decide +kernel) (pa_cons (pe_op op_cat (pv 3) (pe_lst (pa_cons (pe_tup (pa_cons (pe_un un_neg pe_int) (pa_cons pe_int pa_nil))) pa_nil))) pa_nil)) pa_nil))))))))))))
      (pss_cons (ps_join (ps_if (pt_cmpR (op_neD hu64) (pv 3) (pe_lst pa_nil) (nomark _)) (pss_cons (ps_set (i := 5) scBO.nd rfl (Or.inl rfl) (pe_call GD (hr.mono (by decide)) (by rfl) mD kD bD .nil pass0 (pa_cons (pv 0) (pa_cons (pe_callB call_len_seq (by rfl) mlen PySem.boot_len (pa_cons (pv 3) pa_nil)) pa_nil))))
        (pss_cons (ps_asg (pe_ix (r := rIxL K) ix_list (pv 3) (pv 5) (fun _ _ => rfl)) (pg_tup rfl (pgs_cons (pg_name (i := 6) scBO.nd rfl (Or.inl rfl)) (pgs_cons (pg_name (i := 7) scBO.nd rfl (Or.inl rfl)) pgs_nil))))
        (pss_cons (ps_for PassesOwn.never rfl (pi_list (pe_lst (pa_cons (pe_tup (pa_cons (pv 6) (pa_cons (pe_op op_sub pe_int (pv 7)) pa_nil))) (pa_cons (pe_tup (pa_cons (pv 6) (pa_cons pe_non pa_nil))) (pa_cons (pe_tup (pa_cons (pv 6) (pa_cons (pe_cmpR op_eq (pv 7) pe_int (nomark _)) pa_nil))) (pa_cons (pe_tup (pa_cons pe_bl (pa_cons (pv 7) pa_nil))) (pa_cons (pe_lst (pa_cons (pv 6) (pa_cons (pv 7) pa_nil))) (pa_cons (pe_tup (pa_cons (pv 6) (pa_cons (pv 7) (pa_cons pe_int pa_nil)))) (pa_cons (pe_tup (pa_cons (pe_callTy call_str_int (by rfl) mstr (by decide +kernel) (pa_cons (pv 6) pa_nil)) (pa_cons (pv 7) pa_nil))) pa_nil))))))))) (pg_name (i := 8) scBO.nd rfl (Or.inl rfl))
          (pss_one (ps_expr (pe_bm PySem.F.plainAttrs_list PySem.F.slot_list_append PySem.F.type_list_append mt_append (pv 4) (pa_cons (pe_callTy call_tuple_of (by rfl) mtuple (by decide +kernel) (pa_cons (pe_op op_cat (pe_op op_cat (pe_slice sl_list (pv 3) po_none (po_some (pv 5))) (pe_lst (pa_cons (pv 8) pa_nil))) (pe_slice sl_list (pv 3) (po_some (pe_op op_add (pv 5) pe_int)) po_none)) pa_nil)) pa_nil)))))
        (pss_one (ps_expr (pe_bm PySem.F.plainAttrs_list PySem.F.slot_list_append PySem.F.type_list_append mt_append (pv 4) (pa_cons (pe_callTy call_tuple_of (by rfl) mtuple (by decide +kernel) (pa_cons (pe_call GM (hr.mono (by decide)) (by rfl) mM kM bM .nil pass0 (pa_cons (pv 0) (pa_cons (pv 3) pa_nil))) pa_nil)) pa_nil))))))) pss_nil))
      (pss_one (ps_ret (pe_call GK (hr.mono (by decide)) (by rfl) mK kK bK .nil pass0 (pa_cons (pv 0) (pa_cons (pv 4) pa_nil)))))))), ?_⟩
    have lus : us.length = ps.length := Paired.length hps
    have hus : ∀ x ∈ us, ∃ d, PT H x d := fun x hx => by
      obtain ⟨i, hi⟩ := List.mem_iff_getElem?.mp hx
      obtain ⟨p, hp, tt, rfl, e⟩ := pr_getN hps hi
      have hpm := hg7 p (List.mem_of_getElem? hp)
      exact ⟨_, .tup e (.cons (.int _ (by omega) (by omega)) (.cons (.int _ (by cases p.2 <;> decide) (by cases p.2 <;> decide)) .nil))⟩
    -- line
    refine ⟨_, rfl, oa, us, rfl, .inr (.inl (.inl eo)), fun l n1 => ?_⟩
    have s1 := same_new (o := .lst us) n1
    have e1 : (L2.upd H l (.lst us)) l = some (.lst us) := upd_same
    generalize L2.upd H l (.lst us) = H1 at s1 e1
    -- line[1:]
    refine ⟨_, rfl, _, rfl, _, rfl, l, us, rfl, .inl (.inl e1), fun p2 n2 => ⟨p2, _, rfl, .inl ⟨.inl (.inl upd_same), fun a2 m2 => ?_⟩⟩⟩
    have s2 := (same_new (o := .lst (cutV us (some 1) none)) n2).trans (same_new (o := .tup (cutV us (some 1) none)) m2)
    have e2 : (L2.upd (L2.upd H1 p2 (.lst (cutV us (some 1) none))) a2 (.tup (cutV us (some 1) none))) a2 = some (.tup (cutV us (some 1) none)) := upd_same
    generalize L2.upd (L2.upd H1 p2 (.lst (cutV us (some 1) none))) a2 (.tup (cutV us (some 1) none)) = H2 at s2 e2
    -- line[:-1]
    refine ⟨_, rfl, _, rfl, _, rfl, l, us, rfl, .inl (.inl (s2 _ _ e1)), fun p3 n3 => ⟨p3, _, rfl, .inl ⟨.inl (.inl upd_same), fun a3 m3 => ?_⟩⟩⟩
    have s3 := (same_new (o := .lst (cutV us none (some (-1)))) n3).trans (same_new (o := .tup (cutV us none (some (-1)))) m3)
    have e3 : (L2.upd (L2.upd H2 p3 (.lst (cutV us none (some (-1))))) a3 (.tup (cutV us none (some (-1))))) a3 = some (.tup (cutV us none (some (-1)))) := upd_same
    generalize L2.upd (L2.upd H2 p3 (.lst (cutV us none (some (-1))))) a3 (.tup (cutV us none (some (-1)))) = H3 at s3 e3
    -- line[::-1]
    refine ⟨_, rfl, _, rfl, rfl, l, us, rfl, .inl (.inl (s3 _ _ (s2 _ _ e1))), fun p4 n4 => ⟨p4, _, rfl, .inl ⟨.inl (.inl upd_same), fun a4 m4 => ?_⟩⟩⟩
    have s4 := (same_new (o := .lst us.reverse) n4).trans (same_new (o := .tup us.reverse) m4)
    have e4 : (L2.upd (L2.upd H3 p4 (.lst us.reverse)) a4 (.tup us.reverse)) a4 = some (.tup us.reverse) := upd_same
    generalize L2.upd (L2.upd H3 p4 (.lst us.reverse)) a4 (.tup us.reverse) = H4 at s4 e4
    have el4 := s4 _ _ (s3 _ _ (s2 _ _ e1))
    -- line + [(0, 0)]
    refine ⟨_, rfl, (by show 2 ≤ sizeLine; decide), fun b5 k5 => ⟨(by show 1 ≤ sizeLine; decide), fun c5 j5 => ⟨l, c5, us, [.ref b5], rfl, rfl, (same_new j5) _ _ ((same_new k5) _ _ el4), upd_same, (by rw [sizeLine_eq]; show us.length + 1 ≤ _; omega), fun p5 n5 => ⟨p5, _, rfl, .inl ⟨.inl (.inl upd_same), fun a5 m5 => ?_⟩⟩⟩⟩⟩
    have u5 := (same_new (o := .lst [.ref b5]) j5).trans ((same_new (o := .lst (us ++ [.ref b5])) n5).trans (same_new (o := .tup (us ++ [.ref b5])) m5))
    have s5 := (same_new (o := .tup [.int 0, .int 0]) k5).trans u5
    have f5 := u5 _ _ (upd_same (H := H4) (a := b5) (o := .tup [.int 0, .int 0]))
    have e5 : (L2.upd (L2.upd (L2.upd (L2.upd H4 b5 (.tup [.int 0, .int 0])) c5 (.lst [.ref b5])) p5 (.lst (us ++ [.ref b5]))) a5 (.tup (us ++ [.ref b5]))) a5 = some (.tup (us ++ [.ref b5])) := upd_same
    generalize L2.upd (L2.upd (L2.upd (L2.upd H4 b5 (.tup [.int 0, .int 0])) c5 (.lst [.ref b5])) p5 (.lst (us ++ [.ref b5]))) a5 (.tup (us ++ [.ref b5])) = H5 at s5 e5 f5
    clear u5
    -- line + [(many, 0)]
    refine ⟨_, rfl, _, rfl, (by show 2 ≤ sizeLine; decide), fun b6 k6 => ⟨(by show 1 ≤ sizeLine; decide), fun c6 j6 => ⟨l, c6, us, [.ref b6], rfl, rfl, (same_new j6) _ _ ((same_new k6) _ _ (s5 _ _ el4)), upd_same, (by rw [sizeLine_eq]; show us.length + 1 ≤ _; omega), fun p6 n6 => ⟨p6, _, rfl, .inl ⟨.inl (.inl upd_same), fun a6 m6 => ?_⟩⟩⟩⟩⟩
    have u6 := (same_new (o := .lst [.ref b6]) j6).trans ((same_new (o := .lst (us ++ [.ref b6])) n6).trans (same_new (o := .tup (us ++ [.ref b6])) m6))
    have s6 := (same_new (o := .tup [.int (n : Int), .int 0]) k6).trans u6
    have f6 := u6 _ _ (upd_same (H := H5) (a := b6) (o := .tup [.int (n : Int), .int 0]))
    have e6 : (L2.upd (L2.upd (L2.upd (L2.upd H5 b6 (.tup [.int (n : Int), .int 0])) c6 (.lst [.ref b6])) p6 (.lst (us ++ [.ref b6]))) a6 (.tup (us ++ [.ref b6]))) a6 = some (.tup (us ++ [.ref b6])) := upd_same
    generalize L2.upd (L2.upd (L2.upd (L2.upd H5 b6 (.tup [.int (n : Int), .int 0])) c6 (.lst [.ref b6])) p6 (.lst (us ++ [.ref b6]))) a6 (.tup (us ++ [.ref b6])) = H6 at s6 e6 f6
    clear u6
    -- (), ((0,),)
    refine ⟨Nat.zero_le _, fun a7 n7 => ⟨(by show 1 ≤ sizeLine; decide), fun b8 k8 => ⟨(by show 1 ≤ sizeLine; decide), fun a8 n8 => ?_⟩⟩⟩
    have u8 := (same_new (o := .tup [.int 0]) k8).trans (same_new (o := .tup [.ref b8]) n8)
    have s8 := (same_new (o := .tup []) n7).trans u8
    have e7 := u8 _ _ (upd_same (H := H6) (a := a7) (o := .tup []))
    have f8 := (same_new (o := .tup [.ref b8]) n8) _ _ (upd_same (H := L2.upd H6 a7 (.tup [])) (a := b8) (o := .tup [.int 0]))
    have e8 : (L2.upd (L2.upd (L2.upd H6 a7 (.tup [])) b8 (.tup [.int 0])) a8 (.tup [.ref b8])) a8 = some (.tup [.ref b8]) := upd_same
    generalize L2.upd (L2.upd (L2.upd H6 a7 (.tup [])) b8 (.tup [.int 0])) a8 (.tup [.ref b8]) = H8 at s8 e7 e8 f8
    clear u8
    -- line + [(-1, 1)]
    refine ⟨_, rfl, _, rfl, (by show 2 ≤ sizeLine; decide), fun b9 k9 => ⟨(by show 1 ≤ sizeLine; decide), fun c9 j9 => ⟨l, c9, us, [.ref b9], rfl, rfl, (same_new j9) _ _ ((same_new k9) _ _ (s8 _ _ (s6 _ _ (s5 _ _ el4)))), upd_same, (by rw [sizeLine_eq]; show us.length + 1 ≤ _; omega), fun p9 n9 => ⟨p9, _, rfl, .inl ⟨.inl (.inl upd_same), fun a9 m9 => ?_⟩⟩⟩⟩⟩
    have u9 := (same_new (o := .lst [.ref b9]) j9).trans ((same_new (o := .lst (us ++ [.ref b9])) n9).trans (same_new (o := .tup (us ++ [.ref b9])) m9))
    have s9 := (same_new (o := .tup [.int (-1), .int 1]) k9).trans u9
    have f9 := u9 _ _ (upd_same (H := H8) (a := b9) (o := .tup [.int (-1), .int 1]))
    have e9 : (L2.upd (L2.upd (L2.upd (L2.upd H8 b9 (.tup [.int (-1), .int 1])) c9 (.lst [.ref b9])) p9 (.lst (us ++ [.ref b9]))) a9 (.tup (us ++ [.ref b9]))) a9 = some (.tup (us ++ [.ref b9])) := upd_same
    generalize L2.upd (L2.upd (L2.upd (L2.upd H8 b9 (.tup [.int (-1), .int 1])) c9 (.lst [.ref b9])) p9 (.lst (us ++ [.ref b9]))) a9 (.tup (us ++ [.ref b9])) = H9 at s9 e9 f9
    clear u9
    have t8 := s9
    have t6 := s8.trans t8
    have t5 := s6.trans t6
    have t4 := s5.trans t5
    have t3 := s4.trans t4
    have t2 := s3.trans t3
    have t1 := s2.trans t2
    have t0 := s1.trans t1
    -- all of them
    refine ⟨(by show 10 ≤ sizeLine; decide), fun A nA => ?_⟩
    have u := same_new (o := .lst [.ref l, .ref a2, .ref a3, .ref a4, .ref a5, .ref a6, .non, .ref a7, .ref a8, .ref a9]) nA
    have eA : (L2.upd H9 A (.lst [.ref l, .ref a2, .ref a3, .ref a4, .ref a5, .ref a6, .non, .ref a7, .ref a8, .ref a9])) A = some (.lst [.ref l, .ref a2, .ref a3, .ref a4, .ref a5, .ref a6, .non, .ref a7, .ref a8, .ref a9]) := upd_same
    generalize hH : L2.upd H9 A (.lst [.ref l, .ref a2, .ref a3, .ref a4, .ref a5, .ref a6, .non, .ref a7, .ref a8, .ref a9]) = H10 at u eA
    have nA0 : H A = none := t0.free nA
    have SA := S.keep (t0.trans u)
    have nAs := But.st_new (o := .tup []) (S.keep t0) nA
    have nAc := (S.keep t0).cl_ne nA
    have ml : ¬ (Here H l ∨ l = A) := fun z => z.elim (fun z => z n1) (fun z => by
      rw [z] at e1
      rw [t1 _ _ e1] at nA
      cases nA)
    have husN : ∀ {Hx : Hp}, KL (fun _ => True) H Hx → ∀ x ∈ us, ∃ d, D1 (fun a => Here H a ∨ a = A) Hx x d := fun k x hx => by
      obtain ⟨d, hd⟩ := hus x hx
      exact ⟨d, .inr ((hd.keep k fun _ _ z => z).mono (fun _ _ => trivial) fun _ _ z => z)⟩
    have app : ∀ {b : Addr} {i j : Int}, H10 b = some (.tup [.int i, .int j]) → -100 ≤ i → i ≤ 100 → -100 ≤ j → j ≤ 100 → ∀ x ∈ us ++ [.ref b], ∃ d, D1 (fun a => Here H a ∨ a = A) H10 x d := fun e h1 h2 h3 h4 x hx => by
      rcases List.mem_append.mp hx with z | z
      · exact husN (.same (t0.trans u)) x z
      · rw [List.mem_singleton.mp z]
        exact ⟨_, .inr (.tup e (.cons (.int _ h1 h2) (.cons (.int _ h3 h4) .nil)))⟩
    have la : ∀ b : Addr, (us ++ [V.ref b]).length ≤ 20 := fun b => by
      rw [List.length_append]
      show us.length + 1 ≤ 20
      omega
    have all : ∀ x ∈ [V.ref l, .ref a2, .ref a3, .ref a4, .ref a5, .ref a6, .non, .ref a7, .ref a8, .ref a9], ∃ d, IT (fun a => Here H a ∨ a = A) H10 x d := by
      intro x hx
      have h0 := husN (.same (t0.trans u))
      simp only [List.mem_cons, List.not_mem_nil, or_false] at hx
      rcases hx with h | h | h | h | h | h | h | h | h | h <;> subst h
      · exact it_lst (u _ _ (t1 _ _ e1)) ml h0 (by omega)
      · exact it_tup (u _ _ (t2 _ _ e2)) (fun x hx => h0 x (mem_cut hx)) (Nat.le_trans (cutV_length _ _ _) (by omega))
      · exact it_tup (u _ _ (t3 _ _ e3)) (fun x hx => h0 x (mem_cut hx)) (Nat.le_trans (cutV_length _ _ _) (by omega))
      · exact it_tup (u _ _ (t4 _ _ e4)) (fun x hx => h0 x (List.mem_reverse.mp hx)) (by rw [List.length_reverse]; omega)
      · exact it_tup (u _ _ (t5 _ _ e5)) (app (u _ _ (t5 _ _ f5)) (by decide) (by decide) (by decide) (by decide)) (la _)
      · exact it_tup (u _ _ (t6 _ _ e6)) (app (u _ _ (t6 _ _ f6)) (by omega) (by omega) (by decide) (by decide)) (la _)
      · exact ⟨_, .d2 (.inl .non)⟩
      · exact ⟨_, .d2 (.inr (.tup (u _ _ (t8 _ _ e7)) .nil))⟩
      · exact ⟨_, .d2 (.inr (.tup (u _ _ (t8 _ _ e8)) (.cons (.inr (.tup (u _ _ (t8 _ _ f8)) (.cons (int_at 0) .nil))) .nil)))⟩
      · exact it_tup (u _ _ e9) (app (u _ _ f9) (by decide) (by decide) (by decide) (by decide)) (la _)
    have el := u _ _ (t1 _ _ e1)
    have eo10 := u _ _ (t0 _ _ eo)
    have w0 := t0.trans u
    have n1l : H l = none := n1
    clear s1 e1 s2 e2 s3 e3 s4 e4 s5 e5 f5 s6 e6 f6 s8 e7 e8 f8 s9 e9 f9 t0 t1 t2 t3 t4 t5 t6 t8 app el4 nA u
    have kA : ∀ {Ha Hb : Hp}, (∀ b o, b ≠ A → Ha b = some o → Hb b = some o) → (∃ vs, Ha A = some (.lst vs)) → KL (fun a => Here H a ∨ a = A) Ha Hb := fun k e => by
      obtain ⟨vs, e⟩ := e
      refine ⟨fun c xs ec => k _ _ (fun z => ?_) ec, fun c xs ec n => k _ _ (fun z => n (.inr z)) ec, fun c ec => k _ _ (fun z => ?_) ec⟩
      · rw [z, e] at ec
        cases ec
      · rw [z, e] at ec
        cases ec
    refine ⟨fun σ Hx => ∃ (y5 y6 y7 y8 : Option V) (vs : List V), σ = [some (.ref st), some (.ref oa), some (.int (n : Int)), some (.ref l), some (.ref A), y5, y6, y7, y8] ∧ Hx A = some (.lst vs) ∧ 0 < vs.length ∧ vs.length ≤ 30 ∧ (∀ x ∈ vs, ∃ d, IT (fun a => Here H a ∨ a = A) Hx x d) ∧ StOk Hx st lg cl (t + 15) ∧ But st lg H Hx, ⟨_, rfl, Nat.zero_le _, fun pz nz => ?_⟩, ?_⟩
    · have sz := same_new (o := .lst []) nz
      have ez : (L2.upd H10 pz (.lst [])) pz = some (.lst []) := upd_same
      obtain ⟨ds, hds⟩ : ∃ ds, Paired (PT (L2.upd H10 pz (.lst []))) us ds := paired_of fun x hx => by
        obtain ⟨d, hd⟩ := hus x hx
        exact ⟨d, hd.keep (.same (w0.trans sz)) fun _ _ z => z⟩
      generalize L2.upd H10 pz (.lst []) = H11 at sz ez hds
      have gd := all_good (n := 420) (m := 1) (fun x d (z : PT H11 x d) => by
        obtain ⟨a, b, c⟩ := z.good fun _ _ z => ⟨z.good.1, z.good.2.1, Nat.le_of_eq z.good.2.2⟩
        exact ⟨a, b, c⟩) hds
      refine ⟨.list ds, .list [], .lst (.inl (.inl (sz _ _ el))) (dpAll_of (fun _ _ z => z.dp fun _ _ y => y.dp) hds), .lst (.inl (.inl ez)) .nil, layN_shaped (n := 2) ⟨(good_lst gd.1).1, by simp only [PyData.depth]; omega⟩ (by decide), PySem.W.ke_shaped_ints [], _, rfl, ?_⟩
      have S11 := SA.keep sz
      have all11 : ∀ x ∈ [V.ref l, .ref a2, .ref a3, .ref a4, .ref a5, .ref a6, .non, .ref a7, .ref a8, .ref a9], ∃ d, IT (fun a => Here H a ∨ a = A) H11 x d := fun x hx => by
        obtain ⟨d, hd⟩ := all x hx
        exact ⟨d, hd.keep (.same sz)⟩
      have eA11 := sz _ _ eA
      have el11 := sz _ _ el
      have w11 := w0.trans sz
      by_cases hne : us = []
      · subst hne
        cases hds
        exact iteF ⟨_, _, _, _, _, rfl, eA11, (by show 0 < 10; decide), (by show 10 ≤ 30; decide), all11, S11.up (by omega), But.of w11⟩
      have hds2 : ∃ d0 dr, ds = d0 :: dr := by
        cases hds with
        | nil => exact absurd rfl hne
        | cons r t => exact ⟨_, _, rfl⟩
      obtain ⟨d0, dr, rfl⟩ := hds2
      have hpos : 0 < us.length := List.length_pos_iff.mpr hne
      clear hds gd ez all eA el sz w0 SA
      refine iteT ⟨_, rfl, _, rfl, l, us, rfl, .inl (.inl (.inl el11)), st, lg, cl, t, (us.length : Int), rfl, by omega, by omega, by omega, S11, fun k H12 k0 k1 S12 U12 => ?_⟩
      obtain ⟨i, rfl⟩ : ∃ n : Nat, k = n := ⟨k.toNat, (Int.toNat_of_nonneg k0).symm⟩
      have hi : i < us.length := by omega
      obtain ⟨p, hp, tt, hv, ept⟩ := pr_getN hps (List.getElem?_eq_getElem hi)
      have hpm := hg7 p (List.mem_of_getElem? hp)
      have nls := But.st_new (o := .tup []) S n1l
      have el12 := U12 _ _ el11 nls.1 nls.2
      have eA12 := U12 _ _ eA11 nAs.1 nAs.2
      have ept12 := U12.tup S11 _ _ (w11 _ _ ept)
      refine ⟨_, rfl, _, rfl, l, us, (i : Int), _, rfl, rfl, .inl (.inl el12), atI_nat (List.getElem?_eq_getElem hi), ?_⟩
      rw [hv]
      obtain ⟨g, b⟩ := p
      refine ⟨tt, [.int (g : Int), bitV b], rfl, .inl (.inl ept12), rfl, _, _, rfl, _, _, rfl, rfl, ?_⟩
      have hg0 : g ≤ 7 := hpm
      -- the seven pairs
      refine ⟨_, rfl, _, rfl, _, _, rfl, rfl, (by show 2 ≤ sizeLine; decide), fun q1 m1 => ?_⟩
      have z1 := same_new (o := .tup [.int (g : Int), .int (1 - bitZ b)]) m1
      have f1 : (L2.upd H12 q1 (.tup [.int (g : Int), .int (1 - bitZ b)])) q1 = some (.tup [.int (g : Int), .int (1 - bitZ b)]) := upd_same
      generalize L2.upd H12 q1 (.tup [.int (g : Int), .int (1 - bitZ b)]) = Y1 at z1 f1
      refine ⟨_, rfl, (by show 2 ≤ sizeLine; decide), fun q2 m2 => ?_⟩
      have z2 := same_new (o := .tup [.int (g : Int), .non]) m2
      have f2 : (L2.upd Y1 q2 (.tup [.int (g : Int), .non])) q2 = some (.tup [.int (g : Int), .non]) := upd_same
      generalize L2.upd Y1 q2 (.tup [.int (g : Int), .non]) = Y2 at z2 f2
      refine ⟨_, rfl, _, rfl, rfl, (by show 2 ≤ sizeLine; decide), fun q3 m3 => ?_⟩
      generalize hb3 : decide (bitV b = V.int 1) = b3
      have z3 := same_new (o := .tup [.int (g : Int), .bl b3]) m3
      have f3 : (L2.upd Y2 q3 (.tup [.int (g : Int), .bl b3])) q3 = some (.tup [.int (g : Int), .bl b3]) := upd_same
      generalize L2.upd Y2 q3 (.tup [.int (g : Int), .bl b3]) = Y3 at z3 f3
      refine ⟨_, rfl, (by show 2 ≤ sizeLine; decide), fun q4 m4 => ?_⟩
      have z4 := same_new (o := .tup [.bl true, bitV b]) m4
      have f4 : (L2.upd Y3 q4 (.tup [.bl true, bitV b])) q4 = some (.tup [.bl true, bitV b]) := upd_same
      generalize L2.upd Y3 q4 (.tup [.bl true, bitV b]) = Y4 at z4 f4
      refine ⟨_, rfl, _, rfl, (by show 2 ≤ sizeLine; decide), fun q5 m5 => ?_⟩
      have z5 := same_new (o := .lst [.int (g : Int), bitV b]) m5
      have f5 : (L2.upd Y4 q5 (.lst [.int (g : Int), bitV b])) q5 = some (.lst [.int (g : Int), bitV b]) := upd_same
      generalize L2.upd Y4 q5 (.lst [.int (g : Int), bitV b]) = Y5 at z5 f5
      refine ⟨_, rfl, _, rfl, (by show 3 ≤ sizeLine; decide), fun q6 m6 => ?_⟩
      have z6 := same_new (o := .tup [.int (g : Int), bitV b, .int 0]) m6
      have f6 : (L2.upd Y5 q6 (.tup [.int (g : Int), bitV b, .int 0])) q6 = some (.tup [.int (g : Int), bitV b, .int 0]) := upd_same
      generalize L2.upd Y5 q6 (.tup [.int (g : Int), bitV b, .int 0]) = Y6 at z6 f6
      refine ⟨_, rfl, _, rfl, log_small (by omega) (by omega), _, rfl, (by show 2 ≤ sizeLine; decide), fun q7 m7 => ?_⟩
      obtain ⟨sg, hsg⟩ : ∃ sg, sg = Str.ofString (toString (g : Int)) := ⟨_, rfl⟩
      rw [← hsg]
      have asg : At0 (.str sg) (.str sg) := by rw [hsg]; exact str_num hg0
      have z7 := same_new (o := .tup [.str sg, bitV b]) m7
      have f7 : (L2.upd Y6 q7 (.tup [.str sg, bitV b])) q7 = some (.tup [.str sg, bitV b]) := upd_same
      generalize L2.upd Y6 q7 (.tup [.str sg, bitV b]) = Y7 at z7 f7
      refine ⟨(by show 7 ≤ sizeLine; decide), fun LL nLL => ?_⟩
      have z8 := same_new (o := .lst [.ref q1, .ref q2, .ref q3, .ref q4, .ref q5, .ref q6, .ref q7]) nLL
      have f8 : (L2.upd Y7 LL (.lst [.ref q1, .ref q2, .ref q3, .ref q4, .ref q5, .ref q6, .ref q7])) LL = some (.lst [.ref q1, .ref q2, .ref q3, .ref q4, .ref q5, .ref q6, .ref q7]) := upd_same
      generalize L2.upd Y7 LL (.lst [.ref q1, .ref q2, .ref q3, .ref q4, .ref q5, .ref q6, .ref q7]) = Y8 at z8 f8
      have y7 := z8
      have y6 := z7.trans y7
      have y5 := z6.trans y6
      have y4 := z5.trans y5
      have y3 := z4.trans y4
      have y2 := z3.trans y3
      have y1 := z2.trans y2
      have y0 := z1.trans y1
      have eA8 := y0 _ _ eA12
      have el8 := y0 _ _ el12
      have S8 := S12.keep y0
      have U8 : But st lg H Y8 := ((But.of w11).trans U12).trans (But.of y0)
      have mq5 : ¬ (Here H q5 ∨ q5 = A) := fun z => z.elim (fun z => z ((((But.of w11).trans U12).trans (But.of (z1.trans (z2.trans (z3.trans z4))))).free (S12.keep (z1.trans (z2.trans (z3.trans z4)))) m5)) (fun z => by
        rw [z] at m5
        rw [(z1.trans (z2.trans (z3.trans z4))) _ _ eA12] at m5
        cases m5)
      have bAt : At0 (bitV b) (.int (bitZ b)) := .int _ (by cases b <;> decide) (by cases b <;> decide)
      have gAt : At0 (.int (g : Int)) (.int (g : Int)) := .int _ (by omega) (by omega)
      have qs : ∀ x ∈ [V.ref q1, .ref q2, .ref q3, .ref q4, .ref q5, .ref q6, .ref q7], ∃ d, D1 (fun a => Here H a ∨ a = A) Y8 x d := by
        intro x hx
        simp only [List.mem_cons, List.not_mem_nil, or_false] at hx
        rcases hx with h | h | h | h | h | h | h <;> subst h
        · exact ⟨_, .inr (.tup (y1 _ _ f1) (.cons gAt (.cons (.int _ (by cases b <;> decide) (by cases b <;> decide)) .nil)))⟩
        · exact ⟨_, .inr (.tup (y2 _ _ f2) (.cons gAt (.cons .non .nil)))⟩
        · exact ⟨_, .inr (.tup (y3 _ _ f3) (.cons gAt (.cons (.bl _) .nil)))⟩
        · exact ⟨_, .inr (.tup (y4 _ _ f4) (.cons (.bl _) (.cons bAt .nil)))⟩
        · exact ⟨_, .inr (.lst (y5 _ _ f5) mq5 (.cons gAt (.cons bAt .nil)))⟩
        · exact ⟨_, .inr (.tup (y6 _ _ f6) (.cons gAt (.cons bAt (.cons (int_at 0) .nil))))⟩
        · exact ⟨_, .inr (.tup (y7 _ _ f7) (.cons asg (.cons bAt .nil)))⟩
      have all8 : ∀ x ∈ [V.ref l, .ref a2, .ref a3, .ref a4, .ref a5, .ref a6, .non, .ref a7, .ref a8, .ref a9], ∃ d, IT (fun a => Here H a ∨ a = A) Y8 x d := fun x hx => by
        obtain ⟨d, hd⟩ := all11 x hx
        exact ⟨d, (hd.keep (.but U12 S11 (.inl S.there.1) (.inl S.there.2))).keep (.same y0)⟩
      have ALL : A ≠ LL := fun z => by
        rw [← z] at nLL
        rw [(z1.trans (z2.trans (z3.trans (z4.trans (z5.trans (z6.trans z7)))))) _ _ eA12] at nLL
        cases nLL
      clear z1 z2 z3 z4 z5 z6 z7 z8 f1 f2 f3 f4 f5 f6 f7 y7 y6 y5 y4 y3 y2 y1 m1 m2 m3 m4 m5 m6 m7 nLL all11 eA11 el11 mq5
      refine ⟨LL, rfl, ⟨_, .inl (.inl f8)⟩, for_list (xs := [.ref q1, .ref q2, .ref q3, .ref q4, .ref q5, .ref q6, .ref q7]) (fun j σ Hx => ∃ (y8 : Option V) (vs : List V), σ = [some (.ref st), some (.ref oa), some (.int (n : Int)), some (.ref l), some (.ref A), some (.int (i : Int)), some (.int (g : Int)), some (bitV b), y8] ∧ Hx A = some (.lst vs) ∧ 0 < vs.length ∧ vs.length ≤ 10 + j ∧ (∀ x ∈ vs, ∃ d, IT (fun a => Here H a ∨ a = A) Hx x d) ∧ (∀ b o, b ≠ A → Y8 b = some o → Hx b = some o))
        ⟨_, _, rfl, eA8, (by show 0 < 10; decide), (by show 10 ≤ 10; decide), all8, fun _ _ _ e => e⟩ (fun j σ Hx _ hh => ?_) (fun j x σ Hx hx hh => ?_) (fun σ Hx hh => ?_)⟩
      · obtain ⟨_, _, _, _, _, _, _, z⟩ := hh
        exact .inl (.inl (z _ _ ALL.symm f8))
      · obtain ⟨y8', vs, rfl, eAx, hpos2, hlen2, allx, kx⟩ := hh
        have elx := kx _ _ (fun z => ml (.inr z)) el8
        refine ⟨_, rfl, .inl ⟨rfl, _, .inl (.inl eAx)⟩, _, rfl, _, rfl, _, rfl, l, us, rfl, .inl (.inl elx), fun c1 x1 => ⟨_, rfl, (by show 1 ≤ sizeLine; decide), fun c2 x2 => ⟨c1, c2, cutV us none (some (i : Int)), [x], rfl, rfl, (same_new x2) _ _ upd_same, upd_same, ?_, fun c3 x3 => ⟨_, rfl, _, rfl, _, _, rfl, rfl, _, rfl, l, us, rfl, .inl (.inl ((((same_new x1).trans (same_new x2)).trans (same_new x3)) _ _ elx)), fun c4 x4 => ⟨c3, c4, cutV us none (some (i : Int)) ++ [x], cutV us (some ((i : Int) + 1)) none, rfl, rfl, (same_new x4) _ _ upd_same, upd_same, ?_, fun c5 x5 => ⟨c5, _, rfl, .inl ⟨.inl (.inl upd_same), fun c6 x6 => ?_⟩⟩⟩⟩⟩⟩⟩
        · have := cutV_length us none (some (i : Int))
          rw [sizeLine_eq]
          show _ + 1 ≤ _
          omega
        · have := cutV_length us none (some (i : Int))
          have := cutV_length us (some ((i : Int) + 1)) none
          rw [sizeLine_eq, List.length_append]
          show _ + 1 + _ ≤ _
          omega
        have v0 := (((((same_new (o := .lst (cutV us none (some (i : Int)))) x1).trans (same_new (o := .lst [x]) x2)).trans (same_new (o := .lst (cutV us none (some (i : Int)) ++ [x])) x3)).trans (same_new (o := .lst (cutV us (some ((i : Int) + 1)) none)) x4)).trans (same_new (o := .lst (cutV us none (some (i : Int)) ++ [x] ++ cutV us (some ((i : Int) + 1)) none)) x5)).trans (same_new (o := .tup (cutV us none (some (i : Int)) ++ [x] ++ cutV us (some ((i : Int) + 1)) none)) x6)
        have g6 := upd_same (H := (L2.upd (L2.upd (L2.upd (L2.upd (L2.upd Hx c1 (.lst (cutV us none (some (i : Int))))) c2 (.lst [x])) c3 (.lst (cutV us none (some (i : Int)) ++ [x]))) c4 (.lst (cutV us (some ((i : Int) + 1)) none))) c5 (.lst (cutV us none (some (i : Int)) ++ [x] ++ cutV us (some ((i : Int) + 1)) none)))) (a := c6) (o := .tup (cutV us none (some (i : Int)) ++ [x] ++ cutV us (some ((i : Int) + 1)) none))
        generalize L2.upd (L2.upd (L2.upd (L2.upd (L2.upd (L2.upd Hx c1 (.lst (cutV us none (some (i : Int))))) c2 (.lst [x])) c3 (.lst (cutV us none (some (i : Int)) ++ [x]))) c4 (.lst (cutV us (some ((i : Int) + 1)) none))) c5 (.lst (cutV us none (some (i : Int)) ++ [x] ++ cutV us (some ((i : Int) + 1)) none))) c6 (.tup (cutV us none (some (i : Int)) ++ [x] ++ cutV us (some ((i : Int) + 1)) none)) = Hy at v0 g6
        clear x1 x2 x3 x4 x5 x6
        have hj : j < 7 := (List.getElem?_eq_some_iff.mp hx).1
        have eAy := v0 _ _ eAx
        have kxy : KL (fun a => Here H a ∨ a = A) Hx Hy := .same v0
        have kput := KL.put (N := fun a => Here H a ∨ a = A) (o := .lst (vs ++ [.ref c6])) eAy (.inr rfl)
        have kall : KL (fun a => Here H a ∨ a = A) Y8 Hy := (kA kx ⟨_, eA8⟩).trans kxy
        obtain ⟨d6, hd6⟩ : ∃ d, IT (fun a => Here H a ∨ a = A) Hy (.ref c6) d := by
          refine it_tup g6 (fun y hy => ?_) ?_
          · have old : ∀ y ∈ us, ∃ d, D1 (fun a => Here H a ∨ a = A) Hy y d := fun y hy => by
              obtain ⟨d, hd⟩ := hus y hy
              have kt : TupKeep H Hy := (U8.tup S).trans kall.tup
              obtain ⟨a, xs, ds, e1, e2, e3, o⟩ := hd
              rcases o with ⟨o, o2⟩ | ⟨_, o, _⟩
              · exact ⟨d, .inr ⟨a, xs, ds, e1, e2, e3, .inl ⟨kt _ _ o, o2⟩⟩⟩
              · exact absurd trivial o
            rcases List.mem_append.mp hy with z | z
            · rcases List.mem_append.mp z with z | z
              · exact old y (mem_cut z)
              · rw [List.mem_singleton.mp z]
                obtain ⟨d, hd⟩ := qs x (List.mem_of_getElem? hx)
                exact ⟨d, hd.keep kall⟩
            · exact old y (mem_cut z)
          · have a := cutV_length us none (some (i : Int))
            have b := cutV_length us (some ((i : Int) + 1)) none
            rw [List.length_append, List.length_append]
            show _ + 1 + _ ≤ 20
            omega
        refine ⟨A, vs, _, rfl, rfl, eAy, by rw [sizeLine_eq]; omega, _, vs ++ [.ref c6], rfl, upd_same, by rw [List.length_append]; omega, by rw [List.length_append]; show _ + 1 ≤ 10 + (j + 1); omega, fun y hy => ?_, fun b o nb e => ?_⟩
        · rcases List.mem_append.mp hy with z | z
          · obtain ⟨d, hd⟩ := allx y z
            exact ⟨d, (hd.keep kxy).keep kput⟩
          · rw [List.mem_singleton.mp z]
            exact ⟨d6, hd6.keep kput⟩
        · rw [upd_ne nb]
          exact v0 _ _ (kx _ _ nb e)
      · obtain ⟨y8', vs, rfl, eAx, hpos2, hlen2, allx, kx⟩ := hh
        have elx := kx _ _ (fun z => ml (.inr z)) el8
        have Sx := S8.keepC kx nAs.1 nAs.2 nAc
        have Ux : But st lg H Hx := fun b o e n1 n2 => kx _ _ (fun z => by
          rw [z, nA0] at e
          cases e) (U8 _ _ e n1 n2)
        have husx : ∀ x ∈ us, ∃ d, PT Hx x d := fun x hx => by
          obtain ⟨d, hd⟩ := hus x hx
          exact ⟨d, hd.keep (.but Ux S trivial trivial) fun _ _ z => z⟩
        refine ⟨_, rfl, .inl ⟨rfl, _, .inl (.inl eAx)⟩, _, rfl, _, rfl, st, lg, cl, l, t + 1, us, rfl, .inl (.inl elx), nls.1, nls.2, by omega, husx, by omega, Sx, fun r ms Hy pm er nr1 nr2 nr Sy Uy => ⟨r, ms, rfl, .inl ⟨.inl (.inl er), fun c mc => ?_⟩⟩⟩
        have v0 := same_new (o := .tup ms) mc
        have gc := upd_same (H := Hy) (a := c) (o := .tup ms)
        generalize L2.upd Hy c (.tup ms) = Hz at v0 gc
        have eAz := v0 _ _ (Uy _ _ eAx nAs.1 nAs.2)
        have kxz : KL (fun a => Here H a ∨ a = A) Hx Hz := (KL.but Uy Sx (.inl S.there.1) (.inl S.there.2)).trans (.same v0)
        have kput := KL.put (N := fun a => Here H a ∨ a = A) (o := .lst (vs ++ [.ref c])) eAz (.inr rfl)
        have Uz : But st lg H Hz := (Ux.trans Uy).trans (But.of v0)
        obtain ⟨d6, hd6⟩ : ∃ d, IT (fun a => Here H a ∨ a = A) Hz (.ref c) d := by
          refine it_tup gc (fun y hy => ?_) (by rw [pm.length_eq]; omega)
          obtain ⟨d, hd⟩ := hus y (pm.mem_iff.mp hy)
          exact ⟨d, .inr ((hd.keep (.but Uz S trivial trivial) fun _ _ z => z).mono (fun _ _ => trivial) fun _ _ z => z)⟩
        refine ⟨A, vs, _, rfl, rfl, eAz, by rw [sizeLine_eq]; have : [V.ref q1, .ref q2, .ref q3, .ref q4, .ref q5, .ref q6, .ref q7].length = 7 := rfl; omega, _, _, _, _, vs ++ [.ref c], rfl, upd_same, by rw [List.length_append]; omega, by rw [List.length_append]; have : [V.ref q1, .ref q2, .ref q3, .ref q4, .ref q5, .ref q6, .ref q7].length = 7 := rfl; show _ + 1 ≤ 30; omega, fun y hy => ?_, ?_, fun b o e n1 n2 => ?_⟩
        · rcases List.mem_append.mp hy with z | z
          · obtain ⟨d, hd⟩ := allx y z
            exact ⟨d, (hd.keep kxz).keep kput⟩
          · rw [List.mem_singleton.mp z]
            exact ⟨d6, hd6.keep kput⟩
        · exact ((Sy.keep v0).upd nAs.1 nAs.2 nAc).up (by omega)
        · rw [upd_ne (fun z => by
            rw [z, nA0] at e
            cases e)]
          exact Uz _ _ e n1 n2
    rintro σ Hx ⟨y5, y6, y7, y8, vs, rfl, eAx, hpos, hlen, allx, Sx, Ux⟩
    refine ⟨_, rfl, _, rfl, st, lg, cl, A, t + 15, vs, rfl, hpos, by omega, nAs.1, nAs.2, .inl (.inl eAx), by omega, Sx, fun x H' mem S' U' => ?_⟩
    obtain ⟨d, hd⟩ := allx x mem
    exact q x d H' ((hd.keep (.but U' Sx (.inl S.there.1) (.inl S.there.2))).mono fun _ z => .inl z) (S'.up (by omega)) (Ux.trans U')
end
end K02

set_option Elab.async false
set_option linter.all false
set_option maxRecDepth 100000
set_option maxHeartbeats 2000000
/-! What orders tell: laps in a row, closed lots, sorted pairs. -/
namespace K02
open PySem PySem.Spec L2
open PyProof.Rows GenW GxR EZ TK
open LamX (ExtN)
section
variable {gs : List Gate} {gv hv : List Rd}
/-- the readings that pairs tell, one behind the other -/
def toldP (gs : List Gate) (gv hv : List Rd) : List (Nat × Bool) → List Rd → Option (List Rd)
  | [], F => some F
  | p :: r, F => if F.getD p.1 none = none ∧ readG gs gv hv F p.1 = some p.2 then toldP gs gv hv r (F.set p.1 (some p.2)) else none
theorem le1_some {b : Bool} {x : Rd} (h : le1 (some b) x) : x = some b := by
  rcases h with h | h
  · cases h
  · exact h.symm
theorem told_lap {rest : List (Nat × Bool)} {F0 : List Rd} : ∀ (l : List (Nat × Bool)) (F : List Rd), (∀ p ∈ l, p.1 < gs.length ∧ readG gs gv hv F0 p.1 = some p.2) → (l.map (·.1)).Nodup → FLe F0 F → F.length = gs.length → (∀ p ∈ l, F.getD p.1 none = none) →
    toldP gs gv hv (l ++ rest) F = toldP gs gv hv rest (putL F l)
  | [], F, _, _, _, _, _ => rfl
  | p :: l, F, h, nd, le, lF, op => by
    have hp := h p List.mem_cons_self
    have op0 := op p List.mem_cons_self
    have r1 : readG gs gv hv F p.1 = some p.2 := by
      have z := readG_mono (gs := gs) (gv := gv) (hv := hv) le p.1
      rw [hp.2] at z
      exact le1_some z
    rw [List.map_cons, List.nodup_cons] at nd
    show (if F.getD p.1 none = none ∧ readG gs gv hv F p.1 = some p.2 then toldP gs gv hv (l ++ rest) (F.set p.1 (some p.2)) else none) = _
    rw [if_pos ⟨op0, r1⟩, told_lap l (F.set p.1 (some p.2)) (fun q hq => h q (List.mem_cons_of_mem _ hq)) nd.2 (le.trans (set_ge (by rw [lF]; exact hp.1) op0)) (by rw [List.length_set]; exact lF) fun q hq => by
      rw [getD_set (by rw [lF]; exact hp.1), if_neg (fun z => nd.1 (List.mem_map.mpr ⟨q, hq, z.symm⟩))]
      exact op q (List.mem_cons_of_mem _ hq)]
    rfl
theorem told_laps : ∀ (n : Nat) (F : List Rd), F.length = gs.length → toldP gs gv hv (lapsL gs gv hv n F).flatten F = some ((lapsL gs gv hv n F).foldl putL F)
  | 0, F, _ => rfl
  | n + 1, F, lF => by
    unfold lapsL
    split
    · rfl
    · rw [List.flatten_cons, told_lap (F0 := F) _ _ (fun p hp => ⟨(lapOf_mem.mp hp).1, (lapOf_mem.mp hp).2.2⟩) (lapOf_asc gs gv hv F) (FLe.refl F) lF (fun p hp => (lapOf_mem.mp hp).2.1), putL_lap lF, told_laps n _ (lapF_len _ _ _ _)]
      show _ = some (List.foldl putL (putL F (lapOf gs gv hv F)) (lapsL gs gv hv n (lapF gs gv hv F)))
      rw [putL_lap lF]
theorem told_order : toldP gs gv hv (lapsAll gs gv hv).flatten (List.replicate gs.length none) = some (sureF gs gv hv) := by
  rw [← lapsAll_put]
  exact told_laps _ _ List.length_replicate
def itemOf (p : Nat × Bool) : Item := ("tuple", [.int (p.1 : Int), bitV p.2])
theorem pair_item {n : Nat} {p : Nat × Bool} (h : p.1 < n) : pairOf n (itemOf p) = some p := by
  obtain ⟨g, b⟩ := p
  have h1 : bel (.int (g : Int)) n = true := by
    show (decide (0 ≤ (g : Int)) && decide ((g : Int) < n)) = true
    rw [decide_eq_true (show (0 : Int) ≤ g by omega), decide_eq_true (show (g : Int) < n by have : g < n := h; omega)]
    rfl
  have h2 : bel (bitV b) 2 = true := by cases b <;> decide
  show (if (decide ("tuple" = "tuple") && bel (.int (g : Int)) n && bel (bitV b) 2) = true then _ else none) = _
  rw [h1, h2]
  show some ((g : Int).toNat, decide (bitZ b = 1)) = some (g, b)
  rw [Int.toNat_natCast]
  cases b <;> rfl
theorem told_items : ∀ (ps : List (Nat × Bool)) (F : List Rd), (∀ p ∈ ps, p.1 < gs.length) → toldI gs gv hv (ps.map itemOf) F = toldP gs gv hv ps F
  | [], F, _ => rfl
  | p :: r, F, h => by
    show (match pairOf gs.length (itemOf p) with | none => none | some (g, b) => if F.getD g none = none ∧ readG gs gv hv F g = some b then toldI gs gv hv (r.map itemOf) (F.set g (some b)) else none) = _
    rw [pair_item (h p List.mem_cons_self)]
    show (if F.getD p.1 none = none ∧ readG gs gv hv F p.1 = some p.2 then toldI gs gv hv (r.map itemOf) (F.set p.1 (some p.2)) else none) = (if F.getD p.1 none = none ∧ readG gs gv hv F p.1 = some p.2 then toldP gs gv hv r (F.set p.1 (some p.2)) else none)
    rw [told_items r _ fun q hq => h q (List.mem_cons_of_mem _ hq)]
theorem told_pairs : ∀ {items : List Item} {F G : List Rd}, toldI gs gv hv items F = some G → ∃ P, Paired (fun (it : Item) p => it = itemOf p ∧ p.1 < gs.length) items P ∧ toldP gs gv hv P F = some G
  | [], F, G, h => ⟨[], .nil, h⟩
  | it :: r, F, G, h => by
    have h : (match pairOf gs.length it with | none => none | some (g, b) => if F.getD g none = none ∧ readG gs gv hv F g = some b then toldI gs gv hv r (F.set g (some b)) else none) = some G := h
    cases e : pairOf gs.length it with
    | none =>
      rw [e] at h
      cases h
    | some gb =>
      obtain ⟨g, b⟩ := gb
      rw [e] at h
      have h : (if F.getD g none = none ∧ readG gs gv hv F g = some b then toldI gs gv hv r (F.set g (some b)) else none) = some G := h
      by_cases c : F.getD g none = none ∧ readG gs gv hv F g = some b
      · rw [if_pos c] at h
        obtain ⟨P, p1, p2⟩ := told_pairs h
        obtain ⟨a1, a2, a3⟩ := pair_some e
        refine ⟨(g, b) :: P, .cons ⟨?_, a3⟩ p1, ?_⟩
        · obtain ⟨t, xs⟩ := it
          show (t, xs) = ("tuple", [.int (g : Int), bitV b])
          rw [show t = "tuple" from a1, show xs = [.int (g : Int), bitV b] from a2]
        · show (if F.getD g none = none ∧ readG gs gv hv F g = some b then toldP gs gv hv P (F.set g (some b)) else none) = some G
          rw [if_pos c]
          exact p2
      · rw [if_neg c] at h
        cases h
theorem toldP_step {p : Nat × Bool} {r : List (Nat × Bool)} {F G : List Rd} (h : toldP gs gv hv (p :: r) F = some G) : F.getD p.1 none = none ∧ readG gs gv hv F p.1 = some p.2 ∧ toldP gs gv hv r (F.set p.1 (some p.2)) = some G := by
  have h : (if F.getD p.1 none = none ∧ readG gs gv hv F p.1 = some p.2 then toldP gs gv hv r (F.set p.1 (some p.2)) else none) = some G := h
  by_cases c : F.getD p.1 none = none ∧ readG gs gv hv F p.1 = some p.2
  · rw [if_pos c] at h
    exact ⟨c.1, c.2, h⟩
  · rw [if_neg c] at h
    cases h
theorem toldP_all : ∀ {P : List (Nat × Bool)} {F G S : List Rd}, (∀ p ∈ P, p.1 < gs.length) → F.length = gs.length → (∀ i, le1 (readG gs gv hv S i) (S.getD i none)) → FLe F S → toldP gs gv hv P F = some G →
    FLe G S ∧ FLe F G ∧ (∀ i b, G.getD i none = some b → F.getD i none = some b ∨ readG gs gv hv G i = some b) ∧ P.Nodup ∧ (∀ p : Nat × Bool, p ∈ P ↔ (G.getD p.1 none = some p.2 ∧ F.getD p.1 none = none))
  | [], F, G, S, _, _, _, h1, h => by
    cases h
    refine ⟨h1, FLe.refl _, fun i b e => .inl e, List.nodup_nil, fun p => ⟨fun z => (nomatch z), fun z => ?_⟩⟩
    rw [z.2] at z
    cases z.1
  | p :: r, F, G, S, hb, lF, hS, h1, h => by
    obtain ⟨c1, c2, h2⟩ := toldP_step h
    have hp := hb p List.mem_cons_self
    have hpF : p.1 < F.length := by rw [lF]; exact hp
    have s1 : FLe (F.set p.1 (some p.2)) S := by
      have := set_le (gs := gs) (gv := gv) (hv := hv) (hS p.1) h1 hpF
      rw [c2] at this
      exact this
    obtain ⟨a1, a2, a3, a4, a5⟩ := toldP_all (S := S) (fun q hq => hb q (List.mem_cons_of_mem _ hq)) (by rw [List.length_set]; exact lF) hS s1 h2
    have up : FLe F G := (set_ge hpF c1).trans a2
    have gp : G.getD p.1 none = some p.2 := by
      have z := a2.2 p.1
      rw [getD_set hpF, if_pos rfl] at z
      exact le1_some z
    refine ⟨a1, up, fun i b e => ?_, ?_, fun q => ?_⟩
    · rcases a3 i b e with z | z
      · rw [getD_set hpF] at z
        by_cases ei : p.1 = i
        · rw [if_pos ei] at z
          cases z
          refine .inr ?_
          rw [← ei]
          have z := readG_mono (gs := gs) (gv := gv) (hv := hv) up p.1
          rw [c2] at z
          exact le1_some z
        · rw [if_neg ei] at z
          exact .inl z
      · exact .inr z
    · refine List.nodup_cons.mpr ⟨fun z => ?_, a4⟩
      have := ((a5 p).mp z).2
      rw [getD_set hpF, if_pos rfl] at this
      cases this
    · rw [List.mem_cons, a5 q, getD_set hpF]
      constructor
      · rintro (z | ⟨z1, z2⟩)
        · rw [z]
          exact ⟨gp, c1⟩
        · by_cases ei : p.1 = q.1
          · rw [if_pos ei] at z2
            cases z2
          · rw [if_neg ei] at z2
            exact ⟨z1, z2⟩
      · rintro ⟨z1, z2⟩
        by_cases ei : p.1 = q.1
        · refine .inl ?_
          rw [← ei, gp] at z1
          obtain ⟨a, b⟩ := p
          obtain ⟨c, d⟩ := q
          have e1 : a = c := ei
          have e2 : some b = some d := z1
          cases e2
          rw [e1]
        · rw [if_neg ei]
          exact .inr ⟨z1, z2⟩
theorem sure_le (i : Nat) : le1 (readG gs gv hv (sureF gs gv hv) i) ((sureF gs gv hv).getD i none) := by
  by_cases h : i < gs.length
  · rw [sureF_agree gs gv hv h]
    exact le1.refl _
  · exact .inl (readG_none_of_ge h)
theorem told_sure {P : List (Nat × Bool)} {G : List Rd} (hb : ∀ p ∈ P, p.1 < gs.length) (h : toldP gs gv hv P (List.replicate gs.length none) = some G) (cl : ∀ g ∈ opensF G, readG gs gv hv G g = none) : G = sureF gs gv hv := by
  have h0 : FLe (List.replicate gs.length (none : Rd)) (sureF gs gv hv) := ⟨by rw [List.length_replicate, sureF_len], fun i => .inl (getD_rep _ _)⟩
  obtain ⟨a1, a2, a3, _, _⟩ := toldP_all hb List.length_replicate sure_le h0 h
  refine a1.antisymm (sureF_least (fun i hi => ?_) (by rw [← a2.1, List.length_replicate]))
  cases e : G.getD i none with
  | none =>
    refine .inl (cl i ?_)
    unfold opensF
    refine List.mem_filter.mpr ⟨List.mem_range.mpr (by rw [← a2.1, List.length_replicate]; exact hi), ?_⟩
    rw [e]
    rfl
  | some b =>
    rcases a3 i b e with z | z
    · rw [getD_rep] at z
      cases z
    · rw [z]
      exact le1.refl _
theorem told_perm {P Q : List (Nat × Bool)} {G : List Rd} (hP : ∀ p ∈ P, p.1 < gs.length) (hQ : ∀ p ∈ Q, p.1 < gs.length) (h : toldP gs gv hv P (List.replicate gs.length none) = some (sureF gs gv hv)) (k : toldP gs gv hv Q (List.replicate gs.length none) = some (sureF gs gv hv)) : P.Perm Q := by
  have h0 : FLe (List.replicate gs.length (none : Rd)) (sureF gs gv hv) := ⟨by rw [List.length_replicate, sureF_len], fun i => .inl (getD_rep _ _)⟩
  obtain ⟨_, _, _, n1, m1⟩ := toldP_all hP List.length_replicate sure_le h0 h
  obtain ⟨_, _, _, n2, m2⟩ := toldP_all hQ List.length_replicate sure_le h0 k
  exact (List.perm_ext_iff_of_nodup n1 n2).mpr fun p => (m1 p).trans (m2 p).symm
end
theorem perm_sorted {α : Type} {le : α → α → Prop} (anti : ∀ a b, le a b → le b a → a = b) : ∀ (l1 l2 : List α), l1.Perm l2 → l1.Pairwise le → l2.Pairwise le → l1 = l2
  | [], l2, p, _, _ => (List.nil_perm.mp p).symm
  | a :: r, l2, p, h1, h2 => by
    cases l2 with
    | nil => exact absurd p.length_eq (by simp)
    | cons b s =>
      have e : a = b := by
        rcases List.mem_cons.mp (p.mem_iff.mp List.mem_cons_self) with z | z
        · exact z
        · rcases List.mem_cons.mp (p.mem_iff.mpr List.mem_cons_self) with y | y
          · exact y.symm
          · exact anti _ _ (List.rel_of_pairwise_cons h1 y) (List.rel_of_pairwise_cons h2 z)
      subst e
      rw [perm_sorted anti r s (List.perm_cons a |>.mp p) (List.pairwise_cons.mp h1).2 (List.pairwise_cons.mp h2).2]
theorem perm_paired {α β : Type} {R : α → β → Prop} {ys xs : List α} (p : ys.Perm xs) : ∀ {P : List β}, Paired R xs P → ∃ Q : List β, Q.Perm P ∧ Paired R ys Q := by
  induction p with
  | nil => exact fun h => ⟨_, List.Perm.refl _, h⟩
  | cons a p ih =>
    intro P h
    cases h with
    | cons r t =>
      obtain ⟨Q, q1, q2⟩ := ih t
      exact ⟨_ :: Q, q1.cons _, .cons r q2⟩
  | swap a b l =>
    intro P h
    cases h with
    | cons r t =>
      cases t with
      | cons r2 t2 => exact ⟨_, List.Perm.swap _ _ _, .cons r2 (.cons r t2)⟩
  | trans p q ih1 ih2 =>
    intro P h
    obtain ⟨Q, q1, q2⟩ := ih2 h
    obtain ⟨Q2, r1, r2⟩ := ih1 q2
    exact ⟨Q2, r1.trans q1, r2⟩
section
variable {K : PySem.W.Frag} {H : Hp}
/-- x is the pair p -/
def TP (K : PySem.W.Frag) (H : Hp) (x : V) (p : Nat × Bool) : Prop := TupI K H x [(p.1 : Int), bitZ p.2] ∧ p.1 < 2000
def pairDS (p : Nat × Bool) : PyData := .tuple [.int (p.1 : Int), .int (bitZ p.2)]
def lxP (p q : Nat × Bool) : Prop := p.1 < q.1 ∨ (p.1 = q.1 ∧ bitZ p.2 ≤ bitZ q.2)
theorem lx_anti (p q : Nat × Bool) (h : lxP p q) (k : lxP q p) : p = q := by
  obtain ⟨a, b⟩ := p
  obtain ⟨c, d⟩ := q
  have h : a < c ∨ (a = c ∧ bitZ b ≤ bitZ d) := h
  have k : c < a ∨ (c = a ∧ bitZ d ≤ bitZ b) := k
  have e : a = c := by omega
  have e2 : bitZ b ≤ bitZ d ∧ bitZ d ≤ bitZ b := by omega
  rw [e]
  cases b <;> cases d <;> first | rfl | exact absurd e2 (by decide)
theorem bd_pair {p : Nat × Bool} (h : p.1 < 2000) : TS.Bd 3000 [(p.1 : Int), bitZ p.2] := by
  intro n hn
  simp only [List.mem_cons, List.not_mem_nil, or_false] at hn
  rcases hn with e | e
  · omega
  · rw [e]
    cases p.2 <;> decide
/-- the pairs of a sorted list -/
theorem sorted_pairs {xs ys : List V} {P : List (Nat × Bool)} (hx : Paired (TP K H) xs P) (pm : ys.Perm xs) (pw : ys.Pairwise (fun x y => ∀ n m, TupI K H x n → TupI K H y m → TS.code 3000 n ≤ TS.code 3000 m)) : ∃ Q, Q.Perm P ∧ Paired (TP K H) ys Q ∧ Q.Pairwise lxP := by
  obtain ⟨Q, q1, q2⟩ := perm_paired pm hx
  refine ⟨Q, q1, q2, ?_⟩
  clear q1 pm hx
  induction q2 with
  | nil => exact .nil
  | @cons x p ys Q r t ih =>
    obtain ⟨h1, h2⟩ := List.pairwise_cons.mp pw
    refine List.pairwise_cons.mpr ⟨fun q hq => ?_, ih h2⟩
    have : ∃ y ∈ ys, TP K H y q := by
      clear ih h1 h2 pw
      induction t with
      | nil => cases hq
      | cons r t ih =>
        rcases List.mem_cons.mp hq with z | z
        · rw [z]
          exact ⟨_, List.mem_cons_self, r⟩
        · obtain ⟨y, a, b⟩ := ih z
          exact ⟨y, List.mem_cons_of_mem _ a, b⟩
    obtain ⟨y, hy, hq2⟩ := this
    have c := h1 y hy _ _ r.1 hq2.1
    rcases code_lex (bd_pair r.2) (bd_pair hq2.2) c with z | ⟨z1, z2⟩
    · exact .inl (by omega)
    · exact .inr ⟨by omega, z2⟩
theorem dp_pairsS {ys : List V} {Q : List (Nat × Bool)} (h : Paired (TP K H) ys Q) : DpAll K H ys (Q.map pairDS) := by
  induction h with
  | nil => exact .nil
  | cons r t ih =>
    obtain ⟨⟨a, rfl, e⟩, _⟩ := r
    exact .cons (.tup e (.cons (.int _) (.cons (.int _) .nil))) ih
theorem lay_pairS (Q : List (Nat × Bool)) : LayN 2 (.list (Q.map pairDS)) := layN_list fun d hd => by
  obtain ⟨p, _, rfl⟩ := List.mem_map.mp hd
  exact layN_tuple fun d hd => by
    simp only [List.mem_cons, List.not_mem_nil, or_false] at hd
    rcases hd with e | e <;> rw [e] <;> exact ⟨rfl, Nat.le_refl _⟩
theorem eqv_pairs : ∀ Q : List (Nat × Bool), PyData.eqvAll (Q.map pairDS) (Q.map pairDS) = true
  | [] => rfl
  | p :: r => by
    have h := eqv_ints [(p.1 : Int), bitZ p.2] [(p.1 : Int), bitZ p.2]
    have h2 : PyData.eqv (pairDS p) (pairDS p) = true := by
      show PyData.eqvAll ([(p.1 : Int), bitZ p.2].map PyData.int) ([(p.1 : Int), bitZ p.2].map PyData.int) = true
      rw [h, decide_eq_true rfl]
    show (PyData.eqv (pairDS p) (pairDS p) && PyData.eqvAll (r.map pairDS) (r.map pairDS)) = true
    rw [h2, eqv_pairs r]
    rfl
end
end K02

set_option Elab.async false
set_option linter.all false
set_option maxRecDepth 100000
set_option maxHeartbeats 2000000
/-! A lambda with parameters that is kept as a value, and called by a name that holds it (or a def). -/
namespace LV
open PySem PySem.Spec L2
open PyProof.Rows LamX CE
/-- the object at f is a lambda that captures nothing, its code object at c' -/
def LamO (f c' : Addr) (q : Str) (ps : Arguments) (body : Expr) (sc : Scope) : HO := .ext fun h => ∃ pm ctv, h.get? f = some (PySem.W.kla_obj "<lambda>" q ps body sc [] pm c' ctv)
def LamAt (H : Hp) (f : Addr) (q : Str) (ps : Arguments) (body : Expr) (sc : Scope) : Prop := ∃ c', H f = some (LamO f c' q ps body sc) ∧ H c' = some (CodeO c' q)
theorem lamO_ne {f c' : Addr} {q : Str} {ps : Arguments} {body : Expr} {sc : Scope} (t : Array Value) : LamO f c' q ps body sc ≠ .tbl t := fun z => by
  unfold LamO at z
  cases z
theorem LamAt.ext {H H' : Hp} {f : Addr} {q : Str} {ps : Arguments} {body : Expr} {sc : Scope} (h : LamAt H f q ps body sc) (x : ExtN H H') : LamAt H' f q ps body sc := by
  obtain ⟨c', a, b⟩ := h
  exact ⟨c', x _ _ a (fun t => lamO_ne t), x _ _ b (fun t => codeO_ne t)⟩
theorem clo_nil {cells : List (Str × Addr)} : ∀ {names : List (Str × NameKind)} {acc : List (Str × Addr)}, (∀ y ∈ names, y.2 ≠ .free) → cloFrom cells names acc = acc
  | [], _, _ => rfl
  | (n, k) :: r, acc, h => by
    have hk : k ≠ .free := h _ List.mem_cons_self
    have e : (k == NameKind.free) = false := by cases k <;> first | rfl | exact absurd rfl hk
    show (if (k == NameKind.free) = true then _ else cloFrom cells r acc) = acc
    rw [e]
    exact clo_nil fun y hy => h y (List.mem_cons_of_mem _ hy)
section
variable {X : Cx} {pins : List (Addr × Obj)} {σ : L2.St} {H : Hp} {s : Shared}
theorem lamO_ok {P : Program} {w : World} {H : Hp} {h : Heap} {f c' : Addr} {q : Str} {ps : Arguments} {body : Expr} {sc : Scope} {pm ctv : Value} (e : h.get? f = some (PySem.W.kla_obj "<lambda>" q ps body sc [] pm c' ctv)) : ObjOk P w H h f (LamO f c' q ps body sc) :=
  ⟨⟨pm, ctv, e⟩, ⟨_, e⟩, fun h1 h2 ⟨pm, ctv, e⟩ st => ⟨pm, ctv, st _ e⟩⟩
theorem lam_mkV {c P : Addr} {ps : Arguments} {body : Expr} {sc : Scope} {pos : Pos} {E Q : Value → Shared → Prop} (I : Inv X pins σ H s) (TB : TabB X.base X.mg c P) (hcode : X.env.code = .ref c) (hT : TabS H P (lamN X))
    (hdef : defaultsOf ps X.env = ([], [])) (nf : ∀ y ∈ sc.names, y.2 ≠ .free)
    (h : ∀ (f : Addr) (H1 : Hp) (s' : Shared), Inv X pins σ H1 s' → ButP P H H1 → TabS H1 P (lamN X) → LamAt H1 f (lamN X) ps body sc → H f = none → Q (.ref f) s') : wpAny (model X.prog X.w) X.A (eval (.Lambda ps body sc pos) X.env) Q E s := by
  have hfree : ∀ y ∈ sc.names, y.2 = .free → ∃ c, X.env.cells.lookup y.1 = some c := fun y hy e => absurd e (nf y hy)
  obtain ⟨tb, tP, tt, tc⟩ := hT
  have inP : s.heap.get? P = some { cls := .none, data := .fields tb } := I.hok P _ tP
  apply PySem.W.kla_eval hdef
  rcases hc : codeAmong pos tb.toList with _ | cv
  · refine PySem.W.kla_makeFunction (mg := X.mg) (c := c) (P := P) (ps := tb) (closure_ok hfree) I.ok.glob (I.mod.glob.keeps I.bk) hcode (TB.code.keeps I.bk) inP tt hc TB.gP (TB.bm.keeps I.bk) ?_
    intro c' ctv h' tk hx hge hlt hrec htb
    obtain ⟨c2, oc, vs, t, ec, hoc, hd, hv⟩ := hrec
    cases ec
    have grow : s.heap.objs.size ≤ h'.objs.size := Nat.le_trans hge (Nat.le_of_lt hlt)
    have fresh : H c' = none := I.hok.fresh hge
    have nP : P ≠ c' := ne_of_none tP fresh
    have J := inv_table (t' := tk) (more := #[rawInt pos.line, rawInt pos.col, .ref c']) (h' := h') I tP hx htb hge ⟨oc, vs, t, hoc, hd, hv⟩
    have pLt := Heap.lt_size inP
    have n1 : h'.objs.size ≠ c' := Nat.ne_of_gt hlt
    have n2 : h'.objs.size ≠ P := Nat.ne_of_gt (Nat.lt_of_lt_of_le pLt grow)
    have nF : H h'.objs.size = none := I.hok.fresh grow
    rw [clo_nil nf]
    have J2 := J.laid (a := h'.objs.size) (t' := tk) (h' := h'.push (PySem.W.kla_obj "<lambda>" (lamN X) ps body sc [] ((X.mg "__name__").getD .none) c' ctv)) (o := LamO h'.objs.size c' (lamN X) ps body sc) (fun b o e => Heap.get?_push_of_some _ e) (Nat.le_refl _) (lamO_ok (Heap.get?_push_size _ rfl))
    refine h h'.objs.size _ _ J2 (fun b o hb e => ?_) ⟨tb ++ #[rawInt pos.line, rawInt pos.col, .ref c'], ?_, ?_, fun p' cv hcv => ?_⟩ ⟨c', upd_same, ?_⟩ nF
    · rw [upd_ne (ne_of_none e nF), upd_ne (ne_of_none e fresh), upd_ne hb]
      exact e
    · rw [upd_ne n2.symm, upd_ne nP, upd_same]
    · rw [Array.toList_append]
      exact PySem.TriplesOk_snoc _ _ _ _ tt
    · rw [Array.toList_append] at hcv
      rcases among_app _ tt hcv with z | z
      · obtain ⟨c0, e1, e2⟩ := tc p' cv z
        refine ⟨c0, e1, ?_⟩
        rw [upd_ne (ne_of_none e2 nF), upd_ne (ne_of_none e2 fresh), upd_ne (fun w => by rw [w, tP] at e2; exact codeO_ne _ (Option.some.inj e2).symm)]
        exact e2
      · exact ⟨c', z, by rw [upd_ne n1.symm, upd_same]; rfl⟩
    · rw [upd_ne n1.symm, upd_same]
      rfl
  · obtain ⟨c', rfl, hco⟩ := tc pos cv hc
    refine PySem.W.kla_makeFunctionHit (mg := X.mg) (c := c) (P := P) (ps := tb) (closure_ok hfree) I.ok.glob (I.mod.glob.keeps I.bk) hcode (TB.code.keeps I.bk) inP tt hc (TB.bm.keeps I.bk) fun ctv h' tk hx hsz => ?_
    have nF : H h'.objs.size = none := I.hok.fresh hsz
    rw [clo_nil nf]
    have J2 := (I.kept (t' := tk) (h' := h') hx).laid (a := h'.objs.size) (t' := tk) (h' := h'.push (PySem.W.kla_obj "<lambda>" (lamN X) ps body sc [] ((X.mg "__name__").getD .none) c' ctv)) (o := LamO h'.objs.size c' (lamN X) ps body sc) (fun b o e => Heap.get?_push_of_some _ e) (Nat.le_refl _) (lamO_ok (Heap.get?_push_size _ rfl))
    refine h h'.objs.size _ _ J2 (fun b o _ e => ?_) ⟨tb, ?_, tt, fun p' cv hcv => ?_⟩ ⟨c', upd_same, ?_⟩ nF
    · rw [upd_ne (ne_of_none e nF)]
      exact e
    · rw [upd_ne (ne_of_none tP nF)]
      exact tP
    · obtain ⟨c0, e1, e2⟩ := tc p' cv hcv
      exact ⟨c0, e1, by rw [upd_ne (ne_of_none e2 nF)]; exact e2⟩
    · rw [upd_ne (ne_of_none hco nF)]
      exact hco
/-- lambda ..: .., as a value -/
def tLamV (P : Addr) (q : Str) (ps : Arguments) (body : Expr) (sc : Scope) : TE := fun σ H Q => TabS H P q ∧ ∀ f H1, ButP P H H1 → TabS H1 P q → LamAt H1 f q ps body sc → H f = none → Q (.ref f) H1
theorem pe_lamV {c P : Addr} {ps : Arguments} {body : Expr} {sc : Scope} {pos : Pos} (TB : TabB X.base X.mg c P) (hcode : X.env.code = .ref c) (hdef : defaultsOf ps X.env = ([], [])) (nf : ∀ y ∈ sc.names, y.2 ≠ .free) : PE X (.Lambda ps body sc pos) (tLamV P (lamN X) ps body sc) := by
  refine ⟨fun pins s σ H Q I h => ?_⟩
  obtain ⟨hT, h⟩ := h
  exact lam_mkV I TB hcode hT hdef nf fun f H1 s' I1 b t l n => ⟨.ref f, H1, I1, rfl, h f H1 b t l n⟩
end
/-! ### its call -/
/-- a lambda's promise, whatever the object: its body keeps it in a frame of its own -/
structure LamFn (P : Program) (w : World) (K : PySem.W.Frag) (mg : Str → Option Value) (base : Heap) (CX : CXT) (k : Nat) (q : Str) (params : Arguments) (body : Expr) (sc : Scope) (ps : List Str) (sp : Sp) : Prop where
  len : ∀ vs H Q E, sp vs H Q E → vs.length = ps.length
  bind : ∀ (pm ctv cv : Value) (us : List Value), us.length = ps.length → bindArgs (PySem.W.kla_fn "<lambda>" q params body sc [] pm cv ctv) ⟨us, []⟩ = pure (ps.zip us)
  run : ∃ N, FnScope N ps sc ∧ ∀ (A : Around) (outer : List Env) (s : Shared) (H : Hp) (f c' : Addr) (vs : List V) (Q : VK) (E : XK), Room k (A.deeper (envOfC q sc s.heap.objs.size f (.ref c'))) → sp vs H Q E →
    ∃ te, PE (cxOf CX P w K mg base N q sc f (.ref c') A outer s H E) body te ∧ te (L2.start N vs) H Q
theorem run_lamV {CX : CXT} {P : Program} {w : World} {K : PySem.W.Frag} {mg : Str → Option Value} {base : Heap} {k : Nat} {f c' : Addr} {q : Str} {params : Arguments} {body : Expr} {sc : Scope} {ps : List Str} {sp : Sp} (L : LamFn P w K mg base CX k q params body sc ps sp)
    {A : Around} {outer : List Env} {s : Shared} {H : Hp} {us : List Value} {vs : List V} {Q : VK} {E : XK} (hr : Room (k + 1) A) (e0 : Env0 P w K mg base A outer s H) (h1 : H f = some (LamO f c' q params body sc)) (h2 : H c' = some (CodeO c' q)) (r : Vals vs us) (h : sp vs H Q E) :
    codeAny (model P w) A (.call (.ref f) ⟨us, []⟩) (CR CX outer P w H s Q E) s := by
  obtain ⟨N, S, run⟩ := L.run
  have hl := L.len _ _ _ _ h
  have lim : s.heap.NoLimit := e0.mod.nolimit.keeps fun b o e => (e0.bs b o e).1
  obtain ⟨⟨pm, ctv, hf⟩, _, _⟩ := (show ObjOk P w H s.heap f (LamO f c' q params body sc) from e0.hok f _ h1)
  obtain ⟨⟨oc, vs', t, hoc, hd, hv⟩, _, _⟩ := (show ObjOk P w H s.heap c' (CodeO c' q) from e0.hok c' _ h2)
  have hkind : ∀ y ∈ ps.zip us, sc.names.lookup y.1 = some .local ∨ (sc.names.lookup y.1 = some .cell ∧ ((cellsFrom (s.heap.objs.size + 1) sc.names []).lookup y.1).isSome = true) := fun ⟨n, v⟩ hy => by
    rcases S.par n (List.of_mem_zip hy).1 with z | z
    · exact .inl z
    · exact .inr ⟨z, PySem.W.cellsFrom_some _ _ _ (.inl z)⟩
  refine PySem.W.kla_callFunE hr.depth hf rfl S.co S.gen rfl ⟨c', oc, vs', t, rfl, hoc, hd, hv⟩ ?_
  rw [L.bind pm ctv (.ref c') us (by rw [← r.length]; exact hl)]
  refine wpAny_pure (wpAny_newFunctionEnv_cells S.kind hkind fun env he s1 x => ?_)
  subst he
  obtain ⟨te, ht, hq⟩ := run A outer s H f c' vs Q E (hr.deeper _) h
  have I : Inv (cxOf CX P w K mg base N q sc f (.ref c') A outer s H E) [] (L2.start N vs) H s1 := inv_start S hr.hd e0 hl r x
  refine ⟨lim.keeps x.toInCall.keep, PySem.W.kla_codeExpr (wpAny_mono (ht.run [] s1 (L2.start N vs) H _ I hq) (fun v s' hs => ?_) fun e s' hs => hs)⟩
  obtain ⟨v', H', J, rv, q'⟩ := hs
  exact ⟨v', H', J.os, J.bare, J.base, J.hok, rv, q'⟩
section
variable {X : Cx} {CX : CXT} {k i : Nat} {E : XK} {x : Str} {p pos : Pos} {e : Expr} {es : List Expr} {t : TA}
/-- the slot holds a def (S) or a lambda (LS), which may raise -/
def tCallU (i : Nat) (S : Addr → Sp → Prop) (LS : Hp → Addr → Sp → Prop) (E : XK) (t : TA) : TE := fun σ H Q => ∃ f sp, σ[i]? = some (some (.ref f)) ∧ ((S f sp ∧ t σ H fun vs H1 => sp vs H1 Q E) ∨ (LS H f sp ∧ t σ H fun vs H1 => LS H1 f sp ∧ sp vs H1 Q E))
theorem pe_callU {S : Addr → Sp → Prop} {LS : Hp → Addr → Sp → Prop} (A : ∀ f sp, S f sp → ∃ (fd : FuncData) (ps : List Str), FnOk X.prog X.w X.K X.mg X.base CX k f fd ps sp ∧ PySem.W.keepIn X.K (.ref f) = true ∧ Binds X.K fd ps [])
    (B : ∀ H f sp, LS H f sp → ∃ j q params body sc ps, LamFn X.prog X.w X.K X.mg X.base CX j q params body sc ps sp ∧ LamAt H f q params body sc ∧ j + 1 ≤ k)
    (hr : Room k X.A) (hN : X.N[i]? = some x) (hv : Vis X.env.scope x) (hx : Passes CX X E) (ha : PA X (e :: es) t)
    (hdb : (x == ("__debug__" : Str)) = false := by decide) (hcd : (x == ("__classdict__" : Str)) = false := by decide)
    (he : starEach (e :: es) X.env = (false, eval e X.env) :: starEach es X.env := by rfl) (hpl : (backTo pos (starEach es X.env)).any (·.1) = false := by rfl) : PE X (.Call (.Name x p) (e :: es) [] pos) (tCallU i S LS E t) := by
  refine ⟨fun pins s σ H Q I h => ?_⟩
  obtain ⟨f, sp, hs, h⟩ := h
  rcases h with ⟨hS, ht⟩ | ⟨hL, ht⟩
  · obtain ⟨fd, ps, F, hk, hb⟩ := A f sp hS
    refine (pe_callL (i := i) (f := f) (sp := sp) (dvs := []) (E := E) F hr hN hv hk hb .nil hx ha hdb hcd he hpl).run pins s σ H Q I ⟨hs, ?_⟩
    have e0 : (fun (vs : List V) (H1 : Hp) => sp (vs ++ []) H1 Q E) = fun vs H1 => sp vs H1 Q E := by
      funext vs H1
      rw [List.append_nil]
    show t σ H (fun vs H1 => sp (vs ++ []) H1 Q E)
    rw [e0]
    exact ht
  · refine wpAny_Call_Name_kw (thn ((pe_var (pos := p) hN hv hdb hcd).run pins s σ H (fun v H1 => v = .ref f ∧ H1 = H) I ⟨.ref f, hs, rfl, rfl⟩) fun u s1 ⟨v, H1, I1, r1, q1⟩ => ?_)
    obtain ⟨rfl, rfl⟩ := q1
    cases r1
    have at_ : ∀ {Hx : Hp} {sx : Shared}, Inv X pins σ Hx sx → LS Hx f sp → PySem.W.FnAt f sx.heap := fun {Hx sx} J l => by
      obtain ⟨j, q, params, body, sc, ps, _, ⟨c', h1, _⟩, _⟩ := B _ _ _ l
      obtain ⟨⟨pm, ctv, hf⟩, _, _⟩ := (show ObjOk X.prog X.w Hx sx.heap f (LamO f c' q params body sc) from J.hok f _ h1)
      exact ⟨_, _, _, _, hf⟩
    refine PySem.W.callWith_F (at_ I1 hL) (thn (ha.run pos pins s1 σ _ _ I1 ht) fun us s2 ⟨vs, H2, I2, r, hL2, q⟩ => ⟨at_ I2 hL2, ?_⟩) he hpl
    obtain ⟨j, qn, params, body, sc, ps, L, ⟨c', h1, h2⟩, hj⟩ := B _ _ _ hL2
    refine wpAny_call (codeAny_mono (run_lamV L (hr.mono hj) I2.env0 h1 h2 r q) fun r s' hq => ?_)
    cases r with
    | error e => exact hx pins σ H2 s2 e s' I2 hq
    | ok fl =>
      cases fl with
      | ret u => exact I2.after hq
      | next => exact False.elim hq
      | brk => exact False.elim hq
      | cont => exact False.elim hq
end
end LV

set_option Elab.async false
set_option linter.all false
set_option maxRecDepth 100000
set_option maxHeartbeats 4000000
/-! Cases with None. -/
namespace K02
open PySem PySem.Spec L2
open PyProof.Rows GenW GxR EZ TK
open LamX (ExtN)
abbrev sCaseR : Stmt := top 62 -- _law_case_readings
section
variable {P : Program} {w : World} {K : PySem.W.Frag} {mg : Str → Option Value} {base : Heap}
def spCaseR : Sp := fun vs H Q _ => ∃ (st lg cl : Addr) (t : Nat) (y : V) (C : Circ), vs = [.ref st, y] ∧ CircAt H y C ∧ C.ok ∧ t + 1000 < 1000000000 ∧ StOk H st lg cl t ∧
  ∀ (T g h : Addr) (gv hv : List Rd) (H' : Hp), H' T = some (.tup [.ref g, .ref h]) → H' g = some (.tup (gv.map rdV)) → H' h = some (.tup (hv.map rdV)) → gv.length = C.ni → hv.length = C.regs.length → StOk H' st lg cl (t + 140) → But st lg H H' → Q (.ref T) H'
theorem scCR : FnScope ["state", "circuit", "given", "held", "bit"] ["state", "circuit"] (defScope sCaseR) := ⟨rfl, rfl, rfl, by decide +kernel, rfl, by decide +kernel, by decide +kernel⟩
theorem bit_rd (bs : List Bool) : bs.map bitV = (bs.map some).map rdV := by
  rw [List.map_map]
  rfl
theorem ok_caseR {f : Addr} {fd : FuncData} (F : Fun K "_law_case_readings" "_law_case_readings" sCaseR f fd) (mtuple : mg "tuple" = none) (cD : Cal P w K mg base CX0 1 "_law_draw" ["state", "size_here"] spDraw) (cB : Cal P w K mg base CX0 2 "_law_case_bits" ["state", "circuit"] spCaseB) : FnOk P w K mg base CX0 3 f fd ["state", "circuit"] spCaseR := by
  obtain ⟨fD, fdD, GD, kD, bD, mD⟩ := cD
  obtain ⟨fB, fdB, GB, kB, bB, mB⟩ := cB
  refine F.ok scCR (fun vs H Q E h => ?_) (fun cdv A outer s H vs Q E hr h => ?_)
  · obtain ⟨st, lg, cl, t, y, C, rfl, _⟩ := h
    rfl
  · obtain ⟨st, lg, cl, t, y, C, rfl, hC, ok, ht, S, q⟩ := h
    refine ⟨_, (pss_cons (ps_asg (pe_call GB (hr.mono (by decide)) (by rfl) mB kB bB .nil pass0 (pa_cons (pv 0) (pa_cons (pv 1) pa_nil))) (pg_tup rfl (pgs_cons (pg_name (i := 2) scCR.nd rfl (Or.inl rfl)) (pgs_cons (pg_name (i := 3) scCR.nd rfl (Or.inl rfl)) pgs_nil))))
      (pss_cons (ps_if (pt_cmpR op_eq (pe_call GD (hr.mono (by decide)) (by rfl) mD kD bD .nil pass0 (pa_cons (pv 0) (pa_cons pe_int pa_nil))) pe_int (nomark _)) (pss_one (ps_ret (pe_tup (pa_cons (pv 2) (pa_cons (pv 3) pa_nil))))) pss_nil)
      (pss_one (ps_ret (pe_tup (pa_cons (pe_callTy call_tuple_of (by rfl) mtuple (by decide +kernel) (pa_cons (pe_lc (own := [("bit", 4)]) (g := gName 4) (tt := tYes) rfl scCR.nd (pi_tup (pv 2)) (blkOk_by (N := ["state", "circuit", "given", "held", "bit"]) (sc := defScope sCaseR) (by decide +kernel)) (fun _ _ _ _ _ => (pg_name (i := 4) scCR.nd rfl (Or.inl rfl))) (fun _ _ _ _ _ => pts_nil) (fun _ _ _ _ _ => (pe_ifExp (pt_cmpR op_eq (pe_call GD (hr.mono (by decide)) (by rfl) mD kD bD .nil pass0 (pa_cons (pv 0) (pa_cons pe_int pa_nil))) pe_int (nomark _)) (pv 4) pe_non))) pa_nil)) (pa_cons (pe_callTy call_tuple_of (by rfl) mtuple (by decide +kernel) (pa_cons (pe_lc (own := [("bit", 4)]) (g := gName 4) (tt := tYes) rfl scCR.nd (pi_tup (pv 3)) (blkOk_by (N := ["state", "circuit", "given", "held", "bit"]) (sc := defScope sCaseR) (by decide +kernel)) (fun _ _ _ _ _ => (pg_name (i := 4) scCR.nd rfl (Or.inl rfl))) (fun _ _ _ _ _ => pts_nil) (fun _ _ _ _ _ => (pe_ifExp (pt_cmpR op_gt (pe_call GD (hr.mono (by decide)) (by rfl) mD kD bD .nil pass0 (pa_cons (pv 0) (pa_cons pe_int pa_nil))) pe_int (nomark _)) (pv 4) pe_non))) pa_nil)) pa_nil))))))), ?_⟩
    have k1 := ok.ni
    have k2 := ok.nr
    refine ⟨_, rfl, _, rfl, st, lg, cl, t, y, C, rfl, hC, ok, ht, S, fun T g h gb hb H1 eT eg eh lg1 lh1 S1 U1 => ⟨T, _, rfl, .inl (.inl eT), rfl, _, _, rfl, _, _, rfl, rfl, ?_⟩⟩
    refine ⟨_, rfl, st, lg, cl, t + 68, 3, rfl, by decide, by decide, by omega, S1, fun k H2 a0 a1 S2 U2 => ⟨rfl, _, rfl, ite2 (fun e => ?_) (fun e => ?_)⟩⟩
    · refine ⟨_, rfl, _, rfl, (by show 2 ≤ sizeLine; decide), fun T2 nT2 => ?_⟩
      have s3 := same_new (o := .tup [.ref g, .ref h]) nT2
      have kk := (U2.tup S1).trans (TupKeep.of s3)
      have eg' := kk _ _ eg
      have eh' := kk _ _ eh
      rw [bit_rd] at eg' eh'
      exact q T2 g h (gb.map some) (hb.map some) _ upd_same eg' eh' (by rw [List.length_map, lg1]) (by rw [List.length_map, lh1]) ((S2.keep s3).up (by omega)) ((U1.trans U2).trans (But.of s3))
    · have eg2 := U2.tup S1 _ _ eg
      have eh2 := U2.tup S1 _ _ eh
      refine ⟨_, rfl, g, rfl, ⟨gb.map bitV, .inl (.inl eg2)⟩, fun D nD => ?_⟩
      refine lc_tup (xs := gb.map bitV) (DI isRdR (fun _ => True) st lg cl H2 D (t + 69) 1) (DI.zero nD S2) (fun i H3 _ d => ?_) (fun i x H3 hx d => ?_) (fun H3 d => ?_)
      · obtain ⟨_, _, _, _, _, _, S3, U3⟩ := id d
        exact .inl (.inl (U3.tup S2 _ _ eg2))
      · obtain ⟨_, _, _, _, _, _, S3, _⟩ := id d
        have hi : i < (gb.map bitV).length := (List.getElem?_eq_some_iff.mp hx).1
        rw [List.getElem?_map] at hx
        obtain ⟨b, hb2, rfl⟩ := Option.map_eq_some_iff.mp hx
        rw [List.length_map] at hi
        refine ⟨rfl, _, rfl, st, lg, cl, t + 69 + 1 * i, 2, rfl, by decide, by decide, by omega, S3, fun k H4 a0 a1 S4 U4 => ⟨rfl, _, rfl, ite2 (fun e => ?_) (fun e => ?_)⟩⟩
        · exact ⟨_, rfl, DI.push (x := some b) (fun _ _ _ _ _ r => r) nD S2 d (by omega) U4 (S4.up (by omega)) rfl trivial⟩
        · exact DI.push (x := none) (fun _ _ _ _ _ r => r) nD S2 d (by omega) U4 (S4.up (by omega)) rfl trivial
      obtain ⟨zs, gv, eD, lgv, hz, _, S3, U3⟩ := d.all
      have hz := rds_all hz
      subst hz
      rw [List.length_map] at lgv
      refine ⟨D, _, rfl, .inl ⟨.inl (.inl eD), fun g2 ng2 => ?_⟩⟩
      have s4 := same_new (o := .tup (gv.map rdV)) ng2
      have eg4 : (L2.upd H3 g2 (.tup (gv.map rdV))) g2 = some (.tup (gv.map rdV)) := upd_same
      have S4 := S3.keep s4
      have U4 := U3.trans (But.of s4)
      generalize L2.upd H3 g2 (.tup (gv.map rdV)) = H4 at eg4 S4 U4
      have eh4 := U4.tup S2 _ _ eh2
      rw [List.length_map, lg1] at S4
      refine ⟨_, rfl, h, rfl, ⟨hb.map bitV, .inl (.inl eh4)⟩, fun D2 nD2 => ?_⟩
      refine lc_tup (xs := hb.map bitV) (DI isRdR (fun _ => True) st lg cl H4 D2 (t + 69 + C.ni) 1) (DI.zero nD2 (S4.up (by omega))) (fun i H5 _ d => ?_) (fun i x H5 hx d => ?_) (fun H5 d => ?_)
      · obtain ⟨_, _, _, _, _, _, S5, U5⟩ := id d
        exact .inl (.inl (U5.tup S4 _ _ eh4))
      · obtain ⟨_, _, _, _, _, _, S5, _⟩ := id d
        have hi : i < (hb.map bitV).length := (List.getElem?_eq_some_iff.mp hx).1
        rw [List.getElem?_map] at hx
        obtain ⟨b, hb2, rfl⟩ := Option.map_eq_some_iff.mp hx
        rw [List.length_map] at hi
        refine ⟨rfl, _, rfl, st, lg, cl, t + 69 + C.ni + 1 * i, 3, rfl, by decide, by decide, by omega, S5, fun k H6 a0 a1 S6 U6 => ⟨_, _, rfl, rfl, _, rfl, ite2 (fun e => ?_) (fun e => ?_)⟩⟩
        · exact ⟨_, rfl, DI.push (x := some b) (fun _ _ _ _ _ r => r) nD2 S4 d (by omega) U6 (S6.up (by omega)) rfl trivial⟩
        · exact DI.push (x := none) (fun _ _ _ _ _ r => r) nD2 S4 d (by omega) U6 (S6.up (by omega)) rfl trivial
      obtain ⟨zs, hv, eD2, lhv, hz, _, S5, U5⟩ := d.all
      have hz := rds_all hz
      subst hz
      rw [List.length_map] at lhv
      refine ⟨D2, _, rfl, .inl ⟨.inl (.inl eD2), fun h2 nh2 => ⟨(by show 2 ≤ sizeLine; decide), fun T2 nT2 => ?_⟩⟩⟩
      have s6 := same_new (o := .tup (hv.map rdV)) nh2
      have eh6 : (L2.upd H5 h2 (.tup (hv.map rdV))) h2 = some (.tup (hv.map rdV)) := upd_same
      generalize L2.upd H5 h2 (.tup (hv.map rdV)) = H6 at s6 eh6 nT2
      have s7 := same_new (o := .tup [.ref g2, .ref h2]) nT2
      have k67 := (U5.tup S4).trans (TupKeep.of (s6.trans s7))
      rw [List.length_map] at S5
      exact q T2 g2 h2 gv hv _ upd_same (k67 _ _ eg4) (s7 _ _ eh6) (by omega) (by omega) ((S5.keep (s6.trans s7)).up (by omega)) (((U1.trans U2).trans (U4.trans U5)).trans (But.of (s6.trans s7)))
end
end K02

set_option Elab.async false
set_option linter.all false
set_option maxRecDepth 100000
set_option maxHeartbeats 4000000
/-! The law. -/
namespace K02
open PySem PySem.Spec L2
open PyProof.Rows GenW GxR EZ TK CE LamX
abbrev sLaw : Stmt := top 67 -- law
abbrev nLaw4 : List Str := ["script", "state", "turn", "circuit", "given", "held", "readings", "laps", "order", "lot", "bent", "item", "due", "text", "told", "several", "other", "fine", "odd", "bad", "wrong", "work", "pair", "spot", "reading", "lap", "gate", "bit"]
theorem scLaw : FnScope nLaw4 ["script"] (defScope sLaw) := ⟨rfl, rfl, rfl, by decide +kernel, rfl, by decide +kernel, by decide +kernel⟩
def kwC {α : Type} : List α → List α → List α
  | [], [a, b, c] => [c, b, a]
  | _, _ => []
def kwD {α : Type} : List α → List α → List α
  | [], [a, b, c, d] => [d, c, b, a]
  | _, _ => []
def kwE {α : Type} : List α → List α → List α
  | [], [a, b, c, d, e] => [e, d, c, b, a]
  | _, _ => []
/-- where the law's helpers stand -/
structure LawF4 (P : Program) (w : World) (K : PySem.W.Frag) (mg : Str → Option Value) (base : Heap) (TT : List Addr) (CC CG CH CS : Addr) : Prop where
  begun : Cal P w K mg base CX0 1 "_law_begun" ["script"] (spBegun K)
  draw : Cal P w K mg base CX0 1 "_law_draw" ["state", "size_here"] spDraw
  pick : Cal P w K mg base CX0 2 "_law_pick" ["state", "several"] (spPick K)
  circ : Cal P w K mg base CX0 4 "_law_circuit" ["state", "most", "branches"] spLCirc
  caseR : Cal P w K mg base CX0 3 "_law_case_readings" ["state", "circuit"] spCaseR
  sure : Cal P w K mg base CX0 6 "_law_sure" ["circuit", "given", "held"] (spLSure K)
  badR : Cal P w K mg base CX0 3 "_law_bad_readings" ["state", "size"] spBadR
  bent : Cal P w K mg base CX0 3 "_law_bent_order" ["state", "order", "many"] spBent
  oddV : Cal P w K mg base CX0 3 "_law_odd" ["state"] spOdd
  isO : Cal P w K mg base CX0 6 "_law_is_order" ["circuit", "given", "held", "item"] (spLOrder K)
  isL : Cal P w K mg base CX0 7 "_law_is_lot" ["circuit", "given", "held", "order", "item"] (spLLot K)
  so : ∃ f fd, FnOk P w K mg base (L2.CX P w) 11 f fd ["circuit", "given", "held"] (spCased K TT CC CG CH finOrder) ∧ PySem.W.keepIn K (.ref f) = true ∧ Binds K fd ["circuit", "given", "held"] [] ∧ mg "sure_order" = some (.ref f) ∧ KBinds K fd ["circuit", "given", "held"] ["held", "given", "circuit"] kwC kwC
  cl : ∃ f fd, FnOk P w K mg base (L2.CX P w) 11 f fd ["circuit", "given", "held"] (spCased K TT CC CG CH finLot) ∧ PySem.W.keepIn K (.ref f) = true ∧ Binds K fd ["circuit", "given", "held"] [] ∧ mg "closed_lot" = some (.ref f) ∧ KBinds K fd ["circuit", "given", "held"] ["held", "given", "circuit"] kwC kwC
  io : ∃ f fd, FnOk P w K mg base (L2.CX P w) 11 f fd ["circuit", "given", "held", "thing"] (spCasedX K TT CC CG CH 1 (finIsO K)) ∧ PySem.W.keepIn K (.ref f) = true ∧ Binds K fd ["circuit", "given", "held", "thing"] [] ∧ mg "is_order" = some (.ref f) ∧ KBinds K fd ["circuit", "given", "held", "thing"] ["thing", "held", "given", "circuit"] kwD kwD
  ic : ∃ f fd, FnOk P w K mg base (L2.CX P w) 11 f fd ["circuit", "given", "held", "order", "lot"] (spCasedX K TT CC CG CH 2 (finICL K TT)) ∧ PySem.W.keepIn K (.ref f) = true ∧ Binds K fd ["circuit", "given", "held", "order", "lot"] [] ∧ mg "is_closed_lot" = some (.ref f) ∧ KBinds K fd ["circuit", "given", "held", "order", "lot"] ["lot", "order", "held", "given", "circuit"] kwE kwE
  caught : ∃ g fd, Fun K "_law_caught" "_law_caught" sCaught g fd ∧ PySem.W.keepIn K (.ref g) = true ∧ Binds K fd ["work"] [] ∧ mg "_law_caught" = some (.ref g)
  gS : mg "RestError" = some (.ref CS)
  gC : mg "BadCircuit" = some (.ref CC)
  gG : mg "BadGiven" = some (.ref CG)
  gH : mg "BadHeld" = some (.ref CH)
  eC : PySem.W.exmOne K (.ref CC) (.ref CS) = some true
  eG : PySem.W.exmOne K (.ref CG) (.ref CS) = some true
  eH : PySem.W.exmOne K (.ref CH) (.ref CS) = some true
  cC : ExcC K CC
  cG : ExcC K CG
  cH : ExcC K CH
  iC : PySem.W.kitOne K (.ref CC) (.ref CC) = some true
  iG : PySem.W.kitOne K (.ref CG) (.ref CG) = some true
  iH : PySem.W.kitOne K (.ref CH) (.ref CH) = some true
section
variable {P : Program} {w : World} {K : PySem.W.Frag} {mg : Str → Option Value} {base : Heap}
theorem paired_app {α β : Type} {R : α → β → Prop} {a : List α} {b : List β} {c : List α} {d : List β} (h : Paired R a b) (k : Paired R c d) : Paired R (a ++ c) (b ++ d) := by
  induction h with
  | nil => exact k
  | cons r t ih => exact .cons r ih
theorem sumL_to {K : PySem.W.Frag} {H : Hp} {l b : Addr} {xs : List V} {yss : List (List V)} {Q : VK} (hl : H l = some (.lst xs)) (hb : H b = some (.lst [])) (hp : Paired (fun x ys => ∃ a, x = V.ref a ∧ H a = some (.lst ys)) xs yss) (hz : yss.flatten.length ≤ sizeLine)
    (k : ∀ p H', Same H H' → H' p = some (.lst yss.flatten) → Q (.ref p) H') : RU.rSumL K [.ref l, .ref b] H Q := by
  refine ⟨l, b, xs, yss, rfl, .inl (.inl hl), hb, hp, hz, fun e => ?_, fun p np => k p _ (same_new np) upd_same⟩
  subst e
  cases hp
  exact k b H (fun _ _ e => e) hb
theorem laps_split {N : Addr → Prop} {H : Hp} {us : List V} {laps : List Lap} (h : AllAt (LapAt N) H us laps) : ∃ yss : List (List V), Paired (fun x ys => ∃ a, x = V.ref a ∧ H a = some (.lst ys)) us yss ∧ AllAt PairAt H yss.flatten laps.flatten := by
  unfold AllAt at h ⊢
  induction h with
  | nil => exact ⟨[], .nil, .nil⟩
  | cons r t ih =>
    obtain ⟨a, ys, e, _, e2, hp⟩ := r
    obtain ⟨yss, i1, i2⟩ := ih
    refine ⟨ys :: yss, .cons ⟨a, e, e2⟩ i1, ?_⟩
    rw [List.flatten_cons, List.flatten_cons]
    exact paired_app hp i2
theorem laps_len (gs : List Gate) (gv hv : List Rd) : (lapsAll gs gv hv).flatten.length ≤ gs.length := by
  have h0 : FLe (List.replicate gs.length (none : Rd)) (sureF gs gv hv) := ⟨by rw [List.length_replicate, sureF_len], fun i => .inl (getD_rep _ _)⟩
  have hm : ∀ p ∈ (lapsAll gs gv hv).flatten, p.1 < gs.length := fun p hp => by
    obtain ⟨lap, h1, h2⟩ := List.mem_flatten.mp hp
    exact lapsL_mem _ _ lap h1 p h2
  obtain ⟨_, _, _, n1, m1⟩ := toldP_all hm List.length_replicate sure_le h0 told_order
  have nd : ((lapsAll gs gv hv).flatten.map (·.1)).Nodup := by
    refine List.Pairwise.map _ (fun p q hpq => ?_) (List.Pairwise.and_mem.mp n1)
    intro e
    refine hpq.2.2 ?_
    have a := ((m1 p).mp hpq.1).1
    have b := ((m1 q).mp hpq.2.1).1
    rw [e, b] at a
    obtain ⟨x, y⟩ := p
    obtain ⟨z, w⟩ := q
    have e : x = z := e
    have a : some w = some y := a
    cases a
    subst e
    rfl
  have z := nat_nodup_len _ (List.range gs.length) nd fun x hx => by
    obtain ⟨p, hp, rfl⟩ := List.mem_map.mp hx
    exact List.mem_range.mpr (hm p hp)
  rw [List.length_map, List.length_range] at z
  exact z
theorem ord_d2 {N : Addr → Prop} {H : Hp} {p : Addr} {us : List V} {P : List (Nat × Bool)} (e : H p = some (.tup us)) (h : AllAt PairAt H us P) (hb : ∀ p ∈ P, p.1 ≤ 7) (hl : P.length ≤ 7) : D2 N H (.ref p) (.tuple (P.map pairDS)) := by
  have lu : us.length = P.length := Paired.length h
  refine .inr (.tup e ?_ (by omega))
  clear e hl lu
  unfold AllAt at h
  induction h with
  | nil => exact .nil
  | @cons x q xs ps r t ih =>
    obtain ⟨a, rfl, e⟩ := r
    have hq := hb q List.mem_cons_self
    exact .cons (.inr (.tup e (.cons (.int _ (by omega) (by omega)) (.cons (.int _ (by cases q.2 <;> decide) (by cases q.2 <;> decide)) .nil)))) (ih fun z hz => hb z (List.mem_cons_of_mem _ hz))
theorem nv_paired {R : V → PyData → Prop} : ∀ {ns : List Nat}, (∀ n ∈ ns, R (.int (n : Int)) (.int (n : Int))) → Paired R (nV ns) (ns.map fun (n : Nat) => PyData.int (n : Int))
  | [], _ => .nil
  | n :: r, h => .cons (h n List.mem_cons_self) (nv_paired fun x hx => h x (List.mem_cons_of_mem _ hx))
theorem nv_d1 {N : Addr → Prop} {H : Hp} {p : Addr} {ns : List Nat} (e : H p = some (.tup (nV ns))) (hb : ∀ n ∈ ns, n ≤ 7) (hl : ns.length ≤ 9) : D1 N H (.ref p) (.tuple (ns.map fun (n : Nat) => PyData.int (n : Int))) :=
  .inr (.tup e (nv_paired fun n hn => .int _ (by omega) (by have := hb n hn; omega)) (by rw [nV_len]; omega))
theorem nv_d2 {N : Addr → Prop} {H : Hp} {p : Addr} {ns : List Nat} (e : H p = some (.tup (nV ns))) (hb : ∀ n ∈ ns, n ≤ 7) (hl : ns.length ≤ 7) : D2 N H (.ref p) (.tuple (ns.map fun (n : Nat) => PyData.int (n : Int))) :=
  .inr (.tup e (nv_paired fun n hn => .inl (.int _ (by omega) (by have := hb n hn; omega))) (by rw [nV_len]; omega))
theorem repr_d2s {H : Hp} {a : Addr} {v u : V} {d : PyData} {Q : VK} (e : H a = some (.lst [v, u])) (hv : D2 (fun _ => False) H v d) (hu : D2 (fun _ => False) H u d) (q : Q (.str (PyData.list [d, d]).shown) H) : RU.rReprU K [.ref a] H Q := by
  have c : Cont (fun _ => False) H (D2 (fun _ => False) H) (.ref a) (.list [d, d]) := .lst e (fun z => z) (.cons hv (.cons hu .nil))
  obtain ⟨g, wt, dp⟩ := c.good fun _ _ z => z.good
  refine .inl ⟨.ref a, _, rfl, c.dp (fun _ _ z => z.dp), g.2.1, g.2.2.1, by omega, ?_, fun i e => (by cases e), q⟩
  have hl : (PyData.list [d, d]).layable0 = true := by
    unfold PyData.layable0
    have e2 : (2 : Nat) ^ 20 = 1048576 := by decide
    rw [g.1, decide_eq_true (show (PyData.list [d, d]).depth ≤ 64 by omega), decide_eq_true (show (PyData.list [d, d]).weight ≤ 2 ^ 20 by omega)]
    rfl
  have z := PyProof.Rows.shown_le13 hl g.2.2.2
  rw [sizeLine_eq]
  omega
theorem OrderV.extN {H H' : Hp} {x : V} {t : String} {ys : List V} {items : List Item} (h : OrderV K H x t ys items) (e : ExtN H H') : OrderV K H' x t ys items :=
  ⟨h.1.ext e, fun z => by
    obtain ⟨a, e1, s⟩ := h.2.1 z
    exact ⟨a, e1, extN_seqT e s⟩, fun z => pairedMono (fun _ _ q => q.ext e) (h.2.2 z)⟩
theorem slA_to {H : Hp} {a : Addr} {xs : List V} {lo hi : Option Int} {Q : VK} (e : H a = some (.tup xs)) (k : ∀ p H', Same H H' → H' p = some (.tup (cutV xs lo hi)) → Q (.ref p) H') : rSlA K (.ref a) lo hi H Q := by
  refine ⟨a, xs, rfl, .inl (.inl e), fun z => k a H (fun _ _ e => e) ?_, fun _ p np => k p _ (same_new np) upd_same⟩
  unfold cutV
  rw [z.1, z.2, List.drop_zero, Nat.sub_zero, List.take_length]
  exact e
theorem ints_paired : ∀ {xs : List V}, (∀ x ∈ xs, ∃ n : Nat, n ≤ 7 ∧ x = .int (n : Int)) → ∃ ds, Paired At0 xs ds
  | [], _ => ⟨[], .nil⟩
  | x :: r, h => by
    obtain ⟨n, hn, e⟩ := h x List.mem_cons_self
    obtain ⟨ds, p⟩ := ints_paired fun y hy => h y (List.mem_cons_of_mem _ hy)
    rw [e]
    exact ⟨_, .cons (.int _ (by omega) (by omega)) p⟩
theorem ints_d1 {N : Addr → Prop} {H : Hp} {p : Addr} {xs : List V} (e : H p = some (.tup xs)) (h : ∀ x ∈ xs, ∃ n : Nat, n ≤ 7 ∧ x = .int (n : Int)) (l : xs.length ≤ 20) : ∃ d, D1 N H (.ref p) d := by
  obtain ⟨ds, pd⟩ := ints_paired h
  exact ⟨_, .inr (.tup e pd l)⟩
theorem Between.putL {st lg cl Pl v : Addr} {TT : List Addr} {H : Hp} {t : Nat} {xs ys : List V} (B : Between st lg cl Pl TT H t) (e : H v = some (.lst xs)) (n1 : v ≠ lg) (n2 : v ≠ cl) : Between st lg cl Pl TT (L2.upd H v (.lst ys)) t := by
  refine ⟨?_, fun P hP => ?_, ?_⟩
  · obtain ⟨ls, cs, left, turn, S⟩ := B.s
    have n0 : st ≠ v := fun z => by
      have := S.d
      rw [z, e] at this
      cases this
    exact ⟨ls, cs, left, turn, by rw [upd_ne n0]; exact S.d, by rw [upd_ne n1.symm]; exact S.l, by rw [upd_ne n2.symm]; exact S.c, S.lp, S.l0, S.t0, S.tt, S.ll, S.cc, S.ne⟩
  · obtain ⟨ps, e1, r⟩ := B.tt P hP
    refine ⟨ps, ?_, r⟩
    rw [upd_ne (fun z => by
      rw [z, e] at e1
      cases e1)]
    exact e1
  · obtain ⟨ps, e1, r, ce⟩ := B.tl
    refine ⟨ps, ?_, r, fun pos cv h => ?_⟩
    · rw [upd_ne (fun z => by
        rw [z, e] at e1
        cases e1)]
      exact e1
    · obtain ⟨c, a, b⟩ := ce pos cv h
      refine ⟨c, a, ?_⟩
      rw [upd_ne (fun z => by
        rw [z, e] at b
        exact codeO_st.2 _ (Option.some.inj b).symm)]
      exact b
theorem paired_right {α β : Type} {R : α → β → Prop} {xs : List α} {ds : List β} (p : Paired R xs ds) : ∀ y ∈ ds, ∃ x, R x y := by
  induction p with
  | nil => exact fun y z => (nomatch z)
  | cons r t ih =>
    intro y hy
    rcases List.mem_cons.mp hy with z | z
    · rw [z]
      exact ⟨_, r⟩
    · exact ih y z
theorem tp_of {H : Hp} {n : Nat} {ys : List V} {items : List Item} (h : Paired (fun y (p : Item) => ItemsV K H y p.1 p.2) ys items) : ∀ {PP : List (Nat × Bool)}, Paired (fun (it : Item) p => it = itemOf p ∧ p.1 < n) items PP → n ≤ 2000 → Paired (TP K H) ys PP := by
  induction h with
  | nil =>
    intro PP q _
    cases q
    exact .nil
  | cons r t ih =>
    intro PP q hn
    cases q with
    | @cons it p its ps r2 t2 =>
      obtain ⟨e, l⟩ := r2
      subst e
      obtain ⟨a, e1, s⟩ := r.2.1 rfl
      exact .cons ⟨⟨a, e1, s⟩, by omega⟩ (ih t2 hn)
theorem flat_ints (gl : List Int) : (gl.map V.int).all flatV = true := List.all_eq_true.mpr fun y hy => by
  obtain ⟨r, _, rfl⟩ := List.mem_map.mp hy
  rfl
theorem TP.ext {H H' : Hp} {x : V} {p : Nat × Bool} (h : TP K H x p) (e : ExtN H H') : TP K H' x p := by
  obtain ⟨⟨a, e1, s⟩, l⟩ := h
  exact ⟨⟨a, e1, extN_seqT e s⟩, l⟩
theorem tp_ord {H : Hp} {us : List V} {P : List (Nat × Bool)} (h : AllAt PairAt H us P) (hb : ∀ p ∈ P, p.1 < 2000) : Paired (TP K H) us P := by
  unfold AllAt at h
  induction h with
  | nil => exact .nil
  | cons r t ih =>
    obtain ⟨a, e1, e2⟩ := r
    exact .cons ⟨⟨a, e1, .inl (.inl e2)⟩, hb _ List.mem_cons_self⟩ (ih fun z hz => hb z (List.mem_cons_of_mem _ hz))
theorem ord_order {H : Hp} {o : Addr} {us : List V} {P : List (Nat × Bool)} (e : H o = some (.tup us)) (h : AllAt PairAt H us P) : OrderV K H (.ref o) "tuple" us (P.map itemOf) := by
  refine ⟨ty_tup e, fun _ => ⟨o, rfl, .inl (.inl e)⟩, fun _ => ?_⟩
  clear e
  unfold AllAt at h
  induction h with
  | nil => exact .nil
  | @cons x p xs ps r t ih =>
    obtain ⟨a, rfl, e2⟩ := r
    refine .cons ⟨ty_tup e2, fun _ => ⟨a, rfl, .inl (.inl e2)⟩, fun _ y hy => ?_⟩ ih
    have hy : y ∈ [V.int (p.1 : Int), bitV p.2] := hy
    simp only [List.mem_cons, List.not_mem_nil, or_false] at hy
    rcases hy with z | z <;> rw [z]
    · exact ⟨_, ty_int _⟩
    · exact ⟨_, ty_int (bitZ p.2)⟩
theorem nv_items {H : Hp} {o : Addr} {ns : List Nat} (e : H o = some (.tup (nV ns))) : ItemsV K H (.ref o) "tuple" (nV ns) := ⟨ty_tup e, fun _ => ⟨o, rfl, .inl (.inl e)⟩, fun _ y hy => by
  obtain ⟨n, _, rfl⟩ := List.mem_map.mp hy
  exact ⟨_, ty_int _⟩⟩
theorem lot_told (C : Circ) (gv hv : List Rd) : lotBy C gv hv (toldBy C gv hv "tuple" ((lapsAll C.gates gv hv).flatten.map itemOf)) "tuple" (nV (opensF (sureF C.gates gv hv))) = true := by
  have e : toldBy C gv hv "tuple" ((lapsAll C.gates gv hv).flatten.map itemOf) = some (sureF C.gates gv hv) := by
    unfold toldBy
    rw [if_pos rfl, told_items _ _ fun p hp => by
      obtain ⟨lap, h1, h2⟩ := List.mem_flatten.mp hp
      exact lapsL_mem _ _ lap h1 p h2]
    exact told_order
  rw [e]
  show lotOk C gv hv (sureF C.gates gv hv) "tuple" (nV (opensF (sureF C.gates gv hv))) = true
  unfold lotOk
  rw [decide_eq_true rfl, decide_eq_true rfl]
  refine List.all_eq_true.mpr fun g hg => ?_
  obtain ⟨h1, h2⟩ := opens_mem hg
  rw [sureF_agree C.gates gv hv (by rw [← sureF_len C.gates gv hv]; exact h1), h2]
  rfl
theorem Between.butP {st lg cl Pl : Addr} {TT : List Addr} {H H3 : Hp} {t : Nat} (B : Between st lg cl Pl TT H t) (hPT : Pl ∉ TT) (bp : ButP Pl H H3) (T3 : LamX.TabS H3 Pl lawQ) : Between st lg cl Pl TT H3 t := by
  have l := B.lam (H4 := H3) (ad := 0) (o := .tup []) hPT bp T3
  refine ⟨?_, l.1, T3⟩
  obtain ⟨ls, cs, left, turn, S⟩ := B.s
  exact ⟨ls, cs, left, turn, l.2.1 _ _ S.d (fun _ z => by cases z), l.2.1 _ _ S.l (fun _ z => by cases z), l.2.1 _ _ S.c (fun _ z => by cases z), S.lp, S.l0, S.t0, S.tt, S.ll, S.cc, S.ne⟩
/-- a lambda of three parameters that calls a def with more -/
def spLam (sp : Sp) (zs : List V) : Sp := fun vs H Q E => ∃ a b c, vs = [a, b, c] ∧ sp (a :: b :: c :: zs) H Q E
/-- what the three wrong calls come to -/
structure Three (K : PySem.W.Frag) (TT : List Addr) (CC CG CH : Addr) (sp : Sp) : Prop where
  odd : ∀ {H : Hp} {y x1 x2 : V} {Q : VK} {E : XK}, Odd4 K H y → E (.ref CC) none H → sp [y, x1, x2] H Q E
  bad1 : ∀ {H : Hp} {y x1 x2 : V} {C : Circ} {Q : VK} {E : XK}, CircAt H y C → C.ok → fanG C.gates ≤ 4000 → TabsG TT H → (∃ t xs, ItemsV K H x1 t xs ∧ okRd t xs C.ni = false) → (∃ t xs, ItemsV K H x2 t xs ∧ okRd t xs C.regs.length = false) → (∀ H', Ex TT H H' → E (.ref CG) none H') → sp [y, x1, x2] H Q E
  bad2 : ∀ {H : Hp} {y x2 : V} {ga : Addr} {gv : List Rd} {C : Circ} {Q : VK} {E : XK}, CircAt H y C → C.ok → fanG C.gates ≤ 4000 → TabsG TT H → H ga = some (.tup (gv.map rdV)) → gv.length = C.ni → (∃ t xs, ItemsV K H x2 t xs ∧ okRd t xs C.regs.length = false) → (∀ H', Ex TT H H' → E (.ref CH) none H') → sp [y, .ref ga, x2] H Q E
theorem three_cased {TT : List Addr} {CC CG CH : Addr} {fin : Circ → List Rd → List Rd → Hp → VK → Prop} : Three K TT CC CG CH (spCased K TT CC CG CH fin) :=
  ⟨fun o e => cased_odd o e, fun a b c d e f g => cased_bad1 a b c d e f g, fun a b c d e f g h => cased_bad2 a b c d e f g h⟩
theorem three_casedX {TT : List Addr} {CC CG CH : Addr} {n : Nat} {zs : List V} {fin : Circ → List Rd → List Rd → List V → Hp → VK → Prop} (l : zs.length = n) : Three K TT CC CG CH (spLam (spCasedX K TT CC CG CH n fin) zs) :=
  ⟨fun o e => ⟨_, _, _, rfl, casedX_odd l o e⟩, fun a b c d e f g => ⟨_, _, _, rfl, casedX_bad1 l a b c d e f g⟩, fun a b c d e f g h => ⟨_, _, _, rfl, casedX_bad2 l a b c d e f g h⟩⟩
theorem callU3 {i j1 j2 j3 : Nat} {S : Addr → Sp → Prop} {LS : Hp → Addr → Sp → Prop} {E : XK} {σ : L2.St} {H : Hp} {Q : VK} {f : Addr} {sp : Sp} {a b c : V} (hs : σ[i]? = some (some (.ref f))) (h : S f sp ∨ LS H f sp) (h1 : σ[j1]? = some (some a)) (h2 : σ[j2]? = some (some b)) (h3 : σ[j3]? = some (some c)) (k : sp [a, b, c] H Q E) :
    LV.tCallU i S LS E (tCons (tVar j1) (tCons (tVar j2) (tCons (tVar j3) tNil))) σ H Q := by
  refine ⟨f, sp, hs, ?_⟩
  rcases h with h | h
  · exact .inl ⟨h, _, h1, _, h2, _, h3, k⟩
  · exact .inr ⟨h, _, h1, _, h2, _, h3, h, k⟩
theorem ne_self (z : Str) : (!decide (V.str z = V.str z)) = false := by simp
def spLaw4 (K : PySem.W.Frag) (TT : List Addr) (Pl : Addr) : Sp := fun vs H Q _ => ∃ (a : Addr) (ns : List Int), vs = [.ref a] ∧ SqL K H a (ns.map V.int) ∧ ns.length ≤ 63 ∧ TabsG TT H ∧ LamX.TabS H Pl lawQ ∧ Pl ∉ TT ∧ ∀ H', Q (.bl true) H'
theorem ok_law4 {TT : List Addr} {f c Pl CC CG CH CS : Addr} {fd : FuncData} (F : Fun K "law" "law" sLaw f fd) (hc : fd.code = .ref c) (TB : LamX.TabB base mg c Pl) (L : LawF4 P w K mg base TT CC CG CH CS)
    (mrange : mg "range" = none) (mmin : mg "min" = none) (mlen : mg "len" = none) (mrp : mg "repr" = none) (mlist : mg "list" = none) (mtuple : mg "tuple" = none) (msum : mg "sum" = none) (men : mg "enumerate" = none) (msorted : mg "sorted" = none) (mi : mg "isinstance" = none) : GE.FnG P w K mg base CX0 15 f fd ["script"] (spLaw4 K TT Pl) := by
  obtain ⟨fB, fdB, GB, kB, bB, mB⟩ := L.begun
  obtain ⟨fD, fdD, GD, kD, bD, mD⟩ := L.draw
  obtain ⟨fK, fdK, GK, kK, bK, mK⟩ := L.pick
  obtain ⟨fI, fdI, GI, kI, bI, mI⟩ := L.circ
  obtain ⟨fR, fdR, GR, kR, bR, mR⟩ := L.caseR
  obtain ⟨fS, fdS, GS, kS, bS, mS⟩ := L.sure
  obtain ⟨fW, fdW, GW, kW, bW, mW⟩ := L.badR
  obtain ⟨fN, fdN, GN, kN, bN, mN⟩ := L.bent
  obtain ⟨fO, fdO, GO, kO, bO, mO⟩ := L.oddV
  obtain ⟨fJO, fdJO, GJO, kJO, bJO, mJO⟩ := L.isO
  obtain ⟨fJL, fdJL, GJL, kJL, bJL, mJL⟩ := L.isL
  obtain ⟨fSO, fdSO, GSO, kSO, bSO, mSO, hSO⟩ := L.so
  obtain ⟨fCL, fdCL, GCL, kCL, bCL, mCL, hCL⟩ := L.cl
  obtain ⟨fIO, fdIO, GIO, kIO, bIO, mIO, hIO⟩ := L.io
  obtain ⟨fIC, fdIC, GIC, kIC, bIC, mIC, hIC⟩ := L.ic
  obtain ⟨fC, fdC, FC, kC, bC, mC⟩ := L.caught
  obtain ⟨oc, od, kV, doc, pm, an, cdv, ct, osl, rfl, lkC, hcdC⟩ := FC.ex
  obtain ⟨Wk, eWk⟩ : ∃ Wk : Addr → Sp → Prop, Wk = fun f sp => (f = fSO ∧ sp = spCased K TT CC CG CH finOrder) ∨ (f = fCL ∧ sp = spCased K TT CC CG CH finLot) := ⟨_, rfl⟩
  have hWk : ∀ f sp, Wk f sp → ∃ (fd : FuncData) (ps : List Str), FnOk P w K mg base (L2.CX P w) 12 f fd ps sp ∧ PySem.W.keepIn K (.ref f) = true ∧ Binds K fd ps [] := fun f sp h => by
    rw [eWk] at h
    rcases h with ⟨rfl, rfl⟩ | ⟨rfl, rfl⟩
    · exact ⟨_, _, GSO.mono (by decide), kSO, bSO⟩
    · exact ⟨_, _, GCL.mono (by decide), kCL, bCL⟩
  obtain ⟨LS, eLS⟩ : ∃ LS : Hp → Addr → Sp → Prop, LS = fun H f sp => ∃ j q params body sc ps, LV.LamFn P w K mg base (L2.CX P w) j q params body sc ps sp ∧ LV.LamAt H f q params body sc ∧ j + 1 ≤ 12 := ⟨_, rfl⟩
  have hLS : ∀ H f sp, LS H f sp → ∃ j q params body sc ps, LV.LamFn P w K mg base (L2.CX P w) j q params body sc ps sp ∧ LV.LamAt H f q params body sc ∧ j + 1 ≤ 12 := fun H f sp h => by
    rw [eLS] at h
    exact h
  refine okGN F hc scLaw (fun vs H Q E h => ?_) (fun A outer s H vs Q E hg hr h => ?_)
  · obtain ⟨a, ns, rfl, _⟩ := h
    rfl
  · obtain ⟨a, ns, rfl, hS, hl, hT, hP, hPT, q⟩ := h
    have hu64 := hr.units
    refine ⟨_, (pss_cons (ps_set (i := 1) scLaw.nd rfl (Or.inr rfl) (pe_call GB (hr.mono (by decide)) (by rfl) mB kB bB .nil pass0 (pa_cons (pv 0) pa_nil)))
      (pss_cons (ps_for PassesOwn.never rfl (pi_range1 (by rfl) mrange (pa_cons (pe_op op_add pe_int (pe_callB (call_min2 rfl) (by rfl) mmin (by decide +kernel) (pa_cons (pe_callB call_len_seq (by rfl) mlen PySem.boot_len (pa_cons (pv 0) pa_nil)) (pa_cons pe_int pa_nil)))) pa_nil)) (pg_name (i := 2) scLaw.nd rfl (Or.inl rfl))
        (pss_cons (ps_set (i := 3) scLaw.nd rfl (Or.inr rfl) (pe_call GI (hr.mono (by decide)) (by rfl) mI kI bI .nil pass0 (pa_cons (pv 1) (pa_cons pe_int (pa_cons pe_int pa_nil)))))
        (pss_cons (ps_asg (pe_call GR (hr.mono (by decide)) (by rfl) mR kR bR .nil pass0 (pa_cons (pv 1) (pa_cons (pv 3) pa_nil))) (pg_tup rfl (pgs_cons (pg_name (i := 4) scLaw.nd rfl (Or.inr rfl)) (pgs_cons (pg_name (i := 5) scLaw.nd rfl (Or.inl rfl)) pgs_nil))))
        (pss_cons (ps_asg (pe_call GS (hr.mono (by decide)) (by rfl) mS kS bS .nil pass0 (pa_cons (pv 3) (pa_cons (pv 4) (pa_cons (pv 5) pa_nil)))) (pg_tup rfl (pgs_cons (pg_name (i := 6) scLaw.nd rfl (Or.inr rfl)) (pgs_cons (pg_name (i := 7) scLaw.nd rfl (Or.inl rfl)) pgs_nil))))
        (pss_cons (ps_set (i := 8) scLaw.nd rfl (Or.inr rfl) (pe_callTy call_tuple_of (by rfl) mtuple (by decide +kernel) (pa_cons (pe_lc (own := [("pair", 22)]) (g := gName 22) (tt := tYes) rfl scLaw.nd (pi_list (pe_callB (RU.cr_sumL rfl) (by rfl) msum (by decide +kernel) (pa_cons (pv 7) (pa_cons (pe_lst pa_nil) pa_nil)))) (blkOk_by (N := nLaw4) (sc := defScope sLaw) (by decide +kernel)) (fun _ _ _ _ _ => (pg_name (i := 22) scLaw.nd rfl (Or.inl rfl))) (fun _ _ _ _ _ => pts_nil) (fun _ _ _ _ _ => (pv 22))) pa_nil)))
        (pss_cons (ps_set (i := 9) scLaw.nd rfl (Or.inl rfl) (pe_callTy call_tuple_of (by rfl) mtuple (by decide +kernel) (pa_cons (pe_lc (own := [("spot", 23), ("reading", 24)]) (g := gTup K 2 (gCons (gName 23) (gCons (gName 24) gNil))) rfl scLaw.nd (pi_enum (by rfl) men (pa_cons (pv 6) pa_nil)) (blkOk_by (N := nLaw4) (sc := defScope sLaw) (by decide +kernel)) (fun _ _ _ _ _ => (pg_tup rfl (pgs_cons (pg_name (i := 23) scLaw.nd rfl (Or.inl rfl)) (pgs_cons (pg_name (i := 24) scLaw.nd rfl (Or.inl rfl)) pgs_nil)))) (fun _ _ _ _ _ => pts_one (pt_cmpR op_isN (pv 24) pe_non (nomark _))) (fun _ _ _ _ _ => (pv 23))) pa_nil)))
        (pss_cons (ps_if (pt_cmpR op_ne (pe_callB (RU.call_reprU hg hu64) (by rfl) mrp (by decide +kernel) (pa_cons (pe_lst (pa_cons (pe_call GSO (hr.mono (by decide)) (by rfl) mSO kSO bSO .nil passNone (pa_cons (pv 3) (pa_cons (pv 4) (pa_cons (pv 5) pa_nil)))) (pa_cons (pe_callK0 GSO (hr.mono (by decide)) (by rfl) mSO kSO hSO passNone (pk_cons (pv 5) (pk_cons (pv 4) (pk_cons (pv 3) pk_nil)))) pa_nil))) pa_nil)) (pe_callB (RU.call_reprU hg hu64) (by rfl) mrp (by decide +kernel) (pa_cons (pe_lst (pa_cons (pv 8) (pa_cons (pv 8) pa_nil))) pa_nil)) (nomark _)) (pss_one (ps_ret pe_bl)) pss_nil)
        (pss_cons (ps_if (pt_cmpR op_ne (pe_callB (RU.call_reprU hg hu64) (by rfl) mrp (by decide +kernel) (pa_cons (pe_lst (pa_cons (pe_call GCL (hr.mono (by decide)) (by rfl) mCL kCL bCL .nil passNone (pa_cons (pv 3) (pa_cons (pv 4) (pa_cons (pv 5) pa_nil)))) (pa_cons (pe_callK0 GCL (hr.mono (by decide)) (by rfl) mCL kCL hCL passNone (pk_cons (pv 5) (pk_cons (pv 4) (pk_cons (pv 3) pk_nil)))) pa_nil))) pa_nil)) (pe_callB (RU.call_reprU hg hu64) (by rfl) mrp (by decide +kernel) (pa_cons (pe_lst (pa_cons (pv 9) (pa_cons (pv 9) pa_nil))) pa_nil)) (nomark _)) (pss_one (ps_ret pe_bl)) pss_nil)
        (pss_cons (ps_set (i := 10) scLaw.nd rfl (Or.inl rfl) (pe_op op_cat (pe_op op_cat (pe_lst (pa_cons (pv 8) pa_nil)) (pe_lc (own := [("lap", 25)]) (g := gName 25) (tt := tYes) rfl scLaw.nd (pi_range1 (by rfl) mrange (pa_cons pe_int pa_nil)) (blkOk_by (N := nLaw4) (sc := defScope sLaw) (by decide +kernel)) (fun _ _ _ _ _ => (pg_name (i := 25) scLaw.nd rfl (Or.inl rfl))) (fun _ _ _ _ _ => pts_nil) (fun _ _ _ _ _ => (pe_call GN (hr.mono (by decide)) (by rfl) mN kN bN .nil pass0 (pa_cons (pv 1) (pa_cons (pv 8) (pa_cons (pe_callB (r := fun xs H Q => ∃ p ys, xs = [V.ref p] ∧ (SqL K H p ys ∨ SqT K H p ys) ∧ Q (V.int (ys.length : Int)) H) call_len_seq (by rfl) mlen PySem.boot_len (pa_cons (pv 6) pa_nil)) pa_nil))))))) (pe_lst (pa_cons (pe_call GO (hr.mono (by decide)) (by rfl) mO kO bO .nil pass0 (pa_cons (pv 1) pa_nil)) pa_nil))))
        (pss_cons (ps_for PassesOwn.never rfl (pi_list (pv 10)) (pg_name (i := 11) scLaw.nd rfl (Or.inr rfl))
          (pss_cons (ps_par (i := 12) (j := 13) rfl scLaw.nd rfl rfl (by decide) rfl rfl (pa_cons (pe_call GJO (hr.mono (by decide)) (by rfl) mJO kJO bJO .nil pass0 (pa_cons (pv 3) (pa_cons (pv 4) (pa_cons (pv 5) (pa_cons (pv 11) pa_nil))))) (pa_cons (pe_callB (RU.call_reprU hg hu64) (by rfl) mrp (by decide +kernel) (pa_cons (pv 11) pa_nil)) pa_nil)) (by rfl))
          (pss_cons (ps_set (i := 14) scLaw.nd rfl (Or.inl rfl) (pe_lst (pa_cons (pe_call GIO (hr.mono (by decide)) (by rfl) mIO kIO bIO .nil passNone (pa_cons (pv 3) (pa_cons (pv 4) (pa_cons (pv 5) (pa_cons (pv 11) pa_nil))))) (pa_cons (pe_callK0 GIO (hr.mono (by decide)) (by rfl) mIO kIO hIO passNone (pk_cons (pv 11) (pk_cons (pv 5) (pk_cons (pv 4) (pk_cons (pv 3) pk_nil))))) pa_nil))))
          (pss_cons (ps_if (pw_or (pt_cmpR op_ne (pe_callB (RU.call_reprU hg hu64) (by rfl) mrp (by decide +kernel) (pa_cons (pv 14) pa_nil)) (pe_callB (RU.call_reprU hg hu64) (by rfl) mrp (by decide +kernel) (pa_cons (pe_lst (pa_cons (pv 12) (pa_cons (pv 12) pa_nil))) pa_nil)) (nomark _)) (pw_or1 (pt_cmpR op_ne (pe_callB (RU.call_reprU hg hu64) (by rfl) mrp (by decide +kernel) (pa_cons (pv 11) pa_nil)) (pv 13) (nomark _)))).pt (pss_one (ps_ret pe_bl)) pss_nil)
          (pss_cons (ps_set (i := 15) scLaw.nd rfl (Or.inl rfl) (pe_lst (pa_cons (pv 9) (pa_cons (pe_slice sl_tupA (pv 9) (po_some pe_int) po_none) (pa_cons (pe_op (r := rCatA K) op_catA (pv 9) (pe_tup (pa_cons pe_int pa_nil))) (pa_cons (pe_callTy call_list_of (by rfl) mlist (by decide +kernel) (pa_cons (pv 9) pa_nil)) (pa_cons pe_non (pa_cons (pe_tupRg rfl (by rfl) mtuple (prg_1 (by rfl) mrange (pe_callB call_len_seq (by rfl) mlen PySem.boot_len (pa_cons (pv 6) pa_nil)))) (pa_cons (RU.pe_rev RU.rev_tup (pv 9) (pe_un un_neg pe_int)) (pa_cons (pe_tup (pa_cons pe_bl pa_nil)) (pa_cons (pe_tup (pa_cons pe_str pa_nil)) pa_nil)))))))))))
          (pss_cons (ps_join (ps_if (pt_truth (pv 12) (fun _ => rfl)) (pss_one (ps_expr (pe_bm PySem.F.plainAttrs_list PySem.F.slot_list_append PySem.F.type_list_append mt_append (pv 15) (pa_cons (pe_callTy call_tuple_of (by rfl) mtuple (by decide +kernel) (pa_cons (pe_lc (own := [("spot", 23)]) (g := gName 23) rfl scLaw.nd (pi_range1 (by rfl) mrange (pa_cons (pe_callB call_len_seq (by rfl) mlen PySem.boot_len (pa_cons (pv 6) pa_nil)) pa_nil)) (blkOk_by (N := nLaw4) (sc := defScope sLaw) (by decide +kernel)) (fun _ _ _ _ _ => (pg_name (i := 23) scLaw.nd rfl (Or.inl rfl))) (fun _ _ _ _ _ => pts_one (pt_cmpR (r := rIn K true) op_notIn_seq (pv 23) (pe_lc (wi := iTup K (tVar 11)) (own := [("gate", 26), ("bit", 27)]) (g := gTup K 2 (gCons (gName 26) (gCons (gName 27) gNil))) (tt := tYes) rfl scLaw.nd (pi_tup (pv 11)) (blkOk_by (N := nLaw4) (sc := { kind := .function, names := [(".0", .local), ("spot", .local), ("item", .cell)], isGenerator := false, isCoroutine := false }) (by decide +kernel)) (fun _ _ _ _ _ => (pg_tup rfl (pgs_cons (pg_name (i := 26) scLaw.nd rfl (Or.inl rfl)) (pgs_cons (pg_name (i := 27) scLaw.nd rfl (Or.inl rfl)) pgs_nil)))) (fun _ _ _ _ _ => pts_nil) (fun _ _ _ _ _ => (pv 26))) (by rfl))) (fun _ _ _ _ _ => (pv 23))) pa_nil)) pa_nil)))) pss_nil))
          (pss_one (ps_for PassesOwn.never rfl (pi_list (pv 15)) (pg_name (i := 16) scLaw.nd rfl (Or.inl rfl))
            (pss_cons (ps_set (i := 17) scLaw.nd rfl (Or.inl rfl) (pe_call GJL (hr.mono (by decide)) (by rfl) mJL kJL bJL .nil pass0 (pa_cons (pv 3) (pa_cons (pv 4) (pa_cons (pv 5) (pa_cons (pv 11) (pa_cons (pv 16) pa_nil)))))))
            (pss_one (ps_if (pw_or (pt_cmpR op_ne (pe_callB (RU.call_reprU hg hu64) (by rfl) mrp (by decide +kernel) (pa_cons (pe_call GIC (hr.mono (by decide)) (by rfl) mIC kIC bIC .nil passNone (pa_cons (pv 3) (pa_cons (pv 4) (pa_cons (pv 5) (pa_cons (pv 11) (pa_cons (pv 16) pa_nil)))))) pa_nil)) (pe_callB (RU.call_reprU hg hu64) (by rfl) mrp (by decide +kernel) (pa_cons (pv 17) pa_nil)) (nomark _)) (pw_or1 (pw_and (pt_truth (pv 17) (fun _ => rfl)) (pw_and1 (pt_cmpR (op_neD hu64) (pe_callB (RU.cr_sortV (d := 2) (B := 3000) (by decide)) (by rfl) msorted (by decide +kernel) (pa_cons (pv 11) pa_nil)) (pe_callB (RU.cr_sortV (d := 2) (B := 3000) (by decide)) (by rfl) msorted (by decide +kernel) (pa_cons (pv 8) pa_nil)) (nomark _)))).pt)).pt (pss_one (ps_ret pe_bl)) pss_nil)))))))))))
        (pss_cons (ps_if (pt_cmpR op_isnot_bl (pe_callK0 GIC (hr.mono (by decide)) (by rfl) mIC kIC hIC passNone (pk_cons (pv 9) (pk_cons (pv 8) (pk_cons (pv 5) (pk_cons (pv 4) (pk_cons (pv 3) pk_nil)))))) pe_bl (nomark _)) (pss_one (ps_ret pe_bl)) pss_nil)
        (pss_cons (ps_asg (pe_tup (pa_cons (pe_call GK (hr.mono (by decide)) (by rfl) mK kK bK .nil pass0 (pa_cons (pv 1) (pa_cons (pe_lst (pa_cons pe_non (pa_cons pe_int (pa_cons (pe_tup (pa_cons pe_int (pa_cons (pe_tup pa_nil) (pa_cons (pe_tup pa_nil) pa_nil)))) pa_nil)))) pa_nil))) (pa_cons (pe_call GW (hr.mono (by decide)) (by rfl) mW kW bW .nil pass0 (pa_cons (pv 1) (pa_cons (pe_ix (r := rIxT K) ix_tup (pv 3) pe_int (fun _ _ => rfl)) pa_nil))) (pa_cons (pe_call GW (hr.mono (by decide)) (by rfl) mW kW bW .nil pass0 (pa_cons (pv 1) (pa_cons (pe_callB call_len_seq (by rfl) mlen PySem.boot_len (pa_cons (pe_ix (r := rIxT K) ix_tup (pv 3) pe_int (fun _ _ => rfl)) pa_nil)) pa_nil))) pa_nil)))) (pg_tup rfl (pgs_cons (pg_name (i := 18) scLaw.nd rfl (Or.inr rfl)) (pgs_cons (pg_name (i := 19) scLaw.nd rfl (Or.inr rfl)) (pgs_cons (pg_name (i := 20) scLaw.nd rfl (Or.inr rfl)) pgs_nil)))))
        (pss_one (ps_for PassesOwn.never rfl (pi_list (pe_lst (pa_cons (pe_glob (v := .ref fSO) (by rfl) mSO rfl) (pa_cons (pe_glob (v := .ref fCL) (by rfl) mCL rfl) (pa_cons (LV.pe_lamV TB rfl rfl (by decide +kernel)) (pa_cons (LV.pe_lamV TB rfl rfl (by decide +kernel)) pa_nil)))))) (pg_name (i := 21) scLaw.nd rfl (Or.inr rfl))
          (pss_cons (ps_if (pt_not (pt_val (pe_callB (call_isCau L.cC) (by rfl) mi (by decide +kernel) (pa_cons (pe_lamP (k := 12) (Ng := nCaught) (by rfl) mC kC lkC hcdC bC scCaught rfl (.inl rfl) (caught_gives L.gS) TB rfl hr (lamS_by (by show lamSB (defScope sLaw) _ = true; decide +kernel)) rfl (fun _ _ _ _ _ => rfl)
            (fun A outer s H E f c' hr2 => LV.pe_callU (i := 21) (E := E) (S := Wk) (LS := LS) hWk hLS hr2 rfl (.inr (.inr rfl)) (L2.passes_call (L2.takes_of rfl rfl rfl rfl) (fun _ _ _ _ e => e)) (pa_cons (pv 18) (pa_cons (pv 19) (pa_cons (pv 20) pa_nil))))) (pa_cons (pe_glob (v := .ref CC) (by rfl) L.gC rfl) pa_nil))))) (pss_one (ps_ret pe_bl)) pss_nil)
          (pss_cons (ps_if (pt_not (pt_val (pe_callB (call_isCau L.cG) (by rfl) mi (by decide +kernel) (pa_cons (pe_lamP (k := 12) (Ng := nCaught) (by rfl) mC kC lkC hcdC bC scCaught rfl (.inl rfl) (caught_gives L.gS) TB rfl hr (lamS_by (by show lamSB (defScope sLaw) _ = true; decide +kernel)) rfl (fun _ _ _ _ _ => rfl)
            (fun A outer s H E f c' hr2 => LV.pe_callU (i := 21) (E := E) (S := Wk) (LS := LS) hWk hLS hr2 rfl (.inr (.inr rfl)) (L2.passes_call (L2.takes_of rfl rfl rfl rfl) (fun _ _ _ _ e => e)) (pa_cons (pv 3) (pa_cons (pv 19) (pa_cons (pv 20) pa_nil))))) (pa_cons (pe_glob (v := .ref CG) (by rfl) L.gG rfl) pa_nil))))) (pss_one (ps_ret pe_bl)) pss_nil)
          (pss_one (ps_if (pt_not (pt_val (pe_callB (call_isCau L.cH) (by rfl) mi (by decide +kernel) (pa_cons (pe_lamP (k := 12) (Ng := nCaught) (by rfl) mC kC lkC hcdC bC scCaught rfl (.inl rfl) (caught_gives L.gS) TB rfl hr (lamS_by (by show lamSB (defScope sLaw) _ = true; decide +kernel)) rfl (fun _ _ _ _ _ => rfl)
            (fun A outer s H E f c' hr2 => LV.pe_callU (i := 21) (E := E) (S := Wk) (LS := LS) hWk hLS hr2 rfl (.inr (.inr rfl)) (L2.passes_call (L2.takes_of rfl rfl rfl rfl) (fun _ _ _ _ e => e)) (pa_cons (pv 3) (pa_cons (pv 4) (pa_cons (pv 20) pa_nil))))) (pa_cons (pe_glob (v := .ref CH) (by rfl) L.gH rfl) pa_nil))))) (pss_one (ps_ret pe_bl)) pss_nil))))))))))))))))))
      (pss_one (ps_ret pe_bl)))), ?_⟩
    -- begun
    refine ⟨_, rfl, a, ns, rfl, hS, hl, fun st lg cl H1 S1 k1 n1 n2 n3 => ?_⟩
    refine ⟨_, rfl, a, _, rfl, .inl (k1.seq hS), ⟨_, _, rfl, _, _, rfl, rfl, _, rfl, ?_, ?_, ?_⟩⟩
    · show -(2 ^ 62) ≤ (3 : Int) + (if (5 : Int) < ((ns.map V.int).length : Int) then 5 else ((ns.map V.int).length : Int))
      split <;> omega
    · show (3 : Int) + (if (5 : Int) < ((ns.map V.int).length : Int) then 5 else ((ns.map V.int).length : Int)) < 2 ^ 62
      split <;> omega
    have hM : (3 + (if (5 : Int) < ((ns.map V.int).length : Int) then 5 else ((ns.map V.int).length : Int))).toNat ≤ 8 := by
      split <;> omega
    generalize (3 + (if (5 : Int) < ((ns.map V.int).length : Int) then 5 else ((ns.map V.int).length : Int))).toNat = M at hM
    refine for_range (fun i σ H2 => ∃ y2 y3 y4 y5 y6 y7 y8 y9 y10 y11 y12 y13 y14 y15 y16 y17 y18 y19 y20 y21 : Option V, σ = [some (.ref a), some (.ref st), y2, y3, y4, y5, y6, y7, y8, y9, y10, y11, y12, y13, y14, y15, y16, y17, y18, y19, y20, y21, none, none, none, none, none, none] ∧ Between st lg cl Pl TT H2 (2000 * i)) ⟨none, none, none, none, none, none, none, none, none, none, none, none, none, none, none, none, none, none, none, none, rfl, S1, (Ex.same k1).tabs hT, hP.ext k1⟩ (fun i σ H2 hi hh => ?turn) (fun σ H2 hh => ?done)
    case done =>
      exact q H2
    case turn =>
      obtain ⟨y2, y3, y4, y5, y6, y7, y8, y9, y10, y11, y12, y13, y14, y15, y16, y17, y18, y19, y20, y21, rfl, B2⟩ := hh
      -- a circuit
      refine ⟨_, rfl, st, lg, cl, 2000 * i, 7, 14, rfl, by decide, by decide, by decide, by omega, B2.s, fun y C H3 hC okC ni3 nr2 ng1 ngm _ fan14 S3 U3 => ?_⟩
      have B3 := B2.but S3 U3
      clear U3 S3
      -- a case
      refine ⟨_, rfl, _, rfl, st, lg, cl, _, y, C, rfl, hC, okC, by omega, B3.s, fun T0 g h gv hv H4 eT0 eg eh lgv lhv S4 U4 => ?_⟩
      have B4 := B3.but S4 U4
      have hC4 := hC.keep (U4.tup B3.s)
      refine ⟨T0, _, rfl, .inl (.inl eT0), rfl, _, _, rfl, _, _, rfl, rfl, ?_⟩
      clear hC S4 U4 B3 eT0
      -- what is due
      refine ⟨_, rfl, _, rfl, _, rfl, y, C, g, h, gv, hv, rfl, hC4, okC, lgv, lhv, .inl (.inl eg), .inl (.inl eh), fun T1 r1 l1 us H5 s5 nT nr nl eT1 er1 el1 hus => ?_⟩
      refine ⟨T1, _, rfl, .inl (.inl eT1), rfl, _, _, rfl, _, _, rfl, rfl, ?_⟩
      have B5 := B4.same s5
      have rne := But.st_new (o := .tup []) B4.s nr
      have hC5 := hC4.keep (.of s5)
      have eg5 := s5 _ _ eg
      have eh5 := s5 _ _ eh
      clear hC4 eg eh B4 nT nl eT1
      -- the order
      obtain ⟨yss, hys, hflat⟩ := laps_split hus
      have lflat : yss.flatten.length = (lapsAll C.gates gv hv).flatten.length := Paired.length hflat
      have lord : (lapsAll C.gates gv hv).flatten.length ≤ C.gates.length := laps_len C.gates gv hv
      refine ⟨_, rfl, Nat.zero_le _, fun eb neb => ?_⟩
      have sb := same_new (o := .lst []) neb
      have ebb : (L2.upd H5 eb (.lst [])) eb = some (.lst []) := upd_same
      generalize L2.upd H5 eb (.lst []) = H6 at sb ebb
      have B6 := B5.same sb
      have hC6 := hC5.keep (.of sb)
      have hys6 : Paired (fun x ys => ∃ a, x = V.ref a ∧ H6 a = some (.lst ys)) us yss := pairedMono (fun x ys ⟨a, e, z⟩ => ⟨a, e, sb _ _ z⟩) hys
      dsimp only [tNil]
      show RU.rSumL K [.ref l1, .ref eb] H6 _
      refine sumL_to (sb _ _ el1) ebb hys6 (by rw [sizeLine_eq, lflat]; omega) fun pl H7 s7 epl => ?_
      refine ⟨pl, rfl, ⟨_, .inl (.inl epl)⟩, fun D nD => ?_⟩
      refine lc_list (xs := yss.flatten) (fun j Hy => Same H7 Hy ∧ Hy D = some (.lst (yss.flatten.take j))) ⟨same_new nD, upd_same⟩ (fun j Hy _ z => .inl (.inl (z.1 _ _ epl))) (fun j x Hy hx z => ?_) (fun Hy z => ?_)
      · refine ⟨rfl, _, rfl, _, z.2, ?_, fun b o e => ?_, ?_⟩
        · have := List.length_take_le j yss.flatten
          rw [sizeLine_eq]
          have := (List.getElem?_eq_some_iff.mp hx).1
          omega
        · rw [upd_ne (ne_of_none e nD)]
          exact z.1 _ _ e
        · rw [upd_same, take_snoc hx]
      obtain ⟨s8, eD⟩ := z
      rw [List.take_length] at eD
      refine ⟨D, _, rfl, .inl ⟨.inl (.inl eD), fun o no => ?_⟩⟩
      have s9 := (sb.trans (s7.trans s8)).trans (same_new (o := .tup yss.flatten) no)
      have eo : (L2.upd Hy o (.tup yss.flatten)) o = some (.tup yss.flatten) := upd_same
      generalize L2.upd Hy o (.tup yss.flatten) = H9 at s9 eo
      have B9 := B5.same s9
      have hC9 := hC5.keep (.of s9)
      have eg9 := s9 _ _ eg5
      have eh9 := s9 _ _ eh5
      have er9 := s9 _ _ er1
      have hord : AllAt PairAt H9 yss.flatten (lapsAll C.gates gv hv).flatten := all_ext (fun _ _ z => z.keep (.of s9)) hflat
      clear B5 hC5 eg5 eh5 er1 el1 hus hys hflat sb ebb B6 hC6 hys6 s7 epl nD s8 eD no s9 s5 neb
      -- the lot
      have lF := sureF_len C.gates gv hv
      refine ⟨_, rfl, r1, _, rfl, .inl (.inl er9), fun D nD => ?_⟩
      refine lc_it (walk_enum (xs := (sureF C.gates gv hv).map rdV)) (fun j Hy => Same H9 Hy ∧ Hy D = some (.lst (nV (opensTo (sureF C.gates gv hv) j)))) ⟨same_new nD, upd_same⟩ (fun j Hy _ z => .inl (.inl (z.1 _ _ er9))) (fun j x Hy Hy' hj z hy => ?_) (fun Hy z => ?_)
      · obtain ⟨s1, e1⟩ := z
        obtain ⟨T, x1, y1, rfl, nT, rfl, hx, hy⟩ := hy
        cases hx
        have hy : ((sureF C.gates gv hv).map rdV)[j]? = some y1 := hy
        rw [List.getElem?_map] at hy
        obtain ⟨r, hr2, rfl⟩ := Option.map_eq_some_iff.mp hy
        have sT := same_new (o := .tup [.int (j : Nat), rdV r]) nT
        have hg : (sureF C.gates gv hv).getD j none = r := by rw [List.getD_eq_getElem?_getD, hr2]; rfl
        have step : opensTo (sureF C.gates gv hv) (j + 1) = opensTo (sureF C.gates gv hv) j ++ (if r.isNone = true then [j] else []) := by
          unfold opensTo
          rw [List.range_succ, List.filter_append, List.filter_cons, hg]
          rfl
        refine ⟨T, _, rfl, .inl (.inl upd_same), rfl, _, _, rfl, _, _, rfl, rfl, rfl, ?_⟩
        refine ⟨_, rfl, rfl, _, rfl, ?_⟩
        rw [rdV_isN]
        cases r with
        | some b =>
          refine iteF ⟨s1.trans sT, ?_⟩
          rw [step, if_neg (show ¬ ((some b : Rd).isNone = true) from fun z => by cases z), List.append_nil]
          exact sT _ _ e1
        | none =>
          refine iteT ⟨_, rfl, _, sT _ _ e1, ?_, fun c o e => ?_, ?_⟩
          · have z := opens_len (sureF C.gates gv hv) j
            have hj2 : j < (sureF C.gates gv hv).length := (List.getElem?_eq_some_iff.mp hr2).1
            rw [nV_len, sizeLine_eq]
            omega
          · rw [upd_ne (ne_of_none e nD)]
            exact sT _ _ (s1 _ _ e)
          · rw [upd_same, step]
            show some (HO.lst (nV _ ++ [V.int (j : Int)])) = some (HO.lst (nV (_ ++ [j])))
            unfold nV
            rw [List.map_append]
            rfl
      obtain ⟨s10, eD⟩ := z
      rw [List.length_map] at eD
      have eD : Hy D = some (.lst (nV (opensF (sureF C.gates gv hv)))) := eD
      refine ⟨D, _, rfl, .inl ⟨.inl (.inl eD), fun lo nlo => ?_⟩⟩
      have s11 := s10.trans (same_new (o := .tup (nV (opensF (sureF C.gates gv hv)))) nlo)
      have elo : (L2.upd Hy lo (.tup (nV (opensF (sureF C.gates gv hv))))) lo = some (.tup (nV (opensF (sureF C.gates gv hv)))) := upd_same
      generalize L2.upd Hy lo (.tup (nV (opensF (sureF C.gates gv hv)))) = H11 at s11 elo
      have B11 := B9.same s11
      have hC11 := hC9.keep (.of s11)
      have eg11 := s11 _ _ eg9
      have eh11 := s11 _ _ eh9
      have er11 := s11 _ _ er9
      have eo11 := s11 _ _ eo
      have hord11 : AllAt PairAt H11 yss.flatten (lapsAll C.gates gv hv).flatten := all_ext (fun _ _ z => z.keep (.of s11)) hord
      clear B9 hC9 eg9 eh9 er9 eo hord s10 eD nD nlo s11
      have hg7 : ∀ p ∈ (lapsAll C.gates gv hv).flatten, p.1 < C.gates.length := fun p hp => by
        obtain ⟨lap, h1, h2⟩ := List.mem_flatten.mp hp
        exact lapsL_mem _ _ lap h1 p h2
      have ng7 : C.gates.length ≤ 7 := by omega
      have fan4 : fanG C.gates ≤ 4000 := by omega
      have hg8 : ∀ p ∈ (lapsAll C.gates gv hv).flatten, p.1 ≤ 7 := fun p hp => by
        have := hg7 p hp
        omega
      have lord7 : (lapsAll C.gates gv hv).flatten.length ≤ 7 := by omega
      -- the told order, by place and by name
      refine ⟨_, rfl, _, rfl, _, rfl, ?_⟩
      dsimp only [tNil]
      show spCased K TT CC CG CH finOrder [y, .ref g, .ref h] H11 _ _
      refine cased_ok hC11 okC fan4 B11.tt eg11 eh11 lgv lhv fun H12 x12 => ?_
      intro q1 us1 H13 s13 _ eq1 hp1
      have B13 := (B11.ex hPT x12).same s13
      have k13 : ExtN H11 H13 := fun b o e n => s13 _ _ (x12.extN B11.tt _ _ e n)
      have tk13 : TupKeep H11 H13 := fun b o e => k13 _ _ e (fun _ z => by cases z)
      refine ⟨_, rfl, _, rfl, _, rfl, ?_⟩
      dsimp only [tNil]
      show spCased K TT CC CG CH finOrder [y, .ref g, .ref h] H13 _ _
      refine cased_ok (hC11.keep tk13) okC fan4 B13.tt (tk13 _ _ eg11) (tk13 _ _ eh11) lgv lhv fun H14 x14 => ?_
      intro q2 us2 H15 s15 _ eq2 hp2
      have B15 := (B13.ex hPT x14).same s15
      have k15 : ExtN H13 H15 := fun b o e n => s15 _ _ (x14.extN B13.tt _ _ e n)
      have tk15 : TupKeep H13 H15 := fun b o e => k15 _ _ e (fun _ z => by cases z)
      refine ⟨(by show 2 ≤ sizeLine; decide), fun L1 nL1 => ?_⟩
      have sa := same_new (o := .lst [.ref q1, .ref q2]) nL1
      show RU.rReprU K [.ref L1] _ _
      refine repr_d2s (d := .tuple ((lapsAll C.gates gv hv).flatten.map pairDS)) upd_same (ord_d2 (sa _ _ (tk15 _ _ eq1)) (pairs_keep hp1 (tk15.trans (.of sa))) hg8 lord7) (ord_d2 (sa _ _ eq2) (pairs_keep hp2 (.of sa)) hg8 lord7) ?_
      have k16 := (k13.trans k15).trans (extN_same sa)
      have B16 := B15.same sa
      generalize L2.upd H15 L1 (.lst [.ref q1, .ref q2]) = H16 at k16 B16
      clear sa nL1 eq2 eq1 hp1 hp2 x12 x14 s13 s15 k13 k15 tk13 tk15 B13 B15
      have tk16 : TupKeep H11 H16 := fun b o e => k16 _ _ e (fun _ z => by cases z)
      have eo16 := tk16 _ _ eo11
      have hord16 : AllAt PairAt H16 yss.flatten (lapsAll C.gates gv hv).flatten := pairs_keep hord11 tk16
      refine ⟨_, rfl, _, rfl, (by show 2 ≤ sizeLine; decide), fun LL nLL => ?_⟩
      have sb := same_new (o := .lst [.ref o, .ref o]) nLL
      dsimp only [tNil]
      show RU.rReprU K [.ref LL] _ _
      refine repr_d2s (d := .tuple ((lapsAll C.gates gv hv).flatten.map pairDS)) upd_same (ord_d2 (sb _ _ eo16) (pairs_keep hord16 (.of sb)) hg8 lord7) (ord_d2 (sb _ _ eo16) (pairs_keep hord16 (.of sb)) hg8 lord7) ?_
      refine ⟨rfl, _, rfl, ?_⟩
      rw [ne_self]
      refine iteF ?_
      have B17 := B16.same sb
      have k17 := k16.trans (extN_same sb)
      generalize L2.upd H16 LL (.lst [.ref o, .ref o]) = H17 at B17 k17
      have tk17 : TupKeep H11 H17 := fun b o e => k17 _ _ e (fun _ z => by cases z)
      have hC17 := hC11.keep tk17
      have eg17 := tk17 _ _ eg11
      have eh17 := tk17 _ _ eh11
      have elo17 := tk17 _ _ elo
      have eo17 := tk17 _ _ eo11
      have er17 := k17 _ _ er11 (fun _ z => by cases z)
      have hord17 : AllAt PairAt H17 yss.flatten (lapsAll C.gates gv hv).flatten := pairs_keep hord11 tk17
      clear hC11 eg11 eh11 elo eo11 er11 hord11 B11 k16 B16 tk16 eo16 hord16 sb nLL k17 tk17
      -- the told lot, by place and by name
      have ops7 : (opensF (sureF C.gates gv hv)).length ≤ 7 := by
        have := opens_len (sureF C.gates gv hv) (sureF C.gates gv hv).length
        have e : opensTo (sureF C.gates gv hv) (sureF C.gates gv hv).length = opensF (sureF C.gates gv hv) := rfl
        rw [e] at this
        omega
      have opsg : ∀ g ∈ opensF (sureF C.gates gv hv), g ≤ 7 := fun g hg => by
        have := (opens_mem hg).1
        omega
      refine ⟨_, rfl, _, rfl, _, rfl, ?_⟩
      dsimp only [tNil]
      show spCased K TT CC CG CH finLot [y, .ref g, .ref h] H17 _ _
      refine cased_ok hC17 okC fan4 B17.tt eg17 eh17 lgv lhv fun H18 x18 => ?_
      intro q1 H19 s19 _ eq1
      have B19 := (B17.ex hPT x18).same s19
      have k19 : ExtN H17 H19 := fun b o e n => s19 _ _ (x18.extN B17.tt _ _ e n)
      have tk19 : TupKeep H17 H19 := fun b o e => k19 _ _ e (fun _ z => by cases z)
      refine ⟨_, rfl, _, rfl, _, rfl, ?_⟩
      dsimp only [tNil]
      show spCased K TT CC CG CH finLot [y, .ref g, .ref h] H19 _ _
      refine cased_ok (hC17.keep tk19) okC fan4 B19.tt (tk19 _ _ eg17) (tk19 _ _ eh17) lgv lhv fun H20 x20 => ?_
      intro q2 H21 s21 _ eq2
      have B21 := (B19.ex hPT x20).same s21
      have k21 : ExtN H19 H21 := fun b o e n => s21 _ _ (x20.extN B19.tt _ _ e n)
      have tk21 : TupKeep H19 H21 := fun b o e => k21 _ _ e (fun _ z => by cases z)
      refine ⟨(by show 2 ≤ sizeLine; decide), fun L1 nL1 => ?_⟩
      have sa := same_new (o := .lst [.ref q1, .ref q2]) nL1
      show RU.rReprU K [.ref L1] _ _
      refine repr_d2s (d := .tuple ((opensF (sureF C.gates gv hv)).map fun (n : Nat) => PyData.int (n : Int))) upd_same (nv_d2 (sa _ _ (tk21 _ _ eq1)) opsg ops7) (nv_d2 (sa _ _ eq2) opsg ops7) ?_
      have k22 := (k19.trans k21).trans (extN_same sa)
      have B22 := B21.same sa
      generalize L2.upd H21 L1 (.lst [.ref q1, .ref q2]) = H22 at k22 B22
      clear sa nL1 eq2 eq1 x18 x20 s19 s21 k19 k21 tk19 tk21 B19 B21
      have elo22 := k22 _ _ elo17 (fun _ z => by cases z)
      refine ⟨_, rfl, _, rfl, (by show 2 ≤ sizeLine; decide), fun LL nLL => ?_⟩
      have sb := same_new (o := .lst [.ref lo, .ref lo]) nLL
      dsimp only [tNil]
      show RU.rReprU K [.ref LL] _ _
      refine repr_d2s (d := .tuple ((opensF (sureF C.gates gv hv)).map fun (n : Nat) => PyData.int (n : Int))) upd_same (nv_d2 (sb _ _ elo22) opsg ops7) (nv_d2 (sb _ _ elo22) opsg ops7) ?_
      refine ⟨rfl, _, rfl, ?_⟩
      rw [ne_self]
      refine iteF ?_
      have B23 := B22.same sb
      have k23 := k22.trans (extN_same sb)
      generalize L2.upd H22 LL (.lst [.ref lo, .ref lo]) = H23 at B23 k23
      have tk23 : TupKeep H17 H23 := fun b o e => k23 _ _ e (fun _ z => by cases z)
      have hC23 := hC17.keep tk23
      have eg23 := tk23 _ _ eg17
      have eh23 := tk23 _ _ eh17
      have elo23 := tk23 _ _ elo17
      have eo23 := tk23 _ _ eo17
      have er23 := k23 _ _ er17 (fun _ z => by cases z)
      have hord23 : AllAt PairAt H23 yss.flatten (lapsAll C.gates gv hv).flatten := pairs_keep hord17 tk23
      clear hC17 eg17 eh17 elo17 eo17 er17 hord17 B17 k22 B22 elo22 sb nLL k23 tk23
      have B24 : Between st lg cl Pl TT H23 (2000 * i + 600) := ⟨B23.s.up (by omega), B23.tt, B23.tl⟩
      clear B23
      have hn7 : ((sureF C.gates gv hv).map rdV).length ≤ 7 := by
        rw [List.length_map, lF]
        exact ng7
      -- the bent orders
      refine ⟨_, rfl, (by show 1 ≤ sizeLine; decide), fun LO nLO => ?_⟩
      have sa := same_new (o := .lst [.ref o]) nLO
      have loN := But.st_new (o := .tup []) B24.s nLO
      have eLO : (L2.upd H23 LO (.lst [.ref o])) LO = some (.lst [.ref o]) := upd_same
      generalize L2.upd H23 LO (.lst [.ref o]) = H24 at sa eLO
      have B25 := B24.same sa
      refine ⟨4, rfl, by decide, by decide, fun D nD => ?_⟩
      have nDs := But.st_new (o := .tup []) B25.s nD
      have nDc := B25.s.cl_ne nD
      have here : ∀ {Hy : Hp} {t : Nat}, But st lg H24 Hy → StOk Hy st lg cl t → (∃ vs, Hy D = some (.lst vs)) → ∀ a, (Here H24 a ∨ a = D) → Here Hy a := fun {Hy t} U S hD a h => by
        rcases h with h | h
        · by_cases z1 : a = st
          · rw [z1]
            exact S.there.1
          · by_cases z2 : a = lg
            · rw [z2]
              exact S.there.2
            · intro z
              cases e : H24 a with
              | none => exact h e
              | some ob =>
                rw [U _ _ e z1 z2] at z
                cases z
        · obtain ⟨vs, e⟩ := hD
          rw [h]
          intro z
          rw [e] at z
          cases z
      refine lc_range (n := 4) (fun j Hy => ∃ vs : List V, Hy D = some (.lst vs) ∧ vs.length = j ∧ (∀ x ∈ vs, ∃ d, IT (fun a => Here H24 a ∨ a = D) Hy x d) ∧ StOk Hy st lg cl (2000 * i + 600 + 20 * j) ∧ But st lg H24 Hy) ⟨[], upd_same, rfl, fun x z => (nomatch z), B25.s.keep (same_new nD), But.of (same_new nD)⟩ (fun j Hy hj z => ?_) (fun Hy z => ?_)
      · obtain ⟨vs, eD, lv, hvs, Sy, Uy⟩ := z
        have tky := Uy.tup B25.s
        refine ⟨rfl, _, rfl, _, rfl, _, rfl, r1, _, rfl, .inl (.inl (.inl ?_)), st, lg, cl, o, 2000 * i + 600 + 20 * j, ((sureF C.gates gv hv).map rdV).length, yss.flatten, (lapsAll C.gates gv hv).flatten, rfl, tky _ _ (sa _ _ eo23), pairs_keep hord23 ((TupKeep.of sa).trans tky), lord7, hg8, hn7, by omega, Sy, fun x d H' it S' U' => ?_⟩
        · exact Uy _ _ (sa _ _ er23) rne.1 rne.2
        have eD' := U' _ _ eD nDs.1 nDs.2
        have kk : KL (fun a => Here H24 a ∨ a = D) Hy H' := .but U' Sy (.inl B25.s.there.1) (.inl B25.s.there.2)
        have kp := KL.put (N := fun a => Here H24 a ∨ a = D) (o := .lst (vs ++ [x])) eD' (.inr rfl)
        refine ⟨vs, eD', by rw [lv, sizeLine_eq]; omega, vs ++ [x], upd_same, by rw [List.length_append, lv]; rfl, fun z hz => ?_, (S'.up (by omega)).upd nDs.1 nDs.2 nDc, fun b ob eb m1 m2 => ?_⟩
        · rcases List.mem_append.mp hz with m | m
          · obtain ⟨d2, h2⟩ := hvs z m
            exact ⟨d2, (h2.keep kk).keep kp⟩
          · rw [List.mem_singleton.mp m]
            exact ⟨d, (it.mono (here Uy Sy ⟨vs, eD⟩)).keep kp⟩
        · rw [upd_ne (ne_of_none eb nD)]
          exact (Uy.trans U') _ _ eb m1 m2
      obtain ⟨vs, eD, lv, hvs, S26, U26⟩ := z
      have eLO26 := U26 _ _ eLO loN.1 loN.2
      have DLO : True := trivial
      refine ⟨LO, D, [.ref o], vs, rfl, rfl, eLO26, eD, by rw [lv, sizeLine_eq]; exact Nat.le_of_ble_eq_true rfl, fun M1 nM1 => ?_⟩
      have sm := same_new (o := .lst ([.ref o] ++ vs)) nM1
      have eM : (L2.upd Hy M1 (.lst ([.ref o] ++ vs))) M1 = some (.lst ([.ref o] ++ vs)) := upd_same
      have nMs := But.st_new (o := .tup []) S26 nM1
      generalize L2.upd Hy M1 (.lst ([.ref o] ++ vs)) = H27 at sm eM
      have S27 := S26.keep sm
      refine ⟨_, rfl, st, lg, cl, 2000 * i + 600 + 20 * 4, rfl, by omega, S27, fun xo d H28 ito S28 U28 => ⟨(by show 1 ≤ sizeLine; decide), fun LP nLP => ⟨M1, LP, [.ref o] ++ vs, [xo], rfl, rfl, (same_new nLP) _ _ (U28 _ _ eM nMs.1 nMs.2), upd_same, ?_, fun be nbe => ?_⟩⟩⟩
      · rw [List.length_append, lv, sizeLine_eq]
        exact Nat.le_of_ble_eq_true rfl
      have s29 := (same_new (o := .lst [xo]) nLP).trans (same_new (o := .lst ([.ref o] ++ vs ++ [xo])) nbe)
      have ebe : (L2.upd (L2.upd H28 LP (.lst [xo])) be (.lst ([.ref o] ++ vs ++ [xo]))) be = some (.lst ([.ref o] ++ vs ++ [xo])) := upd_same
      generalize L2.upd (L2.upd H28 LP (.lst [xo])) be (.lst ([.ref o] ++ vs ++ [xo])) = H29 at s29 ebe
      have U29 : But st lg H23 H29 := (((But.of sa).trans U26).trans (But.of sm)).trans (U28.trans (But.of s29))
      have S29 : StOk H29 st lg cl (2000 * i + 800) := (S28.keep s29).up (by omega)
      have B29 := B24.but S29 U29
      have tk29 := U29.tup B24.s
      have hC29 := hC23.keep tk29
      have eg29 := tk29 _ _ eg23
      have eh29 := tk29 _ _ eh23
      have elo29 := tk29 _ _ elo23
      have eo29 := tk29 _ _ eo23
      have er29 := U29 _ _ er23 rne.1 rne.2
      have hord29 : AllAt PairAt H29 yss.flatten (lapsAll C.gates gv hv).flatten := pairs_keep hord23 tk29
      have hws : ∀ z ∈ [V.ref o] ++ vs ++ [xo], ∃ d, IT (fun a => a = st ∨ a = lg) H29 z d := fun z hz => by
        rcases List.mem_append.mp hz with m | m
        · rcases List.mem_append.mp m with m | m
          · rw [List.mem_singleton.mp m]
            exact ⟨_, .d2 (ord_d2 eo29 hord29 hg8 lord7)⟩
          · obtain ⟨d2, h2⟩ := hvs z m
            refine ⟨d2, ((h2.keep (.same sm)).mono fun a h => ?_).keep ((KL.but U28 S27 (.inl rfl) (.inr rfl)).trans (.same s29))⟩
            rcases h with h | h <;> rw [h]
            · exact .inl B25.s.there.1
            · exact .inl B25.s.there.2
        · rw [List.mem_singleton.mp m]
          refine ⟨d, (ito.mono fun a h => ?_).keep (.same s29)⟩
          rcases h with h | h <;> rw [h]
          · exact S27.there.1
          · exact S27.there.2
      generalize [V.ref o] ++ vs ++ [xo] = ws at ebe hws
      clear hC23 eg23 eh23 elo23 eo23 er23 hord23 B24 tk29 U29 S29 s29 nbe nLP S28 U28 ito S27 sm eM nM1 nMs eLO26 S26 U26 hvs lv eD here nDs nDc nD B25 sa eLO nLO
      -- item by item
      refine ⟨_, rfl, be, rfl, ⟨ws, .inl (.inl ebe)⟩, for_list (xs := ws) (fun j σ Hx => ∃ y11 y12 y13 y14 y15 y16 y17 : Option V, σ = [some (.ref a), some (.ref st), some (.int (0 + (i : Int))), some y, some (.ref g), some (.ref h), some (.ref r1), some (.ref l1), some (.ref o), some (.ref lo), some (.ref be), y11, y12, y13, y14, y15, y16, y17, y18, y19, y20, y21, none, none, none, none, none, none] ∧ Between st lg cl Pl TT Hx (2000 * i + 800) ∧ ExtN H29 Hx)
        ⟨y11, y12, y13, y14, y15, y16, y17, rfl, B29, fun _ _ e _ => e⟩ (fun j σ Hx _ hh => ?_) (fun j x σ Hx hx hh => ?_) (fun σ Hx hh => ?_)⟩
      · obtain ⟨_, _, _, _, _, _, _, _, _, z⟩ := hh
        exact .inl (.inl (z _ _ ebe (fun _ z => by cases z)))
      · obtain ⟨y11', y12', y13', y14', y15', y16', y17', rfl, Bx, nx⟩ := hh
        obtain ⟨d, it29⟩ := hws x (List.mem_of_getElem? hx)
        have it := it29.keep (.ext nx)
        obtain ⟨t, ys, items, ov29, lys⟩ := it29.order (K := K)
        have ov := ov29.extN nx
        have tkx : TupKeep H29 Hx := fun b o e => nx _ _ e (fun _ z => by cases z)
        have hCx := hC29.keep tkx
        have egx := tkx _ _ eg29
        have ehx := tkx _ _ eh29
        clear it29
        -- due, text
        refine ⟨_, rfl, _, rfl, _, rfl, _, rfl, y, x, C, g, h, gv, hv, t, ys, items, rfl, hCx, okC, lgv, lhv, .inl (.inl egx), .inl (.inl ehx), ov, fun I1 s1 => ⟨_, rfl, ?_⟩⟩
        generalize hdue : (toldBy C gv hv t items).isSome = due
        have x1 := extN_same s1
        have B1 := Bx.same s1
        have it1 := it.keep (.ext x1)
        have ov1 := ov.extN x1
        have hC1 := hCx.keep (.of s1)
        have eg1 := s1 _ _ egx
        have eh1 := s1 _ _ ehx
        have nx1 := nx.trans x1
        clear hCx egx ehx Bx it ov nx s1 x1 tkx
        dsimp only [tNil]
        show RU.rReprU K [x] I1 _
        refine it1.repr ?_
        refine ⟨_, _, rfl, ?_⟩
        -- told, by place and by name
        refine ⟨_, rfl, _, rfl, _, rfl, _, rfl, ?_⟩
        dsimp only [tNil]
        show spCasedX K TT CC CG CH 1 (finIsO K) [y, .ref g, .ref h, x] I1 _ _
        refine casedX_ok rfl hC1 okC fan4 B1.tt eg1 eh1 lgv lhv fun I2 e2 => ⟨x, t, ys, items, rfl, ov1.extN (e2.extN B1.tt), fun I3 s3 => ?_⟩
        have x3 : ExtN I1 I3 := (e2.extN B1.tt).trans (extN_same s3)
        have B3 := (B1.ex hPT e2).same s3
        have tk3 : TupKeep I1 I3 := fun b o e => x3 _ _ e (fun _ z => by cases z)
        refine ⟨_, rfl, _, rfl, _, rfl, _, rfl, ?_⟩
        dsimp only [tNil]
        show spCasedX K TT CC CG CH 1 (finIsO K) [y, .ref g, .ref h, x] I3 _ _
        refine casedX_ok rfl (hC1.keep tk3) okC fan4 B3.tt (tk3 _ _ eg1) (tk3 _ _ eh1) lgv lhv fun I4 e4 => ⟨x, t, ys, items, rfl, (ov1.extN x3).extN (e4.extN B3.tt), fun I5 s5 => ?_⟩
        rw [hdue]
        have x5 : ExtN I1 I5 := x3.trans ((e4.extN B3.tt).trans (extN_same s5))
        have B5 := (B3.ex hPT e4).same s5
        clear B3 tk3 x3 e4 s5 e2 s3
        refine ⟨(by show 2 ≤ sizeLine; decide), fun L1 nL1 => ?_⟩
        have sa := same_new (o := .lst [.bl due, .bl due]) nL1
        have ea : (L2.upd I5 L1 (.lst [.bl due, .bl due])) L1 = some (.lst [.bl due, .bl due]) := upd_same
        generalize L2.upd I5 L1 (.lst [.bl due, .bl due]) = I6 at sa ea
        refine ⟨_, rfl, ?_⟩
        dsimp only [tNil]
        show RU.rReprU K [.ref L1] I6 _
        refine .inl (repr_bb ea ?_)
        refine ⟨_, rfl, _, rfl, (by show 2 ≤ sizeLine; decide), fun LB nLB => ?_⟩
        have sb := same_new (o := .lst [.bl due, .bl due]) nLB
        have ebb : (L2.upd I6 LB (.lst [.bl due, .bl due])) LB = some (.lst [.bl due, .bl due]) := upd_same
        generalize L2.upd I6 LB (.lst [.bl due, .bl due]) = I7 at sb ebb
        dsimp only [tNil]
        show RU.rReprU K [.ref LB] I7 _
        refine .inl (repr_bb ebb ?_)
        refine ⟨rfl, _, rfl, ?_⟩
        rw [ne_self]
        have x7 : ExtN I1 I7 := x5.trans (extN_same (sa.trans sb))
        have B7 := B5.same (sa.trans sb)
        refine iteF ?_
        refine ⟨_, rfl, ?_⟩
        dsimp only [tNil]
        show RU.rReprU K [x] I7 _
        refine (it1.keep (.ext x7)).repr ?_
        refine ⟨_, rfl, rfl, _, rfl, ?_⟩
        rw [ne_self]
        refine iteF ?_
        have it7 := it1.keep (.ext x7)
        have ov7 := ov1.extN x7
        have tk7 : TupKeep I1 I7 := fun b o e => x7 _ _ e (fun _ z => by cases z)
        have hC7 := hC1.keep tk7
        have eg7 := tk7 _ _ eg1
        have eh7 := tk7 _ _ eh1
        have nx7 := nx1.trans x7
        clear hC1 eg1 eh1 B1 B5 it1 ov1 nx1 x7 tk7 sa sb ea ebb nL1 nLB x5
        have elo7 := nx7 _ _ elo29 (fun _ z => by cases z)
        have er7 := nx7 _ _ er29 (fun _ z => by cases z)
        -- several
        refine ⟨_, rfl, _, rfl, _, rfl, ?_⟩
        dsimp only [tNoPart]
        show rSlA K (.ref lo) (some 1) none I7 _
        refine slA_to elo7 fun c1 J1 j1 f1 => ?_
        refine ⟨_, rfl, (by show 1 ≤ sizeLine; decide), fun p2 np2 => ?_⟩
        have sp2 := same_new (o := .tup [.int 0]) np2
        have fp2 : (L2.upd J1 p2 (.tup [.int 0])) p2 = some (.tup [.int 0]) := upd_same
        generalize L2.upd J1 p2 (.tup [.int 0]) = J2 at sp2 fp2
        show rCatA K (.ref lo) (.ref p2) J2 _
        refine catA_to (sp2 _ _ (j1 _ _ elo7)) fp2 (by rw [nV_len]; show _ + 1 ≤ 1000; omega) fun c3 J3 j3 f3 => ?_
        have w3 := j1.trans (sp2.trans j3)
        refine ⟨_, rfl, lo, _, rfl, .inr (.inl (.inl (w3 _ _ elo7))), fun c4 n4 => ?_⟩
        have s4 := same_new (o := .lst (nV (opensF (sureF C.gates gv hv)))) n4
        have f4 : (L2.upd J3 c4 (.lst (nV (opensF (sureF C.gates gv hv))))) c4 = some (.lst (nV (opensF (sureF C.gates gv hv)))) := upd_same
        generalize L2.upd J3 c4 (.lst (nV (opensF (sureF C.gates gv hv)))) = J4 at s4 f4
        refine ⟨_, rfl, r1, _, rfl, .inl (.inl (.inl ((w3.trans s4) _ _ er7))), _, rfl, RgOk.of_le (by decide) (by omega) (by decide) (by omega), fun c5 n5 => ?_⟩
        have s5 := same_new (o := .tup (rgV 0 ((((sureF C.gates gv hv).map rdV).length : Nat) : Int))) n5
        have f5 : (L2.upd J4 c5 (.tup (rgV 0 ((((sureF C.gates gv hv).map rdV).length : Nat) : Int)))) c5 = some (.tup (nV (List.range ((sureF C.gates gv hv).map rdV).length))) := by rw [upd_same, rgV_nV]
        generalize L2.upd J4 c5 (.tup (rgV 0 ((((sureF C.gates gv hv).map rdV).length : Nat) : Int))) = J5 at s5 f5
        have w5 := w3.trans (s4.trans s5)
        refine ⟨_, rfl, _, rfl, rfl, lo, _, rfl, .inl (.inl (w5 _ _ elo7)), fun c6 n6 => ?_⟩
        have s6 := same_new (o := .tup (nV (opensF (sureF C.gates gv hv))).reverse) n6
        have f6 : (L2.upd J5 c6 (.tup (nV (opensF (sureF C.gates gv hv))).reverse)) c6 = some (.tup (nV (opensF (sureF C.gates gv hv))).reverse) := upd_same
        generalize L2.upd J5 c6 (.tup (nV (opensF (sureF C.gates gv hv))).reverse) = J6 at s6 f6
        refine ⟨(by show 1 ≤ sizeLine; decide), fun c7 n7 => ⟨(by show 1 ≤ sizeLine; decide), fun c8 n8 => ?_⟩⟩
        have s8 := same_new (o := .tup [.str "0"]) n8
        have s7 := same_new (o := .tup [.bl true]) n7
        have f7 : (L2.upd (L2.upd J6 c7 (.tup [.bl true])) c8 (.tup [.str "0"])) c7 = some (.tup [.bl true]) := s8 _ _ upd_same
        have f8 : (L2.upd (L2.upd J6 c7 (.tup [.bl true])) c8 (.tup [.str "0"])) c8 = some (.tup [.str "0"]) := upd_same
        have w8 := s7.trans s8
        generalize L2.upd (L2.upd J6 c7 (.tup [.bl true])) c8 (.tup [.str "0"]) = J8 at f7 f8 w8
        refine ⟨(by show 9 ≤ sizeLine; decide), fun V9 nV9 => ?_⟩
        have s9 := same_new (o := .lst [.ref lo, .ref c1, .ref c3, .ref c4, .non, .ref c5, .ref c6, .ref c7, .ref c8]) nV9
        have f9 : (L2.upd J8 V9 (.lst [.ref lo, .ref c1, .ref c3, .ref c4, .non, .ref c5, .ref c6, .ref c7, .ref c8])) V9 = some (.lst [.ref lo, .ref c1, .ref c3, .ref c4, .non, .ref c5, .ref c6, .ref c7, .ref c8]) := upd_same
        generalize L2.upd J8 V9 (.lst [.ref lo, .ref c1, .ref c3, .ref c4, .non, .ref c5, .ref c6, .ref c7, .ref c8]) = J9 at s9 f9
        have v8 := w8.trans s9
        have v6 := s6.trans v8
        have v5 := s5.trans v6
        have v4 := s4.trans v5
        have v3 := (sp2.trans j3).trans v4
        have w9 := j1.trans v3
        have nums : ∀ ns : List Nat, (∀ n ∈ ns, n ≤ 7) → ∀ v ∈ nV ns, ∃ n : Nat, n ≤ 7 ∧ v = .int (n : Int) := fun ns h v hv => by
          obtain ⟨n, hn, rfl⟩ := List.mem_map.mp hv
          exact ⟨n, h n hn, rfl⟩
        have lotn := nums _ opsg
        have lotl : (nV (opensF (sureF C.gates gv hv))).length ≤ 7 := by rw [nV_len]; exact ops7
        have hos : ∀ z ∈ [V.ref lo, .ref c1, .ref c3, .ref c4, .non, .ref c5, .ref c6, .ref c7, .ref c8], ∃ d, D1 (fun a => a = V9) J9 z d := by
          intro z hz
          simp only [List.mem_cons, List.not_mem_nil, or_false] at hz
          rcases hz with e | e | e | e | e | e | e | e | e <;> subst e
          · exact ints_d1 (w9 _ _ elo7) lotn (by omega)
          · exact ints_d1 (v3 _ _ f1) (fun v hv => lotn v (mem_cut hv)) (Nat.le_trans (cutV_length _ _ _) (by omega))
          · refine ints_d1 (v4 _ _ f3) (fun v hv => ?_) (by rw [List.length_append]; show _ + 1 ≤ 20; omega)
            rcases List.mem_append.mp hv with m | m
            · exact lotn v m
            · exact ⟨0, by decide, List.mem_singleton.mp m⟩
          · obtain ⟨ds, pd⟩ := ints_paired lotn
            exact ⟨_, .inr (.lst (v5 _ _ f4) (fun z => by
              rw [z] at f4
              rw [(s5.trans (s6.trans w8)) _ _ f4] at nV9
              cases nV9) pd (by omega))⟩
          · exact ⟨_, .inl .non⟩
          · exact ints_d1 (v6 _ _ f5) (nums _ fun n hn => by
              have := List.mem_range.mp hn
              omega) (by rw [nV_len, List.length_range]; omega)
          · exact ints_d1 (v8 _ _ f6) (fun v hv => lotn v (List.mem_reverse.mp hv)) (by rw [List.length_reverse]; omega)
          · exact ⟨_, .inr (.tup (s9 _ _ f7) (.cons (.bl true) .nil))⟩
          · exact ⟨_, .inr (.tup (s9 _ _ f8) (.cons (str_at "0") .nil))⟩
        have B9 := B7.same w9
        have it9 := it7.keep (.same w9)
        have ov9 := ov7.extN (extN_same w9)
        have hC9 := hC7.keep (.of w9)
        have eg9 := w9 _ _ eg7
        have eh9 := w9 _ _ eh7
        have nx9 := nx7.trans (extN_same w9)
        have er9 := w9 _ _ er7
        have fresh : ∀ b ob, H29 b = some ob → (∀ ps, ob ≠ .tbl ps) → b ≠ V9 := fun b ob e n z => by
          have := (nx7.trans (extN_same (j1.trans ((sp2.trans j3).trans (s4.trans (s5.trans (s6.trans w8))))))) _ _ e n
          rw [z, nV9] at this
          cases this
        have lP := hg7
        have tp : ∀ {Hq : Hp}, ExtN H29 Hq → ∀ G, toldBy C gv hv t items = some G → ∃ (ia : Addr) (PP : List (Nat × Bool)), x = .ref ia ∧ SqT K Hq ia ys ∧ Paired (TP K Hq) ys PP ∧ (∀ p ∈ PP, p.1 < C.gates.length) ∧ toldP C.gates gv hv PP (List.replicate C.gates.length none) = some G := fun {Hq} nq G hG => by
          have ovq := ov29.extN nq
          unfold toldBy at hG
          by_cases ht : t = "tuple"
          · rw [if_pos ht] at hG
            obtain ⟨ia, ex, sq⟩ := ovq.2.1 ht
            obtain ⟨PP, p1, p2⟩ := told_pairs hG
            refine ⟨ia, PP, ex, sq, tp_of (ovq.2.2 ht) p1 (by omega), ?_, p2⟩
            intro p hp
            obtain ⟨it0, h0⟩ := paired_right p1 p hp
            exact h0.2
          · rw [if_neg ht] at hG
            cases hG
        refine ⟨fun σ Hz => ∃ os : List V, σ = [some (.ref a), some (.ref st), some (.int (0 + (i : Int))), some y, some (.ref g), some (.ref h), some (.ref r1), some (.ref l1), some (.ref o), some (.ref lo), some (.ref be), some x, some (.bl due), some (.str d.shown), some (.ref L1), some (.ref V9), y16', y17', y18, y19, y20, y21, none, none, none, none, none, none] ∧ Hz V9 = some (.lst os) ∧ (∀ z ∈ os, ∃ d, D1 (fun a => a = V9) Hz z d) ∧ os.length ≤ 20 ∧ Between st lg cl Pl TT Hz (2000 * i + 800) ∧ ExtN H29 Hz, ⟨_, rfl, due, rfl, ?_⟩, ?_⟩
        · cases due with
          | false => exact iteF ⟨_, rfl, f9, hos, Nat.le_of_ble_eq_true rfl, B9, nx9⟩
          | true =>
            obtain ⟨G, hG⟩ := Option.isSome_iff_exists.mp hdue
            obtain ⟨ia, PP, rfl, sq9, tp9, _, _⟩ := tp nx9 G hG
            refine iteT ⟨_, rfl, .inl ⟨rfl, _, .inl (.inl f9)⟩, _, rfl, r1, _, rfl, .inl (.inl (.inl er9)), _, rfl, by omega, by omega, fun D nD => ?_⟩
            rw [Int.toNat_natCast]
            have V9D : V9 ≠ D := ne_of_none f9 nD
            refine lc_range (fun k Hy => ∃ ns : List Nat, Same J9 Hy ∧ Hy D = some (.lst (nV ns)) ∧ (∀ n ∈ ns, n ≤ 7) ∧ ns.length ≤ k) ⟨[], same_new nD, upd_same, fun n z => (nomatch z), Nat.le_refl _⟩ (fun k Hy hk z => ?_) (fun Hy z => ?_)
            · obtain ⟨ns, sy, eD, hns, lns⟩ := z
              have sqy := extN_seqT (extN_same sy) sq9
              refine ⟨rfl, _, rfl, _, rfl, ia, rfl, ⟨ys, sqy⟩, fun D2 nD2 => ?_⟩
              refine lc_tup (xs := ys) (fun m Hw => ∃ gl : List Int, Same Hy Hw ∧ Hw D2 = some (.lst (gl.map V.int)) ∧ gl.length ≤ m) ⟨[], same_new nD2, upd_same, Nat.le_refl _⟩ (fun m Hw _ z => extN_seqT (extN_same z.choose_spec.1) sqy) (fun m v Hw hv z => ?_) (fun Hw z => ?_)
              · obtain ⟨gl, sw, eD2, lgl⟩ := z
                obtain ⟨p, _, ⟨a0, rfl, sq0⟩, _⟩ := pr_getN tp9 hv
                have hm : m < ys.length := (List.getElem?_eq_some_iff.mp hv).1
                refine ⟨a0, _, rfl, extN_seqT (extN_same (sy.trans sw)) sq0, rfl, _, _, rfl, _, _, rfl, rfl, rfl, _, rfl, _, eD2, by rw [List.length_map, sizeLine_eq]; omega, gl ++ [(p.1 : Int)], fun b ob e => ?_, ?_, by rw [List.length_append]; show _ + 1 ≤ m + 1; omega⟩
                · rw [upd_ne (ne_of_none e nD2)]
                  exact sw _ _ e
                · rw [upd_same, List.map_append]
                  rfl
              obtain ⟨gl, sw, eD2, lgl⟩ := z
              refine ⟨D2, gl.map V.int, rfl, .inl (.inl (.inl eD2)), rfl, flat_ints gl, _, rfl, ite2 (fun _ => ?_) (fun _ => ?_)⟩
              · refine ⟨_, rfl, nV ns, sw _ _ eD, by rw [nV_len, sizeLine_eq]; omega, ns ++ [k], fun b ob e => ?_, ?_, fun n hn => ?_, by rw [List.length_append]; show _ + 1 ≤ k + 1; omega⟩
                · rw [upd_ne (ne_of_none e nD)]
                  exact sw _ _ (sy _ _ e)
                · rw [upd_same]
                  show some (HO.lst (nV ns ++ [V.int (0 + (k : Int))])) = some (HO.lst (nV (ns ++ [k])))
                  rw [Int.zero_add]
                  unfold nV
                  rw [List.map_append]
                  rfl
                · rcases List.mem_append.mp hn with m | m
                  · exact hns n m
                  · rw [List.mem_singleton.mp m]
                    omega
              · exact ⟨ns, sy.trans sw, sw _ _ eD, hns, by omega⟩
            obtain ⟨ns, sy, eD, hns, lns⟩ := z
            refine ⟨D, _, rfl, .inl ⟨.inl (.inl eD), fun tc ntc => ?_⟩⟩
            have st_ := sy.trans (same_new (o := .tup (nV ns)) ntc)
            have etc : (L2.upd Hy tc (.tup (nV ns))) tc = some (.tup (nV ns)) := upd_same
            generalize L2.upd Hy tc (.tup (nV ns)) = Hz at st_ etc
            have eVz := st_ _ _ f9
            have nsl : (nV ns).length ≤ 20 := by rw [nV_len]; omega
            have kp := KL.put (N := fun a => a = V9) (o := .lst ([V.ref lo, .ref c1, .ref c3, .ref c4, .non, .ref c5, .ref c6, .ref c7, .ref c8] ++ [.ref tc])) eVz rfl
            refine ⟨V9, _, _, rfl, rfl, eVz, Nat.le_of_ble_eq_true rfl, _, rfl, upd_same, fun z hz => ?_, Nat.le_of_ble_eq_true rfl, ?_, fun b ob e n => ?_⟩
            · rcases List.mem_append.mp hz with m | m
              · obtain ⟨d1, h1⟩ := hos z m
                exact ⟨d1, (h1.keep (.same st_)).keep kp⟩
              · rw [List.mem_singleton.mp m]
                obtain ⟨d1, h1⟩ := ints_d1 (N := fun a => a = V9) etc (nums ns hns) nsl
                exact ⟨d1, h1.keep kp⟩
            · exact (B9.same st_).putL eVz (fun z => by
                obtain ⟨_, _, _, _, Sb⟩ := B29.s
                exact fresh _ _ Sb.l (fun _ z => by cases z) z.symm) (fun z => by
                obtain ⟨_, _, _, _, Sb⟩ := B29.s
                exact fresh _ _ Sb.c (fun _ z => by cases z) z.symm)
            · rw [upd_ne (fresh b ob e n)]
              exact st_ _ _ (nx9 _ _ e n)
        rintro σ Hz ⟨os, rfl, eV, hos2, los, Bz, nz⟩
        refine ⟨_, rfl, V9, rfl, ⟨os, .inl (.inl eV)⟩, for_list (xs := os) (fun k σ Hw => ∃ y16 y17 : Option V, σ = [some (.ref a), some (.ref st), some (.int (0 + (i : Int))), some y, some (.ref g), some (.ref h), some (.ref r1), some (.ref l1), some (.ref o), some (.ref lo), some (.ref be), some x, some (.bl due), some (.str d.shown), some (.ref L1), some (.ref V9), y16, y17, y18, y19, y20, y21, none, none, none, none, none, none] ∧ Between st lg cl Pl TT Hw (2000 * i + 800) ∧ ExtN Hz Hw)
          ⟨y16', y17', rfl, Bz, fun _ _ e _ => e⟩ (fun k σ Hw _ hh => ?_) (fun k z σ Hw hz hh => ?_) (fun σ Hw hh => ?_)⟩
        · obtain ⟨_, _, _, _, w⟩ := hh
          exact .inl (.inl (w _ _ eV (fun _ z => by cases z)))
        · obtain ⟨y16'', y17'', rfl, Bw, xw⟩ := hh
          obtain ⟨d1, h1⟩ := hos2 z (List.mem_of_getElem? hz)
          obtain ⟨tl, xs, il0, lxs⟩ := h1.items (K := K)
          have il := il0.ext xw
          have nw := nz.trans xw
          have tkw : TupKeep H29 Hw := fun b o e => nw _ _ e (fun _ z => by cases z)
          have hCw := hC29.keep tkw
          have egw := tkw _ _ eg29
          have ehw := tkw _ _ eh29
          have ovw := ov29.extN nw
          -- fine
          refine ⟨_, rfl, _, rfl, _, rfl, _, rfl, _, rfl, y, x, z, C, g, h, gv, hv, t, tl, ys, xs, items, rfl, hCw, okC, lgv, lhv, .inl (.inl egw), .inl (.inl ehw), ovw, il, by omega, fun W1 s1 => ?_⟩
          generalize hfine : lotBy C gv hv (toldBy C gv hv t items) tl xs = fine
          have x1 := extN_same s1
          have B1 := Bw.same s1
          have hC1 := hCw.keep (.of s1)
          have eg1 := s1 _ _ egw
          have eh1 := s1 _ _ ehw
          refine ⟨_, rfl, _, rfl, _, rfl, _, rfl, _, rfl, ?_⟩
          dsimp only [tNil]
          show spCasedX K TT CC CG CH 2 (finICL K TT) [y, .ref g, .ref h, x, z] W1 _ _
          refine casedX_ok rfl hC1 okC fan4 B1.tt eg1 eh1 lgv lhv fun W2 e2 => ⟨x, z, t, tl, ys, xs, items, rfl, e2.tabs B1.tt, (ovw.extN x1).extN (e2.extN B1.tt), (il.ext x1).ext (e2.extN B1.tt), fun W3 e3 => ?_⟩
          rw [hfine]
          have B2 := B1.ex hPT e2
          have B3 := B2.ex hPT e3
          have x3 : ExtN Hw W3 := x1.trans ((e2.extN B1.tt).trans (e3.extN B2.tt))
          dsimp only [tNil]
          show RU.rReprU K [.bl fine] W3 _
          refine (IT.d2 (N := fun _ => False) (.inl (.bl fine))).repr ?_
          refine ⟨_, rfl, ?_⟩
          dsimp only [tNil]
          show RU.rReprU K [.bl fine] W3 _
          refine (IT.d2 (N := fun _ => False) (.inl (.bl fine))).repr ?_
          refine ⟨rfl, _, rfl, ?_⟩
          rw [ne_self]
          refine iteF ⟨_, rfl, fine, rfl, ?_⟩
          cases fine with
          | false => exact iteF (iteF ⟨_, _, rfl, B3, xw.trans x3⟩)
          | true =>
            have n3 := nw.trans x3
            cases hG : toldBy C gv hv t items with
            | none =>
              rw [hG] at hfine
              cases hfine
            | some G =>
              rw [hG] at hfine
              have hfine : lotOk C gv hv G tl xs = true := hfine
              unfold lotOk at hfine
              rw [Bool.and_eq_true] at hfine
              obtain ⟨ia, PP, ex, sq3, tp3, hPP, hto⟩ := tp n3 G hG
              have hGs : G = sureF C.gates gv hv := told_sure hPP hto fun g hg => by
                have z := List.all_eq_true.mp hfine.2 g hg
                cases e : readG C.gates gv hv G g with
                | none => rfl
                | some b =>
                  rw [e] at z
                  cases z
              rw [hGs] at hto
              have hperm : PP.Perm (lapsAll C.gates gv hv).flatten := told_perm (G := G) hPP hg7 hto told_order
              have lyP : ys.length = PP.length := Paired.length tp3
              have eo3 := n3 _ _ eo29 (fun _ z => by cases z)
              have hord3 : AllAt PairAt W3 yss.flatten (lapsAll C.gates gv hv).flatten := pairs_keep hord29 (fun b o e => n3 _ _ e (fun _ z => by cases z))
              have tpo : Paired (TP K W3) yss.flatten (lapsAll C.gates gv hv).flatten := tp_ord hord3 fun p hp => by
                have := hg8 p hp
                omega
              have ti : ∀ {Hq : Hp} {l : List V} {P : List (Nat × Bool)}, Paired (TP K Hq) l P → ∀ x ∈ l, ∃ ns, TupI K Hq x ns ∧ ns.length = 2 ∧ TS.Bd 3000 ns := fun h x hx => by
                obtain ⟨p, hp⟩ := paired_left h x hx
                exact ⟨_, hp.1, rfl, bd_pair hp.2⟩
              refine iteT ⟨_, rfl, ?_⟩
              rw [ex]
              dsimp only [tNil]
              show RU.rSortV K 2 3000 [.ref ia] W3 _
              refine ⟨ia, ys, rfl, sq3, by omega, ti tp3, fun ys1 p1 pm1 pw1 np1 => ?_⟩
              obtain ⟨Q1, qp1, qt1, qs1⟩ := sorted_pairs tp3 pm1 pw1
              have u1 := same_new (o := .lst ys1) np1
              have f1 : (L2.upd W3 p1 (.lst ys1)) p1 = some (.lst ys1) := upd_same
              generalize L2.upd W3 p1 (.lst ys1) = W4 at u1 f1
              have tpo4 : Paired (TP K W4) yss.flatten (lapsAll C.gates gv hv).flatten := pairedMono (fun _ _ z => z.ext (extN_same u1)) tpo
              refine ⟨_, rfl, ?_⟩
              dsimp only [tNil]
              show RU.rSortV K 2 3000 [.ref o] W4 _
              refine ⟨o, yss.flatten, rfl, .inl (.inl (u1 _ _ eo3)), by omega, ti tpo4, fun ys2 p2 pm2 pw2 np2 => ?_⟩
              obtain ⟨Q2, qp2, qt2, qs2⟩ := sorted_pairs tpo4 pm2 pw2
              have u2 := same_new (o := .lst ys2) np2
              have f2 : (L2.upd W4 p2 (.lst ys2)) p2 = some (.lst ys2) := upd_same
              generalize L2.upd W4 p2 (.lst ys2) = W5 at u2 f2
              have eQ : Q1 = Q2 := perm_sorted lx_anti Q1 Q2 (qp1.trans (hperm.trans qp2.symm)) qs1 qs2
              subst eQ
              have qt1' : Paired (TP K W5) ys1 Q1 := pairedMono (fun _ _ z => z.ext (extN_same (u1.trans u2))) qt1
              have qt2' : Paired (TP K W5) ys2 Q1 := pairedMono (fun _ _ z => z.ext (extN_same u2)) qt2
              refine ⟨.list (Q1.map pairDS), .list (Q1.map pairDS), .lst (.inl (.inl (u2 _ _ f1))) (dp_pairsS qt1'), .lst (.inl (.inl f2)) (dp_pairsS qt2'), layN_shaped (lay_pairS Q1) (by decide), layN_shaped (lay_pairS Q1) (by decide), ?_⟩
              have e1 : PyData.eqv (.list (Q1.map pairDS)) (.list (Q1.map pairDS)) = true := by
                show PyData.eqvAll _ _ = true
                exact eqv_pairs Q1
              rw [e1]
              exact ⟨_, rfl, iteF ⟨_, _, rfl, B3.same (u1.trans u2), xw.trans (x3.trans (extN_same (u1.trans u2)))⟩⟩
        · obtain ⟨y16'', y17'', rfl, Bw, xw⟩ := hh
          exact ⟨_, _, _, _, _, _, _, rfl, Bw, nz.trans xw⟩
      obtain ⟨y11', y12', y13', y14', y15', y16', y17', rfl, Bx, nx⟩ := hh
      have tkx : TupKeep H29 Hx := fun b o e => nx _ _ e (fun _ z => by cases z)
      have hC30 := hC29.keep tkx
      have eg30 := tkx _ _ eg29
      have eh30 := tkx _ _ eh29
      have eo30 := tkx _ _ eo29
      have elo30 := tkx _ _ elo29
      have hord30 : AllAt PairAt Hx yss.flatten (lapsAll C.gates gv hv).flatten := pairs_keep hord29 tkx
      clear hC29 eg29 eh29 eo29 elo29 hord29 hws ebe B29 er29 nx tkx
      have ovo : OrderV K Hx (.ref o) "tuple" yss.flatten ((lapsAll C.gates gv hv).flatten.map itemOf) := ord_order eo30 hord30
      have ilo : ItemsV K Hx (.ref lo) "tuple" (nV (opensF (sureF C.gates gv hv))) := nv_items elo30
      -- by name
      refine ⟨_, rfl, _, rfl, _, rfl, _, rfl, _, rfl, ?_⟩
      dsimp only [tNil]
      show spCasedX K TT CC CG CH 2 (finICL K TT) [y, .ref g, .ref h, .ref o, .ref lo] Hx _ _
      refine casedX_ok rfl hC30 okC fan4 Bx.tt eg30 eh30 lgv lhv fun H31 e31 => ⟨.ref o, .ref lo, "tuple", "tuple", yss.flatten, nV (opensF (sureF C.gates gv hv)), (lapsAll C.gates gv hv).flatten.map itemOf, rfl, e31.tabs Bx.tt, ovo.extN (e31.extN Bx.tt), ilo.ext (e31.extN Bx.tt), fun H32 e32 => ?_⟩
      rw [lot_told C gv hv]
      have B31 := Bx.ex hPT e31
      have B32 := B31.ex hPT e32
      refine ⟨_, _, rfl, rfl, _, rfl, iteF ?_⟩
      have x32 : ExtN Hx H32 := (e31.extN Bx.tt).trans (e32.extN B31.tt)
      have tk32 : TupKeep Hx H32 := fun b o e => x32 _ _ e (fun _ z => by cases z)
      have hC32 := hC30.keep tk32
      have eg32 := tk32 _ _ eg30
      have eh32 := tk32 _ _ eh30
      clear hC30 eg30 eh30 eo30 elo30 hord30 ovo ilo Bx B31 e31 e32 x32 tk32
      obtain ⟨ct, ra, gaa, oa, rs, gs, os, ey, ec, era, ega, eoa, hrs, hgs, hos⟩ := id hC32
      subst ey
      have lrs : rs.length = C.regs.length := Paired.length hrs
      -- the wrong values
      refine ⟨_, rfl, Nat.zero_le _, fun e1 ne1 => ⟨Nat.zero_le _, fun e2 ne2 => ⟨(by show 3 ≤ sizeLine; decide), fun p1 np1 => ⟨(by show 3 ≤ sizeLine; decide), fun LL nLL => ?_⟩⟩⟩⟩
      have u3 := ((same_new (o := .tup []) ne1).trans (same_new (o := .tup []) ne2)).trans (same_new (o := .tup [.int 1, .ref e1, .ref e2]) np1)
      have nLs := But.st_new (o := .tup []) (B32.s.keep u3) nLL
      have u5 := same_new (o := .lst [.non, .int 5, .ref p1]) nLL
      have B29 := B32.same (u3.trans u5)
      have tk29 := TupKeep.of (u3.trans u5)
      refine ⟨st, lg, cl, LL, _, [.non, .int 5, .ref p1], rfl, (by show 0 < 3; decide), (by show 3 ≤ 1000; decide), nLs.1, nLs.2, .inl (.inl upd_same), by omega, B29.s, fun odd H30 mem S30 U30 => ?_⟩
      have od30 : OD st lg H30 odd := by
        simp only [List.mem_cons, List.not_mem_nil, or_false] at mem
        rcases mem with z | z | z <;> subst z
        · exact .non
        · exact .int 5
        · exact (OD.tup (u5 _ _ upd_same) (by show 3 ≠ 4; decide)).but U30 B29.s
      have B30 := B29.but S30 U30
      have tk30 := tk29.trans (U30.tup B29.s)
      have hC30 := hC32.keep tk30
      have eg30 := tk30 _ _ eg32
      have eh30 := tk30 _ _ eh32
      have ec30 := tk30 _ _ ec
      have era30 := tk30 _ _ era
      clear hC32 eg32 eh32 ec era ega eoa B32 B29 tk29 tk30 u3 u5 nLs mem S30 U30 ne1 ne2 np1 nLL
      have kni := okC.ni
      have knr := okC.nr
      -- bad
      refine ⟨_, rfl, _, rfl, ct, _, 0, .int (C.ni : Int), rfl, rfl, .inl (.inl ec30), rfl, st, lg, cl, _, C.ni, rfl, by omega, by omega, B30.s, fun bad H31 wb S31 U31 => ?_⟩
      have B31 := B30.but S31 U31
      have tk31 := U31.tup B30.s
      have od31 := od30.but U31 B30.s
      have hC31 := hC30.keep tk31
      have eg31 := tk31 _ _ eg30
      have ec31 := tk31 _ _ ec30
      have era31 := tk31 _ _ era30
      clear hC30 eg30 eh30 ec30 era30 B30 tk31 od30 S31 U31
      -- wrong
      refine ⟨_, rfl, _, rfl, ct, _, 1, .ref ra, rfl, rfl, .inl (.inl ec31), rfl, ra, rs, rfl, .inr (.inl (.inl era31)), ?_⟩
      rw [lrs]
      refine ⟨st, lg, cl, _, C.regs.length, rfl, by omega, by omega, B31.s, fun wrong H32 ww S32 U32 => ?_⟩
      have B32 := B31.but S32 U32
      have tk32 := U32.tup B31.s
      have od32 := od31.but U32 B31.s
      have wb32 := wb.but U32 B31.s
      have hC32 := hC31.keep tk32
      have eg32 := tk32 _ _ eg31
      clear hC31 eg31 ec31 era31 B31 tk32 od31 S32 U32 wb
      refine ⟨(by show 3 ≤ sizeLine; decide), fun tp ntp => ?_⟩
      have s33 := same_new (o := .tup [odd, bad, wrong]) ntp
      have e33 : (L2.upd H32 tp (.tup [odd, bad, wrong])) tp = some (.tup [odd, bad, wrong]) := upd_same
      have B33 := B32.same s33
      have od33 := od32.ext (extN_same s33)
      have wb33 := wb32.ext (extN_same s33)
      have ww33 := ww.ext (extN_same s33)
      have hC33 := hC32.keep (.of s33)
      have eg33 := s33 _ _ eg32
      generalize L2.upd H32 tp (.tup [odd, bad, wrong]) = H33 at e33 B33 od33 wb33 ww33 hC33 eg33
      clear hC32 eg32 B32 od32 wb32 ww s33 ntp
      refine ⟨tp, _, rfl, .inl (.inl e33), rfl, _, _, rfl, _, _, rfl, _, _, rfl, rfl, ?_⟩
      clear e33
      -- two defs, two lambdas
      refine ⟨B33.tl, fun w1 G1 bp1 T1' la1 nw1 => ?_⟩
      have t1 := (B33.lam (H4 := G1) (ad := 0) (o := .tup []) hPT bp1 T1').1
      have x1 := (B33.lam (H4 := G1) (ad := 0) (o := .tup []) hPT bp1 T1').2.1
      have Bg1 := B33.butP hPT bp1 T1'
      refine ⟨Bg1.tl, fun w2 G2 bp2 T2' la2 nw2 => ?_⟩
      have x2 := (Bg1.lam (H4 := G2) (ad := 0) (o := .tup []) hPT bp2 T2').2.1
      have Bg2 := Bg1.butP hPT bp2 T2'
      have x12 := x1.trans x2
      have od34 := od33.ext x12
      have wb34 := wb33.ext x12
      have ww34 := ww33.ext x12
      have hC34 := hC33.keep (fun b o e => x12 _ _ e (fun _ z => by cases z))
      have eg34 := x12 _ _ eg33 (fun _ z => by cases z)
      have L1at := la1.ext x2
      clear B33 od33 wb33 ww33 hC33 eg33 bp1 bp2 T1' T2' t1 Bg1 x1 x2 x12
      refine ⟨(by show 4 ≤ sizeLine; decide), fun LW nLW => ?_⟩
      have s34 := same_new (o := .lst [.ref fSO, .ref fCL, .ref w1, .ref w2]) nLW
      have eLW : (L2.upd G2 LW (.lst [.ref fSO, .ref fCL, .ref w1, .ref w2])) LW = some (.lst [.ref fSO, .ref fCL, .ref w1, .ref w2]) := upd_same
      have B34 := Bg2.same s34
      have od35 := od34.ext (extN_same s34)
      have wb35 := wb34.ext (extN_same s34)
      have ww35 := ww34.ext (extN_same s34)
      have hC35 := hC34.keep (.of s34)
      have eg35 := s34 _ _ eg34
      have la1' := L1at.ext (extN_same s34)
      have la2' := la2.ext (extN_same s34)
      generalize L2.upd G2 LW (.lst [.ref fSO, .ref fCL, .ref w1, .ref w2]) = H34 at eLW B34 od35 wb35 ww35 hC35 eg35 la1' la2'
      clear hC34 eg34 Bg2 od34 wb34 ww34 s34 nLW L1at la1 la2
      have LS1 : LS H34 w1 (spLam (spCasedX K TT CC CG CH 1 (finIsO K)) [.non]) := by
        rw [eLS]
        refine ⟨11, _, _, _, _, ["one", "two", "three"], ⟨fun vs H Q E z => ?_, fun pm ctv cv us hl => ?_, ["one", "two", "three"], ⟨rfl, rfl, rfl, by decide +kernel, rfl, by decide +kernel, by decide +kernel⟩, fun A outer s H f c' vs Q E hr z => ⟨_, pe_call (E := E) GIO hr (by rfl) mIO kIO bIO .nil (L2.passes_call (L2.takes_of rfl rfl rfl rfl) (fun _ _ _ _ e => e)) (pa_cons (pv 0) (pa_cons (pv 1) (pa_cons (pv 2) (pa_cons pe_non pa_nil)))), ?_⟩⟩, la1', by decide⟩
        · obtain ⟨a, b, c, rfl, _⟩ := z
          rfl
        · match us, hl with
          | [u, v, w], _ => rfl
        · obtain ⟨a, b, c, rfl, z⟩ := z
          exact ⟨_, rfl, _, rfl, _, rfl, z⟩
      have LS2 : LS H34 w2 (spLam (spCasedX K TT CC CG CH 2 (finICL K TT)) [.non, .non]) := by
        rw [eLS]
        refine ⟨11, _, _, _, _, ["one", "other", "third"], ⟨fun vs H Q E z => ?_, fun pm ctv cv us hl => ?_, ["one", "other", "third"], ⟨rfl, rfl, rfl, by decide +kernel, rfl, by decide +kernel, by decide +kernel⟩, fun A outer s H f c' vs Q E hr z => ⟨_, pe_call (E := E) GIC hr (by rfl) mIC kIC bIC .nil (L2.passes_call (L2.takes_of rfl rfl rfl rfl) (fun _ _ _ _ e => e)) (pa_cons (pv 0) (pa_cons (pv 1) (pa_cons (pv 2) (pa_cons pe_non (pa_cons pe_non pa_nil))))), ?_⟩⟩, la2', by decide⟩
        · obtain ⟨a, b, c, rfl, _⟩ := z
          rfl
        · match us, hl with
          | [u, v, w], _ => rfl
        · obtain ⟨a, b, c, rfl, z⟩ := z
          exact ⟨_, rfl, _, rfl, _, rfl, z⟩
      have LSx : ∀ {Ha Hb : Hp} {f : Addr} {sp : Sp}, LS Ha f sp → ExtN Ha Hb → LS Hb f sp := fun h x => by
        rw [eLS] at h ⊢
        obtain ⟨j, q, pa, bo, sc, ps, h1, h2, h3⟩ := h
        exact ⟨j, q, pa, bo, sc, ps, h1, h2.ext x, h3⟩
      have three : ∀ x ∈ [V.ref fSO, .ref fCL, .ref w1, .ref w2], ∃ (fw : Addr) (sp : Sp), x = .ref fw ∧ (Wk fw sp ∨ LS H34 fw sp) ∧ Three K TT CC CG CH sp := fun x hx => by
        simp only [List.mem_cons, List.not_mem_nil, or_false] at hx
        rcases hx with z | z | z | z
        · exact ⟨fSO, _, z, .inl (by rw [eWk]; exact .inl ⟨rfl, rfl⟩), three_cased⟩
        · exact ⟨fCL, _, z, .inl (by rw [eWk]; exact .inr ⟨rfl, rfl⟩), three_cased⟩
        · exact ⟨w1, _, z, .inr LS1, three_casedX rfl⟩
        · exact ⟨w2, _, z, .inr LS2, three_casedX rfl⟩
      refine ⟨LW, rfl, ⟨_, .inl (.inl eLW)⟩, for_list (xs := [.ref fSO, .ref fCL, .ref w1, .ref w2]) (fun j σ Hx => ∃ y21 : Option V, σ = [some (.ref a), some (.ref st), some (.int (0 + (i : Int))), some (.ref ct), some (.ref g), some (.ref h), some (.ref r1), some (.ref l1), some (.ref o), some (.ref lo), some (.ref be), y11', y12', y13', y14', y15', y16', y17', some odd, some bad, some wrong, y21, none, none, none, none, none, none] ∧ Between st lg cl Pl TT Hx (2000 * i + 1000) ∧ ExtN H34 Hx)
        ⟨_, rfl, ⟨B34.s.up (by omega), B34.tt, B34.tl⟩, fun _ _ e _ => e⟩ (fun j σ Hx _ hh => ?_) (fun j x σ Hx hx hh => ?_) (fun σ Hx hh => ?_)⟩
      · obtain ⟨_, _, _, z⟩ := hh
        exact .inl (.inl (z _ _ eLW (fun _ z => by cases z)))
      · obtain ⟨y21', rfl, Bx, nx⟩ := hh
        obtain ⟨fw, sp, rfl, hw, th⟩ := three x (List.mem_of_getElem? hx)
        have hwx : ∀ {Hy : Hp}, ExtN H34 Hy → (Wk fw sp ∨ LS Hy fw sp) := fun e => hw.imp id (fun z => LSx z e)
        -- work(odd, bad, wrong)
        refine ⟨Bx.tl, fun H3 bp T3 => ?_⟩
        have T3' : LamX.TabS H3 Pl lawQ := T3
        have x3 := (Bx.lam (H4 := H3) (ad := 0) (o := .tup []) hPT bp T3').2.1
        refine callU3 rfl (hwx (nx.trans x3)) rfl rfl rfl ?_
        refine th.odd ((od35.ext nx).ext x3).odd ⟨true, L.eC, fun _ ad nad => ?_, fun z => (nomatch z)⟩
        obtain ⟨B5, x5⟩ := (Bx.lam (ad := ad) (o := CauO (.ref CC) none ad) hPT bp T3').2.2 (Ex.refl _ _) nad
        refine ⟨ad, .ref CC, .ref CC, true, rfl, upd_same, fun u h => h, L.iC, _, rfl, iteF ?_⟩
        -- work(circuit, bad, wrong)
        have n5 : ExtN H34 _ := fun b o e n => x5 _ _ (nx _ _ e n) n
        refine ⟨B5.tl, fun H6 bp6 T6 => ?_⟩
        have T6' : LamX.TabS H6 Pl lawQ := T6
        have t6 := (B5.lam (H4 := H6) (ad := 0) (o := .tup []) hPT bp6 T6').1
        have x6 := (B5.lam (H4 := H6) (ad := 0) (o := .tup []) hPT bp6 T6').2.1
        refine callU3 rfl (hwx (fun b o e n => x6 _ _ (n5 _ _ e n) n)) rfl rfl rfl ?_
        refine th.bad1 ((hC35.ext n5).ext x6) okC fan4 t6 ((wb35.ext n5).ext x6).items ((ww35.ext n5).ext x6).items fun H7 x7 => ⟨true, L.eG, fun _ ad2 nad2 => ?_, fun z => (nomatch z)⟩
        obtain ⟨B8, x8⟩ := (B5.lam (ad := ad2) (o := CauO (.ref CG) none ad2) hPT bp6 T6').2.2 x7 nad2
        refine ⟨ad2, .ref CG, .ref CG, true, rfl, upd_same, fun u h => h, L.iG, _, rfl, iteF ?_⟩
        -- work(circuit, given, wrong)
        have n8 : ExtN H34 _ := fun b o e n => x8 _ _ (n5 _ _ e n) n
        refine ⟨B8.tl, fun H9 bp9 T9 => ?_⟩
        have T9' : LamX.TabS H9 Pl lawQ := T9
        have t9 := (B8.lam (H4 := H9) (ad := 0) (o := .tup []) hPT bp9 T9').1
        have x9 := (B8.lam (H4 := H9) (ad := 0) (o := .tup []) hPT bp9 T9').2.1
        refine callU3 rfl (hwx (fun b o e n => x9 _ _ (n8 _ _ e n) n)) rfl rfl rfl ?_
        refine th.bad2 ((hC35.ext n8).ext x9) okC fan4 t9 (x9 _ _ (n8 _ _ eg35 (fun _ z => by cases z)) (fun _ z => by cases z)) lgv ((ww35.ext n8).ext x9).items fun H10 x10 => ⟨true, L.eH, fun _ ad3 nad3 => ?_, fun z => (nomatch z)⟩
        obtain ⟨B11, x11⟩ := (B8.lam (ad := ad3) (o := CauO (.ref CH) none ad3) hPT bp9 T9').2.2 x10 nad3
        refine ⟨ad3, .ref CH, .ref CH, true, rfl, upd_same, fun u h => h, L.iH, _, rfl, iteF ?_⟩
        exact ⟨_, rfl, B11, fun b o e n => x11 _ _ (n8 _ _ e n) n⟩
      · obtain ⟨y21', rfl, Bx, _⟩ := hh
        exact ⟨_, _, _, _, _, _, _, _, _, _, _, _, _, _, _, _, _, _, _, _, rfl, Bx.s.up (by omega), Bx.tt, Bx.tl⟩
end
end K02

set_option Elab.async false
set_option linter.all false
set_option maxRecDepth 100000
set_option maxHeartbeats 4000000
/-! All facts put together. -/
namespace K02
open PySem PySem.Spec L2
open PyProof.Rows GenW GxR EZ TK CE
theorem excC_of {K : PySem.W.Frag} {D : Addr} (a : PySem.W.findIn K (.ref D) "__getattribute__" = some (some (.builtin "BaseException.__getattribute__"))) (b : PySem.W.findIn K (.ref D) "__getattr__" = some none) (c : PySem.W.subIn K (.ref D) (.type "BaseException") = some true) (d : PySem.W.hasDictIn K D = true)
    (e : PySem.W.findIn K (.ref D) "__class__" = some (some (.builtin "object.__class__"))) (f : PySem.W.specialIn K (.builtin "object.__class__") "__get__" = some (some (.builtin "getset_descriptor.__get__"))) (g : PySem.W.takesIn K (.builtin "object.__class__") = some true) (h : PySem.W.mroIn K D (.type "object") = some true) : ExcC K D := ⟨a, b, c, d, e, f, g, h⟩
theorem kb_sure_order {K : PySem.W.Frag} {f : Addr} {fd : FuncData} (F : Fun K "sure_order" "sure_order" sSureOrder f fd) : KBinds K fd ["circuit", "given", "held"] ["held", "given", "circuit"] kwC kwC := by
  obtain ⟨oc, od, kV, doc, pm, an, cdv, ct, osl, rfl, lk, hcd⟩ := F.ex
  refine ⟨fun s us ws _ hl => ?_, fun {vs us zs ws} r rz => ?_⟩
  · match us, ws, hl with
    | [], [a0, a1, a2], _ => exact .of_eq rfl
  · rcases r with _ | ⟨_, _⟩
    · rcases rz with _ | ⟨r0, _ | ⟨r1, _ | ⟨r2, _ | ⟨r3, r4⟩⟩⟩⟩
      · exact .nil
      · exact .nil
      · exact .nil
      · exact .cons r2 (.cons r1 (.cons r0 .nil))
      · exact .nil
    · exact .nil
theorem kb_closed_lot {K : PySem.W.Frag} {f : Addr} {fd : FuncData} (F : Fun K "closed_lot" "closed_lot" sClosedLot f fd) : KBinds K fd ["circuit", "given", "held"] ["held", "given", "circuit"] kwC kwC := by
  obtain ⟨oc, od, kV, doc, pm, an, cdv, ct, osl, rfl, lk, hcd⟩ := F.ex
  refine ⟨fun s us ws _ hl => ?_, fun {vs us zs ws} r rz => ?_⟩
  · match us, ws, hl with
    | [], [a0, a1, a2], _ => exact .of_eq rfl
  · rcases r with _ | ⟨_, _⟩
    · rcases rz with _ | ⟨r0, _ | ⟨r1, _ | ⟨r2, _ | ⟨r3, r4⟩⟩⟩⟩
      · exact .nil
      · exact .nil
      · exact .nil
      · exact .cons r2 (.cons r1 (.cons r0 .nil))
      · exact .nil
    · exact .nil
theorem kb_is_order {K : PySem.W.Frag} {f : Addr} {fd : FuncData} (F : Fun K "is_order" "is_order" sIsOrder f fd) : KBinds K fd ["circuit", "given", "held", "thing"] ["thing", "held", "given", "circuit"] kwD kwD := by
  obtain ⟨oc, od, kV, doc, pm, an, cdv, ct, osl, rfl, lk, hcd⟩ := F.ex
  refine ⟨fun s us ws _ hl => ?_, fun {vs us zs ws} r rz => ?_⟩
  · match us, ws, hl with
    | [], [a0, a1, a2, a3], _ => exact .of_eq rfl
  · rcases r with _ | ⟨_, _⟩
    · rcases rz with _ | ⟨r0, _ | ⟨r1, _ | ⟨r2, _ | ⟨r3, _ | ⟨r4, r5⟩⟩⟩⟩⟩
      · exact .nil
      · exact .nil
      · exact .nil
      · exact .nil
      · exact .cons r3 (.cons r2 (.cons r1 (.cons r0 .nil)))
      · exact .nil
    · exact .nil
theorem kb_is_closed_lot {K : PySem.W.Frag} {f : Addr} {fd : FuncData} (F : Fun K "is_closed_lot" "is_closed_lot" sIsClosedLot f fd) : KBinds K fd ["circuit", "given", "held", "order", "lot"] ["lot", "order", "held", "given", "circuit"] kwE kwE := by
  obtain ⟨oc, od, kV, doc, pm, an, cdv, ct, osl, rfl, lk, hcd⟩ := F.ex
  refine ⟨fun s us ws _ hl => ?_, fun {vs us zs ws} r rz => ?_⟩
  · match us, ws, hl with
    | [], [a0, a1, a2, a3, a4], _ => exact .of_eq rfl
  · rcases r with _ | ⟨_, _⟩
    · rcases rz with _ | ⟨r0, _ | ⟨r1, _ | ⟨r2, _ | ⟨r3, _ | ⟨r4, _ | ⟨r5, r6⟩⟩⟩⟩⟩⟩
      · exact .nil
      · exact .nil
      · exact .nil
      · exact .nil
      · exact .nil
      · exact .cons r4 (.cons r3 (.cons r2 (.cons r1 (.cons r0 .nil))))
      · exact .nil
    · exact .nil
theorem all_mk {l : PySem.W.OpenLaw} {w : World} {K : PySem.W.Frag} {h : Heap} {mg : Str → Option Value} {fa : Addr} {names : List Str} (X : K.In h) (G : h.Ns mainGlobals mg) (hfa : mg "law" = some (.ref fa)) (own : ∀ y ∈ names, ∀ f, mg y = some (.ref f) → LamX.OwnTab K f h)
    (m5 : ("is_bits" : Str) ∈ names) (m6 : ("is_readings" : Str) ∈ names) (m10 : ("is_gate" : Str) ∈ names) (m11 : ("is_circuit" : Str) ∈ names) (m25 : ("is_numbers" : Str) ∈ names) (m26 : ("is_closed_lot" : Str) ∈ names) (m52 : ("law" : Str) ∈ names)
    {f0 f1 f2 f3 f4 f5 f6 f7 f8 f9 f10 f11 f12 f13 f14 f15 f16 f17 f18 f19 f20 f21 f22 f23 f24 f25 f26 f27 f28 f29 f30 f31 f32 f33 f34 f35 f36 f37 f38 f39 f40 f41 f42 f43 f44 f45 f46 f47 f48 f49 f50 f51 f52 c5 c6 c10 c11 c25 c26 c52 c12 c13 P5 P6 P10 P11 P25 P26 P52 CS CC CG CH : Addr} {oc0 kV0 dc0 pm0 ct0 cd0 oc1 kV1 dc1 pm1 ct1 cd1 oc2 kV2 dc2 pm2 ct2 cd2 oc3 kV3 dc3 pm3 ct3 cd3 oc4 kV4 dc4 pm4 ct4 cd4 oc5 kV5 dc5 pm5 ct5 oc6 kV6 dc6 pm6 ct6 oc7 kV7 dc7 pm7 ct7 cd7 oc8 kV8 dc8 pm8 ct8 cd8 oc9 kV9 dc9 pm9 ct9 cd9 oc10 kV10 dc10 pm10 ct10 oc11 kV11 dc11 pm11 ct11 oc12 kV12 dc12 pm12 ct12 oc13 kV13 dc13 pm13 ct13 oc14 kV14 dc14 pm14 ct14 cd14 oc15 kV15 dc15 pm15 ct15 cd15 oc16 kV16 dc16 pm16 ct16 cd16 oc17 kV17 dc17 pm17 ct17 cd17 oc18 kV18 dc18 pm18 ct18 cd18 oc19 kV19 dc19 pm19 ct19 cd19 oc20 kV20 dc20 pm20 ct20 cd20 oc21 kV21 dc21 pm21 ct21 cd21 oc22 kV22 dc22 pm22 ct22 cd22 oc23 kV23 dc23 pm23 ct23 cd23 oc24 kV24 dc24 pm24 ct24 cd24 oc25 kV25 dc25 pm25 ct25 oc26 kV26 dc26 pm26 ct26 oc27 kV27 dc27 pm27 ct27 cd27 oc28 kV28 dc28 pm28 ct28 cd28 oc29 kV29 dc29 pm29 ct29 cd29 oc30 kV30 dc30 pm30 ct30 cd30 oc31 kV31 dc31 pm31 ct31 cd31 oc32 kV32 dc32 pm32 ct32 cd32 oc33 kV33 dc33 pm33 ct33 cd33 oc34 kV34 dc34 pm34 ct34 cd34 oc35 kV35 dc35 pm35 ct35 cd35 oc36 kV36 dc36 pm36 ct36 cd36 oc37 kV37 dc37 pm37 ct37 cd37 oc38 kV38 dc38 pm38 ct38 cd38 oc39 kV39 dc39 pm39 ct39 cd39 oc40 kV40 dc40 pm40 ct40 cd40 oc41 kV41 dc41 pm41 ct41 cd41 oc42 kV42 dc42 pm42 ct42 cd42 oc43 kV43 dc43 pm43 ct43 cd43 oc44 kV44 dc44 pm44 ct44 cd44 oc45 kV45 dc45 pm45 ct45 cd45 oc46 kV46 dc46 pm46 ct46 cd46 oc47 kV47 dc47 pm47 ct47 cd47 oc48 kV48 dc48 pm48 ct48 cd48 oc49 kV49 dc49 pm49 ct49 cd49 oc50 kV50 dc50 pm50 ct50 cd50 oc51 kV51 dc51 pm51 ct51 cd51 oc52 kV52 dc52 pm52 ct52 ce5 ce6 ce10 ce11 ce25 ce26 ce52 : Value} {od0 an0 od1 an1 od2 an2 od3 an3 od4 an4 od5 an5 od6 an6 od7 an7 od8 an8 od9 an9 od10 an10 od11 an11 od12 an12 od13 an13 od14 an14 od15 an15 od16 an16 od17 an17 od18 an18 od19 an19 od20 an20 od21 an21 od22 an22 od23 an23 od24 an24 od25 an25 od26 an26 od27 an27 od28 an28 od29 an29 od30 an30 od31 an31 od32 an32 od33 an33 od34 an34 od35 an35 od36 an36 od37 an37 od38 an38 od39 an39 od40 an40 od41 an41 od42 an42 od43 an43 od44 an44 od45 an45 od46 an46 od47 an47 od48 an48 od49 an49 od50 an50 od51 an51 od52 an52 cdd5 cdd6 cdd10 cdd11 cdd25 cdd26 cdd52 : Option Addr} {sl0 sl1 sl2 sl3 sl4 sl5 sl6 sl7 sl8 sl9 sl10 sl11 sl12 sl13 sl14 sl15 sl16 sl17 sl18 sl19 sl20 sl21 sl22 sl23 sl24 sl25 sl26 sl27 sl28 sl29 sl30 sl31 sl32 sl33 sl34 sl35 sl36 sl37 sl38 sl39 sl40 sl41 sl42 sl43 sl44 sl45 sl46 sl47 sl48 sl49 sl50 sl51 sl52 csl5 csl6 csl10 csl11 csl25 csl26 csl52 : Array (Option Value)} {vs5 vs6 vs10 vs11 vs25 vs26 vs52 : Array Value} {tk0 tk1 tk2 tk3 tk4 : Tok}
    (a0 : PySem.W.nsIn K mainGlobals "is_number" = some (some (.ref f0))) (l0 : K.lookup f0 = some ⟨oc0, od0, .func (PySem.W.fnOf "is_number" "is_number" (defArgs sIsNumber) (defBody sIsNumber) (defScope sIsNumber) .none kV0 dc0 pm0 an0 cd0 ct0), sl0⟩) (c0' : PySem.W.codeIn K cd0 "is_number" = true) (k0 : PySem.W.keepIn K (.ref f0) = true)
    (a1 : PySem.W.nsIn K mainGlobals "is_below" = some (some (.ref f1))) (l1 : K.lookup f1 = some ⟨oc1, od1, .func (PySem.W.fnOf "is_below" "is_below" (defArgs sIsBelow) (defBody sIsBelow) (defScope sIsBelow) .none kV1 dc1 pm1 an1 cd1 ct1), sl1⟩) (c1' : PySem.W.codeIn K cd1 "is_below" = true) (k1 : PySem.W.keepIn K (.ref f1) = true)
    (a2 : PySem.W.nsIn K mainGlobals "is_bit" = some (some (.ref f2))) (l2 : K.lookup f2 = some ⟨oc2, od2, .func (PySem.W.fnOf "is_bit" "is_bit" (defArgs sIsBit) (defBody sIsBit) (defScope sIsBit) .none kV2 dc2 pm2 an2 cd2 ct2), sl2⟩) (c2' : PySem.W.codeIn K cd2 "is_bit" = true) (k2 : PySem.W.keepIn K (.ref f2) = true)
    (a3 : PySem.W.nsIn K mainGlobals "is_reading" = some (some (.ref f3))) (l3 : K.lookup f3 = some ⟨oc3, od3, .func (PySem.W.fnOf "is_reading" "is_reading" (defArgs sIsReading) (defBody sIsReading) (defScope sIsReading) .none kV3 dc3 pm3 an3 cd3 ct3), sl3⟩) (c3' : PySem.W.codeIn K cd3 "is_reading" = true) (k3 : PySem.W.keepIn K (.ref f3) = true)
    (a4 : PySem.W.nsIn K mainGlobals "is_tuple_of" = some (some (.ref f4))) (l4 : K.lookup f4 = some ⟨oc4, od4, .func (PySem.W.fnOf "is_tuple_of" "is_tuple_of" (defArgs sIsTupleOf) (defBody sIsTupleOf) (defScope sIsTupleOf) .none kV4 dc4 pm4 an4 cd4 ct4), sl4⟩) (c4' : PySem.W.codeIn K cd4 "is_tuple_of" = true) (k4 : PySem.W.keepIn K (.ref f4) = true)
    (a5 : PySem.W.nsIn K mainGlobals "is_bits" = some (some (.ref f5))) (l5 : K.lookup f5 = some ⟨oc5, od5, .func (PySem.W.fnOf "is_bits" "is_bits" (defArgs sIsBits) (defBody sIsBits) (defScope sIsBits) .none kV5 dc5 pm5 an5 (.ref c5) ct5), sl5⟩) (c5' : PySem.W.codeIn K (.ref c5) "is_bits" = true) (k5 : PySem.W.keepIn K (.ref f5) = true)
    (x5 : K.lookup c5 = some ⟨ce5, cdd5, .fields vs5, csl5⟩) (p5 : vs5[11]? = some (.ref P5)) (n5 : K.lookup P5 = none) (o5 : PySem.W.codeHdIn K c5 P5 = true)
    (a6 : PySem.W.nsIn K mainGlobals "is_readings" = some (some (.ref f6))) (l6 : K.lookup f6 = some ⟨oc6, od6, .func (PySem.W.fnOf "is_readings" "is_readings" (defArgs sIsReadings) (defBody sIsReadings) (defScope sIsReadings) .none kV6 dc6 pm6 an6 (.ref c6) ct6), sl6⟩) (c6' : PySem.W.codeIn K (.ref c6) "is_readings" = true) (k6 : PySem.W.keepIn K (.ref f6) = true)
    (x6 : K.lookup c6 = some ⟨ce6, cdd6, .fields vs6, csl6⟩) (p6 : vs6[11]? = some (.ref P6)) (n6 : K.lookup P6 = none) (o6 : PySem.W.codeHdIn K c6 P6 = true)
    (a7 : PySem.W.nsIn K mainGlobals "is_tuple_up_to" = some (some (.ref f7))) (l7 : K.lookup f7 = some ⟨oc7, od7, .func (PySem.W.fnOf "is_tuple_up_to" "is_tuple_up_to" (defArgs sUpTo) (defBody sUpTo) (defScope sUpTo) .none kV7 dc7 pm7 an7 cd7 ct7), sl7⟩) (c7' : PySem.W.codeIn K cd7 "is_tuple_up_to" = true) (k7 : PySem.W.keepIn K (.ref f7) = true)
    (a8 : PySem.W.nsIn K mainGlobals "is_source" = some (some (.ref f8))) (l8 : K.lookup f8 = some ⟨oc8, od8, .func (PySem.W.fnOf "is_source" "is_source" (defArgs sIsSource) (defBody sIsSource) (defScope sIsSource) .none kV8 dc8 pm8 an8 cd8 ct8), sl8⟩) (c8' : PySem.W.codeIn K cd8 "is_source" = true) (k8 : PySem.W.keepIn K (.ref f8) = true)
    (a9 : PySem.W.nsIn K mainGlobals "is_register" = some (some (.ref f9))) (l9 : K.lookup f9 = some ⟨oc9, od9, .func (PySem.W.fnOf "is_register" "is_register" (defArgs sIsRegister) (defBody sIsRegister) (defScope sIsRegister) .none kV9 dc9 pm9 an9 cd9 ct9), sl9⟩) (c9' : PySem.W.codeIn K cd9 "is_register" = true) (k9 : PySem.W.keepIn K (.ref f9) = true)
    (a10 : PySem.W.nsIn K mainGlobals "is_gate" = some (some (.ref f10))) (l10 : K.lookup f10 = some ⟨oc10, od10, .func (PySem.W.fnOf "is_gate" "is_gate" (defArgs sIsGate) (defBody sIsGate) (defScope sIsGate) .none kV10 dc10 pm10 an10 (.ref c10) ct10), sl10⟩) (c10' : PySem.W.codeIn K (.ref c10) "is_gate" = true) (k10 : PySem.W.keepIn K (.ref f10) = true)
    (x10 : K.lookup c10 = some ⟨ce10, cdd10, .fields vs10, csl10⟩) (p10 : vs10[11]? = some (.ref P10)) (n10 : K.lookup P10 = none) (o10 : PySem.W.codeHdIn K c10 P10 = true)
    (a11 : PySem.W.nsIn K mainGlobals "is_circuit" = some (some (.ref f11))) (l11 : K.lookup f11 = some ⟨oc11, od11, .func (PySem.W.fnOf "is_circuit" "is_circuit" (defArgs sIsCircuit) (defBody sIsCircuit) (defScope sIsCircuit) .none kV11 dc11 pm11 an11 (.ref c11) ct11), sl11⟩) (c11' : PySem.W.codeIn K (.ref c11) "is_circuit" = true) (k11 : PySem.W.keepIn K (.ref f11) = true)
    (x11 : K.lookup c11 = some ⟨ce11, cdd11, .fields vs11, csl11⟩) (p11 : vs11[11]? = some (.ref P11)) (n11 : K.lookup P11 = none) (o11 : PySem.W.codeHdIn K c11 P11 = true)
    (a12 : PySem.W.nsIn K mainGlobals "check_circuit" = some (some (.ref f12))) (l12 : K.lookup f12 = some ⟨oc12, od12, .func (PySem.W.fnOf "check_circuit" "check_circuit" (defArgs sCheckCircuit) (defBody sCheckCircuit) (defScope sCheckCircuit) .none kV12 dc12 pm12 an12 (.ref c12) ct12), sl12⟩) (c12' : PySem.W.codeIn K (.ref c12) "check_circuit" = true) (k12 : PySem.W.keepIn K (.ref f12) = true)
    (a13 : PySem.W.nsIn K mainGlobals "check_case" = some (some (.ref f13))) (l13 : K.lookup f13 = some ⟨oc13, od13, .func (PySem.W.fnOf "check_case" "check_case" (defArgs sCheckCase) (defBody sCheckCase) (defScope sCheckCase) .none kV13 dc13 pm13 an13 (.ref c13) ct13), sl13⟩) (c13' : PySem.W.codeIn K (.ref c13) "check_case" = true) (k13 : PySem.W.keepIn K (.ref f13) = true)
    (a14 : PySem.W.nsIn K mainGlobals "source_reading" = some (some (.ref f14))) (l14 : K.lookup f14 = some ⟨oc14, od14, .func (PySem.W.fnOf "source_reading" "source_reading" (defArgs sSrcR) (defBody sSrcR) (defScope sSrcR) .none kV14 dc14 pm14 an14 cd14 ct14), sl14⟩) (c14' : PySem.W.codeIn K cd14 "source_reading" = true) (k14 : PySem.W.keepIn K (.ref f14) = true)
    (a15 : PySem.W.nsIn K mainGlobals "table_reading" = some (some (.ref f15))) (l15 : K.lookup f15 = some ⟨oc15, od15, .func (PySem.W.fnOf "table_reading" "table_reading" (defArgs sTable) (defBody sTable) (defScope sTable) .none kV15 dc15 pm15 an15 cd15 ct15), sl15⟩) (c15' : PySem.W.codeIn K cd15 "table_reading" = true) (k15 : PySem.W.keepIn K (.ref f15) = true)
    (a16 : PySem.W.nsIn K mainGlobals "gate_now" = some (some (.ref f16))) (l16 : K.lookup f16 = some ⟨oc16, od16, .func (PySem.W.fnOf "gate_now" "gate_now" (defArgs sGateNow) (defBody sGateNow) (defScope sGateNow) .none kV16 dc16 pm16 an16 cd16 ct16), sl16⟩) (c16' : PySem.W.codeIn K cd16 "gate_now" = true) (k16 : PySem.W.keepIn K (.ref f16) = true)
    (a17 : PySem.W.nsIn K mainGlobals "gate_readers" = some (some (.ref f17))) (l17 : K.lookup f17 = some ⟨oc17, od17, .func (PySem.W.fnOf "gate_readers" "gate_readers" (defArgs sGateReaders) (defBody sGateReaders) (defScope sGateReaders) .none kV17 dc17 pm17 an17 cd17 ct17), sl17⟩) (c17' : PySem.W.codeIn K cd17 "gate_readers" = true) (k17 : PySem.W.keepIn K (.ref f17) = true)
    (a18 : PySem.W.nsIn K mainGlobals "sure_laps" = some (some (.ref f18))) (l18 : K.lookup f18 = some ⟨oc18, od18, .func (PySem.W.fnOf "sure_laps" "sure_laps" (defArgs sSureLaps) (defBody sSureLaps) (defScope sSureLaps) .none kV18 dc18 pm18 an18 cd18 ct18), sl18⟩) (c18' : PySem.W.codeIn K cd18 "sure_laps" = true) (k18 : PySem.W.keepIn K (.ref f18) = true)
    (a19 : PySem.W.nsIn K mainGlobals "sure_list" = some (some (.ref f19))) (l19 : K.lookup f19 = some ⟨oc19, od19, .func (PySem.W.fnOf "sure_list" "sure_list" (defArgs sSureList) (defBody sSureList) (defScope sSureList) .none kV19 dc19 pm19 an19 cd19 ct19), sl19⟩) (c19' : PySem.W.codeIn K cd19 "sure_list" = true) (k19 : PySem.W.keepIn K (.ref f19) = true)
    (a20 : PySem.W.nsIn K mainGlobals "unsure_among" = some (some (.ref f20))) (l20 : K.lookup f20 = some ⟨oc20, od20, .func (PySem.W.fnOf "unsure_among" "unsure_among" (defArgs sUnsureA) (defBody sUnsureA) (defScope sUnsureA) .none kV20 dc20 pm20 an20 cd20 ct20), sl20⟩) (c20' : PySem.W.codeIn K cd20 "unsure_among" = true) (k20 : PySem.W.keepIn K (.ref f20) = true)
    (a21 : PySem.W.nsIn K mainGlobals "sure_order" = some (some (.ref f21))) (l21 : K.lookup f21 = some ⟨oc21, od21, .func (PySem.W.fnOf "sure_order" "sure_order" (defArgs sSureOrder) (defBody sSureOrder) (defScope sSureOrder) .none kV21 dc21 pm21 an21 cd21 ct21), sl21⟩) (c21' : PySem.W.codeIn K cd21 "sure_order" = true) (k21 : PySem.W.keepIn K (.ref f21) = true)
    (a22 : PySem.W.nsIn K mainGlobals "closed_lot" = some (some (.ref f22))) (l22 : K.lookup f22 = some ⟨oc22, od22, .func (PySem.W.fnOf "closed_lot" "closed_lot" (defArgs sClosedLot) (defBody sClosedLot) (defScope sClosedLot) .none kV22 dc22 pm22 an22 cd22 ct22), sl22⟩) (c22' : PySem.W.codeIn K cd22 "closed_lot" = true) (k22 : PySem.W.keepIn K (.ref f22) = true)
    (a23 : PySem.W.nsIn K mainGlobals "told_by" = some (some (.ref f23))) (l23 : K.lookup f23 = some ⟨oc23, od23, .func (PySem.W.fnOf "told_by" "told_by" (defArgs sToldBy) (defBody sToldBy) (defScope sToldBy) .none kV23 dc23 pm23 an23 cd23 ct23), sl23⟩) (c23' : PySem.W.codeIn K cd23 "told_by" = true) (k23 : PySem.W.keepIn K (.ref f23) = true)
    (a24 : PySem.W.nsIn K mainGlobals "is_order" = some (some (.ref f24))) (l24 : K.lookup f24 = some ⟨oc24, od24, .func (PySem.W.fnOf "is_order" "is_order" (defArgs sIsOrder) (defBody sIsOrder) (defScope sIsOrder) .none kV24 dc24 pm24 an24 cd24 ct24), sl24⟩) (c24' : PySem.W.codeIn K cd24 "is_order" = true) (k24 : PySem.W.keepIn K (.ref f24) = true)
    (a25 : PySem.W.nsIn K mainGlobals "is_numbers" = some (some (.ref f25))) (l25 : K.lookup f25 = some ⟨oc25, od25, .func (PySem.W.fnOf "is_numbers" "is_numbers" (defArgs sIsNumbers) (defBody sIsNumbers) (defScope sIsNumbers) .none kV25 dc25 pm25 an25 (.ref c25) ct25), sl25⟩) (c25' : PySem.W.codeIn K (.ref c25) "is_numbers" = true) (k25 : PySem.W.keepIn K (.ref f25) = true)
    (x25 : K.lookup c25 = some ⟨ce25, cdd25, .fields vs25, csl25⟩) (p25 : vs25[11]? = some (.ref P25)) (n25 : K.lookup P25 = none) (o25 : PySem.W.codeHdIn K c25 P25 = true)
    (a26 : PySem.W.nsIn K mainGlobals "is_closed_lot" = some (some (.ref f26))) (l26 : K.lookup f26 = some ⟨oc26, od26, .func (PySem.W.fnOf "is_closed_lot" "is_closed_lot" (defArgs sIsClosedLot) (defBody sIsClosedLot) (defScope sIsClosedLot) .none kV26 dc26 pm26 an26 (.ref c26) ct26), sl26⟩) (c26' : PySem.W.codeIn K (.ref c26) "is_closed_lot" = true) (k26 : PySem.W.keepIn K (.ref f26) = true)
    (x26 : K.lookup c26 = some ⟨ce26, cdd26, .fields vs26, csl26⟩) (p26 : vs26[11]? = some (.ref P26)) (n26 : K.lookup P26 = none) (o26 : PySem.W.codeHdIn K c26 P26 = true)
    (a27 : PySem.W.nsIn K mainGlobals "_law_begun" = some (some (.ref f27))) (l27 : K.lookup f27 = some ⟨oc27, od27, .func (PySem.W.fnOf "_law_begun" "_law_begun" (defArgs sBegun) (defBody sBegun) (defScope sBegun) .none kV27 dc27 pm27 an27 cd27 ct27), sl27⟩) (c27' : PySem.W.codeIn K cd27 "_law_begun" = true) (k27 : PySem.W.keepIn K (.ref f27) = true)
    (a28 : PySem.W.nsIn K mainGlobals "_law_draw" = some (some (.ref f28))) (l28 : K.lookup f28 = some ⟨oc28, od28, .func (PySem.W.fnOf "_law_draw" "_law_draw" (defArgs sDraw) (defBody sDraw) (defScope sDraw) .none kV28 dc28 pm28 an28 cd28 ct28), sl28⟩) (c28' : PySem.W.codeIn K cd28 "_law_draw" = true) (k28 : PySem.W.keepIn K (.ref f28) = true)
    (a29 : PySem.W.nsIn K mainGlobals "_law_pick" = some (some (.ref f29))) (l29 : K.lookup f29 = some ⟨oc29, od29, .func (PySem.W.fnOf "_law_pick" "_law_pick" (defArgs sPick) (defBody sPick) (defScope sPick) .none kV29 dc29 pm29 an29 cd29 ct29), sl29⟩) (c29' : PySem.W.codeIn K cd29 "_law_pick" = true) (k29 : PySem.W.keepIn K (.ref f29) = true)
    (a30 : PySem.W.nsIn K mainGlobals "_law_mixed" = some (some (.ref f30))) (l30 : K.lookup f30 = some ⟨oc30, od30, .func (PySem.W.fnOf "_law_mixed" "_law_mixed" (defArgs sMixedV) (defBody sMixedV) (defScope sMixedV) .none kV30 dc30 pm30 an30 cd30 ct30), sl30⟩) (c30' : PySem.W.codeIn K cd30 "_law_mixed" = true) (k30 : PySem.W.keepIn K (.ref f30) = true)
    (a31 : PySem.W.nsIn K mainGlobals "_law_caught" = some (some (.ref f31))) (l31 : K.lookup f31 = some ⟨oc31, od31, .func (PySem.W.fnOf "_law_caught" "_law_caught" (defArgs sCaught) (defBody sCaught) (defScope sCaught) .none kV31 dc31 pm31 an31 cd31 ct31), sl31⟩) (c31' : PySem.W.codeIn K cd31 "_law_caught" = true) (k31 : PySem.W.keepIn K (.ref f31) = true)
    (a32 : PySem.W.nsIn K mainGlobals "_law_is_whole" = some (some (.ref f32))) (l32 : K.lookup f32 = some ⟨oc32, od32, .func (PySem.W.fnOf "_law_is_whole" "_law_is_whole" (defArgs sLIsWhole) (defBody sLIsWhole) (defScope sLIsWhole) .none kV32 dc32 pm32 an32 cd32 ct32), sl32⟩) (c32' : PySem.W.codeIn K cd32 "_law_is_whole" = true) (k32 : PySem.W.keepIn K (.ref f32) = true)
    (a33 : PySem.W.nsIn K mainGlobals "_law_odd" = some (some (.ref f33))) (l33 : K.lookup f33 = some ⟨oc33, od33, .func (PySem.W.fnOf "_law_odd" "_law_odd" (defArgs sOdd) (defBody sOdd) (defScope sOdd) .none kV33 dc33 pm33 an33 cd33 ct33), sl33⟩) (c33' : PySem.W.codeIn K cd33 "_law_odd" = true) (k33 : PySem.W.keepIn K (.ref f33) = true)
    (a34 : PySem.W.nsIn K mainGlobals "_law_power" = some (some (.ref f34))) (l34 : K.lookup f34 = some ⟨oc34, od34, .func (PySem.W.fnOf "_law_power" "_law_power" (defArgs sPower) (defBody sPower) (defScope sPower) .none kV34 dc34 pm34 an34 cd34 ct34), sl34⟩) (c34' : PySem.W.codeIn K cd34 "_law_power" = true) (k34 : PySem.W.keepIn K (.ref f34) = true)
    (a35 : PySem.W.nsIn K mainGlobals "_law_is_bit" = some (some (.ref f35))) (l35 : K.lookup f35 = some ⟨oc35, od35, .func (PySem.W.fnOf "_law_is_bit" "_law_is_bit" (defArgs sLIsBit) (defBody sLIsBit) (defScope sLIsBit) .none kV35 dc35 pm35 an35 cd35 ct35), sl35⟩) (c35' : PySem.W.codeIn K cd35 "_law_is_bit" = true) (k35 : PySem.W.keepIn K (.ref f35) = true)
    (a36 : PySem.W.nsIn K mainGlobals "_law_bits_of" = some (some (.ref f36))) (l36 : K.lookup f36 = some ⟨oc36, od36, .func (PySem.W.fnOf "_law_bits_of" "_law_bits_of" (defArgs sBitsOf) (defBody sBitsOf) (defScope sBitsOf) .none kV36 dc36 pm36 an36 cd36 ct36), sl36⟩) (c36' : PySem.W.codeIn K cd36 "_law_bits_of" = true) (k36 : PySem.W.keepIn K (.ref f36) = true)
    (a37 : PySem.W.nsIn K mainGlobals "_law_all_bits" = some (some (.ref f37))) (l37 : K.lookup f37 = some ⟨oc37, od37, .func (PySem.W.fnOf "_law_all_bits" "_law_all_bits" (defArgs sAllBits) (defBody sAllBits) (defScope sAllBits) .none kV37 dc37 pm37 an37 cd37 ct37), sl37⟩) (c37' : PySem.W.codeIn K cd37 "_law_all_bits" = true) (k37 : PySem.W.keepIn K (.ref f37) = true)
    (a38 : PySem.W.nsIn K mainGlobals "_law_gate_bit" = some (some (.ref f38))) (l38 : K.lookup f38 = some ⟨oc38, od38, .func (PySem.W.fnOf "_law_gate_bit" "_law_gate_bit" (defArgs sGateBit) (defBody sGateBit) (defScope sGateBit) .none kV38 dc38 pm38 an38 cd38 ct38), sl38⟩) (c38' : PySem.W.codeIn K cd38 "_law_gate_bit" = true) (k38 : PySem.W.keepIn K (.ref f38) = true)
    (a39 : PySem.W.nsIn K mainGlobals "_law_gate_reading" = some (some (.ref f39))) (l39 : K.lookup f39 = some ⟨oc39, od39, .func (PySem.W.fnOf "_law_gate_reading" "_law_gate_reading" (defArgs sLawReading) (defBody sLawReading) (defScope sLawReading) .none kV39 dc39 pm39 an39 cd39 ct39), sl39⟩) (c39' : PySem.W.codeIn K cd39 "_law_gate_reading" = true) (k39 : PySem.W.keepIn K (.ref f39) = true)
    (a40 : PySem.W.nsIn K mainGlobals "_law_source" = some (some (.ref f40))) (l40 : K.lookup f40 = some ⟨oc40, od40, .func (PySem.W.fnOf "_law_source" "_law_source" (defArgs sLSource) (defBody sLSource) (defScope sLSource) .none kV40 dc40 pm40 an40 cd40 ct40), sl40⟩) (c40' : PySem.W.codeIn K cd40 "_law_source" = true) (k40 : PySem.W.keepIn K (.ref f40) = true)
    (a41 : PySem.W.nsIn K mainGlobals "_law_one" = some (some (.ref f41))) (l41 : K.lookup f41 = some ⟨oc41, od41, .func (PySem.W.fnOf "_law_one" "_law_one" (defArgs sLOne) (defBody sLOne) (defScope sLOne) .none kV41 dc41 pm41 an41 cd41 ct41), sl41⟩) (c41' : PySem.W.codeIn K cd41 "_law_one" = true) (k41 : PySem.W.keepIn K (.ref f41) = true)
    (a42 : PySem.W.nsIn K mainGlobals "_law_sure" = some (some (.ref f42))) (l42 : K.lookup f42 = some ⟨oc42, od42, .func (PySem.W.fnOf "_law_sure" "_law_sure" (defArgs sLSure) (defBody sLSure) (defScope sLSure) .none kV42 dc42 pm42 an42 cd42 ct42), sl42⟩) (c42' : PySem.W.codeIn K cd42 "_law_sure" = true) (k42 : PySem.W.keepIn K (.ref f42) = true)
    (a43 : PySem.W.nsIn K mainGlobals "_law_some_source" = some (some (.ref f43))) (l43 : K.lookup f43 = some ⟨oc43, od43, .func (PySem.W.fnOf "_law_some_source" "_law_some_source" (defArgs sSomeSource) (defBody sSomeSource) (defScope sSomeSource) .none kV43 dc43 pm43 an43 cd43 ct43), sl43⟩) (c43' : PySem.W.codeIn K cd43 "_law_some_source" = true) (k43 : PySem.W.keepIn K (.ref f43) = true)
    (a44 : PySem.W.nsIn K mainGlobals "_law_table" = some (some (.ref f44))) (l44 : K.lookup f44 = some ⟨oc44, od44, .func (PySem.W.fnOf "_law_table" "_law_table" (defArgs sLTable) (defBody sLTable) (defScope sLTable) .none kV44 dc44 pm44 an44 cd44 ct44), sl44⟩) (c44' : PySem.W.codeIn K cd44 "_law_table" = true) (k44 : PySem.W.keepIn K (.ref f44) = true)
    (a45 : PySem.W.nsIn K mainGlobals "_law_circuit" = some (some (.ref f45))) (l45 : K.lookup f45 = some ⟨oc45, od45, .func (PySem.W.fnOf "_law_circuit" "_law_circuit" (defArgs sLCircuit) (defBody sLCircuit) (defScope sLCircuit) .none kV45 dc45 pm45 an45 cd45 ct45), sl45⟩) (c45' : PySem.W.codeIn K cd45 "_law_circuit" = true) (k45 : PySem.W.keepIn K (.ref f45) = true)
    (a46 : PySem.W.nsIn K mainGlobals "_law_case_bits" = some (some (.ref f46))) (l46 : K.lookup f46 = some ⟨oc46, od46, .func (PySem.W.fnOf "_law_case_bits" "_law_case_bits" (defArgs sCaseBits) (defBody sCaseBits) (defScope sCaseBits) .none kV46 dc46 pm46 an46 cd46 ct46), sl46⟩) (c46' : PySem.W.codeIn K cd46 "_law_case_bits" = true) (k46 : PySem.W.keepIn K (.ref f46) = true)
    (a47 : PySem.W.nsIn K mainGlobals "_law_case_readings" = some (some (.ref f47))) (l47 : K.lookup f47 = some ⟨oc47, od47, .func (PySem.W.fnOf "_law_case_readings" "_law_case_readings" (defArgs sCaseR) (defBody sCaseR) (defScope sCaseR) .none kV47 dc47 pm47 an47 cd47 ct47), sl47⟩) (c47' : PySem.W.codeIn K cd47 "_law_case_readings" = true) (k47 : PySem.W.keepIn K (.ref f47) = true)
    (a48 : PySem.W.nsIn K mainGlobals "_law_bad_readings" = some (some (.ref f48))) (l48 : K.lookup f48 = some ⟨oc48, od48, .func (PySem.W.fnOf "_law_bad_readings" "_law_bad_readings" (defArgs sBadR) (defBody sBadR) (defScope sBadR) .none kV48 dc48 pm48 an48 cd48 ct48), sl48⟩) (c48' : PySem.W.codeIn K cd48 "_law_bad_readings" = true) (k48 : PySem.W.keepIn K (.ref f48) = true)
    (a49 : PySem.W.nsIn K mainGlobals "_law_is_order" = some (some (.ref f49))) (l49 : K.lookup f49 = some ⟨oc49, od49, .func (PySem.W.fnOf "_law_is_order" "_law_is_order" (defArgs sLIsOrder) (defBody sLIsOrder) (defScope sLIsOrder) .none kV49 dc49 pm49 an49 cd49 ct49), sl49⟩) (c49' : PySem.W.codeIn K cd49 "_law_is_order" = true) (k49 : PySem.W.keepIn K (.ref f49) = true)
    (a50 : PySem.W.nsIn K mainGlobals "_law_is_lot" = some (some (.ref f50))) (l50 : K.lookup f50 = some ⟨oc50, od50, .func (PySem.W.fnOf "_law_is_lot" "_law_is_lot" (defArgs sLIsLot) (defBody sLIsLot) (defScope sLIsLot) .none kV50 dc50 pm50 an50 cd50 ct50), sl50⟩) (c50' : PySem.W.codeIn K cd50 "_law_is_lot" = true) (k50 : PySem.W.keepIn K (.ref f50) = true)
    (a51 : PySem.W.nsIn K mainGlobals "_law_bent_order" = some (some (.ref f51))) (l51 : K.lookup f51 = some ⟨oc51, od51, .func (PySem.W.fnOf "_law_bent_order" "_law_bent_order" (defArgs sBent) (defBody sBent) (defScope sBent) .none kV51 dc51 pm51 an51 cd51 ct51), sl51⟩) (c51' : PySem.W.codeIn K cd51 "_law_bent_order" = true) (k51 : PySem.W.keepIn K (.ref f51) = true)
    (a52 : PySem.W.nsIn K mainGlobals "law" = some (some (.ref f52))) (l52 : K.lookup f52 = some ⟨oc52, od52, .func (PySem.W.fnOf "law" "law" (defArgs sLaw) (defBody sLaw) (defScope sLaw) .none kV52 dc52 pm52 an52 (.ref c52) ct52), sl52⟩) (c52' : PySem.W.codeIn K (.ref c52) "law" = true) (k52 : PySem.W.keepIn K (.ref f52) = true)
    (x52 : K.lookup c52 = some ⟨ce52, cdd52, .fields vs52, csl52⟩) (p52 : vs52[11]? = some (.ref P52)) (n52 : K.lookup P52 = none) (o52 : PySem.W.codeHdIn K c52 P52 = true)
    (pd : P52 ∉ [P5, P6, P10, P11, P25, P26])
    (z_int : PySem.W.nsIn K mainGlobals "int" = some none)
    (z_len : PySem.W.nsIn K mainGlobals "len" = some none)
    (z_abs : PySem.W.nsIn K mainGlobals "abs" = some none)
    (z_all : PySem.W.nsIn K mainGlobals "all" = some none)
    (z_enumerate : PySem.W.nsIn K mainGlobals "enumerate" = some none)
    (z_isinstance : PySem.W.nsIn K mainGlobals "isinstance" = some none)
    (z_list : PySem.W.nsIn K mainGlobals "list" = some none)
    (z_tuple : PySem.W.nsIn K mainGlobals "tuple" = some none)
    (z_bool : PySem.W.nsIn K mainGlobals "bool" = some none)
    (z_range : PySem.W.nsIn K mainGlobals "range" = some none)
    (z_min : PySem.W.nsIn K mainGlobals "min" = some none)
    (z_max : PySem.W.nsIn K mainGlobals "max" = some none)
    (z_sum : PySem.W.nsIn K mainGlobals "sum" = some none)
    (z_sorted : PySem.W.nsIn K mainGlobals "sorted" = some none)
    (z_zip : PySem.W.nsIn K mainGlobals "zip" = some none)
    (z_repr : PySem.W.nsIn K mainGlobals "repr" = some none)
    (z_set : PySem.W.nsIn K mainGlobals "set" = some none)
    (z_str : PySem.W.nsIn K mainGlobals "str" = some none)
    (v0 : PySem.W.nsIn K mainGlobals "MOST_INPUTS" = some (some (.int 8 tk0)))
    (v1 : PySem.W.nsIn K mainGlobals "MOST_REGISTERS" = some (some (.int 60 tk1)))
    (v2 : PySem.W.nsIn K mainGlobals "MOST_GATES" = some (some (.int 2000 tk2)))
    (v3 : PySem.W.nsIn K mainGlobals "MOST_OUTPUTS" = some (some (.int 60 tk3)))
    (v4 : PySem.W.nsIn K mainGlobals "MOST_SOURCES" = some (some (.int 4 tk4)))
    (aS : PySem.W.nsIn K mainGlobals "RestError" = some (some (.ref CS)))
    (aCC : PySem.W.nsIn K mainGlobals "BadCircuit" = some (some (.ref CC))) (xCC : PySem.W.excIn K CC [.type "ValueError", .type "Exception", .type "BaseException", .type "object"] "ValueError.__new__" = true) (kCC : PySem.W.keepIn K (.ref CC) = true) (bCC : PySem.W.subIn K (.ref CC) (.type "BaseException") = some true) (tCC : PySem.W.typeIn K (.ref CC) = some (.type "type"))
    (eCC : PySem.W.exmOne K (.ref CC) (.ref CS) = some true) (iCC : PySem.W.kitOne K (.ref CC) (.ref CC) = some true) (qCC1 : PySem.W.findIn K (.ref CC) "__getattribute__" = some (some (.builtin "BaseException.__getattribute__"))) (qCC2 : PySem.W.findIn K (.ref CC) "__getattr__" = some none) (qCC3 : PySem.W.hasDictIn K CC = true)
    (qCC4 : PySem.W.findIn K (.ref CC) "__class__" = some (some (.builtin "object.__class__"))) (qCC5 : PySem.W.mroIn K CC (.type "object") = some true)
    (aCG : PySem.W.nsIn K mainGlobals "BadGiven" = some (some (.ref CG))) (xCG : PySem.W.excIn K CG [.type "ValueError", .type "Exception", .type "BaseException", .type "object"] "ValueError.__new__" = true) (kCG : PySem.W.keepIn K (.ref CG) = true) (bCG : PySem.W.subIn K (.ref CG) (.type "BaseException") = some true) (tCG : PySem.W.typeIn K (.ref CG) = some (.type "type"))
    (eCG : PySem.W.exmOne K (.ref CG) (.ref CS) = some true) (iCG : PySem.W.kitOne K (.ref CG) (.ref CG) = some true) (qCG1 : PySem.W.findIn K (.ref CG) "__getattribute__" = some (some (.builtin "BaseException.__getattribute__"))) (qCG2 : PySem.W.findIn K (.ref CG) "__getattr__" = some none) (qCG3 : PySem.W.hasDictIn K CG = true)
    (qCG4 : PySem.W.findIn K (.ref CG) "__class__" = some (some (.builtin "object.__class__"))) (qCG5 : PySem.W.mroIn K CG (.type "object") = some true)
    (aCH : PySem.W.nsIn K mainGlobals "BadHeld" = some (some (.ref CH))) (xCH : PySem.W.excIn K CH [.type "ValueError", .type "Exception", .type "BaseException", .type "object"] "ValueError.__new__" = true) (kCH : PySem.W.keepIn K (.ref CH) = true) (bCH : PySem.W.subIn K (.ref CH) (.type "BaseException") = some true) (tCH : PySem.W.typeIn K (.ref CH) = some (.type "type"))
    (eCH : PySem.W.exmOne K (.ref CH) (.ref CS) = some true) (iCH : PySem.W.kitOne K (.ref CH) (.ref CH) = some true) (qCH1 : PySem.W.findIn K (.ref CH) "__getattribute__" = some (some (.builtin "BaseException.__getattribute__"))) (qCH2 : PySem.W.findIn K (.ref CH) "__getattr__" = some none) (qCH3 : PySem.W.hasDictIn K CH = true)
    (qCH4 : PySem.W.findIn K (.ref CH) "__class__" = some (some (.builtin "object.__class__"))) (qCH5 : PySem.W.mroIn K CH (.type "object") = some true)
    (r1 : PySem.W.specialIn K (.builtin "object.__class__") "__get__" = some (some (.builtin "getset_descriptor.__get__"))) (r2 : PySem.W.takesIn K (.builtin "object.__class__") = some true) :
    GE.LawAtG l w K CX0 15 63 "script" mg fa h := by
  have e := hfa.symm.trans (PySem.W.mg_of X G a52)
  cases e
  have F0 := fun_mk (st := sIsNumber) l0 c0' k0
  have b0 := F0.binds (ps := ["thing"]) fun _ _ _ _ _ _ us hl => match us, hl with | [_], _ => rfl
  have g_0 := PySem.W.mg_of X G a0
  have F1 := fun_mk (st := sIsBelow) l1 c1' k1
  have b1 := F1.binds (ps := ["thing", "limit"]) fun _ _ _ _ _ _ us hl => match us, hl with | [_, _], _ => rfl
  have g_1 := PySem.W.mg_of X G a1
  have F2 := fun_mk (st := sIsBit) l2 c2' k2
  have b2 := F2.binds (ps := ["thing"]) fun _ _ _ _ _ _ us hl => match us, hl with | [_], _ => rfl
  have g_2 := PySem.W.mg_of X G a2
  have F3 := fun_mk (st := sIsReading) l3 c3' k3
  have b3 := F3.binds (ps := ["thing"]) fun _ _ _ _ _ _ us hl => match us, hl with | [_], _ => rfl
  have g_3 := PySem.W.mg_of X G a3
  have F4 := fun_mk (st := sIsTupleOf) l4 c4' k4
  have b4 := F4.binds (ps := ["thing", "many"]) fun _ _ _ _ _ _ us hl => match us, hl with | [_, _], _ => rfl
  have g_4 := PySem.W.mg_of X G a4
  have F5 := fun_mk (st := sIsBits) l5 c5' k5
  have b5 := F5.binds (ps := ["thing", "many"]) fun _ _ _ _ _ _ us hl => match us, hl with | [_, _], _ => rfl
  have g_5 := PySem.W.mg_of X G a5
  have F6 := fun_mk (st := sIsReadings) l6 c6' k6
  have b6 := F6.binds (ps := ["thing", "many"]) fun _ _ _ _ _ _ us hl => match us, hl with | [_, _], _ => rfl
  have g_6 := PySem.W.mg_of X G a6
  have F7 := fun_mk (st := sUpTo) l7 c7' k7
  have b7 := F7.binds (ps := ["thing", "most"]) fun _ _ _ _ _ _ us hl => match us, hl with | [_, _], _ => rfl
  have g_7 := PySem.W.mg_of X G a7
  have F8 := fun_mk (st := sIsSource) l8 c8' k8
  have b8 := F8.binds (ps := ["thing", "sizes"]) fun _ _ _ _ _ _ us hl => match us, hl with | [_, _], _ => rfl
  have g_8 := PySem.W.mg_of X G a8
  have F9 := fun_mk (st := sIsRegister) l9 c9' k9
  have b9 := F9.binds (ps := ["thing", "sizes"]) fun _ _ _ _ _ _ us hl => match us, hl with | [_, _], _ => rfl
  have g_9 := PySem.W.mg_of X G a9
  have F10 := fun_mk (st := sIsGate) l10 c10' k10
  have b10 := F10.binds (ps := ["thing", "sizes"]) fun _ _ _ _ _ _ us hl => match us, hl with | [_, _], _ => rfl
  have g_10 := PySem.W.mg_of X G a10
  have F11 := fun_mk (st := sIsCircuit) l11 c11' k11
  have b11 := F11.binds (ps := ["thing"]) fun _ _ _ _ _ _ us hl => match us, hl with | [_], _ => rfl
  have g_11 := PySem.W.mg_of X G a11
  have F12 := fun_mk (st := sCheckCircuit) l12 c12' k12
  have b12 := F12.binds (ps := ["circuit"]) fun _ _ _ _ _ _ us hl => match us, hl with | [_], _ => rfl
  have g_12 := PySem.W.mg_of X G a12
  have F13 := fun_mk (st := sCheckCase) l13 c13' k13
  have b13 := F13.binds (ps := ["circuit", "given", "held"]) fun _ _ _ _ _ _ us hl => match us, hl with | [_, _, _], _ => rfl
  have g_13 := PySem.W.mg_of X G a13
  have F14 := fun_mk (st := sSrcR) l14 c14' k14
  have b14 := F14.binds (ps := ["source", "given", "held", "gates"]) fun _ _ _ _ _ _ us hl => match us, hl with | [_, _, _, _], _ => rfl
  have g_14 := PySem.W.mg_of X G a14
  have F15 := fun_mk (st := sTable) l15 c15' k15
  have b15 := F15.binds (ps := ["table", "readings"]) fun _ _ _ _ _ _ us hl => match us, hl with | [_, _], _ => rfl
  have g_15 := PySem.W.mg_of X G a15
  have F16 := fun_mk (st := sGateNow) l16 c16' k16
  have b16 := F16.binds (ps := ["circuit", "gate", "given", "held", "gates"]) fun _ _ _ _ _ _ us hl => match us, hl with | [_, _, _, _, _], _ => rfl
  have g_16 := PySem.W.mg_of X G a16
  have F17 := fun_mk (st := sGateReaders) l17 c17' k17
  have b17 := F17.binds (ps := ["circuit"]) fun _ _ _ _ _ _ us hl => match us, hl with | [_], _ => rfl
  have g_17 := PySem.W.mg_of X G a17
  have F18 := fun_mk (st := sSureLaps) l18 c18' k18
  have b18 := F18.binds (ps := ["circuit", "given", "held"]) fun _ _ _ _ _ _ us hl => match us, hl with | [_, _, _], _ => rfl
  have g_18 := PySem.W.mg_of X G a18
  have F19 := fun_mk (st := sSureList) l19 c19' k19
  have b19 := F19.binds (ps := ["circuit", "given", "held"]) fun _ _ _ _ _ _ us hl => match us, hl with | [_, _, _], _ => rfl
  have g_19 := PySem.W.mg_of X G a19
  have F20 := fun_mk (st := sUnsureA) l20 c20' k20
  have b20 := F20.binds (ps := ["found"]) fun _ _ _ _ _ _ us hl => match us, hl with | [_], _ => rfl
  have g_20 := PySem.W.mg_of X G a20
  have F21 := fun_mk (st := sSureOrder) l21 c21' k21
  have b21 := F21.binds (ps := ["circuit", "given", "held"]) fun _ _ _ _ _ _ us hl => match us, hl with | [_, _, _], _ => rfl
  have g_21 := PySem.W.mg_of X G a21
  have F22 := fun_mk (st := sClosedLot) l22 c22' k22
  have b22 := F22.binds (ps := ["circuit", "given", "held"]) fun _ _ _ _ _ _ us hl => match us, hl with | [_, _, _], _ => rfl
  have g_22 := PySem.W.mg_of X G a22
  have F23 := fun_mk (st := sToldBy) l23 c23' k23
  have b23 := F23.binds (ps := ["circuit", "given", "held", "order"]) fun _ _ _ _ _ _ us hl => match us, hl with | [_, _, _, _], _ => rfl
  have g_23 := PySem.W.mg_of X G a23
  have F24 := fun_mk (st := sIsOrder) l24 c24' k24
  have b24 := F24.binds (ps := ["circuit", "given", "held", "thing"]) fun _ _ _ _ _ _ us hl => match us, hl with | [_, _, _, _], _ => rfl
  have g_24 := PySem.W.mg_of X G a24
  have F25 := fun_mk (st := sIsNumbers) l25 c25' k25
  have b25 := F25.binds (ps := ["thing"]) fun _ _ _ _ _ _ us hl => match us, hl with | [_], _ => rfl
  have g_25 := PySem.W.mg_of X G a25
  have F26 := fun_mk (st := sIsClosedLot) l26 c26' k26
  have b26 := F26.binds (ps := ["circuit", "given", "held", "order", "lot"]) fun _ _ _ _ _ _ us hl => match us, hl with | [_, _, _, _, _], _ => rfl
  have g_26 := PySem.W.mg_of X G a26
  have F27 := fun_mk (st := sBegun) l27 c27' k27
  have b27 := F27.binds (ps := ["script"]) fun _ _ _ _ _ _ us hl => match us, hl with | [_], _ => rfl
  have g_27 := PySem.W.mg_of X G a27
  have F28 := fun_mk (st := sDraw) l28 c28' k28
  have b28 := F28.binds (ps := ["state", "size_here"]) fun _ _ _ _ _ _ us hl => match us, hl with | [_, _], _ => rfl
  have g_28 := PySem.W.mg_of X G a28
  have F29 := fun_mk (st := sPick) l29 c29' k29
  have b29 := F29.binds (ps := ["state", "several"]) fun _ _ _ _ _ _ us hl => match us, hl with | [_, _], _ => rfl
  have g_29 := PySem.W.mg_of X G a29
  have F30 := fun_mk (st := sMixedV) l30 c30' k30
  have b30 := F30.binds (ps := ["state", "several"]) fun _ _ _ _ _ _ us hl => match us, hl with | [_, _], _ => rfl
  have g_30 := PySem.W.mg_of X G a30
  have F31 := fun_mk (st := sCaught) l31 c31' k31
  have b31 := F31.binds (ps := ["work"]) fun _ _ _ _ _ _ us hl => match us, hl with | [_], _ => rfl
  have g_31 := PySem.W.mg_of X G a31
  have F32 := fun_mk (st := sLIsWhole) l32 c32' k32
  have b32 := F32.binds (ps := ["item"]) fun _ _ _ _ _ _ us hl => match us, hl with | [_], _ => rfl
  have g_32 := PySem.W.mg_of X G a32
  have F33 := fun_mk (st := sOdd) l33 c33' k33
  have b33 := F33.binds (ps := ["state"]) fun _ _ _ _ _ _ us hl => match us, hl with | [_], _ => rfl
  have g_33 := PySem.W.mg_of X G a33
  have F34 := fun_mk (st := sPower) l34 c34' k34
  have b34 := F34.binds (ps := ["number"]) fun _ _ _ _ _ _ us hl => match us, hl with | [_], _ => rfl
  have g_34 := PySem.W.mg_of X G a34
  have F35 := fun_mk (st := sLIsBit) l35 c35' k35
  have b35 := F35.binds (ps := ["item"]) fun _ _ _ _ _ _ us hl => match us, hl with | [_], _ => rfl
  have g_35 := PySem.W.mg_of X G a35
  have F36 := fun_mk (st := sBitsOf) l36 c36' k36
  have b36 := F36.binds (ps := ["number", "size"]) fun _ _ _ _ _ _ us hl => match us, hl with | [_, _], _ => rfl
  have g_36 := PySem.W.mg_of X G a36
  have F37 := fun_mk (st := sAllBits) l37 c37' k37
  have b37 := F37.binds (ps := ["size"]) fun _ _ _ _ _ _ us hl => match us, hl with | [_], _ => rfl
  have g_37 := PySem.W.mg_of X G a37
  have F38 := fun_mk (st := sGateBit) l38 c38' k38
  have b38 := F38.binds (ps := ["table", "bits"]) fun _ _ _ _ _ _ us hl => match us, hl with | [_, _], _ => rfl
  have g_38 := PySem.W.mg_of X G a38
  have F39 := fun_mk (st := sLawReading) l39 c39' k39
  have b39 := F39.binds (ps := ["table", "readings"]) fun _ _ _ _ _ _ us hl => match us, hl with | [_, _], _ => rfl
  have g_39 := PySem.W.mg_of X G a39
  have F40 := fun_mk (st := sLSource) l40 c40' k40
  have b40 := F40.binds (ps := ["source", "given", "held", "readings"]) fun _ _ _ _ _ _ us hl => match us, hl with | [_, _, _, _], _ => rfl
  have g_40 := PySem.W.mg_of X G a40
  have F41 := fun_mk (st := sLOne) l41 c41' k41
  have b41 := F41.binds (ps := ["gate", "given", "held", "readings"]) fun _ _ _ _ _ _ us hl => match us, hl with | [_, _, _, _], _ => rfl
  have g_41 := PySem.W.mg_of X G a41
  have F42 := fun_mk (st := sLSure) l42 c42' k42
  have b42 := F42.binds (ps := ["circuit", "given", "held"]) fun _ _ _ _ _ _ us hl => match us, hl with | [_, _, _], _ => rfl
  have g_42 := PySem.W.mg_of X G a42
  have F43 := fun_mk (st := sSomeSource) l43 c43' k43
  have b43 := F43.binds (ps := ["state", "inputs", "registers", "gates"]) fun _ _ _ _ _ _ us hl => match us, hl with | [_, _, _, _], _ => rfl
  have g_43 := PySem.W.mg_of X G a43
  have F44 := fun_mk (st := sLTable) l44 c44' k44
  have b44 := F44.binds (ps := ["state", "size"]) fun _ _ _ _ _ _ us hl => match us, hl with | [_, _], _ => rfl
  have g_44 := PySem.W.mg_of X G a44
  have F45 := fun_mk (st := sLCircuit) l45 c45' k45
  have b45 := F45.binds (ps := ["state", "most", "branches"]) fun _ _ _ _ _ _ us hl => match us, hl with | [_, _, _], _ => rfl
  have g_45 := PySem.W.mg_of X G a45
  have F46 := fun_mk (st := sCaseBits) l46 c46' k46
  have b46 := F46.binds (ps := ["state", "circuit"]) fun _ _ _ _ _ _ us hl => match us, hl with | [_, _], _ => rfl
  have g_46 := PySem.W.mg_of X G a46
  have F47 := fun_mk (st := sCaseR) l47 c47' k47
  have b47 := F47.binds (ps := ["state", "circuit"]) fun _ _ _ _ _ _ us hl => match us, hl with | [_, _], _ => rfl
  have g_47 := PySem.W.mg_of X G a47
  have F48 := fun_mk (st := sBadR) l48 c48' k48
  have b48 := F48.binds (ps := ["state", "size"]) fun _ _ _ _ _ _ us hl => match us, hl with | [_, _], _ => rfl
  have g_48 := PySem.W.mg_of X G a48
  have F49 := fun_mk (st := sLIsOrder) l49 c49' k49
  have b49 := F49.binds (ps := ["circuit", "given", "held", "item"]) fun _ _ _ _ _ _ us hl => match us, hl with | [_, _, _, _], _ => rfl
  have g_49 := PySem.W.mg_of X G a49
  have F50 := fun_mk (st := sLIsLot) l50 c50' k50
  have b50 := F50.binds (ps := ["circuit", "given", "held", "order", "item"]) fun _ _ _ _ _ _ us hl => match us, hl with | [_, _, _, _, _], _ => rfl
  have g_50 := PySem.W.mg_of X G a50
  have F51 := fun_mk (st := sBent) l51 c51' k51
  have b51 := F51.binds (ps := ["state", "order", "many"]) fun _ _ _ _ _ _ us hl => match us, hl with | [_, _, _], _ => rfl
  have g_51 := PySem.W.mg_of X G a51
  have F52 := fun_mk (st := sLaw) l52 c52' k52
  have b52 := F52.binds (ps := ["script"]) fun _ _ _ _ _ _ us hl => match us, hl with | [_], _ => rfl
  have g_52 := PySem.W.mg_of X G a52
  have y_int := PySem.W.mg_none_of X G z_int
  have y_len := PySem.W.mg_none_of X G z_len
  have y_abs := PySem.W.mg_none_of X G z_abs
  have y_all := PySem.W.mg_none_of X G z_all
  have y_enumerate := PySem.W.mg_none_of X G z_enumerate
  have y_isinstance := PySem.W.mg_none_of X G z_isinstance
  have y_list := PySem.W.mg_none_of X G z_list
  have y_tuple := PySem.W.mg_none_of X G z_tuple
  have y_bool := PySem.W.mg_none_of X G z_bool
  have y_range := PySem.W.mg_none_of X G z_range
  have y_min := PySem.W.mg_none_of X G z_min
  have y_max := PySem.W.mg_none_of X G z_max
  have y_sum := PySem.W.mg_none_of X G z_sum
  have y_sorted := PySem.W.mg_none_of X G z_sorted
  have y_zip := PySem.W.mg_none_of X G z_zip
  have y_repr := PySem.W.mg_none_of X G z_repr
  have y_set := PySem.W.mg_none_of X G z_set
  have y_str := PySem.W.mg_none_of X G z_str
  have ECC : ExcC K CC := excC_of qCC1 qCC2 bCC qCC3 qCC4 r1 r2 qCC5
  have ECG : ExcC K CG := excC_of qCG1 qCG2 bCG qCG3 qCG4 r1 r2 qCG5
  have ECH : ExcC K CH := excC_of qCH1 qCH2 bCH qCH3 qCH4 r1 r2 qCH5
  have hw1 := kb_sure_order F21
  have hw2 := kb_closed_lot F22
  have hw3 := kb_is_order F24
  have hw4 := kb_is_closed_lot F26
  refine ⟨PySem.W.fnOf "law" "law" (defArgs sLaw) (defBody sLaw) (defScope sLaw) .none kV52 dc52 pm52 an52 (.ref c52) ct52, [(c52, P52), (c5, P5), (c6, P6), (c10, P10), (c11, P11), (c25, P25), (c26, P26)], spLaw4 K [P5, P6, P10, P11, P25, P26] P52, fun p hp => ?_, fun p hp => ?_, fun p hp => ?_, fun s u => .of_eq rfl, fun H a ns hl _ hT hS => ?_, fun base KB GB TB => ?_⟩
  · simp only [List.mem_cons, List.not_mem_nil, or_false] at hp
    rcases hp with rfl | rfl | rfl | rfl | rfl | rfl | rfl
    · exact own _ m52 _ g_52 c52 P52 _ _ _ _ _ _ l52 rfl rfl x52 p52
    · exact own _ m5 _ g_5 c5 P5 _ _ _ _ _ _ l5 rfl rfl x5 p5
    · exact own _ m6 _ g_6 c6 P6 _ _ _ _ _ _ l6 rfl rfl x6 p6
    · exact own _ m10 _ g_10 c10 P10 _ _ _ _ _ _ l10 rfl rfl x10 p10
    · exact own _ m11 _ g_11 c11 P11 _ _ _ _ _ _ l11 rfl rfl x11 p11
    · exact own _ m25 _ g_25 c25 P25 _ _ _ _ _ _ l25 rfl rfl x25 p25
    · exact own _ m26 _ g_26 c26 P26 _ _ _ _ _ _ l26 rfl rfl x26 p26
  · simp only [List.mem_cons, List.not_mem_nil, or_false] at hp
    rcases hp with rfl | rfl | rfl | rfl | rfl | rfl | rfl
    · exact n52
    · exact n5
    · exact n6
    · exact n10
    · exact n11
    · exact n25
    · exact n26
  · simp only [List.mem_cons, List.not_mem_nil, or_false] at hp
    rcases hp with rfl | rfl | rfl | rfl | rfl | rfl | rfl
    · exact PySem.W.codeHd_of_K X o52
    · exact PySem.W.codeHd_of_K X o5
    · exact PySem.W.codeHd_of_K X o6
    · exact PySem.W.codeHd_of_K X o10
    · exact PySem.W.codeHd_of_K X o11
    · exact PySem.W.codeHd_of_K X o25
    · exact PySem.W.codeHd_of_K X o26
  · have hP : ∀ P ∈ [P52, P5, P6, P10, P11, P25, P26], H P = some (.tbl #[]) := fun P hP => by
      simp only [List.mem_cons, List.not_mem_nil, or_false] at hP
      rcases hP with e | e | e | e | e | e | e
      · rw [e]
        exact hT (c52, P52) (by simp)
      · rw [e]
        exact hT (c5, P5) (by simp)
      · rw [e]
        exact hT (c6, P6) (by simp)
      · rw [e]
        exact hT (c10, P10) (by simp)
      · rw [e]
        exact hT (c11, P11) (by simp)
      · rw [e]
        exact hT (c25, P25) (by simp)
      · rw [e]
        exact hT (c26, P26) (by simp)
    exact ⟨a, ns, rfl, hS, hl, fun P h => ⟨#[], hP P (List.mem_cons_of_mem _ h), True.intro⟩, LamX.TabS.nil (hP _ List.mem_cons_self), pd, fun _ => rfl⟩
  · have TL := TB (c52, P52) (by simp)
    have T5 := TB (c5, P5) (by simp)
    have U5 : GxR.TabB base mg c5 P5 := ⟨T5.code, T5.bm, T5.gP⟩
    have T6 := TB (c6, P6) (by simp)
    have U6 : GxR.TabB base mg c6 P6 := ⟨T6.code, T6.bm, T6.gP⟩
    have T10 := TB (c10, P10) (by simp)
    have U10 : GxR.TabB base mg c10 P10 := ⟨T10.code, T10.bm, T10.gP⟩
    have T11 := TB (c11, P11) (by simp)
    have U11 : GxR.TabB base mg c11 P11 := ⟨T11.code, T11.bm, T11.gP⟩
    have T25 := TB (c25, P25) (by simp)
    have U25 : GxR.TabB base mg c25 P25 := ⟨T25.code, T25.bm, T25.gP⟩
    have T26 := TB (c26, P26) (by simp)
    have U26 : GxR.TabB base mg c26 P26 := ⟨T26.code, T26.bm, T26.gP⟩
    have G0 := ok_number (P := l.prog) (w := w) (mg := mg) (base := base) F0 y_isinstance y_int y_bool
    have G1 := ok_below F1 G0 F0.kp b0 g_0
    have G2 := ok_bit F2 G1 F1.kp b1 g_1
    have G3 := ok_reading F3 G2 F2.kp b2 g_2
    have G4 := ok_tupleOf (P := l.prog) (w := w) (mg := mg) (base := base) F4 y_isinstance y_tuple y_len
    have G5 := ok_bits (TT := [P5, P6, P10, P11, P25, P26]) F5 rfl U5 (by simp) y_all G4 F4.kp b4 g_4 G2 F2.kp b2 g_2
    have G6 := ok_readings (TT := [P5, P6, P10, P11, P25, P26]) F6 rfl U6 (by simp) y_all G4 F4.kp b4 g_4 G3 F3.kp b3 g_3
    have G7 := ok_upTo (P := l.prog) (w := w) (mg := mg) (base := base) F7 y_isinstance y_tuple y_len
    have G8 := ok_source F8 G4 F4.kp b4 g_4 G1 F1.kp b1 g_1 G2 F2.kp b2 g_2
    have G9 := ok_register F9 G4 F4.kp b4 g_4 G8 F8.kp b8 g_8 G2 F2.kp b2 g_2
    have G10 := ok_gateT (TT := [P5, P6, P10, P11, P25, P26]) F10 rfl U10 (by simp) y_all y_len (PySem.W.mg_of X G v4) G4 F4.kp b4 g_4 G7 F7.kp b7 g_7 G5 F5.kp b5 g_5 G8 F8.kp b8 g_8
    have G11 := ok_circuitT (TT := [P5, P6, P10, P11, P25, P26]) F11 rfl U11 (by simp) y_all y_len (PySem.W.mg_of X G v0) (PySem.W.mg_of X G v1) (PySem.W.mg_of X G v2) (PySem.W.mg_of X G v3) G4 F4.kp b4 g_4 G7 F7.kp b7 g_7 G1 F1.kp b1 g_1 G9 F9.kp b9 g_9 G10 F10.kp b10 g_10 G8 F8.kp b8 g_8
    have G12 := ok_checkC (TT := [P5, P6, P10, P11, P25, P26]) F12 rfl xCC (PySem.W.mg_of X G aCC) kCC bCC tCC G11 F11.kp b11 g_11
    have G13 := ok_checkCase (TT := [P5, P6, P10, P11, P25, P26]) F13 rfl y_len xCG (PySem.W.mg_of X G aCG) kCG bCG tCG xCH (PySem.W.mg_of X G aCH) kCH bCH tCH G12 F12.kp b12 g_12 G6 F6.kp b6 g_6
    have G14 := ok_srcR (P := l.prog) (w := w) (mg := mg) (base := base) F14
    have G15 := ok_table (P := l.prog) (w := w) (mg := mg) (base := base) F15 y_min y_max
    have G16 := ok_gateNow F16 G14 F14.kp b14 g_14 G15 F15.kp b15 g_15
    have G17 := ok_readersG (P := l.prog) (w := w) (mg := mg) (base := base) F17 y_enumerate
    have G18 := ok_sureLaps F18 y_len y_list y_range y_sorted y_set G17 F17.kp b17 g_17 G16 F16.kp b16 g_16
    have G19 := ok_sureList F19 y_len G18 F18.kp b18 g_18
    have G20 := ok_unsureA (P := l.prog) (w := w) (mg := mg) (base := base) F20 y_tuple y_enumerate
    have G21 := ok_sureOrder F21 y_tuple G13 F13.kp b13 g_13 G18 F18.kp b18 g_18
    have G22 := ok_closedLot F22 G13 F13.kp b13 g_13 G19 F19.kp b19 g_19 G20 F20.kp b20 g_20
    have G23 := ok_toldBy F23 y_isinstance y_tuple y_len G4 F4.kp b4 g_4 G1 F1.kp b1 g_1 G2 F2.kp b2 g_2 G16 F16.kp b16 g_16
    have G24 := ok_isOrder F24 G13 F13.kp b13 g_13 G23 F23.kp b23 g_23
    have G25 := ok_numbers (TT := [P5, P6, P10, P11, P25, P26]) F25 rfl U25 (by simp) y_all y_isinstance y_tuple G0 F0.kp b0 g_0
    have G26 := ok_isClosedLot (TT := [P5, P6, P10, P11, P25, P26]) F26 rfl U26 (by simp) y_all G13 F13.kp b13 g_13 G23 F23.kp b23 g_23 G25 F25.kp b25 g_25 G20 F20.kp b20 g_20 G16 F16.kp b16 g_16
    have G27 := ok_begun (P := l.prog) (w := w) (mg := mg) (base := base) F27 y_abs
    have G28 := ok_draw (P := l.prog) (w := w) (mg := mg) (base := base) F28 y_int y_len
    have G29 := ok_pick F29 y_len G28 F28.kp b28 g_28
    have G30 := ok_mixedV F30 y_list y_len ⟨_, _, G28, F28.kp, b28, g_28⟩
    have G32 := ok_lwhole (P := l.prog) (w := w) (mg := mg) (base := base) F32 y_isinstance y_int y_bool
    have G33 := ok_odd F33 ⟨_, _, G29, F29.kp, b29, g_29⟩
    have G35 := ok_lbit F35 G32 F32.kp b32 g_32
    have G34 := ok_power (P := l.prog) (w := w) (mg := mg) (base := base) F34 y_range
    have G36 := ok_bitsOf F36 y_range y_tuple G34 F34.kp b34 g_34
    have G37 := ok_allBits F37 y_range y_sorted G34 F34.kp b34 g_34 G36 F36.kp b36 g_36
    have G38 := ok_gateBit F38 y_enumerate y_sum G34 F34.kp b34 g_34
    have G39 := ok_LRL F39 y_enumerate y_len y_list y_zip y_min y_max G37 F37.kp b37 g_37 G38 F38.kp b38 g_38
    have G40 := ok_lsource (P := l.prog) (w := w) (mg := mg) (base := base) F40
    have G41 := ok_lone F41 ⟨_, _, G40, F40.kp, b40, g_40⟩ ⟨_, _, G39, F39.kp, b39, g_39⟩
    have G42 := ok_lsure F42 y_len y_enumerate ⟨_, _, G41, F41.kp, b41, g_41⟩
    have G43 := ok_someS F43 ⟨_, _, G28, F28.kp, b28, g_28⟩ ⟨_, _, G29, F29.kp, b29, g_29⟩
    have G44 := ok_ltable F44 y_tuple y_range G28 F28.kp b28 g_28 G34 F34.kp b34 g_34
    have G45 := ok_lcirc F45 y_range y_min y_tuple ⟨_, _, G28, F28.kp, b28, g_28⟩ ⟨_, _, G29, F29.kp, b29, g_29⟩ ⟨_, _, G43, F43.kp, b43, g_43⟩ ⟨_, _, G44, F44.kp, b44, g_44⟩
    have G46 := ok_caseB F46 y_range y_tuple ⟨_, _, G28, F28.kp, b28, g_28⟩
    have G47 := ok_caseR F47 y_tuple ⟨_, _, G28, F28.kp, b28, g_28⟩ ⟨_, _, G46, F46.kp, b46, g_46⟩
    have G48 := ok_badR F48 ⟨_, _, G29, F29.kp, b29, g_29⟩
    have G49 := ok_lorder F49 y_isinstance y_tuple y_len G32 F32.kp b32 g_32 G35 F35.kp b35 g_35 ⟨_, _, G41, F41.kp, b41, g_41⟩
    have G50 := ok_llot F50 y_isinstance y_tuple y_len y_enumerate G32 F32.kp b32 g_32 G49 F49.kp b49 g_49 ⟨_, _, G41, F41.kp, b41, g_41⟩
    have G51 := ok_bent F51 y_list y_tuple y_len y_str ⟨_, _, G29, F29.kp, b29, g_29⟩ ⟨_, _, G28, F28.kp, b28, g_28⟩ ⟨_, _, G30, F30.kp, b30, g_30⟩
    have LF : LawF4 l.prog w K mg base [P5, P6, P10, P11, P25, P26] CC CG CH CS := {
      begun := ⟨_, _, G27, F27.kp, b27, g_27⟩
      draw := ⟨_, _, G28, F28.kp, b28, g_28⟩
      pick := ⟨_, _, G29, F29.kp, b29, g_29⟩
      circ := ⟨_, _, G45, F45.kp, b45, g_45⟩
      caseR := ⟨_, _, G47, F47.kp, b47, g_47⟩
      sure := ⟨_, _, G42, F42.kp, b42, g_42⟩
      badR := ⟨_, _, G48, F48.kp, b48, g_48⟩
      bent := ⟨_, _, G51, F51.kp, b51, g_51⟩
      oddV := ⟨_, _, G33, F33.kp, b33, g_33⟩
      isO := ⟨_, _, G49, F49.kp, b49, g_49⟩
      isL := ⟨_, _, G50, F50.kp, b50, g_50⟩
      so := ⟨_, _, G21, F21.kp, b21, g_21, hw1⟩
      cl := ⟨_, _, G22, F22.kp, b22, g_22, hw2⟩
      io := ⟨_, _, G24, F24.kp, b24, g_24, hw3⟩
      ic := ⟨_, _, G26, F26.kp, b26, g_26, hw4⟩
      caught := ⟨_, _, F31, F31.kp, b31, g_31⟩
      gS := PySem.W.mg_of X G aS
      gC := PySem.W.mg_of X G aCC
      gG := PySem.W.mg_of X G aCG
      gH := PySem.W.mg_of X G aCH
      eC := eCC
      eG := eCG
      eH := eCH
      cC := ECC
      cG := ECG
      cH := ECH
      iC := iCC
      iG := iCG
      iH := iCH }
    exact ok_law4 F52 rfl TL LF y_range y_min y_len y_repr y_list y_tuple y_sum y_enumerate y_sorted y_isinstance
end K02

open PySem PySem.W PyProof.Rows
set_option Elab.async false
set_option maxRecDepth 100000 in
set_option maxHeartbeats 0 in
theorem PySem.Challenge.cw_restsure_k04_orders_and_closed_lots_holds : PySem.Challenge.rw_restsure_k04_orders_and_closed_lots.Holds := by
  w_on; o_law; k_head; (case hw => w_witness2)
  k_fill
  refine GE.walk_tabsG (l := PySem.Challenge.rw_restsure_k04_orders_and_closed_lots) (n := 63) (k := 15) (x := "script") (CX := fun _ => L2.CX0) ["is_bits", "is_readings", "is_gate", "is_circuit", "is_numbers", "is_closed_lot", "law"] rfl (by decide) rfl ⟨rfl, by decide, by decide⟩ (by decide +kernel) (fun w h Y => PySem.W.km_in_of Y) ?F (fun _ _ _ _ _ z => z)
  case F =>
    intro w mg fa h Y KX G hmg own
    refine' K02.all_mk KX G hmg own (by simp) (by simp) (by simp) (by simp) (by simp) (by simp) (by simp) ?a0 ?l0 ?c0' ?k0 ?a1 ?l1 ?c1' ?k1 ?a2 ?l2 ?c2' ?k2 ?a3 ?l3 ?c3' ?k3 ?a4 ?l4 ?c4' ?k4 ?a5 ?l5 ?c5' ?k5 ?x5 ?p5 ?n5 ?o5 ?a6 ?l6 ?c6' ?k6 ?x6 ?p6 ?n6 ?o6 ?a7 ?l7 ?c7' ?k7 ?a8 ?l8 ?c8' ?k8 ?a9 ?l9 ?c9' ?k9 ?a10 ?l10 ?c10' ?k10 ?x10 ?p10 ?n10 ?o10 ?a11 ?l11 ?c11' ?k11 ?x11 ?p11 ?n11 ?o11 ?a12 ?l12 ?c12' ?k12 ?a13 ?l13 ?c13' ?k13 ?a14 ?l14 ?c14' ?k14 ?a15 ?l15 ?c15' ?k15 ?a16 ?l16 ?c16' ?k16 ?a17 ?l17 ?c17' ?k17 ?a18 ?l18 ?c18' ?k18 ?a19 ?l19 ?c19' ?k19 ?a20 ?l20 ?c20' ?k20 ?a21 ?l21 ?c21' ?k21 ?a22 ?l22 ?c22' ?k22 ?a23 ?l23 ?c23' ?k23 ?a24 ?l24 ?c24' ?k24 ?a25 ?l25 ?c25' ?k25 ?x25 ?p25 ?n25 ?o25 ?a26 ?l26 ?c26' ?k26 ?x26 ?p26 ?n26 ?o26 ?a27 ?l27 ?c27' ?k27 ?a28 ?l28 ?c28' ?k28 ?a29 ?l29 ?c29' ?k29 ?a30 ?l30 ?c30' ?k30 ?a31 ?l31 ?c31' ?k31 ?a32 ?l32 ?c32' ?k32 ?a33 ?l33 ?c33' ?k33 ?a34 ?l34 ?c34' ?k34 ?a35 ?l35 ?c35' ?k35 ?a36 ?l36 ?c36' ?k36 ?a37 ?l37 ?c37' ?k37 ?a38 ?l38 ?c38' ?k38 ?a39 ?l39 ?c39' ?k39 ?a40 ?l40 ?c40' ?k40 ?a41 ?l41 ?c41' ?k41 ?a42 ?l42 ?c42' ?k42 ?a43 ?l43 ?c43' ?k43 ?a44 ?l44 ?c44' ?k44 ?a45 ?l45 ?c45' ?k45 ?a46 ?l46 ?c46' ?k46 ?a47 ?l47 ?c47' ?k47 ?a48 ?l48 ?c48' ?k48 ?a49 ?l49 ?c49' ?k49 ?a50 ?l50 ?c50' ?k50 ?a51 ?l51 ?c51' ?k51 ?a52 ?l52 ?c52' ?k52 ?x52 ?p52 ?n52 ?o52 ?pd ?z_int ?z_len ?z_abs ?z_all ?z_enumerate ?z_isinstance ?z_list ?z_tuple ?z_bool ?z_range ?z_min ?z_max ?z_sum ?z_sorted ?z_zip ?z_repr ?z_set ?z_str ?v0 ?v1 ?v2 ?v3 ?v4 ?aS ?aCC ?xCC ?kCC ?bCC ?tCC ?eCC ?iCC ?qCC1 ?qCC2 ?qCC3 ?qCC4 ?qCC5 ?aCG ?xCG ?kCG ?bCG ?tCG ?eCG ?iCG ?qCG1 ?qCG2 ?qCG3 ?qCG4 ?qCG5 ?aCH ?xCH ?kCH ?bCH ?tCH ?eCH ?iCH ?qCH1 ?qCH2 ?qCH3 ?qCH4 ?qCH5 ?r1 ?r2
    (case a0 => first | k_is | decide +kernel)
    (case l0 => first | k_is | decide +kernel)
    (case c0' => first | k_is | decide +kernel)
    (case k0 => first | k_is | decide +kernel)
    (case a1 => first | k_is | decide +kernel)
    (case l1 => first | k_is | decide +kernel)
    (case c1' => first | k_is | decide +kernel)
    (case k1 => first | k_is | decide +kernel)
    (case a2 => first | k_is | decide +kernel)
    (case l2 => first | k_is | decide +kernel)
    (case c2' => first | k_is | decide +kernel)
    (case k2 => first | k_is | decide +kernel)
    (case a3 => first | k_is | decide +kernel)
    (case l3 => first | k_is | decide +kernel)
    (case c3' => first | k_is | decide +kernel)
    (case k3 => first | k_is | decide +kernel)
    (case a4 => first | k_is | decide +kernel)
    (case l4 => first | k_is | decide +kernel)
    (case c4' => first | k_is | decide +kernel)
    (case k4 => first | k_is | decide +kernel)
    (case a5 => first | k_is | decide +kernel)
    (case l5 => first | k_is | decide +kernel)
    (case c5' => first | k_is | decide +kernel)
    (case k5 => first | k_is | decide +kernel)
    (case x5 => first | k_is | decide +kernel)
    (case p5 => rfl)
    (case n5 => first | kernel_rfl | rfl)
    (case o5 => first | kernel_rfl | rfl)
    (case a6 => first | k_is | decide +kernel)
    (case l6 => first | k_is | decide +kernel)
    (case c6' => first | k_is | decide +kernel)
    (case k6 => first | k_is | decide +kernel)
    (case x6 => first | k_is | decide +kernel)
    (case p6 => rfl)
    (case n6 => first | kernel_rfl | rfl)
    (case o6 => first | kernel_rfl | rfl)
    (case a7 => first | k_is | decide +kernel)
    (case l7 => first | k_is | decide +kernel)
    (case c7' => first | k_is | decide +kernel)
    (case k7 => first | k_is | decide +kernel)
    (case a8 => first | k_is | decide +kernel)
    (case l8 => first | k_is | decide +kernel)
    (case c8' => first | k_is | decide +kernel)
    (case k8 => first | k_is | decide +kernel)
    (case a9 => first | k_is | decide +kernel)
    (case l9 => first | k_is | decide +kernel)
    (case c9' => first | k_is | decide +kernel)
    (case k9 => first | k_is | decide +kernel)
    (case a10 => first | k_is | decide +kernel)
    (case l10 => first | k_is | decide +kernel)
    (case c10' => first | k_is | decide +kernel)
    (case k10 => first | k_is | decide +kernel)
    (case x10 => first | k_is | decide +kernel)
    (case p10 => rfl)
    (case n10 => first | kernel_rfl | rfl)
    (case o10 => first | kernel_rfl | rfl)
    (case a11 => first | k_is | decide +kernel)
    (case l11 => first | k_is | decide +kernel)
    (case c11' => first | k_is | decide +kernel)
    (case k11 => first | k_is | decide +kernel)
    (case x11 => first | k_is | decide +kernel)
    (case p11 => rfl)
    (case n11 => first | kernel_rfl | rfl)
    (case o11 => first | kernel_rfl | rfl)
    (case a12 => first | k_is | decide +kernel)
    (case l12 => first | k_is | decide +kernel)
    (case c12' => first | k_is | decide +kernel)
    (case k12 => first | k_is | decide +kernel)
    (case a13 => first | k_is | decide +kernel)
    (case l13 => first | k_is | decide +kernel)
    (case c13' => first | k_is | decide +kernel)
    (case k13 => first | k_is | decide +kernel)
    (case a14 => first | k_is | decide +kernel)
    (case l14 => first | k_is | decide +kernel)
    (case c14' => first | k_is | decide +kernel)
    (case k14 => first | k_is | decide +kernel)
    (case a15 => first | k_is | decide +kernel)
    (case l15 => first | k_is | decide +kernel)
    (case c15' => first | k_is | decide +kernel)
    (case k15 => first | k_is | decide +kernel)
    (case a16 => first | k_is | decide +kernel)
    (case l16 => first | k_is | decide +kernel)
    (case c16' => first | k_is | decide +kernel)
    (case k16 => first | k_is | decide +kernel)
    (case a17 => first | k_is | decide +kernel)
    (case l17 => first | k_is | decide +kernel)
    (case c17' => first | k_is | decide +kernel)
    (case k17 => first | k_is | decide +kernel)
    (case a18 => first | k_is | decide +kernel)
    (case l18 => first | k_is | decide +kernel)
    (case c18' => first | k_is | decide +kernel)
    (case k18 => first | k_is | decide +kernel)
    (case a19 => first | k_is | decide +kernel)
    (case l19 => first | k_is | decide +kernel)
    (case c19' => first | k_is | decide +kernel)
    (case k19 => first | k_is | decide +kernel)
    (case a20 => first | k_is | decide +kernel)
    (case l20 => first | k_is | decide +kernel)
    (case c20' => first | k_is | decide +kernel)
    (case k20 => first | k_is | decide +kernel)
    (case a21 => first | k_is | decide +kernel)
    (case l21 => first | k_is | decide +kernel)
    (case c21' => first | k_is | decide +kernel)
    (case k21 => first | k_is | decide +kernel)
    (case a22 => first | k_is | decide +kernel)
    (case l22 => first | k_is | decide +kernel)
    (case c22' => first | k_is | decide +kernel)
    (case k22 => first | k_is | decide +kernel)
    (case a23 => first | k_is | decide +kernel)
    (case l23 => first | k_is | decide +kernel)
    (case c23' => first | k_is | decide +kernel)
    (case k23 => first | k_is | decide +kernel)
    (case a24 => first | k_is | decide +kernel)
    (case l24 => first | k_is | decide +kernel)
    (case c24' => first | k_is | decide +kernel)
    (case k24 => first | k_is | decide +kernel)
    (case a25 => first | k_is | decide +kernel)
    (case l25 => first | k_is | decide +kernel)
    (case c25' => first | k_is | decide +kernel)
    (case k25 => first | k_is | decide +kernel)
    (case x25 => first | k_is | decide +kernel)
    (case p25 => rfl)
    (case n25 => first | kernel_rfl | rfl)
    (case o25 => first | kernel_rfl | rfl)
    (case a26 => first | k_is | decide +kernel)
    (case l26 => first | k_is | decide +kernel)
    (case c26' => first | k_is | decide +kernel)
    (case k26 => first | k_is | decide +kernel)
    (case x26 => first | k_is | decide +kernel)
    (case p26 => rfl)
    (case n26 => first | kernel_rfl | rfl)
    (case o26 => first | kernel_rfl | rfl)
    (case a27 => first | k_is | decide +kernel)
    (case l27 => first | k_is | decide +kernel)
    (case c27' => first | k_is | decide +kernel)
    (case k27 => first | k_is | decide +kernel)
    (case a28 => first | k_is | decide +kernel)
    (case l28 => first | k_is | decide +kernel)
    (case c28' => first | k_is | decide +kernel)
    (case k28 => first | k_is | decide +kernel)
    (case a29 => first | k_is | decide +kernel)
    (case l29 => first | k_is | decide +kernel)
    (case c29' => first | k_is | decide +kernel)
    (case k29 => first | k_is | decide +kernel)
    (case a30 => first | k_is | decide +kernel)
    (case l30 => first | k_is | decide +kernel)
    (case c30' => first | k_is | decide +kernel)
    (case k30 => first | k_is | decide +kernel)
    (case a31 => first | k_is | decide +kernel)
    (case l31 => first | k_is | decide +kernel)
    (case c31' => first | k_is | decide +kernel)
    (case k31 => first | k_is | decide +kernel)
    (case a32 => first | k_is | decide +kernel)
    (case l32 => first | k_is | decide +kernel)
    (case c32' => first | k_is | decide +kernel)
    (case k32 => first | k_is | decide +kernel)
    (case a33 => first | k_is | decide +kernel)
    (case l33 => first | k_is | decide +kernel)
    (case c33' => first | k_is | decide +kernel)
    (case k33 => first | k_is | decide +kernel)
    (case a34 => first | k_is | decide +kernel)
    (case l34 => first | k_is | decide +kernel)
    (case c34' => first | k_is | decide +kernel)
    (case k34 => first | k_is | decide +kernel)
    (case a35 => first | k_is | decide +kernel)
    (case l35 => first | k_is | decide +kernel)
    (case c35' => first | k_is | decide +kernel)
    (case k35 => first | k_is | decide +kernel)
    (case a36 => first | k_is | decide +kernel)
    (case l36 => first | k_is | decide +kernel)
    (case c36' => first | k_is | decide +kernel)
    (case k36 => first | k_is | decide +kernel)
    (case a37 => first | k_is | decide +kernel)
    (case l37 => first | k_is | decide +kernel)
    (case c37' => first | k_is | decide +kernel)
    (case k37 => first | k_is | decide +kernel)
    (case a38 => first | k_is | decide +kernel)
    (case l38 => first | k_is | decide +kernel)
    (case c38' => first | k_is | decide +kernel)
    (case k38 => first | k_is | decide +kernel)
    (case a39 => first | k_is | decide +kernel)
    (case l39 => first | k_is | decide +kernel)
    (case c39' => first | k_is | decide +kernel)
    (case k39 => first | k_is | decide +kernel)
    (case a40 => first | k_is | decide +kernel)
    (case l40 => first | k_is | decide +kernel)
    (case c40' => first | k_is | decide +kernel)
    (case k40 => first | k_is | decide +kernel)
    (case a41 => first | k_is | decide +kernel)
    (case l41 => first | k_is | decide +kernel)
    (case c41' => first | k_is | decide +kernel)
    (case k41 => first | k_is | decide +kernel)
    (case a42 => first | k_is | decide +kernel)
    (case l42 => first | k_is | decide +kernel)
    (case c42' => first | k_is | decide +kernel)
    (case k42 => first | k_is | decide +kernel)
    (case a43 => first | k_is | decide +kernel)
    (case l43 => first | k_is | decide +kernel)
    (case c43' => first | k_is | decide +kernel)
    (case k43 => first | k_is | decide +kernel)
    (case a44 => first | k_is | decide +kernel)
    (case l44 => first | k_is | decide +kernel)
    (case c44' => first | k_is | decide +kernel)
    (case k44 => first | k_is | decide +kernel)
    (case a45 => first | k_is | decide +kernel)
    (case l45 => first | k_is | decide +kernel)
    (case c45' => first | k_is | decide +kernel)
    (case k45 => first | k_is | decide +kernel)
    (case a46 => first | k_is | decide +kernel)
    (case l46 => first | k_is | decide +kernel)
    (case c46' => first | k_is | decide +kernel)
    (case k46 => first | k_is | decide +kernel)
    (case a47 => first | k_is | decide +kernel)
    (case l47 => first | k_is | decide +kernel)
    (case c47' => first | k_is | decide +kernel)
    (case k47 => first | k_is | decide +kernel)
    (case a48 => first | k_is | decide +kernel)
    (case l48 => first | k_is | decide +kernel)
    (case c48' => first | k_is | decide +kernel)
    (case k48 => first | k_is | decide +kernel)
    (case a49 => first | k_is | decide +kernel)
    (case l49 => first | k_is | decide +kernel)
    (case c49' => first | k_is | decide +kernel)
    (case k49 => first | k_is | decide +kernel)
    (case a50 => first | k_is | decide +kernel)
    (case l50 => first | k_is | decide +kernel)
    (case c50' => first | k_is | decide +kernel)
    (case k50 => first | k_is | decide +kernel)
    (case a51 => first | k_is | decide +kernel)
    (case l51 => first | k_is | decide +kernel)
    (case c51' => first | k_is | decide +kernel)
    (case k51 => first | k_is | decide +kernel)
    (case a52 => first | k_is | decide +kernel)
    (case l52 => first | k_is | decide +kernel)
    (case c52' => first | k_is | decide +kernel)
    (case k52 => first | k_is | decide +kernel)
    (case x52 => first | k_is | decide +kernel)
    (case p52 => rfl)
    (case n52 => first | kernel_rfl | rfl)
    (case o52 => first | kernel_rfl | rfl)
    (case pd => decide)
    (case z_int => first | k_is | decide +kernel)
    (case z_len => first | k_is | decide +kernel)
    (case z_abs => first | k_is | decide +kernel)
    (case z_all => first | k_is | decide +kernel)
    (case z_enumerate => first | k_is | decide +kernel)
    (case z_isinstance => first | k_is | decide +kernel)
    (case z_list => first | k_is | decide +kernel)
    (case z_tuple => first | k_is | decide +kernel)
    (case z_bool => first | k_is | decide +kernel)
    (case z_range => first | k_is | decide +kernel)
    (case z_min => first | k_is | decide +kernel)
    (case z_max => first | k_is | decide +kernel)
    (case z_sum => first | k_is | decide +kernel)
    (case z_sorted => first | k_is | decide +kernel)
    (case z_zip => first | k_is | decide +kernel)
    (case z_repr => first | k_is | decide +kernel)
    (case z_set => first | k_is | decide +kernel)
    (case z_str => first | k_is | decide +kernel)
    (case v0 => first | k_is | decide +kernel)
    (case v1 => first | k_is | decide +kernel)
    (case v2 => first | k_is | decide +kernel)
    (case v3 => first | k_is | decide +kernel)
    (case v4 => first | k_is | decide +kernel)
    (case aS => first | k_is | decide +kernel)
    (case aCC => first | k_is | decide +kernel)
    (case xCC => first | k_exc | k_is | decide +kernel)
    (case kCC => first | k_is | decide +kernel)
    (case bCC => first | k_is | decide +kernel)
    (case tCC => first | k_is | decide +kernel)
    (case eCC => first | k_is | rfl | decide +kernel)
    (case iCC => first | k_is | rfl | decide +kernel)
    (case qCC1 => first | k_is | decide +kernel)
    (case qCC2 => first | k_is | decide +kernel)
    (case qCC3 => first | k_is | decide +kernel)
    (case qCC4 => first | k_is | decide +kernel)
    (case qCC5 => first | k_is | decide +kernel)
    (case aCG => first | k_is | decide +kernel)
    (case xCG => first | k_exc | k_is | decide +kernel)
    (case kCG => first | k_is | decide +kernel)
    (case bCG => first | k_is | decide +kernel)
    (case tCG => first | k_is | decide +kernel)
    (case eCG => first | k_is | rfl | decide +kernel)
    (case iCG => first | k_is | rfl | decide +kernel)
    (case qCG1 => first | k_is | decide +kernel)
    (case qCG2 => first | k_is | decide +kernel)
    (case qCG3 => first | k_is | decide +kernel)
    (case qCG4 => first | k_is | decide +kernel)
    (case qCG5 => first | k_is | decide +kernel)
    (case aCH => first | k_is | decide +kernel)
    (case xCH => first | k_exc | k_is | decide +kernel)
    (case kCH => first | k_is | decide +kernel)
    (case bCH => first | k_is | decide +kernel)
    (case tCH => first | k_is | decide +kernel)
    (case eCH => first | k_is | rfl | decide +kernel)
    (case iCH => first | k_is | rfl | decide +kernel)
    (case qCH1 => first | k_is | decide +kernel)
    (case qCH2 => first | k_is | decide +kernel)
    (case qCH3 => first | k_is | decide +kernel)
    (case qCH4 => first | k_is | decide +kernel)
    (case qCH5 => first | k_is | decide +kernel)
    (case r1 => first | k_is | decide +kernel)
    (case r2 => first | k_is | decide +kernel)
#print axioms PySem.Challenge.cw_restsure_k04_orders_and_closed_lots_holds

