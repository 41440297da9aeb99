import PyProof.Rows.All
import Wide.All
import OpenK.AllK
import Wide.FinOn
import HandS.ForMost
import HandS.TupAny
import HandS.More
import HandS.Conv
import HandS.Comp
import HandS.Exc
import HandS.TryMany
import HandS.DictTup
import HandS.Evl
import HandS.Flow
import KE.DataMinMax
import HandS.SetFor
import HandS.IsInst
import HandS.Sort
import PyProof.Rows.SetFrom
import PyProof.StrLawsIn
import PyProof.Rows.ReprOcc
import HandS.ExcInit
import HandS.ExcOwn
import HandS.Lambda
import HandS.EndTab
import HandS.WordsExc
import HandS.SortOrd
import HandS.SortInts
import PySem.Challenge.RW_comesthrough_k95_most_begins
set_option Elab.async false
set_option linter.all false
set_option maxRecDepth 100000
set_option maxHeartbeats 8000000
namespace KZ
open PySem PySem.Spec PyProof.Rows L2
/-! a comprehension with as many clauses as one likes -/
/-- what a turn of clause k - 1 does behind its tests, and then c -/
def behind {α : Type} (elt : Expr) (gens : List Comprehension) (scope : Scope) (pos : Pos) (k : Nat) (acc : Value) (env : Env) (c : Sem α) : Sem α :=
  match gens[k]? with
  | some g => do
    let v ← eval g.iter env
    standAt g.iter.pos
    let v ← if g.is_async != 0 then foldedIterable g.iter v else foldedSetIterable g.iter env v
    let _ ← runOwn (.compStart (.ListComp elt gens scope pos) k (← holding [v] (if g.is_async != 0 then asyncIter v else pyIter v)) acc env) env
    c
  | none => do
    (do let _ ← call (.builtin "list.append") [acc, ← eval elt env])
    c
section
variable {elt tg iter : Expr} {ifs : List Expr} {gens : List Comprehension} {scope : Scope} {pos : Pos} {k : Nat} {it acc : Value} {env : Env}
theorem turnN (hk : gens[k]? = some ⟨tg, iter, ifs, 0⟩) (hn : ∀ c, gens[k + 1]? = some c → c.is_async = 0) : compTurn (.ListComp elt gens scope pos) k it acc env = (do
    standAt iter.pos
    match ← pyNext it with
    | none => pure (.done .next)
    | some x =>
      letOwnedTupleGo tg it x
      assign tg env x
      let mut yes := true
      for c in ifs do
        if yes then yes ← isTrue c env (eval c env)
      if yes then behind elt gens scope pos (k + 1) acc env (again (.compLoop (.ListComp elt gens scope pos) k it acc env))
      else again (.compLoop (.ListComp elt gens scope pos) k it acc env)) := by
  unfold compTurn behind
  dsimp only
  rw [hk]
  dsimp only
  cases e : gens[k + 1]? with
  | none => rfl
  | some c =>
    obtain ⟨t1, i1, f1, a1⟩ := c
    cases (show a1 = 0 from hn _ e)
    rfl
theorem behind_some {α : Type} {c : Sem α} (hk : gens[k]? = some ⟨tg, iter, ifs, 0⟩) : behind elt gens scope pos k acc env c = (do
    let v ← eval iter env
    standAt iter.pos
    let v ← foldedSetIterable iter env v
    let _ ← runOwn (.compStart (.ListComp elt gens scope pos) k (← holding [v] (pyIter v)) acc env) env
    c) := by
  unfold behind
  rw [hk]
  rfl
theorem behind_none {α : Type} {c : Sem α} (hk : gens[k]? = none) : behind elt gens scope pos k acc env c = (do
    (do let _ ← call (.builtin "list.append") [acc, ← eval elt env])
    c) := by
  unfold behind
  rw [hk]
end
section
variable {P : Program} {w : World} {A : Around} {R : Result → Shared → Prop} {s : Shared} {elt tg iter : Expr} {ifs : List Expr} {gens : List Comprehension} {scope : Scope} {pos : Pos} {k : Nat} {it acc : Value} {env : Env}
/-- the errors of a block's loop -/
abbrev LE (P : Program) (w : World) (A : Around) (env : Env) (R : Result → Shared → Prop) : Value → Shared → Prop := notedBy (model P w) A env fun e t => R (.error e) t
theorem loopN (hk : gens[k]? = some ⟨tg, iter, ifs, 0⟩) (hn : ∀ c, gens[k + 1]? = some c → c.is_async = 0) (J : Nat → Shared → Prop)
    (turn : ∀ n t, J n t → wpAny (model P w) A (pyNext it) (fun r t1 => match r with
      | none => R (.ok .next) t1
      | some x => wpAny (model P w) A (letOwnedTupleGo tg it x) (fun _ t2 => wpAny (model P w) A (assign tg env x) (fun _ t3 =>
          wpAny (model P w) A (forIn ifs true fun c r => if r = true then do let ok ← isTrue c env (eval c env); pure (ForInStep.yield ok) else pure (ForInStep.yield r))
            (fun yes t4 => if yes = true then (∀ (c : Sem Fin) (Q : Fin → Shared → Prop), (∀ t5, (∃ m, m < n ∧ J m t5) → wpAny (model P w) (A.under (.compLoop (.ListComp elt gens scope pos) k it acc env)) c Q (LE P w A env R) t5) → wpAny (model P w) (A.under (.compLoop (.ListComp elt gens scope pos) k it acc env)) (behind elt gens scope pos (k + 1) acc env c) Q (LE P w A env R) t4) else ∃ m, m < n ∧ J m t4) (LE P w A env R) t3) (LE P w A env R) t2) (LE P w A env R) t1)
      (LE P w A env R) t)
    (n : Nat) (h : J n s) : codeAny (model P w) A (.compLoop (.ListComp elt gens scope pos) k it acc env) R s := by
  refine codeAny_loop rfl J (fun n t hJ => ?_) n h
  show wpAny _ A ((compTurn (.ListComp elt gens scope pos) k it acc env).onRaise (fun x => do noteFrame x env; theTreesLotGoes x)) _ _ t
  refine wpAny_noted ?_
  rw [turnN hk hn]
  refine wpAny_bind (wpAny_standAt (wpAny_bind (wpAny_mono (turn n t hJ) (fun r t1 h1 => ?_) fun _ _ z => z)))
  match r with
  | none => exact wpAny_pure h1
  | some x =>
    refine wpAny_bind (wpAny_mono h1 (fun _ t2 h2 => ?_) fun _ _ z => z)
    refine wpAny_bind (wpAny_mono h2 (fun _ t3 h3 => ?_) fun _ _ z => z)
    refine wpAny_bind (wpAny_mono h3 (fun yes t4 h4 => ?_) fun _ _ z => z)
    match yes with
    | false => exact wpAny_pure ⟨rfl, h4⟩
    | true => exact h4 _ _ fun t5 h5 => wpAny_pure ⟨rfl, h5⟩
theorem startN (hk : gens[k]? = some ⟨tg, iter, ifs, 0⟩) (h0 : codeAny (model P w) A (.compLoop (.ListComp elt gens scope pos) k it acc env) R s)
    (h : wpAny (model P w) A (pyIter it) (fun it' t => codeAny (model P w) A (.compLoop (.ListComp elt gens scope pos) k it' acc env) R t) (LE P w A env R) s) :
    codeAny (model P w) A (.compStart (.ListComp elt gens scope pos) k it acc env) R s := by
  refine codeAny_of_tree ?_
  show wpAny _ _ ((compStart (.ListComp elt gens scope pos) k it acc env).onRaise (fun x => do noteFrame x env; standAt theWindowsPlace)) _ _ s
  refine wpAny_notedAt ?_
  unfold compStart
  have e : (clausesOf (.ListComp elt gens scope pos))[k]? = some ⟨tg, iter, ifs, 0⟩ := hk
  rw [e]
  show wpAny _ _ (ask >>= _) _ _ s
  refine wpAny_bind (wpAny_askSetting (wpAny_ite ?_))
  split
  · first
      | exact wpAny_bind (wpAny_pure (wpAny_pure ⟨rfl, h0⟩))
      | exact wpAny_pure ⟨rfl, h0⟩
  · refine wpAny_bind (wpAny_rule ?_)
    show wpAny _ _ (standAt iter.pos >>= _) _ _ s
    exact wpAny_bind (wpAny_standAt (wpAny_bind (wpAny_mono h (fun it' t z => wpAny_pure ⟨rfl, z⟩) fun _ _ z => z)))
end
abbrev TIn := L2.St → Hp → (Hp → Prop) → Prop
/-- what stands behind the tests of clause k - 1, in a block's context -/
structure PIn (Y : Cx) (elt : Expr) (gens : List Comprehension) (scope : Scope) (pos : Pos) (k : Nat) (D : Addr) (vs : List Nat) (t : TIn) : Prop where
  go : ∀ (pins : List (Addr × Obj)) (s : Shared) (σ : L2.St) (H : Hp) (Nx : Hp → Prop) (α : Type) (c : Sem α) (Q : α → Shared → Prop) (E : Value → Shared → Prop), L2.Inv Y pins σ H s → t σ H Nx →
    (∀ σ' H' s', L2.Inv Y pins σ' H' s' → σ.length = σ'.length → (∀ (j : Nat) v, (wipe σ vs)[j]? = some (some v) → σ'[j]? = some (some v)) → Nx H' → wpAny (model Y.prog Y.w) Y.A c Q E s') →
    wpAny (model Y.prog Y.w) Y.A (behind elt gens scope pos k (.ref D) Y.env c) Q E s
def tLeaf (te : TE) (D : Addr) : TIn := fun σ H Nx => te σ H fun y H1 => ∃ acc, H1 D = some (.lst acc) ∧ acc.length < sizeLine ∧ Nx (upd H1 D (.lst (acc ++ [y])))
/-- the turns over what has come -/
def tRun (J : It) (g : TG) (tt : TT) (t : TIn) (vs : List Nat) : TIn := fun σ H1 Nx => ∃ W : Nat → Nat → Hp → Prop, (∃ m, W 0 m H1) ∧ ∀ i m H2, W i m H2 →
  (J.stop i H2 ∧ Nx H2) ∨ (J.go i H2 ∧ ∃ N1 : Hp → Prop, (∀ H', N1 H' → ∃ m', m' < m ∧ W (i + 1) m' H') ∧ ∀ x H3, J.yld i H2 x H3 → g x (wipe σ vs) H3 fun σ2 H4 => wipe σ2 vs = wipe σ vs ∧ tt σ2 H4 fun b H5 => if b = true then t σ2 H5 N1 else N1 H5)
def tCl (wi : TI) (g : TG) (tt : TT) (t : TIn) (vs : List Nat) : TIn := fun σ H Nx => wi σ H fun J H1 => tRun J g tt t vs σ H1 Nx
section
variable {Y : Cx} {elt tg iter : Expr} {ifs : List Expr} {gens : List Comprehension} {scope : Scope} {pos : Pos} {k : Nat} {D : Addr} {te : TE} {wi : TI} {g : TG} {tt : TT} {t : TIn} {vs vs' : List Nat}
theorem no_xe {α : Type} {m : Sem α} {Q : α → Shared → Prop} {s : Shared} (hx : ∀ e t, Y.xe e t → False) (h : wpAny (model Y.prog Y.w) Y.A m Q Y.xe s) : wpAny (model Y.prog Y.w) Y.A m Q (fun _ _ => False) s := wpAny_mono h (fun _ _ q => q) hx
theorem pin_leaf (hx : ∀ e t, Y.xe e t → False) (hk : gens[k]? = none) (he : PE Y elt te) : PIn Y elt gens scope pos k D [] (tLeaf te D) := by
  refine ⟨fun pins s σ H Nx α c Q E I h q => ?_⟩
  rw [behind_none hk]
  refine wpAny_bind (wpAny_bind (thnF (no_xe hx (he.run pins s σ H _ I h)) fun z s1 ⟨y, H1, I1, r1, acc, hD, hz, nx⟩ => ?_))
  refine wpAny_bind (app_ok (X := Y) I1 hD hz r1 fun s2 I2 => wpAny_pure ?_)
  exact q σ _ s2 I2 rfl (fun j v e => (wipe_some e).1) nx
theorem loop_run {pins : List (Addr × Obj)} {s2 : Shared} {σ : L2.St} {H2 : Hp} {Nx : Hp → Prop} {it : Addr} {fp : List Addr} {tn : Nat → Heap → Prop} {J : It} (hx : ∀ e t, Y.xe e t → False) (hc : Y.calm = true) (hk : gens[k]? = some ⟨tg, iter, ifs, 0⟩) (hn : ∀ c, gens[k + 1]? = some c → c.is_async = 0)
    (hg : PG Y tg g) (ht : PTs Y ifs tt) (hb : PIn Y elt gens scope pos (k + 1) D vs' t) (sub : ∀ i ∈ vs', i ∈ vs) (I2 : L2.Inv Y pins (wipe σ vs) H2 s2) (T : Turn Y.prog Y.w Y.K tg J fp it tn) (st2 : tn 0 s2.heap) (f2 : ∀ b ∈ fp, FpOk Y pins H2 b) (h : tRun J g tt t vs σ H2 Nx) :
    codeAny (model Y.prog Y.w) Y.A (.compLoop (.ListComp elt gens scope pos) k (.ref it) (.ref D) Y.env)
      (fun r s' => match r with
        | .ok f => f = .next ∧ ∃ H', L2.Inv Y pins (wipe σ vs) H' s' ∧ Nx H'
        | .error _ => False) s2 := by
  obtain ⟨W, ⟨m0, w0⟩, turn⟩ := h
  have still : ∀ {H' : Hp}, (∀ b ∈ fp, H' b = none) → ∀ b ∈ fp, FpOk Y pins H' b := fun hn b hb => ⟨hn b hb, (f2 b hb).2⟩
  refine loopN hk hn (fun n t => ∃ i H', L2.Inv Y pins (wipe σ vs) H' t ∧ tn i t.heap ∧ (∀ b ∈ fp, H' b = none) ∧ W i n H') ?_ m0 ⟨0, H2, I2, st2, fun b hb => (f2 b hb).1, w0⟩
  rintro n s3 ⟨i, H3, I3, st3, n3, w3⟩
  rcases turn i n H3 w3 with ⟨stop, nx⟩ | ⟨go, N1, hN, step⟩
  · refine thnF (T.done Y rfl rfl rfl hc i pins s3 (wipe σ vs) H3 (fun _ _ => False) I3 (still n3) st3 stop) fun r s4 ⟨hr, I4⟩ => ?_
    subst hr
    exact ⟨rfl, H3, I4, nx⟩
  · refine thnF (T.item Y rfl rfl rfl hc i pins s3 (wipe σ vs) H3 (fun _ _ => False) I3 (still n3) st3 go) fun r s4 ⟨u, hr, h4⟩ => ?_
    subst hr
    refine thnF h4 fun _ s5 ⟨y, H5, I5, r5, y5, st5, n5⟩ => ?_
    have I5' := I5.pinned (still n5) (T.obj _ _ st5)
    refine thnF (no_xe hx (hg.run _ s5 (wipe σ vs) H5 y u _ I5' r5 (step y H5 y5))) fun _ s6 ⟨σ6, H6, I6, hw6, q6⟩ => ?_
    refine thnF (no_xe hx (ht.run _ s6 σ6 H6 _ I6 q6)) fun b s7 ⟨H7, I7, q7⟩ => ?_
    have fin : ∀ {σ9 : L2.St} {s9 : Shared} {H9 : Hp}, L2.Inv Y (pins ++ pinsAt fp s5.heap) σ9 H9 s9 → (wipe σ vs).length = σ9.length → (∀ (j : Nat) v, (wipe σ vs)[j]? = some (some v) → σ9[j]? = some (some v)) → N1 H9 →
        ∃ m, m < n ∧ ∃ i H', L2.Inv Y pins (wipe σ vs) H' s9 ∧ tn i s9.heap ∧ (∀ b ∈ fp, H' b = none) ∧ W i m H' := fun {σ9 s9 H9} I9 l9 k9 nx => by
      obtain ⟨m', hm, w9⟩ := hN H9 nx
      have pin : ∀ b ∈ fp, ∀ o, s5.heap.get? b = some o → s9.heap.get? b = some o ∧ H9 b = none := fun b hb o e =>
        let z := I9.pin (b, o) (List.mem_append_right _ (List.mem_append_right _ (mem_pinsAt hb e)))
        ⟨z.1, z.2.1⟩
      refine ⟨m', hm, i + 1, H9, I9.unpinned.weak l9 k9, T.keep _ _ _ st5 fun b hb o e => (pin b hb o e).1, fun b hb => ?_, w9⟩
      obtain ⟨o, e, _⟩ := T.obj _ _ st5 b hb
      exact (pin b hb o e).2
    have l6 : (wipe σ vs).length = σ6.length := by rw [← hw6, wipe_length]
    have k6 : ∀ (j : Nat) v, (wipe σ vs)[j]? = some (some v) → σ6[j]? = some (some v) := fun j v e => by
      rw [← hw6] at e
      exact (wipe_some e).1
    match b with
    | false => exact fin I7 l6 k6 q7
    | true =>
      intro c1 Q1 next
      refine hb.go _ s7 σ6 H7 N1 _ c1 Q1 _ I7 q7 fun σ8 H8 s8 I8 l8 k8 nx => next s8 ?_
      refine fin I8 (l6.trans l8) (fun j v e => k8 j v ?_) nx
      rw [← hw6] at e
      obtain ⟨e1, e2⟩ := wipe_some e
      rw [wipe_out fun z => e2 (sub j z)]
      exact e1
theorem pin_clause (hx : ∀ e t, Y.xe e t → False) (hc : Y.calm = true) (hk : gens[k]? = some ⟨tg, iter, ifs, 0⟩) (hn : ∀ c, gens[k + 1]? = some c → c.is_async = 0) (hi : PI Y tg iter wi) (hg : PG Y tg g) (ht : PTs Y ifs tt) (hb : PIn Y elt gens scope pos (k + 1) D vs' t) (sub : ∀ i ∈ vs', i ∈ vs)
    (hs : ∀ x, foldedSetIterable iter Y.env x = pure x) : PIn Y elt gens scope pos k D vs (tCl wi g tt t vs) := by
  refine ⟨fun pins s σ H Nx α c Q E I h q => ?_⟩
  rw [behind_some hk]
  refine wpAny_bind (thnF (no_xe hx (hi.run pins s σ H _ I h)) fun x s1 hx1 => ?_)
  refine wpAny_bind (wpAny_standAt (wpAny_bind (wpAny_of_eq (hs x) ?_)))
  refine wpAny_bind (wpAny_holding (thnF (no_xe hx hx1) fun itv s2 h2 => ?_))
  obtain ⟨it, fp, tn, J, H2, rfl, I2, T, st2, f2, h⟩ := h2
  refine wpAny_bind (wpAny_runOwn ?_)
  rw [Around.mark_none]
  have loop := loop_run (σ := σ) hx hc hk hn hg ht hb sub (I2.weak (wipe_length _ _) (fun j v e => (wipe_some e).1)) T st2 f2 h
  refine codeAny_mono (startN hk loop (T.self Y.A 0 _ _ _ st2 loop)) fun r s' z => ?_
  match r with
  | .ok f =>
    obtain ⟨_, H', I', nx⟩ := z
    exact q (wipe σ vs) H' s' I' (wipe_length σ vs).symm (fun j v e => e) nx
  | .error e => exact z.elim
end
/-- [elt for .. for ..]: D the new list -/
def tLcN (wi : TI) (g : TG) (tt : TT) (t : Addr → TIn) (vs : List Nat) : TE := fun σ H Q => wi σ H fun J H1 => ∀ D, H1 D = none → tRun J g tt (t D) vs σ (upd H1 D (.lst [])) fun H' => Q (.ref D) H'
section
variable {X : Cx}
theorem lcN_core {pins : List (Addr × Obj)} {s : Shared} {σ : L2.St} {H : Hp} {Q : VK} {elt tg iter : Expr} {ifs : List Expr} {rest : List Comprehension} {scope : Scope} {own : List (Str × Nat)} {pos pos' : Pos} {wi : TI} {g : TG} {tt : TT} {t : Addr → TIn} {vs' : List Nat} {use : Option (Value → Sem Unit)}
    {Qf : Value → Shared → Prop} (hc : X.calm = true) (hN : X.N.Nodup) (I : L2.Inv X pins σ H s) (hi : PI X tg iter wi) (ok : BlkOk X.N X.env.scope scope own)
    (hg : ∀ (s : Shared) (H : Hp) (C : Addr) (cl : List (Str × Addr)) (fp : List Addr), PG (X.blk s H scope (compEnvC scope cl C X.env) fp) tg g)
    (ht : ∀ (s : Shared) (H : Hp) (C : Addr) (cl : List (Str × Addr)) (fp : List Addr), PTs (X.blk s H scope (compEnvC scope cl C X.env) fp) ifs tt)
    (hb : ∀ (s : Shared) (H : Hp) (C : Addr) (cl : List (Str × Addr)) (fp : List Addr) (D : Addr), PIn (X.blk s H scope (compEnvC scope cl C X.env) fp) elt (⟨tg, iter, ifs, 0⟩ :: rest) scope pos 1 D vs' (t D)) (sub : ∀ i ∈ vs', i ∈ own.map (·.2))
    (hn : ∀ c, rest[0]? = some c → c.is_async = 0) (hs : ∀ x, foldedSetIterable iter X.env x = pure x) (h : tLcN wi g tt t (own.map (·.2)) σ H Q)
    (last : ∀ D C s' m H', L2.Inv X pins σ H' s' → Q (.ref D) H' → s'.heap.Ns C m → FpOk X pins H' C → compPost (model X.prog X.w) X.A X.xe use Qf (.ref D) C (.ok .next) s') :
    wpAny (model X.prog X.w) X.A (comprehension (.ListComp elt (⟨tg, iter, ifs, 0⟩ :: rest) scope pos) scope X.env pos' (newList []) false (eval iter X.env) use) Qf X.xe s := by
  have free : ∀ y ∈ scope.names, y.2 = .free → ∃ c, X.env.cells.lookup y.1 = some c := fun y hy e => (ok.free y hy e).elim (fun z => I.ok.has _ (.inl z)) fun z => I.ok.has _ (.inr z)
  refine wpAny_comprehension_free (use := use) rfl hs (closure_ok free) ok.kind (fun y hy e => by rw [ok.uniq y hy, e]) (thn (hi.run pins s σ H _ I h) fun xv s1 hx1 => thn hx1 fun itv s2 h2 => ?_)
  obtain ⟨it, fp, tn, J, H2, rfl, I2, T, st2, f2, q⟩ := h2
  refine wpAny_newObj_type (newEnv_comp ?_) (by show 0 ≤ sizeLine; decide)
  have dn : H2 s2.heap.objs.size = none := I2.hok.fresh (Nat.le_refl _)
  have run := q _ dn
  obtain ⟨s3, e3⟩ : ∃ s3 : Shared, s3 = { s2 with heap := s2.heap.push { cls := .type "list", data := .seq ([] : List Value).toArray } } := ⟨_, rfl⟩
  rw [← e3]
  have heap3 : s3.heap = s2.heap.push { cls := .type "list", data := .seq ([] : List Value).toArray } := by rw [e3]
  have I3 : L2.Inv X pins σ (upd H2 s2.heap.objs.size (.lst [])) s3 := by
    rw [e3]
    exact I2.laid (t' := s2.toks) (fun b o e => Heap.get?_push_of_some _ e) (Nat.le_refl _) ⟨Nat.zero_le _, [], 0, .nil, Heap.get?_push_size _ rfl⟩
  have st3 : tn 0 s3.heap := T.keep _ _ _ st2 fun b _ o e => by
    rw [heap3]
    exact Heap.get?_push_of_some _ e
  have low : ∀ b ∈ fp, b ≠ s2.heap.objs.size ∧ b < s3.heap.objs.size := fun b hb => by
    obtain ⟨o, e, _⟩ := T.obj _ _ st2 b hb
    have lt := Heap.lt_size e
    exact ⟨Nat.ne_of_lt lt, by rw [heap3, Heap.size_push]; exact Nat.lt_succ_of_lt lt⟩
  generalize s2.heap.objs.size = D at run I3 heap3 dn low ⊢
  have f3 : ∀ b ∈ fp, FpOk X pins (upd H2 D (.lst [])) b ∧ b < s3.heap.objs.size := fun b hb => ⟨⟨by rw [upd_ne (low b hb).1]; exact (f2 b hb).1, (f2 b hb).2⟩, (low b hb).2⟩
  have I4 := block_start I3 ok hN f3
  have bg := hg s3 (upd H2 D (.lst [])) s3.heap.objs.size (cellsFrom (s3.heap.objs.size + 1) scope.names (cloFrom X.env.cells scope.names [])) fp
  have bt := ht s3 (upd H2 D (.lst [])) s3.heap.objs.size (cellsFrom (s3.heap.objs.size + 1) scope.names (cloFrom X.env.cells scope.names [])) fp
  have bb := hb s3 (upd H2 D (.lst [])) s3.heap.objs.size (cellsFrom (s3.heap.objs.size + 1) scope.names (cloFrom X.env.cells scope.names [])) fp D
  show codeAny (model X.prog X.w) X.A (.compStart _ 0 (.ref it) (.ref D) (compEnvC scope (cellsFrom (s3.heap.objs.size + 1) scope.names (cloFrom X.env.cells scope.names [])) s3.heap.objs.size X.env)) _ { s3 with heap := pushCells (s3.heap.push { cls := .type "dict", data := .dict #[] }) scope.names }
  have none3 : ∀ b ∈ fp, upd H2 D (.lst []) b = none := fun b hb => (f3 b hb).1.1
  obtain ⟨ce, ece⟩ : ∃ ce, ce = compEnvC scope (cellsFrom (s3.heap.objs.size + 1) scope.names (cloFrom X.env.cells scope.names [])) s3.heap.objs.size X.env := ⟨_, rfl⟩
  rw [← ece] at I4 bg bt bb ⊢
  have here : ce.locals = s3.heap.objs.size := by
    rw [ece]
    rfl
  obtain ⟨s4, e4⟩ : ∃ s4 : Shared, s4 = { s3 with heap := pushCells (s3.heap.push { cls := .type "dict", data := .dict #[] }) scope.names } := ⟨_, rfl⟩
  rw [← e4] at I4 ⊢
  have st4 : tn 0 s4.heap := T.keep _ _ _ st3 fun b _ o e => by
    rw [e4]
    exact pushCells_keeps _ _ _ _ (Heap.get?_push_of_some _ e)
  have in4 : ∀ b ∈ fp, FpOk (X.blk s3 (upd H2 D (.lst [])) scope ce fp) [] (upd H2 D (.lst [])) b := fun b hb => ⟨none3 b hb, (I4.ok.exf b hb).1, I4.ok.exfs b hb, .inl hb, fun x c e => (I4.ok.exf b hb).2 x c e, fun p hp => (nomatch (show p ∈ ([] : List (Addr × Obj)) ++ [] from hp))⟩
  have loop := loop_run (Y := X.blk s3 (upd H2 D (.lst [])) scope ce fp) (fun _ _ z => z) hc (rfl : ((⟨tg, iter, ifs, 0⟩ :: rest : List Comprehension))[0]? = some ⟨tg, iter, ifs, 0⟩) hn bg bt bb sub I4 T st4 in4 run
  have loop' : codeAny (model X.prog X.w) X.A (.compLoop (.ListComp elt (⟨tg, iter, ifs, 0⟩ :: rest) scope pos) 0 (.ref it) (.ref D) ce) (compPost (model X.prog X.w) X.A X.xe use Qf (.ref D) s3.heap.objs.size) s4 := by
    refine codeAny_mono loop fun r s' z => ?_
    match r with
    | .error e => exact z.elim
    | .ok f =>
      obtain ⟨rfl, H', I6, qq⟩ := z
      have I7 : L2.Inv X pins σ H' s' := I3.call' (ch := fp) I6.os I6.base I6.hok I6.bare fun b hb => by
        obtain ⟨_, z1, z2, z3, z4⟩ := (f3 b hb).1
        exact ⟨z3, z1, z4.1, z4.2⟩
      have gone : H' s3.heap.objs.size = none := by
        have z : H' ce.locals = none := I6.free
        rw [here] at z
        exact z
      obtain ⟨m, nm, _⟩ := I6.loc
      have nm : s'.heap.Ns ce.locals m := nm
      rw [here] at nm
      exact last D s3.heap.objs.size s' m H' I7 qq nm (I3.fpOk (Nat.le_refl _) gone)
  exact codeAny_compStart_list loop' (T.self X.A 0 _ _ _ st4 loop')
/-- as a value -/
theorem pe_lcN {elt tg iter : Expr} {ifs : List Expr} {rest : List Comprehension} {scope : Scope} {own : List (Str × Nat)} {pos : Pos} {wi : TI} {g : TG} {tt : TT} {t : Addr → TIn} {vs' : List Nat} (hc : X.calm = true) (hN : X.N.Nodup) (hi : PI X tg iter wi) (ok : BlkOk X.N X.env.scope scope own)
    (hg : ∀ (s : Shared) (H : Hp) (C : Addr) (cl : List (Str × Addr)) (fp : List Addr), PG (X.blk s H scope (compEnvC scope cl C X.env) fp) tg g)
    (ht : ∀ (s : Shared) (H : Hp) (C : Addr) (cl : List (Str × Addr)) (fp : List Addr), PTs (X.blk s H scope (compEnvC scope cl C X.env) fp) ifs tt)
    (hb : ∀ (s : Shared) (H : Hp) (C : Addr) (cl : List (Str × Addr)) (fp : List Addr) (D : Addr), PIn (X.blk s H scope (compEnvC scope cl C X.env) fp) elt (⟨tg, iter, ifs, 0⟩ :: rest) scope pos 1 D vs' (t D)) (sub : ∀ i ∈ vs', i ∈ own.map (·.2))
    (hn : ∀ c, rest[0]? = some c → c.is_async = 0) (hs : ∀ x, foldedSetIterable iter X.env x = pure x := by intro _; rfl) : PE X (.ListComp elt (⟨tg, iter, ifs, 0⟩ :: rest) scope pos) (tLcN wi g tt t (own.map (·.2))) := by
  refine ⟨fun pins s σ H Q I h => ?_⟩
  rw [eval_ListComp]
  refine lcN_core hc hN I hi ok hg ht hb sub hn hs h fun D C s' m H' I' q nm f => ⟨m, nm, fun h'' sb => ?_⟩
  obtain ⟨f0, f1, _, f3, f4, f5⟩ := f
  exact ⟨.ref D, H', I'.turned (t' := s'.toks) (fun b o ne e => (sb.2 b ne).trans e) f0 f1 f3 f4 f5, rfl, q⟩
end
end KZ

namespace KZ
open PySem PySem.Spec PyProof.Rows L2
/-! range(n) as a value, walked -/
def rRg1 : List V → Hp → VK → Prop := fun vs H Q => ∃ j : Int, vs = [.int j] ∧ ∀ p, H p = none → Q (.ref p) (upd H p (.rng 0 j))
theorem call_rg1 {X : Cx} : CallR X (.type "range") rRg1 := by
  intro pins s σ H vs us Q I r h
  obtain ⟨j, rfl, q⟩ := h
  obtain ⟨u1, rfl, rj⟩ := vals1 r
  obtain ⟨t, rfl⟩ := rj
  refine call_range_1 ⟨.ref s.heap.objs.size, upd H s.heap.objs.size (.rng 0 j), I.laid (t' := s.toks + 1 + 1) (fun b o e => Heap.get?_push_of_some _ e) (Nat.le_refl _) ?_, rfl, q _ (I.hok.fresh (Nat.le_refl _))⟩
  exact ⟨_, _, _, Heap.get?_push_size _ rfl⟩
def iRgV (tl : TE) : TI := fun σ H R => tl σ H fun x H1 => ∃ (a : Addr) (lo hi : Int), x = .ref a ∧ H1 a = some (.rng lo hi) ∧ (-(2 ^ 62) ≤ lo ∧ lo < 2 ^ 62 ∧ -(2 ^ 62) ≤ hi ∧ hi < 2 ^ 62) ∧ R (Itr lo (hi - lo).toNat) H1
theorem pi_rgV {X : Cx} {tg l : Expr} {tl : TE} (hl : PE X l tl) : PI X tg l (iRgV tl) := by
  refine ⟨fun pins s σ H R I h => ?_⟩
  refine thn (hl.run pins s σ H _ I h) fun v s1 ⟨x, H1, I1, r1, a, lo, hi, ex, ha, ⟨b1, b2, b3, b4⟩, q⟩ => ?_
  subst ex
  cases r1
  obtain ⟨t, u, w, hg⟩ := I1.hok a _ ha
  refine wpAny_pyIter_range (t := t) (u := u) (v := w) hg (small_one b1 b2 b3 b4) ?_
  have I2 : L2.Inv X pins σ H1 { s1 with heap := s1.heap.push { cls := .type "range_iterator", data := .fields #[rawInt lo, rawInt (Builtin.Range.rangeSize lo hi 1), rawInt 1] } } := I1.kept (t' := s1.toks) fun b o e => Heap.get?_push_of_some _ e
  refine ⟨s1.heap.objs.size, [s1.heap.objs.size], _, _, H1, rfl, I2, turn_range _ lo (hi - lo).toNat, ?_, fun b hb => ?_, q⟩
  · have e1 : lo + ((0 : Nat) : Int) * 1 = lo := by simp
    have e2 : (((hi - lo).toNat : Nat) : Int) - ((0 : Nat) : Int) = Builtin.Range.rangeSize lo hi 1 := by
      rw [rangeSize_one]
      split <;> omega
    show IsRangeIter _ _ (lo + ((0 : Nat) : Int) * 1) ((((hi - lo).toNat : Nat) : Int) - ((0 : Nat) : Int)) 1
    rw [e1, e2]
    exact Heap.get?_push_size _ rfl
  · rw [List.mem_singleton.mp hb]
    exact I1.fpOk (Nat.le_refl _) (I1.hok.fresh (Nat.le_refl _))
/-! the turns of a clause, by what is true ahead of each -/
theorem run_range {lo : Int} {n : Nat} {g : TG} {tt : TT} {t : TIn} {vs : List Nat} {σ : L2.St} {H : Hp} {Nx : Hp → Prop} (Pv : Nat → Hp → Prop) (h0 : Pv 0 H)
    (hs : ∀ i H, i < n → Pv i H → g (.int (lo + i)) (wipe σ vs) H fun σ2 H2 => wipe σ2 vs = wipe σ vs ∧ tt σ2 H2 fun b H3 => if b = true then t σ2 H3 (Pv (i + 1)) else Pv (i + 1) H3) (hd : ∀ H, Pv n H → Nx H) : tRun (Itr lo n) g tt t vs σ H Nx := by
  refine ⟨fun i m H => m = n - i ∧ i ≤ n ∧ Pv i H, ⟨n, by simp, Nat.zero_le _, h0⟩, ?_⟩
  rintro i m H2 ⟨rfl, hi, p⟩
  by_cases lt : i < n
  · refine Or.inr ⟨lt, Pv (i + 1), fun H' p' => ⟨n - (i + 1), by omega, rfl, lt, p'⟩, fun x H' y => ?_⟩
    obtain ⟨rfl, rfl⟩ := y
    exact hs i _ lt p
  · have e : i = n := by omega
    subst e
    exact Or.inl ⟨Nat.le_refl _, hd H2 p⟩
theorem run_tup {K : PySem.W.Frag} {a : Addr} {xs : List V} {g : TG} {tt : TT} {t : TIn} {vs : List Nat} {σ : L2.St} {H : Hp} {Nx : Hp → Prop} (Pv : Nat → Hp → Prop) (h0 : Pv 0 H) (hl : ∀ i H, i ≤ xs.length → Pv i H → SqT K H a xs)
    (hs : ∀ i x H, xs[i]? = some x → Pv i H → g x (wipe σ vs) H fun σ2 H2 => wipe σ2 vs = wipe σ vs ∧ tt σ2 H2 fun b H3 => if b = true then t σ2 H3 (Pv (i + 1)) else Pv (i + 1) H3) (hd : ∀ H, Pv xs.length H → Nx H) : tRun (Itt K a) g tt t vs σ H Nx := by
  refine ⟨fun i m H => m = xs.length - i ∧ i ≤ xs.length ∧ Pv i H, ⟨xs.length, by simp, Nat.zero_le _, h0⟩, ?_⟩
  rintro i m H2 ⟨rfl, hi, p⟩
  have sq := hl i H2 hi p
  by_cases lt : i < xs.length
  · refine Or.inr ⟨⟨xs, xs[i], sq, by simp [lt]⟩, Pv (i + 1), fun H' p' => ⟨xs.length - (i + 1), by omega, rfl, lt, p'⟩, fun x H' y => ?_⟩
    obtain ⟨rfl, y⟩ := y
    exact hs i x _ (y xs sq) p
  · have e : i = xs.length := by omega
    subst e
    exact Or.inl ⟨⟨xs, sq, Nat.le_refl _⟩, hd H2 p⟩
end KZ

namespace KZ
open PySem PySem.Spec PyProof.Rows L2
/-! several except clauses, some of them with a name -/
/-- a clause: the class, the slot of its name if it has one, its suite -/
structure Clause where
  c : Value
  slot : Option Nat
  ts : Addr → Value → Option Addr → TS
def unnamed (i : Nat) (D : Ends) : Ends := { nx := fun σ H => D.nx (σ.set i none) H, rt := D.rt, bk := fun σ H => D.bk (σ.set i none) H, ct := fun σ H => D.ct (σ.set i none) H }
def Clause.run (q : Clause) (a : Addr) (cls : Value) (d : Option Addr) (D : Ends) (σ : L2.St) (H : Hp) : Prop := match q.slot with
  | none => q.ts a cls d D σ H
  | some i => i < σ.length → q.ts a cls d (unnamed i D) (σ.set i (some (.ref a))) H
def wClauses (K : PySem.W.Frag) (Wout : WX) (D : Ends) : List Clause → WX
  | [] => Wout
  | q :: r => fun cls d σ H => ∃ b, PySem.W.exmOne K cls q.c = some b ∧ (b = true → ∀ a, H a = none → q.run a cls d D σ H) ∧ (b = false → wClauses K Wout D r cls d σ H)
inductive Clauses (X : Cx) : List ExceptHandler → List Clause → Prop
  | nil : Clauses X [] []
  | bare {x : Str} {c : Value} {ts : Addr → Value → Option Addr → TS} {b0 : Stmt} {bs : List Stmt} {np p : Pos} {hds : List ExceptHandler} {l : List Clause} (known : Names X x c)
      (suite : ∀ (a : Addr) (oe : Obj) (cls : Value) (d : Option Addr) (pn : List (Addr × Obj)), Zc cls d oe → (∃ vs, oe.data = .fields vs) → PSs (X.suite a ((a, oe) :: pn)) (b0 :: bs) (ts a cls d)) (r : Clauses X hds l) :
      Clauses X (.ExceptHandler (some (.Name x np)) none (b0 :: bs) p :: hds) (⟨c, none, ts⟩ :: l)
  | named {x n : Str} {i : Nat} {c : Value} {ts : Addr → Value → Option Addr → TS} {b0 : Stmt} {bs : List Stmt} {np p : Pos} {hds : List ExceptHandler} {l : List Clause} (known : Names X x c) (at_ : X.N[i]? = some n) (loc : X.env.kindOf n = some .local)
      (suite : ∀ (a : Addr) (oe : Obj) (cls : Value) (d : Option Addr) (pn : List (Addr × Obj)), Zc cls d oe → (∃ vs, oe.data = .fields vs) → PSs (X.suite a ((a, oe) :: pn)) (b0 :: bs) (ts a cls d)) (r : Clauses X hds l) :
      Clauses X (.ExceptHandler (some (.Name x np)) (some n) (b0 :: bs) p :: hds) (⟨c, some i, ts⟩ :: l)
section
variable {X : Cx} {body : List Stmt} {h0 : ExceptHandler} {hds : List ExceptHandler} {l : List Clause} {pos : Pos} {tb : WX → TS} {Wout : WX}
theorem ps_try_named (hs : X.stack = X.env :: X.outer) (hf : X.env.frame = some X.env.locals) (nd : X.N.Nodup) (tk : Takes X Wout)
    (hb : ∀ (W : WX) (pn : List (Addr × Obj)) (xe : Value → Shared → Prop), Takes (X.tr pn xe) W → PassesOwn (model X.prog X.w) X.A X.env xe → PSs (X.tr pn xe) body (tb W)) (hh : Clauses X (h0 :: hds) l) :
    PS X (.Try body (h0 :: hds) [] [] pos) (fun D σ H => tb (wClauses X.K Wout D l) D σ H) := by
  refine ⟨fun pins s σ H D I wish => ?_⟩
  have inn := I.ok
  have frames : X.A.frames = some (X.env :: X.outer) := by rw [inn.frames, hs]
  refine wpAny_Try_except ?_
  let look : Value → Shared → Prop := fun e t1 => wpAny (model X.prog X.w) X.A (noteFrame e X.env) (fun _ t2 => wpAny (model X.prog X.w) X.A (setFlight e none) (fun _ t3 => wpAny (model X.prog X.w) X.A (handleBy e X.env (h0 :: hds)) (SP X pins D) X.xe t3) X.xe t2) X.xe t1
  refine wpAny_mono ((hb (wClauses X.K Wout D l) (X.pn ++ pins) look (fun u t came => ?_) PassesOwn.looking).run [] s σ H D (I.toTry _) wish) (fun fl t out => ?_) (fun e t z => z)
  · obtain ⟨a, B, sI, pins', σ1, H1, cls, d, rfl, Jt, nb, up, sky, na, os, ag, wants⟩ := came
    have J : L2.Inv X pins σ1 H1 sI := Jt.ofTry inn
    have skyX : Sky B (X.env :: X.outer) a (Zc cls d) X.env.locals t.heap := by
      rw [← hs]
      exact sky
    show wpAny (model X.prog X.w) X.A (noteFrame (.ref a) X.env) _ _ _
    refine Sky.land Zc.steady frames hf skyX fun g1 land1 up1 => ?_
    have K1 : L2.Inv X pins σ1 H1 { t with heap := g1 } := J.landed nb land1.1 (up.trans up1) os ag
    obtain ⟨ob, fv, eb, zb, db⟩ := land1.there
    have notIn : a ∉ frs (X.env :: X.outer) := fun hm => by
      obtain ⟨_, o', e', other⟩ := land1.2.2.1.mem hm
      rw [eb] at e'
      cases e'
      exact other _ db
    have notL : a ≠ X.env.locals := fun z => notIn (List.mem_filterMap.mpr ⟨X.env, List.mem_cons_self, by rw [hf, z]⟩)
    have notF : a ∉ X.fs := fun hm => by
      obtain ⟨e, he, q⟩ := List.mem_filterMap.mp hm
      exact notIn (List.mem_filterMap.mpr ⟨e, List.mem_cons_of_mem _ he, q⟩)
    have L1 := K1.suite eb db na notL notF
    -- the test of one clause
    have asked : ∀ {x : Str} {c : Value} {np : Pos} {Q : Value → Shared → Prop} {E : Value → Shared → Prop}, Names X x c → Q c { t with heap := g1 } → wpAny (model X.prog X.w) (X.A.mark (some (.ref a))) (eval (.Name x np) X.env) Q E { t with heap := g1 } := fun {x c np Q E} known q => by
      obtain ⟨k1, k2, k3 | ⟨k3, k4, k5⟩⟩ := known
      · exact ld_glob (X := X.suite a ((a, ob) :: (X.pn ++ pins))) L1 k1 k3 q k2
      · exact ld_blt (X := X.suite a ((a, ob) :: (X.pn ++ pins))) L1 k1 k3 k4 q k5 k2
    have looks : PySem.W.Looks (model X.prog X.w) g1 (typeOf (.ref a)) cls := fun A Q E s k q => wpAny_typeOf_ref (k _ _ eb) (by
      rw [zb.1]
      exact q)
    have every : ∀ {hs' : List ExceptHandler} {l' : List Clause}, Clauses X hs' l' → wClauses X.K Wout D l' cls d σ1 H1 → wpAny (model X.prog X.w) X.A (handleBy (.ref a) X.env hs') (SP X pins D) X.xe { t with heap := g1 } := by
      intro hs' l' cl
      induction cl with
      | nil =>
        intro want
        refine wpAny_handleBy_nil ?_
        obtain ⟨_, _, _, oe, vs, T1, oT, ts', e1, e2, e3, e4, _⟩ := id land1
        unfold PySem.passOn
        refine wpAny_bind (wpAny_field e1 e3 e4 ?_)
        rw [if_neg (show ¬ ((Value.ref T1 == Value.none) = true) from by simp)]
        have away : wpAny (model X.prog X.w) X.A (setFlight (.ref a) X.env.frame) (fun _ t4 => wpAny (model X.prog X.w) X.A (throw (.ref a) : Sem Flow) (SP X pins D) X.xe t4) X.xe { t with heap := g1 } := by
          rw [hf]
          refine HandSPX.setFlight_upZ land1 fun g2 here2 up2 => wpAny_throw (tk _ _ ?_)
          exact ⟨a, B, sI, pins, σ1, H1, cls, d, rfl, J, nb, (up.trans up1).trans up2, .inr (.inr (by rw [hs]; exact here2)), na, os, ag, want⟩
        first
          | exact wpAny_bind (wpAny_pure (wpAny_bind away))
          | exact wpAny_bind away
      | @bare x c ts b0 bs np p hds2 l2 known suite r ih =>
        intro want
        obtain ⟨b, eq, yes, no⟩ := want
        refine wpAny_handleBy_cons (codeAny_handlers_test ?_) (by intro q; cases q)
        refine asked known ((PySem.W.exm_one (M := model X.prog X.w) K1.kIn looks eq).here ?_)
        match b with
        | true =>
          refine codeAny_handlers_suite ?_
          refine HandSPX.lands_againZ land1 fun g2 land2 up2 => ?_
          have K2 : L2.Inv X pins σ1 H1 { t with heap := g2 } := J.landed nb land2.1 ((up.trans up1).trans up2) os ag
          obtain ⟨oc, fc, ec, zc, dc⟩ := land2.there
          refine wpAny_mono ((suite a oc cls d (X.pn ++ pins) zc ⟨_, dc⟩).run [] _ _ H1 _ (K2.suite ec dc na notL notF) (yes rfl a na)) (fun fl t6 out => ?_) (fun _ _ z => False.elim z)
          match fl with
          | .next =>
            obtain ⟨σ6, H6, S6, q6⟩ := out
            exact ⟨_, _, S6.unsuite inn, q6⟩
          | .brk =>
            obtain ⟨σ6, H6, S6, q6⟩ := out
            exact ⟨_, _, S6.unsuite inn, q6⟩
          | .cont =>
            obtain ⟨σ6, H6, S6, q6⟩ := out
            exact ⟨_, _, S6.unsuite inn, q6⟩
          | .ret u =>
            obtain ⟨v6, σ6, H6, S6, r6, q6⟩ := out
            exact ⟨_, _, _, S6.unsuite inn, r6, q6⟩
        | false =>
          show wpAny _ X.A (handleBy (.ref a) X.env hds2) _ _ _
          exact ih (no rfl)
      | @named x n i c ts b0 bs np p hds2 l2 known at_ loc suite r ih =>
        intro want
        obtain ⟨b, eq, yes, no⟩ := want
        refine wpAny_handleBy_cons (codeAny_handlers_test ?_) (by intro q; cases q)
        refine asked known ((PySem.W.exm_one (M := model X.prog X.w) K1.kIn looks eq).here ?_)
        match b with
        | true =>
          refine codeAny_handlers_suite_as ?_
          refine HandSPX.lands_againZ land1 fun g2 land2 up2 => ?_
          have K2 : L2.Inv X pins σ1 H1 { t with heap := g2 } := J.landed nb land2.1 ((up.trans up1).trans up2) os ag
          obtain ⟨oc, fc, ec, zc, dc⟩ := land2.there
          refine store_ok (X := X.suite a ((a, oc) :: (X.pn ++ pins))) (v := .ref a) (K2.suite ec dc na notL notF) nd at_ (.inl loc) rfl (fun t5 S5 => ?_) (.inr loc)
          refine wpAny_mono ((suite a oc cls d (X.pn ++ pins) zc ⟨_, dc⟩).run [] t5 _ H1 _ S5 (yes rfl a na (by rw [J.len]; exact (List.getElem?_eq_some_iff.mp at_).1))) (fun fl t6 out => ?_) (fun _ _ z => False.elim z)
          have leave : ∀ {σ6 : L2.St} {H6 : Hp} {Q : Shared → Prop}, L2.Inv (X.suite a ((a, oc) :: (X.pn ++ pins))) [] σ6 H6 t6 → (∀ t7, L2.Inv X pins (σ6.set i none) H6 t7 → Q t7) →
              wpAny (model X.prog X.w) X.A (do bindName X.env n .none; unbindBehindTheSuite X.env n p) (fun _ t7 => Q t7) X.xe t6 := fun S6 q => gone_ok (S6.unsuite inn) nd at_ loc q
          match fl with
          | .next =>
            obtain ⟨σ6, H6, S6, q6⟩ := out
            exact leave S6 fun t7 J7 => ⟨_, _, J7, q6⟩
          | .brk =>
            obtain ⟨σ6, H6, S6, q6⟩ := out
            exact leave S6 fun t7 J7 => ⟨_, _, J7, q6⟩
          | .cont =>
            obtain ⟨σ6, H6, S6, q6⟩ := out
            exact leave S6 fun t7 J7 => ⟨_, _, J7, q6⟩
          | .ret u =>
            obtain ⟨v6, σ6, H6, S6, r6, q6⟩ := out
            exact leave S6 fun t7 J7 => ⟨_, _, _, J7, r6, q6⟩
        | false =>
          show wpAny _ X.A (handleBy (.ref a) X.env hds2) _ _ _
          exact ih (no rfl)
    exact every hh wants
  · match fl with
    | .next =>
      obtain ⟨σ', H', J', q⟩ := out
      exact wpAny_execs_nil ⟨σ', H', J'.ofTry inn, q⟩
    | .brk =>
      obtain ⟨σ', H', J', q⟩ := out
      exact ⟨σ', H', J'.ofTry inn, q⟩
    | .cont =>
      obtain ⟨σ', H', J', q⟩ := out
      exact ⟨σ', H', J'.ofTry inn, q⟩
    | .ret u =>
      obtain ⟨v, σ', H', J', r, q⟩ := out
      exact ⟨v, σ', H', J'.ofTry inn, r, q⟩
end
end KZ

namespace KZ
open PySem PySem.Spec PyProof.Rows L2

/-! data under a heap that tells more -/
def Sub (H H' : Hp) : Prop := ∀ a o, H a = some o → H' a = some o
theorem Sub.refl (H : Hp) : Sub H H := fun _ _ h => h
theorem Sub.trans {A B C : Hp} (x : Sub A B) (y : Sub B C) : Sub A C := fun a o h => y a o (x a o h)
theorem Sub.rd {H H' : Hp} (k : Sub H H') {a : Addr} {u : HO} (h : Rd H a u) : Rd H' a u :=
  h.elim (fun h => Or.inl (k _ _ h)) fun ⟨o, h⟩ => Or.inr ⟨o, k _ _ h⟩
theorem Sub.sqL {K : PySem.W.Frag} {H H' : Hp} (k : Sub H H') {a : Addr} {xs : List V} (h : SqL K H a xs) : SqL K H' a xs :=
  h.elim (fun h => Or.inl (k.rd h)) Or.inr
theorem Sub.sqT {K : PySem.W.Frag} {H H' : Hp} (k : Sub H H') {a : Addr} {xs : List V} (h : SqT K H a xs) : SqT K H' a xs :=
  h.elim (fun h => Or.inl (k.rd h)) Or.inr
mutual
theorem Sub.dp {K : PySem.W.Frag} {H H' : Hp} (k : Sub H H') : ∀ (d : PyData) (v : V), Dp K H v d → Dp K H' v d
  | .none, _, h => by
    cases h
    exact .non
  | .bool b, _, h => by
    cases h
    exact .bl b
  | .int i, _, h => by
    cases h
    exact .int i
  | .str x, _, h => by
    cases h
    exact .str x
  | .list ds, _, h => by
    cases h with
    | lst hs ha => exact .lst (k.sqL hs) (Sub.dps k ds _ ha)
  | .tuple ds, _, h => by
    cases h with
    | tup hs ha => exact .tup (k.sqT hs) (Sub.dps k ds _ ha)
  | .dict _, _, h => by cases h
theorem Sub.dps {K : PySem.W.Frag} {H H' : Hp} (k : Sub H H') : ∀ (ds : List PyData) (vs : List V), DpAll K H vs ds → DpAll K H' vs ds
  | [], _, h => by
    cases h
    exact .nil
  | d :: ds, _, h => by
    cases h with
    | cons h1 h2 => exact .cons (Sub.dp k d _ h1) (Sub.dps k ds _ h2)
end
end KZ
namespace L2
open PySem PySem.Spec PyProof.Rows
theorem DpAll.len {K : PySem.W.Frag} {H : Hp} : ∀ {ds : List PyData} {vs : List V}, DpAll K H vs ds → vs.length = ds.length
  | [], _, h => by
    cases h
    rfl
  | d :: ds, _, h => by
    cases h with
    | cons h1 h2 => rw [List.length_cons, List.length_cons, DpAll.len h2]
theorem DpAll.get {K : PySem.W.Frag} {H : Hp} : ∀ {ds : List PyData} {vs : List V} {i : Nat} {d : PyData}, DpAll K H vs ds → ds[i]? = some d → ∃ v, vs[i]? = some v ∧ Dp K H v d
  | [], _, _, _, _, e => by simp at e
  | d :: ds, _, 0, _, h, e => by
    cases h with
    | cons h1 h2 => exact ⟨_, rfl, by rw [← Option.some.inj e]; exact h1⟩
  | d :: ds, _, i + 1, _, h, e => by
    cases h with
    | cons h1 h2 => exact DpAll.get (i := i) h2 e
theorem DpAll.get' {K : PySem.W.Frag} {H : Hp} {ds : List PyData} {vs : List V} {i : Nat} {v : V} (h : DpAll K H vs ds) (e : vs[i]? = some v) : ∃ d, ds[i]? = some d ∧ Dp K H v d := by
  have hi : i < ds.length := by rw [← h.len]; exact (List.getElem?_eq_some_iff.mp e).1
  obtain ⟨w, hw, q⟩ := h.get (List.getElem?_eq_getElem hi)
  rw [e] at hw
  cases hw
  exact ⟨_, List.getElem?_eq_getElem hi, q⟩
theorem DpAll.app {K : PySem.W.Frag} {H : Hp} : ∀ {ds : List PyData} {vs ws : List V} {es : List PyData}, DpAll K H vs ds → DpAll K H ws es → DpAll K H (vs ++ ws) (ds ++ es)
  | [], _, _, _, h, g => by
    cases h
    exact g
  | d :: ds, _, _, _, h, g => by
    cases h with
    | cons h1 h2 => exact .cons h1 (DpAll.app h2 g)
theorem DpAll.one {K : PySem.W.Frag} {H : Hp} {v : V} {d : PyData} (h : Dp K H v d) : DpAll K H [v] [d] := .cons h .nil
theorem DpAll.drop {K : PySem.W.Frag} {H : Hp} : ∀ (n : Nat) {ds : List PyData} {vs : List V}, DpAll K H vs ds → DpAll K H (vs.drop n) (ds.drop n)
  | 0, _, _, h => h
  | n + 1, [], _, h => by
    cases h
    exact .nil
  | n + 1, d :: ds, _, h => by
    cases h with
    | cons h1 h2 => exact DpAll.drop n h2
theorem DpAll.take {K : PySem.W.Frag} {H : Hp} : ∀ (n : Nat) {ds : List PyData} {vs : List V}, DpAll K H vs ds → DpAll K H (vs.take n) (ds.take n)
  | 0, _, _, h => .nil
  | n + 1, [], _, h => by
    cases h
    exact .nil
  | n + 1, d :: ds, _, h => by
    cases h with
    | cons h1 h2 => exact .cons h1 (DpAll.take n h2)

end L2
namespace KZ
open PySem PySem.Spec PyProof.Rows L2
/-! data outside of some places -/
def er (M : List Addr) (H : Hp) : Hp := fun a => if a ∈ M then none else H a
theorem er_in {M : List Addr} {H : Hp} {a : Addr} (h : a ∉ M) : er M H a = H a := if_neg h
theorem er_sub (M : List Addr) (H : Hp) : Sub (er M H) H := fun a o h => by
  unfold er at h
  by_cases z : a ∈ M
  · rw [if_pos z] at h
    cases h
  · rw [if_neg z] at h
    exact h
/-- what stood outside of M stands -/
def Kp (M : List Addr) (H H' : Hp) : Prop := ∀ a o, a ∉ M → H a = some o → H' a = some o
theorem Kp.refl (M : List Addr) (H : Hp) : Kp M H H := fun _ _ _ h => h
theorem Kp.trans {M : List Addr} {A B C : Hp} (x : Kp M A B) (y : Kp M B C) : Kp M A C := fun a o m h => y a o m (x a o m h)
theorem Kp.less {M M' : List Addr} {H H' : Hp} (k : Kp M H H') (m : ∀ a ∈ M, a ∈ M') : Kp M' H H' := fun a o n h => k a o (fun z => n (m a z)) h
theorem Kp.er {M : List Addr} {H H' : Hp} (k : Kp M H H') : Sub (er M H) (er M H') := fun a o h => by
  by_cases z : a ∈ M
  · unfold KZ.er at h
    rw [if_pos z] at h
    cases h
  · rw [er_in z] at h ⊢
    exact k a o z h
theorem er_less {M M' : List Addr} (H : Hp) (m : ∀ a ∈ M, a ∈ M') : Sub (er M' H) (er M H) := fun a o h => by
  by_cases z : a ∈ M'
  · unfold KZ.er at h
    rw [if_pos z] at h
    cases h
  · rw [er_in z] at h
    rw [er_in fun y => z (m a y)]
    exact h
theorem Kp.new {M : List Addr} {H : Hp} {p : Addr} {o : HO} (h : H p = none) : Kp M H (upd H p o) := fun a u _ e => by
  rw [upd_ne (ne_of_none e h)]
  exact e
theorem Kp.mut {M : List Addr} {H : Hp} {p : Addr} {o : HO} (h : p ∈ M) : Kp M H (upd H p o) := fun a u n e => by
  rw [upd_ne fun z => n (by rw [z]; exact h)]
  exact e
/-- the places of M are known -/
def Kn (M : List Addr) (H : Hp) : Prop := ∀ a ∈ M, ∃ o, H a = some o
theorem Kn.new {M : List Addr} {H : Hp} (k : Kn M H) {p : Addr} {o : HO} : Kn M (upd H p o) := fun a m => by
  by_cases z : a = p
  · exact ⟨o, by rw [z]; exact upd_same⟩
  · rw [upd_ne z]
    exact k a m
theorem Kn.out {M : List Addr} {H : Hp} (k : Kn M H) {p : Addr} (h : H p = none) : p ∉ M := fun m => by
  obtain ⟨o, e⟩ := k p m
  rw [h] at e
  cases e
abbrev Dm (K : PySem.W.Frag) (M : List Addr) (H : Hp) (v : V) (d : PyData) : Prop := Dp K (er M H) v d
abbrev Dms (K : PySem.W.Frag) (M : List Addr) (H : Hp) (vs : List V) (ds : List PyData) : Prop := DpAll K (er M H) vs ds
section
variable {K : PySem.W.Frag} {M M' : List Addr} {H H' : Hp} {v : V} {d : PyData} {vs : List V} {ds : List PyData}
theorem Dm.k (h : Dm K M H v d) (k : Kp M H H') : Dm K M H' v d := Sub.dp k.er _ _ h
theorem Dms.k (h : Dms K M H vs ds) (k : Kp M H H') : Dms K M H' vs ds := Sub.dps k.er _ _ h
theorem Dm.less (h : Dm K M' H v d) (m : ∀ a ∈ M, a ∈ M') : Dm K M H v d := Sub.dp (er_less H m) _ _ h
theorem Dms.less (h : Dms K M' H vs ds) (m : ∀ a ∈ M, a ∈ M') : Dms K M H vs ds := Sub.dps (er_less H m) _ _ h
theorem Dm.all (h : Dm K M H v d) : Dp K H v d := Sub.dp (er_sub M H) _ _ h
theorem Dms.all (h : Dms K M H vs ds) : DpAll K H vs ds := Sub.dps (er_sub M H) _ _ h
/-- a fresh place may be set aside -/
theorem er_more {p : Addr} (h : H p = none) : er (p :: M) H = er M H := by
  funext a
  unfold er
  by_cases z : a = p
  · by_cases y : a ∈ M
    · rw [if_pos (List.mem_cons_of_mem _ y), if_pos y]
    · rw [if_pos (by rw [z]; exact List.mem_cons_self), if_neg y, z, h]
  · by_cases y : a ∈ M
    · rw [if_pos (List.mem_cons_of_mem _ y), if_pos y]
    · rw [if_neg (by intro q; rcases List.mem_cons.mp q with q | q; exact z q; exact y q), if_neg y]
theorem Dm.more {p : Addr} (h : Dm K M H v d) (hp : H p = none) : Dm K (p :: M) H v d := by
  show Dp K (er (p :: M) H) v d
  rw [er_more hp]
  exact h
theorem Dms.more {p : Addr} (h : Dms K M H vs ds) (hp : H p = none) : Dms K (p :: M) H vs ds := by
  show DpAll K (er (p :: M) H) vs ds
  rw [er_more hp]
  exact h
theorem Dm.tupNew {p : Addr} (n : Kn M H) (hp : H p = none) (h : Dms K M H vs ds) : Dm K M (upd H p (.tup vs)) (.ref p) (.tuple ds) :=
  .tup (SqT.of (by rw [er_in (n.out hp)]; exact upd_same)) (Dms.k h (Kp.new hp))
theorem Dm.lstNew {p : Addr} (n : Kn M H) (hp : H p = none) (h : Dms K M H vs ds) : Dm K M (upd H p (.lst vs)) (.ref p) (.list ds) :=
  .lst (SqL.of (by rw [er_in (n.out hp)]; exact upd_same)) (Dms.k h (Kp.new hp))
/-- a list that stands apart is data at last -/
theorem Dm.lstOf {p : Addr} (hp : p ∉ M) (e : H p = some (.lst vs)) (h : Dms K (p :: M) H vs ds) : Dm K M H (.ref p) (.list ds) :=
  .lst (SqL.of (by rw [er_in hp]; exact e)) (Dms.less h fun a m => List.mem_cons_of_mem _ m)
theorem Dm.tupAt (h : Dm K M H v (.tuple ds)) : ∃ a xs, v = .ref a ∧ SqT K H a xs ∧ Dms K M H xs ds := by
  cases h with
  | tup hs ha => exact ⟨_, _, rfl, (er_sub M H).sqT hs, ha⟩
theorem Dm.lstAt (h : Dm K M H v (.list ds)) : ∃ a xs, v = .ref a ∧ SqL K H a xs ∧ Dms K M H xs ds := by
  cases h with
  | lst hs ha => exact ⟨_, _, rfl, (er_sub M H).sqL hs, ha⟩
theorem Dm.lstAtE (h : Dm K M H v (.list ds)) : ∃ a xs, v = .ref a ∧ SqL K (er M H) a xs ∧ Dms K M H xs ds := by
  cases h with
  | lst hs ha => exact ⟨_, _, rfl, hs, ha⟩
theorem Dm.tupAtE (h : Dm K M H v (.tuple ds)) : ∃ a xs, v = .ref a ∧ SqT K (er M H) a xs ∧ Dms K M H xs ds := by
  cases h with
  | tup hs ha => exact ⟨_, _, rfl, hs, ha⟩
theorem Dm.intAt {i : Int} (h : Dm K M H v (.int i)) : v = .int i := by
  cases h
  rfl
theorem Dm.strAt {i : Str} (h : Dm K M H v (.str i)) : v = .str i := by
  cases h
  rfl
theorem Dm.blAt {i : Bool} (h : Dm K M H v (.bool i)) : v = .bl i := by
  cases h
  rfl
end

/-! the bag: a list of three ints and a list of ints -/
def Bag (b l : Addr) (H : Hp) : Prop := ∃ (x y i : Int) (cs : List Int), H b = some (.lst [.int x, .int y, .int i, .ref l]) ∧ l ≠ b ∧ H l = some (.lst (cs.map V.int)) ∧ 0 ≤ x ∧ 0 ≤ y ∧ y < 2147483647 ∧ 0 ≤ i ∧ cs.length ≤ 1000 ∧ ∀ c ∈ cs, 0 ≤ c
/-- a step beside the bag -/
structure Fr (b l : Addr) (H H' : Hp) : Prop where
  k : Kp [b] H H'
  bag : Bag b l H'
section
variable {b l p : Addr} {H H' A B C H0 : Hp} {o : HO} {M : List Addr}
theorem Bag.kp (g : Bag b l H) (k : Sub H H') : Bag b l H' := by
  obtain ⟨x, y, i, cs, h1, h2, h3, h4⟩ := g
  exact ⟨x, y, i, cs, k _ _ h1, h2, k _ _ h3, h4⟩
theorem Bag.at (g : Bag b l H) : ∃ o, H b = some o := by
  obtain ⟨x, y, i, cs, h1, _⟩ := g
  exact ⟨_, h1⟩
theorem Bag.atl (g : Bag b l H) : ∃ o, H l = some o := by
  obtain ⟨x, y, i, cs, _, _, h1, _⟩ := g
  exact ⟨_, h1⟩
theorem ne_new {a : Addr} (h : ∃ o, H a = some o) (hp : H p = none) : p ≠ a := fun z => by
  obtain ⟨o, e⟩ := h
  rw [← z, hp] at e
  cases e
theorem Fr.refl (g : Bag b l H) : Fr b l H H := ⟨Kp.refl _ _, g⟩
theorem Fr.trans (x : Fr b l A B) (y : Fr b l B C) : Fr b l A C := ⟨x.k.trans y.k, y.bag⟩
theorem Fr.sub (g : Bag b l H) (k : Sub H H') : Fr b l H H' := ⟨fun a o _ h => k a o h, g.kp k⟩
theorem Sub.new (h : H p = none) : Sub H (upd H p o) := fun a u e => by
  rw [upd_ne (ne_of_none e h)]
  exact e
theorem Fr.new (g : Bag b l H) (h : H p = none) : Fr b l H (upd H p o) := Fr.sub g (Sub.new h)
theorem Bag.put (g : Bag b l H) (hb : p ≠ b) (hl : p ≠ l) : Bag b l (upd H p o) := by
  obtain ⟨x, y, i, cs, h1, h2, h3, h4⟩ := g
  exact ⟨x, y, i, cs, by rw [upd_ne hb.symm]; exact h1, h2, by rw [upd_ne hl.symm]; exact h3, h4⟩
/-- a list of one's own, that the beginning does not know, is written -/
theorem Fr.mut (f : Fr b l H0 H) (g0 : Bag b l H0) (h0 : H0 p = none) : Fr b l H0 (upd H p o) :=
  ⟨fun a u n e => by
    rw [upd_ne (ne_of_none e h0)]
    exact f.k a u n e, f.bag.put (ne_new g0.at h0) (ne_new g0.atl h0)⟩
theorem Sub.mut (f : Sub H0 H) (h0 : H0 p = none) : Sub H0 (upd H p o) := fun a u e => by
  rw [upd_ne (ne_of_none e h0)]
  exact f a u e
/-- what is fresh behind is fresh ahead -/
theorem Fr.free (f : Fr b l H H') (g : Bag b l H) (h : H' p = none) : H p = none := by
  cases e : H p with
  | none => rfl
  | some o =>
    by_cases z : p = b
    · obtain ⟨o, e⟩ := f.bag.at
      rw [← z, h] at e
      cases e
    · rw [f.k p o (by simp [z]) e] at h
      cases h
theorem Sub.free (f : Sub H H') (h : H' p = none) : H p = none := by
  cases e : H p with
  | none => rfl
  | some o =>
    rw [f p o e] at h
    cases h
structure Cb (M : List Addr) (b l : Addr) (H : Hp) : Prop where
  bag : Bag b l H
  mem : b ∈ M
  kn : Kn M H
theorem Kn.fr (c : Kn M H) (f : Fr b l H H') : Kn M H' := fun a m => by
  by_cases z : a = b
  · rw [z]
    exact f.bag.at
  · obtain ⟨o, e⟩ := c a m
    exact ⟨o, f.k a o (by simp [z]) e⟩
theorem Kn.sub (c : Kn M H) (f : Sub H H') : Kn M H' := fun a m => by
  obtain ⟨o, e⟩ := c a m
  exact ⟨o, f a o e⟩
theorem Kn.more (c : Kn M H) (h : ∃ o, H p = some o) : Kn (p :: M) H := fun a m => by
  rcases List.mem_cons.mp m with z | z
  · rw [z]
    exact h
  · exact c a z
theorem Cb.fr (c : Cb M b l H) (f : Fr b l H H') : Cb M b l H' := ⟨f.bag, c.mem, c.kn.fr f⟩
theorem Cb.more (c : Cb M b l H) (h : ∃ o, H p = some o) : Cb (p :: M) b l H := ⟨c.bag, List.mem_cons_of_mem _ c.mem, c.kn.more h⟩
theorem Fr.kp (f : Fr b l H H') (m : b ∈ M) : Kp M H H' := f.k.less fun a h => by
  rw [List.mem_singleton.mp h]
  exact m
end
section
variable {K : PySem.W.Frag} {M : List Addr} {b l : Addr} {H H' : Hp} {v : V} {d : PyData} {vs : List V} {ds : List PyData}
theorem Dm.f (h : Dm K M H v d) (f : Fr b l H H') (m : b ∈ M) : Dm K M H' v d := h.k (f.kp m)
theorem Dms.f (h : Dms K M H vs ds) (f : Fr b l H H') (m : b ∈ M) : Dms K M H' vs ds := h.k (f.kp m)
theorem Dm.s (h : Dm K M H v d) (f : Sub H H') : Dm K M H' v d := h.k fun a o _ e => f a o e
theorem Dms.s (h : Dms K M H vs ds) (f : Sub H H') : Dms K M H' vs ds := h.k fun a o _ e => f a o e
end
end KZ


namespace KZ
open PySem PySem.Spec PyProof.Rows L2

def topS (i : Nat) : Stmt := PySem.Challenge.pw_comesthrough_k95_most_begins.main.body.getD i (.Pass ⟨0, 0, 0, 0⟩)
/-- xs[i] ahead of a store to it -/
def rGetL (K : PySem.W.Frag) : V → V → Hp → VK → Prop := fun o i H Q => ∃ (p : Addr) (xs : List V) (k : Nat) (v : V), o = .ref p ∧ i = .int (k : Int) ∧ SqL K H p xs ∧ k < 1000 ∧ xs[k]? = some v ∧ Q v H
theorem get_listZ {X : Cx} : PGet X (rGetL X.K) := by
  intro pins s σ H o i ov iv Q I ro ri h
  obtain ⟨p, xs, k, v, rfl, rfl, hq, hk, hx, q⟩ := h
  cases ro
  obtain ⟨t, rfl⟩ := ri
  obtain ⟨its, r, pl, hz⟩ := I.list hq
  obtain ⟨u, eu, ru⟩ := r.get hx
  refine wpAny_getItem_list pl.isList (by omega) (by omega) ?_ ⟨v, H, I, ru, q⟩
  simpa using eu

structure BagAt (b l : Addr) (x y i : Int) (cs : List Int) (H : Hp) : Prop where
  hb : H b = some (.lst [.int x, .int y, .int i, .ref l])
  ne : l ≠ b
  hl : H l = some (.lst (cs.map V.int))
theorem BagAt.sub {b l : Addr} {x y i : Int} {cs : List Int} {H H' : Hp} (g : BagAt b l x y i cs H) (k : Sub H H') : BagAt b l x y i cs H' := ⟨k _ _ g.hb, g.ne, k _ _ g.hl⟩
theorem BagAt.put {b l : Addr} {x y i x' y' i' : Int} {cs : List Int} {H : Hp} (g : BagAt b l x y i cs H) : BagAt b l x' y' i' cs (upd H b (.lst [.int x', .int y', .int i', .ref l])) :=
  ⟨upd_same, g.ne, by rw [upd_ne g.ne]; exact g.hl⟩
theorem head_cut (cs : List Int) (hc : ∀ c ∈ cs, 0 ≤ c) (i : Int) (hi : 0 ≤ i) : ∃ c : Int, 0 ≤ c ∧ atI (cutV (cs.map V.int) (some i) none ++ [V.int 0]) 0 = some (.int c) := by
  have hall : ∀ v ∈ cutV (cs.map V.int) (some i) none, ∃ c : Int, 0 ≤ c ∧ v = .int c := fun v hv => by
    unfold cutV at hv
    have h1 := List.mem_of_mem_drop (List.mem_of_mem_take hv)
    obtain ⟨c, h2, h3⟩ := List.mem_map.mp h1
    exact ⟨c, hc c h2, h3.symm⟩
  cases e : cutV (cs.map V.int) (some i) none with
  | nil => exact ⟨0, Int.le_refl _, atI_nat (j := 0) rfl⟩
  | cons v r =>
    obtain ⟨c, h1, h2⟩ := hall v (by rw [e]; exact List.mem_cons_self)
    exact ⟨c, h1, atI_nat (j := 0) (by rw [h2] <;> rfl)⟩
theorem small1000' {n : Nat} (h : n ≤ 1001) : n < sizeLine := Nat.lt_of_le_of_lt h (by decide)
theorem bootInt : bootBuiltins "int" = some (.type "int") := by decide +kernel
/-- what the defs ask of the module's names -/
structure Txt (mg : Str → Option Value) : Prop where
  int : mg "int" = none
  len : mg "len" = none
  abs : mg "abs" = none
  range : mg "range" = none
  tuple : mg "tuple" = none
  list : mg "list" = none
  dict : mg "dict" = none
  repr : mg "repr" = none
  enumerate : mg "enumerate" = none

def spTake : Sp := fun vs H Q _ => ∃ (b l : Addr) (n : Int), vs = [.ref b, .int n] ∧ Bag b l H ∧ 0 < n ∧ n < 1073741824 ∧ ∀ (i : Int) (H' : Hp), Fr b l H H' → 0 ≤ i → i < n → Q (.int i) H'
section
variable {P : Program} {w : World} {K : PySem.W.Frag} {mg : Str → Option Value} {base : Heap}
abbrev sTake : Stmt := topS 26
theorem scTake : FnScope ["bag", "upto", "cell", "stirred", "value", "begin", "second"] ["bag", "upto"] (defScope sTake) := ⟨rfl, rfl, rfl, by decide +kernel, rfl, by decide +kernel, by decide +kernel⟩
theorem mod_lo {a n : Int} (h : 0 < n) : 0 ≤ a % n ∧ a % n < n := ⟨Int.emod_nonneg _ (by omega), Int.emod_lt_of_pos _ h⟩
/-- the end of a draw, by the state behind the stirring -/
theorem take_tail {b l : Addr} {H0 H : Hp} {x y i : Int} {cs : List Int} (kp : Kp [b] H0 H) (g : BagAt b l x y i cs H) (hx : 0 ≤ x) (hy : 0 ≤ y ∧ y < 2147483647) (hi : 0 ≤ i) (hz : cs.length ≤ 1000) (hc : ∀ c ∈ cs, 0 ≤ c) : Fr b l H0 H :=
  ⟨kp, x, y, i, cs, g.hb, g.ne, g.hl, hx, hy.1, hy.2, hi, hz, hc⟩
theorem ok_take {f : Addr} {fd : FuncData} (F : Fun K "_law_take" "_law_take" sTake f fd) (T : Txt mg) : FnOk P w K mg base CX0 1 f fd ["bag", "upto"] spTake := by
  refine F.ok scTake (fun vs H Q E h => ?_) (fun cdv A outer s H vs Q E hr h => ?_)
  · obtain ⟨b, l, n, rfl, _⟩ := h
    rfl
  · obtain ⟨b, l, n, rfl, ⟨x, y, i, cs, hb, hne, hl, hx, hy0, hy1, hi, hz, hc⟩, hn0, hn1, k⟩ := h
    have g : BagAt b l x y i cs H := ⟨hb, hne, hl⟩
    refine ⟨_, Evl.pss_cut (ps_if (pt_cmpR op_eq (pe_ix ix_list (pv 0) pe_int (fun _ _ => rfl)) pe_int (nomark _))
        (pss_cons (ps_set (i := 2) scTake.nd rfl (Or.inl rfl) (pe_ix ix_list (pe_op op_cat (pe_slice sl_list (pe_ix ix_list (pv 0) pe_int (fun _ _ => rfl)) (po_some (pe_ix ix_list (pv 0) pe_int (fun _ _ => rfl))) po_none) (pe_lst (pa_cons pe_int pa_nil))) pe_int (fun _ _ => rfl)))
        (pss_cons (ps_augS (pv 0) pe_int get_listZ pe_int ip_add set_list)
        (Evl.pss_cut (ps_if (pt_cmpR op_ge (pv 2) (pe_op op_pow pe_int pe_int) (nomark _)) (pss_one (ps_asg (pv 2) (pg_sub (pv 0) pe_int set_list))) pss_nil)
        (pss_cons (ps_set (i := 3) scTake.nd rfl (Or.inl rfl) (pe_op op_add (pe_op op_add (pe_op op_mul (pe_ix ix_list (pv 0) pe_int (fun _ _ => rfl)) pe_int) (pe_op op_mod (pe_callTy call_int1 (by rfl) T.int bootInt (pa_cons (pv 2) pa_nil)) pe_int)) (pe_op op_mul pe_int (pe_ix ix_list (pv 0) pe_int (fun _ _ => rfl)))))
        (pss_one (ps_asg (pe_op op_mod (pe_callTy call_int1 (by rfl) T.int bootInt (pa_cons (pv 3) pa_nil)) pe_int) (pg_sub (pv 0) pe_int set_list))))))) pss_nil)
      (pss_cons (ps_if (pt_cmpR op_gt (pe_ix ix_list (pv 0) pe_int (fun _ _ => rfl)) pe_int (nomark _))
        (pss_cons (ps_set (i := 4) scTake.nd rfl (Or.inl rfl) (pe_op op_mod (pe_callTy call_int1 (by rfl) T.int bootInt (pa_cons (pe_ix ix_list (pv 0) pe_int (fun _ _ => rfl)) pa_nil)) (pv 1)))
        (pss_cons (ps_asg (pe_op op_fdiv (pe_callTy call_int1 (by rfl) T.int bootInt (pa_cons (pe_ix ix_list (pv 0) pe_int (fun _ _ => rfl)) pa_nil)) (pv 1)) (pg_sub (pv 0) pe_int set_list))
        (pss_one (ps_ret (pv 4))))) pss_nil)
      (pss_cons (ps_set (i := 5) scTake.nd rfl (Or.inl rfl) (pe_op op_mod (pe_callTy call_int1 (by rfl) T.int bootInt (pa_cons (pe_op op_mul (pe_op op_add (pe_ix ix_list (pv 0) pe_int (fun _ _ => rfl)) pe_int) pe_int) pa_nil)) pe_int))
      (pss_cons (ps_set (i := 6) scTake.nd rfl (Or.inl rfl) (pe_op op_mod (pe_callTy call_int1 (by rfl) T.int bootInt (pa_cons (pe_op op_mul (pe_op op_mod (pe_callTy call_int1 (by rfl) T.int bootInt (pa_cons (pe_op op_mul (pv 5) (pv 5)) pa_nil)) pe_int) pe_int) pa_nil)) pe_int))
      (pss_one (ps_ret (pe_op op_mod (pe_callTy call_int1 (by rfl) T.int bootInt (pa_cons (pe_op op_fdiv (pv 6) pe_int) pa_nil)) (pv 1)))))))
      , ?_⟩
    refine ⟨fun σ' H' => ∃ (x y i : Int) (c st : Option V), σ' = [some (.ref b), some (.int n), c, st, none, none, none] ∧ Kp [b] H H' ∧ BagAt b l x y i cs H' ∧ 0 ≤ x ∧ 0 ≤ y ∧ y < 2147483647 ∧ 0 ≤ i, ?_, ?_⟩
    · refine ⟨_, rfl, b, _, 0, _, rfl, rfl, SqL.of hb, atI_nat (j := 0) rfl, rfl, _, rfl, ite2 (fun e => ?_) (fun e => ?_)⟩
      · -- cell
        refine ⟨_, rfl, b, _, 3, _, rfl, rfl, SqL.of hb, atI_nat (j := 3) rfl, ?_⟩
        refine ⟨_, rfl, b, _, 2, _, rfl, rfl, SqL.of hb, atI_nat (j := 2) rfl, _, rfl, l, _, rfl, SqL.of hl, fun p1 hp1 => ?_⟩
        refine ⟨by show 1 ≤ sizeLine; decide, fun p2 hp2 => ?_⟩
        have n12 : p1 ≠ p2 := ne_of_none upd_same hp2
        refine ⟨p1, p2, _, _, rfl, rfl, Eq.trans (upd_ne n12) upd_same, upd_same, ?_, fun p3 hp3 => ?_⟩
        · have := cutV_length (cs.map V.int) (some i) none
          rw [List.length_map] at this
          exact Nat.le_of_lt (small1000' (by show _ + 1 ≤ 1001; omega))
        obtain ⟨c, hc0, hc1⟩ := head_cut cs hc i hi
        refine ⟨p3, _, 0, _, rfl, rfl, SqL.of upd_same, hc1, ?_⟩
        have k1 : Sub H (upd (upd (upd H p1 (HO.lst (cutV (cs.map V.int) (some i) none))) p2 (HO.lst [V.int 0])) p3 (HO.lst (cutV (cs.map V.int) (some i) none ++ [V.int 0]))) := ((Sub.new hp1).trans (Sub.new hp2)).trans (Sub.new hp3)
        have g1 := g.sub k1
        have q1 : Kp [b] H _ := fun a o _ h => k1 a o h
        -- bag[2] += 1
        refine ⟨_, rfl, b, _, 2, _, rfl, rfl, SqL.of g1.hb, by decide, rfl, _, _, rfl, rfl, b, _, 2, 2, rfl, rfl, g1.hb, rfl, ?_⟩
        have g2 : BagAt b l x y (i + 1) cs _ := g1.put
        have q2 : Kp [b] H _ := q1.trans (Kp.mut (o := HO.lst [V.int x, V.int y, V.int (i + 1), V.ref l]) List.mem_cons_self)
        refine ⟨fun σ' H' => ∃ (x' : Int), σ' = [some (.ref b), some (.int n), some (.int c), none, none, none, none] ∧ Kp [b] H H' ∧ BagAt b l x' y (i + 1) cs H' ∧ 0 ≤ x', ?_, ?_⟩
        · refine ⟨_, rfl, _, _, rfl, rfl, ⟨by decide, by decide, by decide⟩, _, _, rfl, rfl, _, rfl, ite2 (fun e2 => ?_) (fun e2 => ?_)⟩
          · exact ⟨_, rfl, _, rfl, b, _, 0, 0, rfl, rfl, g2.hb, rfl, c, rfl, q2.trans (Kp.mut List.mem_cons_self), g2.put, hc0⟩
          · exact ⟨x, rfl, q2, g2, hx⟩
        rintro σ' H3 ⟨x', rfl, q3, g3, hx'⟩
        refine ⟨_, rfl, b, _, 1, _, rfl, rfl, SqL.of g3.hb, atI_nat (j := 1) rfl, _, _, rfl, rfl, .inr ⟨by decide, by decide⟩, _, rfl, .inl ⟨_, rfl, _, _, rfl, rfl, (by show (0 : Int) < 2147483647; decide), ?_⟩⟩
        refine ⟨_, _, rfl, rfl, _, rfl, b, _, 2, _, rfl, rfl, SqL.of g3.hb, atI_nat (j := 2) rfl, _, _, rfl, rfl, .inl ⟨by decide, by decide⟩, _, _, rfl, rfl, ?_⟩
        refine ⟨_, rfl, .inl ⟨_, rfl, _, _, rfl, rfl, (by show (0 : Int) < 2147483647; decide), ?_⟩⟩
        refine ⟨_, rfl, b, _, 1, 1, rfl, rfl, g3.hb, rfl, ?_⟩
        have z := mod_lo (a := y * 48271 + c % 2147483647 + 7919 * (i + 1)) (n := 2147483647) (by decide)
        exact ⟨x', _, i + 1, _, _, rfl, q3.trans (Kp.mut List.mem_cons_self), g3.put, hx', z.1, z.2, by omega⟩
      · exact ⟨x, y, i, none, none, rfl, Kp.refl _ _, g, hx, hy0, hy1, hi⟩
    · rintro σ' H1 ⟨x, y, i, c, st, rfl, kp, g, hx, hy0, hy1, hi⟩
      refine ⟨_, rfl, b, _, 0, _, rfl, rfl, SqL.of g.hb, atI_nat (j := 0) rfl, _, _, rfl, rfl, _, rfl, ite2 (fun e => ?_) (fun e => ?_)⟩
      · refine ⟨_, rfl, b, _, 0, _, rfl, rfl, SqL.of g.hb, atI_nat (j := 0) rfl, .inl ⟨_, rfl, _, rfl, _, _, rfl, rfl, hn0, ?_⟩⟩
        refine ⟨_, rfl, b, _, 0, _, rfl, rfl, SqL.of g.hb, atI_nat (j := 0) rfl, .inl ⟨_, rfl, _, rfl, _, _, rfl, rfl, ⟨hn0, hn1⟩, ?_⟩⟩
        refine ⟨_, rfl, b, _, 0, 0, rfl, rfl, g.hb, rfl, ?_⟩
        refine ⟨_, rfl, ?_⟩
        have z := mod_lo (a := x) hn0
        exact k _ _ (take_tail (kp.trans (Kp.mut List.mem_cons_self)) g.put (Int.ediv_nonneg hx (by omega)) ⟨hy0, hy1⟩ hi hz hc) z.1 z.2
      · refine ⟨_, rfl, b, _, 1, _, rfl, rfl, SqL.of g.hb, atI_nat (j := 1) rfl, _, _, rfl, rfl, _, _, rfl, rfl, .inr ⟨by decide, by decide⟩, .inl ⟨_, rfl, _, _, rfl, rfl, (by show (0 : Int) < 1000000007; decide), ?_⟩⟩
        have z1 := mod_lo (a := (y + 1) * 39373) (n := 1000000007) (by decide)
        refine ⟨_, rfl, _, rfl, _, _, rfl, rfl, .inl ⟨by omega, by omega⟩, .inl ⟨_, rfl, _, _, rfl, rfl, (by show (0 : Int) < 998244353; decide), ?_⟩⟩
        refine ⟨_, _, rfl, rfl, .inr ⟨by decide, by decide⟩, .inl ⟨_, rfl, _, _, rfl, rfl, (by show (0 : Int) < 998244353; decide), ?_⟩⟩
        refine ⟨_, rfl, _, _, rfl, rfl, ⟨by decide, by decide⟩, .inl ⟨_, rfl, _, rfl, _, _, rfl, rfl, hn0, ?_⟩⟩
        have z := mod_lo (a := ((y + 1) * 39373 % 1000000007 * ((y + 1) * 39373 % 1000000007) % 998244353 * 30011 % 998244353) / 7) hn0
        exact k _ _ (take_tail kp g hx ⟨hy0, hy1⟩ hi hz hc) z.1 z.2
end
end KZ

namespace KZ
open PySem PySem.Spec PyProof.Rows L2

theorem szl {n : Nat} (h : n < 1000000) : n < sizeLine := Nat.lt_of_lt_of_le h (by decide)
/-- a def that may be called: its promise, where it stands -/
structure Cal (P : Program) (w : World) (K : PySem.W.Frag) (mg : Str → Option Value) (base : Heap) (x : Str) (k : Nat) (ps : List Str) (sp : Sp) (f : Addr) (fd : FuncData) : Prop where
  ok : FnOk P w K mg base CX0 k f fd ps sp
  g : mg x = some (.ref f)
  kp : PySem.W.keepIn K (.ref f) = true
  b : Binds K fd ps []
section
variable {X : Cx} {x : Str} {k : Nat} {ps : List Str} {sp : Sp} {f : Addr} {fd : FuncData} {e : Expr} {es : List Expr} {t : TA} {p pos : Pos}
theorem pcl (C : Cal X.prog X.w X.K X.mg X.base x k ps sp f fd) (hr : Room k X.A) (ha : PA X (e :: es) t) (hg : Gl X x := by rfl) (hdb : (x == ("__debug__" : Str)) = false := by decide) (he : starEach (e :: es) X.env = (false, eval e X.env) :: starEach es X.env := by rfl)
    (hpl : (backTo pos (starEach es X.env)).any (·.1) = false := by rfl) : PE X (.Call (.Name x p) (e :: es) [] pos) (tCall sp [] E0 t) := pe_call C.ok hr hg C.g C.kp C.b .nil pass0 ha hdb he hpl
end
theorem atI_mem {α : Type} {xs : List α} {i : Int} (h0 : 0 ≤ i) (h1 : i < xs.length) : ∃ v, v ∈ xs ∧ xs[i.toNat]? = some v ∧ atI xs i = some v := by
  have hj : i.toNat < xs.length := by omega
  refine ⟨xs[i.toNat], List.getElem_mem hj, List.getElem?_eq_getElem hj, ?_⟩
  have e : ((i.toNat : Nat) : Int) = i := by omega
  have g := atI_nat (List.getElem?_eq_getElem hj)
  rw [e] at g
  exact g

/-- the items of a list or a tuple -/
def Its (K : PySem.W.Frag) (M : List Addr) (H : Hp) (v : V) (ds : List PyData) : Prop := Dm K M H v (.list ds) ∨ Dm K M H v (.tuple ds)
theorem Its.at {K : PySem.W.Frag} {M : List Addr} {H : Hp} {v : V} {ds : List PyData} (h : Its K M H v ds) : ∃ a xs, v = .ref a ∧ (SqL K H a xs ∨ SqT K H a xs) ∧ Dms K M H xs ds := by
  rcases h with h | h
  · obtain ⟨a, xs, h1, h2, h3⟩ := h.lstAt
    exact ⟨a, xs, h1, .inl h2, h3⟩
  · obtain ⟨a, xs, h1, h2, h3⟩ := h.tupAt
    exact ⟨a, xs, h1, .inr h2, h3⟩
theorem Its.f {K : PySem.W.Frag} {M : List Addr} {b l : Addr} {H H' : Hp} {v : V} {ds : List PyData} (h : Its K M H v ds) (f : Fr b l H H') (m : b ∈ M) : Its K M H' v ds := h.elim (fun h => .inl (Dm.f h f m)) fun h => .inr (Dm.f h f m)
def spSome (K : PySem.W.Frag) : Sp := fun vs H Q _ => ∃ (M : List Addr) (b l : Addr) (v : V) (ds : List PyData), vs = [.ref b, v] ∧ Cb M b l H ∧ Its K M H v ds ∧ 0 < ds.length ∧ ds.length < 1000000 ∧
  ∀ (y : V) (d : PyData) (H' : Hp), Fr b l H H' → d ∈ ds → Dm K M H' y d → Q y H'
def spMixed (K : PySem.W.Frag) : Sp := fun vs H Q _ => ∃ (M : List Addr) (b l : Addr) (v : V) (ds : List PyData), vs = [.ref b, v] ∧ Cb M b l H ∧ Dm K M H v (.list ds) ∧ ds.length < 100000 ∧
  ∀ (y : V) (es : List PyData) (H' : Hp), Fr b l H H' → es.Perm ds → Dm K M H' y (.list es) → Q y H'
section
variable {P : Program} {w : World} {K : PySem.W.Frag} {mg : Str → Option Value} {base : Heap}
abbrev sSome : Stmt := topS 27
theorem scSome : FnScope ["bag", "things"] ["bag", "things"] (defScope sSome) := ⟨rfl, rfl, rfl, by decide +kernel, rfl, by decide +kernel, by decide +kernel⟩
theorem ok_some {f fT : Addr} {fd fdT : FuncData} (F : Fun K "_law_some" "_law_some" sSome f fd) (T : Txt mg) (CT : Cal P w K mg base "_law_take" 1 ["bag", "upto"] spTake fT fdT) : FnOk P w K mg base CX0 2 f fd ["bag", "things"] (spSome K) := by
  refine F.ok scSome (fun vs H Q E h => ?_) (fun cdv A outer s H vs Q E hr h => ?_)
  · obtain ⟨M, b, l, v, ds, rfl, _⟩ := h
    rfl
  · obtain ⟨M, b, l, v, ds, rfl, cb, hv, h0, h1, k⟩ := h
    refine ⟨_, pss_one (ps_ret (pe_ix (ix_list.or ix_tup) (pv 1) (pcl CT hr (pa_cons (pv 0) (pa_cons (pe_callB call_len_seq (by rfl) T.len PySem.boot_len (pa_cons (pv 1) pa_nil)) pa_nil))) (fun _ _ => rfl))), ?_⟩
    obtain ⟨a, xs, rfl, hs, ha⟩ := hv.at
    have hl := ha.len
    refine ⟨_, rfl, _, rfl, _, rfl, a, xs, rfl, hs, ?_⟩
    refine ⟨b, l, _, rfl, cb.bag, by omega, by omega, fun i H' f' i0 i1 => ?_⟩
    obtain ⟨a2, xs2, e2, hs2, ha2⟩ := (hv.f f' cb.mem).at
    cases e2
    have hl2 := ha2.len
    obtain ⟨y, _, hy, hat⟩ := atI_mem (xs := xs2) i0 (by omega)
    obtain ⟨d, hd, hyd⟩ := ha2.get' hy
    have fin : Q y H' := k y d H' f' (List.mem_of_getElem? hd) hyd
    exact hs2.elim (fun q => .inl ⟨a, xs2, i, y, rfl, rfl, q, hat, fin⟩) fun q => .inr ⟨a, xs2, i, y, rfl, rfl, q, hat, fin⟩
abbrev sMixed : Stmt := topS 29
theorem scMixed : FnScope ["bag", "things", "found", "thing"] ["bag", "things"] (defScope sMixed) := ⟨rfl, rfl, rfl, by decide +kernel, rfl, by decide +kernel, by decide +kernel⟩
theorem ins_perm {α : Type} (xs : List α) (n : Nat) (d : α) : (xs.take n ++ [d] ++ xs.drop n).Perm (d :: xs) := by
  have h : (xs.take n ++ [d] ++ xs.drop n).Perm (d :: (xs.take n ++ xs.drop n)) := by
    rw [List.append_assoc]
    exact List.perm_middle
  rw [List.take_append_drop] at h
  exact h
theorem take_snoc {α : Type} {xs : List α} {i : Nat} {d : α} (h : xs[i]? = some d) : xs.take (i + 1) = xs.take i ++ [d] := by
  rw [List.take_succ, h]
  rfl
theorem ok_mixed {f fT : Addr} {fd fdT : FuncData} (F : Fun K "_law_mixed" "_law_mixed" sMixed f fd) (T : Txt mg) (CT : Cal P w K mg base "_law_take" 1 ["bag", "upto"] spTake fT fdT) : FnOk P w K mg base CX0 2 f fd ["bag", "things"] (spMixed K) := by
  refine F.ok scMixed (fun vs H Q E h => ?_) (fun cdv A outer s H vs Q E hr h => ?_)
  · obtain ⟨M, b, l, v, ds, rfl, _⟩ := h
    rfl
  · obtain ⟨M, b, l, v, ds, rfl, cb, hv, h1, k⟩ := h
    refine ⟨_, pss_cons (ps_set (i := 2) scMixed.nd rfl (Or.inl rfl) (pe_lst pa_nil))
      (pss_cons (ps_for PassesOwn.never rfl (pi_list (pv 1)) (pg_name (i := 3) scMixed.nd rfl (Or.inl rfl))
        (pss_one (ps_expr (pe_bm PySem.F.plainAttrs_list PySem.F.slot_list_insert PySem.F.type_list_insert mt_insert (pv 2)
          (pa_cons (pcl CT hr (pa_cons (pv 0) (pa_cons (pe_op op_add (pe_callB call_len_seq (by rfl) T.len PySem.boot_len (pa_cons (pv 2) pa_nil)) pe_int) pa_nil))) (pa_cons (pv 3) pa_nil))))))
      (pss_one (ps_ret (pv 2)))), ?_⟩
    refine ⟨Nat.zero_le _, fun p hp => ?_⟩
    obtain ⟨a, xs, rfl, hse, ha⟩ := hv.lstAtE
    have hs := (er_sub M H).sqL hse
    have hl := ha.len
    have f0 : Fr b l H (upd H p (.lst [])) := Fr.new cb.bag hp
    have pb := ne_new cb.bag.at hp
    refine ⟨_, rfl, a, rfl, ⟨_, (Sub.new hp).sqL hs⟩, for_list (K := K) (a := a) (xs := xs) (fun i σ H' => ∃ (u : Option V) (vs : List V) (es : List PyData), σ = [some (.ref b), some (.ref a), some (.ref p), u] ∧ Fr b l H H' ∧ H' p = some (.lst vs) ∧ Dms K (p :: M) H' vs es ∧ es.Perm (ds.take i) ∧ SqL K (er (p :: M) H') a xs ∧ Dms K (p :: M) H' xs ds)
      ⟨none, [], [], rfl, f0, upd_same, .nil, List.Perm.refl _, Sub.sqL (Kp.er (Kp.mut List.mem_cons_self)) (by rw [er_more hp]; exact hse), (ha.more hp).k (Kp.mut List.mem_cons_self)⟩ (fun i σ H' _ ⟨_, _, _, _, _, _, _, _, q, _⟩ => (er_sub _ _).sqL q) ?_ ?_⟩
    · rintro i y σ H' hi ⟨u, vs, es, rfl, f1, h1p, hds, hpm, hsx, hdx⟩
      have hlv : vs.length = i := by
        rw [hds.len, hpm.length_eq, List.length_take, ← hl]
        have := (List.getElem?_eq_some_iff.mp hi).1
        omega
      have hix := (List.getElem?_eq_some_iff.mp hi).1
      refine ⟨_, rfl, .inl ⟨rfl, _, SqL.of h1p⟩, _, rfl, _, rfl, p, _, rfl, .inl (SqL.of h1p), _, _, rfl, rfl, ?_⟩
      refine ⟨b, l, _, rfl, f1.bag, by omega, by omega, fun j H2 f2 j0 j1 => ?_⟩
      have c1 : Cb (p :: M) b l H' := (cb.fr f1).more ⟨_, h1p⟩
      have h2p : H2 p = some (.lst vs) := f2.k p _ (by simp [pb]) h1p
      refine ⟨_, rfl, p, vs, j, y, rfl, rfl, h2p, szl (by omega), j0, by omega, ?_⟩
      obtain ⟨d, hd, hyd⟩ := hdx.get' hi
      have f3 := (f1.trans f2).mut cb.bag hp (o := .lst (vs.take j.toNat ++ [y] ++ vs.drop j.toNat))
      have km : Kp (p :: M) H2 (upd H2 p (.lst (vs.take j.toNat ++ [y] ++ vs.drop j.toNat))) := Kp.mut List.mem_cons_self
      have hds2 := hds.f f2 c1.mem
      refine ⟨_, _, es.take j.toNat ++ [d] ++ es.drop j.toNat, rfl, f3, upd_same, Dms.k (((hds2.take _).app (DpAll.one (Dm.f hyd f2 c1.mem))).app (hds2.drop _)) km, ?_, ?_, ?_⟩
      · rw [take_snoc hd]
        exact (ins_perm _ _ _).trans ((List.Perm.cons _ hpm).trans (List.perm_append_singleton _ _).symm)
      · exact Sub.sqL ((f2.kp c1.mem).trans km).er hsx
      · exact (hdx.f f2 c1.mem).k km
    · rintro σ H' ⟨u, vs, es, rfl, f1, h1p, hds, hpm, hsx, hdx⟩
      refine ⟨_, rfl, ?_⟩
      rw [hl, List.take_length] at hpm
      exact k _ es H' f1 hpm (Dm.lstOf (cb.kn.out hp) h1p hds)
end
end KZ

namespace KZ
open PySem PySem.Spec PyProof.Rows L2

def Names : List Str := ["a", "b", "c", "ab", "ba", "zz", "wait", "yield", "oust", "elder", "work", "kind", "abcdefgh", "z", "sort"]
def unS : PyData → Str
  | .str x => x
  | _ => ""
theorem perm_str {es : List PyData} {l : List Str} (h : es.Perm (l.map PyData.str)) : ∃ ns : List Str, es = ns.map PyData.str ∧ ns.Perm l := by
  refine ⟨es.map unS, ?_, ?_⟩
  · rw [List.map_map]
    have : ∀ e ∈ es, (PyData.str ∘ unS) e = e := fun e he => by
      obtain ⟨x, _, rfl⟩ := List.mem_map.mp (h.mem_iff.mp he)
      rfl
    exact (List.map_id es).symm.trans (List.map_congr_left fun e he => (this e he).symm)
  · have q := h.map unS
    rw [List.map_map] at q
    have e : l.map (unS ∘ PyData.str) = l := List.map_id l
    rw [e] at q
    exact q
theorem cutV_to {xs : List V} {m : Int} (h0 : 0 ≤ m) (h1 : m ≤ xs.length) : cutV xs none (some m) = xs.take m.toNat := by
  have e : ((m.toNat : Nat) : Int) = m := by omega
  unfold cutV
  rw [← e, HT.sIx_none, HT.sIx_nat, e, List.drop_zero, Nat.sub_zero, Nat.min_eq_left (by omega)]
theorem cutV_from {xs : List V} {m : Int} (h0 : 0 ≤ m) (h1 : m ≤ xs.length) : cutV xs (some m) none = xs.drop m.toNat := by
  have e : ((m.toNat : Nat) : Int) = m := by omega
  unfold cutV
  rw [← e, HT.sIx_none, HT.sIx_nat, e, Nat.min_eq_left (by omega)]
  exact List.take_of_length_le (by rw [List.length_drop]; omega)
def spNamed (K : PySem.W.Frag) : Sp := fun vs H Q _ => ∃ (M : List Addr) (b l : Addr) (m : Int), vs = [.ref b, .int m] ∧ Cb M b l H ∧ 0 ≤ m ∧ m ≤ 15 ∧
  ∀ (y : V) (ns : List Str) (H' : Hp), Fr b l H H' → ns.length = m.toNat → (∀ n ∈ ns, n ∈ Names) → ns.Nodup → Dm K M H' y (.list (ns.map PyData.str)) → Q y H'
theorem names_nd : Names.Nodup := by decide +kernel
theorem dps_strs {K : PySem.W.Frag} {H : Hp} : ∀ l : List Str, DpAll K H (l.map V.str) (l.map PyData.str)
  | [] => .nil
  | x :: l => .cons (.str x) (dps_strs l)
section
variable {P : Program} {w : World} {K : PySem.W.Frag} {mg : Str → Option Value} {base : Heap}
abbrev sNamed : Stmt := topS 30
theorem scNamed : FnScope ["bag", "many", "names"] ["bag", "many"] (defScope sNamed) := ⟨rfl, rfl, rfl, by decide +kernel, rfl, by decide +kernel, by decide +kernel⟩
theorem ok_named {f fM : Addr} {fd fdM : FuncData} (F : Fun K "_law_named" "_law_named" sNamed f fd) (CM : Cal P w K mg base "_law_mixed" 2 ["bag", "things"] (spMixed K) fM fdM) : FnOk P w K mg base CX0 3 f fd ["bag", "many"] (spNamed K) := by
  refine F.ok scNamed (fun vs H Q E h => ?_) (fun cdv A outer s H vs Q E hr h => ?_)
  · obtain ⟨M, b, l, m, rfl, _⟩ := h
    rfl
  · obtain ⟨M, b, l, m, rfl, cb, h0, h1, k⟩ := h
    refine ⟨_, pss_cons (ps_set (i := 2) scNamed.nd rfl (Or.inl rfl) (pe_lst (pa_cons pe_str (pa_cons pe_str (pa_cons pe_str (pa_cons pe_str (pa_cons pe_str (pa_cons pe_str (pa_cons pe_str (pa_cons pe_str (pa_cons pe_str (pa_cons pe_str
        (pa_cons pe_str (pa_cons pe_str (pa_cons pe_str (pa_cons pe_str (pa_cons pe_str pa_nil)))))))))))))))))
      (pss_one (ps_ret (pe_slice sl_list (pcl CM hr (pa_cons (pv 0) (pa_cons (pv 2) pa_nil))) po_none (po_some (pv 1))))), ?_⟩
    refine ⟨by show 15 ≤ sizeLine; decide, fun p hp => ?_⟩
    have f0 : Fr b l H (upd H p (.lst (Names.map V.str))) := Fr.new cb.bag hp
    have d0 : Dm K M (upd H p (.lst (Names.map V.str))) (.ref p) (.list (Names.map PyData.str)) := Dm.lstNew cb.kn hp (dps_strs Names)
    refine ⟨_, rfl, _, rfl, M, b, l, _, _, rfl, cb.fr f0, d0, by show 15 < 100000; decide, fun y es H' f1 hpm hy => ?_⟩
    obtain ⟨ns, rfl, hns⟩ := perm_str hpm
    have hlen : ns.length = 15 := hns.length_eq
    obtain ⟨a, xs, rfl, hs, ha⟩ := hy.lstAt
    have hl := ha.len
    rw [List.length_map, hlen] at hl
    refine ⟨_, rfl, _, rfl, a, xs, rfl, hs, fun q hq => ?_⟩
    rw [cutV_to h0 (by omega)]
    have f2 := (f0.trans f1).trans (Fr.new f1.bag hq (o := .lst (xs.take m.toNat)))
    refine k _ (ns.take m.toNat) _ f2 (by rw [List.length_take]; omega) (fun n hn => hns.mem_iff.mp (List.mem_of_mem_take hn)) ((hns.nodup_iff.mpr names_nd).sublist (List.take_sublist _ _)) ?_
    rw [List.map_take]
    exact Dm.lstNew ((cb.fr f0).fr f1).kn hq (ha.take _)
end

/-! kinds -/
abbrev Kd := Str × Bool × Int
def kdD (k : Kd) : PyData := .tuple [.str k.1, .bool k.2.1, .int k.2.2]
structure KdsOk (ks : List Kd) : Prop where
  name : ∀ k ∈ ks, k.1 ∈ Names
  nd : (ks.map (·.1)).Nodup
  rise : ∀ (i : Nat) (k : Kd), ks[i]? = some k → (i : Int) ≤ k.2.2 ∧ k.2.2 < ks.length
section
variable {P : Program} {w : World} {K : PySem.W.Frag} {mg : Str → Option Value} {base : Heap}
theorem bootTuple : bootBuiltins "tuple" = some (.type "tuple") := by decide +kernel
theorem dm_get {K : PySem.W.Frag} {M : List Addr} {H : Hp} {v : V} {ds : List PyData} {i : Int} {d : PyData} (h : Dm K M H v (.list ds)) (h0 : 0 ≤ i) (e : ds[i.toNat]? = some d) : ∃ a xs y, v = .ref a ∧ SqL K H a xs ∧ atI xs i = some y ∧ Dm K M H y d := by
  obtain ⟨a, xs, rfl, hs, ha⟩ := h.lstAt
  obtain ⟨y, hy, hd⟩ := ha.get e
  have q := atI_nat hy
  rw [show ((i.toNat : Nat) : Int) = i by omega] at q
  exact ⟨a, xs, y, rfl, hs, q, hd⟩
theorem dm_getT {K : PySem.W.Frag} {M : List Addr} {H : Hp} {v : V} {ds : List PyData} {i : Int} {d : PyData} (h : Dm K M H v (.tuple ds)) (h0 : 0 ≤ i) (e : ds[i.toNat]? = some d) : ∃ a xs y, v = .ref a ∧ SqT K H a xs ∧ atI xs i = some y ∧ Dm K M H y d := by
  obtain ⟨a, xs, rfl, hs, ha⟩ := h.tupAt
  obtain ⟨y, hy, hd⟩ := ha.get e
  have q := atI_nat hy
  rw [show ((i.toNat : Nat) : Int) = i by omega] at q
  exact ⟨a, xs, y, rfl, hs, q, hd⟩
end
end KZ

namespace KZ
open PySem PySem.Spec PyProof.Rows L2

/-! what an expression without a bag comes to, as data -/
def EvD (K : PySem.W.Frag) (M : List Addr) (te : TE) (σ : L2.St) (H : Hp) (d : PyData) : Prop := ∀ H1, Sub H H1 → ∀ Q : VK, (∀ v H', Sub H1 H' → Dm K M H' v d → Q v H') → te σ H1 Q
def EvDs (K : PySem.W.Frag) (M : List Addr) (ta : TA) (σ : L2.St) (H : Hp) (ds : List PyData) : Prop := ∀ H1, Sub H H1 → ∀ Q : List V → Hp → Prop, (∀ vs H', Sub H1 H' → Dms K M H' vs ds → Q vs H') → ta σ H1 Q
def EvO (to : TO) (σ : L2.St) (H : Hp) (o : Option Int) : Prop := ∀ H1, Sub H H1 → ∀ Q : Option Int → Hp → Prop, (∀ H', Sub H1 H' → Q o H') → to σ H1 Q
section
variable {K : PySem.W.Frag} {M : List Addr} {σ : L2.St} {H H' : Hp} {ta tb te : TE} {tr : TA} {tl th : TO} {d e : PyData} {ds es : List PyData} {v : V}
theorem EvD.sub (h : EvD K M te σ H d) (s : Sub H H') : EvD K M te σ H' d := fun H1 s1 => h H1 (s.trans s1)
theorem evd_var {i : Nat} (h : σ[i]? = some (some v)) (hd : Dm K M H v d) : EvD K M (tVar i) σ H d := fun H1 s Q q => ⟨v, h, q v H1 (Sub.refl _) (Dm.s hd s)⟩
theorem evd_int {i : Int} : EvD K M (tC (.int i)) σ H (.int i) := fun H1 s Q q => q _ H1 (Sub.refl _) (.int i)
theorem evd_str {x : Str} : EvD K M (tC (.str x)) σ H (.str x) := fun H1 s Q q => q _ H1 (Sub.refl _) (.str x)
theorem evd_bl {b : Bool} : EvD K M (tC (.bl b)) σ H (.bool b) := fun H1 s Q q => q _ H1 (Sub.refl _) (.bl b)
theorem evds_nil : EvDs K M tNil σ H [] := fun H1 s Q q => q [] H1 (Sub.refl _) .nil
theorem evds_cons (h : EvD K M ta σ H d) (hr : EvDs K M tr σ H ds) : EvDs K M (tCons ta tr) σ H (d :: ds) := fun H1 s Q q =>
  h H1 s _ fun v H2 s2 hd => hr H2 (s.trans s2) _ fun vs H3 s3 hds => q _ H3 (s2.trans s3) (.cons (Dm.s hd s3) hds)
theorem evd_tup (n : Kn M H) (h : EvDs K M tr σ H ds) (hl : ds.length < 1000000) : EvD K M (tTup tr) σ H (.tuple ds) := fun H1 s Q q =>
  h H1 s _ fun vs H2 s2 hds => ⟨Nat.le_of_lt (szl (by rw [hds.len]; exact hl)), fun p hp => q _ _ (s2.trans (Sub.new hp)) (Dm.tupNew (n.sub (s.trans s2)) hp hds)⟩
theorem evd_lst (n : Kn M H) (h : EvDs K M tr σ H ds) (hl : ds.length < 1000000) : EvD K M (tLst tr) σ H (.list ds) := fun H1 s Q q =>
  h H1 s _ fun vs H2 s2 hds => ⟨Nat.le_of_lt (szl (by rw [hds.len]; exact hl)), fun p hp => q _ _ (s2.trans (Sub.new hp)) (Dm.lstNew (n.sub (s.trans s2)) hp hds)⟩
theorem evd_ixT {i : Int} (h : EvD K M ta σ H (.tuple ds)) (hi : EvD K M tb σ H (.int i)) (h0 : 0 ≤ i) (hd : ds[i.toNat]? = some d) : EvD K M (tOp (rIxT K) ta tb) σ H d := fun H1 s Q q =>
  h H1 s _ fun v H2 s2 hv => hi H2 (s.trans s2) _ fun u H3 s3 hu => by
    obtain ⟨a, xs, y, rfl, hs, hat, hy⟩ := dm_getT (Dm.s hv s3) h0 hd
    cases hu.intAt
    exact ⟨a, xs, i, y, rfl, rfl, hs, hat, q y H3 (s2.trans s3) hy⟩
theorem evd_ixL {i : Int} (h : EvD K M ta σ H (.list ds)) (hi : EvD K M tb σ H (.int i)) (h0 : 0 ≤ i) (hd : ds[i.toNat]? = some d) : EvD K M (tOp (rIxL K) ta tb) σ H d := fun H1 s Q q =>
  h H1 s _ fun v H2 s2 hv => hi H2 (s.trans s2) _ fun u H3 s3 hu => by
    obtain ⟨a, xs, y, rfl, hs, hat, hy⟩ := dm_get (Dm.s hv s3) h0 hd
    cases hu.intAt
    exact ⟨a, xs, i, y, rfl, rfl, hs, hat, q y H3 (s2.trans s3) hy⟩
theorem evo_none : EvO tNoPart σ H none := fun H1 _ Q q => q H1 (Sub.refl _)
theorem evo_some {i : Int} (h : EvD K M te σ H (.int i)) : EvO (tPart te) σ H (some i) := fun H1 s Q q => h H1 s _ fun v H2 s2 hv => by
  cases hv.intAt
  exact ⟨i, rfl, q H2 s2⟩
def cutD (ds : List PyData) (lo hi : Option Int) : List PyData := (ds.drop (HT.sIx ds.length 0 lo)).take (HT.sIx ds.length ds.length hi - HT.sIx ds.length 0 lo)
theorem dps_cut {vs : List V} (h : DpAll K H vs ds) (lo hi : Option Int) : DpAll K H (cutV vs lo hi) (cutD ds lo hi) := by
  unfold cutV cutD
  rw [h.len]
  exact (h.drop _).take _
theorem cutD_to {m : Int} (h0 : 0 ≤ m) (h1 : m ≤ ds.length) : cutD ds none (some m) = ds.take m.toNat := by
  have e : ((m.toNat : Nat) : Int) = m := by omega
  unfold cutD
  rw [← e, HT.sIx_none, HT.sIx_nat, e, List.drop_zero, Nat.sub_zero, Nat.min_eq_left (by omega)]
theorem cutD_from {m : Int} (h0 : 0 ≤ m) (h1 : m ≤ ds.length) : cutD ds (some m) none = ds.drop m.toNat := by
  have e : ((m.toNat : Nat) : Int) = m := by omega
  unfold cutD
  rw [← e, HT.sIx_none, HT.sIx_nat, e, Nat.min_eq_left (by omega)]
  exact List.take_of_length_le (by rw [List.length_drop]; omega)
theorem evd_slT {lo hi : Option Int} (n : Kn M H) (h : EvD K M te σ H (.tuple ds)) (h1 : EvO tl σ H lo) (h2 : EvO th σ H hi) : EvD K M (tSl (rSlA K) te tl th) σ H (.tuple (cutD ds lo hi)) := fun H1 s Q q =>
  h H1 s _ fun v H2 s2 hv => h1 H2 (s.trans s2) _ fun H3 s3 => h2 H3 ((s.trans s2).trans s3) _ fun H4 s4 => by
    have hv4 := Dm.s (Dm.s hv s3) s4
    obtain ⟨a, xs, rfl, hs, ha⟩ := hv4.tupAt
    refine ⟨a, xs, rfl, hs, fun w => q _ H4 ((s2.trans s3).trans s4) ?_, fun _ p hp => q _ _ (((s2.trans s3).trans s4).trans (Sub.new hp)) (Dm.tupNew (n.sub (((s.trans s2).trans s3).trans s4)) hp (dps_cut ha lo hi))⟩
    have e : cutD ds lo hi = ds := by
      unfold cutD
      rw [ha.len] at w
      rw [w.1, w.2, List.drop_zero, Nat.sub_zero, List.take_length]
    rw [e]
    exact hv4
theorem evd_slL {lo hi : Option Int} (n : Kn M H) (h : EvD K M te σ H (.list ds)) (h1 : EvO tl σ H lo) (h2 : EvO th σ H hi) : EvD K M (tSl (rSlL K) te tl th) σ H (.list (cutD ds lo hi)) := fun H1 s Q q =>
  h H1 s _ fun v H2 s2 hv => h1 H2 (s.trans s2) _ fun H3 s3 => h2 H3 ((s.trans s2).trans s3) _ fun H4 s4 => by
    have hv4 := Dm.s (Dm.s hv s3) s4
    obtain ⟨a, xs, rfl, hs, ha⟩ := hv4.lstAt
    exact ⟨a, xs, rfl, hs, fun p hp => q _ _ (((s2.trans s3).trans s4).trans (Sub.new hp)) (Dm.lstNew (n.sub (((s.trans s2).trans s3).trans s4)) hp (dps_cut ha lo hi))⟩
theorem evd_catT (n : Kn M H) (h : EvD K M ta σ H (.tuple ds)) (h2 : EvD K M tb σ H (.tuple es)) (hl : ds.length + es.length < 1000000) : EvD K M (tOp (rCatA K) ta tb) σ H (.tuple (ds ++ es)) := fun H1 s Q q =>
  h H1 s _ fun v H2 s2 hv => h2 H2 (s.trans s2) _ fun u H3 s3 hu => by
    have hv3 := Dm.s hv s3
    obtain ⟨a, xs, rfl, hs, ha⟩ := hv3.tupAt
    obtain ⟨b, ys, rfl, hs', hb⟩ := hu.tupAt
    have l1 := ha.len
    have l2 := hb.len
    refine ⟨a, b, xs, ys, rfl, rfl, hs, hs', Nat.le_of_lt (szl (by omega)), fun z => ?_, fun _ z => ?_, fun _ _ p hp => ?_⟩
    · have e : ds = [] := List.eq_nil_of_length_eq_zero (by rw [← l1, z]; rfl)
      rw [e, List.nil_append] at q
      exact q _ H3 (s2.trans s3) hu
    · have e : es = [] := List.eq_nil_of_length_eq_zero (by rw [← l2, z]; rfl)
      rw [e, List.append_nil] at q
      exact q _ H3 (s2.trans s3) hv3
    · exact q _ _ ((s2.trans s3).trans (Sub.new hp)) (Dm.tupNew (n.sub ((s.trans s2).trans s3)) hp (ha.app hb))
/-- a list that is new -/
def EvNL (K : PySem.W.Frag) (M : List Addr) (te : TE) (σ : L2.St) (H : Hp) (ds : List PyData) : Prop := ∀ H1, Sub H H1 → ∀ Q : VK, (∀ p xs H', Sub H1 H' → H1 p = none → H' p = some (.lst xs) → Dms K (p :: M) H' xs ds → Q (.ref p) H') → te σ H1 Q
theorem EvNL.toD (n : Kn M H) (h : EvNL K M te σ H ds) : EvD K M te σ H (.list ds) := fun H1 s Q q => h H1 s Q fun p xs H' s2 hp e hx => q _ H' s2 (Dm.lstOf ((n.sub s).out hp) e hx)
theorem evn_lst (h : EvDs K M tr σ H ds) (hl : ds.length < 1000000) : EvNL K M (tLst tr) σ H ds := fun H1 s Q q =>
  h H1 s _ fun vs H2 s2 hds => ⟨Nat.le_of_lt (szl (by rw [hds.len]; exact hl)), fun p hp => q p vs _ (s2.trans (Sub.new hp)) (s2.free hp) upd_same (Dms.k (hds.more hp) (Kp.mut List.mem_cons_self))⟩
theorem evd_lc {vs : List Nat} {j : Nat} (g : PyData → PyData) (n : Kn M H) (h : EvD K M te σ H (.list ds)) (hz : ds.length < 100000) (hw : ∀ x, wipe ((wipe σ vs).set j (some x)) vs = wipe σ vs)
    (he : ∀ (Dl : Addr), H Dl = none → ∀ (d : PyData) (x : V) (H1 : Hp), Sub H H1 → Kn (Dl :: M) H1 → d ∈ ds → Dm K (Dl :: M) H1 x d → EvD K (Dl :: M) tb ((wipe σ vs).set j (some x)) H1 (g d)) : EvNL K M (tLc (iList K te) (gName j) tYes tb vs) σ H (ds.map g) := fun H1 s Q q =>
  h H1 s _ fun v H2 s2 hv => by
    obtain ⟨a, xs, rfl, hs, ha⟩ := hv.lstAtE
    have s02 := s.trans s2
    have hl := ha.len
    refine ⟨a, rfl, ⟨xs, (er_sub _ _).sqL hs⟩, fun Dl hD => ?_⟩
    have h0D : H Dl = none := s02.free hD
    refine lc_list (K := K) (a := a) (xs := xs) (fun i H' => Sub H2 H' ∧ ∃ acc, H' Dl = some (.lst acc) ∧ Dms K (Dl :: M) H' acc ((ds.take i).map g) ∧ SqL K (er (Dl :: M) H') a xs ∧ Dms K (Dl :: M) H' xs ds)
      ⟨Sub.new hD, [], upd_same, .nil, Sub.sqL (Kp.er (Kp.mut List.mem_cons_self)) (by rw [er_more hD]; exact hs), (ha.more hD).k (Kp.mut List.mem_cons_self)⟩ (fun i H' _ p => ?_) (fun i x H' hi p => ?_) (fun H' p => ?_)
    · obtain ⟨_, acc, _, _, p3, _⟩ := p
      exact (er_sub _ _).sqL p3
    · obtain ⟨sp, acc, p1, p2, p3, p4⟩ := p
      obtain ⟨d, hd, hx⟩ := p4.get' hi
      refine ⟨hw x, ?_⟩
      unfold tYes
      dsimp only
      rw [if_pos rfl]
      refine he Dl h0D d x H' (s02.trans sp) ((n.sub (s02.trans sp)).more ⟨_, p1⟩) (List.mem_of_getElem? hd) hx H' (Sub.refl _) _ fun y H3 s3 hy => ⟨acc, s3 _ _ p1, ?_, ?_⟩
      · have q1 := p2.len
        rw [List.length_map, List.length_take] at q1
        exact szl (by omega)
      · have km : Kp (Dl :: M) H3 (upd H3 Dl (.lst (acc ++ [y]))) := Kp.mut List.mem_cons_self
        refine ⟨(sp.trans s3).mut hD, _, upd_same, ?_, Sub.sqL km.er (Sub.sqL (Kp.er fun a o _ e => s3 a o e) p3), (Dms.s p4 s3).k km⟩
        rw [take_snoc hd, List.map_append]
        exact Dms.k ((Dms.s p2 s3).app (DpAll.one hy)) km
    · obtain ⟨sp, acc, p1, p2, p3, p4⟩ := p
      rw [hl, List.take_length] at p2
      exact q Dl acc H' (s2.trans sp) (s2.free hD) p1 p2
theorem evd_lcR {vs : List Nat} {j : Nat} {m : Int} (g : Nat → PyData) (n : Kn M H) (h : EvDs K M tr σ H [.int m]) (h0 : 0 ≤ m) (hz : m < 100000) (hw : ∀ x, wipe ((wipe σ vs).set j (some x)) vs = wipe σ vs)
    (he : ∀ (Dl : Addr), H Dl = none → ∀ (i : Nat) (H1 : Hp), Sub H H1 → Kn (Dl :: M) H1 → (i : Int) < m → EvD K (Dl :: M) tb ((wipe σ vs).set j (some (.int (i : Int)))) H1 (g i)) : EvNL K M (tLc (iRng1 tr) (gName j) tYes tb vs) σ H ((List.range m.toNat).map g) := fun H1 s Q q =>
  h H1 s _ fun us H2 s2 hv => by
    cases hv with
    | cons hv1 hv2 =>
    cases hv2
    cases hv1
    have s02 := s.trans s2
    refine ⟨m, rfl, by omega, by omega, fun Dl hD => ?_⟩
    have h0D : H Dl = none := s02.free hD
    refine lc_range (lo := 0) (n := m.toNat) (fun i H' => Sub H2 H' ∧ ∃ acc, H' Dl = some (.lst acc) ∧ Dms K (Dl :: M) H' acc ((List.range i).map g))
      ⟨Sub.new hD, [], upd_same, .nil⟩ (fun i H' hi p => ?_) (fun H' p => ?_)
    · obtain ⟨sp, acc, p1, p2⟩ := p
      rw [show (0 : Int) + (i : Nat) = (i : Int) by omega]
      refine ⟨hw _, ?_⟩
      unfold tYes
      dsimp only
      rw [if_pos rfl]
      refine he Dl h0D i H' (s02.trans sp) ((n.sub (s02.trans sp)).more ⟨_, p1⟩) (by omega) H' (Sub.refl _) _ fun y H3 s3 hy => ⟨acc, s3 _ _ p1, ?_, ?_⟩
      · have q1 := p2.len
        rw [List.length_map, List.length_range] at q1
        exact szl (by omega)
      · have km : Kp (Dl :: M) H3 (upd H3 Dl (.lst (acc ++ [y]))) := Kp.mut List.mem_cons_self
        refine ⟨(sp.trans s3).mut hD, _, upd_same, ?_⟩
        rw [List.range_succ, List.map_append]
        exact Dms.k ((Dms.s p2 s3).app (DpAll.one hy)) km
    · obtain ⟨sp, acc, p1, p2⟩ := p
      exact q Dl acc H' (s2.trans sp) (s2.free hD) p1 p2
end

theorem lt1 {α : Type} {a : α} : [a].length < 1000000 := by
  show 1 < 1000000
  decide
theorem lt2 {α : Type} {a b : α} : [a, b].length < 1000000 := by
  show 2 < 1000000
  decide
theorem lt3 {α : Type} {a b c : α} : [a, b, c].length < 1000000 := by
  show 3 < 1000000
  decide
theorem lt4 {α : Type} {a b c d : α} : [a, b, c, d].length < 1000000 := by
  show 4 < 1000000
  decide
section
variable {K : PySem.W.Frag} {M : List Addr} {σ : L2.St} {H H' : Hp} {te : TE} {tr : TA} {d : PyData} {ds : List PyData} {D : Ends} {u : TS} {i : Nat} {sp : Sp} {E : XK} {Q : VK} {y : V}
theorem ret_of (h : te σ H D.rt) : tRet te D σ H := h
theorem set_of (h : te σ H fun x H1 => D.nx (σ.set i (some x)) H1) : tAsg te (gName i) D σ H := h
theorem sset_of (h : te σ H fun x H1 => u D (σ.set i (some x)) H1) : tSeq (tAsg te (gName i)) u D σ H := h
theorem evd_set (h : EvD K M te σ H d) (k : ∀ v H1, Sub H H1 → Dm K M H1 v d → D.nx (σ.set i (some v)) H1) : tAsg te (gName i) D σ H := h H (Sub.refl _) _ fun v H1 s hd => k v H1 s hd
theorem evd_sset (h : EvD K M te σ H d) (k : ∀ v H1, Sub H H1 → Dm K M H1 v d → u D (σ.set i (some v)) H1) : tSeq (tAsg te (gName i)) u D σ H := h H (Sub.refl _) _ fun v H1 s hd => k v H1 s hd
theorem evd_ret (h : EvD K M te σ H d) (k : ∀ v H1, Sub H H1 → Dm K M H1 v d → D.rt v H1) : tRet te D σ H := h H (Sub.refl _) _ fun v H1 s hd => k v H1 s hd
theorem evb_call (hb : σ[i]? = some (some y)) (h : EvDs K M tr σ H ds) (k : ∀ vs H1, Sub H H1 → Dms K M H1 vs ds → sp (y :: vs) H1 Q E) : tCall sp [] E (tCons (tVar i) tr) σ H Q :=
  ⟨y, hb, h H (Sub.refl _) _ fun vs H1 s hd => by
    dsimp only
    rw [List.append_nil]
    exact k vs H1 s hd⟩
theorem evd_callQ (h : EvDs K M tr σ H ds) (k : ∀ vs H1, Sub H H1 → Dms K M H1 vs ds → sp vs H1 Q E) : tCall sp [] E tr σ H Q :=
  h H (Sub.refl _) _ fun vs H1 s hd => by
    rw [List.append_nil]
    exact k vs H1 s hd
theorem Dms.one_at {vs : List V} (h : Dms K M H vs [d]) : ∃ v, vs = [v] ∧ Dm K M H v d := by
  cases h with
  | cons h1 h2 =>
    cases h2
    exact ⟨_, rfl, h1⟩
theorem Dms.two_at {vs : List V} {e : PyData} (h : Dms K M H vs [d, e]) : ∃ v w, vs = [v, w] ∧ Dm K M H v d ∧ Dm K M H w e := by
  cases h with
  | cons h1 h2 =>
    obtain ⟨w, rfl, h3⟩ := Dms.one_at h2
    exact ⟨_, _, rfl, h1, h3⟩
theorem Dms.three_at {vs : List V} {e f : PyData} (h : Dms K M H vs [d, e, f]) : ∃ v w x, vs = [v, w, x] ∧ Dm K M H v d ∧ Dm K M H w e ∧ Dm K M H x f := by
  cases h with
  | cons h1 h2 =>
    obtain ⟨w, x, rfl, h3, h4⟩ := Dms.two_at h2
    exact ⟨_, _, _, rfl, h1, h3, h4⟩
end

/-! the words that a couple may have -/
def Words : List Str := ["wait", "yield", "oust"]
abbrev Cp := Str × Str
def cpD (c : Cp) : PyData := .tuple [.str c.1, .str c.2]
def CpOk (c : Cp) : Prop := c.1 ∈ Words ∧ c.2 ∈ Words
section
variable {P : Program} {w : World} {K : PySem.W.Frag} {mg : Str → Option Value} {base : Heap}
end
end KZ

namespace KZ
open PySem PySem.Spec PyProof.Rows L2
section
variable {K : PySem.W.Frag} {M : List Addr} {σ : L2.St} {H H' : Hp} {te : TE} {tr : TA} {b l : Addr}
theorem lcR_bag {vs : List Nat} {j : Nat} {m : Int} (P : PyData → Prop) (cb : Cb M b l H) (h : EvDs K M tr σ H [.int m]) (h0 : 0 ≤ m) (hz : m < 100000) (hw : ∀ x, wipe ((wipe σ vs).set j (some x)) vs = wipe σ vs)
    (he : ∀ (Dl : Addr), H Dl = none → ∀ (i : Nat) (H1 : Hp), Fr b l H H1 → Cb (Dl :: M) b l H1 → (i : Int) < m → ∀ Q : VK, (∀ y d H2, Fr b l H1 H2 → P d → Dm K (Dl :: M) H2 y d → Q y H2) → te ((wipe σ vs).set j (some (.int (i : Int)))) H1 Q)
    (Q : VK) (q : ∀ p xs ds H', Fr b l H H' → H p = none → H' p = some (.lst xs) → Dms K (p :: M) H' xs ds → ds.length = m.toNat → (∀ d ∈ ds, P d) → Q (.ref p) H') : tLc (iRng1 tr) (gName j) tYes te vs σ H Q :=
  h H (Sub.refl _) _ fun us H2 s2 hv => by
    cases hv with
    | cons hv1 hv2 =>
    cases hv2
    cases hv1
    have f2 : Fr b l H H2 := Fr.sub cb.bag s2
    refine ⟨m, rfl, by omega, by omega, fun Dl hD => ?_⟩
    have h0D : H Dl = none := s2.free hD
    have pb := ne_new cb.bag.at h0D
    refine lc_range (lo := 0) (n := m.toNat) (fun i H' => Fr b l H H' ∧ ∃ acc ds, H' Dl = some (.lst acc) ∧ Dms K (Dl :: M) H' acc ds ∧ ds.length = i ∧ ∀ d ∈ ds, P d)
      ⟨f2.mut cb.bag h0D, [], [], upd_same, .nil, rfl, by simp⟩ (fun i H' hi p => ?_) (fun H' p => ?_)
    · obtain ⟨fp, acc, ds, p1, p2, p3, p4⟩ := p
      have c3 : Cb (Dl :: M) b l H' := (cb.fr fp).more ⟨_, p1⟩
      rw [show (0 : Int) + (i : Nat) = (i : Int) by omega]
      refine ⟨hw _, ?_⟩
      unfold tYes
      dsimp only
      rw [if_pos rfl]
      refine he Dl h0D i H' fp c3 (by omega) _ fun y d H3 f3 pd hy => ⟨acc, f3.k Dl _ (by simp [pb]) p1, ?_, ?_⟩
      · have q1 := p2.len
        exact szl (by omega)
      · have km : Kp (Dl :: M) H3 (upd H3 Dl (.lst (acc ++ [y]))) := Kp.mut List.mem_cons_self
        refine ⟨(fp.trans f3).mut cb.bag h0D, _, ds ++ [d], upd_same, Dms.k ((p2.f f3 c3.mem).app (DpAll.one hy)) km, by rw [List.length_append, p3] <;> rfl, ?_⟩
        intro e he
        rcases List.mem_append.mp he with he | he
        · exact p4 e he
        · rw [List.mem_singleton.mp he]
          exact pd
    · obtain ⟨fp, acc, ds, p1, p2, p3, p4⟩ := p
      exact q Dl acc ds H' fp h0D p1 p2 p3 p4
end
theorem args1 {te : TE} {σ : L2.St} {H : Hp} {Q : List V → Hp → Prop} (h : te σ H fun v H1 => Q [v] H1) : tCons te tNil σ H Q := h
theorem cb_args {r : List V → Hp → VK → Prop} {te : TE} {σ : L2.St} {H : Hp} {Q : VK} (h : te σ H fun v H1 => r [v] H1 Q) : tCB r (tCons te tNil) σ H Q := h
abbrev Row := List Cp
abbrev Tab := List Row
abbrev Jud := List Tab
def rowD (r : Row) : PyData := .tuple (r.map cpD)
def tabD (t : Tab) : PyData := .tuple (t.map rowD)
def judD (j : Jud) : PyData := .tuple (j.map tabD)
def RowOk (n : Nat) (r : Row) : Prop := r.length = n ∧ ∀ c ∈ r, CpOk c
def TabOk (n : Nat) (t : Tab) : Prop := t.length = n ∧ ∀ r ∈ t, RowOk n r
def JudOk (n m : Nat) (j : Jud) : Prop := j.length = m ∧ ∀ t ∈ j, TabOk n t
theorem cps_of {ds : List PyData} (h : ∀ d ∈ ds, ∃ c, CpOk c ∧ d = cpD c) : ∃ r : Row, ds = r.map cpD ∧ ∀ c ∈ r, CpOk c := by
  induction ds with
  | nil => exact ⟨[], rfl, by simp⟩
  | cons d ds ih =>
    obtain ⟨r, e, o⟩ := ih fun x hx => h x (List.mem_cons_of_mem _ hx)
    obtain ⟨c, oc, rfl⟩ := h d List.mem_cons_self
    exact ⟨c :: r, by rw [e] <;> rfl, fun x hx => (List.mem_cons.mp hx).elim (fun z => by rw [z]; exact oc) (o x)⟩
section
variable {P : Program} {w : World} {K : PySem.W.Frag} {mg : Str → Option Value} {base : Heap}
end
end KZ


namespace KZ
open PySem PySem.Spec PyProof.Rows L2
theorem set_eq {α : Type} (d : α) : ∀ (ds : List α) (i : Nat), i < ds.length → ds.take i ++ [d] ++ ds.drop (i + 1) = ds.set i d
  | [], _, h => by simp at h
  | x :: xs, 0, _ => rfl
  | x :: xs, i + 1, h => by
    have q := set_eq d xs i (by simpa using h)
    show x :: (xs.take i ++ [d] ++ xs.drop (i + 1)) = x :: xs.set i d
    rw [q]
section
variable {K : PySem.W.Frag} {M : List Addr} {σ : L2.St} {H H' : Hp} {ta tb tx ti tj te : TE} {tr : TA} {d : PyData} {ds : List PyData} {i : Int}
theorem evd_add {j : Int} (ha : EvD K M ta σ H (.int i)) (hb : EvD K M tb σ H (.int j)) : EvD K M (tOp (rI0 fun i j => .int (i + j)) ta tb) σ H (.int (i + j)) := fun H1 s Q q =>
  ha H1 s _ fun v H2 s2 hv => hb H2 (s.trans s2) _ fun u H3 s3 hu => by
    cases hv.intAt
    cases hu.intAt
    exact ⟨i, j, rfl, rfl, q _ H3 (s2.trans s3) (.int _)⟩
/-- a call of a def without a bag, by the data of its arguments -/
def SpD (K : PySem.W.Frag) (M : List Addr) (sp : Sp) (H : Hp) (ds : List PyData) (d : PyData) : Prop := ∀ (vs : List V) (H1 : Hp) (Q : VK) (E : XK), Sub H H1 → Dms K M H1 vs ds → (∀ v H', Sub H1 H' → Dm K M H' v d → Q v H') → sp vs H1 Q E
theorem evd_call {sp : Sp} {E : XK} (h : EvDs K M tr σ H ds) (hs : SpD K M sp H ds d) : EvD K M (tCall sp [] E tr) σ H d := fun H1 s Q q =>
  h H1 s _ fun vs H2 s2 hd => by
    rw [List.append_nil]
    exact hs vs H2 Q E (s.trans s2) hd fun v H' s3 hv => q v H' (s2.trans s3) hv
end

section
variable {P : Program} {w : World} {K : PySem.W.Frag} {mg : Str → Option Value} {base : Heap}
end
end KZ

namespace KZ
open PySem PySem.Spec PyProof.Rows L2
theorem Dm.threeT {K : PySem.W.Frag} {M : List Addr} {H : Hp} {v : V} {d e f : PyData} (h : Dm K M H v (.tuple [d, e, f])) : ∃ a v1 v2 v3, v = .ref a ∧ SqT K H a [v1, v2, v3] ∧ Dm K M H v1 d ∧ Dm K M H v2 e ∧ Dm K M H v3 f := by
  obtain ⟨a, xs, rfl, hs, ha⟩ := h.tupAt
  obtain ⟨v1, v2, v3, rfl, h1, h2, h3⟩ := Dms.three_at ha
  exact ⟨a, v1, v2, v3, rfl, hs, h1, h2, h3⟩
section
variable {P : Program} {w : World} {K : PySem.W.Frag} {mg : Str → Option Value} {base : Heap}
/-! a row of kinds with another one -/
end
end KZ

namespace KZ
open PySem PySem.Spec PyProof.Rows L2
structure Hou where
  ks : List Kd
  ss : List Str
  j : Jud
def houD (h : Hou) : PyData := .tuple [.tuple (h.ks.map kdD), .tuple (h.ss.map PyData.str), judD h.j]
structure HouOk (h : Hou) : Prop where
  k0 : 0 < h.ks.length
  k1 : h.ks.length < 10
  ks : KdsOk h.ks
  s0 : 0 < h.ss.length
  s1 : h.ss.length < 10
  sn : ∀ n ∈ h.ss, n ∈ Names
  sd : h.ss.Nodup
  j : JudOk h.ks.length h.ss.length h.j
theorem mem_set {α : Type} {l : List α} {i : Nat} {x y : α} (h : y ∈ l.set i x) : y ∈ l ∨ y = x := by
  rcases List.mem_or_eq_of_mem_set h with h | h
  · exact .inl h
  · exact .inr h
section
variable {P : Program} {w : World} {K : PySem.W.Frag} {mg : Str → Option Value} {base : Heap}
end
end KZ

namespace KZ
open PySem PySem.Spec PyProof.Rows L2
section
variable {P : Program} {w : World} {K : PySem.W.Frag} {mg : Str → Option Value} {base : Heap}
theorem wordsD {d : PyData} (h : d ∈ [PyData.str "wait", PyData.str "yield", PyData.str "oust"]) : ∃ x, x ∈ Words ∧ d = .str x := by
  simp only [List.mem_cons, List.not_mem_nil, or_false] at h
  unfold Words
  rcases h with h | h | h
  · exact ⟨_, by simp, h⟩
  · exact ⟨_, by simp, h⟩
  · exact ⟨_, by simp, h⟩
theorem tup_of {tr : TA} {σ : L2.St} {H : Hp} {Q : VK} (h : tr σ H fun xs H1 => xs.length ≤ sizeLine ∧ ∀ p, H1 p = none → Q (.ref p) (upd H1 p (.tup xs))) : tTup tr σ H Q := h
theorem cons_of {te : TE} {tr : TA} {σ : L2.St} {H : Hp} {Q : List V → Hp → Prop} (h : te σ H fun x H1 => tr σ H1 fun xs H2 => Q (x :: xs) H2) : tCons te tr σ H Q := h
section
variable {M : List Addr} {b l : Addr} {σ : L2.St} {H : Hp} {Q : VK} {E : XK}
theorem some_words (cb : Cb M b l H) (h0 : σ[0]? = some (some (.ref b))) (q : ∀ y x H', Fr b l H H' → x ∈ Words → Dm K M H' y (.str x) → Q y H') :
    tCall (spSome K) [] E (tCons (tVar 0) (tCons (tLst (tCons (tC (.str "wait")) (tCons (tC (.str "yield")) (tCons (tC (.str "oust")) tNil)))) tNil)) σ H Q := by
  refine evb_call (K := K) (M := M) h0 (evds_cons (evd_lst cb.kn (evds_cons evd_str (evds_cons evd_str (evds_cons evd_str evds_nil))) lt3) evds_nil) fun vs H1 s1 h1 => ?_
  obtain ⟨v, rfl, h1'⟩ := Dms.one_at h1
  have f1 : Fr b l H H1 := Fr.sub cb.bag s1
  refine ⟨M, b, l, v, _, rfl, cb.fr f1, .inl h1', by decide, by decide, fun y d H' f2 hd hy => ?_⟩
  obtain ⟨x, hx, rfl⟩ := wordsD hd
  exact q y x H' (f1.trans f2) hx hy
theorem take_lit {n : Int} (cb : Cb M b l H) (h0 : σ[0]? = some (some (.ref b))) (hn : 0 < n) (hz : n < 1000000) (q : ∀ (j : Int) (H' : Hp), Fr b l H H' → 0 ≤ j → j < n → Q (.int j) H') : tCall spTake [] E (tCons (tVar 0) (tCons (tC (.int n)) tNil)) σ H Q :=
  ⟨_, h0, b, l, n, rfl, cb.bag, hn, by omega, fun j H' f j0 j1 => q j H' f j0 j1⟩
theorem take_len {i : Nat} {v : V} {ds : List PyData} (cb : Cb M b l H) (h0 : σ[0]? = some (some (.ref b))) (hi : σ[i]? = some (some v)) (hv : Its K M H v ds) (d0 : 0 < ds.length) (d1 : ds.length < 1000000)
    (q : ∀ (j : Int) (H' : Hp), Fr b l H H' → 0 ≤ j → j < ds.length → Q (.int j) H') :
    tCall spTake [] E (tCons (tVar 0) (tCons (tCB (fun xs H Q => ∃ p ys, xs = [.ref p] ∧ (SqL K H p ys ∨ SqT K H p ys) ∧ Q (.int ys.length) H) (tCons (tVar i) tNil)) tNil)) σ H Q := by
  obtain ⟨a, xs, rfl, hs, ha⟩ := hv.at
  have hl := ha.len
  exact ⟨_, h0, _, hi, a, xs, rfl, hs, b, l, _, rfl, cb.bag, by omega, by omega, fun j H' f j0 j1 => q j H' f j0 (by omega)⟩
theorem evd_not {b : Bool} {te : TE} (h : EvD K M te σ H (.bool b)) : EvD K M (tNotV te) σ H (.bool (!b)) := fun H1 s Q q => h H1 s _ fun v H2 s2 hv => by
  cases hv.blAt
  exact ⟨b, rfl, q _ H2 s2 (.bl _)⟩
end
end
end KZ

namespace KZ
open PySem PySem.Spec PyProof.Rows L2
def spBag (K : PySem.W.Frag) : Sp := fun vs H Q _ => ∃ (a : Addr) (ns : List Int), vs = [.ref a] ∧ SqL K H a (ns.map V.int) ∧ ns.length ≤ 63 ∧ ∀ (b l : Addr) (H' : Hp), Sub H H' → Bag b l H' → Q (.ref b) H'
theorem er_nil (H : Hp) : er [] H = H := by
  funext a
  unfold er
  exact if_neg (by simp)
theorem dps_ints {K : PySem.W.Frag} {H : Hp} : ∀ l : List Int, DpAll K H (l.map V.int) (l.map PyData.int)
  | [] => .nil
  | x :: l => .cons (.int x) (dps_ints l)
theorem ints_dps {K : PySem.W.Frag} {H : Hp} : ∀ {l : List Int} {vs : List V}, DpAll K H vs (l.map PyData.int) → vs = l.map V.int
  | [], _, h => by
    cases h
    rfl
  | x :: l, _, h => by
    cases h with
    | cons h1 h2 =>
      cases h1
      rw [ints_dps h2]
      rfl
theorem c_of {v : V} {σ : L2.St} {H : Hp} {Q : VK} (h : Q v H) : tC v σ H Q := h
theorem lst_of {tr : TA} {σ : L2.St} {H : Hp} {Q : VK} (h : tr σ H fun xs H1 => xs.length ≤ sizeLine ∧ ∀ p, H1 p = none → Q (.ref p) (upd H1 p (.lst xs))) : tLst tr σ H Q := h
def absD : PyData → Int
  | .int i => if i < 0 then -i else i
  | _ => 0
section
variable {P : Program} {w : World} {K : PySem.W.Frag} {mg : Str → Option Value} {base : Heap}
abbrev sBag : Stmt := topS 25
theorem scBag : FnScope ["script", "cell"] ["script"] (defScope sBag) := ⟨rfl, rfl, rfl, by decide +kernel, rfl, by decide +kernel, by decide +kernel⟩
theorem ok_bag {f : Addr} {fd : FuncData} (F : Fun K "_law_bag" "_law_bag" sBag f fd) (T : Txt mg) : FnOk P w K mg base CX0 1 f fd ["script"] (spBag K) := by
  refine F.ok scBag (fun vs H Q E h => ?_) (fun cdv A outer s H vs Q E hr h => ?_)
  · obtain ⟨a, ns, rfl, _⟩ := h
    rfl
  · obtain ⟨a, ns, rfl, hs, hl, k⟩ := h
    refine ⟨_, pss_one (ps_ret (pe_lst (pa_cons pe_int (pa_cons pe_int (pa_cons pe_int (pa_cons
      (pe_lc (own := [("cell", 1)]) (g := gName 1) (tt := tYes) rfl scBag.nd (pi_list (pe_slice sl_list (pv 0) po_none (po_some pe_int))) (blkOk_by (N := ["script", "cell"]) (sc := defScope sBag) (by decide +kernel)) (fun _ _ _ _ _ => pg_name (i := 1) scBag.nd rfl (Or.inl rfl)) (fun _ _ _ _ _ => pts_nil)
        (fun _ _ _ _ _ => pe_callB call_abs (by rfl) T.abs PyProof.Rows.boot_abs (pa_cons (pv 1) pa_nil))) pa_nil)))))), ?_⟩
    have hd : Dm K [] H (.ref a) (.list (ns.map PyData.int)) := .lst (by rw [er_nil]; exact hs) (dps_ints ns)
    have kn : Kn [] H := fun a m => nomatch m
    refine ret_of (lst_of (cons_of (c_of (cons_of (c_of (cons_of (c_of (cons_of ?_))))))))
    have e0 : EvD K [] (tVar 0) ([some (.ref a), none] : L2.St) H (.list (ns.map PyData.int)) := evd_var rfl hd
    have e1 : EvD K [] (tSl (rSlL K) (tVar 0) tNoPart (tPart (tC (.int 63)))) ([some (.ref a), none] : L2.St) H (.list (ns.map PyData.int)) := by
      have q := evd_slL kn e0 evo_none (evo_some (evd_int (K := K) (M := []) (i := 63)))
      have z : cutD (ns.map PyData.int) none (some 63) = ns.map PyData.int := by
        unfold cutD
        have e : HT.sIx (ns.map PyData.int).length (ns.map PyData.int).length (some 63) = (ns.map PyData.int).length := by
          rw [show (63 : Int) = ((63 : Nat) : Int) from rfl, HT.sIx_nat, List.length_map]
          exact Nat.min_eq_right hl
        rw [e, HT.sIx_none, List.drop_zero, Nat.sub_zero, List.take_length]
      rw [z] at q
      exact q
    refine evd_lc (g := fun d => .int (absD d)) kn e1 (by rw [List.length_map]; omega) (by intro z; rfl) ?_ H (Sub.refl _) _ fun p xs H1 s1 hp h1p hxs => ?_
    · intro Dl hD d x H1 s1 n1 hd1 hx1
      obtain ⟨i, _, rfl⟩ := List.mem_map.mp hd1
      cases Dm.intAt hx1
      intro H2 s2 Q2 q2
      exact ⟨_, rfl, i, rfl, q2 _ H2 (Sub.refl _) (.int _)⟩
    · rw [List.map_map, show ((fun d => PyData.int (absD d)) ∘ PyData.int) = PyData.int ∘ (fun i : Int => if i < 0 then -i else i) from rfl, ← List.map_map] at hxs
      have ex := ints_dps hxs
      refine ⟨by show 4 ≤ sizeLine; decide, fun q hq => ?_⟩
      refine k q p _ (s1.trans (Sub.new hq)) ⟨0, 1234567891, 0, ns.map fun i : Int => if i < 0 then -i else i, upd_same, ne_of_none h1p hq, ?_, by decide, by decide, by decide, by decide, by rw [List.length_map]; omega, ?_⟩
      · rw [upd_ne (ne_of_none h1p hq), h1p, ex]
      · intro c hc
        obtain ⟨i, _, rfl⟩ := List.mem_map.mp hc
        split <;> omega
/-! a house -/
end
end KZ

namespace KZ
open PySem PySem.Spec PyProof.Rows L2
abbrev Pl := Nat × Nat × Nat × Nat
def plK (p : Pl) : List L2.Key := [.inl (p.1 : Int), .inl (p.2.1 : Int), .inl (p.2.2.1 : Int), .inl (p.2.2.2 : Int)]
theorem plV (p : Pl) : (plK p).map kV = [.int (p.1 : Int), .int (p.2.1 : Int), .int (p.2.2.1 : Int), .int (p.2.2.2 : Int)] := rfl
def plD (p : Pl) : PyData := .tuple [.int (p.1 : Int), .int (p.2.1 : Int), .int (p.2.2.1 : Int), .int (p.2.2.2 : Int)]
def pl3 (s a h : Nat) : List Pl := [(s, a, h, 0), (s, a, h, 1)]
def pl2 (n s a : Nat) : List Pl := (List.range n).flatMap fun h => pl3 s a h
def pl1 (n s : Nat) : List Pl := (List.range n).flatMap fun a => pl2 n s a
def plL (n m : Nat) : List Pl := (List.range m).flatMap fun s => pl1 n s
theorem flat_succ {α : Type} (f : Nat → List α) (n : Nat) : (List.range (n + 1)).flatMap f = (List.range n).flatMap f ++ f n := by
  rw [List.range_succ, List.flatMap_append]
  simp
/-- tracked tuples that are new since H -/
abbrev PlAt (H H' : Hp) (ps : List Addr) (l : List Pl) : Prop := Paired (fun (q : Addr) (p : Pl) => H q = none ∧ H' q = some (.tup ((plK p).map kV))) ps l
theorem PlAt.mono {H A B : Hp} {ps : List Addr} {l : List Pl} (h : PlAt H A ps l) (k : ∀ q o, H q = none → A q = some o → (∃ vs, o = .tup vs) → B q = some o) : PlAt H B ps l :=
  Paired.mapP h fun q p e => ⟨e.1, k q _ e.1 e.2 ⟨_, rfl⟩⟩
theorem paired_app {α β : Type} {F : α → β → Prop} : ∀ {a c : List α} {b d : List β}, Paired F a b → Paired F c d → Paired F (a ++ c) (b ++ d)
  | _, _, _, _, .nil, h => h
  | _, _, _, _, .cons x t, h => .cons x (paired_app t h)
theorem paired_len {α β : Type} {F : α → β → Prop} {a : List α} {b : List β} (h : Paired F a b) : a.length = b.length := Paired.length h
theorem len3 (s a h : Nat) : (pl3 s a h).length = 2 := rfl
theorem flat_len {α : Type} (f : Nat → List α) (k : Nat) (hf : ∀ i, (f i).length = k) : ∀ n, ((List.range n).flatMap f).length = n * k
  | 0 => by simp
  | n + 1 => by rw [flat_succ, List.length_append, flat_len f k hf n, hf, Nat.succ_mul]
theorem len2 (n s a : Nat) : (pl2 n s a).length = n * 2 := flat_len _ 2 (fun h => len3 s a h) n
theorem len1 (n s : Nat) : (pl1 n s).length = n * (n * 2) := flat_len _ (n * 2) (fun a => len2 n s a) n
theorem len0 (n m : Nat) : (plL n m).length = m * (n * (n * 2)) := flat_len _ (n * (n * 2)) (fun s => len1 n s) m
section
variable {P : Program} {w : World} {K : PySem.W.Frag} {mg : Str → Option Value} {base : Heap}
/-- range(len(house[i])) -/
theorem rng_len {M : List Addr} {σ : L2.St} {H : Hp} {i : Int} {ds rs : List PyData} {v : V} {R : It → Hp → Prop} (hv : σ[0]? = some (some v)) (hd : Dm K M H v (.tuple ds)) (i0 : 0 ≤ i) (hi : ds[i.toNat]? = some (.tuple rs)) (hz : rs.length < 1000) (k : R (Itr 0 rs.length) H) :
    iRng1 (tCons (tCB (fun xs H Q => ∃ p ys, xs = [V.ref p] ∧ (SqL K H p ys ∨ SqT K H p ys) ∧ Q (.int ys.length) H) (tCons (tOp (rIxT K) (tVar 0) (tC (.int i))) tNil)) tNil) σ H R := by
  obtain ⟨a, xs, y, rfl, hs, hat, hy⟩ := dm_getT hd i0 hi
  obtain ⟨b, ys, rfl, hs2, ha2⟩ := hy.tupAt
  refine ⟨_, hv, a, xs, i, _, rfl, rfl, hs, hat, b, ys, rfl, .inr hs2, _, rfl, by omega, ?_, ?_⟩
  · have := ha2.len
    omega
  · rw [ha2.len]
    exact k
/-- for j in range(len(house[i])) -/
theorem for_len {M : List Addr} {σ : L2.St} {H : Hp} {i : Int} {ds rs : List PyData} {v : V} {g : TG} {tb : TS} {D : Ends} (hv : σ[0]? = some (some v)) (hd : Dm K M H v (.tuple ds)) (i0 : 0 ≤ i) (hi : ds[i.toNat]? = some (.tuple rs)) (hz : rs.length < 1000)
    (Pv : Nat → L2.St → Hp → Prop) (h0 : Pv 0 σ H) (hs : ∀ (i : Nat) σ H, i < rs.length → Pv i σ H → g (.int (i : Int)) σ H fun σ2 H2 => tb { D with nx := Pv (i + 1), ct := Pv (i + 1), bk := D.nx } σ2 H2) (hn : ∀ σ H, Pv rs.length σ H → D.nx σ H) :
    tFor (iRng1 (tCons (tCB (fun xs H Q => ∃ p ys, xs = [V.ref p] ∧ (SqL K H p ys ∨ SqT K H p ys) ∧ Q (.int ys.length) H) (tCons (tOp (rIxT K) (tVar 0) (tC (.int i))) tNil)) tNil)) g tb D σ H :=
  rng_len hv hd i0 hi hz (for_range (lo := 0) (n := rs.length) Pv h0 (fun i σ H hi p => by
    rw [show (0 : Int) + (i : Nat) = (i : Int) by omega]
    exact hs i σ H hi p) hn)
theorem gname_of {i : Nat} {x : V} {σ : L2.St} {H : Hp} {k : L2.St → Hp → Prop} (h : k (σ.set i (some x)) H) : gName i x σ H k := h
theorem sfor {wi : TI} {g : TG} {tb u : TS} {D : Ends} {σ : L2.St} {H : Hp} (h : tFor wi g tb { D with nx := u D } σ H) : tSeq (tFor wi g tb) u D σ H := h
theorem for1 {wi : TI} {g : TG} {tb : TS} {D : Ends} {σ : L2.St} {H : Hp} (h : tFor wi g tb D σ H) : tFor wi g tb D σ H := h
end
end KZ

namespace KZ
open PySem PySem.Spec PyProof.Rows L2
def side (c : Cp) (d : Nat) : Str := if d = 0 then c.1 else c.2
/-- the word at a place -/
def wordAt (j : Jud) (p : Pl) : Str := side (((j.getD p.1 []).getD p.2.1 []).getD p.2.2.1 ("", "")) p.2.2.2
def PlIn (n m : Nat) (p : Pl) : Prop := p.1 < m ∧ p.2.1 < n ∧ p.2.2.1 < n ∧ p.2.2.2 < 2
theorem getD_of {α : Type} {l : List α} {i : Nat} (h : i < l.length) (d : α) : l[i]? = some (l.getD i d) := by
  rw [List.getD_eq_getElem?_getD, List.getElem?_eq_getElem h]
  rfl
theorem mem_plL {n m : Nat} {p : Pl} (h : p ∈ plL n m) : PlIn n m p := by
  unfold plL pl1 pl2 pl3 at h
  obtain ⟨s, hs, h⟩ := List.mem_flatMap.mp h
  obtain ⟨a, ha, h⟩ := List.mem_flatMap.mp h
  obtain ⟨k, hk, h⟩ := List.mem_flatMap.mp h
  have := List.mem_range.mp hs
  have := List.mem_range.mp ha
  have := List.mem_range.mp hk
  rcases List.mem_cons.mp h with h | h
  · rw [h]
    exact ⟨by assumption, by assumption, by assumption, by show 0 < 2; decide⟩
  · rw [List.mem_singleton.mp h]
    exact ⟨by assumption, by assumption, by assumption, by show 1 < 2; decide⟩
theorem plL_mem {n m : Nat} {p : Pl} (h : PlIn n m p) : p ∈ plL n m := by
  obtain ⟨s, a, k, d⟩ := p
  obtain ⟨h1, h2, h3, h4⟩ := h
  refine List.mem_flatMap.mpr ⟨s, List.mem_range.mpr h1, List.mem_flatMap.mpr ⟨a, List.mem_range.mpr h2, List.mem_flatMap.mpr ⟨k, List.mem_range.mpr h3, ?_⟩⟩⟩
  have h4 : d < 2 := h4
  rcases (by omega : d = 0 ∨ d = 1) with z | z
  · rw [z]
    exact List.mem_cons_self
  · rw [z]
    exact List.mem_cons_of_mem _ List.mem_cons_self
theorem plK_inj {p q : Pl} (h : plK p = plK q) : p = q := by
  obtain ⟨a, b, c, d⟩ := p
  obtain ⟨a', b', c', d'⟩ := q
  simp only [plK, List.cons.injEq, Sum.inl.injEq] at h
  obtain ⟨h1, h2, h3, h4, _⟩ := h
  have e1 : a = a' := by omega
  have e2 : b = b' := by omega
  have e3 : c = c' := by omega
  have e4 : d = d' := by omega
  rw [e1, e2, e3, e4]
theorem judAt {n m : Nat} {j : Jud} (ok : JudOk n m j) {p : Pl} (h : PlIn n m p) : j[p.1]? = some (j.getD p.1 []) ∧ (j.getD p.1 [])[p.2.1]? = some ((j.getD p.1 []).getD p.2.1 []) ∧ ((j.getD p.1 []).getD p.2.1 [])[p.2.2.1]? = some (((j.getD p.1 []).getD p.2.1 []).getD p.2.2.1 ("", "")) := by
  obtain ⟨h1, h2, h3, h4⟩ := h
  have e1 : j[p.1]? = some (j.getD p.1 []) := getD_of (by rw [ok.1]; exact h1) _
  have t := ok.2 _ (List.mem_of_getElem? e1)
  have e2 : (j.getD p.1 [])[p.2.1]? = some ((j.getD p.1 []).getD p.2.1 []) := getD_of (by rw [t.1]; exact h2) _
  have r := t.2 _ (List.mem_of_getElem? e2)
  exact ⟨e1, e2, getD_of (by rw [r.1]; exact h3) _⟩
section
variable {P : Program} {w : World} {K : PySem.W.Frag} {mg : Str → Option Value} {base : Heap}
theorem bootDict : bootBuiltins "dict" = some (.type "dict") := by decide +kernel
theorem plD_at {M : List Addr} {H0 H : Hp} {q : Addr} {p : Pl} (kn : Kn M H0) (h0 : H0 q = none) (e : H q = some (.tup ((plK p).map kV))) : Dm K M H (.ref q) (plD p) :=
  .tup (SqT.of (by rw [er_in (kn.out h0)]; exact e)) (.cons (.int _) (.cons (.int _) (.cons (.int _) (.cons (.int _) .nil))))
theorem paired_at {α β : Type} {F : α → β → Prop} : ∀ {l : List α} {m : List β} {i : Nat} {a : α}, Paired F l m → l[i]? = some a → ∃ b, m[i]? = some b ∧ F a b
  | _, _, _, _, .nil, e => by simp at e
  | _, _, 0, _, .cons h _, e => by
    cases Option.some.inj e
    exact ⟨_, rfl, h⟩
  | _, _, i + 1, _, .cons _ t, e => paired_at (i := i) t e
end
end KZ

namespace KZ
open PySem PySem.Spec PyProof.Rows L2
/-! data that can be shown -/
structure Good (d : PyData) (n k : Nat) : Prop where
  lay : d.canLay0 = true
  sh : d.showable = true
  nd : d.hasDict = false
  dp : d.depth ≤ k
  len : d.shown.length ≤ n
theorem Good.mono {d : PyData} {n k n' k' : Nat} (g : Good d n k) (h : n ≤ n') (h' : k ≤ k') : Good d n' k' := ⟨g.lay, g.sh, g.nd, Nat.le_trans g.dp h', Nat.le_trans g.len h⟩
theorem good_all {n k : Nat} : ∀ {ds : List PyData}, (∀ d ∈ ds, Good d n k) → PyData.canLayAll0 ds = true ∧ PyData.showableAll ds = true ∧ PyData.hasDictAll ds = false ∧ PyData.depthAll ds ≤ k ∧ piled (PyData.shownAll ds) ≤ ds.length * (n + 2)
  | [], _ => ⟨by simp only [PyData.canLayAll0], by simp only [PyData.showableAll], by simp only [PyData.hasDictAll], by simp only [PyData.depthAll]; exact Nat.zero_le _, by simp only [PyData.shownAll]; exact Nat.zero_le _⟩
  | d :: ds, h => by
    obtain ⟨h1, h2, h3, h4, h5⟩ := good_all fun x hx => h x (List.mem_cons_of_mem _ hx)
    have g := h d List.mem_cons_self
    refine ⟨by simp only [PyData.canLayAll0, g.lay, h1, Bool.and_self], by simp only [PyData.showableAll, g.sh, h2, Bool.and_self], by simp only [PyData.hasDictAll, g.nd, h3, Bool.or_self], by simp only [PyData.depthAll]; exact Nat.max_le.mpr ⟨g.dp, h4⟩, ?_⟩
    simp only [PyData.shownAll, piled_cons]
    have := g.len
    rw [List.length_cons, Nat.succ_mul]
    omega
theorem txt_len (ts : List Str) : (tupleText ts).length ≤ piled ts + 4 := by
  have e1 : (((if ts.length == 1 then ",)" else ")" : String) : Str)).length ≤ 2 := by
    split <;> decide +kernel
  have e2 : ((("(" : String) : Str)).length = 1 := rfl
  unfold tupleText
  rw [strLen_append, strLen_append, e2]
  by_cases z : ts = []
  · subst z
    decide +kernel
  · have := join_length_add ts z
    omega
theorem good_tup {ds : List PyData} {n k : Nat} (h : ∀ d ∈ ds, Good d n k) : Good (.tuple ds) (ds.length * (n + 2) + 4) (k + 1) := by
  obtain ⟨h1, h2, h3, h4, h5⟩ := good_all h
  refine ⟨by simp only [PyData.canLay0, h1], by simp only [PyData.showable, h2], by simp only [PyData.hasDict, h3], by simp only [PyData.depth]; omega, ?_⟩
  simp only [PyData.shown]
  have := txt_len (PyData.shownAll ds)
  omega
theorem good_str {l : List Str} (h : ∀ x ∈ l, PyData.strOk x = true ∧ (reprText x).length ≤ 20) {x : Str} (hx : x ∈ l) : Good (.str x) 20 0 :=
  ⟨by simp only [PyData.canLay0, (h x hx).1], by simp only [PyData.showable], by simp only [PyData.hasDict], by simp only [PyData.depth]; exact Nat.le_refl _, by simp only [PyData.shown]; exact (h x hx).2⟩
theorem names_ok : ∀ x ∈ Names, PyData.strOk x = true ∧ (reprText x).length ≤ 20 := by
  unfold Names
  decide +kernel
theorem words_ok : ∀ x ∈ Words, PyData.strOk x = true ∧ (reprText x).length ≤ 20 := by
  unfold Words
  decide +kernel
theorem good_bl (b : Bool) : Good (.bool b) 20 0 := by
  refine ⟨by simp only [PyData.canLay0], by simp only [PyData.showable], by simp only [PyData.hasDict], by simp only [PyData.depth]; exact Nat.le_refl _, ?_⟩
  simp only [PyData.shown]
  cases b <;> decide +kernel
theorem int_len : ∀ n : Nat, n < 16 → ((toString (n : Int) : String) : Str).length ≤ 20 := by decide +kernel
theorem good_int {i : Int} (h0 : 0 ≤ i) (h1 : i < 16) : Good (.int i) 20 0 := by
  have e : ((i.toNat : Nat) : Int) = i := by omega
  refine ⟨by simp only [PyData.canLay0], ?_, by simp only [PyData.hasDict], by simp only [PyData.depth]; exact Nat.le_refl _, ?_⟩
  · simp only [PyData.showable]
    refine decide_eq_true ?_
    have a : i.natAbs < 16 := by omega
    exact Nat.lt_of_le_of_lt (Nat.log2_le_self _) (by omega)
  · simp only [PyData.shown]
    have q := int_len i.toNat (by omega)
    rw [e] at q
    exact q
theorem good_kd {k : Kd} (hn : k.1 ∈ Names) (h0 : 0 ≤ k.2.2) (h1 : k.2.2 < 16) : Good (kdD k) 70 1 := by
  refine Good.mono (good_tup (n := 20) (k := 0) fun d hd => ?_) (by show 3 * (20 + 2) + 4 ≤ 70; decide) (Nat.le_refl _)
  simp only [List.mem_cons, List.not_mem_nil, or_false] at hd
  rcases hd with hd | hd | hd
  · rw [hd]
    exact good_str names_ok hn
  · rw [hd]
    exact good_bl _
  · rw [hd]
    exact good_int h0 h1
theorem good_cp {c : Cp} (h : CpOk c) : Good (cpD c) 48 1 := by
  refine Good.mono (good_tup (n := 20) (k := 0) fun d hd => ?_) (by show 2 * (20 + 2) + 4 ≤ 48; decide) (Nat.le_refl _)
  simp only [List.mem_cons, List.not_mem_nil, or_false] at hd
  rcases hd with hd | hd
  · rw [hd]
    exact good_str words_ok h.1
  · rw [hd]
    exact good_str words_ok h.2
theorem good_jud {n m : Nat} {j : Jud} (hn : n < 10) (hm : m < 10) (ok : JudOk n m j) : Good (judD j) 60000 4 := by
  have row : ∀ r, RowOk n r → Good (rowD r) 600 2 := fun r h => by
    refine Good.mono (good_tup (n := 48) (k := 1) fun d hd => ?_) ?_ (Nat.le_refl _)
    · obtain ⟨c, hc, rfl⟩ := List.mem_map.mp hd
      exact good_cp (h.2 c hc)
    · rw [List.length_map, h.1]
      have := Nat.mul_le_mul (show n ≤ 9 by omega) (Nat.le_refl 50)
      omega
  have tab : ∀ t, TabOk n t → Good (tabD t) 6000 3 := fun t h => by
    refine Good.mono (good_tup (n := 600) (k := 2) fun d hd => ?_) ?_ (Nat.le_refl _)
    · obtain ⟨r, hr, rfl⟩ := List.mem_map.mp hd
      exact row r (h.2 r hr)
    · rw [List.length_map, h.1]
      have := Nat.mul_le_mul (show n ≤ 9 by omega) (Nat.le_refl 602)
      omega
  refine Good.mono (good_tup (n := 6000) (k := 3) fun d hd => ?_) ?_ (Nat.le_refl _)
  · obtain ⟨t, ht, rfl⟩ := List.mem_map.mp hd
    exact tab t (ok.2 t ht)
  · rw [List.length_map, ok.1]
    have := Nat.mul_le_mul (show m ≤ 9 by omega) (Nat.le_refl 6002)
    omega
/-- what a house is shown to be, its kinds with any rises -/
theorem good_hou {ks : List Kd} {ss : List Str} {j : Jud} {n m : Nat} (hk : ∀ k ∈ ks, k.1 ∈ Names ∧ 0 ≤ k.2.2 ∧ k.2.2 < 16) (kl : ks.length < 10) (hs : ∀ x ∈ ss, x ∈ Names) (sl : ss.length < 10) (hn : n < 10) (hm : m < 10) (ok : JudOk n m j) : Good (houD ⟨ks, ss, j⟩) 200000 5 := by
  refine Good.mono (good_tup (n := 60000) (k := 4) fun d hd => ?_) (by show 3 * 60002 + 4 ≤ 200000; decide) (Nat.le_refl _)
  simp only [List.mem_cons, List.not_mem_nil, or_false] at hd
  rcases hd with hd | hd | hd
  · rw [hd]
    refine Good.mono (good_tup (n := 70) (k := 1) fun d hd => ?_) ?_ (by decide)
    · obtain ⟨k, hk', rfl⟩ := List.mem_map.mp hd
      obtain ⟨a, b, c⟩ := hk k hk'
      exact good_kd a b c
    · rw [List.length_map]
      have := Nat.mul_le_mul (show ks.length ≤ 9 by omega) (Nat.le_refl 72)
      omega
  · rw [hd]
    refine Good.mono (good_tup (n := 20) (k := 0) fun d hd => ?_) ?_ (by decide)
    · obtain ⟨x, hx, rfl⟩ := List.mem_map.mp hd
      exact good_str names_ok (hs x hx)
    · rw [List.length_map]
      have := Nat.mul_le_mul (show ss.length ≤ 9 by omega) (Nat.le_refl 22)
      omega
  · rw [hd]
    exact good_jud hn hm ok
/-! repr -/
section
variable {X : Cx}
def rRepr (K : PySem.W.Frag) : List V → Hp → VK → Prop := fun xs H Q => ∃ (v : V) (ds : List PyData) (n k : Nat), xs = [v] ∧ Dp K H v (.tuple ds) ∧ Good (.tuple ds) n k ∧ n < 1000000 ∧ k ≤ 60 ∧ Q (.str (PyData.shown (.tuple ds))) H
theorem call_repr (hg : X.A.guards = some []) (hu : X.A.units + 64 < cLine) : CallR X (.builtin "repr") (rRepr X.K) := by
  intro pins s σ H xs us Q I r q
  obtain ⟨v, ds, n, k, rfl, hd, g, hn, hk, q⟩ := q
  obtain ⟨u, rfl, rx⟩ := vals1 r
  obtain ⟨as, rr⟩ := Dp.reads I _ v u hd rx
  cases hd with
  | tup _ _ =>
  cases rx
  have := g.dp
  exact repr_of_reads' rr g.sh (PyData.noDict_hsm g.nd) hg (by omega) (fun _ _ e => e) (fun h' u tk hk' => ⟨.str _, H, I.kept (t' := tk) hk', ⟨_, rfl⟩, q⟩) (Nat.le_of_lt (szl (Nat.lt_of_le_of_lt g.len hn)))
end
end KZ

namespace KZ
open PySem PySem.Spec PyProof.Rows L2
/-- a promise that is kept where no repr is under way -/
structure FnG (P : Program) (w : World) (K : PySem.W.Frag) (mg : Str → Option Value) (base : Heap) (k : Nat) (f : Addr) (fd : FuncData) (ps : List Str) (sp : Sp) : Prop where
  len : ∀ vs H Q E, sp vs H Q E → vs.length = ps.length
  go : ∀ (A : Around) (up : List Env) (t : Shared) (H : Hp) (ar : Args) (us : List Value) (vs : List V) (Q : VK) (E : XK), A.guards = some [] → Room k A → Env0 P w K mg base A up t H → BindsTo t fd ar (ps.zip us) → Vals vs us → sp vs H Q E →
    codeAny (model P w) A (.call (.ref f) ar) (CR CX0 up P w H t Q E) t
section
variable {P : Program} {w : World} {K : PySem.W.Frag} {mg : Str → Option Value} {base : Heap}
/-- a def by its body, where no repr is under way -/
theorem fun_okG {x qual : Str} {st : Stmt} {f : Addr} {fd : FuncData} {N ps : List Str} {k : Nat} {sp : Sp} (F : Fun K x qual st f fd) (S : FnScope N ps (defScope st)) (hlen : ∀ vs H Q E, sp vs H Q E → vs.length = ps.length)
    (body : ∀ (cdv : Value) (A : Around) (up : List Env) (t : Shared) (H : Hp) (vs : List V) (Q : VK) (E : XK), A.guards = some [] → Room k (A.deeper (envOfC qual (defScope st) t.heap.objs.size f cdv)) → sp vs H Q E →
      ∃ τ, PSs (cxOf CX0 P w K mg base N qual (defScope st) f cdv A up t H E).nox (defBody st) τ ∧ τ { nx := fun _ H' => Q .non H', rt := Q } (start N vs) H) : FnG P w K mg base (k + 1) f fd ps sp := by
  obtain ⟨c0, d0, k0, doc, pm, an, cdv, ct, sl, rfl, found, code⟩ := F.ex
  refine ⟨hlen, ?_⟩
  intro A up t H ar us vs Q E gs room here binds rel wish
  have many := hlen _ _ _ _ wish
  have lim : t.heap.NoLimit := Heap.NoLimit.keeps here.mod.nolimit (fun b o e => (here.bs b o e).1)
  have inK : K.In t.heap := PySem.W.Frag.In.keeps here.mod.kin (fun b o e => (here.bs b o e).1)
  have kinds : ∀ z ∈ ps.zip us, (defScope st).names.lookup z.1 = some .local ∨
      ((defScope st).names.lookup z.1 = some .cell ∧ ((cellsFrom (t.heap.objs.size + 1) (defScope st).names []).lookup z.1).isSome = true) := by
    intro z hz
    have h1 : z.1 ∈ ps := (List.of_mem_zip (show (z.1, z.2) ∈ ps.zip us from hz)).1
    cases S.par _ h1 with
    | inl l => exact Or.inl l
    | inr l => exact Or.inr ⟨l, PySem.W.cellsFrom_some _ _ _ (Or.inl l)⟩
  refine codeAny_call_function room.depth (inK _ _ found) rfl S.co S.gen rfl (PySem.W.codeRec_of inK code) ?_
  refine binds _ _ _ _ ?_
  refine wpAny_newFunctionEnv_cells S.kind kinds ?_
  intro env he t1 inside
  subst he
  refine ⟨Heap.NoLimit.keeps lim inside.toInCall.keep, ?_⟩
  refine codeAny_func ?_
  obtain ⟨τ, runs, reads⟩ := body cdv A up t H vs Q E gs (Room.deeper room _) wish
  have J : L2.Inv (cxOf CX0 P w K mg base N qual (defScope st) f cdv A up t H E) [] (start N vs) H t1 := inv_start S room.hd here many rel inside
  refine wpAny_mono (runs.nox.run [] t1 (start N vs) H _ J reads) ?_ (fun _ _ z => z)
  intro fl t' out
  cases fl with
  | ret u =>
    obtain ⟨v, σ', H', I', rv, q⟩ := out
    exact ⟨v, H', I'.os, I'.bare, I'.base, I'.hok, rv, q⟩
  | next =>
    obtain ⟨σ', H', I', q⟩ := out
    exact ⟨V.non, H', I'.os, I'.bare, I'.base, I'.hok, rfl, q⟩
  | brk =>
    obtain ⟨_, _, _, q⟩ := out
    cases q
  | cont =>
    obtain ⟨_, _, _, q⟩ := out
    cases q
end
/-- a def that may be called where no repr is under way -/
structure CalG (P : Program) (w : World) (K : PySem.W.Frag) (mg : Str → Option Value) (base : Heap) (x : Str) (k : Nat) (ps : List Str) (sp : Sp) (f : Addr) (fd : FuncData) : Prop where
  ok : FnG P w K mg base k f fd ps sp
  g : mg x = some (.ref f)
  kp : PySem.W.keepIn K (.ref f) = true
  b : Binds K fd ps []
section
variable {X : Cx} {x : Str} {k : Nat} {ps : List Str} {sp : Sp} {f : Addr} {fd : FuncData} {e : Expr} {es : List Expr} {t : TA} {p pos : Pos}
theorem pclG (C : CalG X.prog X.w X.K X.mg X.base x k ps sp f fd) (gs : X.A.guards = some []) (hr : Room k X.A) (ha : PA X (e :: es) t) (hg : Gl X x := by rfl) (hdb : (x == ("__debug__" : Str)) = false := by decide) (he : starEach (e :: es) X.env = (false, eval e X.env) :: starEach es X.env := by rfl)
    (hpl : (backTo pos (starEach es X.env)).any (·.1) = false := by rfl) : PE X (.Call (.Name x p) (e :: es) [] pos) (tCall sp [] E0 t) := by
  refine ⟨fun pins s σ H Q I h => ?_⟩
  refine wpAny_Call_Name_kw (ld_glob I hg C.g ?_ hdb)
  refine PySem.W.callWith_K (h₀ := X.base) I.ok.mod.kin C.kp (thn (ha.run pos pins s σ H _ I h) ?_) he hpl
  intro us t1 got
  obtain ⟨vs, H1, J, rel, q⟩ := got
  refine ⟨J.kIn, ?_⟩
  rw [List.append_nil] at q
  have many : us.length = ps.length := by rw [← Vals.length rel]; exact C.ok.len _ _ _ _ q
  have bd := C.b t1 us J.kIn (by rw [List.append_nil]; exact many)
  rw [List.append_nil] at bd
  show wpAny (model X.prog X.w) X.A (call (.ref f) us) _ _ t1
  refine wpAny_call (codeAny_mono (C.ok.go X.A X.stack t1 H1 ⟨us, []⟩ us vs Q E0 gs hr J.env0 bd rel q) ?_)
  intro r t2 hq
  cases r with
  | error z => exact False.elim hq
  | ok fl =>
    cases fl with
    | ret u => exact J.after hq
    | next => exact False.elim hq
    | brk => exact False.elim hq
    | cont => exact False.elim hq
end
/-! two that are alike -/
section
variable {P : Program} {w : World} {K : PySem.W.Frag} {mg : Str → Option Value} {base : Heap}
abbrev sAlike : Stmt := topS 28
theorem scAlike : FnScope ["found", "due"] ["found", "due"] (defScope sAlike) := ⟨rfl, rfl, rfl, by decide +kernel, rfl, by decide +kernel, by decide +kernel⟩
end
end KZ


namespace KZ
open PySem PySem.Spec PyProof.Rows L2
/-! a test without a bag -/
def EvB (tt : TT) (σ : L2.St) (H : Hp) (b : Bool) : Prop := ∀ H1, Sub H H1 → ∀ Q : Bool → Hp → Prop, (∀ H', Sub H1 H' → Q b H') → tt σ H1 Q
section
variable {K : PySem.W.Frag} {M : List Addr} {σ : L2.St} {H H' : Hp} {ta tb te tx : TE} {tr : TA} {t u : TT} {d e : PyData} {ds es : List PyData} {b c : Bool}
theorem EvB.sub (h : EvB t σ H b) (s : Sub H H') : EvB t σ H' b := fun H1 s1 => h H1 (s.trans s1)
theorem evd_eqI {i j : Int} (ha : EvD K M ta σ H (.int i)) (hb : EvD K M tb σ H (.int j)) : EvD K M (tOp rEq ta tb) σ H (.bool (decide (i = j))) := fun H1 s Q q =>
  ha H1 s _ fun v H2 s2 hv => hb H2 (s.trans s2) _ fun u H3 s3 hu => by
    cases hv.intAt
    cases hu.intAt
    refine ⟨rfl, q _ H3 (s2.trans s3) ?_⟩
    have e : decide (V.int i = V.int j) = decide (i = j) := by
      by_cases z : i = j
      · rw [decide_eq_true z, decide_eq_true (by rw [z])]
      · rw [decide_eq_false z, decide_eq_false fun y => z (by cases y; rfl)]
    rw [e]
    exact .bl _
theorem evd_neI {i j : Int} (ha : EvD K M ta σ H (.int i)) (hb : EvD K M tb σ H (.int j)) : EvD K M (tOp rNe ta tb) σ H (.bool (!decide (i = j))) := fun H1 s Q q =>
  ha H1 s _ fun v H2 s2 hv => hb H2 (s.trans s2) _ fun u H3 s3 hu => by
    cases hv.intAt
    cases hu.intAt
    refine ⟨rfl, q _ H3 (s2.trans s3) ?_⟩
    have e : decide (V.int i = V.int j) = decide (i = j) := by
      by_cases z : i = j
      · rw [decide_eq_true z, decide_eq_true (by rw [z])]
      · rw [decide_eq_false z, decide_eq_false fun y => z (by cases y; rfl)]
    rw [e]
    exact .bl _
theorem evd_eqS {i j : Str} (ha : EvD K M ta σ H (.str i)) (hb : EvD K M tb σ H (.str j)) : EvD K M (tOp rEq ta tb) σ H (.bool (decide (i = j))) := fun H1 s Q q =>
  ha H1 s _ fun v H2 s2 hv => hb H2 (s.trans s2) _ fun u H3 s3 hu => by
    cases hv.strAt
    cases hu.strAt
    refine ⟨rfl, q _ H3 (s2.trans s3) ?_⟩
    have e : decide (V.str i = V.str j) = decide (i = j) := by
      by_cases z : i = j
      · rw [decide_eq_true z, decide_eq_true (by rw [z])]
      · rw [decide_eq_false z, decide_eq_false fun y => z (by cases y; rfl)]
    rw [e]
    exact .bl _
theorem evb_test (h : EvD K M te σ H (.bool b)) : EvB (tTest te) σ H b := fun H1 s Q q => h H1 s _ fun v H2 s2 hv => by
  cases hv.blAt
  exact ⟨b, rfl, q H2 s2⟩
theorem evb_val (h : EvD K M te σ H (.bool b)) : EvB (tB te) σ H b := fun H1 s Q q => h H1 s _ fun v H2 s2 hv => by
  cases hv.blAt
  exact ⟨b, rfl, q H2 s2⟩
theorem evb_not (h : EvB t σ H b) : EvB (tNot t) σ H (!b) := fun H1 s Q q => h H1 s _ fun H2 s2 => q H2 s2
theorem evb_and (h : EvB t σ H b) (g : b = true → EvB u σ H c) : EvB (tAnd t u) σ H (b && c) := fun H1 s Q q => h H1 s _ fun H2 s2 => by
  cases b with
  | true => exact g rfl H2 (s.trans s2) _ fun H3 s3 => q H3 (s2.trans s3)
  | false => exact q H2 s2
theorem evb_or (h : EvB t σ H b) (g : b = false → EvB u σ H c) : EvB (tOr t u) σ H (b || c) := fun H1 s Q q => h H1 s _ fun H2 s2 => by
  cases b with
  | true => exact q H2 s2
  | false => exact g rfl H2 (s.trans s2) _ fun H3 s3 => q H3 (s2.trans s3)
theorem evd_and (h : EvD K M ta σ H (.bool b)) (g : b = true → EvD K M tb σ H (.bool c)) : EvD K M (tAndV ta tb) σ H (.bool (b && c)) := fun H1 s Q q => h H1 s _ fun v H2 s2 hv => by
  cases hv.blAt
  refine ⟨b, rfl, ?_⟩
  cases b with
  | true => exact g rfl H2 (s.trans s2) _ fun w H3 s3 hw => q w H3 (s2.trans s3) hw
  | false => exact q _ H2 s2 (.bl _)
theorem truL (h : Dm K M H v (.list ds)) : TruV K v H (!ds.isEmpty) := by
  obtain ⟨a, xs, rfl, hs, ha⟩ := Dm.lstAt h
  refine .inl ⟨xs, hs, ?_⟩
  have l := ha.len
  cases xs <;> cases ds <;> first | rfl | simp at l
theorem evd_notL (h : EvD K M te σ H (.list ds)) : EvD K M (tNotT K te) σ H (.bool ds.isEmpty) := fun H1 s Q q => h H1 s _ fun v H2 s2 hv => by
  refine ⟨_, truL hv, ?_⟩
  rw [Bool.not_not]
  exact q _ H2 s2 (.bl _)
/-- [g(x) for x in a list if c(x)] -/
theorem evd_lcF {tt : TT} {vs : List Nat} {j : Nat} (f : PyData → Bool) (g : PyData → PyData) (n : Kn M H) (h : EvD K M te σ H (.list ds)) (hz : ds.length < 100000) (hw : ∀ x, wipe ((wipe σ vs).set j (some x)) vs = wipe σ vs)
    (ht : ∀ (Dl : Addr), H Dl = none → ∀ (d : PyData) (x : V) (H1 : Hp), Sub H H1 → Kn (Dl :: M) H1 → d ∈ ds → Dm K (Dl :: M) H1 x d → EvB tt ((wipe σ vs).set j (some x)) H1 (f d))
    (he : ∀ (Dl : Addr), H Dl = none → ∀ (d : PyData) (x : V) (H1 : Hp), Sub H H1 → Kn (Dl :: M) H1 → d ∈ ds → f d = true → Dm K (Dl :: M) H1 x d → EvD K (Dl :: M) tb ((wipe σ vs).set j (some x)) H1 (g d)) : EvNL K M (tLc (iList K te) (gName j) tt tb vs) σ H ((ds.filter f).map g) := fun H1 s Q q =>
  h H1 s _ fun v H2 s2 hv => by
    obtain ⟨a, xs, rfl, hs, ha⟩ := hv.lstAtE
    have s02 := s.trans s2
    have hl := ha.len
    refine ⟨a, rfl, ⟨xs, (er_sub _ _).sqL hs⟩, fun Dl hD => ?_⟩
    have h0D : H Dl = none := s02.free hD
    refine lc_list (K := K) (a := a) (xs := xs) (fun i H' => Sub H2 H' ∧ ∃ acc, H' Dl = some (.lst acc) ∧ Dms K (Dl :: M) H' acc (((ds.take i).filter f).map g) ∧ SqL K (er (Dl :: M) H') a xs ∧ Dms K (Dl :: M) H' xs ds)
      ⟨Sub.new hD, [], upd_same, .nil, Sub.sqL (Kp.er (Kp.mut List.mem_cons_self)) (by rw [er_more hD]; exact hs), (ha.more hD).k (Kp.mut List.mem_cons_self)⟩ (fun i H' _ p => ?_) (fun i x H' hi p => ?_) (fun H' p => ?_)
    · obtain ⟨_, acc, _, _, p3, _⟩ := p
      exact (er_sub _ _).sqL p3
    · obtain ⟨sp, acc, p1, p2, p3, p4⟩ := p
      obtain ⟨d, hd, hx⟩ := p4.get' hi
      refine ⟨hw x, ?_⟩
      refine ht Dl h0D d x H' (s02.trans sp) ((n.sub (s02.trans sp)).more ⟨_, p1⟩) (List.mem_of_getElem? hd) hx H' (Sub.refl _) _ fun H3 s3 => ?_
      have p13 := s3 _ _ p1
      by_cases ef : f d = true
      · rw [if_pos ef]
        refine he Dl h0D d x H3 (s02.trans (sp.trans s3)) ((n.sub (s02.trans (sp.trans s3))).more ⟨_, p13⟩) (List.mem_of_getElem? hd) ef (Dm.s hx s3) H3 (Sub.refl _) _ fun y H4 s4 hy => ⟨acc, s4 _ _ p13, ?_, ?_⟩
        · have q1 := p2.len
          have q2 := List.length_filter_le f (ds.take i)
          rw [List.length_map] at q1
          rw [List.length_take] at q2
          exact szl (by omega)
        · have km : Kp (Dl :: M) H4 (upd H4 Dl (.lst (acc ++ [y]))) := Kp.mut List.mem_cons_self
          refine ⟨((sp.trans s3).trans s4).mut hD, _, upd_same, ?_, Sub.sqL km.er (Sub.sqL (Kp.er fun a o _ e => (s3.trans s4) a o e) p3), (Dms.s p4 (s3.trans s4)).k km⟩
          rw [take_snoc hd, List.filter_append, List.map_append]
          have e1 : [d].filter f = [d] := by rw [List.filter_cons, if_pos ef]; rfl
          rw [e1]
          exact Dms.k ((Dms.s p2 (s3.trans s4)).app (DpAll.one hy)) km
      · rw [if_neg ef]
        refine ⟨sp.trans s3, acc, p13, ?_, Sub.sqL (Kp.er fun a o _ e => s3 a o e) p3, Dms.s p4 s3⟩
        rw [take_snoc hd, List.filter_append]
        have e1 : [d].filter f = [] := by rw [List.filter_cons, if_neg ef]; rfl
        rw [e1, List.append_nil]
        exact Dms.s p2 s3
    · obtain ⟨sp, acc, p1, p2, p3, p4⟩ := p
      rw [hl, List.take_length] at p2
      exact q Dl acc H' (s2.trans sp) (s2.free hD) p1 p2
/-- [g(x) for x in a tuple if c(x)] -/
theorem evd_lcFT {tt : TT} {vs : List Nat} {j : Nat} (f : PyData → Bool) (g : PyData → PyData) (n : Kn M H) (h : EvD K M te σ H (.tuple ds)) (hz : ds.length < 100000) (hw : ∀ x, wipe ((wipe σ vs).set j (some x)) vs = wipe σ vs)
    (ht : ∀ (Dl : Addr), H Dl = none → ∀ (d : PyData) (x : V) (H1 : Hp), Sub H H1 → Kn (Dl :: M) H1 → d ∈ ds → Dm K (Dl :: M) H1 x d → EvB tt ((wipe σ vs).set j (some x)) H1 (f d))
    (he : ∀ (Dl : Addr), H Dl = none → ∀ (d : PyData) (x : V) (H1 : Hp), Sub H H1 → Kn (Dl :: M) H1 → d ∈ ds → f d = true → Dm K (Dl :: M) H1 x d → EvD K (Dl :: M) tb ((wipe σ vs).set j (some x)) H1 (g d)) : EvNL K M (tLc (iTup K te) (gName j) tt tb vs) σ H ((ds.filter f).map g) := fun H1 s Q q =>
  h H1 s _ fun v H2 s2 hv => by
    obtain ⟨a, xs, rfl, hs, ha⟩ := hv.tupAtE
    have s02 := s.trans s2
    have hl := ha.len
    refine ⟨a, rfl, ⟨xs, (er_sub _ _).sqT hs⟩, fun Dl hD => ?_⟩
    have h0D : H Dl = none := s02.free hD
    refine lc_tup (K := K) (a := a) (xs := xs) (fun i H' => Sub H2 H' ∧ ∃ acc, H' Dl = some (.lst acc) ∧ Dms K (Dl :: M) H' acc (((ds.take i).filter f).map g) ∧ SqT K (er (Dl :: M) H') a xs ∧ Dms K (Dl :: M) H' xs ds)
      ⟨Sub.new hD, [], upd_same, .nil, Sub.sqT (Kp.er (Kp.mut List.mem_cons_self)) (by rw [er_more hD]; exact hs), (ha.more hD).k (Kp.mut List.mem_cons_self)⟩ (fun i H' _ p => ?_) (fun i x H' hi p => ?_) (fun H' p => ?_)
    · obtain ⟨_, acc, _, _, p3, _⟩ := p
      exact (er_sub _ _).sqT p3
    · obtain ⟨sp, acc, p1, p2, p3, p4⟩ := p
      obtain ⟨d, hd, hx⟩ := p4.get' hi
      refine ⟨hw x, ?_⟩
      refine ht Dl h0D d x H' (s02.trans sp) ((n.sub (s02.trans sp)).more ⟨_, p1⟩) (List.mem_of_getElem? hd) hx H' (Sub.refl _) _ fun H3 s3 => ?_
      have p13 := s3 _ _ p1
      by_cases ef : f d = true
      · rw [if_pos ef]
        refine he Dl h0D d x H3 (s02.trans (sp.trans s3)) ((n.sub (s02.trans (sp.trans s3))).more ⟨_, p13⟩) (List.mem_of_getElem? hd) ef (Dm.s hx s3) H3 (Sub.refl _) _ fun y H4 s4 hy => ⟨acc, s4 _ _ p13, ?_, ?_⟩
        · have q1 := p2.len
          have q2 := List.length_filter_le f (ds.take i)
          rw [List.length_map] at q1
          rw [List.length_take] at q2
          exact szl (by omega)
        · have km : Kp (Dl :: M) H4 (upd H4 Dl (.lst (acc ++ [y]))) := Kp.mut List.mem_cons_self
          refine ⟨((sp.trans s3).trans s4).mut hD, _, upd_same, ?_, Sub.sqT km.er (Sub.sqT (Kp.er fun a o _ e => (s3.trans s4) a o e) p3), (Dms.s p4 (s3.trans s4)).k km⟩
          rw [take_snoc hd, List.filter_append, List.map_append]
          have e1 : [d].filter f = [d] := by rw [List.filter_cons, if_pos ef]; rfl
          rw [e1]
          exact Dms.k ((Dms.s p2 (s3.trans s4)).app (DpAll.one hy)) km
      · rw [if_neg ef]
        refine ⟨sp.trans s3, acc, p13, ?_, Sub.sqT (Kp.er fun a o _ e => s3 a o e) p3, Dms.s p4 s3⟩
        rw [take_snoc hd, List.filter_append]
        have e1 : [d].filter f = [] := by rw [List.filter_cons, if_neg ef]; rfl
        rw [e1, List.append_nil]
        exact Dms.s p2 s3
    · obtain ⟨sp, acc, p1, p2, p3, p4⟩ := p
      rw [hl, List.take_length] at p2
      exact q Dl acc H' (s2.trans sp) (s2.free hD) p1 p2
theorem evb_yes : EvB tYes σ H true := fun H1 s Q q => q H1 (Sub.refl _)
theorem filter_yes {α : Type} (l : List α) : l.filter (fun _ => true) = l := by
  induction l with
  | nil => rfl
  | cons a l ih => rw [List.filter_cons, if_pos rfl, ih]
theorem bls_dps {H : Hp} : ∀ {l : List Bool} {vs : List V}, DpAll K H vs (l.map PyData.bool) → vs = l.map V.bl
  | [], _, h => by
    cases h
    rfl
  | x :: l, _, h => by
    cases h with
    | cons h1 h2 =>
      cases h1
      rw [bls_dps h2]
      rfl
/-- all of a list of truths -/
theorem evd_all {bs : List Bool} (h : EvD K M te σ H (.list (bs.map PyData.bool))) : EvD K M (tCB (rAll K) (tCons te tNil)) σ H (.bool (bs.all id)) := fun H1 s Q q => h H1 s _ fun v H2 s2 hv => by
  obtain ⟨a, xs, rfl, hs, ha⟩ := hv.lstAt
  have e : xs = bs.map V.bl := bls_dps ha
  subst e
  exact ⟨a, bs, rfl, hs, q _ H2 s2 (.bl _)⟩
end
end KZ

namespace KZ
open PySem PySem.Spec PyProof.Rows L2
theorem yes_of {σ : L2.St} {H : Hp} {p q : Hp → Prop} (h : p H) : tYes σ H fun b H3 => if b = true then p H3 else q H3 := by
  show if true = true then p H else q H
  rw [if_pos rfl]
  exact h
theorem run_range0 {n : Nat} {g : TG} {tt : TT} {t : TIn} {vs : List Nat} {σ : L2.St} {H : Hp} {Nx : Hp → Prop} (Pv : Nat → Hp → Prop) (h0 : Pv 0 H)
    (hs : ∀ (i : Nat) H, i < n → Pv i H → g (.int (i : Int)) (wipe σ vs) H fun σ2 H2 => wipe σ2 vs = wipe σ vs ∧ tt σ2 H2 fun b H3 => if b = true then t σ2 H3 (Pv (i + 1)) else Pv (i + 1) H3) (hd : ∀ H, Pv n H → Nx H) : tRun (Itr 0 n) g tt t vs σ H Nx :=
  run_range Pv h0 (fun i H hi p => by
    rw [Int.zero_add]
    exact hs i H hi p) hd
section
variable {K : PySem.W.Frag} {M : List Addr} {H0 H' H'' : Hp} {D z : Addr} {l : List Pl}
end
section
variable {P : Program} {w : World} {K : PySem.W.Frag} {mg : Str → Option Value} {base : Heap}
theorem bootRange : bootBuiltins "range" = some (.type "range") := by decide +kernel
theorem none_async {l : List Comprehension} {k : Nat} (h : ∀ c ∈ l, c.is_async = 0) : ∀ c, l[k]? = some c → c.is_async = 0 := fun c e => h c (List.mem_of_getElem? e)
/-- len(house[i]), as an int -/
theorem evd_len {M : List Addr} {σ : L2.St} {H : Hp} {i : Int} {ds rs : List PyData} {v : V} (hv : σ[0]? = some (some v)) (hd : Dm K M H v (.tuple ds)) (i0 : 0 ≤ i) (hi : ds[i.toNat]? = some (.tuple rs)) :
    EvD K M (tCB (fun xs H Q => ∃ p ys, xs = [V.ref p] ∧ (SqL K H p ys ∨ SqT K H p ys) ∧ Q (.int ys.length) H) (tCons (tOp (rIxT K) (tVar 0) (tC (.int i))) tNil)) σ H (.int rs.length) := fun H1 s Q q => by
  obtain ⟨a, xs, y, rfl, hs, hat, hy⟩ := dm_getT (Dm.s hd s) i0 hi
  obtain ⟨b, ys, rfl, hs2, ha2⟩ := hy.tupAt
  refine ⟨_, hv, a, xs, i, _, rfl, rfl, hs, hat, b, ys, rfl, .inr hs2, ?_⟩
  rw [ha2.len]
  exact q _ H1 (Sub.refl _) (.int _)
end
end KZ

namespace KZ
open PySem PySem.Spec PyProof.Rows L2
/-- a def without a bag, from data to data -/
def spPure (K : PySem.W.Frag) (rel : List PyData → PyData → Prop) : Sp := fun vs H Q _ => ∃ (M : List Addr) (ds : List PyData) (d : PyData), Kn M H ∧ Dms K M H vs ds ∧ rel ds d ∧ ∀ y H', Sub H H' → Dm K M H' y d → Q y H'
section
variable {K : PySem.W.Frag} {M : List Addr} {σ : L2.St} {H : Hp} {tr : TA} {ds : List PyData} {d : PyData} {rel : List PyData → PyData → Prop} {E : XK}
theorem evd_pure (n : Kn M H) (h : EvDs K M tr σ H ds) (r : rel ds d) : EvD K M (tCall (spPure K rel) [] E tr) σ H d :=
  evd_call h fun vs H1 Q E s hd q => ⟨M, ds, d, n.sub s, hd, r, q⟩
theorem pure_len {P : Prop} {vs : List V} {Q : VK} {E : XK} {n : Nat} (hr : ∀ ds d, rel ds d → ds.length = n) (h : spPure K rel vs H Q E) : vs.length = n := by
  obtain ⟨M, ds, d, _, hd, r, _⟩ := h
  rw [hd.len]
  exact hr ds d r
end
def rWatP (ds : List PyData) (d : PyData) : Prop := ∃ (d0 d1 : PyData) (j : Jud) (n m : Nat) (p : Pl), ds = [.tuple [d0, d1, judD j], plD p] ∧ JudOk n m j ∧ PlIn n m p ∧ d = .str (wordAt j p)
def unPl : PyData → Pl
  | .tuple [.int a, .int b, .int c, .int d] => (a.toNat, b.toNat, c.toNat, d.toNat)
  | _ => (0, 0, 0, 0)
theorem unPl_of (p : Pl) : unPl (plD p) = p := by
  show ((p.1 : Int).toNat, (p.2.1 : Int).toNat, (p.2.2.1 : Int).toNat, (p.2.2.2 : Int).toNat) = p
  rw [Int.toNat_natCast, Int.toNat_natCast, Int.toNat_natCast, Int.toNat_natCast]
theorem filter_pl (l : List Pl) (f : Pl → Bool) : ((l.map plD).filter fun d => f (unPl d)).map (fun d => d) = (l.filter f).map plD := by
  rw [List.map_id', List.filter_map]
  have e : ((fun d => f (unPl d)) ∘ plD) = f := funext fun p => congrArg f (unPl_of p)
  rw [e]
section
variable {P : Program} {w : World} {K : PySem.W.Frag} {mg : Str → Option Value} {base : Heap}
abbrev sWatP : Stmt := topS 7
theorem scWatP : FnScope ["house", "place", "sort", "asker", "holder", "side"] ["house", "place"] (defScope sWatP) := ⟨rfl, rfl, rfl, by decide +kernel, rfl, by decide +kernel, by decide +kernel⟩
theorem ok_watP {f : Addr} {fd : FuncData} (F : Fun K "word_at" "word_at" sWatP f fd) : FnOk P w K mg base CX0 1 f fd ["house", "place"] (spPure K rWatP) := by
  refine F.ok scWatP (fun vs H Q E h => pure_len (P := True) (fun ds d r => ?_) h) (fun cdv A outer s H vs Q E hr h => ?_)
  · obtain ⟨_, _, _, _, _, _, rfl, _⟩ := r
    rfl
  · obtain ⟨M, ds, d, kn, hd, ⟨d0, d1, j, n, m, p, rfl, ok, hin, rfl⟩, q⟩ := h
    obtain ⟨vh, vp, rfl, hh, hp⟩ := Dms.two_at hd
    refine ⟨_, pss_cons (ps_asg (pv 1) (pg_tup rfl (pgs_cons (pg_name (i := 2) scWatP.nd rfl (Or.inl rfl)) (pgs_cons (pg_name (i := 3) scWatP.nd rfl (Or.inl rfl)) (pgs_cons (pg_name (i := 4) scWatP.nd rfl (Or.inl rfl)) (pgs_cons (pg_name (i := 5) scWatP.nd rfl (Or.inl rfl)) pgs_nil))))))
      (pss_one (ps_ret (pe_ix ix_tup (pe_ix ix_tup (pe_ix ix_tup (pe_ix ix_tup (pe_ix ix_tup (pv 0) pe_int (fun _ _ => rfl)) (pv 2) (fun _ _ => rfl)) (pv 3) (fun _ _ => rfl)) (pv 4) (fun _ _ => rfl)) (pv 5) (fun _ _ => rfl)))), ?_⟩
    obtain ⟨e1, e2, e3⟩ := judAt ok hin
    have hd2 := hin.2.2.2
    obtain ⟨ap, xs, rfl, hs, ha⟩ := hp.tupAt
    cases ha with
    | cons a1 ha =>
    cases ha with
    | cons a2 ha =>
    cases ha with
    | cons a3 ha =>
    obtain ⟨v4, rfl, a4⟩ := Dms.one_at ha
    cases a1
    cases a2
    cases a3
    cases a4.intAt
    refine ⟨_, rfl, ap, _, rfl, hs, rfl, _, _, rfl, _, _, rfl, _, _, rfl, _, _, rfl, rfl, ?_⟩
    have iv {i : Nat} {z : Nat} (g : ([some vh, some (V.ref ap), some (V.int (p.1 : Int)), some (V.int (p.2.1 : Int)), some (V.int (p.2.2.1 : Int)), some (V.int (p.2.2.2 : Int))] : L2.St)[i]? = some (some (V.int (z : Int)))) : EvD K M (tVar i) ([some vh, some (V.ref ap), some (V.int (p.1 : Int)), some (V.int (p.2.1 : Int)), some (V.int (p.2.2.1 : Int)), some (V.int (p.2.2.2 : Int))] : L2.St) H (.int (z : Int)) := evd_var g (.int _)
    have σh : EvD K M (tVar 0) ([some vh, some (V.ref ap), some (V.int (p.1 : Int)), some (V.int (p.2.1 : Int)), some (V.int (p.2.2.1 : Int)), some (V.int (p.2.2.2 : Int))] : L2.St) H (.tuple [d0, d1, judD j]) := evd_var rfl hh
    have q0 : EvD K M _ ([some vh, some (V.ref ap), some (V.int (p.1 : Int)), some (V.int (p.2.1 : Int)), some (V.int (p.2.2.1 : Int)), some (V.int (p.2.2.2 : Int))] : L2.St) H (judD j) := evd_ixT σh (evd_int (i := 2)) (by decide) rfl
    have q1 : EvD K M _ ([some vh, some (V.ref ap), some (V.int (p.1 : Int)), some (V.int (p.2.1 : Int)), some (V.int (p.2.2.1 : Int)), some (V.int (p.2.2.2 : Int))] : L2.St) H (tabD (j.getD p.1 [])) := evd_ixT q0 (iv (i := 2) rfl) (Int.natCast_nonneg _) (by rw [Int.toNat_natCast, List.getElem?_map, e1]; rfl)
    have q2 : EvD K M _ ([some vh, some (V.ref ap), some (V.int (p.1 : Int)), some (V.int (p.2.1 : Int)), some (V.int (p.2.2.1 : Int)), some (V.int (p.2.2.2 : Int))] : L2.St) H (rowD ((j.getD p.1 []).getD p.2.1 [])) := evd_ixT q1 (iv (i := 3) rfl) (Int.natCast_nonneg _) (by rw [Int.toNat_natCast, List.getElem?_map, e2]; rfl)
    have q3 : EvD K M _ ([some vh, some (V.ref ap), some (V.int (p.1 : Int)), some (V.int (p.2.1 : Int)), some (V.int (p.2.2.1 : Int)), some (V.int (p.2.2.2 : Int))] : L2.St) H (cpD (((j.getD p.1 []).getD p.2.1 []).getD p.2.2.1 ("", ""))) := evd_ixT q2 (iv (i := 4) rfl) (Int.natCast_nonneg _) (by rw [Int.toNat_natCast, List.getElem?_map, e3]; rfl)
    refine evd_ret (K := K) (M := M) (d := .str (wordAt j p)) (evd_ixT q3 (iv (i := 5) rfl) (Int.natCast_nonneg _) ?_) fun y H1 s1 hy => q y H1 s1 hy
    rw [Int.toNat_natCast]
    unfold wordAt side
    rcases (by omega : p.2.2.2 = 0 ∨ p.2.2.2 = 1) with z | z
    · rw [z]
      rfl
    · rw [z]
      rfl
end
end KZ

namespace KZ
open PySem PySem.Spec PyProof.Rows L2
/-! a step again and again, up to where it stands -/
def itr {α : Type} (f : α → α) : Nat → α → α
  | 0, x => x
  | m + 1, x => itr f m (f x)
/-! to what a kind rises -/
/-! the row of kinds up to which one is raised -/
def intD (l : List Nat) : List PyData := l.map fun k : Nat => PyData.int (k : Int)
section
variable {K : PySem.W.Frag} {M : List Addr}
theorem while_evb {c : TT} {tb : TS} {D : Ends} {σ : L2.St} {H : Hp} (Pv : L2.St → Hp → Prop) (μ : L2.St → Hp → Nat) (h0 : Pv σ H)
    (hs : ∀ σ H, Pv σ H → ∃ b, EvB c σ H b ∧ ∀ H1, Sub H H1 → if b = true then tb { D with nx := fun σ' H' => Pv σ' H' ∧ μ σ' H' < μ σ H, ct := fun σ' H' => Pv σ' H' ∧ μ σ' H' < μ σ H, bk := D.nx } σ H1 else D.nx σ H1) : tWhile c tb D σ H := by
  refine ⟨fun m σ H => m = μ σ H ∧ Pv σ H, ⟨_, rfl, h0⟩, ?_⟩
  rintro m σ H ⟨rfl, p⟩
  obtain ⟨b, e, q⟩ := hs σ H p
  refine e H (Sub.refl _) _ fun H1 s => ?_
  have q1 := q H1 s
  cases b with
  | true => exact ⟨_, fun σ' H' ⟨p', l⟩ => ⟨_, l, rfl, p'⟩, q1⟩
  | false => exact q1
end
section
variable {P : Program} {w : World} {K : PySem.W.Frag} {mg : Str → Option Value} {base : Heap}
end
end KZ

namespace KZ
open PySem PySem.Spec PyProof.Rows L2
def intV (l : List Nat) : List V := l.map fun k : Nat => V.int (k : Int)
section
variable {K : PySem.W.Frag} {M : List Addr} {σ : L2.St} {H : Hp}
theorem evb_truL {ta : TE} {ds : List PyData} (h : EvD K M ta σ H (.list ds)) : EvB (fun σ H Q => ta σ H fun x H' => ∃ k, TruV K x H' k ∧ Q k H') σ H (!ds.isEmpty) := fun H1 s Q q => h H1 s _ fun v H2 s2 hv => ⟨_, truL hv, q H2 s2⟩
theorem while_evm {c : TT} {tb : TS} {D : Ends} {σ : L2.St} {H : Hp} (W : Nat → L2.St → Hp → Prop) (h0 : ∃ m, W m σ H)
    (hs : ∀ m σ H, W m σ H → ∃ b, EvB c σ H b ∧ ∀ H1, Sub H H1 → if b = true then tb { D with nx := fun σ' H' => ∃ m', m' < m ∧ W m' σ' H', ct := fun σ' H' => ∃ m', m' < m ∧ W m' σ' H', bk := D.nx } σ H1 else D.nx σ H1) : tWhile c tb D σ H := by
  refine ⟨W, h0, fun m σ H p => ?_⟩
  obtain ⟨b, e, q⟩ := hs m σ H p
  refine e H (Sub.refl _) _ fun H1 s => ?_
  have q1 := q H1 s
  cases b with
  | true => exact ⟨_, fun σ' H' z => z, q1⟩
  | false => exact q1
theorem int_dms {l : List Nat} : DpAll K H (intV l) (intD l) := by
  unfold intV intD
  induction l with
  | nil => exact .nil
  | cons a l ih => exact .cons (.int _) ih
end
section
variable {P : Program} {w : World} {K : PySem.W.Frag} {mg : Str → Option Value} {base : Heap}
end
end KZ

namespace KZ
open PySem PySem.Spec PyProof.Rows L2
theorem inV_int (j : Nat) : ∀ l : List Nat, inV (.int (j : Int)) (intV l) = decide (j ∈ l)
  | [] => by simp [inV, intV]
  | a :: l => by
    have ih := inV_int j l
    unfold inV intV at ih ⊢
    rw [List.map_cons, List.any_cons, ih]
    have e : eqV (V.int (a : Int)) (V.int (j : Int)) = decide (j = a) := by
      show ((a : Int) == (j : Int)) = _
      by_cases z : j = a
      · subst z
        simp
      · rw [decide_eq_false z]
        simp
        omega
    rw [e]
    by_cases z : j = a
    · simp [z]
    · simp [z]
theorem flat_int : ∀ l : List Nat, (intV l).all flatV = true
  | [] => rfl
  | a :: l => by
    unfold intV
    rw [List.map_cons, List.all_cons]
    exact flat_int l
section
variable {P : Program} {w : World} {K : PySem.W.Frag} {mg : Str → Option Value} {base : Heap}
end
end KZ

namespace KZ
open PySem PySem.Spec PyProof.Rows L2
section
variable {K : PySem.W.Frag} {M : List Addr} {σ : L2.St} {H : Hp}
theorem evb_notinL {te : TE} {i j : Nat} {r : Addr} {l : List Nat} (he : EvD K M te σ H (.int (j : Int))) (hv : σ[i]? = some (some (.ref r))) (e : H r = some (.lst (intV l))) : EvB (tTest (tOp (rIn K true) te (tVar i))) σ H (!decide (j ∈ l)) := fun H1 s Q q =>
  he H1 s _ fun v H2 s2 hv2 => by
    cases hv2.intAt
    refine ⟨_, hv, r, _, rfl, .inl (SqL.of (s2 _ _ (s _ _ e))), rfl, flat_int l, _, rfl, ?_⟩
    rw [inV_int, if_pos rfl]
    exact q H2 s2
theorem evd_tupleOf {te : TE} {ds : List PyData} (n : Kn M H) (he : EvD K M te σ H (.list ds)) :
    EvD K M (tCB (fun xs H Q => ∃ p ys, xs = [V.ref p] ∧ ((SqL K H p ys ∧ ∀ l, H l = none → Q (.ref l) (upd H l (.tup ys))) ∨ (SqT K H p ys ∧ Q (.ref p) H))) (tCons te tNil)) σ H (.tuple ds) := fun H1 s Q q =>
  he H1 s _ fun v H2 s2 hv => by
    obtain ⟨a, xs, rfl, hs, ha⟩ := hv.lstAt
    exact ⟨a, xs, rfl, .inl ⟨hs, fun z hz => q _ _ (s2.trans (Sub.new hz)) (Dm.tupNew (n.sub (s.trans s2)) hz ha)⟩⟩
/-- len(x[i]), x in any slot -/
theorem evd_lenI {k : Nat} {i : Int} {ds rs : List PyData} {v : V} (hv : σ[k]? = some (some v)) (hd : Dm K M H v (.tuple ds)) (i0 : 0 ≤ i) (hi : ds[i.toNat]? = some (.tuple rs)) :
    EvD K M (tCB (fun xs H Q => ∃ p ys, xs = [V.ref p] ∧ (SqL K H p ys ∨ SqT K H p ys) ∧ Q (.int ys.length) H) (tCons (tOp (rIxT K) (tVar k) (tC (.int i))) tNil)) σ H (.int rs.length) := fun H1 s Q q => by
  obtain ⟨a, xs, y, rfl, hs, hat, hy⟩ := dm_getT (Dm.s hd s) i0 hi
  obtain ⟨b, ys, rfl, hs2, ha2⟩ := hy.tupAt
  refine ⟨_, hv, a, xs, i, _, rfl, rfl, hs, hat, b, ys, rfl, .inr hs2, ?_⟩
  rw [ha2.len]
  exact q _ H1 (Sub.refl _) (.int _)
end
section
variable {P : Program} {w : World} {K : PySem.W.Frag} {mg : Str → Option Value} {base : Heap}
/-! rises drawn anew -/
end
end KZ

namespace KZ
open PySem PySem.Spec PyProof.Rows L2
theorem piled_is : ∀ ts : List Str, piled ts = (ts.map (·.length)).sum + 2 * ts.length
  | [] => rfl
  | t :: ts => by
    rw [piled_cons, piled_is ts, List.map_cons, List.sum_cons, List.length_cons]
    omega
theorem good_lst {ds : List PyData} {n k : Nat} (h : ∀ d ∈ ds, Good d n k) : Good (.list ds) (ds.length * (n + 2) + 4) (k + 1) := by
  obtain ⟨h1, h2, h3, h4, h5⟩ := good_all h
  refine ⟨by simp only [PyData.canLay0, h1], by simp only [PyData.showable, h2], by simp only [PyData.hasDict, h3], by simp only [PyData.depth]; omega, ?_⟩
  simp only [PyData.shown]
  have a := listText_len_le (PyData.shownAll ds)
  have b := piled_is (PyData.shownAll ds)
  omega
theorem good_shaped {d : PyData} {n k : Nat} (g : Good d n k) (hk : k ≤ 60) : SeqAt.shaped d = true := by
  have := g.dp
  unfold SeqAt.shaped
  rw [g.lay, decide_eq_true (by omega)]
  rfl
section
variable {X : Cx}
def rReprL (K : PySem.W.Frag) : List V → Hp → VK → Prop := fun xs H Q => ∃ (v : V) (d : PyData) (n k : Nat), xs = [v] ∧ Dp K H v d ∧ (∃ a, v = .ref a) ∧ Good d n k ∧ n < 1000000 ∧ k ≤ 60 ∧ Q (.str (PyData.shown d)) H
theorem call_reprL (hg : X.A.guards = some []) (hu : X.A.units + 64 < cLine) : CallR X (.builtin "repr") (rReprL X.K) := by
  intro pins s σ H xs us Q I r q
  obtain ⟨v, d, n, k, rfl, hd, ⟨a, rfl⟩, g, hn, hk, q⟩ := q
  obtain ⟨u, rfl, rx⟩ := vals1 r
  obtain ⟨as, rr⟩ := Dp.reads I _ _ u hd rx
  cases rx
  have := g.dp
  exact repr_of_reads' rr g.sh (PyData.noDict_hsm g.nd) hg (by omega) (fun _ _ e => e) (fun h' u tk hk' => ⟨.str _, H, I.kept (t' := tk) hk', ⟨_, rfl⟩, q⟩) (Nat.le_of_lt (szl (Nat.lt_of_le_of_lt g.len hn)))
end
def spAlikeL (K : PySem.W.Frag) : Sp := fun vs H Q _ => ∃ (v u : V) (d : PyData) (n k : Nat), vs = [v, u] ∧ Dp K H v d ∧ Dp K H u d ∧ (∃ a, v = .ref a) ∧ (∃ a, u = .ref a) ∧ Good d n k ∧ n < 1000000 ∧ k ≤ 60 ∧ Q (.bl true) H
section
variable {P : Program} {w : World} {K : PySem.W.Frag} {mg : Str → Option Value} {base : Heap}
theorem ok_alikeL {f : Addr} {fd : FuncData} (F : Fun K "_law_alike" "_law_alike" sAlike f fd) (T : Txt mg) : FnG P w K mg base 1 f fd ["found", "due"] (spAlikeL K) := by
  refine fun_okG F scAlike (fun vs H Q E h => ?_) (fun cdv A outer s H vs Q E gs hr h => ?_)
  · obtain ⟨v, u, d, n, k, rfl, _⟩ := h
    rfl
  · obtain ⟨v, u, d, n, k, rfl, hv, hu, ra, rb, g, hn, hk, q⟩ := h
    refine ⟨_, pss_one (ps_ret (pe_and (pe_cmpR (op_eqD hr.units) (pv 0) (pv 1) (nomark _)) (pe_one (pe_cmpR op_eq (pe_callB (call_reprL gs hr.units) (by rfl) T.repr PyProof.Rows.boot_repr (pa_cons (pv 0) pa_nil)) (pe_callB (call_reprL gs hr.units) (by rfl) T.repr PyProof.Rows.boot_repr (pa_cons (pv 1) pa_nil)) (nomark _))))), ?_⟩
    have sh := good_shaped g hk
    refine ⟨_, rfl, _, rfl, _, _, hv, hu, sh, sh, _, rfl, ?_⟩
    rw [SeqAt.eqv_refl _ g.lay]
    refine iteT ?_
    refine ⟨_, rfl, v, d, n, k, rfl, hv, ra, g, hn, hk, _, rfl, u, d, n, k, rfl, hu, rb, g, hn, hk, rfl, ?_⟩
    rw [decide_eq_true rfl]
    exact q
end
section
variable {K : PySem.W.Frag} {M : List Addr} {σ : L2.St} {H H' : Hp} {ta tb te t1 t2 : TE} {tr : TA} {ds es : List PyData} {D : Ends} {us ut : TS}
theorem alikeL_if {n k : Nat} (h1 : EvD K M t1 σ H (.list ds)) (h2 : EvD K M t2 σ H (.list ds)) (g : Good (.list ds) n k) (hn : n < 1000000) (hk : k ≤ 60) (q : ∀ H', Sub H H' → ut D σ H') :
    tIfS (tNot (tB (tCall (spAlikeL K) [] E0 (tCons t1 (tCons t2 tNil))))) us ut D σ H :=
  h1 H (Sub.refl _) _ fun v H1 s1 hv => h2 H1 s1 _ fun u H2 s2 hu => by
    have hv2 := Dm.s hv s2
    obtain ⟨a, xs, e, _⟩ := hv2.lstAt
    obtain ⟨b, ys, e', _⟩ := hu.lstAt
    exact ⟨v, u, .list ds, n, k, rfl, hv2.all, hu.all, ⟨a, e⟩, ⟨b, e'⟩, g, hn, hk, true, rfl, q H2 (s1.trans s2)⟩
theorem eqv_nil (ds : List PyData) : PyData.eqv (.list ds) (.list []) = ds.isEmpty := by
  cases ds <;> simp [PyData.eqv, PyData.eqvAll]
theorem evd_eqNil {n k : Nat} (h1 : EvD K M t1 σ H (.list ds)) (h2 : EvD K M t2 σ H (.list [])) (g : Good (.list ds) n k) (hk : k ≤ 60) : EvD K M (tOp (rEqD K) t1 t2) σ H (.bool ds.isEmpty) := fun H1 s Q q =>
  h1 H1 s _ fun v H2 s2 hv => h2 H2 (s.trans s2) _ fun u H3 s3 hu => by
    refine ⟨_, _, (Dm.s hv s3).all, hu.all, good_shaped g hk, by decide, ?_⟩
    rw [eqv_nil]
    exact q _ H3 (s2.trans s3) (.bl _)
/-- [g(i) for i in range(m) if f(i)] -/
theorem evd_lcRF {tt : TT} {vs : List Nat} {j : Nat} {m : Int} (f : Nat → Bool) (g : Nat → PyData) (n : Kn M H) (h : EvDs K M tr σ H [.int m]) (h0 : 0 ≤ m) (hz : m < 100000) (hw : ∀ x, wipe ((wipe σ vs).set j (some x)) vs = wipe σ vs)
    (ht : ∀ (Dl : Addr), H Dl = none → ∀ (i : Nat) (H1 : Hp), Sub H H1 → Kn (Dl :: M) H1 → (i : Int) < m → EvB tt ((wipe σ vs).set j (some (.int (i : Int)))) H1 (f i))
    (he : ∀ (Dl : Addr), H Dl = none → ∀ (i : Nat) (H1 : Hp), Sub H H1 → Kn (Dl :: M) H1 → (i : Int) < m → EvD K (Dl :: M) tb ((wipe σ vs).set j (some (.int (i : Int)))) H1 (g i)) : EvNL K M (tLc (iRng1 tr) (gName j) tt tb vs) σ H (((List.range m.toNat).filter f).map g) := fun H1 s Q q =>
  h H1 s _ fun us H2 s2 hv => by
    cases hv with
    | cons hv1 hv2 =>
    cases hv2
    cases hv1
    have s02 := s.trans s2
    refine ⟨m, rfl, by omega, by omega, fun Dl hD => ?_⟩
    have h0D : H Dl = none := s02.free hD
    refine lc_range (lo := 0) (n := m.toNat) (fun i H' => Sub H2 H' ∧ ∃ acc, H' Dl = some (.lst acc) ∧ Dms K (Dl :: M) H' acc (((List.range i).filter f).map g))
      ⟨Sub.new hD, [], upd_same, .nil⟩ (fun i H' hi p => ?_) (fun H' p => ?_)
    · obtain ⟨sp, acc, p1, p2⟩ := p
      rw [show (0 : Int) + (i : Nat) = (i : Int) by omega]
      refine ⟨hw _, ?_⟩
      refine ht Dl h0D i H' (s02.trans sp) ((n.sub (s02.trans sp)).more ⟨_, p1⟩) (by omega) H' (Sub.refl _) _ fun H3 s3 => ?_
      have p13 := s3 _ _ p1
      rw [List.range_succ, List.filter_append, List.map_append, List.filter_cons]
      by_cases ef : f i = true
      · rw [if_pos ef, if_pos ef]
        refine he Dl h0D i H3 (s02.trans (sp.trans s3)) ((n.sub (s02.trans (sp.trans s3))).more ⟨_, p13⟩) (by omega) H3 (Sub.refl _) _ fun y H4 s4 hy => ⟨acc, s4 _ _ p13, ?_, ?_⟩
        · have q1 := p2.len
          have q2 := List.length_filter_le f (List.range i)
          rw [List.length_map] at q1
          rw [List.length_range] at q2
          exact szl (by omega)
        · have km : Kp (Dl :: M) H4 (upd H4 Dl (.lst (acc ++ [y]))) := Kp.mut List.mem_cons_self
          exact ⟨((sp.trans s3).trans s4).mut hD, _, upd_same, Dms.k ((Dms.s p2 (s3.trans s4)).app (DpAll.one hy)) km⟩
      · rw [if_neg ef, if_neg ef]
        exact ⟨sp.trans s3, acc, p13, by rw [List.filter_nil, List.map_nil, List.append_nil]; exact Dms.s p2 s3⟩
    · obtain ⟨sp, acc, p1, p2⟩ := p
      exact q Dl acc H' (s2.trans sp) (s2.free hD) p1 p2
end
theorem all_not {α : Type} (l : List α) (f : α → Bool) : (l.filter fun x => !f x).isEmpty = (l.map f).all id := by
  induction l with
  | nil => rfl
  | cons a l ih =>
    rw [List.filter_cons, List.map_cons, List.all_cons]
    cases h : f a with
    | true => simpa using ih
    | false => simp
end KZ


namespace KZ
open PySem PySem.Spec PyProof.Rows L2
open PySem.W (AlikeAll minD readsAll_at min_list_data alike_unique dataLt reads_keeps alike dataLt_tuple dataLt_all_no dataLt_int dataLt_all_yes)
open PySem.SeqAt
/-! rules that the hand layer lacks -/
theorem place2 (a b i : Int) : (Builtin.Range.rangePlace? a b 1 i).isSome = decide (a ≤ i ∧ i < b) := by
  unfold Builtin.Range.rangePlace?
  by_cases h1 : a ≤ i <;> by_cases h2 : i < b <;> simp [h1, h2]
/-- i not in r -/
def rNotInR : R2 := fun x y H Q => ∃ i a lo hi, x = V.int i ∧ y = V.ref a ∧ H a = some (.rng lo hi) ∧ Q (.bl (!decide (lo ≤ i ∧ i < hi))) H
theorem op_notin_rng {X : Cx} : OpR X (compareOp .NotIn) rNotInR := by
  intro pins s σ H x y v u Q I rx ry h
  obtain ⟨i, a, lo, hi, rfl, rfl, ha, q⟩ := h
  obtain ⟨k, rfl⟩ := rx
  obtain rfl : u = Value.ref a := ry
  obtain ⟨t1, t2, t3, ho⟩ := I.hok a _ ha
  show wpAny _ _ (do return Value.bool (!(← contains (Value.ref a) (Value.int i k)))) _ _ s
  refine wpAny_bind (wpAny_contains_slot (T := "range") ⟨_, ho, rfl⟩ PySem.F.slot_range_contains (call_meets PySem.F.slot_range_contains ⟨_, ho, rfl⟩ PySem.F.entry_range_contains (PySem.F.args_range_contains_2 _ _) (q_contains a lo hi i t1 t2 t3 k)
    ⟨ho, wpAny_truthy_bool (wpAny_pure ⟨.bl _, H, I, rfl, ?_⟩)⟩))
  rw [place2]
  exact q
/-- isinstance(x, tuple) of a tuple -/
def rIsTupT (K : PySem.W.Frag) : List V → Hp → VK → Prop := fun xs H Q => ∃ a ys, xs = [.ref a, .ty "tuple"] ∧ SqT K H a ys ∧ Q (.bl true) H
theorem kit_tt {K : PySem.W.Frag} : PySem.W.kitOne K (.type "tuple") (.type "tuple") = some true := by rfl
theorem call_isTupT {X : Cx} : CallR X (.builtin "isinstance") (rIsTupT X.K) := by
  intro pins s σ H xs us Q I r h
  obtain ⟨a, ys, rfl, hs, q⟩ := h
  obtain ⟨u1, u2, rfl, r1, r2⟩ := vals2 r
  cases (show u2 = Value.type "tuple" from r2)
  cases r1
  obtain ⟨its, rv, ⟨o, ho, hc, _⟩, _⟩ := I.tuple hs
  exact PySem.W.kia_one PySem.W.kitx_tuple I.kIn ⟨o, ho, hc⟩ kit_tt (fun z => nomatch z) fun tk => ⟨.bl _, H, I.tok tk, rfl, q⟩
/-- isinstance(i, bool) of an int -/
def rIsBlI : List V → Hp → VK → Prop := fun xs H Q => ∃ i, xs = [.int i, .ty "bool"] ∧ Q (.bl false) H
theorem kit_ib {K : PySem.W.Frag} : PySem.W.kitOne K (.type "int") (.type "bool") = some false := by rfl
theorem call_isBlI {X : Cx} : CallR X (.builtin "isinstance") rIsBlI := by
  intro pins s σ H xs us Q I r h
  obtain ⟨i, rfl, q⟩ := h
  obtain ⟨u1, u2, rfl, r1, r2⟩ := vals2 r
  cases (show u2 = Value.type "bool" from r2)
  obtain ⟨t, z⟩ := (show ∃ t, u1 = Value.int i t from r1)
  cases z
  exact PySem.W.kia_one PySem.W.kitx_int I.kIn True.intro (kit_ib (K := X.K)) (fun z => nomatch z) fun tk => ⟨.bl _, H, I.tok tk, rfl, q⟩
theorem intsOf : ∀ {ns : List Int} {us : List Value}, Vals (ns.map V.int) us → PyProof.Rows.IntsAre us ns
  | [], _, .nil => .nil
  | n :: ns, _, .cons r t => by
    obtain ⟨k, rfl⟩ := r
    exact .cons n k (intsOf t)
/-- len(set(t)), t a tuple of unlike ints -/
def tLenSetT (K : PySem.W.Frag) (ta : TE) : TE := fun σ H Q => ta σ H fun x H1 => ∃ (l : Addr) (ns : List Int), x = .ref l ∧ SqT K H1 l (ns.map V.int) ∧ ns.Nodup ∧ ns.length ≤ 4000 ∧ Q (.int (ns.length : Nat)) H1
theorem pe_lenSetT {X : Cx} {a : Expr} {ta : TE} {p p2 q pos : Pos} (hg : Gl X "len") (hm : X.mg "len" = none) (hg2 : Gl X "set") (hm2 : X.mg "set" = none) (ha : PE X a ta) (hc : X.calm = true := by rfl)
    (na : starEach [a] X.env = (false, eval a X.env) :: starEach [] X.env := by rfl) : PE X (.Call (.Name "len" p) [.Call (.Name "set" p2) [a] [] q] [] pos) (tLenSetT X.K ta) := by
  refine ⟨fun pins s σ H Q I h => ?_⟩
  refine Call_ (ld_blt I hg hm PySem.boot_len ?_)
  refine PyProof.Rows.callWith_builtin1 (PyProof.Rows.args_cons ?_ rfl) rfl rfl
  refine Call_ (ld_blt I hg2 hm2 PyProof.Rows.boot_set ?_)
  refine PyProof.Rows.callWith_type1 (PyProof.Rows.args_cons (thn (ha.run pins s σ H _ I h) fun v s1 ⟨x, H1, I1, r1, q1⟩ => PyProof.Rows.args_nil ?_) na) na rfl
  obtain ⟨l, ns, rfl, hq, hnd, hl, q1⟩ := q1
  cases r1
  obtain ⟨its, r, pl, hz⟩ := I1.tuple hq
  refine call_set_tupI ns (I1.ok.hd hc) pl (by simpa using intsOf r) (by unfold scanBound; omega) fun h' tk c hS hcl hk => ?_
  refine PyProof.Rows.args_nil ?_
  obtain ⟨o, es, ep, t, ho, hex, hd, _, nd, hmem, _, hf, hn, _⟩ := hS
  have I2 : L2.Inv X pins σ H1 { s1 with heap := h', toks := tk } := I1.kept fun b o e => hk b o e
  have ec : ns.length = c := by
    refine Nat.le_antisymm ?_ hcl
    have z := List.Nodup.length_le_of_subset hnd (fun k hk => (hmem k).mp (decide_eq_true hk))
    have z2 : (es.toList.map keyOf).length = c := by rw [List.length_map, ← hn, ← Array.length_toList]
    omega
  refine call_len_set ho hex hd hf (by rw [hn] <;> omega) ⟨.int ns.length, H1, I2.tok _, ⟨_, by rw [hn, ← ec]⟩, q1⟩
/-- min(xs), xs a list of data that are alike -/
def rMinD (K : PySem.W.Frag) : List V → Hp → VK → Prop := fun xs H Q => ∃ (a : Addr) (vs : List V) (d : PyData) (ds : List PyData), xs = [.ref a] ∧ SqL K H a vs ∧ DpAll K H vs (d :: ds) ∧ AlikeAll (d :: ds) ∧ PyData.depthAll (d :: ds) ≤ 8 ∧ ∀ (i : Nat) (v : V), vs[i]? = some v → (d :: ds)[i]? = some (minD d ds) → Q v H
theorem readsAll_get {h : Heap} : ∀ {vs : List Value} {xs : List PyData} {as : List Addr} {i : Nat} {v : Value}, ReadsAll h vs xs as → vs[i]? = some v → ∃ d bs, xs[i]? = some d ∧ Reads h v d bs := by
  intro vs xs as i v hr hi
  obtain ⟨bs, r, hl, _, _⟩ := readsAll_at hr i v hi
  exact ⟨_, bs, getD_of hl _, r⟩
theorem cr_minD {X : Cx} (hc : X.calm = true) (hu : X.A.units + 64 < cLine) : CallR X (.builtin "min") (rMinD X.K) := by
  intro pins s σ H xs us Q I r q
  obtain ⟨a, vs, d, ds, rfl, hs, hd, ha, hdp, q⟩ := q
  obtain ⟨u, rfl, rx⟩ := vals1 r
  cases rx
  obtain ⟨its, rv, pl, hz⟩ := I.list hs
  obtain ⟨as, rr⟩ := Dp.readsAll I (d :: ds) vs its hd rv
  refine min_list_data (x := d) (xs := ds) (as := as) (I.ok.hd hc) pl.isList (by simpa using rr) ha (by omega) fun i v h' tk bs hv hr' hk => ?_
  have hv' : its[i]? = some v := by simpa using hv
  obtain ⟨e, bs', he, hre⟩ := readsAll_get rr hv'
  have hi : i < vs.length := by
    rw [rv.length]
    exact (List.getElem?_eq_some_iff.mp hv').1
  obtain ⟨w, hw, rw'⟩ := rv.get (List.getElem?_eq_getElem hi)
  rw [hv'] at hw
  cases hw
  have hme : minD d ds ∈ d :: ds := by
    unfold minD
    have go : ∀ (l : List PyData) (x : PyData), l.foldl (fun a y => if dataLt y a then y else a) x ∈ x :: l := by
      intro l
      induction l with
      | nil => intro x; exact List.mem_singleton.mpr rfl
      | cons y l ih =>
        intro x
        rw [List.foldl_cons]
        rcases List.mem_cons.mp (ih (if dataLt y x then y else x)) with z | z
        · rw [z]
          split
          · exact List.mem_cons_of_mem _ List.mem_cons_self
          · exact List.mem_cons_self
        · exact List.mem_cons_of_mem _ (List.mem_cons_of_mem _ z)
    exact go ds d
  have ee : e = minD d ds := alike_unique e (minD d ds) v bs' bs (ha.1 _ (List.mem_of_getElem? he) _ hme) (reads_keeps hk hre) hr'
  rw [ee] at he
  exact ⟨vs[i], H, I.kept (t' := tk) hk, rw', q i _ (List.getElem?_eq_getElem hi) he⟩
section
variable {K : PySem.W.Frag} {M : List Addr} {σ : L2.St} {H H' : Hp} {ta tb tc : TE} {tr : TA} {tt : TT} {d e : PyData} {ds es : List PyData} {b : Bool} {i j : Int}
theorem evd_subI (ha : EvD K M ta σ H (.int i)) (hb : EvD K M tb σ H (.int j)) : EvD K M (tOp (rI0 fun i j => .int (i - j)) ta tb) σ H (.int (i - j)) := fun H1 s Q q =>
  ha H1 s _ fun v H2 s2 hv => hb H2 (s.trans s2) _ fun u H3 s3 hu => by
    cases hv.intAt
    cases hu.intAt
    exact ⟨i, j, rfl, rfl, q _ H3 (s2.trans s3) (.int _)⟩
theorem evd_gtI (ha : EvD K M ta σ H (.int i)) (hb : EvD K M tb σ H (.int j)) : EvD K M (tOp (rI0 fun i j => .bl (decide (j < i))) ta tb) σ H (.bool (decide (j < i))) := fun H1 s Q q =>
  ha H1 s _ fun v H2 s2 hv => hb H2 (s.trans s2) _ fun u H3 s3 hu => by
    cases hv.intAt
    cases hu.intAt
    exact ⟨i, j, rfl, rfl, q _ H3 (s2.trans s3) (.bl _)⟩
theorem evd_ltI (ha : EvD K M ta σ H (.int i)) (hb : EvD K M tb σ H (.int j)) : EvD K M (tOp (rI0 fun i j => .bl (decide (i < j))) ta tb) σ H (.bool (decide (i < j))) := fun H1 s Q q =>
  ha H1 s _ fun v H2 s2 hv => hb H2 (s.trans s2) _ fun u H3 s3 hu => by
    cases hv.intAt
    cases hu.intAt
    exact ⟨i, j, rfl, rfl, q _ H3 (s2.trans s3) (.bl _)⟩
/-- int(b) -/
abbrev rInt1 : List V → Hp → VK → Prop := fun xs H Q => (∃ i, xs = [.int i] ∧ Q (.int i) H) ∨ ∃ k, xs = [.bl k] ∧ Q (.int (if k then 1 else 0)) H
theorem evd_intB (ha : EvD K M ta σ H (.bool b)) : EvD K M (tCB rInt1 (tCons ta tNil)) σ H (.int (if b then 1 else 0)) := fun H1 s Q q =>
  ha H1 s _ fun v H2 s2 hv => by
    cases hv.blAt
    exact .inr ⟨b, rfl, q _ H2 s2 (.int _)⟩
theorem evd_ifE (h : EvB tt σ H b) (h1 : b = true → EvD K M ta σ H d) (h2 : b = false → EvD K M tb σ H d) : EvD K M (tIf tt ta tb) σ H d := fun H1 s Q q =>
  h H1 s _ fun H2 s2 => by
    cases b with
    | true => exact h1 rfl H2 (s.trans s2) _ fun v H3 s3 hv => q v H3 (s2.trans s3) hv
    | false => exact h2 rfl H2 (s.trans s2) _ fun v H3 s3 hv => q v H3 (s2.trans s3) hv
theorem evd_notN (ha : EvD K M ta σ H d) (hd : (d = .none ∧ b = false) ∨ (d ≠ .none ∧ b = true)) : EvD K M (tNotN ta) σ H (.bool b) := fun H1 s Q q =>
  ha H1 s _ fun v H2 s2 hv => by
    have e : (!decide (v = .non)) = b := by
      rcases hd with ⟨rfl, rfl⟩ | ⟨ne, rfl⟩
      · cases hv
        rfl
      · have : v ≠ .non := fun z => by
          rw [z] at hv
          cases hv
          exact ne rfl
        rw [decide_eq_false this]
        rfl
    show Q (.bl (!decide (v = .non))) H2
    rw [e]
    exact q _ H2 s2 (.bl _)
theorem evd_isN (ha : EvD K M ta σ H d) (hd : (d = .none ∧ b = true) ∨ (d ≠ .none ∧ b = false)) : EvD K M (tIsN ta) σ H (.bool b) := fun H1 s Q q =>
  ha H1 s _ fun v H2 s2 hv => by
    have e : decide (v = .non) = b := by
      rcases hd with ⟨rfl, rfl⟩ | ⟨ne, rfl⟩
      · cases hv
        rfl
      · have : v ≠ .non := fun z => by
          rw [z] at hv
          cases hv
          exact ne rfl
        rw [decide_eq_false this]
    show Q (.bl (decide (v = .non))) H2
    rw [e]
    exact q _ H2 s2 (.bl _)
theorem evd_non : EvD K M (tC .non) σ H .none := fun H1 s Q q => q _ H1 (Sub.refl _) .non
end
/-- None is as None -/
def spAlikeN : Sp := fun vs H Q _ => vs = [.non, .non] ∧ Q (.bl true) H
theorem FnG.or {P : Program} {w : World} {K : PySem.W.Frag} {mg : Str → Option Value} {base : Heap} {k : Nat} {f : Addr} {fd : FuncData} {ps : List Str} {sp sq : Sp} (a : FnG P w K mg base k f fd ps sp) (b : FnG P w K mg base k f fd ps sq) :
    FnG P w K mg base k f fd ps (fun vs H Q E => sp vs H Q E ∨ sq vs H Q E) where
  len := fun vs H Q E h => h.elim (a.len vs H Q E) (b.len vs H Q E)
  go := fun A up t H ar us vs Q E gs hr here bd rel h => h.elim (a.go A up t H ar us vs Q E gs hr here bd rel) (b.go A up t H ar us vs Q E gs hr here bd rel)
end KZ

namespace KB
/-! tables of numbers in the order in which they came -/
section
variable {α : Type}
def has (c : List (Nat × α)) (x : Nat) : Bool := c.any fun p => decide (p.1 = x)
def val (c : List (Nat × α)) (x : Nat) : Option α := (c.find? fun p => decide (p.1 = x)).map (·.2)
theorem has_iff {c : List (Nat × α)} {x : Nat} : has c x = true ↔ ∃ v, (x, v) ∈ c := by
  unfold has
  rw [List.any_eq_true]
  constructor
  · rintro ⟨⟨y, v⟩, h, e⟩
    exact ⟨v, by rw [← of_decide_eq_true e]; exact h⟩
  · rintro ⟨v, h⟩
    exact ⟨(x, v), h, by simp⟩
theorem has_app {c e : List (Nat × α)} {x : Nat} : has (c ++ e) x = (has c x || has e x) := by
  unfold has
  rw [List.any_append]
theorem val_mem {c : List (Nat × α)} (nd : (c.map (·.1)).Nodup) {x : Nat} {v : α} (h : (x, v) ∈ c) : val c x = some v := by
  unfold val
  induction c with
  | nil => cases h
  | cons p c ih =>
    rw [List.map_cons, List.nodup_cons] at nd
    rw [List.find?_cons]
    rcases List.mem_cons.mp h with e | e
    · rw [← e]
      simp
    · have ne : ¬ p.1 = x := fun z => nd.1 (by rw [z]; exact List.mem_map.mpr ⟨_, e, rfl⟩)
      rw [decide_eq_false ne]
      exact ih nd.2 e
theorem val_of {c : List (Nat × α)} {x : Nat} {v : α} (h : val c x = some v) : (x, v) ∈ c := by
  unfold val at h
  cases e : c.find? fun p => decide (p.1 = x) with
  | none =>
    rw [e] at h
    cases h
  | some p =>
    rw [e] at h
    have a := List.mem_of_find?_eq_some e
    have b := List.find?_some e
    have z : p = (x, v) := by
      obtain ⟨y, u⟩ := p
      rw [← of_decide_eq_true b]
      cases h
      rfl
    rw [← z]
    exact a
theorem val_some {c : List (Nat × α)} {x : Nat} : (val c x).isSome = has c x := by
  unfold val has
  rw [Option.isSome_map]
  exact List.isSome_find?
theorem has_false {c : List (Nat × α)} {x : Nat} (h : has c x = false) : x ∉ c.map (·.1) := fun m => by
  obtain ⟨⟨y, v⟩, a, rfl⟩ := List.mem_map.mp m
  rw [has_iff.mpr ⟨v, a⟩] at h
  cases h
theorem nd_snoc {c : List (Nat × α)} (nd : (c.map (·.1)).Nodup) {x : Nat} {v : α} (h : has c x = false) : ((c ++ [(x, v)]).map (·.1)).Nodup := by
  rw [List.map_append, List.nodup_append]
  refine ⟨nd, by simp, fun a ha b hb => ?_⟩
  have e : b = x := by simpa using hb
  rw [e]
  intro z
  rw [z] at ha
  exact has_false h ha
end
theorem nd_len {l : List Nat} {n : Nat} (nd : l.Nodup) (h : ∀ x ∈ l, x < n) : l.length ≤ n := by
  have := List.Nodup.length_le_of_subset nd (fun x hx => List.mem_range.mpr (h x hx))
  rw [List.length_range] at this
  exact this

/-! walks -/
section
variable {E : Nat → Nat → Bool} {n : Nat}
inductive Wk (E : Nat → Nat → Bool) (n a : Nat) : Nat → Nat → Prop
  | nil : Wk E n a a 0
  | snoc {b c k : Nat} : Wk E n a b k → E b c = true → c < n → Wk E n a c (k + 1)
def Cl (E : Nat → Nat → Bool) (n a k : Nat) : Prop := ∃ b, Wk E n a b k ∧ E b a = true
/-- a row of persons, each with an edge to the next one -/
def Ch (E : Nat → Nat → Bool) (p : List Nat) : Prop := ∀ i x y, p[i]? = some x → p[i + 1]? = some y → E x y = true
theorem ch_snoc {p : List Nat} {y z : Nat} (h : Ch E (p ++ [y])) (e : E y z = true) : Ch E (p ++ [y] ++ [z]) := by
  intro i x w h1 h2
  rcases Nat.lt_or_ge (i + 1) (p ++ [y]).length with l | l
  · rw [List.getElem?_append_left (by omega)] at h1
    rw [List.getElem?_append_left l] at h2
    exact h i x w h1 h2
  · rw [List.length_append, List.length_singleton] at l
    rcases Nat.lt_or_ge i (p ++ [y]).length with l2 | l2
    · have ei : i = p.length := by
        rw [List.length_append, List.length_singleton] at l2
        omega
      rw [List.getElem?_append_left l2, ei, List.getElem?_append_right (Nat.le_refl _)] at h1
      rw [ei, List.getElem?_append_right (by simp)] at h2
      simp at h1 h2
      rw [← h1, ← h2]
      exact e
    · rw [List.getElem?_append_right (by rw [List.length_append, List.length_singleton] at *; omega)] at h2
      have hz : [z].length ≤ i + 1 - (p ++ [y]).length := by
        show 1 ≤ _
        omega
      rw [List.getElem?_eq_none hz] at h2
      cases h2

/-! the program's search -/
abbrev Came := List (Nat × List Nat)
def pathOf (c : Came) (x : Nat) : List Nat := (val c x).getD []
def other1 (E : Nat → Nat → Bool) (one : Nat) (st : Came × List Nat) (other : Nat) : Came × List Nat :=
  if (!has st.1 other && E one other) = true then (st.1 ++ [(other, pathOf st.1 one ++ [one])], st.2 ++ [other]) else st
def one1 (E : Nat → Nat → Bool) (n : Nat) (st : Came × List Nat) (one : Nat) : Came × List Nat := (List.range n).foldl (other1 E one) st
def lev (E : Nat → Nat → Bool) (n person : Nat) : List Nat → Came × List Nat → (List Nat) ⊕ (Came × List Nat)
  | [], st => .inr st
  | one :: r, st => if E one person = true then .inl (pathOf st.1 one ++ [one]) else lev E n person r (one1 E n st one)
def bfs (E : Nat → Nat → Bool) (n person : Nat) : Nat → Came → List Nat → Option (List Nat)
  | 0, _, _ => none
  | _ + 1, _, [] => none
  | m + 1, c, x :: r => match lev E n person (x :: r) (c, []) with
    | .inl p => some p
    | .inr st => bfs E n person m st.1 st.2
def roundF (E : Nat → Nat → Bool) (n person : Nat) : Option (List Nat) := bfs E n person (n + 1) [(person, [])] [person]
/-- what is known of the table -/
structure Cm (E : Nat → Nat → Bool) (n person : Nat) (c : Came) : Prop where
  nd : (c.map (·.1)).Nodup
  lt : ∀ x q, (x, q) ∈ c → x < n
  wk : ∀ x q, (x, q) ∈ c → Wk E n person x q.length
  ch : ∀ x q, (x, q) ∈ c → Ch E (q ++ [x])
  hd : ∀ x q, (x, q) ∈ c → (q ++ [x])[0]? = some person
  qn : ∀ x q, (x, q) ∈ c → (q ++ [x]).Nodup
  qc : ∀ x q, (x, q) ∈ c → ∀ y ∈ q, has c y = true
/-- while a level d is gone through: the table was c0, these of the front are done -/
structure Md (E : Nat → Nat → Bool) (n person d : Nat) (c0 : Came) (st : Came × List Nat) : Prop where
  cm : Cm E n person st.1
  ext : ∃ new : Came, st.1 = c0 ++ new ∧ new.map (·.1) = st.2 ∧ ∀ x q, (x, q) ∈ new → q.length = d + 1
theorem has_ext {c0 new : Came} {x : Nat} (h : has c0 x = true) : has (c0 ++ new) x = true := by
  rw [has_app, h]
  rfl
theorem other1_ok {person d : Nat} {c0 : Came} {st : Came × List Nat} {one other : Nat} {q : List Nat} (m : Md E n person d c0 st) (h1 : (one, q) ∈ c0) (hq : q.length = d) (ho : other < n) :
    Md E n person d c0 (other1 E one st other) ∧ (∀ x, has st.1 x = true → has (other1 E one st other).1 x = true) ∧ (E one other = true → has (other1 E one st other).1 other = true) := by
  obtain ⟨cm, new, e, en, el⟩ := m
  unfold other1
  split
  · rename_i h
    rw [Bool.and_eq_true, Bool.not_eq_true'] at h
    have hm : (one, q) ∈ st.1 := by
      rw [e]
      exact List.mem_append_left _ h1
    have hp : pathOf st.1 one = q := by
      unfold pathOf
      rw [val_mem cm.nd hm]
      rfl
    rw [hp]
    have hmem : ∀ x q', (x, q') ∈ st.1 ++ [(other, q ++ [one])] → (x, q') ∈ st.1 ∨ (x = other ∧ q' = q ++ [one]) := fun x q' hx => by
      rcases List.mem_append.mp hx with z | z
      · exact .inl z
      · have := List.mem_singleton.mp z
        cases this
        exact .inr ⟨rfl, rfl⟩
    refine ⟨⟨⟨nd_snoc cm.nd h.1, ?_, ?_, ?_, ?_, ?_, ?_⟩, new ++ [(other, q ++ [one])], ?_, ?_, ?_⟩, ?_, ?_⟩
    · intro x q' hx
      rcases hmem x q' hx with z | ⟨rfl, rfl⟩
      · exact cm.lt _ _ z
      · exact ho
    · intro x q' hx
      rcases hmem x q' hx with z | ⟨rfl, rfl⟩
      · exact cm.wk _ _ z
      · rw [List.length_append]
        exact (cm.wk _ _ hm).snoc h.2 ho
    · intro x q' hx
      rcases hmem x q' hx with z | ⟨rfl, rfl⟩
      · exact cm.ch _ _ z
      · exact ch_snoc (cm.ch _ _ hm) h.2
    · intro x q' hx
      rcases hmem x q' hx with z | ⟨rfl, rfl⟩
      · exact cm.hd _ _ z
      · rw [List.getElem?_append_left (by simp)]
        exact cm.hd _ _ hm
    · intro x q' hx
      rcases hmem x q' hx with z | ⟨rfl, rfl⟩
      · exact cm.qn _ _ z
      · rw [List.nodup_append]
        refine ⟨cm.qn _ _ hm, by simp, fun a ha b hb => ?_⟩
        have eb := List.mem_singleton.mp hb
        rw [eb]
        intro ea
        rw [ea] at ha
        have hh : has st.1 x = true := by
          rcases List.mem_append.mp ha with z | z
          · exact cm.qc _ _ hm _ z
          · rw [List.mem_singleton.mp z]
            exact has_iff.mpr ⟨_, hm⟩
        rw [h.1] at hh
        cases hh
    · intro x q' hx y hy
      rw [has_app]
      rcases hmem x q' hx with z | ⟨rfl, rfl⟩
      · rw [cm.qc _ _ z y hy]
        rfl
      · have hh : has st.1 y = true := by
          rcases List.mem_append.mp hy with z | z
          · exact cm.qc _ _ hm _ z
          · rw [List.mem_singleton.mp z]
            exact has_iff.mpr ⟨_, hm⟩
        rw [hh]
        rfl
    · rw [e, List.append_assoc]
    · rw [List.map_append, en]
      rfl
    · intro x q' hx
      rcases List.mem_append.mp hx with z | z
      · exact el _ _ z
      · have := List.mem_singleton.mp z
        cases this
        rw [List.length_append, hq]
        rfl
    · intro x hx
      exact has_ext hx
    · intro _
      rw [has_app]
      have : has [(other, q ++ [one])] other = true := has_iff.mpr ⟨_, List.mem_singleton.mpr rfl⟩
      rw [this, Bool.or_true]
  · rename_i h
    refine ⟨⟨cm, new, e, en, el⟩, fun x hx => hx, fun he => ?_⟩
    rw [he, Bool.and_true] at h
    cases z : has st.1 other with
    | true => rfl
    | false =>
      rw [z] at h
      exact absurd rfl h
theorem fold_other {person d : Nat} {c0 : Came} {one : Nat} {q : List Nat} (h1 : (one, q) ∈ c0) (hq : q.length = d) : ∀ (l : List Nat) (st : Came × List Nat), (∀ x ∈ l, x < n) → Md E n person d c0 st →
    Md E n person d c0 (l.foldl (other1 E one) st) ∧ (∀ x, has st.1 x = true → has (l.foldl (other1 E one) st).1 x = true) ∧ ∀ x ∈ l, E one x = true → has (l.foldl (other1 E one) st).1 x = true
  | [], st, _, m => ⟨m, fun _ h => h, fun _ h => nomatch h⟩
  | x :: l, st, hl, m => by
    obtain ⟨m1, k1, e1⟩ := other1_ok m h1 hq (hl x List.mem_cons_self)
    obtain ⟨m2, k2, e2⟩ := fold_other h1 hq l _ (fun y hy => hl y (List.mem_cons_of_mem _ hy)) m1
    refine ⟨m2, fun y hy => k2 _ (k1 _ hy), fun y hy he => ?_⟩
    rcases List.mem_cons.mp hy with z | z
    · rw [z] at he ⊢
      exact k2 _ (e1 he)
    · exact e2 y z he
theorem one1_ok {person d : Nat} {c0 : Came} {st : Came × List Nat} {one : Nat} {q : List Nat} (m : Md E n person d c0 st) (h1 : (one, q) ∈ c0) (hq : q.length = d) :
    Md E n person d c0 (one1 E n st one) ∧ (∀ x, has st.1 x = true → has (one1 E n st one).1 x = true) ∧ ∀ x, x < n → E one x = true → has (one1 E n st one).1 x = true := by
  obtain ⟨a, b, c⟩ := fold_other (E := E) (n := n) h1 hq (List.range n) st (fun x hx => List.mem_range.mp hx) m
  exact ⟨a, b, fun x hx => c x (List.mem_range.mpr hx)⟩
theorem lev_ok {person d : Nat} {c0 : Came} : ∀ (l : List Nat) (st : Came × List Nat), (∀ x ∈ l, ∃ q, (x, q) ∈ c0 ∧ q.length = d) → Md E n person d c0 st →
    (∃ one q, one ∈ l ∧ (one, q) ∈ c0 ∧ q.length = d ∧ E one person = true ∧ lev E n person l st = .inl (q ++ [one])) ∨
    ∃ st', lev E n person l st = .inr st' ∧ Md E n person d c0 st' ∧ (∀ x, has st.1 x = true → has st'.1 x = true) ∧ (∀ x ∈ l, E x person = false) ∧ ∀ x ∈ l, ∀ y, y < n → E x y = true → has st'.1 y = true
  | [], st, _, m => .inr ⟨st, rfl, m, fun _ h => h, fun _ h => (nomatch h), fun _ h => (nomatch h)⟩
  | x :: l, st, hl, m => by
    obtain ⟨q, hq, hd⟩ := hl x List.mem_cons_self
    by_cases e : E x person = true
    · refine .inl ⟨x, q, List.mem_cons_self, hq, hd, e, ?_⟩
      unfold lev
      rw [if_pos e]
      obtain ⟨cm, new, en, _⟩ := m
      have hm : (x, q) ∈ st.1 := by
        rw [en]
        exact List.mem_append_left _ hq
      unfold pathOf
      rw [val_mem cm.nd hm]
      rfl
    · obtain ⟨m1, k1, e1⟩ := one1_ok m hq hd
      have eu : lev E n person (x :: l) st = lev E n person l (one1 E n st x) := by
        show (if E x person = true then _ else _) = _
        rw [if_neg e]
      rcases lev_ok l _ (fun y hy => hl y (List.mem_cons_of_mem _ hy)) m1 with ⟨one, q', a, b, c, f, g⟩ | ⟨st', a, b, c, f, g⟩
      · exact .inl ⟨one, q', List.mem_cons_of_mem _ a, b, c, f, by rw [eu]; exact g⟩
      · refine .inr ⟨st', by rw [eu]; exact a, b, fun y hy => c y (k1 y hy), fun y hy => ?_, fun y hy z hz he => ?_⟩
        · rcases List.mem_cons.mp hy with w | w
          · rw [w]
            exact Bool.eq_false_iff.mpr e
          · exact f y w
        · rcases List.mem_cons.mp hy with w | w
          · rw [w] at he
            exact c z (e1 z hz he)
          · exact g y w z hz he
/-- ahead of a level -/
structure Lv (E : Nat → Nat → Bool) (n person d : Nat) (c : Came) (front : List Nat) : Prop where
  cm : Cm E n person c
  le : ∀ x q, (x, q) ∈ c → q.length ≤ d
  fr : ∀ x, x ∈ front ↔ ∃ q, (x, q) ∈ c ∧ q.length = d
  all : ∀ x k, Wk E n person x k → k ≤ d → ∃ q, (x, q) ∈ c ∧ q.length ≤ k
  no : ∀ x q, (x, q) ∈ c → q.length < d → E x person = false
  pos : 0 < c.length
theorem Lv.next {person d : Nat} {c : Came} {front : List Nat} {st : Came × List Nat} (v : Lv E n person d c front) (m : Md E n person d c st) (k : ∀ x, has c x = true → has st.1 x = true) (f : ∀ x ∈ front, E x person = false)
    (g : ∀ x ∈ front, ∀ y, y < n → E x y = true → has st.1 y = true) : Lv E n person (d + 1) st.1 st.2 := by
  obtain ⟨cm, new, e, en, el⟩ := m
  have hmem : ∀ x q, (x, q) ∈ st.1 → (x, q) ∈ c ∨ (x, q) ∈ new := fun x q h => by
    rw [e] at h
    exact List.mem_append.mp h
  have old : ∀ x q, (x, q) ∈ c → (x, q) ∈ st.1 := fun x q h => by
    rw [e]
    exact List.mem_append_left _ h
  refine ⟨cm, ?_, ?_, ?_, ?_, ?_⟩
  · intro x q h
    rcases hmem x q h with z | z
    · have := v.le _ _ z
      omega
    · rw [el _ _ z]
      exact Nat.le_refl _
  · intro x
    rw [← en, List.mem_map]
    constructor
    · rintro ⟨⟨y, q⟩, h, rfl⟩
      exact ⟨q, by rw [e]; exact List.mem_append_right _ h, el _ _ h⟩
    · rintro ⟨q, h, hl⟩
      rcases hmem x q h with z | z
      · have := v.le _ _ z
        omega
      · exact ⟨_, z, rfl⟩
  · intro x k w hk
    rcases Nat.lt_or_ge d k with l | l
    · have ek : k = d + 1 := by omega
      rw [ek] at w
      cases w with
      | snoc w he hx =>
        rename_i b
        obtain ⟨q, hq, ql⟩ := v.all _ _ w (Nat.le_refl _)
        rcases Nat.lt_or_ge q.length d with z | z
        · obtain ⟨q', h', l'⟩ := v.all x (q.length + 1) ((v.cm.wk _ _ hq).snoc he hx) (by omega)
          exact ⟨q', old _ _ h', by omega⟩
        · have hf : b ∈ front := (v.fr b).mpr ⟨q, hq, by omega⟩
          obtain ⟨q', h'⟩ := has_iff.mp (g b hf x hx he)
          refine ⟨q', h', ?_⟩
          rcases hmem x q' h' with y | y
          · have := v.le _ _ y
            omega
          · rw [el _ _ y, ek]
            exact Nat.le_refl _
    · obtain ⟨q, hq, ql⟩ := v.all x k w l
      exact ⟨q, old _ _ hq, ql⟩
  · intro x q h hl
    rcases hmem x q h with z | z
    · rcases Nat.lt_or_ge q.length d with y | y
      · exact v.no _ _ z y
      · exact f x ((v.fr x).mpr ⟨q, z, by have := v.le _ _ z; omega⟩)
    · rw [el _ _ z] at hl
      omega
  · rw [e, List.length_append]
    have := v.pos
    omega
theorem Lv.md {person d : Nat} {c : Came} {front : List Nat} (v : Lv E n person d c front) : Md E n person d c (c, []) := ⟨v.cm, [], (List.append_nil c).symm, rfl, fun _ _ h => nomatch h⟩
/-- a least closed row that begins with person -/
structure Least (E : Nat → Nat → Bool) (n person : Nat) (p : List Nat) : Prop where
  pos : 0 < p.length
  hd : p[0]? = some person
  ch : Ch E p
  lst : ∀ x, p[p.length - 1]? = some x → E x person = true
  nd : p.Nodup
  lt : ∀ x ∈ p, x < n
  cl : Cl E n person (p.length - 1)
  min : ∀ k, Cl E n person k → p.length ≤ k + 1
theorem bfs_ok {person : Nat} : ∀ (m : Nat) (d : Nat) (c : Came) (front : List Nat), Lv E n person d c front → (front ≠ [] → n + 2 ≤ c.length + m) →
    (∃ p, bfs E n person m c front = some p ∧ Least E n person p) ∨ (bfs E n person m c front = none ∧ ∀ k, ¬ Cl E n person k)
  | m, d, c, [], v, _ => by
    have e : bfs E n person m c [] = none := by
      cases m <;> rfl
    refine .inr ⟨e, ?_⟩
    have no : ∀ x q, (x, q) ∈ c → q.length < d := fun x q h => by
      have := v.le _ _ h
      by_cases z : q.length = d
      · exact absurd ((v.fr x).mpr ⟨q, h, z⟩) (fun h => nomatch h)
      · omega
    have all : ∀ x k, Wk E n person x k → ∃ q, (x, q) ∈ c := by
      intro x k w
      induction w with
      | nil =>
        obtain ⟨q, h, _⟩ := v.all _ 0 .nil (Nat.zero_le _)
        exact ⟨q, h⟩
      | snoc w he hx ih =>
        obtain ⟨q, h⟩ := ih
        obtain ⟨q', h', _⟩ := v.all _ (q.length + 1) ((v.cm.wk _ _ h).snoc he hx) (no _ _ h)
        exact ⟨q', h'⟩
    rintro k ⟨b, w, he⟩
    obtain ⟨q, h⟩ := all b k w
    rw [v.no _ _ h (no _ _ h)] at he
    cases he
  | 0, d, c, x :: r, v, hm => by
    have h := hm (by simp)
    have := nd_len v.cm.nd (n := n) fun y hy => by
      obtain ⟨⟨a, b⟩, hh, rfl⟩ := List.mem_map.mp hy
      exact v.cm.lt _ _ hh
    rw [List.length_map] at this
    omega
  | m + 1, d, c, x :: r, v, hm => by
    have hfr : ∀ y ∈ x :: r, ∃ q, (y, q) ∈ c ∧ q.length = d := fun y hy => (v.fr y).mp hy
    have hm' := hm (by simp)
    rcases lev_ok (E := E) (n := n) (person := person) (x :: r) (c, []) hfr v.md with ⟨one, q, a, b, ql, f, g⟩ | ⟨st', a, b, k, f, g⟩
    · refine .inl ⟨q ++ [one], ?_, ?_⟩
      · show (match lev E n person (x :: r) (c, []) with
          | .inl p => some p
          | .inr st => bfs E n person m st.1 st.2) = _
        rw [g]
      · refine ⟨by simp, v.cm.hd _ _ b, v.cm.ch _ _ b, ?_, v.cm.qn _ _ b, ?_, ?_, ?_⟩
        · intro z hz
          rw [List.length_append, List.length_singleton, Nat.add_sub_cancel, List.getElem?_append_right (Nat.le_refl _), Nat.sub_self] at hz
          cases hz
          exact f
        · intro z hz
          rcases List.mem_append.mp hz with w | w
          · obtain ⟨q', h'⟩ := has_iff.mp (v.cm.qc _ _ b z w)
            exact v.cm.lt _ _ h'
          · rw [List.mem_singleton.mp w]
            exact v.cm.lt _ _ b
        · rw [List.length_append, List.length_singleton, Nat.add_sub_cancel]
          exact ⟨one, v.cm.wk _ _ b, f⟩
        · rintro k ⟨z, w, he⟩
          rw [List.length_append, List.length_singleton, ql]
          rcases Nat.lt_or_ge k d with l | l
          · obtain ⟨q', h', l'⟩ := v.all _ _ w (by omega)
            rw [v.no _ _ h' (by omega)] at he
            cases he
          · omega
    · have e : bfs E n person (m + 1) c (x :: r) = bfs E n person m st'.1 st'.2 := by
        show (match lev E n person (x :: r) (c, []) with
          | .inl p => some p
          | .inr st => bfs E n person m st.1 st.2) = _
        rw [a]
      rw [e]
      refine bfs_ok m (d + 1) st'.1 st'.2 (v.next b k f g) fun ne => ?_
      obtain ⟨_, new, e1, e2, _⟩ := b
      rw [e1, List.length_append]
      have : 0 < new.length := by
        cases new with
        | nil => exact absurd e2.symm ne
        | cons _ _ => simp
      omega
theorem lv_start {person : Nat} (h : person < n) : Lv E n person 0 [(person, [])] [person] := by
  have one : ∀ x q, (x, q) ∈ [(person, ([] : List Nat))] → x = person ∧ q = [] := fun x q h => by
    have := List.mem_singleton.mp h
    cases this
    exact ⟨rfl, rfl⟩
  refine ⟨⟨by simp, ?_, ?_, ?_, ?_, ?_, ?_⟩, ?_, ?_, ?_, ?_, by simp⟩
  · intro x q hx
    obtain ⟨rfl, rfl⟩ := one x q hx
    exact h
  · intro x q hx
    obtain ⟨rfl, rfl⟩ := one x q hx
    exact .nil
  · intro x q hx
    obtain ⟨rfl, rfl⟩ := one x q hx
    intro i a b _ h2
    simp at h2
  · intro x q hx
    obtain ⟨rfl, rfl⟩ := one x q hx
    rfl
  · intro x q hx
    obtain ⟨rfl, rfl⟩ := one x q hx
    simp
  · intro x q hx
    obtain ⟨rfl, rfl⟩ := one x q hx
    intro y hy
    cases hy
  · intro x q hx
    obtain ⟨rfl, rfl⟩ := one x q hx
    exact Nat.le_refl _
  · intro x
    constructor
    · intro hx
      rw [List.mem_singleton.mp hx]
      exact ⟨[], List.mem_singleton.mpr rfl, rfl⟩
    · rintro ⟨q, hx, _⟩
      rw [(one x q hx).1]
      exact List.mem_singleton.mpr rfl
  · intro x k w hk
    have e : k = 0 := by omega
    rw [e] at w
    cases w
    exact ⟨[], List.mem_singleton.mpr rfl, Nat.zero_le _⟩
  · intro x q _ hl
    exact absurd hl (Nat.not_lt_zero _)
theorem roundF_ok {person : Nat} (h : person < n) : (∃ p, roundF E n person = some p ∧ Least E n person p) ∨ (roundF E n person = none ∧ ∀ k, ¬ Cl E n person k) :=
  bfs_ok (n + 1) 0 _ _ (lv_start h) fun _ => by simp; omega
end
end KB

namespace KZ
open PySem PySem.Spec PyProof.Rows L2
/-! None shown, None as None -/
theorem call_reprN {X : Cx} : CallR X (.builtin "repr") (fun xs H Q => xs = [.non] ∧ Q (.str "None") H) := by
  intro pins s σ H xs us Q I r h
  obtain ⟨rfl, q⟩ := h
  obtain ⟨u, rfl, rx⟩ := vals1 r
  cases rx
  exact PySem.P.repr_of_none ⟨.str _, H, I.tok _, ⟨_, rfl⟩, q⟩
/-- what the law asks of a house -/
structure HQ (h : Hou) : Prop where
  k0 : 0 < h.ks.length
  k5 : h.ks.length < 5
  s0 : 0 < h.ss.length
  s4 : h.ss.length < 4
  j : JudOk h.ks.length h.ss.length h.j
  kn : ∀ k ∈ h.ks, k.1 ∈ Names ∧ 0 ≤ k.2.2 ∧ k.2.2 < 16
  sn : ∀ x ∈ h.ss, x ∈ Names
def spCouple (K : PySem.W.Frag) : Sp := fun vs H Q _ => ∃ (M : List Addr) (b l : Addr) (st a h : Int), vs = [.ref b, .int st, .int a, .int h] ∧ Cb M b l H ∧ 0 ≤ st ∧ st ≤ 3 ∧
  ∀ (y : V) (c : Cp) (H' : Hp), Fr b l H H' → CpOk c → Dm K M H' y (cpD c) → Q y H'
def spMeekH (K : PySem.W.Frag) : Sp := fun vs H Q _ => ∃ (M : List Addr) (b l : Addr) (n : Int) (v : V) (bs : List Bool), vs = [.ref b, .int n, v] ∧ Cb M b l H ∧ 0 < n ∧ n ≤ 4 ∧ Dm K M H v (.list (bs.map PyData.bool)) ∧ 0 < bs.length ∧ bs.length < 1000 ∧
  ∀ (y : V) (h : Hou) (H' : Hp), Fr b l H H' → HQ h → Dm K M H' y (houD h) → Q y H'
def spCrew (K : PySem.W.Frag) : Sp := fun vs H Q _ => ∃ (M : List Addr) (b l : Addr) (n : Int) (v : V) (h : Hou), vs = [.ref b, v, .int n] ∧ Cb M b l H ∧ Dm K M H v (houD h) ∧ HQ h ∧ 0 < n ∧ n ≤ 8 ∧
  ∀ (y : V) (c : List Nat) (H' : Hp), Fr b l H H' → 0 < c.length → c.length ≤ 8 → (∀ k ∈ c, k < h.ks.length) → Dm K M H' y (.tuple (intD c)) → Q y H'
section
variable {K : PySem.W.Frag} {M : List Addr} {σ : L2.St} {H H' : Hp}
theorem cpE (n : Kn M H) (x y : Str) : EvD K M (tTup (tCons (tC (.str x)) (tCons (tC (.str y)) tNil))) σ H (cpD (x, y)) := evd_tup n (evds_cons evd_str (evds_cons evd_str evds_nil)) lt2
def couplesE : List Cp → TA
  | [] => tNil
  | c :: r => tCons (tTup (tCons (tC (.str c.1)) (tCons (tC (.str c.2)) tNil))) (couplesE r)
theorem couples_ev (n : Kn M H) : ∀ cs : List Cp, EvDs K M (couplesE cs) σ H (cs.map cpD)
  | [] => evds_nil
  | c :: r => evds_cons (cpE n c.1 c.2) (couples_ev n r)
theorem lcE (n : Kn M H) (cs : List Cp) (hl : cs.length < 1000) : EvD K M (tLst (couplesE cs)) σ H (.list (cs.map cpD)) := evd_lst n (couples_ev n cs) (by rw [List.length_map]; omega)
end
section
variable {P : Program} {w : World} {K : PySem.W.Frag} {mg : Str → Option Value} {base : Heap}
theorem ok_alikeN {f : Addr} {fd : FuncData} (F : Fun K "_law_alike" "_law_alike" sAlike f fd) (T : Txt mg) : FnG P w K mg base 1 f fd ["found", "due"] spAlikeN := by
  refine fun_okG F scAlike (fun vs H Q E h => ?_) (fun cdv A outer s H vs Q E gs hr h => ?_)
  · obtain ⟨rfl, _⟩ := h
    rfl
  · obtain ⟨rfl, q⟩ := h
    refine ⟨_, pss_one (ps_ret (pe_and (pe_cmpR (op_eqD hr.units) (pv 0) (pv 1) (nomark _)) (pe_one (pe_cmpR op_eq (pe_callB call_reprN (by rfl) T.repr PyProof.Rows.boot_repr (pa_cons (pv 0) pa_nil)) (pe_callB call_reprN (by rfl) T.repr PyProof.Rows.boot_repr (pa_cons (pv 1) pa_nil)) (nomark _))))), ?_⟩
    refine ⟨_, rfl, _, rfl, .none, .none, .non, .non, by decide, by decide, _, rfl, ?_⟩
    refine iteT ?_
    refine ⟨_, rfl, rfl, _, rfl, rfl, rfl, ?_⟩
    rw [decide_eq_true rfl]
    exact q
abbrev sCouple : Stmt := topS 32
theorem scCouple : FnScope ["bag", "style", "asker", "holder", "some"] ["bag", "style", "asker", "holder"] (defScope sCouple) := ⟨rfl, rfl, rfl, by decide +kernel, rfl, by decide +kernel, by decide +kernel⟩
theorem cp_mem {cs : List Cp} (h : ∀ c ∈ cs, CpOk c) {d : PyData} (hd : d ∈ cs.map cpD) : ∃ c, CpOk c ∧ d = cpD c := by
  obtain ⟨c, hc, rfl⟩ := List.mem_map.mp hd
  exact ⟨c, h c hc, rfl⟩
def cp3 : List (List Cp) := [[("yield", "yield")], [("wait", "yield"), ("yield", "wait"), ("wait", "wait")], [("wait", "wait")]]
theorem cp3_ok : ∀ cs ∈ cp3, (∀ c ∈ cs, CpOk c) ∧ 0 < cs.length ∧ cs.length < 10 := by
  unfold cp3 CpOk
  decide +kernel
theorem ok_couple {f fS : Addr} {fd fdS : FuncData} (F : Fun K "_law_meek_couple" "_law_meek_couple" sCouple f fd) (T : Txt mg) (CS : Cal P w K mg base "_law_some" 2 ["bag", "things"] (spSome K) fS fdS) :
    FnOk P w K mg base CX0 3 f fd ["bag", "style", "asker", "holder"] (spCouple K) := by
  refine F.ok scCouple (fun vs H Q E h => ?_) (fun cdv A outer s H vs Q E hr h => ?_)
  · obtain ⟨M, b, l, st, a, h, rfl, _⟩ := h
    rfl
  · obtain ⟨M, b, l, st, a, h, rfl, cb, s0, s3, k⟩ := h
    refine ⟨_, pss_cons (ps_if (pt_cmpR op_eq (pv 1) pe_int (nomark _)) (pss_cons (ps_set (i := 4) scCouple.nd rfl (Or.inl rfl) (pe_lst (pa_cons (pe_lst (pa_cons (pe_tup (pa_cons pe_str (pa_cons pe_str pa_nil))) pa_nil)) (pa_cons (pe_lst (pa_cons (pe_tup (pa_cons pe_str (pa_cons pe_str pa_nil))) (pa_cons (pe_tup (pa_cons pe_str (pa_cons pe_str pa_nil))) (pa_cons (pe_tup (pa_cons pe_str (pa_cons pe_str pa_nil))) pa_nil)))) (pa_cons (pe_lst (pa_cons (pe_tup (pa_cons pe_str (pa_cons pe_str pa_nil))) pa_nil)) pa_nil)))))
        (pss_one (ps_ret (pcl CS hr (pa_cons (pv 0) (pa_cons (pe_ix ix_list (pv 4) (pe_op op_sub (pe_op op_add pe_int (pe_callTy call_int1 (by rfl) T.int bootInt (pa_cons (pe_cmpR op_gt (pv 2) (pv 3) (nomark _)) pa_nil))) (pe_callTy call_int1 (by rfl) T.int bootInt (pa_cons (pe_cmpR op_lt (pv 2) (pv 3) (nomark _)) pa_nil))) (fun _ _ => rfl)) pa_nil)))))) pss_nil)
      (pss_cons (ps_if (pt_cmpR op_eq (pv 1) pe_int (nomark _)) (pss_one (ps_ret (pcl CS hr (pa_cons (pv 0) (pa_cons (pe_lst (pa_cons (pe_tup (pa_cons pe_str (pa_cons pe_str pa_nil))) (pa_cons (pe_tup (pa_cons pe_str (pa_cons pe_str pa_nil))) (pa_cons (pe_tup (pa_cons pe_str (pa_cons pe_str pa_nil))) (pa_cons (pe_tup (pa_cons pe_str (pa_cons pe_str pa_nil))) pa_nil))))) pa_nil))))) pss_nil)
      (pss_one (ps_ret (pcl CS hr (pa_cons (pv 0) (pa_cons (pe_lst (pa_cons (pe_ix ix_list (pe_lst (pa_cons (pe_tup (pa_cons pe_str (pa_cons pe_str pa_nil))) (pa_cons (pe_tup (pa_cons pe_str (pa_cons pe_str pa_nil))) pa_nil))) (pv 1) (fun _ _ => rfl)) (pa_cons (pe_tup (pa_cons pe_str (pa_cons pe_str pa_nil))) pa_nil))) pa_nil)))))), ?_⟩
    have some1 {σ : L2.St} {te : TE} {H1 : Hp} {cs : List Cp} (f1 : Fr b l H H1) (h0 : σ[0]? = some (some (.ref b))) (hcs : ∀ c ∈ cs, CpOk c) (c0 : 0 < cs.length) (c1 : cs.length < 1000) (e : EvD K M te σ H1 (.list (cs.map cpD))) :
        tCall (spSome K) [] E0 (tCons (tVar 0) (tCons te tNil)) σ H1 Q := by
      refine evb_call (K := K) (M := M) h0 (evds_cons e evds_nil) fun vs H2 s2 h2 => ?_
      obtain ⟨v2, rfl, h2'⟩ := Dms.one_at h2
      have f2 : Fr b l H1 H2 := Fr.sub f1.bag s2
      refine ⟨M, b, l, v2, _, rfl, (cb.fr f1).fr f2, .inl h2', by rw [List.length_map]; exact c0, by rw [List.length_map]; omega, fun y d H3 f3 hd hy => ?_⟩
      obtain ⟨c, hc, rfl⟩ := cp_mem hcs hd
      exact k y c H3 ((f1.trans f2).trans f3) hc hy
    have σ1 {i : Nat} {z : Int} {u : Option V} {H1 : Hp} (g : ([some (.ref b), some (.int st), some (.int a), some (.int h), u] : L2.St)[i]? = some (some (.int z))) : EvD K M (tVar i) ([some (.ref b), some (.int st), some (.int a), some (.int h), u] : L2.St) H1 (.int z) := evd_var g (.int _)
    refine evb_test (evd_eqI (K := K) (M := M) (i := st) (j := 3) (σ1 (i := 1) (u := none) rfl) evd_int) H (Sub.refl _) _ fun H1 s1 => ?_
    have f1 : Fr b l H H1 := Fr.sub cb.bag s1
    refine ite2 (fun e3 => ?_) (fun e3 => ?_)
    · refine evd_sset (K := K) (M := M) (d := .list (cp3.map fun cs => .list (cs.map cpD))) (evd_lst (cb.fr f1).kn (evds_cons (lcE (cb.fr f1).kn [("yield", "yield")] (by decide)) (evds_cons (lcE (cb.fr f1).kn [("wait", "yield"), ("yield", "wait"), ("wait", "wait")] (by decide)) (evds_cons (lcE (cb.fr f1).kn [("wait", "wait")] (by decide)) evds_nil))) lt3) fun v2 H2 s2 h2 => ?_
      have f2 : Fr b l H H2 := f1.trans (Fr.sub f1.bag s2)
      have ei : EvD K M _ ([some (.ref b), some (.int st), some (.int a), some (.int h), some v2] : L2.St) H2 _ := evd_subI (evd_add (evd_int (i := 1)) (evd_intB (evd_gtI (σ1 (i := 2) (u := some v2) rfl) (σ1 (i := 3) (u := some v2) rfl)))) (evd_intB (evd_ltI (σ1 (i := 2) (u := some v2) rfl) (σ1 (i := 3) (u := some v2) rfl)))
      obtain ⟨j, hj, ej⟩ : ∃ j : Nat, j < 3 ∧ ((1 : Int) + (if decide (h < a) = true then 1 else 0) - (if decide (a < h) = true then 1 else 0)) = (j : Int) := by
        by_cases h1 : h < a
        · refine ⟨2, by decide, ?_⟩
          rw [decide_eq_true h1, decide_eq_false (by omega)]
          decide
        · by_cases h2 : a < h
          · refine ⟨0, by decide, ?_⟩
            rw [decide_eq_false h1, decide_eq_true h2]
            decide
          · refine ⟨1, by decide, ?_⟩
            rw [decide_eq_false h1, decide_eq_false h2]
            decide
      rw [ej] at ei
      obtain ⟨cs, hcs⟩ : ∃ cs, cp3[j]? = some cs := ⟨_, List.getElem?_eq_getElem hj⟩
      obtain ⟨o1, o2, o3⟩ := cp3_ok cs (List.mem_of_getElem? hcs)
      refine ret_of (some1 f2 rfl o1 o2 (by omega) (evd_ixL (evd_var (i := 4) rfl h2) ei (by omega) ?_))
      rw [Int.toNat_natCast, List.getElem?_map, hcs]
      rfl
    · refine evb_test (evd_eqI (K := K) (M := M) (i := st) (j := 2) (σ1 (i := 1) (u := none) rfl) evd_int) H1 (Sub.refl _) _ fun H2 s2 => ?_
      have f2 : Fr b l H H2 := f1.trans (Fr.sub f1.bag s2)
      refine ite2 (fun e2 => ?_) (fun e2 => ?_)
      · exact ret_of (some1 f2 rfl (cs := [("wait", "yield"), ("yield", "wait"), ("yield", "yield"), ("wait", "wait")]) (by unfold CpOk; decide +kernel) (by decide) (by decide) (lcE (cb.fr f2).kn _ (by decide)))
      · have e3' : ¬ st = 3 := fun z => e3 (decide_eq_true z)
        have e2' : ¬ st = 2 := fun z => e2 (decide_eq_true z)
        obtain ⟨j, hj, ej⟩ : ∃ j : Nat, j < 2 ∧ st = (j : Int) := ⟨st.toNat, by omega, by omega⟩
        obtain ⟨c, hc⟩ : ∃ c, ([("wait", "yield"), ("yield", "wait")] : List Cp)[j]? = some c := ⟨_, List.getElem?_eq_getElem hj⟩
        have oc : CpOk c := (by unfold CpOk; decide +kernel : ∀ c ∈ ([("wait", "yield"), ("yield", "wait")] : List Cp), CpOk c) c (List.mem_of_getElem? hc)
        unfold tNext
        dsimp only
        refine ret_of ?_
        refine some1 f2 rfl (cs := [c, ("wait", "wait")]) ?_ (Nat.zero_lt_succ _) (show 2 < 1000 by decide) (evd_lst (cb.fr f2).kn (evds_cons (evd_ixL (i := st) (ds := ([("wait", "yield"), ("yield", "wait")] : List Cp).map cpD) (lcE (cb.fr f2).kn [("wait", "yield"), ("yield", "wait")] (by decide)) (σ1 (i := 1) (u := none) rfl) s0 ?_) (evds_cons (cpE (cb.fr f2).kn _ _) evds_nil)) lt2)
        · intro z hz
          rcases List.mem_cons.mp hz with y | y
          · rw [y]
            exact oc
          · rw [List.mem_singleton.mp y]
            unfold CpOk
            decide +kernel
        · rw [ej, Int.toNat_natCast, List.getElem?_map, hc]
          rfl
end
end KZ

namespace KZ
open PySem PySem.Spec PyProof.Rows L2
section
variable {K : PySem.W.Frag} {M : List Addr} {σ : L2.St} {H H' : Hp}
abbrev rLenS (K : PySem.W.Frag) : List V → Hp → VK → Prop := fun xs H Q => ∃ p ys, xs = [V.ref p] ∧ (SqL K H p ys ∨ SqT K H p ys) ∧ Q (.int ys.length) H
theorem evd_lenL {te : TE} {rs : List PyData} (h : EvD K M te σ H (.list rs)) : EvD K M (tCB (rLenS K) (tCons te tNil)) σ H (.int rs.length) := fun H1 s Q q =>
  h H1 s _ fun v H2 s2 hv => by
    obtain ⟨a, xs, rfl, hs, ha⟩ := hv.lstAt
    refine ⟨a, xs, rfl, .inl hs, ?_⟩
    rw [ha.len]
    exact q _ H2 s2 (.int _)
theorem evd_lenT {te : TE} {rs : List PyData} (h : EvD K M te σ H (.tuple rs)) : EvD K M (tCB (rLenS K) (tCons te tNil)) σ H (.int rs.length) := fun H1 s Q q =>
  h H1 s _ fun v H2 s2 hv => by
    obtain ⟨a, xs, rfl, hs, ha⟩ := hv.tupAt
    refine ⟨a, xs, rfl, .inr hs, ?_⟩
    rw [ha.len]
    exact q _ H2 s2 (.int _)
theorem cutD_mid {ds : List PyData} {a c : Nat} (h : a + c ≤ ds.length) : cutD ds (some (a : Int)) (some ((a + c : Nat) : Int)) = (ds.drop a).take c := by
  unfold cutD
  rw [HT.sIx_nat, HT.sIx_nat, Nat.min_eq_left h, Nat.min_eq_left (by omega), Nat.add_sub_cancel_left]
end
theorem nil_of {σ : L2.St} {H : Hp} {Q : List V → Hp → Prop} (h : Q [] H) : tNil σ H Q := h
theorem spar_of {i j : Nat} {ta : TA} {u : TS} {D : Ends} {σ : L2.St} {H : Hp} (h : ta σ H fun xs H1 => ∃ x y, xs = [x, y] ∧ u D ((σ.set i (some x)).set j (some y)) H1) : tSeq (tPar i j ta) u D σ H := h
abbrev LoopR (n : Nat) (g : TG) (tb : TS) (D : Ends) (σ : L2.St) (H1 : Hp) : Prop := ∃ W : Nat → Nat → L2.St → Hp → Prop, (∃ m, W 0 m σ H1) ∧ ∀ i m σ H, W i m σ H →
  ((Itr 0 n).stop i H ∧ D.nx σ H) ∨ ((Itr 0 n).go i H ∧ ∃ N : L2.St → Hp → Prop, (∀ σ' H', N σ' H' → ∃ m', m' < m ∧ W (i + 1) m' σ' H') ∧ ∀ x H', (Itr 0 n).yld i H x H' → g x σ H' fun σ2 H2 => tb { D with nx := N, ct := N, bk := D.nx } σ2 H2)
theorem forR_of {ta : TA} {g : TG} {tb : TS} {D : Ends} {σ : L2.St} {H : Hp} (h : ta σ H fun vs H1 => ∃ j : Int, vs = [.int j] ∧ -(2 ^ 62) ≤ j ∧ j < 2 ^ 62 ∧ LoopR j.toNat g tb D σ H1) : tFor (iRng1 ta) g tb D σ H := h
/-- for i in range(e): e an expression without a bag -/
theorem for_rngE {K : PySem.W.Frag} {M : List Addr} {te : TE} {g : TG} {tb : TS} {D : Ends} {σ : L2.St} {H : Hp} {n : Nat} (h : EvD K M te σ H (.int (n : Int))) (hn : n < 1000000) (Pv : Nat → L2.St → Hp → Prop) (h0 : ∀ H1, Sub H H1 → Pv 0 σ H1)
    (hs : ∀ i σ H, i < n → Pv i σ H → g (.int (i : Int)) σ H fun σ2 H2 => tb { D with nx := Pv (i + 1), ct := Pv (i + 1), bk := D.nx } σ2 H2) (hd : ∀ σ H, Pv n σ H → D.nx σ H) : tFor (iRng1 (tCons te tNil)) g tb D σ H := by
  refine forR_of (args1 (h H (Sub.refl _) _ fun v H1 s1 hv => ?_))
  cases hv.intAt
  refine ⟨(n : Int), rfl, by omega, by omega, ?_⟩
  rw [Int.toNat_natCast]
  refine for_range (lo := 0) (n := n) Pv (h0 H1 s1) (fun i σ H hi p => ?_) hd
  rw [show (0 : Int) + (i : Nat) = (i : Int) by omega]
  exact hs i σ H hi p
def KdQ (k : Kd) : Prop := k.1 ∈ Names ∧ 0 ≤ k.2.2 ∧ k.2.2 < 16
theorem kds_of {ds : List PyData} (h : ∀ d ∈ ds, ∃ k, KdQ k ∧ d = kdD k) : ∃ ks : List Kd, ds = ks.map kdD ∧ ∀ k ∈ ks, KdQ k := by
  induction ds with
  | nil => exact ⟨[], rfl, by simp⟩
  | cons d ds ih =>
    obtain ⟨r, e, o⟩ := ih fun x hx => h x (List.mem_cons_of_mem _ hx)
    obtain ⟨c, oc, rfl⟩ := h d List.mem_cons_self
    exact ⟨c :: r, by rw [e] <;> rfl, fun x hx => (List.mem_cons.mp hx).elim (fun z => by rw [z]; exact oc) (o x)⟩
theorem nats_of {n : Nat} {ds : List PyData} (h : ∀ d ∈ ds, ∃ k : Nat, k < n ∧ d = .int (k : Int)) : ∃ ks : List Nat, ds = intD ks ∧ ∀ k ∈ ks, k < n := by
  induction ds with
  | nil => exact ⟨[], rfl, by simp⟩
  | cons d ds ih =>
    obtain ⟨r, e, o⟩ := ih fun x hx => h x (List.mem_cons_of_mem _ hx)
    obtain ⟨c, oc, rfl⟩ := h d List.mem_cons_self
    exact ⟨c :: r, by rw [e] <;> rfl, fun x hx => (List.mem_cons.mp hx).elim (fun z => by rw [z]; exact oc) (o x)⟩
section
variable {P : Program} {w : World} {K : PySem.W.Frag} {mg : Str → Option Value} {base : Heap}
abbrev sMeekH : Stmt := topS 33
theorem scMeekH : FnScope ["bag", "most", "keeps", "many", "names", "style", "kinds", "judge", "sort", "rows", "asker", "kind", "holder"] ["bag", "most", "keeps"] (defScope sMeekH) := ⟨rfl, rfl, rfl, by decide +kernel, rfl, by decide +kernel, by decide +kernel⟩
theorem ok_meekH {f fT fN fS fC : Addr} {fd fdT fdN fdS fdC : FuncData} (F : Fun K "_law_meek_house" "_law_meek_house" sMeekH f fd) (T : Txt mg) (CT : Cal P w K mg base "_law_take" 1 ["bag", "upto"] spTake fT fdT)
    (CN : Cal P w K mg base "_law_named" 3 ["bag", "many"] (spNamed K) fN fdN) (CS : Cal P w K mg base "_law_some" 2 ["bag", "things"] (spSome K) fS fdS) (CC : Cal P w K mg base "_law_meek_couple" 3 ["bag", "style", "asker", "holder"] (spCouple K) fC fdC) :
    FnOk P w K mg base CX0 4 f fd ["bag", "most", "keeps"] (spMeekH K) := by
  refine F.ok scMeekH (fun vs H Q E h => ?_) (fun cdv A outer s H vs Q E hr h => ?_)
  · obtain ⟨M, b, l, n, v, bs, rfl, _⟩ := h
    rfl
  · obtain ⟨M, b, l, n, v, bs, rfl, cb, n0, n1, hv, b0, b1, k⟩ := h
    have hr1 : Room 1 _ := hr.mono (by decide)
    have hr2 : Room 2 _ := hr.mono (by decide)
    refine ⟨_, pss_cons (ps_asg (pe_tup (pa_cons (pe_op op_add pe_int (pcl CT hr1 (pa_cons (pv 0) (pa_cons (pv 1) pa_nil)))) (pa_cons (pcl CN hr (pa_cons (pv 0) (pa_cons pe_int pa_nil))) (pa_cons (pcl CS hr2 (pa_cons (pv 0) (pa_cons (pe_lst (pa_cons pe_int (pa_cons pe_int (pa_cons pe_int (pa_cons pe_int (pa_cons pe_int (pa_cons pe_int (pa_cons pe_int pa_nil)))))))) pa_nil))) pa_nil))))
        (pg_tup rfl (pgs_cons (pg_name (i := 3) scMeekH.nd rfl (Or.inl rfl)) (pgs_cons (pg_name (i := 4) scMeekH.nd rfl (Or.inr rfl)) (pgs_cons (pg_name (i := 5) scMeekH.nd rfl (Or.inr rfl)) pgs_nil)))))
      (pss_cons (ps_par (i := 6) (j := 7) rfl scMeekH.nd rfl rfl (by decide) rfl rfl (pa_cons (pe_callTy call_tuple_of (by rfl) T.tuple bootTuple (pa_cons
          (pe_lc (own := [("kind", 11)]) (g := gName 11) (tt := tYes) (te := tTup (tCons (tOp (rIxL K) (tVar 4) (tVar 11)) (tCons (tCall (spSome K) [] E0 (tCons (tVar 0) (tCons (tVar 2) tNil))) (tCons (tVar 11) tNil)))) rfl scMeekH.nd (pi_range1 rfl T.range (pa_cons (pv 3) pa_nil)) (blkOk_by (N := ["bag", "most", "keeps", "many", "names", "style", "kinds", "judge", "sort", "rows", "asker", "kind", "holder"]) (sc := defScope sMeekH) (by decide +kernel)) (fun _ _ _ _ _ => pg_name (i := 11) scMeekH.nd rfl (Or.inl rfl)) (fun _ _ _ _ _ => pts_nil)
            (fun _ _ _ _ _ => pe_tup (pa_cons (pe_ix ix_list (pv 4) (pv 11) (fun _ _ => rfl)) (pa_cons (pcl CS hr2 (pa_cons (pv 0) (pa_cons (pv 2) pa_nil))) (pa_cons (pv 11) pa_nil))))) pa_nil)) (pa_cons (pe_lst pa_nil) pa_nil)) rfl)
      (pss_cons (ps_for PassesOwn.never rfl (pi_range1 rfl T.range (pa_cons (pcl CS hr2 (pa_cons (pv 0) (pa_cons (pe_lst (pa_cons pe_int (pa_cons pe_int (pa_cons pe_int (pa_cons pe_int pa_nil))))) pa_nil))) pa_nil)) (pg_name (i := 8) scMeekH.nd rfl (Or.inl rfl))
        (pss_cons (ps_set (i := 9) scMeekH.nd rfl (Or.inl rfl) (pe_lst pa_nil))
        (pss_cons (ps_for PassesOwn.never rfl (pi_range1 rfl T.range (pa_cons (pv 3) pa_nil)) (pg_name (i := 10) scMeekH.nd rfl (Or.inr rfl))
          (pss_one (ps_expr (pe_bm PySem.F.plainAttrs_list PySem.F.slot_list_append PySem.F.type_list_append mt_append (pv 9)
            (pa_cons (pe_callTy call_tuple_of (by rfl) T.tuple bootTuple (pa_cons
              (pe_lc (own := [("holder", 12)]) (g := gName 12) (tt := tYes) rfl scMeekH.nd (pi_range1 rfl T.range (pa_cons (pv 3) pa_nil)) (blkOk_by (N := ["bag", "most", "keeps", "many", "names", "style", "kinds", "judge", "sort", "rows", "asker", "kind", "holder"]) (sc := defScope sMeekH) (by decide +kernel)) (fun _ _ _ _ _ => pg_name (i := 12) scMeekH.nd rfl (Or.inl rfl)) (fun _ _ _ _ _ => pts_nil)
                (fun _ _ _ _ _ => pcl CC hr (pa_cons (pv 0) (pa_cons (pv 5) (pa_cons (pv 10) (pa_cons (pv 12) pa_nil)))))) pa_nil)) pa_nil)))))
        (pss_one (ps_expr (pe_bm PySem.F.plainAttrs_list PySem.F.slot_list_append PySem.F.type_list_append mt_append (pv 7)
            (pa_cons (pe_callTy call_tuple_of (by rfl) T.tuple bootTuple (pa_cons (pv 9) pa_nil)) pa_nil)))))))
      (pss_one (ps_ret (pe_tup (pa_cons (pv 6) (pa_cons (pe_callTy call_tuple_of (by rfl) T.tuple bootTuple (pa_cons (pe_slice sl_list (pv 4) (po_some pe_int) (po_some (pe_op op_add pe_int (pe_callB call_len_seq (by rfl) T.len PySem.boot_len (pa_cons (pv 7) pa_nil))))) pa_nil))
        (pa_cons (pe_callTy call_tuple_of (by rfl) T.tuple bootTuple (pa_cons (pv 7) pa_nil)) pa_nil)))))))), ?_⟩
    refine ⟨_, rfl, _, rfl, b, l, n, rfl, cb.bag, n0, by omega, fun i H1 f1 i0 i1 => ⟨_, _, rfl, rfl, _, rfl, M, b, l, 8, rfl, cb.fr f1, by decide, by decide, fun yn ns H2 f2 hnl hnN hnd hyn => cons_of ?_⟩⟩
    have c2 := (cb.fr f1).fr f2
    refine evb_call (K := K) (M := M) rfl (evds_cons (evd_lst c2.kn (evds_cons (evd_int (i := 0)) (evds_cons (evd_int (i := 1)) (evds_cons (evd_int (i := 2)) (evds_cons (evd_int (i := 3)) (evds_cons (evd_int (i := 3)) (evds_cons (evd_int (i := 0)) (evds_cons (evd_int (i := 1)) evds_nil))))))) (by show 7 < 1000000; decide)) evds_nil) fun vs H3 s3 h3 => ?_
    obtain ⟨v3, rfl, h3'⟩ := Dms.one_at h3
    have f3 : Fr b l H2 H3 := Fr.sub c2.bag s3
    refine ⟨M, b, l, v3, _, rfl, c2.fr f3, .inl h3', by show 0 < 7; decide, by show 7 < 1000000; decide, fun y d H4 f4 hd hy => ?_⟩
    obtain ⟨st, rfl, st0, st3⟩ : ∃ st : Int, d = .int st ∧ 0 ≤ st ∧ st ≤ 3 := by
      simp only [List.mem_cons, List.not_mem_nil, or_false] at hd
      rcases hd with hd | hd | hd | hd | hd | hd | hd <;> exact ⟨_, hd, by decide, by decide⟩
    cases hy.intAt
    refine nil_of ⟨by show 3 ≤ sizeLine; decide, fun q hq => ⟨q, _, rfl, SqT.of upd_same, rfl, _, _, rfl, _, _, rfl, _, _, rfl, rfl, ?_⟩⟩
    obtain ⟨m, em⟩ : ∃ m : Int, m = 1 + i := ⟨_, rfl⟩
    dsimp only [List.set]
    rw [← em]
    have m0 : 0 < m := by omega
    have m4 : m ≤ 4 := by omega
    have f5 : Fr b l H (upd H4 q (.tup [.int m, yn, .int st])) := (((f1.trans f2).trans f3).trans f4).trans (Fr.new f4.bag hq)
    have hyn5 : Dm K M (upd H4 q (.tup [.int m, yn, .int st])) yn (.list (ns.map PyData.str)) := Dm.s (Dm.f (Dm.s hyn s3) f4 cb.mem) (Sub.new hq)
    have hv5 : Dm K M (upd H4 q (.tup [.int m, yn, .int st])) v (.list (bs.map PyData.bool)) := Dm.f hv f5 cb.mem
    generalize upd H4 q (.tup [.int m, yn, .int st]) = H5 at f5 hyn5 hv5 ⊢
    have c5 := cb.fr f5
    have hnl' : ns.length = 8 := hnl
    refine spar_of (cons_of (cb_args ?_))
    refine lcR_bag (K := K) (fun d => ∃ kd, KdQ kd ∧ d = kdD kd) c5 (evds_cons (evd_var rfl (.int m)) evds_nil) (by omega) (by omega) (by intro z; rfl) ?_ _ ?_
    · intro Dl hD i6 H6 f6 c6 hi6 Q6 q6
      have hyn6 := Dm.f (Dm.more hyn5 hD) f6 c6.mem
      have hv6 := Dm.f (Dm.more hv5 hD) f6 c6.mem
      have hix : (ns.map PyData.str)[(i6 : Int).toNat]? = some (.str (ns[i6]'(by omega))) := by
        rw [Int.toNat_natCast, List.getElem?_map, List.getElem?_eq_getElem (by omega)]
        rfl
      refine tup_of (cons_of ((evd_ixL (K := K) (M := Dl :: M) (i := (i6 : Int)) (evd_var (i := 4) rfl hyn6) (evd_var (i := 11) rfl (.int _)) (by omega) hix) H6 (Sub.refl _) _ fun y7 H7 s7 hy7 => cons_of ?_))
      have f7 : Fr b l H6 H7 := Fr.sub c6.bag s7
      have c7 := c6.fr f7
      refine ⟨_, rfl, _, rfl, Dl :: M, b, l, v, _, rfl, c7, .inl (Dm.s hv6 s7), by rw [List.length_map]; exact b0, by rw [List.length_map]; omega, fun y8 d8 H8 f8 hd8 hy8 => ?_⟩
      obtain ⟨bb, _, rfl⟩ := List.mem_map.mp hd8
      refine ⟨_, rfl, by show 3 ≤ sizeLine; decide, fun z hz => ?_⟩
      have c8 := c7.fr f8
      cases hy7.strAt
      refine q6 _ _ _ ((f7.trans f8).trans (Fr.new f8.bag hz)) ⟨(ns[i6]'(by omega), bb, (i6 : Int)), ⟨hnN _ (List.getElem_mem _), Int.natCast_nonneg _, by show (i6 : Int) < 16; omega⟩, rfl⟩ ?_
      exact Dm.tupNew c8.kn hz (.cons (.str _) (.cons hy8 (.cons (.int _) .nil)))
    intro p6 xs6 ds6 H6 f6 hp6 h6p h6x hl6 hP6
    obtain ⟨ks, rfl, hks⟩ := kds_of hP6
    rw [List.length_map] at hl6
    have c6 := c5.fr f6
    refine ⟨p6, xs6, rfl, .inl ⟨SqL.of h6p, fun z hz => cons_of ⟨Nat.zero_le _, fun p hp => nil_of ⟨_, _, rfl, ?_⟩⟩⟩⟩
    have f7 : Fr b l H5 (upd H6 z (.tup xs6)) := f6.trans (Fr.new f6.bag hz)
    have hk7 : Dm K M (upd H6 z (.tup xs6)) (.ref z) (.tuple (ks.map kdD)) := Dm.tupNew c6.kn hz (h6x.less fun a h => List.mem_cons_of_mem _ h)
    have hyn7 := Dm.f hyn5 f7 cb.mem
    generalize upd H6 z (.tup xs6) = H7 at f7 hk7 hyn7 hp ⊢
    have c7 := c5.fr f7
    have hp0 : H p = none := f5.free cb.bag (f7.free c5.bag hp)
    have f8 : Fr b l H (upd H7 p (.lst [])) := (f5.trans f7).mut cb.bag hp0
    have c8 := cb.fr f8
    have km8 {o : HO} : Kp (p :: M) H7 (upd H7 p o) := Kp.mut List.mem_cons_self
    have hk8 := (Dm.more hk7 hp).k (km8 (o := .lst []))
    have hyn8 := (Dm.more hyn7 hp).k (km8 (o := .lst []))
    have h8p : upd H7 p (.lst []) p = some (.lst []) := upd_same
    have pb := ne_new cb.bag.at hp0
    generalize upd H7 p (.lst []) = H8 at f8 hk8 hyn8 h8p c8 ⊢
    have c8' : Cb (p :: M) b l H8 := c8.more ⟨_, h8p⟩
    refine sfor (forR_of (cons_of (evb_call (K := K) (M := p :: M) rfl (evds_cons (evd_lst c8'.kn (evds_cons (evd_int (i := 1)) (evds_cons (evd_int (i := 2)) (evds_cons (evd_int (i := 1)) (evds_cons (evd_int (i := 3)) evds_nil)))) lt4) evds_nil) fun vs H9 s9 h9 => ?_)))
    obtain ⟨v9, rfl, h9'⟩ := Dms.one_at h9
    have f9 : Fr b l H8 H9 := Fr.sub c8'.bag s9
    refine ⟨p :: M, b, l, v9, _, rfl, c8'.fr f9, .inl h9', by show 0 < 4; decide, by show 4 < 1000000; decide, fun y d H10 f10 hd hy => ?_⟩
    obtain ⟨m2, rfl, m20, m23⟩ : ∃ m2 : Int, d = .int m2 ∧ 0 < m2 ∧ m2 ≤ 3 := by
      simp only [List.mem_cons, List.not_mem_nil, or_false] at hd
      rcases hd with hd | hd | hd | hd <;> exact ⟨_, hd, by decide, by decide⟩
    cases hy.intAt
    have f810 := f9.trans f10
    refine nil_of ⟨m2, rfl, by omega, by omega, for_range (lo := 0) (n := m2.toNat) (fun i σ H' => ∃ (u8 u9 u10 : Option V) (vs : List V) (ts : Jud), σ = [some (.ref b), some (.int n), some v, some (.int m), some yn, some (.int st), some (.ref z), some (.ref p), u8, u9, u10, none, none] ∧ Fr b l H H' ∧ H' p = some (.lst vs) ∧ Dms K (p :: M) H' vs (ts.map tabD) ∧
        ts.length = i ∧ (∀ t ∈ ts, TabOk m.toNat t) ∧ Dm K (p :: M) H' (.ref z) (.tuple (ks.map kdD)) ∧ Dm K (p :: M) H' yn (.list (ns.map PyData.str)))
      ⟨none, none, none, [], [], rfl, f8.trans f810, f810.k p _ (by simp [pb]) h8p, .nil, rfl, by simp, Dm.f hk8 f810 c8'.mem, Dm.f hyn8 f810 c8'.mem⟩ ?_ ?_⟩
    · rintro i σ H' hi ⟨u8, u9, u10, vs, ts, rfl, f3, h3p, hds, htl, hto, hk3, hn3⟩
      have c3 : Cb (p :: M) b l H' := (cb.fr f3).more ⟨_, h3p⟩
      refine ⟨Nat.zero_le _, fun r hr3 => ?_⟩
      have hr0 : H r = none := f3.free cb.bag hr3
      have rb := ne_new cb.bag.at hr0
      have nrp : p ≠ r := ne_of_none h3p hr3
      have km3 {o : HO} : Kp (r :: p :: M) H' (upd H' r o) := Kp.mut List.mem_cons_self
      refine ⟨_, rfl, m, rfl, by omega, by omega, for_range (lo := 0) (n := m.toNat) (fun i2 σ H4 => ∃ (u10 : Option V) (ws : List V) (rs : Tab), σ = [some (.ref b), some (.int n), some v, some (.int m), some yn, some (.int st), some (.ref z), some (.ref p), some (.int ((0 : Int) + (i : Nat))), some (.ref r), u10, none, none] ∧ Fr b l H' H4 ∧ H4 r = some (.lst ws) ∧ Dms K (r :: p :: M) H4 ws (rs.map rowD) ∧
          rs.length = i2 ∧ (∀ r ∈ rs, RowOk m.toNat r) ∧ H4 p = some (.lst vs) ∧ Dms K (r :: p :: M) H4 vs (ts.map tabD) ∧ Dm K (r :: p :: M) H4 (.ref z) (.tuple (ks.map kdD)) ∧ Dm K (r :: p :: M) H4 yn (.list (ns.map PyData.str)))
        ⟨u10, [], [], rfl, Fr.new c3.bag hr3, upd_same, .nil, rfl, by simp, by rw [upd_ne nrp]; exact h3p, (hds.more hr3).k km3, (hk3.more hr3).k km3, (hn3.more hr3).k km3⟩ ?_ ?_⟩
      · rintro i2 σ H4 hi2 ⟨u10, ws, rs, rfl, f4, h4r, hws, hrl, hro, h4p, hds4, hk4, hn4⟩
        have c4 : Cb (r :: p :: M) b l H4 := (c3.fr f4).more ⟨_, h4r⟩
        refine ⟨_, rfl, .inl ⟨rfl, _, SqL.of h4r⟩, ?_⟩
        refine args1 (cb_args ?_)
        refine lcR_bag (K := K) (fun d => ∃ c, CpOk c ∧ d = cpD c) c4 (evds_cons (evd_var rfl (.int m)) evds_nil) (by omega) (by omega) (by intro z; rfl) ?_ _ ?_
        · intro Dl hD i3 H5 f5 c5 hi3 Q5 q5
          exact ⟨_, rfl, _, rfl, _, rfl, _, rfl, Dl :: r :: p :: M, b, l, st, _, _, rfl, c5, st0, st3, fun y c H6 f6 hc hy => q5 y _ H6 f6 ⟨c, hc, rfl⟩ hy⟩
        · intro t xs ds H5 f5 ht h5t hxs hdl hdo
          obtain ⟨row, rfl, hrok⟩ := cps_of hdo
          rw [List.length_map] at hdl
          refine ⟨t, xs, rfl, .inl ⟨SqL.of h5t, fun z hz => ?_⟩⟩
          have c5 := c4.fr f5
          have f6 : Fr b l H4 (upd H5 z (.tup xs)) := f5.trans (Fr.new f5.bag hz)
          have h6r : upd H5 z (.tup xs) r = some (.lst ws) := f6.k r _ (by simp [rb]) h4r
          have h6p : upd H5 z (.tup xs) p = some (.lst vs) := f6.k p _ (by simp [pb]) h4p
          have hz6 : Dm K (r :: p :: M) (upd H5 z (.tup xs)) (.ref z) (rowD row) := Dm.tupNew c5.kn hz (hxs.less fun a h => List.mem_cons_of_mem _ h)
          have km6 {o : HO} : Kp (r :: p :: M) (upd H5 z (.tup xs)) (upd (upd H5 z (.tup xs)) r o) := Kp.mut List.mem_cons_self
          have hwl := hws.len
          rw [List.length_map] at hwl
          refine ⟨r, ws, _, rfl, rfl, h6r, szl (by omega), ?_⟩
          refine ⟨_, _, rs ++ [row], rfl, (f4.trans f6).mut c3.bag hr3, upd_same, ?_, by rw [List.length_append, hrl] <;> rfl, ?_, by rw [upd_ne nrp]; exact h6p, ((hds4.f f6 c4.mem).k km6), ((hk4.f f6 c4.mem).k km6), ((hn4.f f6 c4.mem).k km6)⟩
          · rw [List.map_append]
            exact Dms.k ((hws.f f6 c4.mem).app (DpAll.one hz6)) km6
          · intro e he
            rcases List.mem_append.mp he with he | he
            · exact hro e he
            · rw [List.mem_singleton.mp he]
              exact ⟨hdl, hrok⟩
      · rintro σ H4 ⟨u10, ws, rs, rfl, f4, h4r, hws, hrl, hro, h4p, hds4, hk4, hn4⟩
        have c4 : Cb (r :: p :: M) b l H4 := (c3.fr f4).more ⟨_, h4r⟩
        refine ⟨_, rfl, .inl ⟨rfl, _, SqL.of h4p⟩, _, rfl, r, ws, rfl, .inl ⟨SqL.of h4r, fun z hz => ?_⟩⟩
        have f5 : Fr b l H' (upd H4 z (.tup ws)) := f4.trans (Fr.new f4.bag hz)
        have h5p : upd H4 z (.tup ws) p = some (.lst vs) := f5.k p _ (by simp [pb]) h3p
        have c4' := c3.fr f4
        have hz5 : Dm K (p :: M) (upd H4 z (.tup ws)) (.ref z) (tabD rs) := Dm.tupNew c4'.kn hz (hws.less fun a h => List.mem_cons_of_mem _ h)
        have km5 {o : HO} : Kp (p :: M) (upd H4 z (.tup ws)) (upd (upd H4 z (.tup ws)) p o) := Kp.mut List.mem_cons_self
        have hvl := hds.len
        rw [List.length_map] at hvl
        refine ⟨p, vs, _, rfl, rfl, h5p, szl (by omega), ?_⟩
        refine ⟨_, _, _, _, ts ++ [rs], rfl, (f3.trans f5).mut cb.bag hp0, upd_same, ?_, by rw [List.length_append, htl] <;> rfl, ?_, ((hk3.f f5 c3.mem).k km5), ((hn3.f f5 c3.mem).k km5)⟩
        · rw [List.map_append]
          exact Dms.k ((hds.f f5 c3.mem).app (DpAll.one hz5)) km5
        · intro e he
          rcases List.mem_append.mp he with he | he
          · exact hto e he
          · rw [List.mem_singleton.mp he]
            exact ⟨hrl, hro⟩
    · rintro σ H' ⟨u8, u9, u10, vs, ts, rfl, f3, h3p, hds, htl, hto, hk3, hn3⟩
      have c3 := cb.fr f3
      have hj : Dm K M H' (.ref p) (.list (ts.map tabD)) := Dm.lstOf (cb.kn.out hp0) h3p hds
      have hk3' : Dm K M H' (.ref z) (.tuple (ks.map kdD)) := hk3.less fun a h => List.mem_cons_of_mem _ h
      have hn3' : Dm K M H' yn (.list (ns.map PyData.str)) := hn3.less fun a h => List.mem_cons_of_mem _ h
      have el := evd_lenL (evd_var (i := 7) (σ := [some (.ref b), some (.int n), some v, some (.int m), some yn, some (.int st), some (.ref z), some (.ref p), u8, u9, u10, none, none]) rfl hj)
      rw [List.length_map, htl] at el
      have esl := evd_slL c3.kn (evd_var (i := 4) (σ := [some (.ref b), some (.int n), some v, some (.int m), some yn, some (.int st), some (.ref z), some (.ref p), u8, u9, u10, none, none]) rfl hn3') (evo_some (evd_int (K := K) (M := M) (i := 5))) (evo_some (evd_add (evd_int (i := 5)) el))
      have e5 : cutD (ns.map PyData.str) (some 5) (some ((5 : Int) + ((m2.toNat : Nat) : Int))) = ((ns.drop 5).take m2.toNat).map PyData.str := by
        have z5 : ((5 : Int) + ((m2.toNat : Nat) : Int)) = ((5 + m2.toNat : Nat) : Int) := by omega
        rw [z5]
        have := cutD_mid (ds := ns.map PyData.str) (a := 5) (c := m2.toNat) (by rw [List.length_map]; omega)
        rw [show (5 : Int) = ((5 : Nat) : Int) from rfl, this, List.map_take, List.map_drop]
      rw [e5] at esl
      have hsl : ((ns.drop 5).take m2.toNat).length = m2.toNat := by
        rw [List.length_take, List.length_drop]
        omega
      refine evd_ret (K := K) (M := M) (d := houD ⟨ks, (ns.drop 5).take m2.toNat, ts⟩) (evd_tup c3.kn (evds_cons (evd_var (i := 6) rfl hk3') (evds_cons (evd_tupleOf c3.kn esl) (evds_cons (evd_tupleOf c3.kn (evd_var (i := 7) rfl hj)) evds_nil))) lt3) fun y H1 s1 hy => k y _ H1 (f3.trans (Fr.sub f3.bag s1)) ?_ hy
      refine ⟨?_, ?_, ?_, ?_, ?_, hks, ?_⟩
      · show 0 < ks.length
        omega
      · show ks.length < 5
        omega
      · show 0 < ((ns.drop 5).take m2.toNat).length
        omega
      · show ((ns.drop 5).take m2.toNat).length < 4
        omega
      · show JudOk ks.length ((ns.drop 5).take m2.toNat).length ts
        rw [hsl, hl6]
        exact ⟨htl, hto⟩
      · exact fun x hx => hnN x (List.mem_of_mem_drop (List.mem_of_mem_take hx))
end
end KZ

namespace KZ
open PySem PySem.Spec PyProof.Rows L2
section
variable {K : PySem.W.Frag} {M : List Addr} {σ : L2.St} {H H' : Hp} {te : TE} {tr : TA} {b l : Addr}
/-- [e for i in range(m)], m drawn -/
theorem lcR_bagM {vs : List Nat} {j : Nat} (P : PyData → Prop) (Pm : Int → Prop) (cb : Cb M b l H) (h : ∀ R : List V → Hp → Prop, (∀ (m : Int) H2, Fr b l H H2 → 0 ≤ m → m < 100000 → Pm m → R [.int m] H2) → tr σ H R) (hw : ∀ x, wipe ((wipe σ vs).set j (some x)) vs = wipe σ vs)
    (he : ∀ (Dl : Addr), H Dl = none → ∀ (i : Nat) (H1 : Hp), Fr b l H H1 → Cb (Dl :: M) b l H1 → ∀ Q : VK, (∀ y d H2, Fr b l H1 H2 → P d → Dm K (Dl :: M) H2 y d → Q y H2) → te ((wipe σ vs).set j (some (.int (i : Int)))) H1 Q)
    (Q : VK) (q : ∀ p xs ds H' (m : Int), Pm m → Fr b l H H' → H p = none → H' p = some (.lst xs) → Dms K (p :: M) H' xs ds → ds.length = m.toNat → (∀ d ∈ ds, P d) → Q (.ref p) H') : tLc (iRng1 tr) (gName j) tYes te vs σ H Q :=
  h _ fun m H2 f2 h0 hz pm => by
    refine ⟨m, rfl, by omega, by omega, fun Dl hD => ?_⟩
    have h0D : H Dl = none := f2.free cb.bag hD
    have pb := ne_new cb.bag.at h0D
    refine lc_range (lo := 0) (n := m.toNat) (fun i H' => Fr b l H H' ∧ ∃ acc ds, H' Dl = some (.lst acc) ∧ Dms K (Dl :: M) H' acc ds ∧ ds.length = i ∧ ∀ d ∈ ds, P d)
      ⟨f2.mut cb.bag h0D, [], [], upd_same, .nil, rfl, by simp⟩ (fun i H' hi p => ?_) (fun H' p => ?_)
    · obtain ⟨fp, acc, ds, p1, p2, p3, p4⟩ := p
      have c3 : Cb (Dl :: M) b l H' := (cb.fr fp).more ⟨_, p1⟩
      rw [show (0 : Int) + (i : Nat) = (i : Int) by omega]
      refine ⟨hw _, ?_⟩
      unfold tYes
      dsimp only
      rw [if_pos rfl]
      refine he Dl h0D i H' fp c3 _ fun y d H3 f3 pd hy => ⟨acc, f3.k Dl _ (by simp [pb]) p1, ?_, ?_⟩
      · have q1 := p2.len
        exact szl (by omega)
      · have km : Kp (Dl :: M) H3 (upd H3 Dl (.lst (acc ++ [y]))) := Kp.mut List.mem_cons_self
        refine ⟨(fp.trans f3).mut cb.bag h0D, _, ds ++ [d], upd_same, Dms.k ((p2.f f3 c3.mem).app (DpAll.one hy)) km, by rw [List.length_append, p3] <;> rfl, ?_⟩
        intro e he
        rcases List.mem_append.mp he with he | he
        · exact p4 e he
        · rw [List.mem_singleton.mp he]
          exact pd
    · obtain ⟨fp, acc, ds, p1, p2, p3, p4⟩ := p
      exact q Dl acc ds H' m pm fp h0D p1 p2 p3 p4
/-- the kinds of a house: how many -/
theorem evd_kinds {h : Hou} (hh : EvD K M te σ H (houD h)) : EvD K M (tCB (rLenS K) (tCons (tOp (rIxT K) te (tC (.int 0))) tNil)) σ H (.int (h.ks.length : Int)) := by
  have := evd_lenT (evd_ixT (d := .tuple (h.ks.map kdD)) hh (evd_int (i := 0)) (by decide) rfl)
  rw [List.length_map] at this
  exact this
theorem evd_sorts {h : Hou} (hh : EvD K M te σ H (houD h)) : EvD K M (tCB (rLenS K) (tCons (tOp (rIxT K) te (tC (.int 1))) tNil)) σ H (.int (h.ss.length : Int)) := by
  have := evd_lenT (evd_ixT (d := .tuple (h.ss.map PyData.str)) hh (evd_int (i := 1)) (by decide) rfl)
  rw [List.length_map] at this
  exact this
theorem intD_at {c : List Nat} {i : Nat} (h : i < c.length) : (intD c)[i]? = some (.int ((c.getD i 0 : Nat) : Int)) := by
  unfold intD
  rw [List.getElem?_map, getD_of h 0]
  rfl
theorem intD_len (c : List Nat) : (intD c).length = c.length := List.length_map _
end
section
variable {P : Program} {w : World} {K : PySem.W.Frag} {mg : Str → Option Value} {base : Heap}
abbrev sCrew : Stmt := topS 34
theorem scCrew : FnScope ["bag", "house", "most", "person"] ["bag", "house", "most"] (defScope sCrew) := ⟨rfl, rfl, rfl, by decide +kernel, rfl, by decide +kernel, by decide +kernel⟩
theorem ok_crew {f fT : Addr} {fd fdT : FuncData} (F : Fun K "_law_crew" "_law_crew" sCrew f fd) (T : Txt mg) (CT : Cal P w K mg base "_law_take" 1 ["bag", "upto"] spTake fT fdT) : FnOk P w K mg base CX0 2 f fd ["bag", "house", "most"] (spCrew K) := by
  refine F.ok scCrew (fun vs H Q E h => ?_) (fun cdv A outer s H vs Q E hr h => ?_)
  · obtain ⟨M, b, l, n, v, h, rfl, _⟩ := h
    rfl
  · obtain ⟨M, b, l, n, v, h, rfl, cb, hv, x, n0, n8, k⟩ := h
    refine ⟨_, pss_one (ps_ret (pe_callTy call_tuple_of (by rfl) T.tuple bootTuple (pa_cons (pe_lc (own := [("person", 3)]) (g := gName 3) (tt := tYes) (te := tCall spTake [] E0 (tCons (tVar 0) (tCons (tCB (rLenS K) (tCons (tOp (rIxT K) (tVar 1) (tC (.int 0))) tNil)) tNil))) rfl scCrew.nd
      (pi_range1 rfl T.range (pa_cons (pe_op op_add pe_int (pcl CT hr (pa_cons (pv 0) (pa_cons (pv 2) pa_nil)))) pa_nil)) (blkOk_by (N := ["bag", "house", "most", "person"]) (sc := defScope sCrew) (by decide +kernel)) (fun _ _ _ _ _ => pg_name (i := 3) scCrew.nd rfl (Or.inl rfl)) (fun _ _ _ _ _ => pts_nil)
      (fun _ _ _ _ _ => pcl CT hr (pa_cons (pv 0) (pa_cons (pe_callB call_len_seq (by rfl) T.len PySem.boot_len (pa_cons (pe_ix ix_tup (pv 1) pe_int (fun _ _ => rfl)) pa_nil)) pa_nil)))) pa_nil))), ?_⟩
    have k0 := x.k0
    have k5 := x.k5
    refine ret_of (cb_args ?_)
    refine lcR_bagM (K := K) (M := M) (b := b) (l := l) (fun d => ∃ k : Nat, k < h.ks.length ∧ d = .int (k : Int)) (fun m => 0 < m ∧ m ≤ 8) cb (fun R hR => ?_) (by intro z; rfl) ?_ _ ?_
    · refine cons_of ⟨_, rfl, _, rfl, b, l, n, rfl, cb.bag, n0, by omega, fun i H1 f1 i0 i1 => ⟨_, _, rfl, rfl, nil_of (hR _ H1 f1 (by omega) (by omega) ⟨by omega, by omega⟩)⟩⟩
    · intro Dl hD i H1 f1 c1 Q1 q1
      have hv1 := Dm.f (Dm.more hv hD) f1 c1.mem
      refine ⟨_, rfl, cons_of ((evd_kinds (K := K) (M := Dl :: M) (evd_var (i := 1) rfl hv1)) H1 (Sub.refl _) _ fun y H2 s2 hy => nil_of ?_)⟩
      cases hy.intAt
      have f2 : Fr b l H1 H2 := Fr.sub c1.bag s2
      exact ⟨b, l, _, rfl, f2.bag, by omega, by omega, fun j H3 f3 j0 j1 => q1 _ _ H3 (f2.trans f3) ⟨j.toNat, by omega, by rw [show ((j.toNat : Nat) : Int) = j by omega]⟩ (.int _)⟩
    · intro p xs ds H1 m hm f1 hp h1p h1x hl hP
      obtain ⟨c, rfl, hc⟩ := nats_of hP
      rw [intD_len] at hl
      refine ⟨p, xs, rfl, .inl ⟨SqL.of h1p, fun z hz => ?_⟩⟩
      exact k _ c _ (f1.trans (Fr.new f1.bag hz)) (by omega) (by omega) hc (Dm.tupNew (cb.fr f1).kn hz (h1x.less fun a h => List.mem_cons_of_mem _ h))
end
end KZ

namespace KZ
open PySem PySem.Spec PyProof.Rows L2
/-! who can be put out by whom -/
def sideN (one other : Nat) : Nat := if one < other then 0 else 1
def wq (h : Hou) (c : List Nat) (one other s : Nat) : Bool := decide (wordAt h.j (s, c.getD one 0, c.getD other 0, sideN one other) = "yield")
def sortF (h : Hou) (c : List Nat) (one other : Nat) : Option Nat := (List.range h.ss.length).find? (wq h c one other)
def putB (h : Hou) (c : List Nat) (one other : Nat) : Bool := !decide (one = other) && (sortF h c one other).isSome
def optD : Option Nat → PyData
  | none => .none
  | some n => .int (n : Int)
structure CrewOk (h : Hou) (c : List Nat) : Prop where
  x : HQ h
  lt : ∀ k ∈ c, k < h.ks.length
  few : c.length ≤ 8
def crewArgs (h : Hou) (c : List Nat) (one other : Nat) : List PyData := [houD h, .tuple (intD c), .int (one : Int), .int (other : Int)]
def rSort (ds : List PyData) (d : PyData) : Prop := ∃ (h : Hou) (c : List Nat) (one other : Nat), ds = crewArgs h c one other ∧ CrewOk h c ∧ one < c.length ∧ other < c.length ∧ d = optD (sortF h c one other)
def rPuts (ds : List PyData) (d : PyData) : Prop := ∃ (h : Hou) (c : List Nat) (one other : Nat), ds = crewArgs h c one other ∧ CrewOk h c ∧ one < c.length ∧ other < c.length ∧ d = .bool (putB h c one other)
theorem find_at {n i : Nat} {p : Nat → Bool} (hi : i < n) (hp : p i = true) (no : ∀ s, s < i → p s = false) : (List.range n).find? p = some i := by
  rw [List.find?_range_eq_some]
  exact ⟨hp, List.mem_range.mpr hi, fun j hj => by rw [no j hj]; rfl⟩
theorem find_no {n : Nat} {p : Nat → Bool} (no : ∀ s, s < n → p s = false) : (List.range n).find? p = none := by
  rw [List.find?_eq_none]
  intro s hs
  rw [no s (List.mem_range.mp hs)]
  exact Bool.false_ne_true
theorem Dms.four_at {K : PySem.W.Frag} {M : List Addr} {H : Hp} {vs : List V} {d e f g : PyData} (h : Dms K M H vs [d, e, f, g]) : ∃ v w x y, vs = [v, w, x, y] ∧ Dm K M H v d ∧ Dm K M H w e ∧ Dm K M H x f ∧ Dm K M H y g := by
  cases h with
  | cons h1 h2 =>
    obtain ⟨w, x, y, rfl, h3, h4, h5⟩ := Dms.three_at h2
    exact ⟨_, _, _, _, rfl, h1, h3, h4, h5⟩
section
variable {P : Program} {w : World} {K : PySem.W.Frag} {mg : Str → Option Value} {base : Heap}
abbrev sSortOf : Stmt := topS 14
theorem scSortOf : FnScope ["house", "crew", "one", "other", "side", "sort"] ["house", "crew", "one", "other"] (defScope sSortOf) := ⟨rfl, rfl, rfl, by decide +kernel, rfl, by decide +kernel, by decide +kernel⟩
theorem ok_sortOf {f fW : Addr} {fd fdW : FuncData} (F : Fun K "_sort_of" "_sort_of" sSortOf f fd) (T : Txt mg) (CW : Cal P w K mg base "word_at" 1 ["house", "place"] (spPure K rWatP) fW fdW) : FnOk P w K mg base CX0 2 f fd ["house", "crew", "one", "other"] (spPure K rSort) := by
  refine F.ok scSortOf (fun vs H Q E h => pure_len (P := True) (fun ds d r => ?_) h) (fun cdv A outer s H vs Q E hr h => ?_)
  · obtain ⟨_, _, _, _, rfl, _⟩ := r
    rfl
  · obtain ⟨M, ds, d, kn, hd, ⟨h, c, one, other, rfl, x, h1, h2, rfl⟩, q⟩ := h
    obtain ⟨vh, vc, v1, v2, rfl, hh, hc, ho, hp⟩ := Dms.four_at hd
    cases ho.intAt
    cases hp.intAt
    refine ⟨_, pss_cons (ps_set (i := 4) scSortOf.nd rfl (Or.inl rfl) (pe_ifExp (pt_cmpR op_lt (pv 2) (pv 3) (nomark _)) pe_int pe_int))
      (pss_cons (ps_for PassesOwn.never rfl (pi_range1 rfl T.range (pa_cons (pe_callB call_len_seq (by rfl) T.len PySem.boot_len (pa_cons (pe_ix ix_tup (pv 0) pe_int (fun _ _ => rfl)) pa_nil)) pa_nil)) (pg_name (i := 5) scSortOf.nd rfl (Or.inl rfl))
        (pss_one (ps_if (pt_cmpR op_eq (pcl CW hr (pa_cons (pv 0) (pa_cons (pe_tup (pa_cons (pv 5) (pa_cons (pe_ix ix_tup (pv 1) (pv 2) (fun _ _ => rfl)) (pa_cons (pe_ix ix_tup (pv 1) (pv 3) (fun _ _ => rfl)) (pa_cons (pv 4) pa_nil))))) pa_nil))) pe_str (nomark _)) (pss_one (ps_ret (pv 5))) pss_nil)))
      (pss_one (ps_ret pe_non))), ?_⟩
    have s4 := x.x.s4
    have e2 {u : Option V} {u5 : Option V} : EvD K M (tVar 2) ([some vh, some vc, some (.int (one : Int)), some (.int (other : Int)), u, u5] : L2.St) H (.int (one : Int)) := evd_var rfl (.int _)
    have e3 {u : Option V} {u5 : Option V} : EvD K M (tVar 3) ([some vh, some vc, some (.int (one : Int)), some (.int (other : Int)), u, u5] : L2.St) H (.int (other : Int)) := evd_var rfl (.int _)
    refine evd_sset (K := K) (M := M) (d := .int ((sideN one other : Nat) : Int)) (evd_ifE (evb_test (evd_ltI e2 e3)) (fun e => ?_) (fun e => ?_)) fun v4 H1 s1 h4 => ?_
    · have : sideN one other = 0 := if_pos (by have := of_decide_eq_true e; omega)
      rw [this]
      exact evd_int
    · have : sideN one other = 1 := if_neg (by have := of_decide_eq_false e; omega)
      rw [this]
      exact evd_int
    · cases h4.intAt
      refine sfor (for_rngE (evd_sorts (K := K) (M := M) (h := h) (evd_var (i := 0) rfl (Dm.s hh s1))) (by omega) (fun i σ H' => ∃ u5 : Option V, σ = [some vh, some vc, some (.int (one : Int)), some (.int (other : Int)), some (.int ((sideN one other : Nat) : Int)), u5] ∧ Sub H H' ∧ ∀ s, s < i → wq h c one other s = false)
        (fun H2 s2 => ⟨none, rfl, s1.trans s2, fun s hs => absurd hs (Nat.not_lt_zero _)⟩) ?_ ?_)
      · rintro i σ H2 hi ⟨u5, rfl, s2, no⟩
        refine gname_of ?_
        have n2 := kn.sub s2
        have ev (j : Nat) (z : Nat) (g : ([some vh, some vc, some (.int (one : Int)), some (.int (other : Int)), some (.int ((sideN one other : Nat) : Int)), some (.int (i : Int))] : L2.St)[j]? = some (some (.int (z : Int)))) : EvD K M (tVar j) ([some vh, some vc, some (.int (one : Int)), some (.int (other : Int)), some (.int ((sideN one other : Nat) : Int)), some (.int (i : Int))] : L2.St) H2 (.int (z : Int)) := evd_var g (.int _)
        have ec : EvD K M (tVar 1) ([some vh, some vc, some (.int (one : Int)), some (.int (other : Int)), some (.int ((sideN one other : Nat) : Int)), some (.int (i : Int))] : L2.St) H2 (.tuple (intD c)) := evd_var rfl (Dm.s hc s2)
        have ep := evd_tup n2 (evds_cons (ev 5 i rfl) (evds_cons (evd_ixT ec (ev 2 one rfl) (Int.natCast_nonneg _) (by rw [Int.toNat_natCast]; exact intD_at h1)) (evds_cons (evd_ixT ec (ev 3 other rfl) (Int.natCast_nonneg _) (by rw [Int.toNat_natCast]; exact intD_at h2)) (evds_cons (ev 4 (sideN one other) rfl) evds_nil)))) lt4
        have hin : PlIn h.ks.length h.ss.length (i, c.getD one 0, c.getD other 0, sideN one other) := by
          refine ⟨hi, x.lt _ (List.mem_of_getElem? (getD_of h1 0)), x.lt _ (List.mem_of_getElem? (getD_of h2 0)), ?_⟩
          show sideN one other < 2
          unfold sideN
          split <;> omega
        have ew := evd_pure (rel := rWatP) (E := E0) n2 (evds_cons (evd_var (i := 0) rfl (Dm.s hh s2)) (evds_cons ep evds_nil)) ⟨_, _, h.j, _, _, (i, c.getD one 0, c.getD other 0, sideN one other), rfl, x.x.j, hin, rfl⟩
        refine evb_test (evd_eqS ew evd_str) H2 (Sub.refl _) _ fun H3 s3 => ?_
        refine ite2 (fun e => ?_) (fun e => ?_)
        · have ef : sortF h c one other = some i := find_at hi e no
          rw [ef] at q
          exact ret_of ⟨_, rfl, q _ H3 (s2.trans s3) (.int _)⟩
        · refine ⟨_, rfl, s2.trans s3, fun s hs => ?_⟩
          rcases Nat.lt_or_ge s i with l | l
          · exact no s l
          · rw [show s = i by omega]
            exact Bool.eq_false_iff.mpr e
      · rintro σ H2 ⟨u5, rfl, s2, no⟩
        have ef : sortF h c one other = none := find_no no
        rw [ef] at q
        dsimp only
        refine ret_of ?_
        exact q _ H2 s2 .non
abbrev sPuts : Stmt := topS 11
theorem scPuts : FnScope ["house", "crew", "one", "other"] ["house", "crew", "one", "other"] (defScope sPuts) := ⟨rfl, rfl, rfl, by decide +kernel, rfl, by decide +kernel, by decide +kernel⟩
theorem ok_puts {f fS : Addr} {fd fdS : FuncData} (F : Fun K "puts_out" "puts_out" sPuts f fd) (CS : Cal P w K mg base "_sort_of" 2 ["house", "crew", "one", "other"] (spPure K rSort) fS fdS) : FnOk P w K mg base CX0 3 f fd ["house", "crew", "one", "other"] (spPure K rPuts) := by
  refine F.ok scPuts (fun vs H Q E h => pure_len (P := True) (fun ds d r => ?_) h) (fun cdv A outer s H vs Q E hr h => ?_)
  · obtain ⟨_, _, _, _, rfl, _⟩ := r
    rfl
  · obtain ⟨M, ds, d, kn, hd, ⟨h, c, one, other, rfl, x, h1, h2, rfl⟩, q⟩ := h
    obtain ⟨vh, vc, v1, v2, rfl, hh, hc, ho, hp⟩ := Dms.four_at hd
    cases ho.intAt
    cases hp.intAt
    refine ⟨_, pss_cons (ps_if (pt_cmpR op_eq (pv 2) (pv 3) (nomark _)) (pss_one (ps_ret pe_bl)) pss_nil)
      (pss_one (ps_ret (pe_cmp (pc_notN (pcl CS hr (pa_cons (pv 0) (pa_cons (pv 1) (pa_cons (pv 2) (pa_cons (pv 3) pa_nil))))))))), ?_⟩
    have e2 : EvD K M (tVar 2) ([some vh, some vc, some (.int (one : Int)), some (.int (other : Int))] : L2.St) H (.int (one : Int)) := evd_var rfl (.int _)
    have e3 : EvD K M (tVar 3) ([some vh, some vc, some (.int (one : Int)), some (.int (other : Int))] : L2.St) H (.int (other : Int)) := evd_var rfl (.int _)
    refine evb_test (evd_eqI e2 e3) H (Sub.refl _) _ fun H1 s1 => ?_
    unfold putB at q
    refine ite2 (fun e => ?_) (fun e => ?_)
    · have : one = other := by have := of_decide_eq_true e; omega
      rw [decide_eq_true this] at q
      exact ret_of (q _ H1 s1 (.bl _))
    · have ne : ¬ one = other := fun z => e (decide_eq_true (by rw [z]))
      rw [decide_eq_false ne] at q
      unfold tNext
      dsimp only
      have es := evd_pure (K := K) (M := M) (rel := rSort) (E := E0) (kn.sub s1) (evds_cons (evd_var (i := 0) (σ := [some vh, some vc, some (.int (one : Int)), some (.int (other : Int))]) rfl (Dm.s hh s1)) (evds_cons (evd_var (i := 1) rfl (Dm.s hc s1)) (evds_cons (e2.sub s1) (evds_cons (e3.sub s1) evds_nil)))) ⟨h, c, one, other, rfl, x, h1, h2, rfl⟩
      refine evd_ret (K := K) (M := M) (evd_notN (b := (sortF h c one other).isSome) es ?_) fun y H2 s2 hy => q y H2 (s1.trans s2) hy
      cases sortF h c one other with
      | none => exact .inl ⟨rfl, rfl⟩
      | some n => exact .inr ⟨(fun z => nomatch z), rfl⟩
end
end KZ

namespace KZ
open PySem PySem.Spec PyProof.Rows L2
/-! a table of numbers, as a dict -/
inductive CamR (K : PySem.W.Frag) (M : List Addr) (H : Hp) : List (L2.Key × V) → KB.Came → Prop
  | nil : CamR K M H [] []
  | cons {x : Nat} {q : List Nat} {v : V} {r : List (L2.Key × V)} {c : KB.Came} : Dm K M H v (.tuple (intD q)) → CamR K M H r c → CamR K M H ((.inl (x : Int), v) :: r) ((x, q) :: c)
section
variable {K : PySem.W.Frag} {M M' : List Addr} {H H' : Hp} {kvs : List (L2.Key × V)} {c : KB.Came}
theorem CamR.map (h : CamR K M H kvs c) (f : ∀ v d, Dm K M H v d → Dm K M' H' v d) : CamR K M' H' kvs c := by
  induction h with
  | nil => exact .nil
  | cons a b ih => exact .cons (f _ _ a) ih
theorem CamR.k (h : CamR K M H kvs c) (k : Kp M H H') : CamR K M H' kvs c := h.map fun _ _ d => Dm.k d k
theorem CamR.s (h : CamR K M H kvs c) (k : Sub H H') : CamR K M H' kvs c := h.map fun _ _ d => Dm.s d k
theorem CamR.less (h : CamR K M' H kvs c) (m : ∀ a ∈ M, a ∈ M') : CamR K M H kvs c := h.map fun _ _ d => Dm.less d m
theorem CamR.more {p : Addr} (h : CamR K M H kvs c) (hp : H p = none) : CamR K (p :: M) H kvs c := h.map fun _ _ d => Dm.more d hp
theorem CamR.snoc {x : Nat} {q : List Nat} {v : V} (h : CamR K M H kvs c) (d : Dm K M H v (.tuple (intD q))) : CamR K M H (kvs ++ [(.inl (x : Int), v)]) (c ++ [(x, q)]) := by
  induction h with
  | nil => exact .cons d .nil
  | cons a b ih => exact .cons a ih
theorem CamR.len (h : CamR K M H kvs c) : kvs.length = c.length := by
  induction h with
  | nil => rfl
  | cons a b ih => rw [List.length_cons, List.length_cons, ih]
theorem has_nil {α : Type} (x : Nat) : KB.has ([] : List (Nat × α)) x = false := rfl
theorem has_cons {α : Type} (y : Nat) (q : α) (c : List (Nat × α)) (x : Nat) : KB.has ((y, q) :: c) x = (decide (y = x) || KB.has c x) := by
  unfold KB.has
  rw [List.any_cons]
theorem val_cons {α : Type} (y : Nat) (q : α) (c : List (Nat × α)) (x : Nat) : KB.val ((y, q) :: c) x = if y = x then some q else KB.val c x := by
  unfold KB.val
  rw [List.find?_cons]
  by_cases e : y = x
  · rw [if_pos e, decide_eq_true e]
    rfl
  · rw [if_neg e, decide_eq_false e]
theorem key_ne {x y : Nat} (e : ¬ y = x) : ¬ (Sum.inl (y : Int) : L2.Key) = Sum.inl (x : Int) := fun z => e (by
  have := Sum.inl.inj z
  omega)
theorem CamR.isSome (h : CamR K M H kvs c) (x : Nat) : (valV kvs (.inl (x : Int))).isSome = KB.has c x := by
  induction h with
  | nil => rfl
  | @cons y q v r c a b ih =>
    rw [has_cons]
    by_cases e : y = x
    · rw [decide_eq_true e, valV_pos (by rw [e])]
      rfl
    · rw [decide_eq_false e, valV_neg (key_ne e), ih]
      rfl
theorem CamR.get (h : CamR K M H kvs c) {x : Nat} (hx : KB.has c x = true) : ∃ v, valV kvs (.inl (x : Int)) = some v ∧ Dm K M H v (.tuple (intD (KB.pathOf c x))) := by
  induction h with
  | nil => cases hx
  | @cons y q v r c a b ih =>
    unfold KB.pathOf
    rw [val_cons]
    by_cases e : y = x
    · rw [if_pos e, valV_pos (by rw [e])]
      exact ⟨v, rfl, a⟩
    · rw [has_cons, decide_eq_false e, Bool.false_or] at hx
      rw [if_neg e, valV_neg (key_ne e)]
      exact ih hx
theorem CamR.new (h : CamR K M H kvs c) {x : Nat} (hx : KB.has c x = false) : valV kvs (.inl (x : Int)) = none := by
  rw [← h.isSome] at hx
  cases e : valV kvs (.inl (x : Int)) with
  | none => rfl
  | some v =>
    rw [e] at hx
    cases hx
end
theorem intV_at {l : List Nat} {i : Nat} {y : V} (h : (intV l)[i]? = some y) : ∃ x, l[i]? = some x ∧ y = .int (x : Int) := by
  unfold intV at h
  rw [List.getElem?_map] at h
  obtain ⟨x, e, rfl⟩ := Option.map_eq_some_iff.mp h
  exact ⟨x, e, rfl⟩
theorem lev_cons {E : Nat → Nat → Bool} {n person one : Nat} {r : List Nat} {st : KB.Came × List Nat} (e : E one person = true) : KB.lev E n person (one :: r) st = .inl (KB.pathOf st.1 one ++ [one]) := by
  show (if E one person = true then _ else _) = _
  rw [if_pos e]
theorem lev_skip {E : Nat → Nat → Bool} {n person one : Nat} {r : List Nat} {st : KB.Came × List Nat} (e : ¬ E one person = true) : KB.lev E n person (one :: r) st = KB.lev E n person r (KB.one1 E n st one) := by
  show (if E one person = true then _ else _) = _
  rw [if_neg e]
theorem bfs_inl {E : Nat → Nat → Bool} {n person m : Nat} {cm : KB.Came} {a : Nat} {r p : List Nat} (e : KB.lev E n person (a :: r) (cm, []) = .inl p) : KB.bfs E n person (m + 1) cm (a :: r) = some p := by
  show (match KB.lev E n person (a :: r) (cm, []) with
    | .inl p => some p
    | .inr st => KB.bfs E n person m st.1 st.2) = _
  rw [e]
theorem bfs_inr {E : Nat → Nat → Bool} {n person m : Nat} {cm : KB.Came} {a : Nat} {r : List Nat} {st : KB.Came × List Nat} (e : KB.lev E n person (a :: r) (cm, []) = .inr st) : KB.bfs E n person (m + 1) cm (a :: r) = KB.bfs E n person m st.1 st.2 := by
  show (match KB.lev E n person (a :: r) (cm, []) with
    | .inl p => some p
    | .inr st => KB.bfs E n person m st.1 st.2) = _
  rw [e]
theorem bfs_nil {E : Nat → Nat → Bool} {n person : Nat} {cm : KB.Came} : ∀ m, KB.bfs E n person m cm [] = none
  | 0 => rfl
  | _ + 1 => rfl
theorem cm_few {E : Nat → Nat → Bool} {n person : Nat} {cm : KB.Came} (h : KB.Cm E n person cm) : cm.length ≤ n := by
  have := KB.nd_len h.nd (n := n) fun y hy => by
    obtain ⟨⟨a, b⟩, hh, rfl⟩ := List.mem_map.mp hy
    exact h.lt _ _ hh
  rw [List.length_map] at this
  exact this
theorem path_few {E : Nat → Nat → Bool} {n person one : Nat} {cm : KB.Came} (h : KB.Cm E n person cm) (x : KB.has cm one = true) : (KB.pathOf cm one).length ≤ n := by
  obtain ⟨q, hq⟩ := KB.has_iff.mp x
  have e : KB.pathOf cm one = q := by
    unfold KB.pathOf
    rw [KB.val_mem h.nd hq]
    rfl
  rw [e]
  have nd := h.qn _ _ hq
  rw [List.nodup_append] at nd
  refine KB.nd_len nd.1 fun y hy => ?_
  obtain ⟨q', h'⟩ := KB.has_iff.mp (h.qc _ _ hq y hy)
  exact h.lt _ _ h'
theorem intD_snoc (l : List Nat) (x : Nat) : intD l ++ [PyData.int (x : Int)] = intD (l ++ [x]) := by
  unfold intD
  rw [List.map_append]
  rfl
theorem intV_snoc (l : List Nat) (x : Nat) : intV l ++ [V.int (x : Int)] = intV (l ++ [x]) := by
  unfold intV
  rw [List.map_append]
  rfl
theorem intV_len (l : List Nat) : (intV l).length = l.length := List.length_map _
section
variable {K : PySem.W.Frag} {M : List Addr} {σ : L2.St} {H : Hp}
theorem evd_dgetK {i j : Nat} {dc : Addr} {kvs : List (L2.Key × V)} {x : Nat} {v : V} {d : PyData} (hd : σ[i]? = some (some (.ref dc))) (e : H dc = some (.dK kvs)) (hk : σ[j]? = some (some (.int (x : Int)))) (hv : valV kvs (.inl (x : Int)) = some v) (dv : Dm K M H v d) :
    EvD K M (tDGet (tVar i) (tVar j)) σ H d := fun H1 s Q q => ⟨_, hd, _, hk, dc, v, rfl, by rw [← hv]; exact DGet.k (k := .inl (x : Int)) (s _ _ e), q v H1 (Sub.refl _) (Dm.s dv s)⟩
theorem evb_notinD {i j : Nat} {dc : Addr} {kvs : List (L2.Key × V)} {c : KB.Came} {x : Nat} (hd : σ[i]? = some (some (.ref dc))) (e : H dc = some (.dK kvs)) (hk : σ[j]? = some (some (.int (x : Int)))) (hc : CamR K M H kvs c) :
    EvB (tB (tDNotIn (tVar j) (tVar i))) σ H (!KB.has c x) := fun H1 s Q q => ⟨_, hk, _, hd, dc, valV kvs (.inl (x : Int)), rfl, DGet.k (k := .inl (x : Int)) (s _ _ e), _, rfl, by rw [hc.isSome]; exact q H1 (Sub.refl _)⟩
end
def rRoundF (ds : List PyData) (d : PyData) : Prop := ∃ (h : Hou) (c : List Nat) (p : Nat), ds = [houD h, .tuple (intD c), .int (p : Int)] ∧ CrewOk h c ∧ p < c.length ∧ d = match KB.roundF (putB h c) c.length p with
  | none => .none
  | some q => .tuple (intD q)
section
variable {P : Program} {w : World} {K : PySem.W.Frag} {mg : Str → Option Value} {base : Heap}
abbrev sRoundF : Stmt := topS 15
theorem scRoundF : FnScope ["house", "crew", "person", "came", "front", "fresh", "one", "other"] ["house", "crew", "person"] (defScope sRoundF) := ⟨rfl, rfl, rfl, by decide +kernel, rfl, by decide +kernel, by decide +kernel⟩
theorem ok_roundF {f fP : Addr} {fd fdP : FuncData} (F : Fun K "_round_from" "_round_from" sRoundF f fd) (T : Txt mg) (CP : Cal P w K mg base "puts_out" 3 ["house", "crew", "one", "other"] (spPure K rPuts) fP fdP) : FnOk P w K mg base CX0 4 f fd ["house", "crew", "person"] (spPure K rRoundF) := by
  refine F.ok scRoundF (fun vs H Q E h => pure_len (P := True) (fun ds d r => ?_) h) (fun cdv A outer s H vs Q E hr h => ?_)
  · obtain ⟨_, _, _, rfl, _⟩ := r
    rfl
  · obtain ⟨M, ds, d, kn, hd, ⟨h, c, person, rfl, x, hpn, rfl⟩, q⟩ := h
    obtain ⟨vh, vc, v2, rfl, hh, hc, hp⟩ := Dms.three_at hd
    cases hp.intAt
    have hu : (A.deeper (envOfC "_round_from" (defScope sRoundF) s.heap.objs.size f cdv)).units + 1 < cLine := Nat.lt_of_le_of_lt (Nat.add_le_add_left (by decide) _) hr.units
    refine ⟨_, pss_cons (ps_set (i := 3) scRoundF.nd rfl (Or.inl rfl) (pe_disp (pps_cons (pv 2) (pe_tup pa_nil) pps_nil) rfl rfl (by simp) (by decide)))
      (pss_cons (ps_set (i := 4) scRoundF.nd rfl (Or.inl rfl) (pe_lst (pa_cons (pv 2) pa_nil)))
      (pss_cons (ps_while PassesOwn.never (pt_truth (pv 4) (fun _ => rfl))
        (pss_cons (ps_set (i := 5) scRoundF.nd rfl (Or.inl rfl) (pe_lst pa_nil))
        (pss_cons (ps_for PassesOwn.never rfl (pi_list (pv 4)) (pg_name (i := 6) scRoundF.nd rfl (Or.inl rfl))
          (pss_cons (ps_if (pt_val (pcl CP hr (pa_cons (pv 0) (pa_cons (pv 1) (pa_cons (pv 6) (pa_cons (pv 2) pa_nil)))))) (pss_one (ps_ret (pe_op op_catA (pe_dget hu (pv 3) (pv 6) (fun _ _ => rfl)) (pe_tup (pa_cons (pv 6) pa_nil))))) pss_nil)
          (pss_one (ps_for PassesOwn.never rfl (pi_range1 rfl T.range (pa_cons (pe_callB call_len_seq (by rfl) T.len PySem.boot_len (pa_cons (pv 1) pa_nil)) pa_nil)) (pg_name (i := 7) scRoundF.nd rfl (Or.inl rfl))
            (pss_one (ps_if (PW.pt (pw_and (pt_cmp (pc_dnotin hu (pv 7) (pv 3))) (pw_and1 (pt_val (pcl CP hr (pa_cons (pv 0) (pa_cons (pv 1) (pa_cons (pv 6) (pa_cons (pv 7) pa_nil)))))))))
              (pss_cons (ps_dput hu (pv 3) (pv 7) (pe_op op_catA (pe_dget hu (pv 3) (pv 6) (fun _ _ => rfl)) (pe_tup (pa_cons (pv 6) pa_nil))) rfl)
              (pss_one (ps_expr (pe_bm PySem.F.plainAttrs_list PySem.F.slot_list_append PySem.F.type_list_append mt_append (pv 5) (pa_cons (pv 7) pa_nil))))) pss_nil))))))
        (pss_one (ps_set (i := 4) scRoundF.nd rfl (Or.inl rfl) (pv 5))))))
      (pss_one (ps_ret pe_non)))), ?_⟩
    have n8 := x.few
    have km {A B : List Addr} {a : Addr} {Hx : Hp} {o : HO} (m : a ∈ A) : Kp A Hx (upd Hx a o) := Kp.mut m
    refine sset_of fun dc hdc => ⟨_, rfl, Nat.zero_le _, fun t ht => ⟨by rw [upd_ne (ne_of_none upd_same ht)]; exact upd_same, [(.inl (person : Int), .ref t)], rfl, by show 1 ≤ 15; decide, ?_⟩⟩
    have kn1 : Kn (dc :: M) (upd H dc (.dK [])) := kn.new.more ⟨_, upd_same⟩
    have hcam1 : CamR K (dc :: M) (upd (upd (upd H dc (.dK [])) t (.tup [])) dc (.dK (mergeK [] [(.inl (person : Int), .ref t)]))) [(.inl (person : Int), .ref t)] [(person, [])] := .cons ((Dm.tupNew kn1 ht .nil).k (Kp.mut List.mem_cons_self)) .nil
    have s1 : Sub H (upd (upd (upd H dc (.dK [])) t (.tup [])) dc (.dK (mergeK [] [(.inl (person : Int), .ref t)]))) := ((Sub.new hdc).trans (Sub.new ht)).mut hdc
    have hk1 : upd (upd (upd H dc (.dK [])) t (.tup [])) dc (.dK (mergeK [] [(.inl (person : Int), .ref t)])) dc = some (.dK [(.inl (person : Int), .ref t)]) := upd_same
    generalize upd (upd (upd H dc (.dK [])) t (.tup [])) dc (.dK (mergeK [] [(.inl (person : Int), .ref t)])) = H1 at hcam1 s1 hk1 ⊢
    refine sset_of (lst_of (cons_of ⟨_, rfl, nil_of ⟨by show 1 ≤ sizeLine; decide, fun fa hfa => ?_⟩⟩))
    have nfd : fa ≠ dc := fun z => by
      rw [z, hk1] at hfa
      cases hfa
    dsimp only
    refine while_evm (fun m σ H' => ∃ (cm : KB.Came) (front : List Nat) (kvs : List (L2.Key × V)) (fa : Addr) (u5 u6 u7 : Option V) (d : Nat), σ = [some vh, some vc, some (.int (person : Int)), some (.ref dc), some (.ref fa), u5, u6, u7] ∧ Sub H H' ∧ H' dc = some (.dK kvs) ∧ CamR K (dc :: M) H' kvs cm ∧
        H fa = none ∧ fa ≠ dc ∧ H' fa = some (.lst (intV front)) ∧ KB.Lv (putB h c) c.length person d cm front ∧ (front ≠ [] → c.length + 2 ≤ cm.length + m) ∧ KB.bfs (putB h c) c.length person m cm front = KB.roundF (putB h c) c.length person)
      ⟨c.length + 1, [(person, [])], [person], _, fa, none, none, none, 0, rfl, s1.trans (Sub.new hfa), by rw [upd_ne nfd.symm]; exact hk1, hcam1.s (Sub.new hfa), s1.free hfa, nfd, upd_same, KB.lv_start hpn, fun _ => by simp; omega, rfl⟩ ?_
    clear hcam1 s1 hk1 hfa nfd
    clear fa H1
    rintro m σ H1 ⟨cm, front, kvs, fa, u5, u6, u7, d, rfl, s1, hk1, hcam, hfa0, nfa, hfa1, lv, ad, eb⟩
    have hfaD : Dm K M H1 (.ref fa) (.list (intD front)) := .lst (SqL.of (by rw [er_in (kn.out hfa0)]; exact hfa1)) int_dms
    refine ⟨_, evb_truL (evd_var (i := 4) rfl hfaD), fun H2 s2 => ?_⟩
    have s12 := s1.trans s2
    cases front with
    | nil =>
      rw [if_neg (by decide)]
      rw [bfs_nil] at eb
      rw [← eb] at q
      dsimp only
      refine ret_of ?_
      exact q _ H2 s12 .non
    | cons a r =>
      rw [if_pos (by rfl)]
      have adm := ad (by simp)
      have fewc := cm_few lv.cm
      obtain ⟨m, rfl⟩ : ∃ m', m = m' + 1 := ⟨m - 1, by omega⟩
      refine sset_of (lst_of (nil_of ⟨Nat.zero_le _, fun ga hga => ?_⟩))
      have hga0 : H ga = none := s12.free hga
      have h2fa := s2 _ _ hfa1
      have h2dc := s2 _ _ hk1
      have ngf : ga ≠ fa := fun z => by
        rw [z, h2fa] at hga
        cases hga
      have ngd : ga ≠ dc := fun z => by
        rw [z, h2dc] at hga
        cases hga
      have hdc0 : H dc = none := hdc
      refine sfor ⟨_, rfl, fa, rfl, ⟨intV (a :: r), SqL.of (by rw [upd_ne ngf.symm]; exact h2fa)⟩, for_list (K := K) (a := fa) (xs := intV (a :: r)) (fun i σ H' => ∃ (st : KB.Came × List Nat) (kvs : List (L2.Key × V)) (u6 u7 : Option V), σ = [some vh, some vc, some (.int (person : Int)), some (.ref dc), some (.ref fa), some (.ref ga), u6, u7] ∧ Sub H H' ∧ H' dc = some (.dK kvs) ∧
          CamR K (ga :: dc :: M) H' kvs st.1 ∧ H' ga = some (.lst (intV st.2)) ∧ H' fa = some (.lst (intV (a :: r))) ∧ KB.Md (putB h c) c.length person d cm st ∧ KB.lev (putB h c) c.length person ((a :: r).drop i) st = KB.lev (putB h c) c.length person (a :: r) (cm, []))
        ⟨(cm, []), kvs, u6, u7, rfl, s12.trans (Sub.new hga), by rw [upd_ne ngd.symm]; exact h2dc, ((hcam.s s2).more hga).k (Kp.mut List.mem_cons_self), upd_same, by rw [upd_ne ngf.symm]; exact h2fa, lv.md, rfl⟩
        (fun i σ H' _ ⟨_, _, _, _, _, _, _, _, _, z, _⟩ => SqL.of z) ?_ ?_⟩
      · rintro i y σ H3 hi ⟨st, kvs, u6, u7, rfl, s3, h3dc, hcam3, h3ga, h3fa, md, el⟩
        obtain ⟨one, hone, rfl⟩ := intV_at hi
        obtain ⟨qq, hqq, hql⟩ := (lv.fr one).mp (List.mem_of_getElem? hone)
        have onen : one < c.length := lv.cm.lt _ _ hqq
        have hasone : KB.has st.1 one = true := by
          obtain ⟨_, new, e1, _⟩ := md
          rw [e1]
          exact KB.has_ext (KB.has_iff.mpr ⟨_, hqq⟩)
        have edrop : (a :: r).drop i = one :: (a :: r).drop (i + 1) := by
          have hil := (List.getElem?_eq_some_iff.mp hone).1
          rw [List.drop_eq_getElem_cons hil]
          have := (List.getElem?_eq_some_iff.mp hone).2
          rw [this]
        rw [edrop] at el
        refine gname_of ?_
        have args (j : Nat) (other : Nat) (u7 : Option V) (Hx : Hp) (sx : Sub H Hx) (g : ([some vh, some vc, some (.int (person : Int)), some (.ref dc), some (.ref fa), some (.ref ga), some (.int (one : Int)), u7] : L2.St)[j]? = some (some (.int (other : Int)))) (hon : other < c.length) :
            EvB (tB (tCall (spPure K rPuts) [] E0 (tCons (tVar 0) (tCons (tVar 1) (tCons (tVar 6) (tCons (tVar j) tNil)))))) ([some vh, some vc, some (.int (person : Int)), some (.ref dc), some (.ref fa), some (.ref ga), some (.int (one : Int)), u7] : L2.St) Hx (putB h c one other) :=
          evb_val (evd_pure (K := K) (M := M) (rel := rPuts) (kn.sub sx) (evds_cons (evd_var (i := 0) rfl (Dm.s hh sx)) (evds_cons (evd_var (i := 1) rfl (Dm.s hc sx)) (evds_cons (evd_var (i := 6) rfl (.int _)) (evds_cons (evd_var g (.int _)) evds_nil)))) ⟨h, c, one, other, rfl, x, onen, hon, rfl⟩)
        have catE (st' : KB.Came × List Nat) (kvs' : List (L2.Key × V)) (u7 : Option V) (Hx : Hp) (sx : Sub H Hx) (hd : Hx dc = some (.dK kvs')) (hcm : CamR K (ga :: dc :: M) Hx kvs' st'.1) (hg : ∃ o, Hx ga = some o) (ho : KB.has st'.1 one = true) (hcmm : KB.Cm (putB h c) c.length person st'.1) :
            EvD K (ga :: dc :: M) (tOp (rCatA K) (tDGet (tVar 3) (tVar 6)) (tTup (tCons (tVar 6) tNil))) ([some vh, some vc, some (.int (person : Int)), some (.ref dc), some (.ref fa), some (.ref ga), some (.int (one : Int)), u7] : L2.St) Hx (.tuple (intD (KB.pathOf st'.1 one ++ [one]))) := by
          obtain ⟨v, hv, dv⟩ := hcm.get ho
          have nx : Kn (ga :: dc :: M) Hx := ((kn.sub sx).more ⟨_, hd⟩).more hg
          rw [← intD_snoc]
          refine evd_catT nx (evd_dgetK rfl hd rfl hv dv) (evd_tup nx (evds_cons (evd_var (i := 6) rfl (.int _)) evds_nil) lt1) ?_
          rw [intD_len]
          have := path_few hcmm ho
          show _ + 1 < 1000000
          omega
        refine (args 2 person u7 H3 s3 rfl hpn) H3 (Sub.refl _) _ fun H4 s4 => ?_
        have s34 := s3.trans s4
        by_cases eE : putB h c one person = true
        · rw [if_pos eE]
          rw [lev_cons eE] at el
          rw [bfs_inl el.symm] at eb
          rw [← eb] at q
          refine ret_of ((catE st kvs u7 H4 s34 (s4 _ _ h3dc) (hcam3.s s4) ⟨_, s4 _ _ h3ga⟩ hasone md.cm) H4 (Sub.refl _) _ fun v5 H5 s5 hv5 => ?_)
          exact q v5 H5 (s34.trans s5) (Dm.less hv5 fun z hz => List.mem_cons_of_mem _ (List.mem_cons_of_mem _ hz))
        · rw [if_neg eE]
          rw [lev_skip eE] at el
          unfold tNext
          dsimp only
          have elen := evd_lenT (K := K) (M := M) (evd_var (i := 1) (σ := [some vh, some vc, some (.int (person : Int)), some (.ref dc), some (.ref fa), some (.ref ga), some (.int (one : Int)), u7]) rfl (Dm.s hc s34))
          rw [intD_len] at elen
          refine for_rngE elen (by omega) (fun j σ H' => ∃ (st' : KB.Came × List Nat) (kvs : List (L2.Key × V)) (u7 : Option V), σ = [some vh, some vc, some (.int (person : Int)), some (.ref dc), some (.ref fa), some (.ref ga), some (.int (one : Int)), u7] ∧ Sub H H' ∧ H' dc = some (.dK kvs) ∧
              CamR K (ga :: dc :: M) H' kvs st'.1 ∧ H' ga = some (.lst (intV st'.2)) ∧ H' fa = some (.lst (intV (a :: r))) ∧ KB.Md (putB h c) c.length person d cm st' ∧ st' = (List.range j).foldl (KB.other1 (putB h c) one) st ∧ KB.has st'.1 one = true)
            (fun H5 s5 => ⟨st, kvs, u7, rfl, s34.trans s5, s5 _ _ (s4 _ _ h3dc), hcam3.s (s4.trans s5), s5 _ _ (s4 _ _ h3ga), s5 _ _ (s4 _ _ h3fa), md, rfl, hasone⟩) ?_ ?_
          · rintro j σ H5 hj ⟨st', kvs', u7', rfl, s5, h5dc, hcam5, h5ga, h5fa, md5, est, hasone5⟩
            refine gname_of ?_
            refine evb_and (evb_notinD (i := 3) (j := 7) rfl h5dc rfl hcam5) (fun _ => args 7 j (some (.int (j : Int))) H5 s5 rfl hj) H5 (Sub.refl _) _ fun H6 s6 => ?_
            have s56 := s5.trans s6
            obtain ⟨md6, k6, _⟩ := KB.other1_ok md5 hqq hql hj
            have est6 : KB.other1 (putB h c) one st' j = (List.range (j + 1)).foldl (KB.other1 (putB h c) one) st := by
              rw [List.range_succ, List.foldl_append, ← est]
              rfl
            by_cases eT : (!KB.has st'.1 j && putB h c one j) = true
            · rw [if_pos eT]
              have enew : KB.other1 (putB h c) one st' j = (st'.1 ++ [(j, KB.pathOf st'.1 one ++ [one])], st'.2 ++ [j]) := if_pos eT
              have hasj : KB.has st'.1 j = false := by
                rw [Bool.and_eq_true, Bool.not_eq_true'] at eT
                exact eT.1
              refine (catE st' kvs' (some (.int (j : Int))) H6 s56 (s6 _ _ h5dc) (hcam5.s s6) ⟨_, s6 _ _ h5ga⟩ hasone5 md5.cm) H6 (Sub.refl _) _ fun v7 H7 s7 hv7 => ?_
              have s67 := s6.trans s7
              have hcam7 := hcam5.s s67
              have few7 := cm_few md5.cm
              have lenk := hcam7.len
              refine ⟨_, rfl, _, rfl, dc, _, rfl, DPut.k (k := .inl (j : Int)) (s67 _ _ h5dc) (szl (by omega)), ?_⟩
              rw [putK_new _ (hcam7.new hasj)]
              have h8ga : upd H7 dc (.dK (kvs' ++ [(.inl (j : Int), v7)])) ga = some (.lst (intV st'.2)) := by
                rw [upd_ne ngd]
                exact s67 _ _ h5ga
              refine ⟨_, rfl, .inl ⟨rfl, _, SqL.of h8ga⟩, _, rfl, ga, _, _, rfl, rfl, h8ga, szl (by
                obtain ⟨_, new, e1, e2, _⟩ := md5
                have := congrArg List.length e1
                rw [List.length_append] at this
                rw [intV_len, ← e2, List.length_map]
                omega), ?_⟩
              refine ⟨KB.other1 (putB h c) one st' j, _, _, rfl, ((s5.trans s67).mut hdc0).mut hga0, by rw [upd_ne ngd.symm]; exact upd_same, ?_, ?_, ?_, md6, est6, k6 _ hasone5⟩
              · rw [enew]
                exact ((hcam7.snoc hv7).k (Kp.mut (List.mem_cons_of_mem _ List.mem_cons_self))).k (Kp.mut List.mem_cons_self)
              · rw [enew, upd_same, intV_snoc]
              · rw [upd_ne ngf.symm, upd_ne nfa]
                exact s67 _ _ h5fa
            · rw [if_neg eT]
              have esame : KB.other1 (putB h c) one st' j = st' := if_neg eT
              rw [esame] at est6
              exact ⟨st', kvs', _, rfl, s56, s6 _ _ h5dc, hcam5.s s6, s6 _ _ h5ga, s6 _ _ h5fa, md5, est6, hasone5⟩
          · rintro σ H5 ⟨st', kvs', u7', rfl, s5, h5dc, hcam5, h5ga, h5fa, md5, est, hasone5⟩
            refine ⟨st', kvs', _, _, rfl, s5, h5dc, hcam5, h5ga, h5fa, md5, ?_⟩
            rw [← el, est]
            rfl
      · rintro σ H3 ⟨st, kvs, u6, u7, rfl, s3, h3dc, hcam3, h3ga, h3fa, md, el⟩
        rw [intV_len, List.drop_length] at el
        have el' : KB.lev (putB h c) c.length person (a :: r) (cm, []) = .inr st := el.symm
        refine ⟨_, rfl, m, Nat.lt_succ_self m, ?_⟩
        rw [bfs_inr el'] at eb
        have hfr : ∀ y ∈ a :: r, ∃ q, (y, q) ∈ cm ∧ q.length = d := fun y hy => (lv.fr y).mp hy
        rcases KB.lev_ok (E := putB h c) (n := c.length) (person := person) (a :: r) (cm, []) hfr lv.md with ⟨_, _, _, _, _, _, g⟩ | ⟨st', a1, b1, k1, f1, g1⟩
        · rw [el'] at g
          cases g
        · rw [el'] at a1
          cases a1
          refine ⟨st.1, st.2, kvs, ga, _, _, _, d + 1, rfl, s3, h3dc, hcam3.less fun z hz => List.mem_cons_of_mem _ hz, hga0, ngd, h3ga, lv.next b1 k1 f1 g1, fun ne => ?_, eb⟩
          obtain ⟨_, new, e1, e2, _⟩ := md
          rw [e1, List.length_append]
          have : 0 < new.length := by
            cases new with
            | nil => exact absurd e2.symm ne
            | cons _ _ => simp
          omega
end
end KZ

namespace KZ
open PySem PySem.Spec PyProof.Rows L2
open PySem.W (AlikeAll minD alike alikeAll dataLt dataLt_tuple dataLt_all_no dataLt_int)
/-! the least of rows -/
def pairD (q : List Nat) : PyData := .tuple [.int ((q.length : Nat) : Int), .tuple (intD q)]
def sndD : PyData → PyData
  | .tuple [_, d] => d
  | _ => .none
theorem alike_ints : ∀ p q : List Nat, alikeAll (intD p) (intD q) = true
  | [], _ => by
    show alikeAll [] _ = true
    simp only [alikeAll]
  | a :: p, [] => by
    show alikeAll (_ :: _) [] = true
    simp only [alikeAll]
  | a :: p, b :: q => by
    have ih := alike_ints p q
    show alikeAll (PyData.int _ :: intD p) (PyData.int _ :: intD q) = true
    rw [alikeAll, ih]
    simp only [alike, Bool.and_true]
theorem alike_pair (p q : List Nat) : alike (pairD p) (pairD q) = true := by
  unfold pairD
  rw [alike, alikeAll, alikeAll, alike, alike, alike_ints]
  simp only [alikeAll, Bool.and_true, Bool.and_self]
theorem alikeAll_pairs (qs : List (List Nat)) : AlikeAll (qs.map pairD) := by
  refine ⟨fun x hx y hy => ?_, fun x hx => ?_⟩
  · obtain ⟨p, _, rfl⟩ := List.mem_map.mp hx
    obtain ⟨q, _, rfl⟩ := List.mem_map.mp hy
    exact alike_pair p q
  · obtain ⟨p, _, rfl⟩ := List.mem_map.mp hx
    intro z
    cases z
theorem lt_pair (p q : List Nat) (h : p.length ≠ q.length) : dataLt (pairD p) (pairD q) = decide (p.length < q.length) := by
  unfold pairD
  rw [dataLt_tuple, dataLt_all_no (by simp only [alike]) (by
    simp only [PyData.eqv]
    rw [beq_eq_false_iff_ne]
    omega), dataLt_int]
  by_cases e : p.length < q.length
  · rw [decide_eq_true e, decide_eq_true (by omega)]
  · rw [decide_eq_false e, decide_eq_false (by omega)]
theorem min_pair : ∀ (qs : List (List Nat)) (q : List Nat), ∃ m, m ∈ q :: qs ∧ minD (pairD q) (qs.map pairD) = pairD m ∧ ∀ y ∈ q :: qs, m.length ≤ y.length
  | [], q => ⟨q, List.mem_singleton.mpr rfl, rfl, fun y hy => by rw [List.mem_singleton.mp hy]; exact Nat.le_refl _⟩
  | y :: qs, q => by
    have step : minD (pairD q) ((y :: qs).map pairD) = minD (if dataLt (pairD y) (pairD q) then pairD y else pairD q) (qs.map pairD) := by
      unfold minD
      rw [List.map_cons, List.foldl_cons]
    rw [step]
    by_cases e : dataLt (pairD y) (pairD q) = true
    · rw [if_pos e]
      obtain ⟨m, h1, h2, h3⟩ := min_pair qs y
      have le : y.length ≤ q.length := by
        by_cases z : y.length = q.length
        · omega
        · rw [lt_pair y q z] at e
          have := of_decide_eq_true e
          omega
      refine ⟨m, List.mem_cons_of_mem _ h1, h2, fun z hz => ?_⟩
      rcases List.mem_cons.mp hz with w | w
      · rw [w]
        have := h3 y List.mem_cons_self
        omega
      · exact h3 z w
    · rw [if_neg e]
      obtain ⟨m, h1, h2, h3⟩ := min_pair qs q
      have le : q.length ≤ y.length := by
        by_cases z : y.length = q.length
        · omega
        · rw [lt_pair y q z] at e
          have : ¬ y.length < q.length := fun z => e (decide_eq_true z)
          omega
      refine ⟨m, ?_, h2, fun z hz => ?_⟩
      · rcases List.mem_cons.mp h1 with w | w
        · rw [w]
          exact List.mem_cons_self
        · exact List.mem_cons_of_mem _ (List.mem_cons_of_mem _ w)
      · rcases List.mem_cons.mp hz with w | w
        · rw [w]
          exact h3 q List.mem_cons_self
        · rcases List.mem_cons.mp w with w | w
          · rw [w]
            have := h3 q List.mem_cons_self
            omega
          · exact h3 z (List.mem_cons_of_mem _ w)
/-! all rounds, and the least -/
def unNat : PyData → Nat
  | .int i => i.toNat
  | _ => 0
def roundD : Option (List Nat) → PyData
  | none => .none
  | some q => .tuple (intD q)
def somes (E : Nat → Nat → Bool) (n : Nat) : List (List Nat) := (List.range n).filterMap (KB.roundF E n)
def crewR (E : Nat → Nat → Bool) (n : Nat) : Option (List Nat) := match somes E n with
  | [] => none
  | q :: qs => match sndD (minD (pairD q) (qs.map pairD)) with
    | .tuple ds => some (ds.map unNat)
    | _ => none
def isSomeD : PyData → Bool
  | .none => false
  | _ => true
def withLen (d : PyData) : PyData := .tuple [.int (match d with
  | .tuple l => (l.length : Int)
  | _ => 0), d]
theorem found_is (φ : Nat → Option (List Nat)) : ∀ l : List Nat, ((l.map fun i => roundD (φ i)).filter isSomeD).map withLen = (l.filterMap φ).map pairD
  | [] => rfl
  | a :: l => by
    have ih := found_is φ l
    cases e : φ a with
    | none =>
      rw [List.map_cons, e, List.filterMap_cons_none e, List.filter_cons, if_neg (show ¬ isSomeD (roundD none) = true by decide)]
      exact ih
    | some q =>
      rw [List.map_cons, e, List.filterMap_cons_some e, List.filter_cons, if_pos (show isSomeD (roundD (some q)) = true from rfl), List.map_cons, List.map_cons, ih]
      have : withLen (roundD (some q)) = pairD q := by
        show PyData.tuple [.int (((intD q).length : Nat) : Int), .tuple (intD q)] = _
        rw [intD_len]
        rfl
      rw [this]
def LeastAll (E : Nat → Nat → Bool) (n : Nat) (p : List Nat) : Prop := (∃ person, person < n ∧ KB.Least E n person p) ∧ ∀ a k, a < n → KB.Cl E n a k → p.length ≤ k + 1
theorem unI_of (q : List Nat) : (intD q).map unNat = q := by
  unfold intD
  rw [List.map_map]
  have : (unNat ∘ fun k : Nat => PyData.int (k : Int)) = id := funext fun k => by
    show ((k : Int)).toNat = k
    exact Int.toNat_natCast k
  rw [this, List.map_id]
theorem crewR_ok (E : Nat → Nat → Bool) (n : Nat) : (∃ p, crewR E n = some p ∧ LeastAll E n p) ∨ (crewR E n = none ∧ ∀ a k, a < n → ¬ KB.Cl E n a k) := by
  have mem : ∀ q ∈ somes E n, ∃ a, a < n ∧ KB.Least E n a q := fun q hq => by
    obtain ⟨a, ha, e⟩ := List.mem_filterMap.mp hq
    have han := List.mem_range.mp ha
    rcases KB.roundF_ok (E := E) han with ⟨p, e1, l⟩ | ⟨e1, _⟩
    · rw [e1] at e
      cases e
      exact ⟨a, han, l⟩
    · rw [e1] at e
      cases e
  have cl : ∀ a k, a < n → KB.Cl E n a k → ∃ q ∈ somes E n, q.length ≤ k + 1 := fun a k ha hc => by
    rcases KB.roundF_ok (E := E) ha with ⟨p, e1, l⟩ | ⟨_, no⟩
    · exact ⟨p, List.mem_filterMap.mpr ⟨a, List.mem_range.mpr ha, e1⟩, l.min k hc⟩
    · exact absurd hc (no k)
  unfold crewR
  cases e : somes E n with
  | nil =>
    refine .inr ⟨rfl, fun a k ha hc => ?_⟩
    obtain ⟨q, hq, _⟩ := cl a k ha hc
    rw [e] at hq
    cases hq
  | cons q qs =>
    obtain ⟨m, h1, h2, h3⟩ := min_pair qs q
    refine .inl ⟨m, ?_, ?_, fun a k ha hc => ?_⟩
    · show (match sndD (minD (pairD q) (qs.map pairD)) with
        | .tuple ds => some (ds.map unNat)
        | _ => none) = some m
      rw [h2]
      show some ((intD m).map unNat) = some m
      rw [unI_of]
    · exact mem m (by rw [e]; exact h1)
    · obtain ⟨z, hz, l⟩ := cl a k ha hc
      rw [e] at hz
      have := h3 z hz
      omega
def rCrewR (ds : List PyData) (d : PyData) : Prop := ∃ (h : Hou) (c : List Nat), ds = [houD h, .tuple (intD c)] ∧ CrewOk h c ∧ d = roundD (crewR (putB h c) c.length)
section
variable {K : PySem.W.Frag} {M : List Addr} {σ : L2.St} {H : Hp} {te : TE}
theorem evd_minD {d : PyData} {ds : List PyData} (h : EvD K M te σ H (.list (d :: ds))) (ha : AlikeAll (d :: ds)) (hd : PyData.depthAll (d :: ds) ≤ 8) : EvD K M (tCB (rMinD K) (tCons te tNil)) σ H (minD d ds) := fun H1 s Q q =>
  h H1 s _ fun v H2 s2 hv => by
    obtain ⟨a, xs, rfl, hs, hx⟩ := hv.lstAt
    refine ⟨a, xs, d, ds, rfl, hs, hx.all, ha, hd, fun i v hi he => ?_⟩
    obtain ⟨d', e', hd'⟩ := hx.get' hi
    rw [he] at e'
    cases e'
    exact q v H2 s2 hd'
end
section
variable {P : Program} {w : World} {K : PySem.W.Frag} {mg : Str → Option Value} {base : Heap}
theorem good_intD {c : List Nat} {m : Nat} (h : ∀ k ∈ c, k < 16) (hl : c.length ≤ m) : Good (.tuple (intD c)) (m * 22 + 4) 1 := by
  refine Good.mono (good_tup (n := 20) (k := 0) fun d hd => ?_) ?_ (Nat.le_refl _)
  · obtain ⟨k, hk, rfl⟩ := List.mem_map.mp hd
    have := h k hk
    exact good_int (Int.natCast_nonneg _) (by omega)
  · rw [intD_len]
    have := Nat.mul_le_mul hl (Nat.le_refl 22)
    omega
theorem depth_pairs {qs : List (List Nat)} (h : ∀ q ∈ qs, q.length ≤ 8 ∧ ∀ k ∈ q, k < 8) : PyData.depthAll (qs.map pairD) ≤ 8 := by
  have g : ∀ d ∈ qs.map pairD, Good d 500 2 := fun d hd => by
    obtain ⟨q, hq, rfl⟩ := List.mem_map.mp hd
    obtain ⟨h1, h2⟩ := h q hq
    refine Good.mono (good_tup (n := 200) (k := 1) fun d hd => ?_) (by show 2 * 202 + 4 ≤ 500; decide) (Nat.le_refl _)
    simp only [List.mem_cons, List.not_mem_nil, or_false] at hd
    rcases hd with hd | hd
    · rw [hd]
      exact Good.mono (good_int (Int.natCast_nonneg _) (by omega)) (by decide) (by decide)
    · rw [hd]
      exact Good.mono (good_intD (m := 8) (fun k hk => by have := h2 k hk; omega) h1) (by decide) (Nat.le_refl _)
  have := (good_all g).2.2.2.1
  omega
abbrev sCrewR : Stmt := topS 13
theorem scCrewR : FnScope ["house", "crew", "rounds", "found", "person", "one"] ["house", "crew"] (defScope sCrewR) := ⟨rfl, rfl, rfl, by decide +kernel, rfl, by decide +kernel, by decide +kernel⟩
theorem ok_crewR {f fR : Addr} {fd fdR : FuncData} (F : Fun K "crew_round" "crew_round" sCrewR f fd) (T : Txt mg) (zm : mg "min" = none) (CR : Cal P w K mg base "_round_from" 4 ["house", "crew", "person"] (spPure K rRoundF) fR fdR) : FnOk P w K mg base CX0 5 f fd ["house", "crew"] (spPure K rCrewR) := by
  refine F.ok scCrewR (fun vs H Q E h => pure_len (P := True) (fun ds d r => ?_) h) (fun cdv A outer s H vs Q E hr h => ?_)
  · obtain ⟨_, _, rfl, _⟩ := r
    rfl
  · obtain ⟨M, ds, d, kn, hd, ⟨h, c, rfl, x, rfl⟩, q⟩ := h
    obtain ⟨vh, vc, rfl, hh, hc⟩ := Dms.two_at hd
    have n8 := x.few
    refine ⟨_, pss_cons (ps_setLc (i := 2) (own := [("person", 4)]) (g := gName 4) (tt := tYes) (te := tCall (spPure K rRoundF) [] E0 (tCons (tVar 0) (tCons (tVar 1) (tCons (tVar 4) tNil)))) rfl scCrewR.nd rfl rfl rfl (pi_range1 rfl T.range (pa_cons (pe_callB call_len_seq (by rfl) T.len PySem.boot_len (pa_cons (pv 1) pa_nil)) pa_nil)) (blkOk_by (N := ["house", "crew", "rounds", "found", "person", "one"]) (sc := defScope sCrewR) (by decide +kernel)) (fun _ _ _ _ _ => pg_name (i := 4) scCrewR.nd rfl (Or.inl rfl)) (fun _ _ _ _ _ => pts_nil)
        (fun _ _ _ _ _ => pcl CR hr (pa_cons (pv 0) (pa_cons (pv 1) (pa_cons (pv 4) pa_nil)))))
      (pss_cons (ps_setLc (i := 3) (own := [("one", 5)]) (g := gName 5) (tt := tB (tNotN (tVar 5))) (te := tTup (tCons (tCB (rLenS K) (tCons (tVar 5) tNil)) (tCons (tVar 5) tNil))) rfl scCrewR.nd rfl rfl rfl (pi_list (pv 2)) (blkOk_by (N := ["house", "crew", "rounds", "found", "person", "one"]) (sc := defScope sCrewR) (by decide +kernel)) (fun _ _ _ _ _ => pg_name (i := 5) scCrewR.nd rfl (Or.inl rfl))
        (fun _ _ _ _ _ => pts_one (pt_cmp (pc_notN (pv 5)))) (fun _ _ _ _ _ => pe_tup (pa_cons (pe_callB call_len_seq (by rfl) T.len PySem.boot_len (pa_cons (pv 5) pa_nil)) (pa_cons (pv 5) pa_nil))))
      (pss_one (ps_ret (pe_ifExp (pt_truth (pv 3) (fun _ => rfl)) (pe_ix ix_tup (pe_callB (cr_minD rfl hr.units) (by rfl) zm PyProof.Rows.boot_min (pa_cons (pv 3) pa_nil)) pe_int (fun _ _ => rfl)) pe_non)))), ?_⟩
    obtain ⟨E1, eE⟩ : ∃ E1, E1 = putB h c := ⟨_, rfl⟩
    have e1 : EvD K M (tVar 1) ([some vh, some vc, none, none, none, none] : L2.St) H (.tuple (intD c)) := evd_var rfl hc
    have elen := evd_lenT e1
    rw [intD_len] at elen
    refine evd_sset (K := K) (M := M) (d := .list ((List.range c.length).map fun i => roundD (KB.roundF (putB h c) c.length i))) (EvNL.toD kn ?_) fun v2 H2 s2 h2 => ?_
    · have z := evd_lcR (K := K) (M := M) (σ := [some vh, some vc, none, none, none, none]) (vs := [4]) (j := 4) (tb := tCall (spPure K rRoundF) [] E0 (tCons (tVar 0) (tCons (tVar 1) (tCons (tVar 4) tNil)))) (m := (c.length : Int)) (fun i => roundD (KB.roundF (putB h c) c.length i)) kn (evds_cons elen evds_nil) (by omega) (by omega) (by intro z; rfl) (fun Dl hD i H1 s1 n1 hi => by
        have hh1 : Dm K (Dl :: M) H1 vh (houD h) := Dm.s (Dm.more hh hD) s1
        have hc1 : Dm K (Dl :: M) H1 vc (.tuple (intD c)) := Dm.s (Dm.more hc hD) s1
        exact evd_pure (rel := rRoundF) n1 (evds_cons (evd_var (i := 0) rfl hh1) (evds_cons (evd_var (i := 1) rfl hc1) (evds_cons (evd_var (i := 4) rfl (.int _)) evds_nil))) ⟨h, c, i, rfl, x, by omega, by cases KB.roundF (putB h c) c.length i <;> rfl⟩)
      rw [Int.toNat_natCast] at z
      exact z
    · have n2 := kn.sub s2
      have e2 : EvD K M (tVar 2) ([some vh, some vc, some v2, none, none, none] : L2.St) H2 (.list ((List.range c.length).map fun i => roundD (KB.roundF (putB h c) c.length i))) := evd_var rfl h2
      refine evd_sset (K := K) (M := M) (d := .list ((somes (putB h c) c.length).map pairD)) (EvNL.toD n2 ?_) fun v3 H3 s3 h3 => ?_
      · have z := evd_lcF (K := K) (M := M) (σ := [some vh, some vc, some v2, none, none, none]) (vs := [5]) (j := 5) (tt := tB (tNotN (tVar 5))) (tb := tTup (tCons (tCB (rLenS K) (tCons (tVar 5) tNil)) (tCons (tVar 5) tNil))) isSomeD withLen n2 e2 (by rw [List.length_map, List.length_range]; omega) (by intro z; rfl)
          (fun Dl hD d z H1 s1 n1 hdm hz => by
            obtain ⟨i, _, rfl⟩ := List.mem_map.mp hdm
            refine evb_val (evd_notN (K := K) (M := Dl :: M) (evd_var (i := 5) rfl hz) ?_)
            cases KB.roundF (putB h c) c.length i with
            | none => exact .inl ⟨rfl, rfl⟩
            | some p => exact .inr ⟨(fun z => nomatch z), rfl⟩)
          (fun Dl hD d z H1 s1 n1 hdm hf hz => by
            obtain ⟨i, _, rfl⟩ := List.mem_map.mp hdm
            cases e : KB.roundF (putB h c) c.length i with
            | none =>
              rw [e] at hf
              cases hf
            | some p =>
              rw [e] at hz
              have ez : EvD K (Dl :: M) (tVar 5) ([some vh, some vc, some v2, none, none, some z] : L2.St) H1 (.tuple (intD p)) := evd_var rfl hz
              exact evd_tup n1 (evds_cons (evd_lenT ez) (evds_cons ez evds_nil)) lt2)
        rw [found_is] at z
        exact z
      · have s23 := s2.trans s3
        have e3 : EvD K M (tVar 3) ([some vh, some vc, some v2, some v3, none, none] : L2.St) H3 (.list ((somes (putB h c) c.length).map pairD)) := evd_var rfl h3
        refine evd_ret (K := K) (M := M) (d := roundD (crewR (putB h c) c.length)) ?_ fun y H4 s4 hy => q y H4 (s23.trans s4) hy
        refine evd_ifE (evb_truL e3) (fun e => ?_) (fun e => ?_)
        · have mem : ∀ q ∈ somes (putB h c) c.length, q.length ≤ 8 ∧ ∀ k ∈ q, k < 8 := fun q hq => by
            obtain ⟨a, ha, e⟩ := List.mem_filterMap.mp hq
            rcases KB.roundF_ok (E := putB h c) (List.mem_range.mp ha) with ⟨p, e1, l⟩ | ⟨e1, _⟩
            · rw [e1] at e
              cases e
              have := KB.nd_len l.nd l.lt
              exact ⟨by omega, fun k hk => by have := l.lt k hk; omega⟩
            · rw [e1] at e
              cases e
          have dp := depth_pairs mem
          have al := alikeAll_pairs (somes (putB h c) c.length)
          unfold crewR
          cases es : somes (putB h c) c.length with
          | nil =>
            rw [es] at e
            cases e
          | cons q1 qs =>
            rw [es] at e3 dp al
            obtain ⟨m, _, em, _⟩ := min_pair qs q1
            have eq : roundD (match sndD (minD (pairD q1) (qs.map pairD)) with
              | .tuple ds => some (ds.map unNat)
              | _ => none) = .tuple (intD m) := by
              rw [em]
              show PyData.tuple (intD ((intD m).map unNat)) = _
              rw [unI_of]
            show EvD K M _ _ _ (roundD (match sndD (minD (pairD q1) (qs.map pairD)) with
              | .tuple ds => some (ds.map unNat)
              | _ => none))
            rw [eq]
            have em3 := evd_minD e3 al dp
            rw [em] at em3
            exact evd_ixT em3 (evd_int (i := 1)) (by decide) rfl
        · have : somes (putB h c) c.length = [] := by
            cases es : somes (putB h c) c.length with
            | nil => rfl
            | cons q1 qs =>
              rw [es] at e
              cases e
          unfold crewR
          rw [this]
          exact evd_non
end
end KZ

namespace KB
/-! the law's search -/
section
variable {E : Nat → Nat → Bool} {n : Nat}
abbrev Far := List (Nat × Nat)
structure LS where
  far : Far
  line : List Nat
  best : Option Nat
def better (best : Option Nat) (k : Nat) : Bool := match best with
  | none => true
  | some b => decide (k < b)
def lst1 (first here : Nat) (st : LS) (other : Nat) : LS :=
  ⟨if has st.far other = true then st.far else st.far ++ [(other, (val st.far here).getD 0 + 1)], if has st.far other = true then st.line else st.line ++ [other],
    if (decide (other = first) && better st.best ((val st.far here).getD 0 + 1)) = true then some ((val st.far here).getD 0 + 1) else st.best⟩
theorem val_uni {c : Far} (nd : (c.map (·.1)).Nodup) {x j k : Nat} (h1 : (x, j) ∈ c) (h2 : (x, k) ∈ c) : j = k := by
  have a := val_mem nd h1
  rw [val_mem nd h2] at a
  exact (Option.some.inj a).symm
/-- what stands behind in a table that does not fall is not less -/
theorem behind {far : Far} {done line : List Nat} {here kh x k : Nat} (keys : far.map (·.1) = done ++ here :: line) (nd : (far.map (·.1)).Nodup) (srt : far.Pairwise fun a b => a.2 ≤ b.2) (hk : (here, kh) ∈ far) (hx : x ∈ line) (hxk : (x, k) ∈ far) : kh ≤ k := by
  obtain ⟨f1, f2, e, e1, e2⟩ := List.map_eq_append_iff.mp keys
  obtain ⟨p, f3, e3, e4, e5⟩ := List.map_eq_cons_iff.mp e2
  have hp : p = (here, kh) := by
    obtain ⟨a, b⟩ := p
    have ea : a = here := e4
    have : (a, b) ∈ far := by
      rw [e, e3]
      exact List.mem_append_right _ List.mem_cons_self
    rw [ea] at this ⊢
    rw [val_uni nd this hk]
  rw [e, e3, List.pairwise_append] at srt
  have s2 := (List.pairwise_cons.mp srt.2.1).1
  have hx3 : (x, k) ∈ f3 := by
    rw [← e5] at hx
    obtain ⟨⟨a, b⟩, m, ea⟩ := List.mem_map.mp hx
    have ea' : a = x := ea
    have mf : (a, b) ∈ far := by
      rw [e, e3]
      exact List.mem_append_right _ (List.mem_cons_of_mem _ m)
    rw [ea'] at mf m
    rw [val_uni nd hxk mf]
    exact m
  have := s2 _ hx3
  rw [hp] at this
  exact this
/-- what best tells: some closed walk -/
def Sound (E : Nat → Nat → Bool) (n : Nat) (best : Option Nat) : Prop := ∀ b, best = some b → ∃ a k, a < n ∧ b = k + 1 ∧ Cl E n a k
def Below (best : Option Nat) (k : Nat) : Prop := ∃ b, best = some b ∧ b ≤ k
theorem Below.mono {best best' : Option Nat} {k : Nat} (h : Below best k) (m : ∀ b, best = some b → Below best' b) : Below best' k := by
  obtain ⟨b, e, l⟩ := h
  obtain ⟨b', e', l'⟩ := m b e
  exact ⟨b', e', by omega⟩
structure LC (E : Nat → Nat → Bool) (n first : Nat) (far : Far) : Prop where
  nd : (far.map (·.1)).Nodup
  lt : ∀ x k, (x, k) ∈ far → x < n
  wk : ∀ x k, (x, k) ∈ far → Wk E n first x k
  zero : (first, 0) ∈ far
  srt : far.Pairwise fun a b => a.2 ≤ b.2
/-- ahead of a turn of the law's while -/
structure LI (E : Nat → Nat → Bool) (n first : Nat) (b0 : Option Nat) (done : List Nat) (st : LS) : Prop where
  c : LC E n first st.far
  keys : st.far.map (·.1) = done ++ st.line
  near : ∀ y r, st.line = y :: r → ∀ j, (y, j) ∈ st.far → ∀ x k, (x, k) ∈ st.far → k ≤ j + 1
  cl : ∀ x k, (x, k) ∈ st.far → x ∈ done → ∀ y, y < n → E x y = true → ∃ j, (y, j) ∈ st.far ∧ j ≤ k + 1
  bk : ∀ x k, (x, k) ∈ st.far → x ∈ done → E x first = true → Below st.best (k + 1)
  bs : Sound E n st.best
  bm : ∀ b, b0 = some b → Below st.best b
/-- within: here is taken, these others are gone through -/
structure LM (E : Nat → Nat → Bool) (n first : Nat) (b0 : Option Nat) (done : List Nat) (here kh : Nat) (gone : Nat → Prop) (st : LS) : Prop where
  c : LC E n first st.far
  keys : st.far.map (·.1) = done ++ here :: st.line
  hk : (here, kh) ∈ st.far
  near : ∀ x k, (x, k) ∈ st.far → k ≤ kh + 1
  cl : ∀ x k, (x, k) ∈ st.far → x ∈ done → ∀ y, y < n → E x y = true → ∃ j, (y, j) ∈ st.far ∧ j ≤ k + 1
  clh : ∀ y, gone y → ∃ j, (y, j) ∈ st.far
  bk : ∀ x k, (x, k) ∈ st.far → x ∈ done → E x first = true → Below st.best (k + 1)
  bkh : gone first → Below st.best (kh + 1)
  bs : Sound E n st.best
  bm : ∀ b, b0 = some b → Below st.best b
theorem LI.start {first : Nat} {b0 : Option Nat} (h : first < n) (s : Sound E n b0) : LI E n first b0 [] ⟨[(first, 0)], [first], b0⟩ := by
  have one : ∀ x k, (x, k) ∈ [(first, 0)] → x = first ∧ k = 0 := fun x k hx => by
    have := List.mem_singleton.mp hx
    cases this
    exact ⟨rfl, rfl⟩
  refine ⟨⟨by simp, ?_, ?_, List.mem_singleton.mpr rfl, by simp⟩, rfl, ?_, ?_, ?_, s, fun b e => ⟨b, e, Nat.le_refl _⟩⟩
  · intro x k hx
    obtain ⟨rfl, rfl⟩ := one x k hx
    exact h
  · intro x k hx
    obtain ⟨rfl, rfl⟩ := one x k hx
    exact .nil
  · intro y r _ j _ x k hx
    obtain ⟨rfl, rfl⟩ := one x k hx
    exact Nat.zero_le _
  · intro x k _ hd
    cases hd
  · intro x k _ hd
    cases hd
theorem LI.pop {first here : Nat} {b0 : Option Nat} {done rest : List Nat} {far : Far} {best : Option Nat} (i : LI E n first b0 done ⟨far, here :: rest, best⟩) : ∃ kh, val far here = some kh ∧ here < n ∧ LM E n first b0 done here kh (fun _ => False) ⟨far, rest, best⟩ := by
  have hm : here ∈ far.map (·.1) := by
    rw [i.keys]
    exact List.mem_append_right _ List.mem_cons_self
  obtain ⟨⟨a, kh⟩, m, ea⟩ := List.mem_map.mp hm
  have ea' : a = here := ea
  rw [ea'] at m
  exact ⟨kh, val_mem i.c.nd m, i.c.lt _ _ m, i.c, i.keys, m, fun x k hx => i.near here rest rfl kh m x k hx, i.cl, fun _ h => h.elim, i.bk, fun h => h.elim, i.bs, i.bm⟩
theorem LM.step {first here kh other : Nat} {b0 : Option Nat} {done : List Nat} {gone : Nat → Prop} {st : LS} (m : LM E n first b0 done here kh gone st) (ho : other < n) (hf : first < n) (he : E here other = true) :
    LM E n first b0 done here kh (fun y => gone y ∨ y = other) (lst1 first here st other) ∧ val (lst1 first here st other).far here = some kh := by
  have hv : (val st.far here).getD 0 = kh := by
    rw [val_mem m.c.nd m.hk]
    rfl
  -- best
  have hb : ∀ b, st.best = some b → Below (lst1 first here st other).best b := by
    intro b e
    unfold lst1
    rw [hv]
    dsimp only
    split
    · rename_i z
      rw [Bool.and_eq_true, e] at z
      have := of_decide_eq_true z.2
      exact ⟨kh + 1, rfl, by omega⟩
    · exact ⟨b, e, Nat.le_refl _⟩
  have hbs : Sound E n (lst1 first here st other).best := by
    intro b e
    unfold lst1 at e
    rw [hv] at e
    dsimp only at e
    split at e
    · rename_i z
      rw [Bool.and_eq_true] at z
      have eo := of_decide_eq_true z.1
      rw [eo] at he
      exact ⟨first, kh, hf, (Option.some.inj e).symm, here, m.c.wk _ _ m.hk, he⟩
    · exact m.bs b e
  have hbo : other = first → Below (lst1 first here st other).best (kh + 1) := by
    intro eo
    unfold lst1
    rw [hv]
    dsimp only
    split
    · exact ⟨kh + 1, rfl, Nat.le_refl _⟩
    · rename_i z
      rw [decide_eq_true eo, Bool.true_and] at z
      cases e : st.best with
      | none =>
        rw [e] at z
        exact absurd rfl z
      | some b =>
        rw [e] at z
        have z' : ¬ kh + 1 < b := fun w => z (decide_eq_true w)
        exact ⟨b, rfl, by omega⟩
  have bm' : ∀ b, b0 = some b → Below (lst1 first here st other).best b := fun b e => (m.bm b e).mono hb
  by_cases ht : has st.far other = true
  · have ef : (lst1 first here st other).far = st.far := if_pos ht
    have el : (lst1 first here st other).line = st.line := if_pos ht
    refine ⟨⟨by rw [ef]; exact m.c, by rw [ef, el]; exact m.keys, by rw [ef]; exact m.hk, by rw [ef]; exact m.near, by rw [ef]; exact m.cl, fun y hy => ?_, by rw [ef]; exact fun x k h1 h2 h3 => (m.bk x k h1 h2 h3).mono hb, fun hy => ?_, hbs, bm'⟩, by rw [ef]; exact val_mem m.c.nd m.hk⟩
    · rw [ef]
      rcases hy with z | z
      · exact m.clh y z
      · rw [z]
        exact has_iff.mp ht
    · rcases hy with z | z
      · exact (m.bkh z).mono hb
      · exact hbo z.symm
  · have hfl : has st.far other = false := Bool.eq_false_iff.mpr ht
    have ef : (lst1 first here st other).far = st.far ++ [(other, kh + 1)] := by
      unfold lst1
      rw [hv]
      exact if_neg ht
    have el : (lst1 first here st other).line = st.line ++ [other] := if_neg ht
    have old : ∀ {x k}, (x, k) ∈ st.far → (x, k) ∈ st.far ++ [(other, kh + 1)] := fun h => List.mem_append_left _ h
    have hmem : ∀ x k, (x, k) ∈ st.far ++ [(other, kh + 1)] → (x, k) ∈ st.far ∨ (x = other ∧ k = kh + 1) := fun x k hx => by
      rcases List.mem_append.mp hx with z | z
      · exact .inl z
      · have := List.mem_singleton.mp z
        cases this
        exact .inr ⟨rfl, rfl⟩
    have ono : ∀ x, x ∈ done → x ≠ other := fun x hx z => by
      have : other ∈ st.far.map (·.1) := by
        rw [m.keys, ← z]
        exact List.mem_append_left _ hx
      exact has_false hfl this
    have nd' := nd_snoc (v := kh + 1) m.c.nd hfl
    refine ⟨⟨?_, ?_, ?_, ?_, ?_, ?_, ?_, ?_, hbs, bm'⟩, ?_⟩
    · rw [ef]
      refine ⟨nd', fun x k hx => ?_, fun x k hx => ?_, old m.c.zero, ?_⟩
      · rcases hmem x k hx with z | ⟨rfl, rfl⟩
        · exact m.c.lt _ _ z
        · exact ho
      · rcases hmem x k hx with z | ⟨rfl, rfl⟩
        · exact m.c.wk _ _ z
        · exact (m.c.wk _ _ m.hk).snoc he ho
      · rw [List.pairwise_append]
        refine ⟨m.c.srt, by simp, fun a ha b hb => ?_⟩
        rw [List.mem_singleton.mp hb]
        exact m.near a.1 a.2 ha
    · rw [ef, el, List.map_append, m.keys]
      simp
    · rw [ef]
      exact old m.hk
    · rw [ef]
      intro x k hx
      rcases hmem x k hx with z | ⟨rfl, rfl⟩
      · exact m.near x k z
      · exact Nat.le_refl _
    · rw [ef]
      intro x k hx hd y hy hE
      rcases hmem x k hx with z | ⟨e, _⟩
      · obtain ⟨j, hj, l⟩ := m.cl x k z hd y hy hE
        exact ⟨j, old hj, l⟩
      · exact absurd e (ono x hd)
    · rw [ef]
      intro y hy
      rcases hy with z | z
      · obtain ⟨j, hj⟩ := m.clh y z
        exact ⟨j, old hj⟩
      · rw [z]
        exact ⟨kh + 1, List.mem_append_right _ (List.mem_singleton.mpr rfl)⟩
    · rw [ef]
      intro x k hx hd hE
      rcases hmem x k hx with z | ⟨e, _⟩
      · exact (m.bk x k z hd hE).mono hb
      · exact absurd e (ono x hd)
    · intro hy
      rcases hy with z | z
      · exact (m.bkh z).mono hb
      · exact hbo z.symm
    · rw [ef]
      exact val_mem nd' (old m.hk)
theorem LM.done {first here kh : Nat} {b0 : Option Nat} {done : List Nat} {gone : Nat → Prop} {st : LS} (m : LM E n first b0 done here kh gone st) (hf : first < n) (all : ∀ y, y < n → E here y = true → gone y) : LI E n first b0 (done ++ [here]) st := by
  have hone : ∀ k, (here, k) ∈ st.far → k = kh := fun k h => val_uni m.c.nd h m.hk
  refine ⟨m.c, by rw [m.keys, List.append_assoc]; rfl, ?_, ?_, ?_, m.bs, m.bm⟩
  · intro y r el j hj x k hx
    have lo := behind m.keys m.c.nd m.c.srt m.hk (by rw [el]; exact List.mem_cons_self) hj
    have := m.near x k hx
    omega
  · intro x k hx hd y hy hE
    rcases List.mem_append.mp hd with z | z
    · exact m.cl x k hx z y hy hE
    · have ex := List.mem_singleton.mp z
      rw [ex] at hx hE
      obtain ⟨j, hj⟩ := m.clh y (all y hy hE)
      refine ⟨j, hj, ?_⟩
      have := m.near y j hj
      have := hone k hx
      omega
  · intro x k hx hd hE
    rcases List.mem_append.mp hd with z | z
    · exact m.bk x k hx z hE
    · have ex := List.mem_singleton.mp z
      rw [ex] at hx hE
      rw [hone k hx]
      exact m.bkh (all first hf hE)
theorem LI.fin {first : Nat} {b0 : Option Nat} {done : List Nat} {far : Far} {best : Option Nat} (i : LI E n first b0 done ⟨far, [], best⟩) : Sound E n best ∧ (∀ b, b0 = some b → Below best b) ∧ ∀ k, Cl E n first k → Below best (k + 1) := by
  have dn : ∀ x k, (x, k) ∈ far → x ∈ done := fun x k h => by
    have : x ∈ far.map (·.1) := List.mem_map.mpr ⟨_, h, rfl⟩
    have e := i.keys
    rw [List.append_nil] at e
    exact e ▸ this
  have reach : ∀ x k, Wk E n first x k → ∃ j, (x, j) ∈ far ∧ j ≤ k := by
    intro x k w
    induction w with
    | nil => exact ⟨0, i.c.zero, Nat.le_refl _⟩
    | snoc w he hx ih =>
      obtain ⟨j, hj, l⟩ := ih
      obtain ⟨j', hj', l'⟩ := i.cl _ _ hj (dn _ _ hj) _ hx he
      exact ⟨j', hj', by omega⟩
  refine ⟨i.bs, i.bm, fun k hc => ?_⟩
  obtain ⟨b, w, he⟩ := hc
  obtain ⟨j, hj, l⟩ := reach b k w
  obtain ⟨z, ez, lz⟩ := i.bk b j hj (dn _ _ hj) he
  exact ⟨z, ez, by omega⟩
theorem LI.few {first : Nat} {b0 : Option Nat} {done : List Nat} {st : LS} (i : LI E n first b0 done st) : done.length + st.line.length ≤ n := by
  have := nd_len i.c.nd (n := n) fun y hy => by
    obtain ⟨⟨a, b⟩, hh, rfl⟩ := List.mem_map.mp hy
    exact i.c.lt _ _ hh
  rw [i.keys, List.length_append] at this
  exact this
/-- the size of a least round of all -/
def IsSize (E : Nat → Nat → Bool) (n : Nat) (best : Option Nat) : Prop := Sound E n best ∧ ∀ a k, a < n → Cl E n a k → Below best (k + 1)
theorem size_uni {b1 b2 : Option Nat} (h1 : IsSize E n b1) (h2 : IsSize E n b2) : b1 = b2 := by
  have le : ∀ {b1 b2 : Option Nat}, IsSize E n b1 → IsSize E n b2 → ∀ b, b1 = some b → Below b2 b := fun h1 h2 b e => by
    obtain ⟨a, k, ha, eb, hc⟩ := h1.1 b e
    rw [eb]
    exact h2.2 a k ha hc
  cases e1 : b1 with
  | none =>
    cases e2 : b2 with
    | none => rfl
    | some b =>
      obtain ⟨_, e, _⟩ := le h2 h1 b e2
      rw [e1] at e
      cases e
  | some b =>
    obtain ⟨b', e', l'⟩ := le h1 h2 b e1
    obtain ⟨b'', e'', l''⟩ := le h2 h1 b' e'
    rw [e1] at e''
    cases e''
    rw [e']
    congr 1
    omega
end
end KB

namespace KZ
open PySem PySem.Spec PyProof.Rows L2
/-! tables as data, and back -/
def unCp : PyData → Cp
  | .tuple [.str a, .str b] => (a, b)
  | _ => ("", "")
def unRow : PyData → Row
  | .tuple l => l.map unCp
  | _ => []
def unTab : PyData → Tab
  | .tuple l => l.map unRow
  | _ => []
theorem unRow_of (r : Row) : unRow (rowD r) = r := by
  show (r.map cpD).map unCp = r
  rw [List.map_map]
  exact List.map_id r
theorem unTab_of (t : Tab) : unTab (tabD t) = t := by
  show (t.map rowD).map unRow = t
  rw [List.map_map]
  have : unRow ∘ rowD = id := funext unRow_of
  rw [this, List.map_id]
def tabW (a b s : Nat) (t : Tab) : Bool := decide (side ((t.getD a []).getD b ("", "")) s = "yield")
theorem wq_tab {h : Hou} {c : List Nat} {one other s : Nat} : wq h c one other s = tabW (c.getD one 0) (c.getD other 0) (sideN one other) (h.j.getD s []) := rfl
theorem sort_any {h : Hou} (x : HQ h) (c : List Nat) (one other : Nat) : (!(h.j.filter (tabW (c.getD one 0) (c.getD other 0) (sideN one other))).isEmpty) = (sortF h c one other).isSome := by
  have hl := x.j.1
  cases e : sortF h c one other with
  | none =>
    have : h.j.filter (tabW (c.getD one 0) (c.getD other 0) (sideN one other)) = [] := by
      rw [List.filter_eq_nil_iff]
      intro t ht
      obtain ⟨s, hs⟩ := List.mem_iff_getElem?.mp ht
      have hsl := (List.getElem?_eq_some_iff.mp hs).1
      have q := List.find?_eq_none.mp e s (List.mem_range.mpr (by omega))
      rw [wq_tab] at q
      have : h.j.getD s [] = t := by
        rw [List.getD_eq_getElem?_getD, hs]
        rfl
      rw [this] at q
      exact q
    rw [this]
    rfl
  | some s =>
    have hw : wq h c one other s = true := List.find?_some e
    have hs := List.mem_range.mp (List.mem_of_find?_eq_some e)
    have mem : h.j.getD s [] ∈ h.j.filter (tabW (c.getD one 0) (c.getD other 0) (sideN one other)) := List.mem_filter.mpr ⟨List.mem_of_getElem? (getD_of (by omega) []), hw⟩
    cases ef : h.j.filter (tabW (c.getD one 0) (c.getD other 0) (sideN one other)) with
    | nil =>
      rw [ef] at mem
      cases mem
    | cons a l => rfl
theorem good_tab {n : Nat} (hn : n < 10) {t : Tab} (h : TabOk n t) : Good (tabD t) 6000 3 := by
  have row : ∀ r, RowOk n r → Good (rowD r) 600 2 := fun r h => by
    refine Good.mono (good_tup (n := 48) (k := 1) fun d hd => ?_) ?_ (Nat.le_refl _)
    · obtain ⟨c, hc, rfl⟩ := List.mem_map.mp hd
      exact good_cp (h.2 c hc)
    · rw [List.length_map, h.1]
      have := Nat.mul_le_mul (show n ≤ 9 by omega) (Nat.le_refl 50)
      omega
  refine Good.mono (good_tup (n := 600) (k := 2) fun d hd => ?_) ?_ (Nat.le_refl _)
  · obtain ⟨r, hr, rfl⟩ := List.mem_map.mp hd
    exact row r (h.2 r hr)
  · rw [List.length_map, h.1]
    have := Nat.mul_le_mul (show n ≤ 9 by omega) (Nat.le_refl 602)
    omega
section
variable {K : PySem.W.Frag} {M : List Addr} {σ : L2.St} {H : Hp} {t1 t2 : TE} {ds : List PyData}
theorem evd_neNil {n k : Nat} (h1 : EvD K M t1 σ H (.list ds)) (h2 : EvD K M t2 σ H (.list [])) (g : Good (.list ds) n k) (hk : k ≤ 60) : EvD K M (tOp (rNeD K) t1 t2) σ H (.bool (!ds.isEmpty)) := fun H1 s Q q =>
  h1 H1 s _ fun v H2 s2 hv => h2 H2 (s.trans s2) _ fun u H3 s3 hu => by
    refine ⟨_, _, (Dm.s hv s3).all, hu.all, good_shaped g hk, by decide, ?_⟩
    rw [eqv_nil]
    exact q _ H3 (s2.trans s3) (.bl _)
theorem good_intL {c : List Nat} (h : ∀ k ∈ c, k < 16) (hl : c.length ≤ 100) : Good (.list (intD c)) 2300 1 := by
  refine Good.mono (good_lst (n := 20) (k := 0) fun d hd => ?_) ?_ (Nat.le_refl _)
  · obtain ⟨k, hk, rfl⟩ := List.mem_map.mp hd
    have := h k hk
    exact good_int (Int.natCast_nonneg _) (by omega)
  · rw [intD_len]
    have := Nat.mul_le_mul hl (Nat.le_refl 22)
    omega
theorem good_lnil : Good (.list []) 10 1 := Good.mono (good_lst (n := 0) (k := 0) fun d hd => nomatch hd) (by decide) (Nat.le_refl _)
end
section
variable {P : Program} {w : World} {K : PySem.W.Frag} {mg : Str → Option Value} {base : Heap}
abbrev sCanPut : Stmt := topS 35
theorem scCanPut : FnScope ["house", "crew", "one", "other", "rows"] ["house", "crew", "one", "other"] (defScope sCanPut) := ⟨rfl, rfl, rfl, by decide +kernel, rfl, by decide +kernel, by decide +kernel⟩
theorem ok_canPut {f : Addr} {fd : FuncData} (F : Fun K "_law_can_put" "_law_can_put" sCanPut f fd) (T : Txt mg) : FnOk P w K mg base CX0 1 f fd ["house", "crew", "one", "other"] (spPure K rPuts) := by
  refine F.ok scCanPut (fun vs H Q E h => pure_len (P := True) (fun ds d r => ?_) h) (fun cdv A outer s H vs Q E hr h => ?_)
  · obtain ⟨_, _, _, _, rfl, _⟩ := r
    rfl
  · obtain ⟨M, ds, d, kn, hd, ⟨h, c, one, other, rfl, x, h1, h2, rfl⟩, q⟩ := h
    obtain ⟨vh, vc, v1, v2, rfl, hh, hc, ho, hp⟩ := Dms.four_at hd
    cases ho.intAt
    cases hp.intAt
    refine ⟨_, pss_cons (ps_if (pt_cmpR op_eq (pv 2) (pv 3) (nomark _)) (pss_one (ps_ret pe_bl)) pss_nil)
      (pss_one (ps_ret (pe_cmpR (op_neD hr.units) (pe_lc (own := [("rows", 4)]) (g := gName 4) (tt := tTest (tOp rEq (tOp (rIxT K) (tOp (rIxT K) (tOp (rIxT K) (tVar 4) (tOp (rIxT K) (tVar 1) (tVar 2))) (tOp (rIxT K) (tVar 1) (tVar 3))) (tCB rInt1 (tCons (tOp (rI0 fun i j => .bl (decide (j < i))) (tVar 2) (tVar 3)) tNil))) (tC (.str "yield")))) (te := tVar 4) rfl scCanPut.nd
        (pi_tup (pe_ix ix_tup (pv 0) pe_int (fun _ _ => rfl))) (blkOk_by (N := ["house", "crew", "one", "other", "rows"]) (sc := defScope sCanPut) (by decide +kernel)) (fun _ _ _ _ _ => pg_name (i := 4) scCanPut.nd rfl (Or.inl rfl))
        (fun _ _ _ _ _ => pts_one (pt_cmpR op_eq (pe_ix ix_tup (pe_ix ix_tup (pe_ix ix_tup (pv 4) (pe_ix ix_tup (pv 1) (pv 2) (fun _ _ => rfl)) (fun _ _ => rfl)) (pe_ix ix_tup (pv 1) (pv 3) (fun _ _ => rfl)) (fun _ _ => rfl)) (pe_callTy call_int1 (by rfl) T.int bootInt (pa_cons (pe_cmpR op_gt (pv 2) (pv 3) (nomark _)) pa_nil)) (fun _ _ => rfl)) pe_str (nomark _)))
        (fun _ _ _ _ _ => pv 4)) (pe_lst pa_nil) (nomark _)))), ?_⟩
    have k5 := x.x.k5
    have s4 := x.x.s4
    have hjl := x.x.j.1
    have e2 : EvD K M (tVar 2) ([some vh, some vc, some (.int (one : Int)), some (.int (other : Int)), none] : L2.St) H (.int (one : Int)) := evd_var rfl (.int _)
    have e3 : EvD K M (tVar 3) ([some vh, some vc, some (.int (one : Int)), some (.int (other : Int)), none] : L2.St) H (.int (other : Int)) := evd_var rfl (.int _)
    refine evb_test (evd_eqI e2 e3) H (Sub.refl _) _ fun H1 s1 => ?_
    unfold putB at q
    refine ite2 (fun e => ?_) (fun e => ?_)
    · have : one = other := by have := of_decide_eq_true e; omega
      rw [decide_eq_true this] at q
      exact ret_of (q _ H1 s1 (.bl _))
    · have ne : ¬ one = other := fun z => e (decide_eq_true (by rw [z]))
      rw [decide_eq_false ne] at q
      unfold tNext
      dsimp only
      have n1 := kn.sub s1
      have hh1 := Dm.s hh s1
      have hc1 := Dm.s hc s1
      have ej : EvD K M (tOp (rIxT K) (tVar 0) (tC (.int 2))) ([some vh, some vc, some (.int (one : Int)), some (.int (other : Int)), none] : L2.St) H1 (.tuple (h.j.map tabD)) := evd_ixT (evd_var rfl hh1) (evd_int (i := 2)) (by decide) rfl
      have al := x.lt _ (List.mem_of_getElem? (getD_of h1 0))
      have bl := x.lt _ (List.mem_of_getElem? (getD_of h2 0))
      have lc := evd_lcFT (K := K) (M := M) (σ := [some vh, some vc, some (.int (one : Int)), some (.int (other : Int)), none]) (vs := [4]) (j := 4) (tt := tTest (tOp rEq (tOp (rIxT K) (tOp (rIxT K) (tOp (rIxT K) (tVar 4) (tOp (rIxT K) (tVar 1) (tVar 2))) (tOp (rIxT K) (tVar 1) (tVar 3))) (tCB rInt1 (tCons (tOp (rI0 fun i j => .bl (decide (j < i))) (tVar 2) (tVar 3)) tNil))) (tC (.str "yield")))) (tb := tVar 4)
        (fun d => tabW (c.getD one 0) (c.getD other 0) (sideN one other) (unTab d)) (fun d => d) n1 ej (by rw [List.length_map]; omega) (by intro z; rfl)
        (fun Dl hD d z H2 s2 n2 hdm hz => by
          obtain ⟨t, ht, rfl⟩ := List.mem_map.mp hdm
          have tok := x.x.j.2 t ht
          have hc2 : Dm K (Dl :: M) H2 vc (.tuple (intD c)) := Dm.s (Dm.more hc1 hD) s2
          have ec : EvD K (Dl :: M) (tVar 1) ([some vh, some vc, some (.int (one : Int)), some (.int (other : Int)), some z] : L2.St) H2 (.tuple (intD c)) := evd_var rfl hc2
          have ea : EvD K (Dl :: M) (tOp (rIxT K) (tVar 1) (tVar 2)) ([some vh, some vc, some (.int (one : Int)), some (.int (other : Int)), some z] : L2.St) H2 (.int ((c.getD one 0 : Nat) : Int)) := evd_ixT ec (evd_var (i := 2) rfl (.int _)) (Int.natCast_nonneg _) (by rw [Int.toNat_natCast]; exact intD_at h1)
          have eb : EvD K (Dl :: M) (tOp (rIxT K) (tVar 1) (tVar 3)) ([some vh, some vc, some (.int (one : Int)), some (.int (other : Int)), some z] : L2.St) H2 (.int ((c.getD other 0 : Nat) : Int)) := evd_ixT ec (evd_var (i := 3) rfl (.int _)) (Int.natCast_nonneg _) (by rw [Int.toNat_natCast]; exact intD_at h2)
          have r1 : t[c.getD one 0]? = some (t.getD (c.getD one 0) []) := getD_of (by rw [tok.1]; exact al) []
          have rok := tok.2 _ (List.mem_of_getElem? r1)
          have r2 : (t.getD (c.getD one 0) [])[c.getD other 0]? = some ((t.getD (c.getD one 0) []).getD (c.getD other 0) ("", "")) := getD_of (by rw [rok.1]; exact bl) _
          have q1 : EvD K (Dl :: M) _ ([some vh, some vc, some (.int (one : Int)), some (.int (other : Int)), some z] : L2.St) H2 (rowD (t.getD (c.getD one 0) [])) := evd_ixT (ds := t.map rowD) (evd_var (i := 4) rfl hz) ea (Int.natCast_nonneg _) (by rw [Int.toNat_natCast, List.getElem?_map, r1]; rfl)
          have q2 : EvD K (Dl :: M) _ ([some vh, some vc, some (.int (one : Int)), some (.int (other : Int)), some z] : L2.St) H2 (cpD ((t.getD (c.getD one 0) []).getD (c.getD other 0) ("", ""))) := evd_ixT (ds := (t.getD (c.getD one 0) []).map cpD) q1 eb (Int.natCast_nonneg _) (by rw [Int.toNat_natCast, List.getElem?_map, r2]; rfl)
          have e2' : EvD K (Dl :: M) (tVar 2) ([some vh, some vc, some (.int (one : Int)), some (.int (other : Int)), some z] : L2.St) H2 (.int (one : Int)) := evd_var rfl (.int _)
          have e3' : EvD K (Dl :: M) (tVar 3) ([some vh, some vc, some (.int (one : Int)), some (.int (other : Int)), some z] : L2.St) H2 (.int (other : Int)) := evd_var rfl (.int _)
          have es := evd_intB (evd_gtI e2' e3')
          rw [unTab_of]
          unfold tabW
          have eside : (if decide ((other : Int) < (one : Int)) = true then (1 : Int) else 0) = ((sideN one other : Nat) : Int) := by
            unfold sideN
            by_cases z : one < other
            · rw [if_pos z, decide_eq_false (by omega)]
              rfl
            · rw [if_neg z, decide_eq_true (by omega)]
              rfl
          rw [eside] at es
          refine evb_test (evd_eqS (evd_ixT q2 es (Int.natCast_nonneg _) ?_) evd_str)
          rw [Int.toNat_natCast]
          unfold sideN side
          by_cases z : one < other
          · rw [if_pos z]
            rfl
          · rw [if_neg z]
            rfl)
        (fun Dl hD d z H2 s2 n2 hdm hf hz => evd_var rfl hz)
      have ef : ((h.j.map tabD).filter fun d => tabW (c.getD one 0) (c.getD other 0) (sideN one other) (unTab d)).map (fun d => d) = (h.j.filter (tabW (c.getD one 0) (c.getD other 0) (sideN one other))).map tabD := by
        rw [List.map_id', List.filter_map]
        have : ((fun d => tabW (c.getD one 0) (c.getD other 0) (sideN one other) (unTab d)) ∘ tabD) = tabW (c.getD one 0) (c.getD other 0) (sideN one other) := funext fun t => congrArg _ (unTab_of t)
        rw [this]
      rw [ef] at lc
      have good : Good (.list ((h.j.filter (tabW (c.getD one 0) (c.getD other 0) (sideN one other))).map tabD)) 100000 4 := by
        refine Good.mono (good_lst (n := 6000) (k := 3) fun d hd => ?_) ?_ (Nat.le_refl _)
        · obtain ⟨t, ht, rfl⟩ := List.mem_map.mp hd
          exact good_tab (by omega) (x.x.j.2 t (List.mem_filter.mp ht).1)
        · have := List.length_filter_le (tabW (c.getD one 0) (c.getD other 0) (sideN one other)) h.j
          rw [List.length_map]
          have := Nat.mul_le_mul (show (h.j.filter (tabW (c.getD one 0) (c.getD other 0) (sideN one other))).length ≤ 4 by omega) (Nat.le_refl 6002)
          omega
      refine evd_ret (K := K) (M := M) (evd_neNil (EvNL.toD n1 lc) (evd_lst n1 evds_nil (by decide)) good (by decide)) fun y H2 s2 hy => q y H2 (s1.trans s2) ?_
      rw [List.isEmpty_map, sort_any x.x] at hy
      exact hy
end
end KZ

namespace KZ
open PySem PySem.Spec PyProof.Rows L2
/-- the list of places so far -/
def PA (K : PySem.W.Frag) (M : List Addr) (H0 : Hp) (D : Addr) (l : List Pl) (H' : Hp) : Prop := Sub H0 H' ∧ ∃ acc, H' D = some (.lst acc) ∧ Dms K (D :: M) H' acc (l.map plD)
section
variable {K : PySem.W.Frag} {M : List Addr} {H0 H' H'' : Hp} {D z : Addr} {l : List Pl}
theorem PA.sub (h : PA K M H0 D l H') (s : Sub H' H'') : PA K M H0 D l H'' := by
  obtain ⟨s0, acc, e, d⟩ := h
  exact ⟨s0.trans s, acc, s _ _ e, Dms.s d s⟩
theorem PA.new (n : Kn M H0) (hD : H0 D = none) : PA K M H0 D [] (upd H0 D (.lst [])) := ⟨Sub.new hD, [], upd_same, .nil⟩
theorem PA.add (n : Kn M H0) (hD : H0 D = none) (h : PA K M H0 D l H') (hz : H' z = none) (p : Pl) (hl : l.length < 100000) : ∃ acc, upd H' z (.tup ((plK p).map kV)) D = some (.lst acc) ∧ acc.length < sizeLine ∧ PA K M H0 D (l ++ [p]) (upd (upd H' z (.tup ((plK p).map kV))) D (.lst (acc ++ [.ref z]))) := by
  obtain ⟨s0, acc, e, d⟩ := h
  have s1 : Sub H' (upd H' z (.tup ((plK p).map kV))) := Sub.new hz
  have ll := d.len
  rw [List.length_map] at ll
  refine ⟨acc, s1 _ _ e, szl (by omega), (s0.trans s1).mut hD, _, upd_same, ?_⟩
  rw [List.map_append]
  have km : Kp (D :: M) (upd H' z (.tup ((plK p).map kV))) (upd (upd H' z (.tup ((plK p).map kV))) D (.lst (acc ++ [.ref z]))) := Kp.mut List.mem_cons_self
  exact Dms.k ((Dms.s d s1).app (DpAll.one (Dm.tupNew ((n.sub s0).more ⟨_, e⟩) hz (.cons (.int _) (.cons (.int _) (.cons (.int _) (.cons (.int _) .nil))))))) km
end
def spPof (K : PySem.W.Frag) : Sp := fun vs H Q _ => ∃ (M : List Addr) (v : V) (ks ss : List PyData) (j : PyData), vs = [v] ∧ Kn M H ∧ Dm K M H v (.tuple [.tuple ks, .tuple ss, j]) ∧ ks.length < 10 ∧ ss.length < 10 ∧
  ∀ (y : V) (H' : Hp), Sub H H' → Dm K M H' y (.list ((plL ks.length ss.length).map plD)) → Q y H'
section
variable {P : Program} {w : World} {K : PySem.W.Frag} {mg : Str → Option Value} {base : Heap}
abbrev sPof : Stmt := topS 6
theorem scPof : FnScope ["house", "kinds", "sorts", "sort", "asker", "holder", "side"] ["house"] (defScope sPof) := ⟨rfl, rfl, rfl, by decide +kernel, rfl, by decide +kernel, by decide +kernel⟩
theorem ok_pof {f : Addr} {fd : FuncData} (F : Fun K "places_of" "places_of" sPof f fd) (T : Txt mg) : FnOk P w K mg base CX0 1 f fd ["house"] (spPof K) := by
  refine F.ok scPof (fun vs H Q E h => ?_) (fun cdv A outer s H vs Q E hr h => ?_)
  · obtain ⟨M, v, ks, ss, j, rfl, _⟩ := h
    rfl
  · obtain ⟨M, v, ks, ss, j, rfl, kn, hv, kz, sz, k⟩ := h
    refine ⟨_, pss_cons (ps_set (i := 1) scPof.nd rfl (Or.inr rfl) (pe_callTy call_rg1 (by rfl) T.range bootRange (pa_cons (pe_callB call_len_seq (by rfl) T.len PySem.boot_len (pa_cons (pe_ix ix_tup (pv 0) pe_int (fun _ _ => rfl)) pa_nil)) pa_nil)))
      (pss_cons (ps_set (i := 2) scPof.nd rfl (Or.inl rfl) (pe_callTy call_rg1 (by rfl) T.range bootRange (pa_cons (pe_callB call_len_seq (by rfl) T.len PySem.boot_len (pa_cons (pe_ix ix_tup (pv 0) pe_int (fun _ _ => rfl)) pa_nil)) pa_nil)))
      (pss_one (ps_ret (pe_lcN (own := [("sort", 3), ("asker", 4), ("holder", 5), ("side", 6)]) (vs' := [4, 5, 6]) (g := gName 3) (tt := tYes) rfl scPof.nd (pi_rgV (pv 2)) (blkOk_by (N := ["house", "kinds", "sorts", "sort", "asker", "holder", "side"]) (sc := defScope sPof) (by decide +kernel))
        (fun _ _ _ _ _ => pg_name (i := 3) scPof.nd rfl (Or.inl rfl)) (fun _ _ _ _ _ => pts_nil)
        (fun _ _ _ _ _ D => pin_clause (vs' := [5, 6]) (g := gName 4) (tt := tYes) (fun _ _ z => z) rfl rfl (by intro c e; cases e; rfl) (pi_rgV (pv 1)) (pg_name (i := 4) scPof.nd rfl (Or.inl rfl)) pts_nil
          (pin_clause (vs' := [6]) (g := gName 5) (tt := tYes) (fun _ _ z => z) rfl rfl (by intro c e; cases e; rfl) (pi_rgV (pv 1)) (pg_name (i := 5) scPof.nd rfl (Or.inl rfl)) pts_nil
            (pin_clause (vs' := []) (wi := iTup K (tTup (tCons (tC (.int 0)) (tCons (tC (.int 1)) tNil)))) (g := gName 6) (tt := tYes) (fun _ _ z => z) rfl rfl (by intro c e; cases e) (pi_tup (pe_tup (pa_cons pe_int (pa_cons pe_int pa_nil)))) (pg_name (i := 6) scPof.nd rfl (Or.inl rfl)) pts_nil
              (pin_leaf (fun _ _ z => z) rfl (pe_tup (pa_cons (pv 3) (pa_cons (pv 4) (pa_cons (pv 5) (pa_cons (pv 6) pa_nil)))))) (by decide) (by intro _; rfl)) (by decide) (by intro _; rfl)) (by decide) (by intro _; rfl)) (by decide) (by intro c e; cases e; rfl))))), ?_⟩
    have lk : (ks.length : Int) < 10 := by omega
    have ls : (ss.length : Int) < 10 := by omega
    have bk : -(2 ^ 62) ≤ (0 : Int) ∧ (0 : Int) < 2 ^ 62 ∧ -(2 ^ 62) ≤ (ks.length : Int) ∧ (ks.length : Int) < 2 ^ 62 := by omega
    have bs : -(2 ^ 62) ≤ (0 : Int) ∧ (0 : Int) < 2 ^ 62 ∧ -(2 ^ 62) ≤ (ss.length : Int) ∧ (ss.length : Int) < 2 ^ 62 := by omega
    refine sset_of (cb_args ?_)
    refine evd_len (σ := [some v, none, none, none, none, none, none]) (i := 0) (rs := ks) (K := K) (M := M) rfl hv (by decide) rfl H (Sub.refl _) _ fun v1 H1 s1 h1 => ?_
    cases h1.intAt
    refine ⟨_, rfl, fun rk hrk => ?_⟩
    have s2 : Sub H (upd H1 rk (.rng 0 (ks.length : Int))) := s1.trans (Sub.new hrk)
    have grk : upd H1 rk (.rng 0 (ks.length : Int)) rk = some (.rng 0 (ks.length : Int)) := upd_same
    generalize upd H1 rk (.rng 0 (ks.length : Int)) = H2 at s2 grk
    refine sset_of (cb_args ?_)
    refine evd_len (σ := [some v, some (.ref rk), none, none, none, none, none]) (i := 1) (rs := ss) (K := K) (M := M) rfl (Dm.s hv s2) (by decide) rfl H2 (Sub.refl _) _ fun v2 H3 s3 h2 => ?_
    cases h2.intAt
    refine ⟨_, rfl, fun rs hrs => ?_⟩
    have s4 : Sub H2 (upd H3 rs (.rng 0 (ss.length : Int))) := s3.trans (Sub.new hrs)
    have grs : upd H3 rs (.rng 0 (ss.length : Int)) rs = some (.rng 0 (ss.length : Int)) := upd_same
    generalize upd H3 rs (.rng 0 (ss.length : Int)) = H4 at s4 grs
    have grk4 := s4 _ _ grk
    have s04 := s2.trans s4
    have kn4 := kn.sub s04
    refine ret_of ⟨_, rfl, rs, 0, (ss.length : Int), rfl, grs, bs, fun D hD => ?_⟩
    have len2 (i1 i2 i3 : Nat) (h1 : i1 < 10) (h2 : i2 < 10) (h3 : i3 < 10) (r : List Pl) (hr : r.length ≤ 2) : (((((List.range i1).flatMap fun s => pl1 ks.length s) ++ (List.range i2).flatMap fun a => pl2 ks.length i1 a) ++ (List.range i3).flatMap fun h => pl3 i1 i2 h) ++ r).length < 100000 := by
      rw [List.length_append, List.length_append, List.length_append, flat_len _ _ (fun s => len1 ks.length s), flat_len _ _ (fun a => len2 ks.length i1 a), flat_len _ _ (fun h => len3 i1 i2 h)]
      have b1 : i1 * (ks.length * (ks.length * 2)) ≤ 10 * (10 * (10 * 2)) := Nat.mul_le_mul (by omega) (Nat.mul_le_mul (by omega) (Nat.mul_le_mul (by omega) (Nat.le_refl _)))
      have b2 : i2 * (ks.length * 2) ≤ 10 * (10 * 2) := Nat.mul_le_mul (by omega) (Nat.mul_le_mul (by omega) (Nat.le_refl _))
      omega
    have nn : ((ks.length : Int) - 0).toNat = ks.length := by omega
    have mm : ((ss.length : Int) - 0).toNat = ss.length := by omega
    refine run_range0 (σ := [some v, some (.ref rk), some (.ref rs), none, none, none, none]) (n := ((ss.length : Int) - 0).toNat) (fun i H' => PA K M H4 D ((List.range i).flatMap fun s => pl1 ks.length s) H') (PA.new kn4 hD) (fun i1 H5 hi1 p1 => ?_) (fun H5 p1 => ?_)
    · refine gname_of ⟨rfl, yes_of ⟨_, rfl, rk, 0, (ks.length : Int), rfl, p1.1 _ _ grk4, bk, ?_⟩⟩
      refine run_range0 (σ := [some v, some (.ref rk), some (.ref rs), some (.int (i1 : Int)), none, none, none]) (n := ((ks.length : Int) - 0).toNat) (fun i H' => PA K M H4 D (((List.range i1).flatMap fun s => pl1 ks.length s) ++ (List.range i).flatMap fun a => pl2 ks.length i1 a) H') (by rw [List.range_zero, List.flatMap_nil, List.append_nil]; exact p1) (fun i2 H6 hi2 p2 => ?_) (fun H6 p2 => ?_)
      · refine gname_of ⟨rfl, yes_of ⟨_, rfl, rk, 0, (ks.length : Int), rfl, p2.1 _ _ grk4, bk, ?_⟩⟩
        refine run_range0 (σ := [some v, some (.ref rk), some (.ref rs), some (.int (i1 : Int)), some (.int (i2 : Int)), none, none]) (n := ((ks.length : Int) - 0).toNat) (fun i H' => PA K M H4 D ((((List.range i1).flatMap fun s => pl1 ks.length s) ++ (List.range i2).flatMap fun a => pl2 ks.length i1 a) ++ (List.range i).flatMap fun h => pl3 i1 i2 h) H') (by rw [List.range_zero, List.flatMap_nil, List.append_nil]; exact p2) (fun i3 H7 hi3 p3 => ?_) (fun H7 p3 => ?_)
        · refine gname_of ⟨rfl, yes_of ⟨by show 2 ≤ sizeLine; decide, fun t ht => ⟨t, rfl, ⟨_, SqT.of upd_same⟩, ?_⟩⟩⟩
          have p4 := p3.sub (Sub.new ht (o := .tup [.int 0, .int 1]))
          have gt : upd H7 t (.tup [.int 0, .int 1]) t = some (.tup [.int 0, .int 1]) := upd_same
          generalize upd H7 t (.tup [.int 0, .int 1]) = H8 at p4 gt
          refine run_tup (σ := [some v, some (.ref rk), some (.ref rs), some (.int (i1 : Int)), some (.int (i2 : Int)), some (.int (i3 : Int)), none]) (K := K) (a := t) (xs := [.int 0, .int 1]) (fun i H' => H' t = some (.tup [.int 0, .int 1]) ∧ PA K M H4 D (((((List.range i1).flatMap fun s => pl1 ks.length s) ++ (List.range i2).flatMap fun a => pl2 ks.length i1 a) ++ (List.range i3).flatMap fun h => pl3 i1 i2 h) ++ (pl3 i1 i2 i3).take i) H')
            ⟨gt, by rw [List.take_zero, List.append_nil]; exact p4⟩ (fun i H' _ p => SqT.of p.1) (fun i4 x H9 hi4 p => ?_) (fun H9 p => ?_)
          · obtain ⟨p8, p9⟩ := p
            have h5 : i4 < 2 := by
              have := (List.getElem?_eq_some_iff.mp hi4).1
              exact this
            have ex : x = .int (i4 : Int) ∧ (pl3 i1 i2 i3)[i4]? = some (i1, i2, i3, i4) := by
              rcases (by omega : i4 = 0 ∨ i4 = 1) with z | z <;> subst z <;> exact ⟨(Option.some.inj hi4).symm, rfl⟩
            obtain ⟨rfl, ep⟩ := ex
            refine gname_of ⟨rfl, yes_of ⟨_, rfl, _, rfl, _, rfl, _, rfl, by show 4 ≤ sizeLine; decide, fun z hz => ?_⟩⟩
            obtain ⟨acc, e1, e2, e3⟩ := p9.add kn4 hD hz (i1, i2, i3, i4) (len2 i1 i2 i3 (by omega) (by omega) (by omega) _ (by rw [List.length_take, len3]; omega))
            have e8 : upd H9 z (.tup ((plK (i1, i2, i3, i4)).map kV)) t = some (.tup [.int 0, .int 1]) := Sub.new hz _ _ p8
            refine ⟨acc, e1, e2, ?_, ?_⟩
            · rw [upd_ne (ne_of e8 e1 (by intro y; cases y))]
              exact e8
            · rw [take_snoc ep, ← List.append_assoc]
              exact e3
          · rw [flat_succ, ← List.append_assoc]
            exact p.2
        · rw [flat_succ, ← List.append_assoc]
          exact p3
      · rw [flat_succ, ← nn]
        exact p2
    · rw [mm] at p1
      obtain ⟨s5, acc, e5, d5⟩ := p1
      exact k _ H5 (s04.trans s5) (Dm.lstOf (kn4.out hD) e5 d5)
end
end KZ

namespace KZ
open PySem PySem.Spec PyProof.Rows L2
section
variable {K : PySem.W.Frag} {M : List Addr} {σ : L2.St} {H : Hp} {tr : TA} {ds : List PyData} {d : PyData} {rel : List PyData → PyData → Prop} {E : XK}
end
def rIsLast (ds : List PyData) (d : PyData) : Prop := ∃ (ks : List Kd) (d1 d2 : PyData) (k : Nat) (kd : Kd), ds = [.tuple [.tuple (ks.map kdD), d1, d2], .int (k : Int)] ∧ ks[k]? = some kd ∧ d = .bool (decide (kd.2.2 = (k : Int)))
def lastB (ks : List Kd) (k : Nat) : Bool := decide ((ks.getD k ("", true, 0)).2.2 = (k : Int))
section
variable {P : Program} {w : World} {K : PySem.W.Frag} {mg : Str → Option Value} {base : Heap}
abbrev sIsLast : Stmt := topS 8
theorem scIsLast : FnScope ["house", "kind"] ["house", "kind"] (defScope sIsLast) := ⟨rfl, rfl, rfl, by decide +kernel, rfl, by decide +kernel, by decide +kernel⟩
theorem ok_isLast {f : Addr} {fd : FuncData} (F : Fun K "is_last" "is_last" sIsLast f fd) : FnOk P w K mg base CX0 1 f fd ["house", "kind"] (spPure K rIsLast) := by
  refine F.ok scIsLast (fun vs H Q E h => pure_len (P := True) (fun ds d r => ?_) h) (fun cdv A outer s H vs Q E hr h => ?_)
  · obtain ⟨_, _, _, _, _, rfl, _⟩ := r
    rfl
  · obtain ⟨M, ds, d, kn, hd, ⟨ks, d1, d2, k, kd, rfl, hk, rfl⟩, q⟩ := h
    obtain ⟨vh, vk, rfl, hh, hi⟩ := Dms.two_at hd
    cases hi.intAt
    refine ⟨_, pss_one (ps_ret (pe_cmpR op_eq (pe_ix ix_tup (pe_ix ix_tup (pe_ix ix_tup (pv 0) pe_int (fun _ _ => rfl)) (pv 1) (fun _ _ => rfl)) pe_int (fun _ _ => rfl)) (pv 1) (nomark _))), ?_⟩
    have σh : EvD K M (tVar 0) ([some vh, some (V.int (k : Int))] : L2.St) H (.tuple [.tuple (ks.map kdD), d1, d2]) := evd_var rfl hh
    have σk : EvD K M (tVar 1) ([some vh, some (V.int (k : Int))] : L2.St) H (.int (k : Int)) := evd_var rfl (.int _)
    have q0 : EvD K M _ ([some vh, some (V.int (k : Int))] : L2.St) H (.tuple (ks.map kdD)) := evd_ixT σh (evd_int (i := 0)) (by decide) rfl
    have q1 : EvD K M _ ([some vh, some (V.int (k : Int))] : L2.St) H (kdD kd) := evd_ixT q0 σk (Int.natCast_nonneg _) (by rw [Int.toNat_natCast, List.getElem?_map, hk]; rfl)
    exact evd_ret (K := K) (M := M) (evd_eqI (evd_ixT q1 (evd_int (i := 2)) (by decide) rfl) σk) fun y H1 s1 hy => q y H1 s1 hy
end
end KZ


namespace KZ
open PySem PySem.Spec PyProof.Rows L2
/-! a word in what is shown -/
def Inf (y x : Str) : Prop := y.cps.toList <:+: x.cps.toList
theorem toL_app (a b : Str) : (a ++ b).cps.toList = a.cps.toList ++ b.cps.toList := by
  show (a.cps ++ b.cps).toList = _
  exact Array.toList_append
theorem Inf.left {y a : Str} (b : Str) (h : Inf y a) : Inf y (a ++ b) := by
  unfold Inf at *
  rw [toL_app]
  exact h.trans (List.prefix_append _ _).isInfix
theorem Inf.right {y b : Str} (a : Str) (h : Inf y b) : Inf y (a ++ b) := by
  unfold Inf at *
  rw [toL_app]
  exact h.trans (List.suffix_append _ _).isInfix
theorem Inf.join {y sep : Str} : ∀ {ts : List Str} {t : Str}, t ∈ ts → Inf y t → Inf y (Str.join sep ts)
  | [x], t, ht, h => by
    rw [List.mem_singleton.mp ht] at h
    exact h
  | x :: z :: r, t, ht, h => by
    show Inf y (x ++ sep ++ Str.join sep (z :: r))
    rcases List.mem_cons.mp ht with e | e
    · rw [e] at h
      exact (h.left sep).left _
    · exact (Inf.join e h).right _
theorem Inf.tuple {y : Str} {ds : List PyData} {d : PyData} (hd : d ∈ ds) (h : Inf y d.shown) : Inf y (PyData.shown (.tuple ds)) := by
  have e : PyData.shown (.tuple ds) = tupleText (PyData.shownAll ds) := by simp only [PyData.shown]
  rw [e]
  unfold tupleText
  have m : d.shown ∈ PyData.shownAll ds := by
    clear e h
    induction ds with
    | nil => cases hd
    | cons x r ih =>
      simp only [PyData.shownAll]
      rcases List.mem_cons.mp hd with e | e
      · rw [e]
        exact List.mem_cons_self
      · exact List.mem_cons_of_mem _ (ih e)
  exact ((Inf.join m h).right _).left _
theorem inf_found {x y : Str} (h : Inf y x) : (!(Builtin.Str.occurrences x y 0 x.length 1).isEmpty) = true := by
  rw [PySem.StrLaws.found_iff]
  obtain ⟨a, b, e⟩ := h
  refine ⟨a.length, ?_, ?_⟩
  · have := congrArg List.length e
    rw [List.length_append, List.length_append] at this
    show a.length + y.cps.size ≤ x.cps.size
    rw [← Array.length_toList, ← Array.length_toList]
    omega
  · unfold Builtin.Str.subAt
    rw [beq_iff_eq]
    apply Array.toList_inj.mp
    rw [Array.toList_extract, ← e]
    show ((a ++ y.cps.toList ++ b).drop a.length).take (a.length + y.cps.size - a.length) = _
    rw [Nat.add_sub_cancel_left, List.append_assoc, List.drop_left, ← Array.length_toList, List.take_left]
theorem not_found {x y : Str} {k : Nat} (hy : k ∈ y.cps.toList) (hx : k ∉ x.cps.toList) : (!(Builtin.Str.occurrences x y 0 x.length 1).isEmpty) = false := by
  cases e : (!(Builtin.Str.occurrences x y 0 x.length 1).isEmpty) with
  | false => rfl
  | true =>
    rw [PySem.StrLaws.found_iff] at e
    obtain ⟨i, _, h⟩ := e
    unfold Builtin.Str.subAt at h
    rw [beq_iff_eq] at h
    rw [← h, Array.toList_extract] at hy
    exact absurd (List.mem_of_mem_drop (List.mem_of_mem_take hy)) hx
/-- a sign that is in no part, nor in what stands between -/
theorem out_tuple {k : Nat} {ds : List PyData} (hk : k ≠ 40 ∧ k ≠ 41 ∧ k ≠ 44 ∧ k ≠ 32) (h : ∀ d ∈ ds, k ∉ d.shown.cps.toList) : k ∉ (PyData.shown (.tuple ds)).cps.toList := by
  have e : PyData.shown (.tuple ds) = tupleText (PyData.shownAll ds) := by simp only [PyData.shown]
  rw [e]
  unfold tupleText
  rw [toL_app, toL_app]
  have m : ∀ t ∈ PyData.shownAll ds, k ∉ t.cps.toList := by
    clear e
    induction ds with
    | nil =>
      intro t ht
      simp only [PyData.shownAll] at ht
      cases ht
    | cons x r ih =>
      intro t ht
      simp only [PyData.shownAll] at ht
      rcases List.mem_cons.mp ht with z | z
      · rw [z]
        exact h x List.mem_cons_self
      · exact ih (fun d hd => h d (List.mem_cons_of_mem _ hd)) t z
  intro z
  rcases List.mem_append.mp z with z | z
  · rcases List.mem_append.mp z with z | z
    · have : k = 40 := by
        have e1 : (("(" : String) : Str).cps.toList = [40] := by decide +kernel
        rw [e1] at z
        exact List.mem_singleton.mp z
      exact hk.1 this
    · rw [mem_join] at z
      rcases z with ⟨t, ht, z⟩ | ⟨_, z⟩
      · exact m t ht z
      · have e1 : ((", " : String) : Str).cps.toList = [44, 32] := by decide +kernel
        rw [e1] at z
        simp only [List.mem_cons, List.not_mem_nil, or_false] at z
        rcases z with z | z
        · exact hk.2.2.1 z
        · exact hk.2.2.2 z
  · have e1 : ((",)" : String) : Str).cps.toList = [44, 41] := by decide +kernel
    have e2 : ((")" : String) : Str).cps.toList = [41] := by decide +kernel
    split at z
    · rw [e1] at z
      simp only [List.mem_cons, List.not_mem_nil, or_false] at z
      rcases z with z | z
      · exact hk.2.2.1 z
      · exact hk.2.1 z
    · rw [e2] at z
      exact hk.2.1 (List.mem_singleton.mp z)
def ouB (j : Jud) : Bool := j.any fun t => t.any fun r => r.any fun c => decide (c.1 = "oust") || decide (c.2 = "oust")
theorem word_text {x : Str} (h : x ∈ Words) : (x = "oust" → Inf "oust" (PyData.shown (.str x))) ∧ (x ≠ "oust" → 111 ∉ (PyData.shown (.str x)).cps.toList) := by
  have e : PyData.shown (.str x) = reprText x := by simp only [PyData.shown]
  rw [e]
  have all : ∀ x ∈ Words, (x = "oust" → (reprText x).cps.toList = [39] ++ ("oust" : Str).cps.toList ++ [39]) ∧ (x ≠ "oust" → 111 ∉ (reprText x).cps.toList) := by
    unfold Words
    decide +kernel
  obtain ⟨h1, h2⟩ := all x h
  exact ⟨fun z => ⟨[39], [39], (h1 z).symm⟩, h2⟩
theorem oust_text {n m : Nat} {j : Jud} (ok : JudOk n m j) : (!(Builtin.Str.occurrences (PyData.shown (judD j)) "oust" 0 (PyData.shown (judD j)).length 1).isEmpty) = ouB j := by
  cases e : ouB j with
  | true =>
    refine inf_found ?_
    unfold ouB at e
    obtain ⟨t, ht, e⟩ := List.any_eq_true.mp e
    obtain ⟨r, hr, e⟩ := List.any_eq_true.mp e
    obtain ⟨c, hc, e⟩ := List.any_eq_true.mp e
    have okc := ((ok.2 t ht).2 r hr).2 c hc
    refine Inf.tuple (List.mem_map_of_mem ht) (Inf.tuple (List.mem_map_of_mem hr) (Inf.tuple (List.mem_map_of_mem hc) ?_))
    rw [Bool.or_eq_true] at e
    rcases e with e | e
    · exact Inf.tuple (d := .str c.1) (by simp) ((word_text okc.1).1 (of_decide_eq_true e))
    · exact Inf.tuple (d := .str c.2) (by simp) ((word_text okc.2).1 (of_decide_eq_true e))
  | false =>
    have hk : (111 : Nat) ≠ 40 ∧ (111 : Nat) ≠ 41 ∧ (111 : Nat) ≠ 44 ∧ (111 : Nat) ≠ 32 := by decide
    refine not_found (k := 111) (by decide +kernel) ?_
    refine out_tuple hk fun d hd => ?_
    obtain ⟨t, ht, rfl⟩ := List.mem_map.mp hd
    refine out_tuple hk fun d hd => ?_
    obtain ⟨r, hr, rfl⟩ := List.mem_map.mp hd
    refine out_tuple hk fun d hd => ?_
    obtain ⟨c, hc, rfl⟩ := List.mem_map.mp hd
    have okc := ((ok.2 t ht).2 r hr).2 c hc
    have no : ¬ c.1 = "oust" ∧ ¬ c.2 = "oust" := by
      unfold ouB at e
      rw [List.any_eq_false] at e
      have e := e t ht
      rw [Bool.not_eq_true, List.any_eq_false] at e
      have e := e r hr
      rw [Bool.not_eq_true, List.any_eq_false] at e
      have e := e c hc
      rw [Bool.not_eq_true, Bool.or_eq_false_iff] at e
      exact ⟨of_decide_eq_false e.1, of_decide_eq_false e.2⟩
    refine out_tuple hk fun d hd => ?_
    simp only [List.mem_cons, List.not_mem_nil, or_false] at hd
    rcases hd with hd | hd
    · rw [hd]
      exact (word_text okc.1).2 no.1
    · rw [hd]
      exact (word_text okc.2).2 no.2
end KZ

namespace KZ
open PySem PySem.Spec PyProof.Rows L2
theorem ousts_is {n m : Nat} {j : Jud} (ok : JudOk n m j) : ((plL n m).filter fun p => decide (wordAt j p = "oust")).isEmpty = !ouB j := by
  cases e : ouB j with
  | false =>
    have : (plL n m).filter (fun p => decide (wordAt j p = "oust")) = [] := by
      rw [List.filter_eq_nil_iff]
      intro p hp hw
      obtain ⟨e1, e2, e3⟩ := judAt ok (mem_plL hp)
      have hw := of_decide_eq_true hw
      unfold ouB at e
      rw [List.any_eq_false] at e
      have e := e _ (List.mem_of_getElem? e1)
      rw [Bool.not_eq_true, List.any_eq_false] at e
      have e := e _ (List.mem_of_getElem? e2)
      rw [Bool.not_eq_true, List.any_eq_false] at e
      have e := e _ (List.mem_of_getElem? e3)
      rw [Bool.not_eq_true, Bool.or_eq_false_iff] at e
      unfold wordAt side at hw
      split at hw
      · exact absurd hw (of_decide_eq_false e.1)
      · exact absurd hw (of_decide_eq_false e.2)
    rw [this]
    rfl
  | true =>
    unfold ouB at e
    obtain ⟨t, ht, e⟩ := List.any_eq_true.mp e
    obtain ⟨r, hr, e⟩ := List.any_eq_true.mp e
    obtain ⟨c, hc, e⟩ := List.any_eq_true.mp e
    obtain ⟨s, hs⟩ := List.mem_iff_getElem?.mp ht
    obtain ⟨a, ha⟩ := List.mem_iff_getElem?.mp hr
    obtain ⟨b, hb⟩ := List.mem_iff_getElem?.mp hc
    have tok := ok.2 t ht
    have rok := tok.2 r hr
    have sl := (List.getElem?_eq_some_iff.mp hs).1
    have al := (List.getElem?_eq_some_iff.mp ha).1
    have bl := (List.getElem?_eq_some_iff.mp hb).1
    rw [ok.1] at sl
    rw [tok.1] at al
    rw [rok.1] at bl
    have word : ∀ d, d < 2 → side c d = "oust" → ((plL n m).filter fun p => decide (wordAt j p = "oust")).isEmpty = !true := fun d hd hw => by
      have mem : (s, a, b, d) ∈ (plL n m).filter fun p => decide (wordAt j p = "oust") := by
        refine List.mem_filter.mpr ⟨plL_mem ⟨sl, al, bl, hd⟩, decide_eq_true ?_⟩
        unfold wordAt
        have g1 : j.getD s [] = t := by
          rw [List.getD_eq_getElem?_getD, hs]
          rfl
        have g2 : t.getD a [] = r := by
          rw [List.getD_eq_getElem?_getD, ha]
          rfl
        have g3 : r.getD b ("", "") = c := by
          rw [List.getD_eq_getElem?_getD, hb]
          rfl
        show side (((j.getD s []).getD a []).getD b ("", "")) d = "oust"
        rw [g1, g2, g3]
        exact hw
      cases ef : (plL n m).filter fun p => decide (wordAt j p = "oust") with
      | nil =>
        rw [ef] at mem
        cases mem
      | cons x l => rfl
    rw [Bool.or_eq_true] at e
    rcases e with e | e
    · exact word 0 (by decide) (by
        unfold side
        rw [if_pos rfl]
        exact of_decide_eq_true e)
    · exact word 1 (by decide) (by
        unfold side
        rw [if_neg (by decide)]
        exact of_decide_eq_true e)
def lastsB (h : Hou) : Bool := ((List.range h.ks.length).map (lastB h.ks)).all id
def meekQ (h : Hou) : Bool := !ouB h.j && lastsB h
def rMeekQ (ds : List PyData) (d : PyData) : Prop := ∃ h : Hou, ds = [houD h] ∧ HQ h ∧ d = .bool (meekQ h)
section
variable {K : PySem.W.Frag} {M : List Addr} {σ : L2.St} {H : Hp} {te : TE}
theorem evd_pofQ {h : Hou} {E : XK} (n : Kn M H) (x : HQ h) (hh : EvD K M te σ H (houD h)) : EvD K M (tCall (spPof K) [] E (tCons te tNil)) σ H (.list ((plL h.ks.length h.ss.length).map plD)) :=
  evd_call (evds_cons hh evds_nil) fun vs H1 Q E s hd q => by
    obtain ⟨v, rfl, hv⟩ := Dms.one_at hd
    have k5 := x.k5
    have s4 := x.s4
    refine ⟨M, v, h.ks.map kdD, h.ss.map PyData.str, judD h.j, rfl, n.sub s, hv, by rw [List.length_map]; omega, by rw [List.length_map]; omega, fun y H' s' hy => q y H' s' ?_⟩
    rw [List.length_map, List.length_map] at hy
    exact hy
theorem pl_fewQ {h : Hou} (x : HQ h) : ((plL h.ks.length h.ss.length).map plD).length < 100000 := by
  have k5 := x.k5
  have s4 := x.s4
  rw [List.length_map, len0]
  have := Nat.mul_le_mul (show h.ss.length ≤ 3 by omega) (Nat.mul_le_mul (show h.ks.length ≤ 4 by omega) (Nat.mul_le_mul (show h.ks.length ≤ 4 by omega) (Nat.le_refl 2)))
  omega
theorem kd_atQ {ks : List Kd} {k : Nat} (h : k < ks.length) : ks[k]? = some (ks.getD k ("", true, 0)) := getD_of h _
end
section
variable {P : Program} {w : World} {K : PySem.W.Frag} {mg : Str → Option Value} {base : Heap}
abbrev sMeek : Stmt := topS 9
theorem scMeek : FnScope ["house", "ousts", "place", "kind"] ["house"] (defScope sMeek) := ⟨rfl, rfl, rfl, by decide +kernel, rfl, by decide +kernel, by decide +kernel⟩
theorem ok_meek {f fP fW fL : Addr} {fd fdP fdW fdL : FuncData} (F : Fun K "is_meek" "is_meek" sMeek f fd) (T : Txt mg) (za : mg "all" = none) (CP : Cal P w K mg base "places_of" 1 ["house"] (spPof K) fP fdP) (CW : Cal P w K mg base "word_at" 1 ["house", "place"] (spPure K rWatP) fW fdW)
    (CL : Cal P w K mg base "is_last" 1 ["house", "kind"] (spPure K rIsLast) fL fdL) : FnOk P w K mg base CX0 2 f fd ["house"] (spPure K rMeekQ) := by
  refine F.ok scMeek (fun vs H Q E h => pure_len (P := True) (fun ds d r => ?_) h) (fun cdv A outer s H vs Q E hr h => ?_)
  · obtain ⟨_, rfl, _⟩ := r
    rfl
  · obtain ⟨M, ds, d, kn, hd, ⟨h, rfl, x, rfl⟩, q⟩ := h
    obtain ⟨vh, rfl, hh⟩ := Dms.one_at hd
    refine ⟨_, pss_cons (ps_setLc (i := 1) (own := [("place", 2)]) (g := gName 2) (tt := tTest (tOp rEq (tCall (spPure K rWatP) [] E0 (tCons (tVar 0) (tCons (tVar 2) tNil))) (tC (.str "oust")))) rfl scMeek.nd rfl rfl rfl (pi_list (pcl CP hr (pa_cons (pv 0) pa_nil))) (blkOk_by (N := ["house", "ousts", "place", "kind"]) (sc := defScope sMeek) (by decide +kernel)) (fun _ _ _ _ _ => pg_name (i := 2) scMeek.nd rfl (Or.inl rfl))
        (fun _ _ _ _ _ => pts_one (pt_cmpR op_eq (pcl CW hr (pa_cons (pv 0) (pa_cons (pv 2) pa_nil))) pe_str (nomark _))) (fun _ _ _ _ _ => pv 2))
      (pss_one (ps_ret (pe_and (pe_notT (pv 1)) (pe_one (pe_callB (cr_all rfl) (by rfl) za PyProof.Rows.boot_all (pa_cons (pe_lc (own := [("kind", 3)]) (g := gName 3) (tt := tYes) rfl scMeek.nd (pi_range1 rfl T.range (pa_cons (pe_callB call_len_seq (by rfl) T.len PySem.boot_len (pa_cons (pe_ix ix_tup (pv 0) pe_int (fun _ _ => rfl)) pa_nil)) pa_nil)) (blkOk_by (N := ["house", "ousts", "place", "kind"]) (sc := defScope sMeek) (by decide +kernel)) (fun _ _ _ _ _ => pg_name (i := 3) scMeek.nd rfl (Or.inl rfl)) (fun _ _ _ _ _ => pts_nil)
        (fun _ _ _ _ _ => pcl CL hr (pa_cons (pv 0) (pa_cons (pv 3) pa_nil)))) pa_nil)))))), ?_⟩
    have e0 : EvD K M (tVar 0) ([some vh, none, none, none] : L2.St) H (houD h) := evd_var rfl hh
    have k5 := x.k5
    refine evd_sset (K := K) (M := M) (d := .list (((plL h.ks.length h.ss.length).filter fun p => decide (wordAt h.j p = "oust")).map plD)) (EvNL.toD kn ?_) fun v1 H1 s1 h1 => ?_
    · rw [← filter_pl]
      refine evd_lcF (fun d => decide (wordAt h.j (unPl d) = "oust")) (fun d => d) kn (evd_pofQ kn x e0) (pl_fewQ x) (by intro z; rfl) ?_ ?_
      · intro Dl hD d z H1 s1 n1 hdm hz
        obtain ⟨p, hp, rfl⟩ := List.mem_map.mp hdm
        have hin := mem_plL hp
        have hh1 : Dm K (Dl :: M) H1 vh (houD h) := Dm.s (Dm.more hh hD) s1
        show EvB _ _ _ (decide (wordAt h.j (unPl (plD p)) = "oust"))
        rw [unPl_of]
        exact evb_test (evd_eqS (evd_pure (rel := rWatP) (E := E0) n1 (evds_cons (evd_var (i := 0) rfl hh1) (evds_cons (evd_var (i := 2) rfl hz) evds_nil)) ⟨_, _, h.j, _, _, p, rfl, x.j, hin, rfl⟩) evd_str)
      · intro Dl hD d z H1 s1 n1 hdm _ hz
        exact evd_var rfl hz
    · have n1 := kn.sub s1
      have hh1 := Dm.s hh s1
      refine evd_ret (K := K) (M := M) (d := .bool (meekQ h)) ?_ fun y H2 s2 hy => q y H2 (s1.trans s2) hy
      unfold meekQ lastsB
      rw [← ousts_is x.j, ← List.isEmpty_map (f := plD)]
      refine evd_and (evd_notL (evd_var (i := 1) rfl h1)) fun _ => evd_all (EvNL.toD n1 ?_)
      rw [List.map_map, show (h.ks.length : Nat) = ((h.ks.length : Int)).toNat from (Int.toNat_natCast _).symm]
      have eln := evd_kinds (K := K) (M := M) (h := h) (evd_var (i := 0) (σ := [some vh, some v1, none, none]) rfl hh1)
      refine evd_lcR (m := (h.ks.length : Int)) _ n1 (evds_cons eln evds_nil) (by omega) (by omega) (by intro z; rfl) ?_
      intro Dl hD i H2 s2 n2 hi
      have hh2 : Dm K (Dl :: M) H2 vh (houD h) := Dm.s (Dm.more hh1 hD) s2
      have hi' : i < h.ks.length := by omega
      exact evd_pure (rel := rIsLast) (E := E0) n2 (evds_cons (evd_var (i := 0) (σ := [some vh, some v1, none, some (V.int (i : Int))]) rfl hh2) (evds_cons (evd_var (i := 3) rfl (.int (i : Int))) evds_nil)) ⟨h.ks, _, _, i, _, rfl, kd_atQ hi', rfl⟩
/-! the law's own look -/
abbrev sLMeek : Stmt := topS 39
theorem scLMeek : FnScope ["house", "kind"] ["house"] (defScope sLMeek) := ⟨rfl, rfl, rfl, by decide +kernel, rfl, by decide +kernel, by decide +kernel⟩
abbrev tRiseNe (K : PySem.W.Frag) : TT := tTest (tOp rNe (tOp (rIxT K) (tOp (rIxT K) (tOp (rIxT K) (tVar 0) (tC (.int 0))) (tVar 1)) (tC (.int 2))) (tVar 1))
theorem all_notB (l : List Nat) (f : Nat → Bool) : ((l.filter fun x => !f x).map fun i : Nat => PyData.int (i : Int)).isEmpty = (l.map f).all id := by
  rw [List.isEmpty_map]
  induction l with
  | nil => rfl
  | cons a l ih =>
    rw [List.filter_cons, List.map_cons, List.all_cons]
    cases e : f a with
    | true =>
      rw [if_neg (by simp)]
      exact ih
    | false =>
      rw [if_pos (by simp)]
      rfl
theorem ok_lMeek {f : Addr} {fd : FuncData} (F : Fun K "_law_is_meek" "_law_is_meek" sLMeek f fd) (T : Txt mg) : FnG P w K mg base 1 f fd ["house"] (spPure K rMeekQ) := by
  refine fun_okG F scLMeek (fun vs H Q E h => pure_len (P := True) (fun ds d r => ?_) h) (fun cdv A outer s H vs Q E gs hr h => ?_)
  · obtain ⟨_, rfl, _⟩ := r
    rfl
  · obtain ⟨M, ds, d, kn, hd, ⟨h, rfl, x, rfl⟩, q⟩ := h
    obtain ⟨vh, rfl, hh⟩ := Dms.one_at hd
    have k5 := x.k5
    have s4 := x.s4
    refine ⟨_, pss_cons (ps_if (pt_cmpR (op_neD hr.units) (pe_lc (own := [("kind", 1)]) (g := gName 1) (tt := tRiseNe K) (te := tVar 1) rfl scLMeek.nd (pi_range1 rfl T.range (pa_cons (pe_callB call_len_seq (by rfl) T.len PySem.boot_len (pa_cons (pe_ix ix_tup (pv 0) pe_int (fun _ _ => rfl)) pa_nil)) pa_nil)) (blkOk_by (N := ["house", "kind"]) (sc := defScope sLMeek) (by decide +kernel)) (fun _ _ _ _ _ => pg_name (i := 1) scLMeek.nd rfl (Or.inl rfl))
        (fun _ _ _ _ _ => pts_one (pt_cmpR op_ne (pe_ix ix_tup (pe_ix ix_tup (pe_ix ix_tup (pv 0) pe_int (fun _ _ => rfl)) (pv 1) (fun _ _ => rfl)) pe_int (fun _ _ => rfl)) (pv 1) (nomark _))) (fun _ _ _ _ _ => pv 1)) (pe_lst pa_nil) (nomark _)) (pss_one (ps_ret pe_bl)) pss_nil)
      (pss_one (ps_ret (pe_cmpR op_notin_str pe_str (pe_callB (call_repr gs hr.units) (by rfl) T.repr PyProof.Rows.boot_repr (pa_cons (pe_ix ix_tup (pv 0) pe_int (fun _ _ => rfl)) pa_nil)) rfl))), ?_⟩
    have e0 : EvD K M (tVar 0) ([some vh, none] : L2.St) H (houD h) := evd_var rfl hh
    have eln := evd_kinds (K := K) (M := M) (h := h) e0
    have lc := evd_lcRF (K := K) (M := M) (σ := [some vh, none]) (H := H) (vs := [1]) (j := 1) (tr := tCons (tCB (rLenS K) (tCons (tOp (rIxT K) (tVar 0) (tC (.int 0))) tNil)) tNil) (tt := tRiseNe K) (tb := tVar 1) (m := (h.ks.length : Int)) (fun i => !lastB h.ks i) (fun i => .int (i : Int)) kn (evds_cons eln evds_nil) (by omega) (by omega) (by intro z; rfl)
      (fun Dl hD i H1 s1 n1 hi => by
        have hi' : i < h.ks.length := by omega
        have eh : EvD K (Dl :: M) (tVar 0) ([some vh, some (.int (i : Int))] : L2.St) H1 (houD h) := evd_var rfl (Dm.s (Dm.more hh hD) s1)
        have ei : EvD K (Dl :: M) (tVar 1) ([some vh, some (.int (i : Int))] : L2.St) H1 (.int (i : Int)) := evd_var rfl (.int _)
        have e1 : EvD K (Dl :: M) _ ([some vh, some (.int (i : Int))] : L2.St) H1 (.tuple (h.ks.map kdD)) := evd_ixT eh (evd_int (i := 0)) (by decide) rfl
        have e2 : EvD K (Dl :: M) _ ([some vh, some (.int (i : Int))] : L2.St) H1 (kdD (h.ks.getD i ("", true, 0))) := evd_ixT e1 ei (Int.natCast_nonneg _) (by rw [Int.toNat_natCast, List.getElem?_map, kd_atQ hi']; rfl)
        exact evb_test (evd_neI (evd_ixT e2 (evd_int (i := 2)) (by decide) rfl) ei))
      (fun Dl hD i H1 s1 n1 hi => evd_var (i := 1) rfl (.int _))
    rw [Int.toNat_natCast] at lc
    have glc : Good (.list (((List.range h.ks.length).filter fun i => !lastB h.ks i).map fun i : Nat => PyData.int (i : Int))) 2300 1 := by
      refine good_intL (c := (List.range h.ks.length).filter fun i => !lastB h.ks i) (fun k hk => ?_) ?_
      · have := List.mem_range.mp (List.mem_filter.mp hk).1
        omega
      · have := List.length_filter_le (fun i => !lastB h.ks i) (List.range h.ks.length)
        rw [List.length_range] at this
        omega
    refine (evb_test (evd_neNil (EvNL.toD kn lc) (evd_lst kn evds_nil (by decide)) glc (by decide))) H (Sub.refl _) _ fun H1 s1 => ?_
    rw [all_notB]
    have em : meekQ h = (!ouB h.j && lastsB h) := rfl
    unfold lastsB at em
    refine ite2 (fun e => ?_) (fun e => ?_)
    · rw [Bool.not_eq_true'] at e
      rw [em, e, Bool.and_false] at q
      exact ret_of (q _ H1 s1 (.bl _))
    · have e' : ((List.range h.ks.length).map (lastB h.ks)).all id = true := by
        cases z : ((List.range h.ks.length).map (lastB h.ks)).all id with
        | true => rfl
        | false =>
          rw [z] at e
          exact absurd rfl e
      rw [em, e', Bool.and_true, ← oust_text x.j] at q
      unfold tNext
      dsimp only
      refine ret_of ?_
      have ej : EvD K M (tOp (rIxT K) (tVar 0) (tC (.int 2))) ([some vh, none] : L2.St) H1 (judD h.j) := evd_ixT (e0.sub s1) (evd_int (i := 2)) (by decide) rfl
      refine c_of (cb_args (ej H1 (Sub.refl _) _ fun v H2 s2 hv => ?_))
      exact ⟨v, _, 60000, 4, rfl, hv.all, good_jud (by omega) (by omega) x.j, by decide, by decide, _, _, rfl, rfl, q _ H2 (s1.trans s2) (.bl _)⟩
end
end KZ

namespace KB
section
variable {E : Nat → Nat → Bool} {n : Nat}
/-! rows in which nobody stands ahead of one that it leads to -/
structure Ord (E : Nat → Nat → Bool) (n : Nat) (ord : List Nat) : Prop where
  nd : ord.Nodup
  lt : ∀ x ∈ ord, x < n
  up : ∀ a x b, ord = a ++ x :: b → ∀ y, y < n → E x y = true → y ∈ a
theorem Ord.nil : Ord E n [] := ⟨List.nodup_nil, fun _ h => (nomatch h), fun a x b e => by simp at e⟩
theorem Ord.snoc {ord : List Nat} (o : Ord E n ord) {x : Nat} (hx : x < n) (nx : x ∉ ord) (h : ∀ y, y < n → E x y = true → y ∈ ord) : Ord E n (ord ++ [x]) := by
  refine ⟨?_, ?_, ?_⟩
  · rw [List.nodup_append]
    refine ⟨o.nd, by simp, fun a ha b hb => ?_⟩
    rw [List.mem_singleton.mp hb]
    intro e
    rw [e] at ha
    exact nx ha
  · intro y hy
    rcases List.mem_append.mp hy with z | z
    · exact o.lt y z
    · rw [List.mem_singleton.mp z]
      exact hx
  · intro a z b e y hy hE
    rcases List.append_eq_append_iff.mp e with ⟨c, e1, e2⟩ | ⟨c, e1, e2⟩
    · -- a = ord ++ c, [x] = c ++ z :: b
      cases c with
      | nil =>
        rw [List.nil_append] at e2
        cases e2
        rw [e1, List.append_nil]
        exact h y hy hE
      | cons w c =>
        have := congrArg List.length e2
        simp at this
    · -- ord = a ++ c, z :: b = c ++ [x]
      cases c with
      | nil =>
        rw [List.nil_append] at e2
        cases e2
        rw [List.append_nil] at e1
        rw [← e1]
        exact h y hy hE
      | cons w c =>
        rw [List.cons_append] at e2
        injection e2 with e3 e4
        exact o.up a z c (by rw [e1, e3]) y hy hE
theorem Ord.few {ord : List Nat} (o : Ord E n ord) : ord.length ≤ n := nd_len o.nd o.lt
theorem Ord.full {ord : List Nat} (o : Ord E n ord) (h : n ≤ ord.length) {x : Nat} (hx : x < n) : x ∈ ord := by
  by_cases m : x ∈ ord
  · exact m
  · have := nd_len (n := n) (List.nodup_cons.mpr ⟨m, o.nd⟩) fun y hy => by
      rcases List.mem_cons.mp hy with z | z
      · rw [z]
        exact hx
      · exact o.lt y z
    rw [List.length_cons] at this
    omega
def pos : List Nat → Nat → Nat
  | [], _ => 0
  | h :: t, x => if h = x then 0 else pos t x + 1
theorem pos_in : ∀ (a b : List Nat) (y : Nat), y ∈ a → pos (a ++ b) y < a.length
  | h :: t, b, y, m => by
    show (if h = y then 0 else pos (t ++ b) y + 1) < _
    by_cases e : h = y
    · rw [if_pos e]
      exact Nat.zero_lt_succ _
    · rw [if_neg e, List.length_cons]
      rcases List.mem_cons.mp m with z | z
      · exact absurd z.symm e
      · have := pos_in t b y z
        omega
theorem pos_out : ∀ (a b : List Nat) (x : Nat), x ∉ a → pos (a ++ x :: b) x = a.length
  | [], b, x, _ => by
    show (if x = x then 0 else _) = 0
    rw [if_pos rfl]
  | h :: t, b, x, m => by
    show (if h = x then 0 else pos (t ++ x :: b) x + 1) = _
    rw [if_neg (fun e => m (by rw [e]; exact List.mem_cons_self)), pos_out t b x (fun z => m (List.mem_cons_of_mem _ z))]
    rfl
theorem Ord.pos_lt {ord : List Nat} (o : Ord E n ord) {x y : Nat} (hx : x ∈ ord) (hy : y < n) (he : E x y = true) : KB.pos ord y < KB.pos ord x := by
  obtain ⟨a, b, e⟩ := List.append_of_mem hx
  have ya := o.up a x b e y hy he
  have nx : x ∉ a := fun z => by
    have := o.nd
    rw [e, List.nodup_append] at this
    exact this.2.2 x z x List.mem_cons_self rfl
  rw [e, pos_out a b x nx]
  exact pos_in a _ y ya
theorem Ord.no {ord : List Nat} (o : Ord E n ord) (h : n ≤ ord.length) : ∀ a k, a < n → ¬ Cl E n a k := by
  rintro a k ha ⟨b, w, he⟩
  have go : ∀ b k, Wk E n a b k → b < n ∧ pos ord b + k ≤ pos ord a := by
    intro b k w
    induction w with
    | nil => exact ⟨ha, Nat.le_refl _⟩
    | snoc w he hx ih =>
      have := o.pos_lt (o.full h ih.1) hx he
      exact ⟨hx, by omega⟩
  obtain ⟨hb, l⟩ := go b k w
  have := o.pos_lt (o.full h hb) ha he
  omega
/-- who cannot be put behind goes round -/
theorem stuck {S : List Nat} (h : ∀ x, x < n → x ∉ S → ∃ y, y < n ∧ E x y = true ∧ y ∉ S) {x0 : Nat} (h0 : x0 < n) (n0 : x0 ∉ S) : ∃ a k, a < n ∧ Cl E n a k := by
  let T := { x : Nat // x < n ∧ x ∉ S }
  have stp : ∀ t : T, ∃ u : T, E t.1 u.1 = true := fun t => by
    obtain ⟨y, hy, he, ny⟩ := h t.1 t.2.1 t.2.2
    exact ⟨⟨y, hy, ny⟩, he⟩
  let f : T → T := fun t => Classical.choose (stp t)
  have fE : ∀ t : T, E t.1 (f t).1 = true := fun t => Classical.choose_spec (stp t)
  let sq : Nat → T := fun i => Nat.rec ⟨x0, h0, n0⟩ (fun _ t => f t) i
  have sqs : ∀ i, sq (i + 1) = f (sq i) := fun i => rfl
  have wk : ∀ i k, Wk E n (sq i).1 (sq (i + k)).1 k := by
    intro i k
    induction k with
    | zero => exact .nil
    | succ k ih =>
      have e : sq (i + (k + 1)) = f (sq (i + k)) := sqs (i + k)
      rw [e]
      exact ih.snoc (fE _) (f (sq (i + k))).2.1
  by_cases c : ∃ i j, i < j ∧ (sq i).1 = (sq j).1
  · obtain ⟨i, j, l, e⟩ := c
    obtain ⟨k, rfl⟩ : ∃ k, j = i + k + 1 := ⟨j - i - 1, by omega⟩
    refine ⟨(sq i).1, k, (sq i).2.1, (sq (i + k)).1, wk i k, ?_⟩
    rw [e]
    exact fE _
  · have nd : ((List.range (n + 1)).map fun i => (sq i).1).Nodup := by
      refine List.pairwise_map.mpr (List.Pairwise.imp (fun {a b} l e => c ⟨a, b, l, e⟩) List.pairwise_lt_range)
    have := nd_len (n := n) nd fun x hx => by
      obtain ⟨i, _, rfl⟩ := List.mem_map.mp hx
      exact (sq i).2.1
    rw [List.length_map, List.length_range] at this
    omega
/-- where nobody goes round, some one can be put behind -/
theorem next_one {S : List Nat} (no : ∀ a k, a < n → ¬ Cl E n a k) {x0 : Nat} (h0 : x0 < n) (n0 : x0 ∉ S) : ∃ x, x < n ∧ x ∉ S ∧ ∀ y, y < n → E x y = true → y ∈ S := by
  by_cases c : ∃ x, x < n ∧ x ∉ S ∧ ∀ y, y < n → E x y = true → y ∈ S
  · exact c
  · obtain ⟨a, k, ha, hc⟩ := stuck (E := E) (n := n) (S := S) (fun x hx nx => by
      by_cases d : ∃ y, y < n ∧ E x y = true ∧ y ∉ S
      · exact d
      · refine absurd ⟨x, hx, nx, fun y hy he => ?_⟩ c
        by_cases m : y ∈ S
        · exact m
        · exact absurd ⟨y, hy, he, m⟩ d) h0 n0
    exact absurd hc (no a k ha)
/-! how often -/
abbrev Far2 := List (Nat × Nat)
def up (E : Nat → Nat → Bool) (n x : Nat) : List Nat := (List.range n).filter (E x)
theorem mem_up {x y : Nat} : y ∈ up E n x ↔ y < n ∧ E x y = true := by
  unfold up
  rw [List.mem_filter, List.mem_range]
def IsMost (E : Nat → Nat → Bool) (n : Nat) (l : List Nat) : Prop := l.length = n ∧ ∀ x, x < n → l.getD x 0 = 1 + ((up E n x).map fun y => l.getD y 0).sum
theorem most_uni {ord l l' : List Nat} (o : Ord E n ord) (h : n ≤ ord.length) (m : IsMost E n l) (m' : IsMost E n l') : l = l' := by
  have go : ∀ k x, x < n → pos ord x ≤ k → l.getD x 0 = l'.getD x 0 := by
    intro k
    induction k with
    | zero =>
      intro x hx hp
      rw [m.2 x hx, m'.2 x hx]
      congr 2
      refine List.map_congr_left fun y hy => ?_
      obtain ⟨hy, he⟩ := mem_up.mp hy
      have := o.pos_lt (o.full h hx) hy he
      omega
    | succ k ih =>
      intro x hx hp
      rw [m.2 x hx, m'.2 x hx]
      congr 2
      refine List.map_congr_left fun y hy => ?_
      obtain ⟨hy, he⟩ := mem_up.mp hy
      have := o.pos_lt (o.full h hx) hy he
      exact ih y hy (by omega)
  refine List.ext_getElem (by rw [m.1, m'.1]) fun i h1 h2 => ?_
  have := go (pos ord i) i (by rw [← m.1]; exact h1) (Nat.le_refl _)
  rw [List.getD_eq_getElem?_getD, List.getD_eq_getElem?_getD, List.getElem?_eq_getElem h1, List.getElem?_eq_getElem h2] at this
  exact this
/-- a table that is right so far -/
structure TabM (E : Nat → Nat → Bool) (n : Nat) (far : Far2) : Prop where
  nd : (far.map (·.1)).Nodup
  v : ∀ x k, (x, k) ∈ far → (∀ y ∈ up E n x, has far y = true) ∧ k = 1 + ((up E n x).map fun y => (val far y).getD 0).sum
theorem TabM.nil : TabM E n [] := ⟨by simp, fun _ _ h => nomatch h⟩
theorem val_old {far : Far2} {x y k : Nat} (nd : (far.map (·.1)).Nodup) (nx : has far x = false) (hy : has far y = true) : val (far ++ [(x, k)]) y = val far y := by
  obtain ⟨j, hj⟩ := has_iff.mp hy
  rw [val_mem nd hj, val_mem (nd_snoc nd nx) (List.mem_append_left _ hj)]
theorem TabM.add {far : Far2} (t : TabM E n far) {x : Nat} (nx : has far x = false) (hu : ∀ y ∈ up E n x, has far y = true) : TabM E n (far ++ [(x, 1 + ((up E n x).map fun y => (val far y).getD 0).sum)]) := by
  refine ⟨nd_snoc t.nd nx, fun z k hz => ?_⟩
  have same : ∀ z, (∀ y ∈ up E n z, has far y = true) → ((up E n z).map fun y => (val (far ++ [(x, 1 + ((up E n x).map fun y => (val far y).getD 0).sum)]) y).getD 0).sum = ((up E n z).map fun y => (val far y).getD 0).sum := fun z hz => by
    congr 1
    refine List.map_congr_left fun y hy => ?_
    rw [val_old t.nd nx (hz y hy)]
  rcases List.mem_append.mp hz with m | m
  · obtain ⟨h1, h2⟩ := t.v z k m
    refine ⟨fun y hy => by rw [has_app, h1 y hy]; rfl, ?_⟩
    rw [same z h1]
    exact h2
  · have := List.mem_singleton.mp m
    cases this
    refine ⟨fun y hy => by rw [has_app, hu y hy]; rfl, ?_⟩
    rw [same _ hu]
theorem TabM.most {far : Far2} (t : TabM E n far) (all : ∀ x, x < n → has far x = true) : IsMost E n ((List.range n).map fun x => (val far x).getD 0) := by
  have get : ∀ x, x < n → ((List.range n).map fun x => (val far x).getD 0).getD x 0 = (val far x).getD 0 := fun x hx => by
    rw [List.getD_eq_getElem?_getD, List.getElem?_map, List.getElem?_range hx]
    rfl
  refine ⟨by rw [List.length_map, List.length_range], fun x hx => ?_⟩
  rw [get x hx]
  obtain ⟨k, hk⟩ := has_iff.mp (all x hx)
  rw [val_mem t.nd hk]
  show k = _
  rw [(t.v x k hk).2]
  congr 2
  refine List.map_congr_left fun y hy => ?_
  rw [get y (mem_up.mp hy).1]
end
end KB

namespace KB
theorem miss_one : ∀ (n : Nat) (l : List Nat), l.length < n → ∃ x, x < n ∧ x ∉ l
  | 0, _, h => absurd h (Nat.not_lt_zero _)
  | n + 1, l, h => by
    by_cases m : n ∈ l
    · obtain ⟨x, hx, nx⟩ := miss_one n (l.erase n) (by
        rw [List.length_erase_of_mem m]
        have := List.length_pos_of_mem m
        omega)
      exact ⟨x, by omega, fun z => nx ((List.mem_erase_of_ne (by omega)).mpr z)⟩
    · exact ⟨n, Nat.lt_succ_self n, m⟩
end KB
namespace KZ
open PySem PySem.Spec PyProof.Rows L2
section
variable {K : PySem.W.Frag} {M : List Addr} {σ : L2.St} {H : Hp}
theorem evd_inL {te : TE} {i j : Nat} {r : Addr} {l : List Nat} (he : EvD K M te σ H (.int (j : Int))) (hv : σ[i]? = some (some (.ref r))) (e : H r = some (.lst (intV l))) : EvD K M (tOp (rIn K false) te (tVar i)) σ H (.bool (decide (j ∈ l))) := fun H1 s Q q =>
  he H1 s _ fun v H2 s2 hv2 => by
    cases hv2.intAt
    refine ⟨_, hv, r, _, rfl, .inl (SqL.of (s2 _ _ (s _ _ e))), rfl, flat_int l, ?_⟩
    rw [inV_int, if_neg (by decide)]
    exact q _ H2 s2 (.bl _)
end
abbrev rLtI : R2 := rI0 fun i j => .bl (decide (i < j))
def rMast (ds : List PyData) (d : PyData) : Prop := ∃ (h : Hou) (c : List Nat) (p : Nat), ds = [houD h, .tuple (intD c), .int (p : Int)] ∧ CrewOk h c ∧ p < c.length ∧ d = .list (intD (KB.up (putB h c) c.length p))
def spVict (K : PySem.W.Frag) : Sp := fun vs H Q _ => ∃ (M : List Addr) (h : Hou) (c : List Nat), Kn M H ∧ Dms K M H vs [houD h, .tuple (intD c)] ∧ CrewOk h c ∧ (∀ a k, a < c.length → ¬ KB.Cl (putB h c) c.length a k) ∧
  ∀ (p : Addr) (ord : List Nat) (H' : Hp), Sub H H' → KB.Ord (putB h c) c.length ord → c.length ≤ ord.length → H p = none → H' p = some (.lst (intV ord)) → Q (.ref p) H'
section
variable {P : Program} {w : World} {K : PySem.W.Frag} {mg : Str → Option Value} {base : Heap}
abbrev sMast : Stmt := topS 22
abbrev NMast : List Str := ["house", "crew", "person", "other"]
theorem scMast : FnScope NMast ["house", "crew", "person"] (defScope sMast) := ⟨rfl, rfl, rfl, by decide +kernel, rfl, by decide +kernel, by decide +kernel⟩
abbrev tPut (K : PySem.W.Frag) : TE := tCall (spPure K rPuts) [] E0 (tCons (tVar 0) (tCons (tVar 1) (tCons (tVar 2) (tCons (tVar 3) tNil))))
theorem mast_read {M : List Addr} {H : Hp} {Q : VK} {vh vc : V} {h : Hou} {c : List Nat} {p : Nat} (kn : Kn M H) (hh : Dm K M H vh (houD h)) (hc : Dm K M H vc (.tuple (intD c))) (x : CrewOk h c) (hp : p < c.length)
    (q : ∀ y H', Sub H H' → Dm K M H' y (.list (intD (KB.up (putB h c) c.length p))) → Q y H') :
    tLc (iRng1 (tCons (tCB (rLenS K) (tCons (tVar 1) tNil)) tNil)) (gName 3) (tB (tPut K)) (tVar 3) [3] ([some vh, some vc, some (.int (p : Int)), none] : L2.St) H Q := by
  have n8 := x.few
  have elen := evd_lenT (K := K) (M := M) (evd_var (i := 1) (σ := [some vh, some vc, some (.int (p : Int)), none]) rfl hc)
  rw [intD_len] at elen
  have lc := evd_lcRF (K := K) (M := M) (σ := [some vh, some vc, some (.int (p : Int)), none]) (H := H) (vs := [3]) (j := 3) (tr := tCons (tCB (rLenS K) (tCons (tVar 1) tNil)) tNil) (tt := tB (tPut K)) (tb := tVar 3) (m := ((c.length : Nat) : Int)) (putB h c p) (fun i => .int (i : Int)) kn (evds_cons elen evds_nil) (by omega) (by omega) (by intro z; rfl)
    (fun Dl hD i Hx sx nx hi => evb_val (evd_pure (K := K) (M := Dl :: M) (rel := rPuts) nx (evds_cons (evd_var (i := 0) rfl (Dm.s (Dm.more hh hD) sx)) (evds_cons (evd_var (i := 1) rfl (Dm.s (Dm.more hc hD) sx)) (evds_cons (evd_var (i := 2) rfl (.int _)) (evds_cons (evd_var (i := 3) rfl (.int _)) evds_nil)))) ⟨h, c, p, i, rfl, x, hp, by omega, rfl⟩))
    (fun Dl hD i Hx sx nx hi => evd_var (i := 3) rfl (.int _))
  rw [Int.toNat_natCast] at lc
  exact (EvNL.toD kn lc) H (Sub.refl _) Q q
theorem ok_mast {f fP : Addr} {fd fdP : FuncData} (F : Fun K "_masters_of" "_masters_of" sMast f fd) (T : Txt mg) (CP : Cal P w K mg base "puts_out" 3 ["house", "crew", "one", "other"] (spPure K rPuts) fP fdP) : FnOk P w K mg base CX0 4 f fd ["house", "crew", "person"] (spPure K rMast) := by
  refine F.ok scMast (fun vs H Q E h => pure_len (P := True) (fun ds d r => ?_) h) (fun cdv A outer s H vs Q E hr h => ?_)
  · obtain ⟨_, _, _, rfl, _⟩ := r
    rfl
  · obtain ⟨M, ds, d, kn, hd, ⟨h, c, p, rfl, x, hp, rfl⟩, q⟩ := h
    obtain ⟨vh, vc, v2, rfl, hh, hc, hpv⟩ := Dms.three_at hd
    cases hpv.intAt
    refine ⟨_, pss_one (ps_ret (pe_lc (own := [("other", 3)]) (g := gName 3) (tt := tB (tPut K)) (te := tVar 3) rfl scMast.nd (pi_range1 rfl T.range (pa_cons (pe_callB call_len_seq (by rfl) T.len PySem.boot_len (pa_cons (pv 1) pa_nil)) pa_nil)) (blkOk_by (N := NMast) (sc := defScope sMast) (by decide +kernel)) (fun _ _ _ _ _ => pg_name (i := 3) scMast.nd rfl (Or.inl rfl))
      (fun _ _ _ _ _ => pts_one (pt_val (pcl CP hr (pa_cons (pv 0) (pa_cons (pv 1) (pa_cons (pv 2) (pa_cons (pv 3) pa_nil))))))) (fun _ _ _ _ _ => pv 3))), ?_⟩
    exact ret_of (mast_read kn hh hc x hp q)
abbrev sPutters : Stmt := topS 36
theorem scPutters : FnScope NMast ["house", "crew", "person"] (defScope sPutters) := ⟨rfl, rfl, rfl, by decide +kernel, rfl, by decide +kernel, by decide +kernel⟩
theorem ok_putters {f fP : Addr} {fd fdP : FuncData} (F : Fun K "_law_putters" "_law_putters" sPutters f fd) (T : Txt mg) (CP : Cal P w K mg base "_law_can_put" 1 ["house", "crew", "one", "other"] (spPure K rPuts) fP fdP) : FnOk P w K mg base CX0 2 f fd ["house", "crew", "person"] (spPure K rMast) := by
  refine F.ok scPutters (fun vs H Q E h => pure_len (P := True) (fun ds d r => ?_) h) (fun cdv A outer s H vs Q E hr h => ?_)
  · obtain ⟨_, _, _, rfl, _⟩ := r
    rfl
  · obtain ⟨M, ds, d, kn, hd, ⟨h, c, p, rfl, x, hp, rfl⟩, q⟩ := h
    obtain ⟨vh, vc, v2, rfl, hh, hc, hpv⟩ := Dms.three_at hd
    cases hpv.intAt
    refine ⟨_, pss_one (ps_ret (pe_lc (own := [("other", 3)]) (g := gName 3) (tt := tB (tPut K)) (te := tVar 3) rfl scPutters.nd (pi_range1 rfl T.range (pa_cons (pe_callB call_len_seq (by rfl) T.len PySem.boot_len (pa_cons (pv 1) pa_nil)) pa_nil)) (blkOk_by (N := NMast) (sc := defScope sPutters) (by decide +kernel)) (fun _ _ _ _ _ => pg_name (i := 3) scPutters.nd rfl (Or.inl rfl))
      (fun _ _ _ _ _ => pts_one (pt_val (pcl CP hr (pa_cons (pv 0) (pa_cons (pv 1) (pa_cons (pv 2) (pa_cons (pv 3) pa_nil))))))) (fun _ _ _ _ _ => pv 3))), ?_⟩
    exact ret_of (mast_read kn hh hc x hp q)
abbrev sVict : Stmt := topS 23
abbrev NVict : List Str := ["house", "crew", "order", "person", "other"]
theorem scVict : FnScope NVict ["house", "crew"] (defScope sVict) := ⟨rfl, rfl, rfl, by decide +kernel, rfl, by decide +kernel, by decide +kernel⟩
theorem ok_vict {f fM : Addr} {fd fdM : FuncData} (F : Fun K "_victims_last" "_victims_last" sVict f fd) (T : Txt mg) (za : mg "all" = none) (CM : Cal P w K mg base "_masters_of" 4 ["house", "crew", "person"] (spPure K rMast) fM fdM) : FnOk P w K mg base CX0 5 f fd ["house", "crew"] (spVict K) := by
  refine F.ok scVict (fun vs H Q E h => ?_) (fun cdv A outer s H vs Q E hr h => ?_)
  · obtain ⟨_, _, _, _, hd, _⟩ := h
    rw [hd.len]
    rfl
  · obtain ⟨M, h, c, kn, hd, x, no, q⟩ := h
    obtain ⟨vh, vc, rfl, hh, hc⟩ := Dms.two_at hd
    have n8 := x.few
    refine ⟨_, pss_cons (ps_set (i := 2) scVict.nd rfl (Or.inr rfl) (pe_lst pa_nil))
      (pss_cons (ps_while PassesOwn.never (pt_cmpR op_lt (pe_callB call_len_seq (by rfl) T.len PySem.boot_len (pa_cons (pv 2) pa_nil)) (pe_callB call_len_seq (by rfl) T.len PySem.boot_len (pa_cons (pv 1) pa_nil)) (nomark _))
        (pss_one (ps_for PassesOwn.never rfl (pi_range1 rfl T.range (pa_cons (pe_callB call_len_seq (by rfl) T.len PySem.boot_len (pa_cons (pv 1) pa_nil)) pa_nil)) (pg_name (i := 3) scVict.nd rfl (Or.inl rfl))
          (pss_one (ps_if (PW.pt (pw_and (pt_cmpR op_notIn_seq (pv 3) (pv 2) rfl) (pw_and1 (pt_val (pe_callB (cr_all rfl) (by rfl) za PyProof.Rows.boot_all (pa_cons
              (pe_lc (own := [("other", 4)]) (g := gName 4) (tt := tYes) (te := tOp (rIn K false) (tVar 4) (tVar 2)) rfl scVict.nd (pi_list (pcl CM hr (pa_cons (pv 0) (pa_cons (pv 1) (pa_cons (pv 3) pa_nil))))) (blkOk_by (N := NVict) (sc := defScope sVict) (by decide +kernel)) (fun _ _ _ _ _ => pg_name (i := 4) scVict.nd rfl (Or.inl rfl)) (fun _ _ _ _ _ => pts_nil)
                (fun _ _ _ _ _ => pe_cmpR op_in_seq (pv 4) (pv 2) rfl)) pa_nil))))))
            (pss_one (ps_expr (pe_bm PySem.F.plainAttrs_list PySem.F.slot_list_append PySem.F.type_list_append mt_append (pv 2) (pa_cons (pv 3) pa_nil)))) pss_nil)))))
      (pss_one (ps_ret (pv 2)))), ?_⟩
    refine sset_of (lst_of (nil_of ⟨Nat.zero_le _, fun fa hfa => ?_⟩))
    dsimp only [List.set]
    have e1 {u2 u3 u4 : Option V} {Hx : Hp} (sx : Sub H Hx) : EvD K M (tCB (rLenS K) (tCons (tVar 1) tNil)) ([some vh, some vc, u2, u3, u4] : L2.St) Hx (.int ((c.length : Nat) : Int)) := by
      have z := evd_lenT (K := K) (M := M) (evd_var (i := 1) (σ := [some vh, some vc, u2, u3, u4]) rfl (Dm.s hc sx))
      rw [intD_len] at z
      exact z
    have e2 {u3 u4 : Option V} {Hx : Hp} {ord : List Nat} (hx : Hx fa = some (.lst (intV ord))) : EvD K M (tCB (rLenS K) (tCons (tVar 2) tNil)) ([some vh, some vc, some (.ref fa), u3, u4] : L2.St) Hx (.int ((ord.length : Nat) : Int)) := by
      have hl : Dm K M Hx (.ref fa) (.list (intD ord)) := .lst (SqL.of (by rw [er_in (kn.out hfa)]; exact hx)) int_dms
      have z := evd_lenL (K := K) (M := M) (evd_var (i := 2) (σ := [some vh, some vc, some (.ref fa), u3, u4]) rfl hl)
      rw [intD_len] at z
      exact z
    refine while_evm (fun m σ H' => ∃ (ord : List Nat) (u3 : Option V), σ = [some vh, some vc, some (.ref fa), u3, none] ∧ Sub H H' ∧ H' fa = some (.lst (intV ord)) ∧ KB.Ord (putB h c) c.length ord ∧ m = c.length - ord.length)
      ⟨c.length, [], none, rfl, Sub.new hfa, upd_same, KB.Ord.nil, rfl⟩ ?_
    rintro m σ H1 ⟨ord, u3, rfl, s1, h1, o, rfl⟩
    have fewo := o.few
    refine ⟨_, evb_test (evd_ltI (e2 h1) (e1 s1)), fun H2 s2 => ?_⟩
    have s12 := s1.trans s2
    have h2 := s2 _ _ h1
    by_cases hlt : ord.length < c.length
    · rw [decide_eq_true (by omega), if_pos rfl]
      refine for_rngE (e1 s12) (by omega) (fun i σ H' => ∃ (ord' : List Nat) (u3 : Option V), σ = [some vh, some vc, some (.ref fa), u3, none] ∧ Sub H H' ∧ H' fa = some (.lst (intV ord')) ∧ KB.Ord (putB h c) c.length ord' ∧ (∃ ext, ord' = ord ++ ext) ∧
          ∀ x, x < i → (∀ y, y < c.length → putB h c x y = true → y ∈ ord) → x ∈ ord')
        (fun H3 s3 => ⟨ord, u3, rfl, s12.trans s3, s3 _ _ h2, o, ⟨[], (List.append_nil _).symm⟩, fun x hx => absurd hx (Nat.not_lt_zero _)⟩) ?_ ?_
      · rintro i σ H3 hi ⟨ord', u3, rfl, s3, h3, o', ⟨ext, eext⟩, all⟩
        refine gname_of ?_
        dsimp only [List.set]
        have n3 := kn.sub s3
        have hh3 := Dm.s hh s3
        have hc3 := Dm.s hc s3
        have lm : EvD K M (tCall (spPure K rMast) [] E0 (tCons (tVar 0) (tCons (tVar 1) (tCons (tVar 3) tNil)))) ([some vh, some vc, some (.ref fa), some (.int (i : Int)), none] : L2.St) H3 (.list (intD (KB.up (putB h c) c.length i))) :=
          evd_pure (rel := rMast) n3 (evds_cons (evd_var (i := 0) rfl hh3) (evds_cons (evd_var (i := 1) rfl hc3) (evds_cons (evd_var (i := 3) rfl (.int _)) evds_nil))) ⟨h, c, i, rfl, x, hi, rfl⟩
        have upl : (KB.up (putB h c) c.length i).length ≤ c.length := by
          unfold KB.up
          have := List.length_filter_le (putB h c i) (List.range c.length)
          rw [List.length_range] at this
          exact this
        have lc := evd_lc (K := K) (M := M) (σ := [some vh, some vc, some (.ref fa), some (.int (i : Int)), none]) (vs := [4]) (j := 4) (tb := tOp (rIn K false) (tVar 4) (tVar 2)) (fun d => .bool (decide (unNat d ∈ ord'))) n3 lm (by rw [intD_len]; omega) (by intro z; rfl)
          (fun Dl hD d z Hx sx nx hdm hz => by
            obtain ⟨y, _, rfl⟩ := List.mem_map.mp hdm
            cases hz.intAt
            have := evd_inL (K := K) (M := Dl :: M) (te := tVar 4) (σ := [some vh, some vc, some (.ref fa), some (.int (i : Int)), some (.int (y : Int))]) (i := 2) (j := y) (evd_var (i := 4) rfl (.int _)) rfl (sx _ _ h3)
            rw [show unNat (.int (y : Int)) = y from Int.toNat_natCast y]
            exact this)
        have el : (intD (KB.up (putB h c) c.length i)).map (fun d => PyData.bool (decide (unNat d ∈ ord'))) = ((KB.up (putB h c) c.length i).map fun y => decide (y ∈ ord')).map PyData.bool := by
          unfold intD
          rw [List.map_map, List.map_map]
          refine List.map_congr_left fun y _ => ?_
          show PyData.bool (decide (((y : Int)).toNat ∈ ord')) = _
          rw [Int.toNat_natCast]
          rfl
        rw [el] at lc
        refine evb_and (evb_notinL (K := K) (M := M) (te := tVar 3) (i := 2) (j := i) (evd_var (i := 3) rfl (.int _)) rfl h3) (fun _ => evb_val (evd_all (EvNL.toD n3 lc))) H3 (Sub.refl _) _ fun H4 s4 => ?_
        have s34 := s3.trans s4
        have h4 := s4 _ _ h3
        by_cases eT : (!decide (i ∈ ord') && ((KB.up (putB h c) c.length i).map fun y => decide (y ∈ ord')).all id) = true
        · rw [if_pos eT]
          rw [Bool.and_eq_true, Bool.not_eq_true'] at eT
          have ni : i ∉ ord' := of_decide_eq_false eT.1
          have au : ∀ y, y < c.length → putB h c i y = true → y ∈ ord' := fun y hy he => by
            have := List.all_eq_true.mp eT.2 _ (List.mem_map.mpr ⟨y, KB.mem_up.mpr ⟨hy, he⟩, rfl⟩)
            exact of_decide_eq_true this
          have few' := o'.few
          refine ⟨_, rfl, .inl ⟨rfl, _, SqL.of h4⟩, _, rfl, fa, _, _, rfl, rfl, h4, szl (by rw [intV_len]; omega), ?_⟩
          refine ⟨ord' ++ [i], _, rfl, s34.mut hfa, by rw [upd_same, intV_snoc], o'.snoc hi ni au, ⟨ext ++ [i], by rw [eext, List.append_assoc]⟩, fun x hx hup => ?_⟩
          by_cases e : x = i
          · rw [e]
            exact List.mem_append_right _ (List.mem_singleton.mpr rfl)
          · exact List.mem_append_left _ (all x (by omega) hup)
        · rw [if_neg eT]
          refine ⟨ord', _, rfl, s34, h4, o', ⟨ext, eext⟩, fun x hx hup => ?_⟩
          by_cases e : x = i
          · subst e
            by_cases m : x ∈ ord'
            · exact m
            · refine absurd ?_ eT
              rw [Bool.and_eq_true, Bool.not_eq_true']
              refine ⟨decide_eq_false m, List.all_eq_true.mpr fun z hz => ?_⟩
              obtain ⟨y, hy, rfl⟩ := List.mem_map.mp hz
              obtain ⟨hy1, hy2⟩ := KB.mem_up.mp hy
              refine decide_eq_true ?_
              rw [eext]
              exact List.mem_append_left _ (hup y hy1 hy2)
          · exact all x (by omega) hup
      · rintro σ H3 ⟨ord', u3, rfl, s3, h3, o', ⟨ext, eext⟩, all⟩
        have few' := o'.few
        refine ⟨c.length - ord'.length, ?_, ord', _, rfl, s3, h3, o', rfl⟩
        obtain ⟨x0, h0, n0⟩ := KB.miss_one c.length ord hlt
        obtain ⟨xx, hx, nx, hup⟩ := KB.next_one (E := putB h c) no h0 n0
        have mx := all xx hx hup
        have : 0 < ext.length := by
          cases ext with
          | nil =>
            rw [eext, List.append_nil] at mx
            exact absurd mx nx
          | cons _ _ => simp
        rw [eext, List.length_append]
        omega
    · rw [decide_eq_false (by omega), if_neg (by decide)]
      dsimp only
      exact ret_of ⟨_, rfl, q fa ord H2 s12 o (by omega) hfa h2⟩
end
end KZ

namespace KZ
open PySem PySem.Spec PyProof.Rows L2
/-! a table from numbers to numbers, as a dict -/
def farK (far : KB.Far) : List (L2.Key × V) := far.map fun p => ((.inl (p.1 : Int) : L2.Key), V.int (p.2 : Int))
def optV : Option Nat → V
  | none => .non
  | some b => .int (b : Int)
theorem optV_d {K : PySem.W.Frag} {M : List Addr} {H : Hp} : ∀ b : Option Nat, Dm K M H (optV b) (optD b)
  | none => .non
  | some b => .int _
theorem farK_val (far : KB.Far) (x : Nat) : valV (farK far) (.inl (x : Int)) = (KB.val far x).map fun k : Nat => V.int (k : Int) := by
  induction far with
  | nil => rfl
  | cons p r ih =>
    obtain ⟨y, k⟩ := p
    show valV ((.inl (y : Int), V.int (k : Int)) :: farK r) _ = _
    rw [val_cons]
    by_cases e : y = x
    · rw [if_pos e, valV_pos (by rw [e])]
      rfl
    · rw [if_neg e, valV_neg (key_ne e), ih]
theorem farK_some (far : KB.Far) (x : Nat) : (valV (farK far) (.inl (x : Int))).isSome = KB.has far x := by
  rw [farK_val, Option.isSome_map, KB.val_some]
theorem farK_put (far : KB.Far) {x : Nat} (k : Nat) (h : KB.has far x = false) : putK (farK far) (.inl (x : Int)) (V.int (k : Int)) = farK (far ++ [(x, k)]) := by
  have e : valV (farK far) (.inl (x : Int)) = none := by
    rw [← farK_some] at h
    cases z : valV (farK far) (.inl (x : Int)) with
    | none => rfl
    | some v =>
      rw [z] at h
      cases h
  rw [putK_new _ e]
  unfold farK
  rw [List.map_append]
  rfl
theorem dms_ints {K : PySem.W.Frag} {H : Hp} : ∀ {l : List Nat} {vs : List V}, DpAll K H vs (intD l) → vs = intV l
  | [], _, h => by
    cases h
    rfl
  | x :: l, _, h => by
    cases h with
    | cons h1 h2 =>
      cases h1
      rw [dms_ints h2]
      rfl
theorem LM_congr {E : Nat → Nat → Bool} {n first here kh : Nat} {b0 : Option Nat} {done : List Nat} {g g' : Nat → Prop} {st : KB.LS} (m : KB.LM E n first b0 done here kh g st) (h : ∀ y, g' y → g y) : KB.LM E n first b0 done here kh g' st :=
  ⟨m.c, m.keys, m.hk, m.near, m.cl, fun y hy => m.clh y (h y hy), m.bk, fun hy => m.bkh (h _ hy), m.bs, m.bm⟩
section
variable {K : PySem.W.Frag} {M : List Addr} {σ : L2.St} {H : Hp}
theorem evd_dgetF {i j : Nat} {dl : Addr} {far : KB.Far} {x k : Nat} (hd : σ[i]? = some (some (.ref dl))) (e : H dl = some (.dK (farK far))) (hk : σ[j]? = some (some (.int (x : Int)))) (hv : KB.val far x = some k) :
    EvD K M (tDGet (tVar i) (tVar j)) σ H (.int (k : Int)) := fun H1 s Q q => ⟨_, hd, _, hk, dl, .int (k : Int), rfl, by
      have z := DGet.k (k := .inl (x : Int)) (s _ _ e)
      rw [farK_val, hv] at z
      exact z, q _ H1 (Sub.refl _) (.int _)⟩
theorem evb_notinF {i j : Nat} {dl : Addr} {far : KB.Far} {x : Nat} (hd : σ[i]? = some (some (.ref dl))) (e : H dl = some (.dK (farK far))) (hk : σ[j]? = some (some (.int (x : Int)))) :
    EvB (tB (tDNotIn (tVar j) (tVar i))) σ H (!KB.has far x) := fun H1 s Q q => ⟨_, hk, _, hd, dl, valV (farK far) (.inl (x : Int)), rfl, DGet.k (k := .inl (x : Int)) (s _ _ e), _, rfl, by rw [farK_some]; exact q H1 (Sub.refl _)⟩
end
abbrev LoopL (K : PySem.W.Frag) (a : Addr) (g : TG) (tb : TS) (D : Ends) (σ : L2.St) (H1 : Hp) : Prop := ∃ W : Nat → Nat → L2.St → Hp → Prop, (∃ m, W 0 m σ H1) ∧ ∀ i m σ H, W i m σ H →
  ((Itl K a).stop i H ∧ D.nx σ H) ∨ ((Itl K a).go i H ∧ ∃ N : L2.St → Hp → Prop, (∀ σ' H', N σ' H' → ∃ m', m' < m ∧ W (i + 1) m' σ' H') ∧ ∀ x H', (Itl K a).yld i H x H' → g x σ H' fun σ2 H2 => tb { D with nx := N, ct := N, bk := D.nx } σ2 H2)
theorem forL_of {K : PySem.W.Frag} {te : TE} {g : TG} {tb : TS} {D : Ends} {σ : L2.St} {H : Hp} (h : te σ H fun x H1 => ∃ a, x = .ref a ∧ (∃ xs, SqL K H1 a xs) ∧ LoopL K a g tb D σ H1) : tFor (iList K te) g tb D σ H := h
end KZ

namespace KZ
open PySem PySem.Spec PyProof.Rows L2
/-! own errors with one field, own errors with none -/
structure Oer (K : PySem.W.Frag) (mg : Str → Option Value) (x f : Str) (C fI : Addr) : Prop where
  o : OexC K C
  g : mg x = some (.ref C)
  i : PySem.W.findIn K (.ref C) "__init__" = some (some (.ref fI))
  t : PySem.W.typeIn K (.ref fI) = some (.type "function")
  no : PySem.W.findIn K (.ref C) f = some none
  ga : PySem.W.findIn K (.ref C) "__getattribute__" = some (some (.builtin "BaseException.__getattribute__"))
  gg : PySem.W.findIn K (.ref C) "__getattr__" = some none
  hd : PySem.W.hasDictIn K C = true
structure Oer0 (K : PySem.W.Frag) (mg : Str → Option Value) (x : Str) (C : Addr) : Prop where
  g : mg x = some (.ref C)
  q : PySem.W.excIn K C [.type "ValueError", .type "Exception", .type "BaseException", .type "object"] "ValueError.__new__" = true
  kC : PySem.W.keepIn K (.ref C) = true
  exC : PySem.W.subIn K (.ref C) (.type "BaseException") = some true
  tyC : PySem.W.typeIn K (.ref C) = some (.type "type")
def spIni (K : PySem.W.Frag) (f : Str) : Sp := fun vs H Q _ => ∃ (a C : Addr) (v : V), vs = [.ref a, v] ∧ OexC K C ∧ PySem.W.findIn K (.ref C) f = some none ∧ H a = some (exo a C none) ∧
  ∀ dx, H dx = none → dx ≠ a → Q .non (upd (upd H dx (exd dx [(f, v)])) a (exo a C (some dx)))
section
variable {P : Program} {w : World} {K : PySem.W.Frag} {mg : Str → Option Value} {base : Heap}
abbrev sIniF : Stmt := inClass (topS 2) 0
abbrev sIniG : Stmt := inClass (topS 3) 0
theorem scIniF : FnScope ["self", "kind"] ["self", "kind"] (defScope sIniF) := ⟨rfl, rfl, rfl, by decide +kernel, rfl, by decide +kernel, by decide +kernel⟩
theorem scIniG : FnScope ["self", "persons"] ["self", "persons"] (defScope sIniG) := ⟨rfl, rfl, rfl, by decide +kernel, rfl, by decide +kernel, by decide +kernel⟩
theorem ok_iniF {f : Addr} {fd : FuncData} (F : Fun K "__init__" "Forgets.__init__" sIniF f fd) : FnOk P w K mg base CX0 1 f fd ["self", "kind"] (spIni K "kind") := by
  refine F.ok scIniF (fun vs H Q E h => ?_) (fun cdv A outer s H vs Q E hr h => ?_)
  · obtain ⟨_, _, _, rfl, _⟩ := h
    rfl
  · obtain ⟨a, C, v, rfl, T, no, hH, q⟩ := h
    exact ⟨_, pss_one (ps_ost (pv 0) (pv 1)), v, rfl, .ref a, rfl, a, C, rfl, T, no, .inl ⟨hH, fun dx h1 h2 => q dx h1 h2⟩⟩
theorem ok_iniG {f : Addr} {fd : FuncData} (F : Fun K "__init__" "GoesRound.__init__" sIniG f fd) : FnOk P w K mg base CX0 1 f fd ["self", "persons"] (spIni K "persons") := by
  refine F.ok scIniG (fun vs H Q E h => ?_) (fun cdv A outer s H vs Q E hr h => ?_)
  · obtain ⟨_, _, _, rfl, _⟩ := h
    rfl
  · obtain ⟨a, C, v, rfl, T, no, hH, q⟩ := h
    exact ⟨_, pss_one (ps_ost (pv 0) (pv 1)), v, rfl, .ref a, rfl, a, C, rfl, T, no, .inl ⟨hH, fun dx h1 h2 => q dx h1 h2⟩⟩
end
/-- an own error with one field, that can be made -/
structure Mer (P : Program) (w : World) (K : PySem.W.Frag) (mg : Str → Option Value) (base : Heap) (x f : Str) (C fI : Addr) : Prop where
  r : Oer K mg x f C fI
  fn : ∃ fd, FnOk P w K mg base CX0 1 fI fd ["self", f] (spIni K f) ∧ Binds K fd ["self", f] []
/-- X(v) has been made: what is wished of it -/
def Made1 (K : PySem.W.Frag) (C : Addr) (f : Str) (v : V) (H1 : Hp) (Q : XK) : Prop := ([v] : List V).length ≤ 1000 ∧ ∀ a, H1 a = none → spIni K f (.ref a :: ([v] ++ [])) (upd H1 a (exo a C none))
  (fun u H2 => u = .non ∧ ∃ (d : Addr) (fs : List (Str × V)), H2 a = some (exo a C (some d)) ∧ H2 d = some (exd d fs) ∧ H1 d = none ∧ Q (.ref C) (some d) (upd (del H2 a) d (.xd fs))) (fun _ _ _ => False)
theorem made1_of {K : PySem.W.Frag} {mg : Str → Option Value} {x : Str} {C fI : Addr} {f : Str} {v : V} {H1 : Hp} {Q : XK} (T : Oer K mg x f C fI) (h : ∀ (d : Addr) (H2 : Hp), Sub H1 H2 → H2 d = some (.xd [(f, v)]) → Q (.ref C) (some d) H2) : Made1 K C f v H1 Q := by
  refine ⟨by show 1 ≤ 1000; decide, fun a ha => ⟨a, C, v, rfl, T.o, T.no, upd_same, fun dx h1 h2 => ⟨rfl, dx, _, upd_same, ?_, ?_, h dx _ ?_ upd_same⟩⟩⟩
  · rw [upd_ne h2, upd_same]
  · rw [upd_ne h2] at h1
    exact h1
  · intro b o e
    have hb : b ≠ a := ne_of_none e ha
    rw [upd_ne h2] at h1
    have hd : b ≠ dx := ne_of_none e h1
    rw [upd_ne hd, del_ne hb, upd_ne hb, upd_ne hd, upd_ne hb]
    exact e
section
variable {X : Cx}
/-- raise X(e) -/
theorem ps_raise1 {x f : Str} {C fI : Addr} {e : Expr} {te : TE} {W : WX} {p pos pos2 : Pos} (hc : X.calm = true) (T : Mer X.prog X.w X.K X.mg X.base x f C fI) (hr : Room 2 X.A) (tk : Takes X W) (he : PE X e te) (hg : Gl X x := by rfl)
    (hdb : (x == ("__debug__" : Str)) = false := by decide) (hs : starEach [e] X.env = (false, eval e X.env) :: starEach [] X.env := by rfl) (hpl : (backTo pos (starEach [] X.env)).any (·.1) = false := by rfl) :
    PS X (.Raise (some (.Call (.Name x p) [e] [] pos)) none pos2) (fun D σ H => te σ H fun v H1 => Made1 X.K C f v H1 fun cls d H2 => W cls d σ H2) := by
  obtain ⟨fd, F, hb⟩ := T.fn
  refine ⟨fun pins s σ H D I h => (ps_raise (pos := pos2) hc tk (pmk_oex (pos := pos) (p := p) T.r.o T.r.i T.r.t F hr hb (.nil : Vals [] []) pass0 hg T.r.g (pa_cons he pa_nil hs) hdb hs hpl)).run pins s σ H D I ?_⟩
  exact args1 h
/-- X() -/
theorem pmk_own0 {x : Str} {C : Addr} {p pos : Pos} (T : Oer0 X.K X.mg x C) (hg : Gl X x) (hdb : (x == ("__debug__" : Str)) = false := by decide) : PMk X (.Call (.Name x p) [] [] pos) (fun _ H Q => Q (.ref C) none H) := by
  intro pins s σ H Q I h
  refine wpAny_Call_Name_kw (ld_glob I hg T.g ?_ hdb)
  refine PySem.W.callWith_K0 I.kIn T.kC ?_
  show wpAny _ _ (call (.ref C) []) _ _ _
  obtain ⟨bm, N, nm, qn, bs, hdct, sn, sub, ab, col, dd, k0, k1, k2, k3, k5, mN, hC, hN, hni, tl⟩ := exc_obj I.kIn T.q
  refine wpAny_call_exc_subT F.excBase_ValueError tl hC hN hni (fun h' e hm => ?_) (Nat.zero_le _)
  exact mk_of I hm (raises_own T.exC T.tyC) h (I.hok.gone hm.new)
theorem ps_raise0 {x : Str} {C : Addr} {W : WX} {p pos pos2 : Pos} (hc : X.calm = true) (T : Oer0 X.K X.mg x C) (tk : Takes X W) (hg : Gl X x := by rfl) (hdb : (x == ("__debug__" : Str)) = false := by decide) :
    PS X (.Raise (some (.Call (.Name x p) [] [] pos)) none pos2) (fun _ σ H => W (.ref C) none σ H) := ps_raise hc tk (pmk_own0 T hg hdb)
/-- e.f, e the exception that the suite holds (at a; its class cls, its dict d) -/
def tByF (f : Str) (C : Addr) (a : Addr) (cls : Value) (d : Option Addr) (te : TE) : TE := fun σ H Q => te σ H fun x H1 => x = .ref a ∧ cls = .ref C ∧ ∃ (dd : Addr) (v : V), d = some dd ∧ H1 dd = some (.xd [(f, v)]) ∧ Q v H1
theorem pe_byF {x f : Str} {C fI : Addr} {a : Addr} {oe : Obj} {cls : Value} {d : Option Addr} {pn : List (Addr × Obj)} {e : Expr} {te : TE} {pos : Pos} (T : Oer X.K X.mg x f C fI) (hz : Zc cls d oe) (hf : ∃ vs, oe.data = .fields vs) (he : PE (X.suite a ((a, oe) :: pn)) e te)
    (hb : attributeBase e f X.env (eval e X.env) = eval e X.env := by rfl) : PE (X.suite a ((a, oe) :: pn)) (.Attribute e f pos) (tByF f C a cls d te) := by
  refine ⟨fun pins s σ H Q I h => ?_⟩
  refine attr_of hb (thn (he.run pins s σ H _ I h) fun u s1 hh => ?_)
  obtain ⟨x, H1, I1, rx, ex, ec, dd, v, ed, ea, q⟩ := hh
  subst ex
  obtain rfl : u = Value.ref a := rx
  subst ec
  subst ed
  obtain ⟨ha, _⟩ := I1.pin (a, oe) (List.mem_append_left _ List.mem_cons_self)
  obtain ⟨vs, hd⟩ := hf
  have hx : ObjOk X.prog X.w H1 s1.heap dd (.xd [(f, v)]) := I1.hok dd _ ea
  obtain ⟨mA, hns, hr⟩ := hx
  obtain ⟨od, ho, hl⟩ := lookIn_ns hns
  have l : List.lookup f [(f, v)] = some v := by simp [List.lookup]
  obtain ⟨u, hu, ru⟩ := RelO.some_of (v := v) (o := mA f) (by rw [← l]; exact hr f)
  have J : PySem.W.InstAt s1.heap a oe C (some od) := ⟨ha, hz.1, by unfold PySem.W.notCls; rw [hd] <;> rfl, by rw [hz.2]; exact ho⟩
  exact HandSPX.exc_get I1.kIn J T.ga T.gg T.o.exC (PySem.W.findObj_own T.hd T.no rfl (by rw [hl, hu])) (handed_of ru) ⟨v, H1, I1.tok _, ru, q⟩
end
/-- a def that may raise, by its name -/
structure CalX (P : Program) (w : World) (K : PySem.W.Frag) (mg : Str → Option Value) (base : Heap) (x : Str) (k : Nat) (ps : List Str) (sp : Sp) (f : Addr) (fd : FuncData) : Prop where
  ok : FnOk P w K mg base (L2.CX P w) k f fd ps sp
  g : mg x = some (.ref f)
  kp : PySem.W.keepIn K (.ref f) = true
  b : Binds K fd ps []
section
variable {X : Cx} {k : Nat} {f : Addr} {fd : FuncData} {ps : List Str} {sp : Sp} {x : Str} {p pos : Pos} {e : Expr} {es : List Expr} {t : TA} {W : WX}
theorem pclX (C : CalX X.prog X.w X.K X.mg X.base x k ps sp f fd) (hr : Room k X.A) (tk : Takes X W) (ha : L2.PA X (e :: es) t) (hg : Gl X x := by rfl) (hdb : (x == ("__debug__" : Str)) = false := by decide) (he : starEach (e :: es) X.env = (false, eval e X.env) :: starEach es X.env := by rfl)
    (hpl : (backTo pos (starEach es X.env)).any (·.1) = false := by rfl) : PE X (.Call (.Name x p) (e :: es) [] pos) (tCallS sp (WE W) t) := pe_callS C.ok hr hg C.g C.kp C.b (fun σ => passAt tk σ) ha hdb he hpl
end
theorem sifs {c : TT} {t u w : TS} {D : Ends} {σ : L2.St} {H : Hp} (h : tIfS c t u { D with nx := w D } σ H) : tSeq (tIfS c t u) w D σ H := h
theorem ifs_of {c : TT} {t u : TS} {D : Ends} {σ : L2.St} {H : Hp} {b : Bool} (h : EvB c σ H b) (k : ∀ H', Sub H H' → if b = true then t D σ H' else u D σ H') : tIfS c t u D σ H := h H (Sub.refl _) _ k
/-! what may be told of a crew -/
inductive Out
  | meek
  | forg (k : Nat)
  | round (p : List Nat)
  | told (l : List Nat)
def keepsB (h : Hou) (k : Nat) : Bool := (h.ks.getD k ("", true, 0)).2.1
def forgs (h : Hou) (c : List Nat) : List Nat := c.filter fun k => !keepsB h k
def OutIs (h : Hou) (c : List Nat) : Out → Prop
  | .meek => meekQ h = false
  | .forg k => meekQ h = true ∧ k ∈ forgs h c ∧ ∀ y ∈ forgs h c, k ≤ y
  | .round p => meekQ h = true ∧ forgs h c = [] ∧ crewR (putB h c) c.length = some p
  | .told l => meekQ h = true ∧ forgs h c = [] ∧ crewR (putB h c) c.length = none ∧ KB.IsMost (putB h c) c.length l
/-- how it is raised, or else -/
def OutE (K : PySem.W.Frag) (CN CF CG : Addr) (M : List Addr) (H : Hp) (E : XK) (T : List Nat → Prop) : Out → Prop
  | .meek => ∀ H', Sub H H' → E (.ref CN) none H'
  | .forg k => ∀ (a : Addr) (v : V) (H' : Hp), Sub H H' → Dm K M H' v (.int (k : Int)) → H' a = some (.xd [(("kind" : Str), v)]) → E (.ref CF) (some a) H'
  | .round p => ∀ (a : Addr) (v : V) (H' : Hp), Sub H H' → Dm K M H' v (.tuple (intD p)) → H' a = some (.xd [(("persons" : Str), v)]) → E (.ref CG) (some a) H'
  | .told l => T l
def spAsk (K : PySem.W.Frag) (CN CF CG : Addr) : Sp := fun vs H Q E => ∃ (M : List Addr) (h : Hou) (c : List Nat) (o : Out), Kn M H ∧ Dms K M H vs [houD h, .tuple (intD c)] ∧ CrewOk h c ∧ OutIs h c o ∧ OutE K CN CF CG M H E (fun _ => ∀ H', Sub H H' → Q .non H') o
def spMB (K : PySem.W.Frag) (CN CF CG : Addr) : Sp := fun vs H Q E => ∃ (M : List Addr) (h : Hou) (c : List Nat) (o : Out), Kn M H ∧ Dms K M H vs [houD h, .tuple (intD c)] ∧ CrewOk h c ∧ OutIs h c o ∧
  OutE K CN CF CG M H E (fun l => ∀ (p : Addr) (H' : Hp), Sub H H' → H p = none → H' p = some (.lst (intV l)) → Q (.ref p) H') o
def spBR (K : PySem.W.Frag) (CN CF CG : Addr) : Sp := fun vs H Q E => ∃ (M : List Addr) (h : Hou) (c : List Nat) (o : Out), Kn M H ∧ Dms K M H vs [houD h, .tuple (intD c)] ∧ CrewOk h c ∧ OutIs h c o ∧ OutE K CN CF CG M H E (fun _ => False) o
def spIP (K : PySem.W.Frag) (CN CF CG : Addr) : Sp := fun vs H Q E => ∃ (M : List Addr) (h : Hou) (c : List Nat) (d : PyData) (o : Out), Kn M H ∧ Dms K M H vs [houD h, .tuple (intD c), d] ∧ CrewOk h c ∧ OutIs h c o ∧ OutE K CN CF CG M H E (fun _ => False) o
section
variable {K : PySem.W.Frag} {CN CF CG : Addr} {M : List Addr} {H H' : Hp} {E : XK} {T T' : List Nat → Prop}
theorem OutE.sub {o : Out} (s : Sub H H') (h : OutE K CN CF CG M H E T o) (ht : ∀ l, o = .told l → T l → T' l) : OutE K CN CF CG M H' E T' o := by
  cases o with
  | meek => exact fun H2 s2 => h H2 (s.trans s2)
  | forg k => exact fun a v H2 s2 => h a v H2 (s.trans s2)
  | round p => exact fun a v H2 s2 => h a v H2 (s.trans s2)
  | told l => exact ht l rfl h
end
section
variable {K : PySem.W.Frag} {M : List Addr} {σ : L2.St} {H : Hp} {te : TE}
theorem sum_int : ∀ l : List Nat, (l.map fun k : Nat => (k : Int)).sum = ((l.sum : Nat) : Int)
  | [] => rfl
  | a :: l => by
    have := sum_int l
    rw [List.map_cons, List.sum_cons, List.sum_cons, this]
    omega
theorem intV_int (l : List Nat) : intV l = (l.map fun k : Nat => (k : Int)).map V.int := by
  unfold intV
  rw [List.map_map]
  rfl
theorem evd_sum {l : List Nat} (h : EvD K M te σ H (.list (intD l))) : EvD K M (tCB (rSum K) (tCons te tNil)) σ H (.int ((l.sum : Nat) : Int)) := fun H1 s Q q =>
  h H1 s _ fun v H2 s2 hv => by
    obtain ⟨a, xs, rfl, hs, hx⟩ := hv.lstAt
    rw [dms_ints hx, intV_int] at hs
    refine ⟨a, _, rfl, hs, ?_⟩
    rw [sum_int]
    exact q _ H2 s2 (.int _)
theorem evd_minI {l : List Nat} (h : EvD K M te σ H (.list (intD l))) {m : Nat} (hm : m ∈ l) (hl : ∀ y ∈ l, m ≤ y) : EvD K M (tCB (rMin K) (tCons te tNil)) σ H (.int ((m : Nat) : Int)) := fun H1 s Q q =>
  h H1 s _ fun v H2 s2 hv => by
    obtain ⟨a, xs, rfl, hs, hx⟩ := hv.lstAt
    rw [dms_ints hx, intV_int] at hs
    refine ⟨a, _, rfl, hs, by rw [List.length_map]; exact List.length_pos_of_mem hm, fun z hz hle => ?_⟩
    obtain ⟨k, hk, rfl⟩ := List.mem_map.mp hz
    have h1 := hl k hk
    have h2 := hle _ (List.mem_map.mpr ⟨m, hm, rfl⟩)
    have : k = m := by omega
    rw [this]
    exact q _ H2 s2 (.int _)
end
section
variable {P : Program} {w : World} {K : PySem.W.Frag} {mg : Str → Option Value} {base : Heap}
abbrev sAsk : Stmt := topS 21
abbrev NAsk : List Str := ["house", "crew", "forgetting", "persons", "kind"]
theorem scAsk : FnScope NAsk ["house", "crew"] (defScope sAsk) := ⟨rfl, rfl, rfl, by decide +kernel, rfl, by decide +kernel, by decide +kernel⟩
abbrev tForg (K : PySem.W.Frag) : TT := tNot (tB (tOp (rIxT K) (tOp (rIxT K) (tOp (rIxT K) (tVar 0) (tC (.int 0))) (tVar 4)) (tC (.int 1))))
theorem ok_ask {f fM fR CN CF CG iF iG : Addr} {fd fdM fdR : FuncData} (F : Fun K "_ask_crew" "_ask_crew" sAsk f fd) (T : Txt mg) (zm : mg "min" = none) (EN : Oer0 K mg "NotMeek" CN) (EF : Mer P w K mg base "Forgets" "kind" CF iF) (EG : Mer P w K mg base "GoesRound" "persons" CG iG)
    (CM : Cal P w K mg base "is_meek" 2 ["house"] (spPure K rMeekQ) fM fdM) (CR : Cal P w K mg base "crew_round" 5 ["house", "crew"] (spPure K rCrewR) fR fdR) : FnOk P w K mg base (L2.CX P w) 6 f fd ["house", "crew"] (spAsk K CN CF CG) := by
  refine F.okX scAsk (fun vs H Q E h => ?_) (fun cdv A outer s H vs Q E hr h => ?_)
  · obtain ⟨_, _, _, _, _, hd, _⟩ := h
    rw [hd.len]
    rfl
  obtain ⟨M, h, c, o, kn, hd, x, io, q⟩ := h
  obtain ⟨vh, vc, rfl, hh, hc⟩ := Dms.two_at hd
  have n8 := x.few
  have hr2 : Room 2 _ := hr.mono (by decide)
  refine ⟨_, pss_cons (ps_if (pt_not (pt_val (pcl CM hr2 (pa_cons (pv 0) pa_nil)))) (pss_one (ps_raise0 (W := fun cls d _ H => E cls d H) rfl EN (takes_of rfl rfl rfl rfl))) pss_nil)
    (pss_cons (ps_setLc (i := 2) (own := [("kind", 4)]) (g := gName 4) (tt := tForg K) (te := tVar 4) rfl scAsk.nd rfl rfl rfl (pi_tup (pv 1)) (blkOk_by (N := NAsk) (sc := defScope sAsk) (by decide +kernel)) (fun _ _ _ _ _ => pg_name (i := 4) scAsk.nd rfl (Or.inl rfl))
      (fun _ _ _ _ _ => pts_one (pt_not (pt_val (pe_ix ix_tup (pe_ix ix_tup (pe_ix ix_tup (pv 0) pe_int (fun _ _ => rfl)) (pv 4) (fun _ _ => rfl)) pe_int (fun _ _ => rfl))))) (fun _ _ _ _ _ => pv 4))
    (pss_cons (ps_if (pt_truth (pv 2) (fun _ => rfl)) (pss_one (ps_raise1 (W := fun cls d _ H => E cls d H) rfl EF hr2 (takes_of rfl rfl rfl rfl) (pe_callB (cr_min rfl) (by rfl) zm PyProof.Rows.boot_min (pa_cons (pv 2) pa_nil)))) pss_nil)
    (pss_cons (ps_set (i := 3) scAsk.nd rfl (Or.inl rfl) (pcl CR hr (pa_cons (pv 0) (pa_cons (pv 1) pa_nil))))
    (pss_one (ps_if (pt_cmp (pc_notN (pv 3))) (pss_one (ps_raise1 (W := fun cls d _ H => E cls d H) rfl EG hr2 (takes_of rfl rfl rfl rfl) (pv 3))) pss_nil))))), ?_⟩
  refine sifs ?_
  refine evb_not (evb_val (evd_pure (K := K) (M := M) (rel := rMeekQ) (E := E0) kn (evds_cons (evd_var (i := 0) (σ := [some vh, some vc, none, none, none]) rfl hh) evds_nil) ⟨h, rfl, x.x, rfl⟩)) H (Sub.refl _) _ fun H1 s1 => ?_
  by_cases em : meekQ h = false
  · rw [em, if_pos (by decide)]
    cases o with
    | meek => exact q H1 s1
    | forg k => rw [io.1] at em; cases em
    | round p => rw [io.1] at em; cases em
    | told l => rw [io.1] at em; cases em
  · have em : meekQ h = true := by
      cases e : meekQ h with
      | true => rfl
      | false => exact absurd e em
    rw [em, if_neg (by decide)]
    have n1 := kn.sub s1
    have hh1 := Dm.s hh s1
    have hc1 := Dm.s hc s1
    unfold tNext
    dsimp only
    have lc := evd_lcFT (K := K) (M := M) (σ := [some vh, some vc, none, none, none]) (H := H1) (vs := [4]) (j := 4) (tt := tForg K) (te := tVar 1) (tb := tVar 4) (ds := intD c) (fun d => !keepsB h (unNat d)) (fun d => d) n1 (evd_var rfl hc1) (by rw [intD_len]; omega) (by intro z; rfl)
      (fun Dl hD d z Hx sx nx hdm hz => by
        obtain ⟨k, hk, rfl⟩ := List.mem_map.mp hdm
        have hk' := x.lt k hk
        cases hz.intAt
        have e0 : EvD K (Dl :: M) (tVar 0) ([some vh, some vc, none, none, some (.int (k : Int))] : L2.St) Hx (houD h) := evd_var rfl (Dm.s (Dm.more hh1 hD) sx)
        have e1 : EvD K (Dl :: M) _ ([some vh, some vc, none, none, some (.int (k : Int))] : L2.St) Hx (.tuple (h.ks.map kdD)) := evd_ixT e0 (evd_int (i := 0)) (by decide) rfl
        have e2 : EvD K (Dl :: M) _ ([some vh, some vc, none, none, some (.int (k : Int))] : L2.St) Hx (kdD (h.ks.getD k ("", true, 0))) := evd_ixT e1 (evd_var (i := 4) rfl (.int (k : Int))) (Int.natCast_nonneg _) (by rw [Int.toNat_natCast, List.getElem?_map, kd_atQ hk']; rfl)
        rw [show unNat (.int (k : Int)) = k from Int.toNat_natCast k]
        exact evb_not (evb_val (evd_ixT e2 (evd_int (i := 1)) (by decide) rfl)))
      (fun Dl hD d z Hx sx nx hdm hf hz => evd_var rfl hz)
    have el : ((intD c).filter fun d => !keepsB h (unNat d)).map (fun d => d) = intD (forgs h c) := by
      unfold intD forgs
      rw [List.map_id', List.filter_map]
      have : ((fun d => !keepsB h (unNat d)) ∘ fun k : Nat => PyData.int (k : Int)) = fun k => !keepsB h k := funext fun k => by
        show (!keepsB h ((k : Int)).toNat) = _
        rw [Int.toNat_natCast]
      rw [this]
    rw [el] at lc
    refine evd_sset (K := K) (M := M) (EvNL.toD n1 lc) fun v2 H2 s2 h2 => ?_
    have s12 := s1.trans s2
    have e2 {Hx : Hp} (sx : Sub H2 Hx) : EvD K M (tVar 2) ([some vh, some vc, some v2, none, none] : L2.St) Hx (.list (intD (forgs h c))) := evd_var rfl (Dm.s h2 sx)
    refine sifs ?_
    refine ifs_of (evb_truL (e2 (Sub.refl _))) fun H3 s3 => ?_
    have s23 := s12.trans s3
    by_cases ef : forgs h c = []
    · rw [ef, if_neg (by decide)]
      dsimp only
      refine evd_sset (K := K) (M := M) (evd_pure (rel := rCrewR) (E := E0) (kn.sub s23) (evds_cons (evd_var (i := 0) (σ := [some vh, some vc, some v2, none, none]) rfl (Dm.s hh s23)) (evds_cons (evd_var (i := 1) rfl (Dm.s hc s23)) evds_nil)) ⟨h, c, rfl, x, rfl⟩) fun v3 H4 s4 h3 => ?_
      have s34 := s23.trans s4
      have e3 {Hx : Hp} (sx : Sub H4 Hx) : EvD K M (tVar 3) ([some vh, some vc, some v2, some v3, none] : L2.St) Hx (roundD (crewR (putB h c) c.length)) := evd_var rfl (Dm.s h3 sx)
      refine evb_val (evd_notN (K := K) (M := M) (b := (crewR (putB h c) c.length).isSome) (e3 (Sub.refl _)) ?_) H4 (Sub.refl _) _ fun H5 s5 => ?_
      · cases crewR (putB h c) c.length with
        | none => exact .inl ⟨rfl, rfl⟩
        | some p => exact .inr ⟨(fun z => nomatch z), rfl⟩
      · cases o with
        | meek =>
          rw [show meekQ h = false from io] at em
          cases em
        | forg k =>
          have := io.2.1
          rw [ef] at this
          cases this
        | round p =>
          rw [io.2.2, if_pos (by rfl)]
          have e3' := e3 s5
          rw [io.2.2] at e3'
          exact e3' H5 (Sub.refl _) _ fun v H6 s6 hv => made1_of EG.r fun d H7 s7 e => q d v H7 (((s34.trans s5).trans s6).trans s7) (Dm.s hv s7) e
        | told l =>
          rw [io.2.2.1, if_neg (by decide)]
          exact q H5 (s34.trans s5)
    · have : (!(intD (forgs h c)).isEmpty) = true := by
        cases e : forgs h c with
        | nil => exact absurd e ef
        | cons a l => rfl
      rw [this, if_pos rfl]
      cases o with
      | meek =>
        rw [show meekQ h = false from io] at em
        cases em
      | forg k =>
        exact (evd_minI (e2 s3) io.2.1 io.2.2) H3 (Sub.refl _) _ fun v H6 s6 hv => made1_of EF.r fun d H7 s7 e => q d v H7 ((s23.trans s6).trans s7) (Dm.s hv s7) e
      | round p => exact absurd io.2.1 ef
      | told l => exact absurd io.2.1 ef
end
end KZ

namespace KZ
open PySem PySem.Spec PyProof.Rows L2
section
variable {P : Program} {w : World} {K : PySem.W.Frag} {mg : Str → Option Value} {base : Heap}
abbrev sMB : Stmt := topS 17
abbrev NMB : List Str := ["house", "crew", "most", "person", "other"]
theorem scMB : FnScope NMB ["house", "crew"] (defScope sMB) := ⟨rfl, rfl, rfl, by decide +kernel, rfl, by decide +kernel, by decide +kernel⟩
theorem sum_getD (far : KB.Far2) (l : List Nat) : (l.map fun y => (KB.val far y).getD 0) = l.map fun y => (KB.val far y).getD 0 := rfl
theorem ok_mb {f fA fV fM CN CF CG : Addr} {fd fdA fdV fdM : FuncData} (F : Fun K "most_begins" "most_begins" sMB f fd) (T : Txt mg) (zs : mg "sum" = none) (CA : CalX P w K mg base "_ask_crew" 6 ["house", "crew"] (spAsk K CN CF CG) fA fdA)
    (CV : Cal P w K mg base "_victims_last" 5 ["house", "crew"] (spVict K) fV fdV) (CM : Cal P w K mg base "_masters_of" 4 ["house", "crew", "person"] (spPure K rMast) fM fdM) : FnOk P w K mg base (L2.CX P w) 7 f fd ["house", "crew"] (spMB K CN CF CG) := by
  refine F.okX scMB (fun vs H Q E h => ?_) (fun cdv A outer s H vs Q E hr h => ?_)
  · obtain ⟨_, _, _, _, _, hd, _⟩ := h
    rw [hd.len]
    rfl
  obtain ⟨M, h, c, out, kn, hd, x, io, q⟩ := h
  obtain ⟨vh, vc, rfl, hh, hc⟩ := Dms.two_at hd
  have n8 := x.few
  have hr4 : Room 4 _ := hr.mono (by decide)
  have hr5 : Room 5 _ := hr.mono (by decide)
  have hu : (A.deeper (envOfC "most_begins" (defScope sMB) s.heap.objs.size f cdv)).units + 1 < cLine := Nat.lt_of_le_of_lt (Nat.add_le_add_left (by decide) _) hr.units
  refine ⟨_, pss_cons (ps_expr (pclX CA hr (takes_of (E := E) rfl rfl rfl rfl) (pa_cons (pv 0) (pa_cons (pv 1) pa_nil))))
    (pss_cons (ps_set (i := 2) scMB.nd rfl (Or.inr rfl) pe_dnewK)
    (pss_cons (ps_for (passes_of rfl) rfl (pi_list (pcl CV hr5 (pa_cons (pv 0) (pa_cons (pv 1) pa_nil)))) (pg_name (i := 3) scMB.nd rfl (Or.inl rfl))
      (pss_one (ps_dput hu (pv 2) (pv 3) (pe_op op_add pe_int (pe_callB (cr_sum rfl) (by rfl) zs PyProof.Rows.boot_sum (pa_cons
        (pe_lc (own := [("other", 4)]) (g := gName 4) (tt := tYes) (te := tDGet (tVar 2) (tVar 4)) rfl scMB.nd (pi_list (pcl CM hr4 (pa_cons (pv 0) (pa_cons (pv 1) (pa_cons (pv 3) pa_nil))))) (blkOk_by (N := NMB) (sc := defScope sMB) (by decide +kernel)) (fun _ _ _ _ _ => pg_name (i := 4) scMB.nd rfl (Or.inl rfl)) (fun _ _ _ _ _ => pts_nil)
          (fun _ _ _ _ _ => pe_dget hu (pv 2) (pv 4) (fun _ _ => rfl))) pa_nil))) rfl)))
    (pss_one (ps_ret (pe_lc (own := [("person", 3)]) (g := gName 3) (tt := tYes) (te := tDGet (tVar 2) (tVar 3)) rfl scMB.nd (pi_range1 rfl T.range (pa_cons (pe_callB call_len_seq (by rfl) T.len PySem.boot_len (pa_cons (pv 1) pa_nil)) pa_nil)) (blkOk_by (N := NMB) (sc := defScope sMB) (by decide +kernel)) (fun _ _ _ _ _ => pg_name (i := 3) scMB.nd rfl (Or.inl rfl)) (fun _ _ _ _ _ => pts_nil)
        (fun _ _ _ _ _ => pe_dget hu (pv 2) (pv 3) (fun _ _ => rfl))))))), ?_⟩
  refine ⟨_, rfl, _, rfl, M, h, c, out, kn, .cons hh (.cons hc .nil), x, io, ?_⟩
  cases out with
  | meek => exact q
  | forg k => exact q
  | round p => exact q
  | told l =>
  intro H1 s1
  obtain ⟨em, ef, ecr, im⟩ := io
  have no : ∀ a k, a < c.length → ¬ KB.Cl (putB h c) c.length a k := by
    rcases crewR_ok (putB h c) c.length with ⟨p, e, _⟩ | ⟨_, no⟩
    · rw [ecr] at e
      cases e
    · exact no
  have q' : ∀ (p : Addr) (H' : Hp), Sub H H' → H p = none → H' p = some (.lst (intV l)) → Q (.ref p) H' := q
  dsimp only
  refine sset_of ?_
  unfold tDNewK
  intro dm hdm
  have hdm0 : H dm = none := s1.free hdm
  have s2 : Sub H (upd H1 dm (.dK [])) := s1.trans (Sub.new hdm)
  have h2dm : upd H1 dm (.dK []) dm = some (.dK (farK [])) := upd_same
  generalize upd H1 dm (.dK []) = H2 at s2 h2dm ⊢
  refine sfor (forL_of ⟨_, rfl, _, rfl, M, h, c, kn.sub s2, .cons (Dm.s hh s2) (.cons (Dm.s hc s2) .nil), x, no, fun p ord H3 s3 o full hp h3p => ?_⟩)
  have fewo := o.few
  have s23 := s2.trans s3
  have hp0 : H p = none := s2.free hp
  have npd : p ≠ dm := fun z => by
    rw [z, h2dm] at hp
    cases hp
  refine ⟨p, rfl, ⟨_, SqL.of h3p⟩, for_list (K := K) (a := p) (xs := intV ord) (fun i σ H' => ∃ (far : KB.Far) (u3 : Option V), σ = [some vh, some vc, some (.ref dm), u3, none] ∧ Sub H H' ∧ H' p = some (.lst (intV ord)) ∧ H' dm = some (.dK (farK far)) ∧ KB.TabM (putB h c) c.length far ∧ far.map (·.1) = ord.take i)
    ⟨[], none, rfl, s23, h3p, s3 _ _ h2dm, KB.TabM.nil, rfl⟩ (fun i σ H' _ ⟨_, _, _, _, z, _⟩ => SqL.of z) ?_ ?_⟩
  · rintro i y σ H4 hi ⟨far, u3, rfl, s4, h4p, h4d, tm, keys⟩
    obtain ⟨one, hone, rfl⟩ := intV_at hi
    have onen := o.lt one (List.mem_of_getElem? hone)
    have hil := (List.getElem?_eq_some_iff.mp hone).1
    have eord : ord = ord.take i ++ one :: ord.drop (i + 1) := by
      have e1 := List.take_append_drop i ord
      rw [List.drop_eq_getElem_cons hil, (List.getElem?_eq_some_iff.mp hone).2] at e1
      exact e1.symm
    have nin : one ∉ ord.take i := fun z => by
      have := o.nd
      rw [eord, List.nodup_append] at this
      exact this.2.2 one z one List.mem_cons_self rfl
    have nhas : KB.has far one = false := by
      cases e : KB.has far one with
      | false => rfl
      | true =>
        obtain ⟨k, hk⟩ := KB.has_iff.mp e
        have : one ∈ far.map (·.1) := List.mem_map.mpr ⟨_, hk, rfl⟩
        rw [keys] at this
        exact absurd this nin
    have hup : ∀ y ∈ KB.up (putB h c) c.length one, KB.has far y = true := fun y hy => by
      obtain ⟨hy1, hy2⟩ := KB.mem_up.mp hy
      have := o.up _ one _ eord y hy1 hy2
      rw [← keys] at this
      obtain ⟨⟨a, k⟩, hm, rfl⟩ := List.mem_map.mp this
      exact KB.has_iff.mpr ⟨k, hm⟩
    refine gname_of ?_
    dsimp only [List.set]
    have n4 := kn.sub s4
    have fewf : far.length ≤ 8 := by
      have := congrArg List.length keys
      rw [List.length_map, List.length_take] at this
      omega
    have lm : EvD K M (tCall (spPure K rMast) [] E0 (tCons (tVar 0) (tCons (tVar 1) (tCons (tVar 3) tNil)))) ([some vh, some vc, some (.ref dm), some (.int (one : Int)), none] : L2.St) H4 (.list (intD (KB.up (putB h c) c.length one))) :=
      evd_pure (rel := rMast) n4 (evds_cons (evd_var (i := 0) rfl (Dm.s hh s4)) (evds_cons (evd_var (i := 1) rfl (Dm.s hc s4)) (evds_cons (evd_var (i := 3) rfl (.int _)) evds_nil))) ⟨h, c, one, rfl, x, onen, rfl⟩
    have upl : (KB.up (putB h c) c.length one).length ≤ c.length := by
      unfold KB.up
      have := List.length_filter_le (putB h c one) (List.range c.length)
      rw [List.length_range] at this
      exact this
    have lc := evd_lc (K := K) (M := M) (σ := [some vh, some vc, some (.ref dm), some (.int (one : Int)), none]) (vs := [4]) (j := 4) (tb := tDGet (tVar 2) (tVar 4)) (fun d => .int (((KB.val far (unNat d)).getD 0 : Nat) : Int)) n4 lm (by rw [intD_len]; omega) (by intro z; rfl)
      (fun Dl hD d z Hx sx nx hdm hz => by
        obtain ⟨y, hy, rfl⟩ := List.mem_map.mp hdm
        cases hz.intAt
        rw [show unNat (.int (y : Int)) = y from Int.toNat_natCast y]
        have hs := hup y hy
        rw [← KB.val_some] at hs
        cases ev : KB.val far y with
        | none =>
          rw [ev] at hs
          cases hs
        | some k => exact evd_dgetF (i := 2) (j := 4) rfl (sx _ _ h4d) rfl ev)
    have el : (intD (KB.up (putB h c) c.length one)).map (fun d => PyData.int (((KB.val far (unNat d)).getD 0 : Nat) : Int)) = intD ((KB.up (putB h c) c.length one).map fun y => (KB.val far y).getD 0) := by
      unfold intD
      rw [List.map_map, List.map_map]
      refine List.map_congr_left fun y _ => ?_
      show PyData.int (((KB.val far ((y : Int)).toNat).getD 0 : Nat) : Int) = _
      rw [Int.toNat_natCast]
      rfl
    rw [el] at lc
    have ev := evd_add (K := K) (M := M) (evd_int (i := 1)) (evd_sum (EvNL.toD n4 lc))
    refine ev H4 (Sub.refl _) _ fun v H5 s5 hv => ?_
    cases hv.intAt
    have s45 := s4.trans s5
    refine ⟨_, rfl, _, rfl, dm, _, rfl, DPut.k (k := .inl (one : Int)) (s5 _ _ h4d) (szl (by unfold farK; rw [List.length_map]; omega)), ?_⟩
    rw [show (1 : Int) + ((((KB.up (putB h c) c.length one).map fun y => (KB.val far y).getD 0).sum : Nat) : Int) = ((1 + ((KB.up (putB h c) c.length one).map fun y => (KB.val far y).getD 0).sum : Nat) : Int) by omega, farK_put _ _ nhas]
    refine ⟨_, _, rfl, s45.mut hdm0, by rw [upd_ne npd]; exact s5 _ _ h4p, upd_same, tm.add nhas hup, ?_⟩
    rw [List.map_append, keys, take_snoc hone]
    rfl
  · rintro σ H4 ⟨far, u3, rfl, s4, h4p, h4d, tm, keys⟩
    rw [intV_len, List.take_length] at keys
    have all : ∀ y, y < c.length → KB.has far y = true := fun y hy => by
      have := o.full full hy
      rw [← keys] at this
      obtain ⟨⟨a, k⟩, hm, rfl⟩ := List.mem_map.mp this
      exact KB.has_iff.mpr ⟨k, hm⟩
    have el := KB.most_uni o full im (tm.most all)
    have elen := evd_lenT (K := K) (M := M) (evd_var (i := 1) (σ := [some vh, some vc, some (.ref dm), u3, none]) rfl (Dm.s hc s4))
    rw [intD_len] at elen
    have lc := evd_lcR (K := K) (M := M) (σ := [some vh, some vc, some (.ref dm), u3, none]) (H := H4) (vs := [3]) (j := 3) (tr := tCons (tCB (rLenS K) (tCons (tVar 1) tNil)) tNil) (tb := tDGet (tVar 2) (tVar 3)) (m := ((c.length : Nat) : Int)) (fun y => .int (((KB.val far y).getD 0 : Nat) : Int)) (kn.sub s4) (evds_cons elen evds_nil) (by omega) (by omega) (by intro z; rfl)
      (fun Dl hD y Hx sx nx hi => by
        have hs := all y (by omega)
        rw [← KB.val_some] at hs
        cases ev : KB.val far y with
        | none =>
          rw [ev] at hs
          cases hs
        | some k => exact evd_dgetF (i := 2) (j := 3) rfl (sx _ _ h4d) rfl ev)
    rw [Int.toNat_natCast] at lc
    dsimp only
    refine ret_of (lc H4 (Sub.refl _) _ fun p xs H5 s5 hp5 h5p hx => ?_)
    have ed : (List.range c.length).map (fun y => PyData.int (((KB.val far y).getD 0 : Nat) : Int)) = intD l := by
      rw [el]
      unfold intD
      rw [List.map_map]
      rfl
    rw [ed] at hx
    exact q' p H5 (s4.trans s5) (s4.free hp5) (by rw [h5p, dms_ints hx])
abbrev sBR : Stmt := topS 18
theorem scBR : FnScope ["house", "crew"] ["house", "crew"] (defScope sBR) := ⟨rfl, rfl, rfl, by decide +kernel, rfl, by decide +kernel, by decide +kernel⟩
theorem ok_br {f fA CN CF CG : Addr} {fd fdA : FuncData} (F : Fun K "busiest_run" "busiest_run" sBR f fd) (CA : CalX P w K mg base "_ask_crew" 6 ["house", "crew"] (spAsk K CN CF CG) fA fdA) : FnOk P w K mg base (L2.CX P w) 7 f fd ["house", "crew"] (spBR K CN CF CG) := by
  refine F.okX scBR (fun vs H Q E h => ?_) (fun cdv A outer s H vs Q E hr h => ?_)
  · obtain ⟨_, _, _, _, _, hd, _⟩ := h
    rw [hd.len]
    rfl
  obtain ⟨M, h, c, out, kn, hd, x, io, q⟩ := h
  obtain ⟨vh, vc, rfl, hh, hc⟩ := Dms.two_at hd
  refine ⟨_, pss_cons (ps_expr (pclX CA hr (takes_of (E := E) rfl rfl rfl rfl) (pa_cons (pv 0) (pa_cons (pv 1) pa_nil)))) (pss_one (t := fun _ _ _ => False) ⟨fun _ _ _ _ _ _ z => z.elim⟩), ?_⟩
  refine ⟨_, rfl, _, rfl, M, h, c, out, kn, .cons hh (.cons hc .nil), x, io, ?_⟩
  cases out with
  | meek => exact q
  | forg k => exact q
  | round p => exact q
  | told l => exact False.elim q
abbrev sIP : Stmt := topS 19
theorem scIP : FnScope ["house", "crew", "counts", "persons"] ["house", "crew", "counts"] (defScope sIP) := ⟨rfl, rfl, rfl, by decide +kernel, rfl, by decide +kernel, by decide +kernel⟩
theorem ok_ip {f fA CN CF CG : Addr} {fd fdA : FuncData} (F : Fun K "is_possible" "is_possible" sIP f fd) (CA : CalX P w K mg base "_ask_crew" 6 ["house", "crew"] (spAsk K CN CF CG) fA fdA) : FnOk P w K mg base (L2.CX P w) 7 f fd ["house", "crew", "counts"] (spIP K CN CF CG) := by
  refine F.okX scIP (fun vs H Q E h => ?_) (fun cdv A outer s H vs Q E hr h => ?_)
  · obtain ⟨_, _, _, _, _, _, hd, _⟩ := h
    rw [hd.len]
    rfl
  obtain ⟨M, h, c, d, out, kn, hd, x, io, q⟩ := h
  obtain ⟨vh, vc, v2, rfl, hh, hc, _⟩ := Dms.three_at hd
  refine ⟨_, pss_cons (ps_expr (pclX CA hr (takes_of (E := E) rfl rfl rfl rfl) (pa_cons (pv 0) (pa_cons (pv 1) pa_nil)))) (pss_cons (t := fun _ _ _ => False) ⟨fun _ _ _ _ _ _ z => z.elim⟩ (pss_one (t := fun _ _ _ => False) ⟨fun _ _ _ _ _ _ z => z.elim⟩)), ?_⟩
  refine ⟨_, rfl, _, rfl, M, h, c, out, kn, .cons hh (.cons hc .nil), x, io, ?_⟩
  cases out with
  | meek => exact q
  | forg k => exact q
  | round p => exact q
  | told l => exact False.elim q
end
end KZ

namespace KZ
open PySem PySem.Spec PyProof.Rows L2
section
variable {K : PySem.W.Frag} {M : List Addr} {σ : L2.St} {H H' : Hp} {ta tb tx ti tj te : TE} {tr : TA} {d : PyData} {ds : List PyData} {i j : Int}
theorem evd_put (n : Kn M H) (ha : EvD K M ta σ H (.tuple ds)) (hi : EvD K M ti σ H (.int i)) (hx : EvD K M tx σ H d) (hb : EvD K M tb σ H (.tuple ds)) (hj : EvD K M tj σ H (.int (i + 1))) (h0 : 0 ≤ i) (h1 : i < ds.length) (hz : ds.length < 100000) :
    EvD K M (tOp (rCatA K) (tOp (rCatA K) (tSl (rSlA K) ta tNoPart (tPart ti)) (tTup (tCons tx tNil))) (tSl (rSlA K) tb (tPart tj) tNoPart)) σ H (.tuple (ds.set i.toNat d)) := by
  have e1 := evd_slT n ha evo_none (evo_some hi)
  have e2 := evd_slT n hb (evo_some hj) evo_none
  rw [cutD_to h0 (by omega)] at e1
  rw [cutD_from (by omega) (by omega)] at e2
  have e3 := evd_catT n (evd_catT n e1 (evd_tup n (evds_cons hx evds_nil) lt1) (by rw [List.length_take]; simp; omega)) e2 (by rw [List.length_append, List.length_take, List.length_drop]; simp; omega)
  rw [show (i + 1).toNat = i.toNat + 1 by omega, set_eq d ds i.toNat (by omega)] at e3
  exact e3
theorem evd_mulI (ha : EvD K M ta σ H (.int i)) (hb : EvD K M tb σ H (.int j)) (c : CMul i j) : EvD K M (tOp (rI CMul fun i j => .int (i * j)) ta tb) σ H (.int (i * j)) := fun H1 s Q q =>
  ha H1 s _ fun v H2 s2 hv => hb H2 (s.trans s2) _ fun u H3 s3 hu => by
    cases hv.intAt
    cases hu.intAt
    exact ⟨i, j, rfl, rfl, c, q _ H3 (s2.trans s3) (.int _)⟩
theorem evd_divI (ha : EvD K M ta σ H (.int i)) (hb : EvD K M tb σ H (.int j)) (c : CDiv i j) : EvD K M (tOp (rI CDiv fun i j => .int (i / j)) ta tb) σ H (.int (i / j)) := fun H1 s Q q =>
  ha H1 s _ fun v H2 s2 hv => hb H2 (s.trans s2) _ fun u H3 s3 hu => by
    cases hv.intAt
    cases hu.intAt
    exact ⟨i, j, rfl, rfl, c, q _ H3 (s2.trans s3) (.int _)⟩
theorem evd_modI (ha : EvD K M ta σ H (.int i)) (hb : EvD K M tb σ H (.int j)) (hj : 0 < j) : EvD K M (tOp (rI (fun _ j => 0 < j) fun i j => .int (i % j)) ta tb) σ H (.int (i % j)) := fun H1 s Q q =>
  ha H1 s _ fun v H2 s2 hv => hb H2 (s.trans s2) _ fun u H3 s3 hu => by
    cases hv.intAt
    cases hu.intAt
    exact ⟨i, j, rfl, rfl, hj, q _ H3 (s2.trans s3) (.int _)⟩
theorem evd_gtI2 (ha : EvD K M ta σ H (.int i)) (hb : EvD K M tb σ H (.int j)) : EvD K M (tOp (rI0 fun i j => .bl (decide (j < i))) ta tb) σ H (.bool (decide (j < i))) := fun H1 s Q q =>
  ha H1 s _ fun v H2 s2 hv => hb H2 (s.trans s2) _ fun u H3 s3 hu => by
    cases hv.intAt
    cases hu.intAt
    exact ⟨i, j, rfl, rfl, q _ H3 (s2.trans s3) (.bl _)⟩
theorem evd_intI (ha : EvD K M ta σ H (.int i)) : EvD K M (tCB rInt1 (tCons ta tNil)) σ H (.int i) := fun H1 s Q q =>
  ha H1 s _ fun v H2 s2 hv => by
    cases hv.intAt
    exact .inl ⟨i, rfl, q _ H2 s2 (.int _)⟩
end
theorem Dms.four_at' {K : PySem.W.Frag} {M : List Addr} {H : Hp} {v : V} {d e f g : PyData} (h : Dm K M H v (.tuple [d, e, f, g])) : ∃ a v1 v2 v3 v4, v = .ref a ∧ SqT K H a [v1, v2, v3, v4] ∧ Dm K M H v1 d ∧ Dm K M H v2 e ∧ Dm K M H v3 f ∧ Dm K M H v4 g := by
  obtain ⟨a, xs, rfl, hs, ha⟩ := h.tupAt
  obtain ⟨v1, v2, v3, v4, rfl, h1, h2, h3, h4⟩ := Dms.four_at ha
  exact ⟨a, v1, v2, v3, v4, rfl, hs, h1, h2, h3, h4⟩
def spWW (K : PySem.W.Frag) : Sp := fun vs H Q _ => ∃ (M : List Addr) (vh vp : V) (h : Hou) (p : Pl) (x : Str), vs = [vh, vp, .str x] ∧ Kn M H ∧ Dm K M H vh (houD h) ∧ HQ h ∧ Dm K M H vp (plD p) ∧ PlIn h.ks.length h.ss.length p ∧ x ∈ Words ∧
  ∀ (y : V) (h' : Hou) (H' : Hp), Sub H H' → HQ h' → Dm K M H' y (houD h') → Q y H'
def spLP (K : PySem.W.Frag) : Sp := fun vs H Q _ => ∃ (M : List Addr) (v : V) (h : Hou), vs = [v] ∧ Kn M H ∧ Dm K M H v (houD h) ∧ HQ h ∧
  ∀ (y : V) (ls : List Pl) (H' : Hp), Sub H H' → 0 < ls.length → ls.length < 1000 → (∀ q ∈ ls, PlIn h.ks.length h.ss.length q) → Dm K M H' y (.list (ls.map plD)) → Q y H'
def spLess (K : PySem.W.Frag) : Sp := fun vs H Q _ => ∃ (M : List Addr) (b l : Addr) (v : V) (h : Hou), vs = [.ref b, v] ∧ Cb M b l H ∧ Dm K M H v (houD h) ∧ HQ h ∧
  ∀ (y : V) (h' : Hou) (H' : Hp), Fr b l H H' → HQ h' → Dm K M H' y (houD h') → Q y H'
theorem jud_put {n m : Nat} {j : Jud} {s a h : Nat} {c : Cp} {t : Tab} {r : Row} (ok : JudOk n m j) (et : j[s]? = some t) (er : t[a]? = some r) (oc : CpOk c) : JudOk n m (j.set s (t.set a (r.set h c))) := by
  have ot := ok.2 t (List.mem_of_getElem? et)
  have or_ := ot.2 r (List.mem_of_getElem? er)
  refine ⟨by rw [List.length_set]; exact ok.1, fun t' ht' => ?_⟩
  rcases mem_set ht' with q | q
  · exact ok.2 t' q
  · rw [q]
    refine ⟨by rw [List.length_set]; exact ot.1, fun r' hr' => ?_⟩
    rcases mem_set hr' with q | q
    · exact ot.2 r' q
    · rw [q]
      refine ⟨by rw [List.length_set]; exact or_.1, fun c' hc' => ?_⟩
      rcases mem_set hc' with q | q
      · exact or_.2 c' q
      · rw [q]
        exact oc
def spPut (K : PySem.W.Frag) : Sp := fun vs H Q _ => ∃ (M : List Addr) (n m : Nat) (j : Jud) (s a h : Int) (c : Cp) (vj vc : V), vs = [vj, .int s, .int a, .int h, vc] ∧ Kn M H ∧ Dm K M H vj (judD j) ∧ JudOk n m j ∧ (0 ≤ s ∧ s < m) ∧ (0 ≤ a ∧ a < n) ∧ (0 ≤ h ∧ h < n) ∧ n < 1000 ∧ m < 1000 ∧ Dm K M H vc (cpD c) ∧ CpOk c ∧
  ∀ (y : V) (j' : Jud) (H' : Hp), Sub H H' → JudOk n m j' → Dm K M H' y (judD j') → Q y H'
section
variable {P : Program} {w : World} {K : PySem.W.Frag} {mg : Str → Option Value} {base : Heap}
abbrev sPut : Stmt := topS 31
theorem scPut : FnScope ["judge", "sort", "asker", "holder", "couple", "rows", "row"] ["judge", "sort", "asker", "holder", "couple"] (defScope sPut) := ⟨rfl, rfl, rfl, by decide +kernel, rfl, by decide +kernel, by decide +kernel⟩
theorem ok_put {f : Addr} {fd : FuncData} (F : Fun K "_law_put" "_law_put" sPut f fd) : FnOk P w K mg base CX0 1 f fd ["judge", "sort", "asker", "holder", "couple"] (spPut K) := by
  refine F.ok scPut (fun vs H Q E h => ?_) (fun cdv A outer s H vs Q E hr h => ?_)
  · obtain ⟨M, n, m, j, s, a, h, c, vj, vc, rfl, _⟩ := h
    rfl
  · obtain ⟨M, n, m, j, s, a, h, c, vj, vc, rfl, kn, hj, ok, ⟨s0, s1⟩, ⟨a0, a1⟩, ⟨h0, h1⟩, nz, mz, hc, oc, k⟩ := h
    refine ⟨_, pss_cons (ps_set (i := 5) scPut.nd rfl (Or.inl rfl) (pe_ix ix_tup (pv 0) (pv 1) (fun _ _ => rfl)))
      (pss_cons (ps_set (i := 6) scPut.nd rfl (Or.inl rfl) (pe_op op_catA (pe_op op_catA (pe_slice sl_tupA (pe_ix ix_tup (pv 5) (pv 2) (fun _ _ => rfl)) po_none (po_some (pv 3))) (pe_tup (pa_cons (pv 4) pa_nil)))
        (pe_slice sl_tupA (pe_ix ix_tup (pv 5) (pv 2) (fun _ _ => rfl)) (po_some (pe_op op_add (pv 3) pe_int)) po_none)))
      (pss_one (ps_ret (pe_op op_catA (pe_op op_catA (pe_slice sl_tupA (pv 0) po_none (po_some (pv 1)))
        (pe_tup (pa_cons (pe_op op_catA (pe_op op_catA (pe_slice sl_tupA (pv 5) po_none (po_some (pv 2))) (pe_tup (pa_cons (pv 6) pa_nil))) (pe_slice sl_tupA (pv 5) (po_some (pe_op op_add (pv 2) pe_int)) po_none)) pa_nil)))
        (pe_slice sl_tupA (pv 0) (po_some (pe_op op_add (pv 1) pe_int)) po_none))))), ?_⟩
    have hjl := ok.1
    have et : j[s.toNat]? = some (j[s.toNat]'(by omega)) := List.getElem?_eq_getElem _
    generalize ht : j[s.toNat]'(by omega) = t at et
    have ot := ok.2 t (List.mem_of_getElem? et)
    have htl := ot.1
    have er : t[a.toNat]? = some (t[a.toNat]'(by omega)) := List.getElem?_eq_getElem _
    generalize hr' : t[a.toNat]'(by omega) = r at er
    have hrl := (ot.2 r (List.mem_of_getElem? er)).1
    have i1 {σ : L2.St} {H : Hp} (g : σ[1]? = some (some (V.int s))) : EvD K M (tVar 1) σ H (.int s) := evd_var g (.int s)
    have i2 {σ : L2.St} {H : Hp} (g : σ[2]? = some (some (V.int a))) : EvD K M (tVar 2) σ H (.int a) := evd_var g (.int a)
    have i3 {σ : L2.St} {H : Hp} (g : σ[3]? = some (some (V.int h))) : EvD K M (tVar 3) σ H (.int h) := evd_var g (.int h)
    refine evd_sset (K := K) (M := M) (d := tabD t) (evd_ixT (evd_var rfl hj) (i1 rfl) s0 (by rw [List.getElem?_map, et] <;> rfl)) fun v5 H1 s1' h5 => ?_
    have hj1 := Dm.s hj s1'
    have hc1 := Dm.s hc s1'
    have n1 := kn.sub s1'
    have erow {σ : L2.St} (g : σ[5]? = some (some v5)) (g2 : σ[2]? = some (some (V.int a))) : EvD K M (tOp (rIxT K) (tVar 5) (tVar 2)) σ H1 (.tuple (r.map cpD)) := evd_ixT (evd_var g h5) (i2 g2) a0 (by rw [List.getElem?_map, er] <;> rfl)
    refine evd_sset (K := K) (M := M) (d := rowD (r.set h.toNat c)) ?_ fun v6 H2 s2 h6 => ?_
    · have q := evd_put n1 (erow rfl rfl) (i3 rfl) (evd_var (i := 4) rfl hc1) (erow rfl rfl) (evd_add (i3 rfl) evd_int) h0 (by rw [List.length_map]; omega) (by rw [List.length_map]; omega) (σ := [some vj, some (V.int s), some (V.int a), some (V.int h), some vc, some v5, none])
      rw [← List.map_set] at q
      exact q
    have n2 := n1.sub s2
    have hj2 := Dm.s hj1 s2
    have h52 := Dm.s h5 s2
    refine evd_ret (K := K) (M := M) (d := judD (j.set s.toNat (t.set a.toNat (r.set h.toNat c)))) ?_ fun y H3 s3 hy => k y _ H3 ((s1'.trans s2).trans s3) (jud_put ok et er oc) hy
    have q1 := evd_put n2 (evd_var (i := 5) rfl h52) (i2 rfl) (evd_var (i := 6) rfl h6) (evd_var (i := 5) rfl h52) (evd_add (i2 rfl) evd_int) a0 (by rw [List.length_map]; omega) (by rw [List.length_map]; omega) (σ := [some vj, some (V.int s), some (V.int a), some (V.int h), some vc, some v5, some v6])
    rw [← List.map_set] at q1
    have q2 := evd_put n2 (evd_var (i := 0) rfl hj2) (i1 rfl) q1 (evd_var (i := 0) rfl hj2) (evd_add (i1 rfl) evd_int) s0 (by rw [List.length_map]; omega) (by rw [List.length_map]; omega)
    rw [show PyData.tuple (List.map rowD (t.set a.toNat (r.set h.toNat c))) = tabD (t.set a.toNat (r.set h.toNat c)) from rfl, ← List.map_set] at q2
    exact q2
abbrev sWW : Stmt := topS 40
abbrev NWW : List Str := ["house", "place", "word", "sort", "asker", "holder", "side", "couple"]
theorem scWW : FnScope NWW ["house", "place", "word"] (defScope sWW) := ⟨rfl, rfl, rfl, by decide +kernel, rfl, by decide +kernel, by decide +kernel⟩
theorem ok_wW {f fP : Addr} {fd fdP : FuncData} (F : Fun K "_law_with_word" "_law_with_word" sWW f fd) (CP : Cal P w K mg base "_law_put" 1 ["judge", "sort", "asker", "holder", "couple"] (spPut K) fP fdP) : FnOk P w K mg base CX0 2 f fd ["house", "place", "word"] (spWW K) := by
  refine F.ok scWW (fun vs H Q E h => ?_) (fun cdv A outer s H vs Q E hr h => ?_)
  · obtain ⟨_, _, _, _, _, _, rfl, _⟩ := h
    rfl
  · obtain ⟨M, vh, vp, h, ⟨ps, pa, ph, pd⟩, wd, rfl, kn, hh, x, hp, pin, hw, q⟩ := h
    refine ⟨_, pss_cons (ps_asg (pv 1) (pg_tup rfl (pgs_cons (pg_name (i := 3) scWW.nd rfl (Or.inl rfl)) (pgs_cons (pg_name (i := 4) scWW.nd rfl (Or.inl rfl)) (pgs_cons (pg_name (i := 5) scWW.nd rfl (Or.inl rfl)) (pgs_cons (pg_name (i := 6) scWW.nd rfl (Or.inl rfl)) pgs_nil))))))
      (pss_cons (ps_set (i := 7) scWW.nd rfl (Or.inl rfl) (pe_ix ix_tup (pe_ix ix_tup (pe_ix ix_tup (pe_ix ix_tup (pv 0) pe_int (fun _ _ => rfl)) (pv 3) (fun _ _ => rfl)) (pv 4) (fun _ _ => rfl)) (pv 5) (fun _ _ => rfl)))
      (pss_cons (ps_set (i := 7) scWW.nd rfl (Or.inl rfl) (pe_ifExp (pt_cmpR op_eq (pv 6) pe_int (nomark _)) (pe_tup (pa_cons (pv 2) (pa_cons (pe_ix ix_tup (pv 7) pe_int (fun _ _ => rfl)) pa_nil))) (pe_tup (pa_cons (pe_ix ix_tup (pv 7) pe_int (fun _ _ => rfl)) (pa_cons (pv 2) pa_nil)))))
      (pss_one (ps_ret (pe_tup (pa_cons (pe_ix ix_tup (pv 0) pe_int (fun _ _ => rfl)) (pa_cons (pe_ix ix_tup (pv 0) pe_int (fun _ _ => rfl)) (pa_cons (pcl CP hr (pa_cons (pe_ix ix_tup (pv 0) pe_int (fun _ _ => rfl)) (pa_cons (pv 3) (pa_cons (pv 4) (pa_cons (pv 5) (pa_cons (pv 7) pa_nil)))))) pa_nil)))))))), ?_⟩
    obtain ⟨a, v0, v1, v2, v3, rfl, hs, h0, h1, h2, h3⟩ := Dms.four_at' hp
    cases h0.intAt
    cases h1.intAt
    cases h2.intAt
    cases h3.intAt
    refine ⟨_, rfl, a, _, rfl, hs, rfl, _, _, rfl, _, _, rfl, _, _, rfl, _, _, rfl, rfl, ?_⟩
    dsimp only [List.set]
    obtain ⟨i1, i2, i3, i4⟩ := pin
    dsimp only at i1 i2 i3 i4
    have k5 := x.k5
    have s4 := x.s4
    obtain ⟨e1, e2, e3⟩ := judAt x.j (p := (ps, pa, ph, pd)) ⟨i1, i2, i3, i4⟩
    dsimp only at e1 e2 e3
    have rok := (x.j.2 _ (List.mem_of_getElem? e1)).2 _ (List.mem_of_getElem? e2)
    have cok := rok.2 _ (List.mem_of_getElem? e3)
    obtain ⟨cp, ecp⟩ : ∃ cp, cp = ((h.j.getD ps []).getD pa []).getD ph ("", "") := ⟨_, rfl⟩
    rw [← ecp] at e3 cok
    have eh {u7 : Option V} {Hx : Hp} (sx : Sub H Hx) : EvD K M (tVar 0) ([some vh, some (.ref a), some (.str wd), some (.int (ps : Int)), some (.int (pa : Int)), some (.int (ph : Int)), some (.int (pd : Int)), u7] : L2.St) Hx (houD h) := evd_var rfl (Dm.s hh sx)
    have ej {u7 : Option V} {Hx : Hp} (sx : Sub H Hx) : EvD K M (tOp (rIxT K) (tVar 0) (tC (.int 2))) ([some vh, some (.ref a), some (.str wd), some (.int (ps : Int)), some (.int (pa : Int)), some (.int (ph : Int)), some (.int (pd : Int)), u7] : L2.St) Hx (judD h.j) := evd_ixT (eh sx) (evd_int (i := 2)) (by decide) rfl
    have c1 := evd_ixT (K := K) (M := M) (d := tabD (h.j.getD ps [])) (ej (u7 := none) (Sub.refl H)) (evd_var (i := 3) rfl (.int (ps : Int))) (Int.natCast_nonneg _) (by rw [Int.toNat_natCast, List.getElem?_map, e1]; rfl)
    have c2 := evd_ixT (K := K) (M := M) (d := rowD ((h.j.getD ps []).getD pa [])) c1 (evd_var (i := 4) rfl (.int (pa : Int))) (Int.natCast_nonneg _) (by rw [Int.toNat_natCast, List.getElem?_map, e2]; rfl)
    have c3 := evd_ixT (K := K) (M := M) (d := cpD cp) c2 (evd_var (i := 5) rfl (.int (ph : Int))) (Int.natCast_nonneg _) (by rw [Int.toNat_natCast, List.getElem?_map, e3]; rfl)
    refine evd_sset (K := K) (M := M) c3 fun v7 H1 s1 h7 => ?_
    have n1 := kn.sub s1
    have e7 : EvD K M (tVar 7) ([some vh, some (.ref a), some (.str wd), some (.int (ps : Int)), some (.int (pa : Int)), some (.int (ph : Int)), some (.int (pd : Int)), some v7] : L2.St) H1 (.tuple [.str cp.1, .str cp.2]) := evd_var rfl h7
    have ew : EvD K M (tVar 2) ([some vh, some (.ref a), some (.str wd), some (.int (ps : Int)), some (.int (pa : Int)), some (.int (ph : Int)), some (.int (pd : Int)), some v7] : L2.St) H1 (.str wd) := evd_var rfl (.str _)
    obtain ⟨cp2, cok2, ecp2⟩ : ∃ cp2, CpOk cp2 ∧ cp2 = if pd = 0 then (wd, cp.2) else (cp.1, wd) := by
      refine ⟨_, ?_, rfl⟩
      split
      · exact ⟨hw, cok.2⟩
      · exact ⟨cok.1, hw⟩
    have ei := evd_ifE (K := K) (M := M) (d := cpD cp2) (ta := tTup (tCons (tVar 2) (tCons (tOp (rIxT K) (tVar 7) (tC (.int 1))) tNil))) (tb := tTup (tCons (tOp (rIxT K) (tVar 7) (tC (.int 0))) (tCons (tVar 2) tNil))) (evb_test (evd_eqI (K := K) (M := M) (σ := [some vh, some (.ref a), some (.str wd), some (.int (ps : Int)), some (.int (pa : Int)), some (.int (ph : Int)), some (.int (pd : Int)), some v7]) (H := H1) (ta := tVar 6) (tb := tC (.int 0)) (evd_var rfl (.int (pd : Int))) (evd_int (i := 0))))
      (fun e => by
        have : pd = 0 := by have := of_decide_eq_true e; omega
        rw [ecp2, if_pos this]
        exact evd_tup n1 (evds_cons ew (evds_cons (evd_ixT e7 (evd_int (i := 1)) (by decide) rfl) evds_nil)) lt2)
      (fun e => by
        have : ¬ pd = 0 := fun z => by
          have := of_decide_eq_false e
          omega
        rw [ecp2, if_neg this]
        exact evd_tup n1 (evds_cons (evd_ixT e7 (evd_int (i := 0)) (by decide) rfl) (evds_cons ew evds_nil)) lt2)
    refine evd_sset (K := K) (M := M) ei fun v8 H2 s2 h8 => ?_
    have s12 := s1.trans s2
    have n2 := kn.sub s12
    refine ret_of (tup_of (cons_of ((evd_ixT (d := .tuple (h.ks.map kdD)) (eh s12) (evd_int (i := 0)) (by decide) rfl) H2 (Sub.refl _) _ fun w0 H3 s3 hw0 => cons_of ((evd_ixT (d := .tuple (h.ss.map PyData.str)) (eh (s12.trans s3)) (evd_int (i := 1)) (by decide) rfl) H3 (Sub.refl _) _ fun w1 H4 s4' hw1 => ?_))))
    have s24 := (s12.trans s3).trans s4'
    refine cons_of ?_
    refine (ej s24) H4 (Sub.refl _) _ fun vj H5 s5 hvj => ?_
    have s25 := s24.trans s5
    refine ⟨_, rfl, _, rfl, _, rfl, _, rfl, M, h.ks.length, h.ss.length, h.j, (ps : Int), (pa : Int), (ph : Int), cp2, vj, v8, rfl, kn.sub s25, hvj, x.j, ⟨by omega, by omega⟩, ⟨by omega, by omega⟩, ⟨by omega, by omega⟩, by omega, by omega, Dm.s (Dm.s (Dm.s h8 s3) s4') s5, cok2, fun y j' H6 s6 ok' hy => nil_of ⟨by show 3 ≤ sizeLine; decide, fun z hz => ?_⟩⟩
    have s26 := s25.trans s6
    refine q _ ⟨h.ks, h.ss, j'⟩ _ (s26.trans (Sub.new hz)) ⟨x.k0, x.k5, x.s0, x.s4, ok', x.kn, x.sn⟩ ?_
    exact Dm.tupNew (kn.sub s26) hz (.cons (Dm.s (Dm.s (Dm.s hw0 s4') s5) s6) (.cons (Dm.s (Dm.s hw1 s5) s6) (.cons hy .nil)))
end
end KZ

namespace KZ
open PySem PySem.Spec PyProof.Rows L2
theorem op_of {r : R2} {ta tb : TE} {σ : L2.St} {H : Hp} {Q : VK} (h : ta σ H fun x H1 => tb σ H1 fun y H2 => r x y H2 Q) : tOp r ta tb σ H Q := h
theorem cat_at {K : PySem.W.Frag} {M : List Addr} {H : Hp} {x y : V} {ds es : List PyData} {Q : VK} (n : Kn M H) (hx : Dm K M H x (.tuple ds)) (hy : Dm K M H y (.tuple es)) (hl : ds.length + es.length < 1000000) (q : ∀ v H', Sub H H' → Dm K M H' v (.tuple (ds ++ es)) → Q v H') : rCatA K x y H Q := by
  have z := (evd_catT (σ := [some x, some y]) n (evd_var (i := 0) rfl hx) (evd_var (i := 1) rfl hy) hl) H (Sub.refl _) Q q
  obtain ⟨_, e1, _, e2, r⟩ := z
  cases e1
  cases e2
  exact r
theorem sasg_of {te : TE} {g : TG} {u : TS} {D : Ends} {σ : L2.St} {H : Hp} (h : te σ H fun x H1 => g x σ H1 fun σ2 H2 => u D σ2 H2) : tSeq (tAsg te g) u D σ H := h
section
variable {P : Program} {w : World} {K : PySem.W.Frag} {mg : Str → Option Value} {base : Heap}
abbrev sLP : Stmt := topS 41
abbrev NLP : List Str := ["house", "found", "many", "sort", "asker", "k"]
theorem scLP : FnScope NLP ["house"] (defScope sLP) := ⟨rfl, rfl, rfl, by decide +kernel, rfl, by decide +kernel, by decide +kernel⟩
abbrev tPl : TE := tTup (tCons (tVar 3) (tCons (tVar 4) (tCons (tCB rInt1 (tCons (tOp (rI CDiv fun i j => .int (i / j)) (tVar 5) (tC (.int 2))) tNil)) (tCons (tOp (rI (fun _ j => 0 < j) fun i j => .int (i % j)) (tVar 5) (tC (.int 2))) tNil))))
theorem ok_lP {f : Addr} {fd : FuncData} (F : Fun K "_law_places" "_law_places" sLP f fd) (T : Txt mg) : FnOk P w K mg base CX0 1 f fd ["house"] (spLP K) := by
  refine F.ok scLP (fun vs H Q E h => ?_) (fun cdv A outer s H vs Q E hr h => ?_)
  · obtain ⟨_, _, _, rfl, _⟩ := h
    rfl
  · obtain ⟨M, v, h, rfl, kn, hv, x, q⟩ := h
    have k0 := x.k0
    have k5 := x.k5
    have s0 := x.s0
    have s4 := x.s4
    refine ⟨_, pss_cons (ps_par (i := 1) (j := 2) rfl scLP.nd rfl rfl (by decide) rfl rfl (pa_cons (pe_lst pa_nil) (pa_cons (pe_callB call_len_seq (by rfl) T.len PySem.boot_len (pa_cons (pe_ix ix_tup (pv 0) pe_int (fun _ _ => rfl)) pa_nil)) pa_nil)) rfl)
      (pss_cons (ps_for PassesOwn.never rfl (pi_range1 rfl T.range (pa_cons (pe_callB call_len_seq (by rfl) T.len PySem.boot_len (pa_cons (pe_ix ix_tup (pv 0) pe_int (fun _ _ => rfl)) pa_nil)) pa_nil)) (pg_name (i := 3) scLP.nd rfl (Or.inr rfl))
        (pss_one (ps_for PassesOwn.never rfl (pi_range1 rfl T.range (pa_cons (pv 2) pa_nil)) (pg_name (i := 4) scLP.nd rfl (Or.inr rfl))
          (pss_one (ps_expr (pe_bm PySem.F.plainAttrs_list PySem.F.slot_list_extend PySem.F.type_list_extend mt_extend (pv 1) (pa_cons
            (pe_lc (own := [("k", 5)]) (g := gName 5) (tt := tYes) (te := tPl) rfl scLP.nd (pi_range1 rfl T.range (pa_cons (pe_op op_mul pe_int (pv 2)) pa_nil)) (blkOk_by (N := NLP) (sc := defScope sLP) (by decide +kernel)) (fun _ _ _ _ _ => pg_name (i := 5) scLP.nd rfl (Or.inl rfl)) (fun _ _ _ _ _ => pts_nil)
              (fun _ _ _ _ _ => pe_tup (pa_cons (pv 3) (pa_cons (pv 4) (pa_cons (pe_callTy call_int1 (by rfl) T.int bootInt (pa_cons (pe_op op_fdiv (pv 5) pe_int) pa_nil)) (pa_cons (pe_op op_mod (pv 5) pe_int) pa_nil)))))) pa_nil)))))))
      (pss_one (ps_ret (pv 1)))), ?_⟩
    refine spar_of (cons_of (lst_of (nil_of ⟨Nat.zero_le _, fun p hp => ?_⟩)))
    have e0 {u1 u2 u3 u4 u5 : Option V} {Hx : Hp} (sx : Sub H Hx) : EvD K M (tVar 0) ([some v, u1, u2, u3, u4, u5] : L2.St) Hx (houD h) := evd_var rfl (Dm.s hv sx)
    refine cons_of ((evd_kinds (e0 (Sub.new hp))) _ (Sub.refl _) _ fun vn H1 s1 hn => nil_of ⟨_, _, rfl, ?_⟩)
    cases hn.intAt
    have s01 : Sub H H1 := (Sub.new hp).trans s1
    have h1p := s1 _ _ (upd_same (H := H) (a := p) (o := .lst []))
    dsimp only [List.set]
    obtain ⟨n, en⟩ : ∃ n, n = h.ks.length := ⟨_, rfl⟩
    rw [← en]
    refine sfor (for_rngE (evd_sorts (e0 s01)) (by omega) (fun i σ H' => ∃ (u3 u4 : Option V) (vs : List V) (ls : List Pl), σ = [some v, some (.ref p), some (.int (n : Int)), u3, u4, none] ∧ Sub H H' ∧ H' p = some (.lst vs) ∧ Dms K (p :: M) H' vs (ls.map plD) ∧ (∀ q ∈ ls, PlIn h.ks.length h.ss.length q) ∧ ls.length = i * (n * (2 * n)))
      (fun H2 s2 => ⟨none, none, [], [], rfl, s01.trans s2, s2 _ _ h1p, .nil, by simp, by simp⟩) ?_ ?_)
    · rintro i σ H2 hi ⟨u3, u4, vs, ls, rfl, s2, h2p, hds, hin, hl⟩
      refine gname_of ?_
      dsimp only [List.set]
      have em {u3 u4 u5 : Option V} {Mx : List Addr} {Hx : Hp} : EvD K Mx (tVar 2) ([some v, some (.ref p), some (.int (n : Int)), u3, u4, u5] : L2.St) Hx (.int (n : Int)) := evd_var rfl (.int _)
      refine for_rngE (em (Mx := M)) (by omega) (fun j σ H' => ∃ (u4 : Option V) (vs : List V) (ls : List Pl), σ = [some v, some (.ref p), some (.int (n : Int)), some (.int (i : Int)), u4, none] ∧ Sub H H' ∧ H' p = some (.lst vs) ∧ Dms K (p :: M) H' vs (ls.map plD) ∧ (∀ q ∈ ls, PlIn h.ks.length h.ss.length q) ∧ ls.length = i * (n * (2 * n)) + j * (2 * n))
        (fun H3 s3 => ⟨u4, vs, ls, rfl, s2.trans s3, s3 _ _ h2p, hds.s s3, hin, by rw [hl]; simp⟩) ?_ ?_
      · rintro j σ H3 hj ⟨u4, vs, ls, rfl, s3, h3p, hds, hin, hl⟩
        refine gname_of ?_
        dsimp only [List.set]
        have n3 : Kn (p :: M) H3 := (kn.sub s3).more ⟨_, h3p⟩
        have lc := evd_lcR (K := K) (M := p :: M) (σ := [some v, some (.ref p), some (.int (n : Int)), some (.int (i : Int)), some (.int (j : Int)), none]) (H := H3) (vs := [5]) (j := 5) (tr := tCons (tOp (rI CMul fun i j => .int (i * j)) (tC (.int 2)) (tVar 2)) tNil) (tb := tPl) (m := 2 * (n : Int)) (fun k => plD (i, j, k / 2, k % 2)) n3
          (evds_cons (evd_mulI (evd_int (i := 2)) em (.inl ⟨by decide, by decide⟩)) evds_nil) (by omega) (by omega) (by intro z; rfl)
          (fun Dl hD k Hx sx nx hk => by
            have ek : EvD K (Dl :: p :: M) (tVar 5) ([some v, some (.ref p), some (.int (n : Int)), some (.int (i : Int)), some (.int (j : Int)), some (.int (k : Int))] : L2.St) Hx (.int (k : Int)) := evd_var rfl (.int _)
            have e1 := evd_intI (evd_divI ek (evd_int (i := 2)) ⟨by decide, by decide⟩)
            have e2 := evd_modI ek (evd_int (i := 2)) (by decide)
            rw [show (k : Int) / 2 = ((k / 2 : Nat) : Int) by omega] at e1
            rw [show (k : Int) % 2 = ((k % 2 : Nat) : Int) by omega] at e2
            exact evd_tup nx (evds_cons (evd_var (i := 3) rfl (.int (i : Int))) (evds_cons (evd_var (i := 4) rfl (.int (j : Int))) (evds_cons e1 (evds_cons e2 evds_nil)))) lt4)
        rw [show (2 * (n : Int)).toNat = 2 * n by omega] at lc
        have vl := hds.len
        rw [List.length_map] at vl
        have i3 : i ≤ 2 := by omega
        have j3 : j ≤ 3 := by omega
        have n4 : n ≤ 4 := by omega
        have b1 : i * (n * (2 * n)) ≤ 2 * (4 * (2 * 4)) := Nat.mul_le_mul i3 (Nat.mul_le_mul n4 (Nat.mul_le_mul (Nat.le_refl _) n4))
        have b2 : j * (2 * n) ≤ 3 * (2 * 4) := Nat.mul_le_mul j3 (Nat.mul_le_mul (Nat.le_refl _) n4)
        refine ⟨_, rfl, .inl ⟨rfl, _, SqL.of h3p⟩, args1 (lc H3 (Sub.refl _) _ fun r xs H4 s4 hr4 h4r hx => ?_)⟩
        have s34 := s3.trans s4
        have h4p := s4 _ _ h3p
        have npr : p ≠ r := ne_of_none h3p hr4
        have xl := hx.len
        rw [List.length_map, List.length_range] at xl
        refine ⟨p, r, _, _, rfl, rfl, h4p, h4r, Nat.le_of_lt (szl (by omega)), ?_⟩
        refine ⟨_, _, ls ++ ((List.range (2 * n)).map fun k => (i, j, k / 2, k % 2)), rfl, s34.mut hp, upd_same, ?_, ?_, ?_⟩
        · rw [List.map_append]
          have km : Kp (p :: M) H4 (upd H4 p (.lst (vs ++ xs))) := Kp.mut List.mem_cons_self
          refine Dms.k ((hds.s s4).app ?_) km
          rw [List.map_map]
          exact hx.less fun a m => List.mem_cons_of_mem _ m
        · intro z hz
          rcases List.mem_append.mp hz with hz | hz
          · exact hin z hz
          · obtain ⟨k, hk, rfl⟩ := List.mem_map.mp hz
            have := List.mem_range.mp hk
            exact ⟨hi, by show j < h.ks.length; omega, by show k / 2 < h.ks.length; omega, by show k % 2 < 2; omega⟩
        · rw [List.length_append, hl, List.length_map, List.length_range, show (j + 1) * (2 * n) = j * (2 * n) + 2 * n from Nat.succ_mul _ _]
          omega
      · rintro σ H3 ⟨u4, vs, ls, rfl, s3, h3p, hds, hin, hl⟩
        refine ⟨_, _, vs, ls, rfl, s3, h3p, hds, hin, ?_⟩
        rw [hl, show (i + 1) * (n * (2 * n)) = i * (n * (2 * n)) + n * (2 * n) from Nat.succ_mul _ _]
    · rintro σ H2 ⟨u3, u4, vs, ls, rfl, s2, h2p, hds, hin, hl⟩
      dsimp only
      have n4 : n ≤ 4 := by omega
      have s3 : h.ss.length ≤ 3 := by omega
      have b1 : h.ss.length * (n * (2 * n)) ≤ 3 * (4 * (2 * 4)) := Nat.mul_le_mul s3 (Nat.mul_le_mul n4 (Nat.mul_le_mul (Nat.le_refl _) n4))
      have b2 : 0 < h.ss.length * (n * (2 * n)) := Nat.mul_pos s0 (Nat.mul_pos (by omega) (by omega))
      exact ret_of ⟨_, rfl, q _ ls H2 s2 (by omega) (by omega) hin (Dm.lstOf (kn.out hp) h2p hds)⟩
abbrev sLess : Stmt := topS 43
abbrev NLess : List Str := ["bag", "house", "name", "keeps", "rise"]
theorem scLess : FnScope NLess ["bag", "house"] (defScope sLess) := ⟨rfl, rfl, rfl, by decide +kernel, rfl, by decide +kernel, by decide +kernel⟩
theorem ok_less {f fT fW fS fP : Addr} {fd fdT fdW fdS fdP : FuncData} (F : Fun K "_law_less_meek" "_law_less_meek" sLess f fd) (T : Txt mg) (CT : Cal P w K mg base "_law_take" 1 ["bag", "upto"] spTake fT fdT) (CW : Cal P w K mg base "_law_with_word" 2 ["house", "place", "word"] (spWW K) fW fdW)
    (CS : Cal P w K mg base "_law_some" 2 ["bag", "things"] (spSome K) fS fdS) (CP : Cal P w K mg base "_law_places" 1 ["house"] (spLP K) fP fdP) : FnOk P w K mg base CX0 3 f fd ["bag", "house"] (spLess K) := by
  refine F.ok scLess (fun vs H Q E h => ?_) (fun cdv A outer s H vs Q E hr h => ?_)
  · obtain ⟨_, _, _, _, _, rfl, _⟩ := h
    rfl
  · obtain ⟨M, b, l, v, h, rfl, cb, hv, x, q⟩ := h
    have k0 := x.k0
    have k5 := x.k5
    have hr1 : Room 1 _ := hr.mono (by decide)
    refine ⟨_, pss_cons (ps_if (PW.pt (pw_and (pt_cmpR op_gt (pe_callB call_len_seq (by rfl) T.len PySem.boot_len (pa_cons (pe_ix ix_tup (pv 1) pe_int (fun _ _ => rfl)) pa_nil)) pe_int (nomark _)) (pw_and1 (pt_cmpR op_eq (pcl CT hr1 (pa_cons (pv 0) (pa_cons pe_int pa_nil))) pe_int (nomark _)))))
        (pss_cons (ps_asg (pe_ix ix_tup (pe_ix ix_tup (pv 1) pe_int (fun _ _ => rfl)) pe_int (fun _ _ => rfl)) (pg_tup rfl (pgs_cons (pg_name (i := 2) scLess.nd rfl (Or.inl rfl)) (pgs_cons (pg_name (i := 3) scLess.nd rfl (Or.inl rfl)) (pgs_cons (pg_name (i := 4) scLess.nd rfl (Or.inl rfl)) pgs_nil)))))
        (pss_one (ps_ret (pe_tup (pa_cons (pe_op op_catA (pe_tup (pa_cons (pe_tup (pa_cons (pv 2) (pa_cons (pv 3) (pa_cons (pe_op op_add pe_int (pcl CT hr1 (pa_cons (pv 0) (pa_cons (pe_op op_sub (pe_callB call_len_seq (by rfl) T.len PySem.boot_len (pa_cons (pe_ix ix_tup (pv 1) pe_int (fun _ _ => rfl)) pa_nil)) pe_int) pa_nil)))) pa_nil)))) pa_nil)) (pe_slice sl_tupA (pe_ix ix_tup (pv 1) pe_int (fun _ _ => rfl)) (po_some pe_int) po_none))
          (pa_cons (pe_ix ix_tup (pv 1) pe_int (fun _ _ => rfl)) (pa_cons (pe_ix ix_tup (pv 1) pe_int (fun _ _ => rfl)) pa_nil))))))) pss_nil)
      (pss_one (ps_ret (pcl CW hr (pa_cons (pv 1) (pa_cons (pcl CS hr (pa_cons (pv 0) (pa_cons (pcl CP hr1 (pa_cons (pv 1) pa_nil)) pa_nil))) (pa_cons pe_str pa_nil)))))), ?_⟩
    have e1 {u2 u3 u4 : Option V} {Hx : Hp} (fx : Fr b l H Hx) : EvD K M (tVar 1) ([some (.ref b), some v, u2, u3, u4] : L2.St) Hx (houD h) := evd_var rfl (Dm.f hv fx cb.mem)
    have f0 := Fr.refl cb.bag
    have tail : ∀ H1, Fr b l H H1 → tRet (tCall (spWW K) [] E0 (tCons (tVar 1) (tCons (tCall (spSome K) [] E0 (tCons (tVar 0) (tCons (tCall (spLP K) [] E0 (tCons (tVar 1) tNil)) tNil))) (tCons (tC (.str "oust")) tNil)))) { nx := fun _ H' => Q .non H', rt := Q } ([some (.ref b), some v, none, none, none] : L2.St) H1 := fun H1 f1 => by
      refine ret_of (cons_of ⟨_, rfl, cons_of (cons_of ⟨_, rfl, cons_of ⟨_, rfl, M, v, h, rfl, (cb.fr f1).kn, Dm.f hv f1 cb.mem, x, fun y ls H2 s2 l0 l1 lin hy => nil_of ?_⟩⟩)⟩)
      have f2 : Fr b l H1 H2 := Fr.sub f1.bag s2
      refine ⟨M, b, l, y, _, rfl, (cb.fr f1).fr f2, .inl hy, by rw [List.length_map]; exact l0, by rw [List.length_map]; omega, fun z d H3 f3 hd hz => c_of (nil_of ?_)⟩
      obtain ⟨p, hp, rfl⟩ := List.mem_map.mp hd
      have f13 := (f1.trans f2).trans f3
      exact ⟨M, v, z, h, p, "oust", rfl, (cb.fr f13).kn, Dm.f hv f13 cb.mem, x, hz, lin p hp, by decide, fun y h' H4 s4 x' hy => q y h' H4 (f13.trans (Fr.sub f13.bag s4)) x' hy⟩
    have c1 : EvB (tTest (tOp (rI0 fun i j => .bl (decide (j < i))) (tCB (rLenS K) (tCons (tOp (rIxT K) (tVar 1) (tC (.int 0))) tNil)) (tC (.int 1)))) ([some (.ref b), some v, none, none, none] : L2.St) H (decide ((1 : Int) < (h.ks.length : Int))) := evb_test (evd_gtI2 (evd_kinds (e1 f0)) (evd_int (i := 1)))
    refine sifs (c1 H (Sub.refl _) _ fun H1 s1 => ?_)
    have f1 : Fr b l H H1 := Fr.sub cb.bag s1
    by_cases g : 1 < h.ks.length
    · rw [decide_eq_true (by omega), if_pos rfl]
      refine ⟨_, rfl, b, l, 2, rfl, f1.bag, by decide, by decide, fun i H2 f2 i0 i1 => ?_⟩
      have f12 := f1.trans f2
      refine ⟨rfl, _, rfl, ite2 (fun e => ?_) (fun e => ?_)⟩
      · have hk0 : h.ks[0]? = some (h.ks.getD 0 ("", true, 0)) := kd_atQ k0
        have kin := x.kn _ (List.mem_of_getElem? hk0)
        refine sasg_of ?_
        refine (evd_ixT (d := kdD (h.ks.getD 0 ("", true, 0))) (evd_ixT (d := .tuple (h.ks.map kdD)) (e1 f12) (evd_int (i := 0)) (by decide) rfl) (evd_int (i := 0)) (by decide) (by rw [List.getElem?_map]; show Option.map kdD h.ks[0]? = _; rw [hk0]; rfl)) H2 (Sub.refl _) _ fun vk H3 s3 hvk => ?_
        have f13 := f12.trans (Fr.sub f12.bag s3)
        obtain ⟨a, w0, w1, w2, rfl, hs, g0, g1, g2⟩ := Dm.threeT hvk
        refine ⟨a, _, rfl, hs, rfl, _, _, rfl, _, _, rfl, _, _, rfl, rfl, ?_⟩
        have e3 {Hx : Hp} (fx : Fr b l H Hx) : EvD K M (tVar 1) ([some (.ref b), some v, some w0, some w1, some w2] : L2.St) Hx (houD h) := evd_var rfl (Dm.f hv fx cb.mem)
        have kn3 := (cb.fr f13).kn
        refine ret_of (tup_of (cons_of (op_of (tup_of (cons_of (tup_of (cons_of ⟨_, rfl, cons_of ⟨_, rfl, cons_of (op_of (c_of ⟨_, rfl, cons_of ?_⟩))⟩⟩)))))))
        refine (evd_subI (evd_kinds (e3 f13)) (evd_int (i := 1))) H3 (Sub.refl _) _ fun vm H4 s4 hm => ?_
        cases hm.intAt
        have f14 := f13.trans (Fr.sub f13.bag s4)
        refine nil_of ⟨b, l, _, rfl, f14.bag, by omega, by omega, fun j H5 f5 j0 j1 => ⟨_, _, rfl, rfl, nil_of ⟨by show 3 ≤ sizeLine; decide, fun z hz => nil_of ⟨by show 1 ≤ sizeLine; decide, fun z2 hz2 => ?_⟩⟩⟩⟩
        have f15 := f14.trans f5
        have kn5 := (cb.fr f15).kn
        have g0' := Dm.f (Dm.s g0 s4) f5 cb.mem
        have g1' := Dm.f (Dm.s g1 s4) f5 cb.mem
        have hz5 : Dm K M (upd H5 z (.tup [w0, w1, .int (1 + j)])) (.ref z) (kdD ((h.ks.getD 0 ("", true, 0)).1, (h.ks.getD 0 ("", true, 0)).2.1, 1 + j)) := Dm.tupNew kn5 hz (.cons g0' (.cons g1' (.cons (.int _) .nil)))
        have f16 := f15.trans (Fr.new (o := .tup [w0, w1, .int (1 + j)]) f15.bag hz)
        have hz6 : Dm K M (upd (upd H5 z (.tup [w0, w1, .int (1 + j)])) z2 (.tup [.ref z])) (.ref z2) (.tuple [kdD ((h.ks.getD 0 ("", true, 0)).1, (h.ks.getD 0 ("", true, 0)).2.1, 1 + j)]) := Dm.tupNew (cb.fr f16).kn hz2 (.cons hz5 .nil)
        have f17 := f16.trans (Fr.new (o := .tup [.ref z]) f16.bag hz2)
        generalize upd (upd H5 z (.tup [w0, w1, .int (1 + j)])) z2 (.tup [.ref z]) = H7 at f17 hz6 ⊢
        have kn7 := (cb.fr f17).kn
        refine (evd_slT kn7 (evd_ixT (d := .tuple (h.ks.map kdD)) (e3 f17) (evd_int (i := 0)) (by decide) rfl) (evo_some (evd_int (K := K) (M := M) (i := 1))) evo_none) H7 (Sub.refl _) _ fun v8 H8 s8 h8 => ?_
        rw [cutD_from (by decide) (by rw [List.length_map]; omega)] at h8
        refine cat_at (kn7.sub s8) (Dm.s hz6 s8) h8 (by rw [List.length_drop, List.length_map]; show 1 + _ < 1000000; omega) fun v9 H9 s9 h9 => ?_
        have f19 := f17.trans (Fr.sub f17.bag (s8.trans s9))
        refine (evds_cons (evd_ixT (d := .tuple (h.ss.map PyData.str)) (e3 f19) (evd_int (i := 1)) (by decide) rfl) (evds_cons (evd_ixT (d := judD h.j) (e3 f19) (evd_int (i := 2)) (by decide) rfl) evds_nil)) H9 (Sub.refl _) _ fun us H10 s10 hus => ?_
        refine ⟨by
          have := hus.len
          show us.length + 1 ≤ sizeLine
          rw [this]
          show 3 ≤ sizeLine
          decide, fun z3 hz3 => ?_⟩
        have f110 := f19.trans (Fr.sub f19.bag s10)
        refine q _ ⟨((h.ks.getD 0 ("", true, 0)).1, (h.ks.getD 0 ("", true, 0)).2.1, 1 + j) :: h.ks.drop 1, h.ss, h.j⟩ _ (f110.trans (Fr.new f110.bag hz3)) ?_ (Dm.tupNew (cb.fr f110).kn hz3 (.cons ?_ hus))
        · have el : (h.ks.drop 1).length + 1 = h.ks.length := by rw [List.length_drop]; omega
          refine ⟨?_, ?_, x.s0, x.s4, ?_, ?_, x.sn⟩
          · show 0 < (h.ks.drop 1).length + 1
            omega
          · show (h.ks.drop 1).length + 1 < 5
            omega
          · show JudOk ((h.ks.drop 1).length + 1) h.ss.length h.j
            rw [el]
            exact x.j
          · intro k hk
            rcases List.mem_cons.mp hk with z | z
            · rw [z]
              exact ⟨kin.1, by show (0 : Int) ≤ 1 + j; omega, by show 1 + j < 16; omega⟩
            · exact x.kn k (List.mem_of_mem_drop z)
        · have := Dm.s h9 s10
          rw [← List.map_drop] at this
          exact this
      · exact tail H2 f12
    · rw [decide_eq_false (by omega), if_neg (by decide)]
      exact tail H1 f1
end
end KZ

section
open PySem PySem.Spec PyProof.Rows L2
namespace SrtO
/-! sorted(t), t a tuple: what is gathered, where, and what stays -/
abbrev withNil (h : Heap) : Heap := h.push (seqObj "list" #[] 0)
abbrev withAll (h : Heap) (us : List Value) : Heap := (withNil h).update h.objs.size (Obj.mapSeq (· ++ us.toArray))
abbrev withTwo (h : Heap) (us : List Value) : Heap := (withAll h us).push (seqObj "list" us.toArray 0)
theorem withNil_new (h : Heap) : (withNil h).get? h.objs.size = some (seqObj "list" #[] 0) :=
  Heap.get?_push_size _ rfl
theorem withAll_size (h : Heap) (us : List Value) : (withAll h us).objs.size = h.objs.size + 1 :=
  (Heap.size_update ..).trans (size_push' ..)
theorem withTwo_new (h : Heap) (us : List Value) : (withTwo h us).get? (h.objs.size + 1) = some (seqObj "list" us.toArray 0) :=
  withAll_size h us ▸ Heap.get?_push_size _ rfl
theorem withTwo_old {h : Heap} {us : List Value} {x : Addr} {ob : Obj} (e : h.get? x = some ob) : x ≠ h.objs.size + 1 ∧ (withTwo h us).get? x = some ob :=
  have below := Heap.lt_size e
  ⟨Nat.ne_of_lt (Nat.le_succ_of_le below), Heap.get?_push_of_some _ ((Heap.get?_update_ne _ _ _ _ (Nat.ne_of_lt below)).trans (Heap.get?_push_of_some _ e))⟩
section
variable {pr : Program} {wo : World} {Ar : Around} {Er : Value → Shared → Prop} {st : Shared}
theorem gathered {tp : Addr} {us : List Value} {R : List Value → Shared → Prop} (ht : st.heap.IsTuple tp us.toArray) (few : us.length ≤ sizeLine)
    (k : R us { st with heap := withAll st.heap us }) : wpAny (model pr wo) Ar (collect (.ref tp)) R Er st := by
  have fresh := withNil_new st.heap
  have room : ((#[] : Array Value) ++ us.toArray).size ≤ sizeLine + 1 := by
    rw [Array.size_append]
    exact Nat.le_trans (Nat.le_of_eq (by simp)) (Nat.le_succ_of_le few)
  obtain ⟨ob, at0, cl, ep, its⟩ := id ht
  have at1 : (withNil st.heap).get? tp = some ob := Heap.get?_push_of_some _ at0
  have isT : (Value.type "tuple" == Value.type "tuple") = true := rfl
  unfold collect
  refine wpAny_bind (m := runValue _) (wpAny_runValue ?_)
  refine codeAny_builtin entry_proto_collect' ?_
  refine wpAny_bind (m := newList []) (wpAny_newList ?_)
  refine wpAny_pure (And.intro ?_ ?_)
  · exact Code.quiet_builtin _ (by decide +kernel)
  refine codeAny_builtin entry_list_iadd' ?_
  change wpAny _ _ (Builtin.List.listExtendWith _ _ _) _ _ _
  delta Builtin.List.listExtendWith
  refine wpAny_bind (m := typeOf _) (wpAny_typeOf (T := "tuple") ⟨ob, at1, cl⟩ ?_)
  rw [if_pos (by simp [isT])]
  refine wpAny_bind (m := Builtin.List.listItems _) (listItems_at at1 its ?_)
  refine wpAny_bind (m := Builtin.List.listItems _) (listItems_at fresh rfl ?_)
  rw [if_neg (by simp)]
  refine wpAny_bind (m := Builtin.List.listUpdate _ _) (listUpdate_at fresh rfl ?_ (Nat.zero_le _) room)
  refine wpAny_pure ?_
  refine wpAny_bind (m := load _) (wpAny_load (get?_update_seq fresh _) ?_)
  refine wpAny_pure ?_
  simpa using k
/-- sorted(t) of a tuple of ints -/
theorem sorted_tup_ints {tp : Addr} {us : List Value} {ms : List Int} {R : Value → Shared → Prop} (ht : st.heap.IsTuple tp us.toArray) (few : us.length ≤ sizeLine) (hi : IntsAre us ms)
    (k : ∀ out : List Value, IntsAre out (out.map iv) ∧ (out.map iv).Perm ms ∧ (out.map iv).Pairwise (· ≤ ·) → R (.ref (st.heap.objs.size + 1)) { st with heap := sortedAll st.heap us out.toArray }) :
    wpAny (model pr wo) Ar (call (.builtin "sorted") [.ref tp]) R Er st := by
  have two := withTwo_new st.heap us
  apply Calls.call_function_entry kind_sorted plain_sorted entry_sorted (args_sorted1 _)
  delta Builtin.«sorted»
  refine wpAny_bind (m := checkCount _ _ _ _) (wpAny_pure ?_)
  refine wpAny_bind (m := collect _) (gathered ht few ?_)
  refine wpAny_bind (m := newList us) (wpAny_newList ?_ few)
  change wpAny _ _ _ _ _ { st with heap := withTwo st.heap us }
  rw [withAll_size]
  refine wpAny_bind (wpAny_holding ?_)
  refine wpAny_call_entry slot_list_sort ⟨_, two, rfl⟩ entry_list_sort ?_ (args_list_sort _)
  exact list_sort_ord swo_int two few (fun n2 => ints_sortable hi n2) fun out hs hb => ⟨_, rfl, wpAny_pure ⟨_, rfl, k out (ints_out hi hs hb)⟩⟩
end
end SrtO
namespace KZ
/-- sorted(t), a tuple of numbers -/
def rSortedT (K : PySem.W.Frag) : List V → Hp → VK → Prop := fun vs H Q => ∃ (a : Addr) (ns : List Int), vs = [V.ref a] ∧ SqT K H a (ns.map V.int) ∧
  ∀ (ms : List Int) (p : Addr), ms.Perm ns → ms.Pairwise (· ≤ ·) → H p = none → Q (.ref p) (upd H p (.lst (ms.map V.int)))
theorem cr_sortedT {X : Cx} : CallR X (.builtin "sorted") (rSortedT X.K) := fun pins s σ H vs us Q I r h => by
  obtain ⟨tp, ns, ev, st, q⟩ := h
  subst ev
  obtain ⟨its, rv, tup, few⟩ := I.tuple st
  have big : its.length ≤ sizeLine := rv.length ▸ few
  rw [Vals.ref1 r]
  refine SrtO.sorted_tup_ints tup big rv.ints fun out ⟨k1, k2, k3⟩ => ?_
  have above : s.heap.objs.size ≤ s.heap.objs.size + 1 := Nat.le_succ _
  obtain ⟨ep, laid⟩ := PyProof.Rows.sortedAll_at s.heap its out.toArray
  have room : ((out.map SrtO.iv).map V.int).length ≤ sizeLine := by
    simp only [List.length_map] at few ⊢
    have := k2.length_eq
    rw [List.length_map] at this
    omega
  have inv := I.laid (t' := s.toks) (o := .lst ((out.map SrtO.iv).map V.int)) (fun _ _ => PyProof.Rows.sortedAll_old) above ⟨room, out, ep, vals_of_ints k1, laid⟩
  exact ⟨.ref _, _, inv, rfl, q _ _ k2 k3 (I.hok.fresh above)⟩
theorem ints_nat : ∀ {ms : List Int} {l : List Nat}, ms.Perm (l.map fun k : Nat => (k : Int)) → ∃ l' : List Nat, ms = (l'.map fun k : Nat => (k : Int)) ∧ l'.Perm l := fun {ms l} h => by
  refine ⟨ms.map Int.toNat, ?_, ?_⟩
  · rw [List.map_map]
    have : ∀ m ∈ ms, ((fun k : Nat => (k : Int)) ∘ Int.toNat) m = m := fun m hm => by
      obtain ⟨k, _, rfl⟩ := List.mem_map.mp (h.mem_iff.mp hm)
      show ((((k : Int)).toNat : Nat) : Int) = _
      rw [Int.toNat_natCast]
    rw [List.map_congr_left this, List.map_id']
  · have := h.map Int.toNat
    rw [List.map_map] at this
    have e : (Int.toNat ∘ fun k : Nat => (k : Int)) = id := funext fun k => Int.toNat_natCast k
    rw [e, List.map_id] at this
    exact this
end KZ

end
namespace KZ
open PySem PySem.Spec PyProof.Rows L2
def spCO (K : PySem.W.Frag) : Sp := fun vs H Q _ => ∃ (M : List Addr) (h : Hou) (c : List Nat), Kn M H ∧ Dms K M H vs [houD h, .tuple (intD c)] ∧ CrewOk h c ∧
  (∀ (p : Addr) (ord : List Nat) (H' : Hp), Sub H H' → KB.Ord (putB h c) c.length ord → c.length ≤ ord.length → H p = none → H' p = some (.lst (intV ord)) → Q (.ref p) H') ∧
  (∀ (H' : Hp) (a k : Nat), Sub H H' → a < c.length → KB.Cl (putB h c) c.length a k → Q .non H')
theorem filt_int (f : Nat → Bool) (l : List Nat) : ((intD l).filter fun d => f (unNat d)).map (fun d => d) = intD (l.filter f) := by
  unfold intD
  rw [List.map_id', List.filter_map]
  have : ((fun d => f (unNat d)) ∘ fun k : Nat => PyData.int (k : Int)) = f := funext fun k => by
    show f ((k : Int)).toNat = _
    rw [Int.toNat_natCast]
  rw [this]
def outIn (ord : List Nat) (x : Nat) : Bool := !decide (x ∈ ord)
section
variable {P : Program} {w : World} {K : PySem.W.Frag} {mg : Str → Option Value} {base : Heap}
abbrev sCO : Stmt := topS 37
abbrev NCO : List Str := ["house", "crew", "found", "turn", "some", "one", "other"]
theorem scCO : FnScope NCO ["house", "crew"] (defScope sCO) := ⟨rfl, rfl, rfl, by decide +kernel, rfl, by decide +kernel, by decide +kernel⟩
abbrev tOut1 (K : PySem.W.Frag) : TT := tTest (tOp (rIn K true) (tVar 5) (tVar 2))
abbrev tOut2 (K : PySem.W.Frag) : TT := tTest (tOp (rIn K true) (tVar 6) (tVar 2))
abbrev tUps (K : PySem.W.Frag) : TE := tCall (spPure K rMast) [] E0 (tCons (tVar 0) (tCons (tVar 1) (tCons (tVar 5) tNil)))
abbrev tFree (K : PySem.W.Frag) : TT := tTest (tOp (rEqD K) (tLc (iList K (tUps K)) (gName 6) (tOut2 K) (tVar 6) [6]) (tLst tNil))
theorem ok_cO {f fP : Addr} {fd fdP : FuncData} (F : Fun K "_law_crew_order" "_law_crew_order" sCO f fd) (T : Txt mg) (CP : Cal P w K mg base "_law_putters" 2 ["house", "crew", "person"] (spPure K rMast) fP fdP) : FnOk P w K mg base CX0 3 f fd ["house", "crew"] (spCO K) := by
  refine F.ok scCO (fun vs H Q E h => ?_) (fun cdv A outer s H vs Q E hr h => ?_)
  · obtain ⟨_, _, _, _, hd, _⟩ := h
    rw [hd.len]
    rfl
  · obtain ⟨M, h, c, kn, hd, x, qo, qn⟩ := h
    obtain ⟨vh, vc, rfl, hh, hc⟩ := Dms.two_at hd
    have n8 := x.few
    refine ⟨_, pss_cons (ps_set (i := 2) scCO.nd rfl (Or.inr rfl) (pe_lst pa_nil))
      (pss_cons (ps_for PassesOwn.never rfl (pi_range1 rfl T.range (pa_cons (pe_callB call_len_seq (by rfl) T.len PySem.boot_len (pa_cons (pv 1) pa_nil)) pa_nil)) (pg_name (i := 3) scCO.nd rfl (Or.inl rfl))
        (pss_cons (ps_setLc (i := 4) (own := [("one", 5)]) (g := gName 5) (tt := tOut1 K) (te := tVar 5) rfl scCO.nd rfl rfl rfl (pi_range1 rfl T.range (pa_cons (pe_callB call_len_seq (by rfl) T.len PySem.boot_len (pa_cons (pv 1) pa_nil)) pa_nil)) (blkOk_by (N := NCO) (sc := defScope sCO) (by decide +kernel)) (fun _ _ _ _ _ => pg_name (i := 5) scCO.nd rfl (Or.inl rfl))
          (fun _ _ _ _ _ => pts_one (pt_cmpR op_notIn_seq (pv 5) (pv 2) rfl)) (fun _ _ _ _ _ => pv 5))
        (pss_cons (ps_setLc (i := 4) (own := [("one", 5)]) (g := gName 5) (tt := tFree K) (te := tVar 5) rfl scCO.nd rfl rfl rfl (pi_list (pv 4)) (blkOk_by (N := NCO) (sc := defScope sCO) (by decide +kernel)) (fun _ _ _ _ _ => pg_name (i := 5) scCO.nd rfl (Or.inl rfl))
          (fun _ _ _ _ _ => pts_one (pt_cmpR (op_eqD hr.units) (pe_lc (own := [("other", 6)]) (g := gName 6) (tt := tOut2 K) (te := tVar 6) rfl scCO.nd (pi_list (pcl CP hr (pa_cons (pv 0) (pa_cons (pv 1) (pa_cons (pv 5) pa_nil))))) (blkOk_by (N := NCO) (by rfl)) (fun _ _ _ _ _ => pg_name (i := 6) scCO.nd rfl (Or.inl rfl))
            (fun _ _ _ _ _ => pts_one (pt_cmpR op_notIn_seq (pv 6) (pv 2) rfl)) (fun _ _ _ _ _ => pv 6)) (pe_lst pa_nil) (nomark _))) (fun _ _ _ _ _ => pv 5))
        (pss_cons (ps_if (pt_cmpR (op_eqD hr.units) (pv 4) (pe_lst pa_nil) (nomark _)) (pss_one (ps_ret pe_non)) pss_nil)
        (pss_one (ps_expr (pe_bm PySem.F.plainAttrs_list PySem.F.slot_list_append PySem.F.type_list_append mt_append (pv 2) (pa_cons (pe_ix ix_list (pv 4) pe_int (fun _ _ => rfl)) pa_nil))))))))
      (pss_one (ps_ret (pv 2)))), ?_⟩
    have e1 {u2 u3 u4 u5 u6 : Option V} {Hx : Hp} (sx : Sub H Hx) : EvD K M (tCB (rLenS K) (tCons (tVar 1) tNil)) ([some vh, some vc, u2, u3, u4, u5, u6] : L2.St) Hx (.int ((c.length : Nat) : Int)) := by
      have z := evd_lenT (K := K) (M := M) (evd_var (i := 1) (σ := [some vh, some vc, u2, u3, u4, u5, u6]) rfl (Dm.s hc sx))
      rw [intD_len] at z
      exact z
    refine sset_of (lst_of (nil_of ⟨Nat.zero_le _, fun fa hfa => ?_⟩))
    dsimp only [List.set]
    refine sfor (for_rngE (e1 (Sub.new hfa)) (by omega) (fun i σ H' => ∃ (ord : List Nat) (u3 u4 : Option V), σ = [some vh, some vc, some (.ref fa), u3, u4, none, none] ∧ Sub H H' ∧ H' fa = some (.lst (intV ord)) ∧ KB.Ord (putB h c) c.length ord ∧ ord.length = i)
      (fun H1 s1 => ⟨[], none, none, rfl, (Sub.new hfa).trans s1, s1 _ _ upd_same, KB.Ord.nil, rfl⟩) ?_ ?_)
    · rintro i σ H1 hi ⟨ord, u3, u4, rfl, s1, h1, o, ol⟩
      refine gname_of ?_
      dsimp only [List.set]
      have n1 := kn.sub s1
      have lc1 := evd_lcRF (K := K) (M := M) (σ := [some vh, some vc, some (.ref fa), some (.int (i : Int)), u4, none, none]) (H := H1) (vs := [5]) (j := 5) (tr := tCons (tCB (rLenS K) (tCons (tVar 1) tNil)) tNil) (tt := tOut1 K) (tb := tVar 5) (m := ((c.length : Nat) : Int)) (outIn ord) (fun i => .int (i : Int)) n1 (evds_cons (e1 s1) evds_nil) (by omega) (by omega) (by intro z; rfl)
        (fun Dl hD y Hx sx nx hi => evb_notinL (K := K) (M := Dl :: M) (te := tVar 5) (i := 2) (j := y) (evd_var (i := 5) rfl (.int _)) rfl (sx _ _ h1))
        (fun Dl hD y Hx sx nx hi => evd_var (i := 5) rfl (.int _))
      rw [Int.toNat_natCast] at lc1
      obtain ⟨L1, eL1⟩ : ∃ L1, L1 = (List.range c.length).filter (outIn ord) := ⟨_, rfl⟩
      rw [← eL1] at lc1
      have m1 : ∀ y, y ∈ L1 ↔ y < c.length ∧ y ∉ ord := fun y => by
        rw [eL1, List.mem_filter, List.mem_range]
        unfold outIn
        simp
      have l1 : L1.length ≤ c.length := by
        rw [eL1]
        have := List.length_filter_le (outIn ord) (List.range c.length)
        rw [List.length_range] at this
        exact this
      refine evd_sset (K := K) (M := M) (EvNL.toD n1 lc1) fun v4 H2 s2 hv4 => ?_
      have s12 := s1.trans s2
      have n2 := kn.sub s12
      have h2 := s2 _ _ h1
      obtain ⟨φ, eφ⟩ : ∃ φ : Nat → Bool, φ = fun y => ((KB.up (putB h c) c.length y).filter (outIn ord)).isEmpty := ⟨_, rfl⟩
      have lc2 := evd_lcF (K := K) (M := M) (σ := [some vh, some vc, some (.ref fa), some (.int (i : Int)), some v4, none, none]) (H := H2) (vs := [5]) (j := 5) (tt := tFree K) (tb := tVar 5) (te := tVar 4) (ds := intD L1) (fun d => φ (unNat d)) (fun d => d) n2 (evd_var rfl hv4) (by rw [intD_len]; omega) (by intro z; rfl)
        (fun Dl hD d z Hx sx nx hdm hz => by
          obtain ⟨y, hy, rfl⟩ := List.mem_map.mp hdm
          obtain ⟨yn, _⟩ := (m1 y).mp hy
          cases hz.intAt
          rw [show unNat (.int (y : Int)) = y from Int.toNat_natCast y]
          have hhx : Dm K (Dl :: M) Hx vh (houD h) := Dm.s (Dm.more (Dm.s hh s12) hD) sx
          have hcx : Dm K (Dl :: M) Hx vc (.tuple (intD c)) := Dm.s (Dm.more (Dm.s hc s12) hD) sx
          have lm : EvD K (Dl :: M) (tUps K) ([some vh, some vc, some (.ref fa), some (.int (i : Int)), some v4, some (.int (y : Int)), none] : L2.St) Hx (.list (intD (KB.up (putB h c) c.length y))) :=
            evd_pure (rel := rMast) nx (evds_cons (evd_var (i := 0) rfl hhx) (evds_cons (evd_var (i := 1) rfl hcx) (evds_cons (evd_var (i := 5) rfl (.int _)) evds_nil))) ⟨h, c, y, rfl, x, yn, rfl⟩
          have upl : (KB.up (putB h c) c.length y).length ≤ c.length := by
            unfold KB.up
            have := List.length_filter_le (putB h c y) (List.range c.length)
            rw [List.length_range] at this
            exact this
          have lc3 := evd_lcF (K := K) (M := Dl :: M) (σ := [some vh, some vc, some (.ref fa), some (.int (i : Int)), some v4, some (.int (y : Int)), none]) (H := Hx) (vs := [6]) (j := 6) (tt := tOut2 K) (tb := tVar 6) (fun d => outIn ord (unNat d)) (fun d => d) nx lm (by rw [intD_len]; omega) (by intro z; rfl)
            (fun Dl2 hD2 d z Hy sy ny hdm hz => by
              obtain ⟨k, hk, rfl⟩ := List.mem_map.mp hdm
              cases hz.intAt
              rw [show unNat (.int (k : Int)) = k from Int.toNat_natCast k]
              exact evb_notinL (K := K) (M := Dl2 :: Dl :: M) (te := tVar 6) (i := 2) (j := k) (evd_var (i := 6) rfl (.int _)) rfl (sy _ _ (sx _ _ h2)))
            (fun Dl2 hD2 d z Hy sy ny hdm hf hz => evd_var (i := 6) rfl hz)
          rw [filt_int] at lc3
          have z := evd_eqNil (EvNL.toD nx lc3) (evd_lst nx evds_nil (by decide)) (good_intL (c := (KB.up (putB h c) c.length y).filter (outIn ord)) (fun k hk => by
            have := (KB.mem_up.mp (List.mem_filter.mp hk).1).1
            omega) (by
            have := List.length_filter_le (outIn ord) (KB.up (putB h c) c.length y)
            omega)) (by decide)
          have e : (intD ((KB.up (putB h c) c.length y).filter (outIn ord))).isEmpty = φ y := by
            rw [eφ]
            unfold intD
            rw [List.isEmpty_map]
          rw [e] at z
          exact evb_test z)
        (fun Dl hD d z Hx sx nx hdm hf hz => evd_var (i := 5) rfl hz)
      rw [filt_int] at lc2
      obtain ⟨L2', eL2⟩ : ∃ L2, L2 = L1.filter φ := ⟨_, rfl⟩
      rw [← eL2] at lc2
      have l2 : L2'.length ≤ c.length := by
        rw [eL2]
        have := List.length_filter_le φ L1
        omega
      have m2 : ∀ y, y ∈ L2' ↔ (y < c.length ∧ y ∉ ord) ∧ ∀ z, z < c.length → putB h c y z = true → z ∈ ord := fun y => by
        rw [eL2, List.mem_filter, m1, eφ]
        refine and_congr Iff.rfl ?_
        dsimp only
        rw [List.isEmpty_iff, List.filter_eq_nil_iff]
        refine ⟨fun g z hz hE => ?_, fun g z hz => ?_⟩
        · have := g z (KB.mem_up.mpr ⟨hz, hE⟩)
          unfold outIn at this
          simpa using this
        · obtain ⟨z1, z2⟩ := KB.mem_up.mp hz
          have := g z z1 z2
          unfold outIn
          simpa using this
      refine evd_sset (K := K) (M := M) (EvNL.toD n2 lc2) fun v5 H3 s3 hv5 => ?_
      have s13 := s12.trans s3
      have n3 := kn.sub s13
      have h3 := s3 _ _ h2
      have e4 {Hx : Hp} (sx : Sub H3 Hx) : EvD K M (tVar 4) ([some vh, some vc, some (.ref fa), some (.int (i : Int)), some v5, none, none] : L2.St) Hx (.list (intD L2')) := evd_var rfl (Dm.s hv5 sx)
      have c4 : EvB (tTest (tOp (rEqD K) (tVar 4) (tLst tNil))) ([some vh, some vc, some (.ref fa), some (.int (i : Int)), some v5, none, none] : L2.St) H3 (intD L2').isEmpty := evb_test (evd_eqNil (e4 (Sub.refl _)) (evd_lst n3 evds_nil (by decide)) (good_intL (fun k hk => by
        have := ((m2 k).mp hk).1.1
        omega) (by omega)) (by decide))
      refine sifs (ifs_of c4 fun H4 s4 => ?_)
      have s14 := s13.trans s4
      have h4 := s4 _ _ h3
      obtain ⟨x0, hx0, nx0⟩ := KB.miss_one c.length ord (by omega)
      cases eL : L2' with
      | nil =>
        rw [if_pos (by rfl)]
        have st : ∀ y, y < c.length → y ∉ ord → ∃ z, z < c.length ∧ putB h c y z = true ∧ z ∉ ord := fun y hy ny => by
          by_cases d : ∃ z, z < c.length ∧ putB h c y z = true ∧ z ∉ ord
          · exact d
          · have : y ∈ L2' := (m2 y).mpr ⟨⟨hy, ny⟩, fun z hz hE => by
              by_cases mz : z ∈ ord
              · exact mz
              · exact absurd ⟨z, hz, hE, mz⟩ d⟩
            rw [eL] at this
            cases this
        obtain ⟨a, k, ha, hcl⟩ := KB.stuck st hx0 nx0
        exact ret_of (c_of (qn H4 a k s14 ha hcl))
      | cons one rest =>
        rw [if_neg (show ¬ (intD (one :: rest)).isEmpty = true from fun z => Bool.false_ne_true z)]
        have mo := (m2 one).mp (by rw [eL]; exact List.mem_cons_self)
        have e4' := e4 s4
        rw [eL] at e4'
        dsimp only
        refine ⟨_, rfl, .inl ⟨rfl, _, SqL.of h4⟩, args1 ((evd_ixL e4' (evd_int (i := 0)) (by decide) rfl) H4 (Sub.refl _) _ fun v H5 s5 hv => ?_)⟩
        cases hv.intAt
        refine ⟨fa, _, _, rfl, rfl, s5 _ _ h4, szl (by rw [intV_len]; omega), ?_⟩
        exact ⟨ord ++ [one], _, _, rfl, (s14.trans s5).mut hfa, by rw [upd_same, intV_snoc], o.snoc mo.1.1 mo.1.2 mo.2, by rw [List.length_append, ol]; rfl⟩
    · rintro σ H1 ⟨ord, u3, u4, rfl, s1, h1, o, ol⟩
      dsimp only
      exact ret_of ⟨_, rfl, qo fa ord H1 s1 o (by omega) hfa h1⟩
end
end KZ

namespace KZ
open PySem PySem.Spec PyProof.Rows L2
def outD : Out → PyData
  | .meek => .tuple [.str "meek", .none]
  | .forg k => .tuple [.str "forgets", .int (k : Int)]
  | .round p => .tuple [.str "round", .tuple (intD p)]
  | .told l => .tuple [.str "told", .list (intD l)]
def spMost (K : PySem.W.Frag) : Sp := fun vs H Q _ => ∃ (M : List Addr) (h : Hou) (c : List Nat), Kn M H ∧ Dms K M H vs [houD h, .tuple (intD c)] ∧ CrewOk h c ∧
  (∀ (y : V) (l : List Nat) (H' : Hp), Sub H H' → KB.IsMost (putB h c) c.length l → crewR (putB h c) c.length = none → Dm K M H' y (.list (intD l)) → Q y H') ∧
  (∀ (H' : Hp) (p : List Nat), Sub H H' → crewR (putB h c) c.length = some p → Q .non H')
def spDue (K : PySem.W.Frag) : Sp := fun vs H Q _ => ∃ (M : List Addr) (h : Hou) (c : List Nat), Kn M H ∧ Dms K M H vs [houD h, .tuple (intD c)] ∧ CrewOk h c ∧
  (∀ (y : V) (o : Out) (H' : Hp), Sub H H' → OutIs h c o → Dm K M H' y (outD o) → Q y H')
theorem lc_src {K : PySem.W.Frag} {te tb : TE} {g : TG} {tt : TT} {vs : List Nat} {σ : L2.St} {H : Hp} {Q : VK} (h : te σ H fun x H1 => tLc (iList K (fun _ H Q => Q x H)) g tt tb vs σ H1 Q) : tLc (iList K te) g tt tb vs σ H Q := h
section
variable {P : Program} {w : World} {K : PySem.W.Frag} {mg : Str → Option Value} {base : Heap}
abbrev sMost : Stmt := topS 38
abbrev NMost : List Str := ["house", "crew", "order", "found", "person", "other"]
theorem scMost : FnScope NMost ["house", "crew"] (defScope sMost) := ⟨rfl, rfl, rfl, by decide +kernel, rfl, by decide +kernel, by decide +kernel⟩
theorem ok_most {f fO fM : Addr} {fd fdO fdM : FuncData} (F : Fun K "_law_most" "_law_most" sMost f fd) (T : Txt mg) (zs : mg "sum" = none) (CO : Cal P w K mg base "_law_crew_order" 3 ["house", "crew"] (spCO K) fO fdO)
    (CM : Cal P w K mg base "_law_putters" 2 ["house", "crew", "person"] (spPure K rMast) fM fdM) : FnOk P w K mg base CX0 4 f fd ["house", "crew"] (spMost K) := by
  refine F.ok scMost (fun vs H Q E h => ?_) (fun cdv A outer s H vs Q E hr h => ?_)
  · obtain ⟨_, _, _, _, hd, _⟩ := h
    rw [hd.len]
    rfl
  obtain ⟨M, h, c, kn, hd, x, qt, qn⟩ := h
  obtain ⟨vh, vc, rfl, hh, hc⟩ := Dms.two_at hd
  have n8 := x.few
  have hr2 : Room 2 _ := hr.mono (by decide)
  have hu : (A.deeper (envOfC "_law_most" (defScope sMost) s.heap.objs.size f cdv)).units + 1 < cLine := Nat.lt_of_le_of_lt (Nat.add_le_add_left (by decide) _) hr.units
  refine ⟨_, pss_cons (ps_asg (pe_tup (pa_cons (pcl CO hr (pa_cons (pv 0) (pa_cons (pv 1) pa_nil))) (pa_cons pe_dnewK pa_nil))) (pg_tup rfl (pgs_cons (pg_name (i := 2) scMost.nd rfl (Or.inl rfl)) (pgs_cons (pg_name (i := 3) scMost.nd rfl (Or.inr rfl)) pgs_nil))))
    (pss_cons (ps_if (pt_cmp (pc_isN (pv 2))) (pss_one (ps_ret pe_non)) pss_nil)
    (pss_cons (ps_for PassesOwn.never rfl (pi_list (pv 2)) (pg_name (i := 4) scMost.nd rfl (Or.inl rfl))
      (pss_one (ps_dput hu (pv 3) (pv 4) (pe_op op_add pe_int (pe_callB (cr_sum rfl) (by rfl) zs PyProof.Rows.boot_sum (pa_cons
        (pe_lc (own := [("other", 5)]) (g := gName 5) (tt := tYes) (te := tDGet (tVar 3) (tVar 5)) rfl scMost.nd (pi_list (pcl CM hr2 (pa_cons (pv 0) (pa_cons (pv 1) (pa_cons (pv 4) pa_nil))))) (blkOk_by (N := NMost) (sc := defScope sMost) (by decide +kernel)) (fun _ _ _ _ _ => pg_name (i := 5) scMost.nd rfl (Or.inl rfl)) (fun _ _ _ _ _ => pts_nil)
          (fun _ _ _ _ _ => pe_dget hu (pv 3) (pv 5) (fun _ _ => rfl))) pa_nil))) rfl)))
    (pss_one (ps_ret (pe_lc (own := [("person", 4)]) (g := gName 4) (tt := tYes) (te := tDGet (tVar 3) (tVar 4)) rfl scMost.nd (pi_range1 rfl T.range (pa_cons (pe_callB call_len_seq (by rfl) T.len PySem.boot_len (pa_cons (pv 1) pa_nil)) pa_nil)) (blkOk_by (N := NMost) (sc := defScope sMost) (by decide +kernel)) (fun _ _ _ _ _ => pg_name (i := 4) scMost.nd rfl (Or.inl rfl)) (fun _ _ _ _ _ => pts_nil)
        (fun _ _ _ _ _ => pe_dget hu (pv 3) (pv 4) (fun _ _ => rfl))))))), ?_⟩
  refine sasg_of (tup_of (cons_of ⟨_, rfl, _, rfl, M, h, c, kn, .cons hh (.cons hc .nil), x, fun p ord H1 s1 o full hp h1p => ?_, fun H1 a k s1 ha hcl => ?_⟩))
  · refine cons_of ?_
    unfold tDNewK
    intro dm hdm
    refine nil_of ⟨by show 2 ≤ sizeLine; decide, fun t ht => ⟨t, _, rfl, SqT.of upd_same, rfl, _, _, rfl, _, _, rfl, rfl, ?_⟩⟩
    dsimp only [List.set]
    have hdm0 : H dm = none := s1.free hdm
    have npd : p ≠ dm := fun z => by
      rw [z] at h1p
      rw [h1p] at hdm
      cases hdm
    have s2 : Sub H (upd (upd H1 dm (.dK [])) t (.tup [.ref p, .ref dm])) := (s1.trans (Sub.new hdm)).trans (Sub.new ht)
    have h2p : upd (upd H1 dm (.dK [])) t (.tup [.ref p, .ref dm]) p = some (.lst (intV ord)) := Sub.new ht _ _ (Sub.new hdm _ _ h1p)
    have h2dm : upd (upd H1 dm (.dK [])) t (.tup [.ref p, .ref dm]) dm = some (.dK (farK [])) := Sub.new ht _ _ upd_same
    generalize upd (upd H1 dm (.dK [])) t (.tup [.ref p, .ref dm]) = H2 at s2 h2p h2dm ⊢
    have fewo := o.few
    have no := o.no full
    have ecr : crewR (putB h c) c.length = none := by
      rcases crewR_ok (putB h c) c.length with ⟨q, _, ⟨⟨a, ha, le⟩, _⟩⟩ | ⟨e, _⟩
      · exact absurd le.cl (no a _ ha)
      · exact e
    have hp0 : H p = none := hp
    have hpD : Dm K M H2 (.ref p) (.list (intD ord)) := .lst (SqL.of (by rw [er_in (kn.out hp0)]; exact h2p)) int_dms
    refine sifs (ifs_of (evb_val (evd_isN (K := K) (M := M) (d := .list (intD ord)) (evd_var (i := 2) rfl hpD) (.inr ⟨(fun z => nomatch z), rfl⟩))) fun H3 s3 => ?_)
    rw [if_neg (by decide)]
    unfold tNext
    dsimp only
    have s23 := s2.trans s3
    have h3p := s3 _ _ h2p
    refine sfor (forL_of ⟨_, rfl, p, rfl, ⟨_, SqL.of h3p⟩, for_list (K := K) (a := p) (xs := intV ord) (fun i σ H' => ∃ (far : KB.Far) (u4 : Option V), σ = [some vh, some vc, some (.ref p), some (.ref dm), u4, none] ∧ Sub H H' ∧ H' p = some (.lst (intV ord)) ∧ H' dm = some (.dK (farK far)) ∧ KB.TabM (putB h c) c.length far ∧ far.map (·.1) = ord.take i)
      ⟨[], none, rfl, s23, h3p, s3 _ _ h2dm, KB.TabM.nil, rfl⟩ (fun i σ H' _ ⟨_, _, _, _, z, _⟩ => SqL.of z) ?_ ?_⟩)
    · rintro i y σ H4 hi ⟨far, u4, rfl, s4, h4p, h4d, tm, keys⟩
      obtain ⟨one, hone, rfl⟩ := intV_at hi
      have onen := o.lt one (List.mem_of_getElem? hone)
      have hil := (List.getElem?_eq_some_iff.mp hone).1
      have eord : ord = ord.take i ++ one :: ord.drop (i + 1) := by
        have e1 := List.take_append_drop i ord
        rw [List.drop_eq_getElem_cons hil, (List.getElem?_eq_some_iff.mp hone).2] at e1
        exact e1.symm
      have nin : one ∉ ord.take i := fun z => by
        have := o.nd
        rw [eord, List.nodup_append] at this
        exact this.2.2 one z one List.mem_cons_self rfl
      have nhas : KB.has far one = false := by
        cases e : KB.has far one with
        | false => rfl
        | true =>
          obtain ⟨k, hk⟩ := KB.has_iff.mp e
          have : one ∈ far.map (·.1) := List.mem_map.mpr ⟨_, hk, rfl⟩
          rw [keys] at this
          exact absurd this nin
      have hup : ∀ y ∈ KB.up (putB h c) c.length one, KB.has far y = true := fun y hy => by
        obtain ⟨hy1, hy2⟩ := KB.mem_up.mp hy
        have := o.up _ one _ eord y hy1 hy2
        rw [← keys] at this
        obtain ⟨⟨a, k⟩, hm, rfl⟩ := List.mem_map.mp this
        exact KB.has_iff.mpr ⟨k, hm⟩
      refine gname_of ?_
      dsimp only [List.set]
      have n4 := kn.sub s4
      have fewf : far.length ≤ 8 := by
        have := congrArg List.length keys
        rw [List.length_map, List.length_take] at this
        omega
      have lm : EvD K M (tCall (spPure K rMast) [] E0 (tCons (tVar 0) (tCons (tVar 1) (tCons (tVar 4) tNil)))) ([some vh, some vc, some (.ref p), some (.ref dm), some (.int (one : Int)), none] : L2.St) H4 (.list (intD (KB.up (putB h c) c.length one))) :=
        evd_pure (rel := rMast) n4 (evds_cons (evd_var (i := 0) rfl (Dm.s hh s4)) (evds_cons (evd_var (i := 1) rfl (Dm.s hc s4)) (evds_cons (evd_var (i := 4) rfl (.int _)) evds_nil))) ⟨h, c, one, rfl, x, onen, rfl⟩
      have upl : (KB.up (putB h c) c.length one).length ≤ c.length := by
        unfold KB.up
        have := List.length_filter_le (putB h c one) (List.range c.length)
        rw [List.length_range] at this
        exact this
      have lc := evd_lc (K := K) (M := M) (σ := [some vh, some vc, some (.ref p), some (.ref dm), some (.int (one : Int)), none]) (vs := [5]) (j := 5) (tb := tDGet (tVar 3) (tVar 5)) (fun d => .int (((KB.val far (unNat d)).getD 0 : Nat) : Int)) n4 lm (by rw [intD_len]; omega) (by intro z; rfl)
        (fun Dl hD d z Hx sx nx hdm hz => by
          obtain ⟨y, hy, rfl⟩ := List.mem_map.mp hdm
          cases hz.intAt
          rw [show unNat (.int (y : Int)) = y from Int.toNat_natCast y]
          have hs := hup y hy
          rw [← KB.val_some] at hs
          cases ev : KB.val far y with
          | none =>
            rw [ev] at hs
            cases hs
          | some k => exact evd_dgetF (i := 3) (j := 5) rfl (sx _ _ h4d) rfl ev)
      have el : (intD (KB.up (putB h c) c.length one)).map (fun d => PyData.int (((KB.val far (unNat d)).getD 0 : Nat) : Int)) = intD ((KB.up (putB h c) c.length one).map fun y => (KB.val far y).getD 0) := by
        unfold intD
        rw [List.map_map, List.map_map]
        refine List.map_congr_left fun y _ => ?_
        show PyData.int (((KB.val far ((y : Int)).toNat).getD 0 : Nat) : Int) = _
        rw [Int.toNat_natCast]
        rfl
      rw [el] at lc
      have ev := evd_add (K := K) (M := M) (evd_int (i := 1)) (evd_sum (EvNL.toD n4 lc))
      refine ev H4 (Sub.refl _) _ fun v H5 s5 hv => ?_
      cases hv.intAt
      have s45 := s4.trans s5
      refine ⟨_, rfl, _, rfl, dm, _, rfl, DPut.k (k := .inl (one : Int)) (s5 _ _ h4d) (szl (by unfold farK; rw [List.length_map]; omega)), ?_⟩
      rw [show (1 : Int) + ((((KB.up (putB h c) c.length one).map fun y => (KB.val far y).getD 0).sum : Nat) : Int) = ((1 + ((KB.up (putB h c) c.length one).map fun y => (KB.val far y).getD 0).sum : Nat) : Int) by omega, farK_put _ _ nhas]
      refine ⟨_, _, rfl, s45.mut hdm0, by rw [upd_ne npd]; exact s5 _ _ h4p, upd_same, tm.add nhas hup, ?_⟩
      rw [List.map_append, keys, take_snoc hone]
      rfl
    · rintro σ H4 ⟨far, u4, rfl, s4, h4p, h4d, tm, keys⟩
      rw [intV_len, List.take_length] at keys
      have all : ∀ y, y < c.length → KB.has far y = true := fun y hy => by
        have := o.full full hy
        rw [← keys] at this
        obtain ⟨⟨a, k⟩, hm, rfl⟩ := List.mem_map.mp this
        exact KB.has_iff.mpr ⟨k, hm⟩
      have elen := evd_lenT (K := K) (M := M) (evd_var (i := 1) (σ := [some vh, some vc, some (.ref p), some (.ref dm), u4, none]) rfl (Dm.s hc s4))
      rw [intD_len] at elen
      have lc := evd_lcR (K := K) (M := M) (σ := [some vh, some vc, some (.ref p), some (.ref dm), u4, none]) (H := H4) (vs := [4]) (j := 4) (tr := tCons (tCB (rLenS K) (tCons (tVar 1) tNil)) tNil) (tb := tDGet (tVar 3) (tVar 4)) (m := ((c.length : Nat) : Int)) (fun y => .int (((KB.val far y).getD 0 : Nat) : Int)) (kn.sub s4) (evds_cons elen evds_nil) (by omega) (by omega) (by intro z; rfl)
        (fun Dl hD y Hx sx nx hi => by
          have hs := all y (by omega)
          rw [← KB.val_some] at hs
          cases ev : KB.val far y with
          | none =>
            rw [ev] at hs
            cases hs
          | some k => exact evd_dgetF (i := 3) (j := 4) rfl (sx _ _ h4d) rfl ev)
      rw [Int.toNat_natCast] at lc
      dsimp only
      refine evd_ret (EvNL.toD (kn.sub s4) lc) fun y H5 s5 hy => qt y _ H5 (s4.trans s5) (tm.most all) ecr ?_
      have ed : (List.range c.length).map (fun y => PyData.int (((KB.val far y).getD 0 : Nat) : Int)) = intD ((List.range c.length).map fun y => (KB.val far y).getD 0) := by
        unfold intD
        rw [List.map_map]
        rfl
      rw [ed] at hy
      exact hy
  · refine cons_of ?_
    unfold tDNewK
    intro dm hdm
    refine nil_of ⟨by show 2 ≤ sizeLine; decide, fun t ht => ⟨t, _, rfl, SqT.of upd_same, rfl, _, _, rfl, _, _, rfl, rfl, ?_⟩⟩
    dsimp only [List.set]
    have s2 : Sub H (upd (upd H1 dm (.dK [])) t (.tup [.non, .ref dm])) := (s1.trans (Sub.new hdm)).trans (Sub.new ht)
    generalize upd (upd H1 dm (.dK [])) t (.tup [.non, .ref dm]) = H2 at s2 ⊢
    refine sifs (ifs_of (evb_val (evd_isN (K := K) (M := M) (d := .none) (evd_var (i := 2) rfl .non) (.inl ⟨rfl, rfl⟩))) fun H3 s3 => ?_)
    rw [if_pos (by decide)]
    refine ret_of ?_
    rcases crewR_ok (putB h c) c.length with ⟨q, e, _⟩ | ⟨_, no⟩
    · exact qn H3 q (s2.trans s3) e
    · exact absurd hcl (no a k ha)
end
end KZ

namespace KZ
open PySem PySem.Spec PyProof.Rows L2
section
variable {P : Program} {w : World} {K : PySem.W.Frag} {mg : Str → Option Value} {base : Heap}
abbrev sDue : Stmt := topS 44
abbrev NDue : List Str := ["house", "crew", "forgets", "most", "kind"]
theorem scDue : FnScope NDue ["house", "crew"] (defScope sDue) := ⟨rfl, rfl, rfl, by decide +kernel, rfl, by decide +kernel, by decide +kernel⟩
theorem ok_due {f fI fM fR : Addr} {fd fdI fdM fdR : FuncData} (F : Fun K "_law_due" "_law_due" sDue f fd) (T : Txt mg) (zs : mg "sorted" = none) (CI : CalG P w K mg base "_law_is_meek" 1 ["house"] (spPure K rMeekQ) fI fdI)
    (CM : Cal P w K mg base "_law_most" 4 ["house", "crew"] (spMost K) fM fdM) (CR : Cal P w K mg base "crew_round" 5 ["house", "crew"] (spPure K rCrewR) fR fdR) : FnG P w K mg base 6 f fd ["house", "crew"] (spDue K) := by
  refine fun_okG F scDue (fun vs H Q E h => ?_) (fun cdv A outer s H vs Q E gs hr h => ?_)
  · obtain ⟨_, _, _, _, hd, _⟩ := h
    rw [hd.len]
    rfl
  obtain ⟨M, h, c, kn, hd, x, q⟩ := h
  obtain ⟨vh, vc, rfl, hh, hc⟩ := Dms.two_at hd
  have n8 := x.few
  have hr1 : Room 1 _ := hr.mono (by decide)
  have hr4 : Room 4 _ := hr.mono (by decide)
  refine ⟨_, pss_cons (ps_if (pt_not (pt_val (pclG CI gs hr1 (pa_cons (pv 0) pa_nil)))) (pss_one (ps_ret (pe_tup (pa_cons pe_str (pa_cons pe_non pa_nil))))) pss_nil)
    (pss_cons (ps_setLc (i := 2) (own := [("kind", 4)]) (g := gName 4) (tt := tForg K) (te := tVar 4) rfl scDue.nd rfl rfl rfl (pi_list (pe_callB cr_sortedT (by rfl) zs PyProof.Rows.boot_sorted (pa_cons (pv 1) pa_nil))) (blkOk_by (N := NDue) (sc := defScope sDue) (by decide +kernel)) (fun _ _ _ _ _ => pg_name (i := 4) scDue.nd rfl (Or.inl rfl))
      (fun _ _ _ _ _ => pts_one (pt_not (pt_val (pe_ix ix_tup (pe_ix ix_tup (pe_ix ix_tup (pv 0) pe_int (fun _ _ => rfl)) (pv 4) (fun _ _ => rfl)) pe_int (fun _ _ => rfl))))) (fun _ _ _ _ _ => pv 4))
    (pss_cons (ps_if (pt_cmpR (op_neD hr.units) (pv 2) (pe_lst pa_nil) (nomark _)) (pss_one (ps_ret (pe_tup (pa_cons pe_str (pa_cons (pe_ix ix_list (pv 2) pe_int (fun _ _ => rfl)) pa_nil))))) pss_nil)
    (pss_cons (ps_set (i := 3) scDue.nd rfl (Or.inl rfl) (pcl CM hr4 (pa_cons (pv 0) (pa_cons (pv 1) pa_nil))))
    (pss_one (ps_ret (pe_ifExp (pt_cmp (pc_notN (pv 3))) (pe_tup (pa_cons pe_str (pa_cons (pv 3) pa_nil))) (pe_tup (pa_cons pe_str (pa_cons (pcl CR hr (pa_cons (pv 0) (pa_cons (pv 1) pa_nil))) pa_nil))))))))), ?_⟩
  refine sifs (ifs_of (evb_not (evb_val (evd_pure (K := K) (M := M) (rel := rMeekQ) (E := E0) kn (evds_cons (evd_var (i := 0) (σ := [some vh, some vc, none, none, none]) rfl hh) evds_nil) ⟨h, rfl, x.x, rfl⟩))) fun H1 s1 => ?_)
  have n1 := kn.sub s1
  cases em : meekQ h with
  | false =>
    rw [if_pos (by decide)]
    exact evd_ret (evd_tup (K := K) (M := M) n1 (evds_cons evd_str (evds_cons evd_non evds_nil)) lt2) fun y H2 s2 hy => q y .meek H2 (s1.trans s2) em hy
  | true =>
    rw [if_neg (by decide)]
    unfold tNext
    dsimp only
    have hh1 := Dm.s hh s1
    have hc1 := Dm.s hc s1
    refine sset_of (lc_src ?_)
    obtain ⟨a, xs, rfl, hs, hx⟩ := hc1.tupAt
    rw [dms_ints hx, intV_int] at hs
    refine ⟨_, rfl, a, _, rfl, hs, fun ns' p perm srt hp => ?_⟩
    obtain ⟨c', rfl, pc⟩ := ints_nat perm
    rw [← intV_int]
    have hpD : Dm K M (upd H1 p (.lst (intV c'))) (.ref p) (.list (intD c')) := Dm.lstNew n1 hp int_dms
    have s2 : Sub H (upd H1 p (.lst (intV c'))) := s1.trans (Sub.new hp)
    generalize upd H1 p (.lst (intV c')) = H2 at hpD s2 ⊢
    have n2 := kn.sub s2
    have hh2 := Dm.s hh s2
    have hc2 := Dm.s hc s2
    have lenc : c'.length = c.length := pc.length_eq
    have lc := evd_lcF (K := K) (M := M) (σ := [some vh, some (.ref a), none, none, none]) (H := H2) (vs := [4]) (j := 4) (tt := tForg K) (te := fun _ H Q => Q (.ref p) H) (tb := tVar 4) (ds := intD c') (fun d => !keepsB h (unNat d)) (fun d => d) n2 (fun Hx sx Qx qx => qx _ Hx (Sub.refl _) (Dm.s hpD sx)) (by rw [intD_len]; omega) (by intro z; rfl)
      (fun Dl hD d z Hx sx nx hdm hz => by
        obtain ⟨k, hk, rfl⟩ := List.mem_map.mp hdm
        have hk' := x.lt k (pc.mem_iff.mp hk)
        cases hz.intAt
        have e0 : EvD K (Dl :: M) (tVar 0) ([some vh, some (.ref a), none, none, some (.int (k : Int))] : L2.St) Hx (houD h) := evd_var rfl (Dm.s (Dm.more hh2 hD) sx)
        have e1 : EvD K (Dl :: M) _ ([some vh, some (.ref a), none, none, some (.int (k : Int))] : L2.St) Hx (.tuple (h.ks.map kdD)) := evd_ixT e0 (evd_int (i := 0)) (by decide) rfl
        have e2 : EvD K (Dl :: M) _ ([some vh, some (.ref a), none, none, some (.int (k : Int))] : L2.St) Hx (kdD (h.ks.getD k ("", true, 0))) := evd_ixT e1 (evd_var (i := 4) rfl (.int (k : Int))) (Int.natCast_nonneg _) (by rw [Int.toNat_natCast, List.getElem?_map, kd_atQ hk']; rfl)
        rw [show unNat (.int (k : Int)) = k from Int.toNat_natCast k]
        exact evb_not (evb_val (evd_ixT e2 (evd_int (i := 1)) (by decide) rfl)))
      (fun Dl hD d z Hx sx nx hdm hf hz => evd_var rfl hz)
    rw [filt_int (fun k => !keepsB h k)] at lc
    obtain ⟨L, eL⟩ : ∃ L, L = c'.filter fun k => !keepsB h k := ⟨_, rfl⟩
    rw [← eL] at lc
    have pL : L.Perm (forgs h c) := by
      rw [eL]
      exact pc.filter _
    have sL : L.Pairwise (· ≤ ·) := by
      rw [eL]
      refine List.Pairwise.filter _ ?_
      exact (List.pairwise_map.mp srt).imp fun {a b} z => by omega
    have mL : ∀ k ∈ L, k < 5 := fun k hk => by
      have := x.lt k (List.mem_filter.mp (pL.mem_iff.mp hk)).1
      have := x.x.k5
      omega
    have lL : L.length ≤ 8 := by
      rw [eL]
      have := List.length_filter_le (fun k => !keepsB h k) c'
      omega
    refine (EvNL.toD n2 lc) H2 (Sub.refl _) _ fun v2 H3 s3 hv2 => ?_
    have s23 := s2.trans s3
    have n3 := kn.sub s23
    have e2 {Hx : Hp} (sx : Sub H3 Hx) : EvD K M (tVar 2) ([some vh, some (.ref a), some v2, none, none] : L2.St) Hx (.list (intD L)) := evd_var rfl (Dm.s hv2 sx)
    refine sifs (ifs_of (evb_test (evd_neNil (e2 (Sub.refl _)) (evd_lst n3 evds_nil (by decide)) (good_intL (fun k hk => by have := mL k hk; omega) (by omega)) (by decide))) fun H4 s4 => ?_)
    have s34 := s23.trans s4
    cases hL : L with
    | cons k rest =>
      rw [if_pos (by rfl)]
      rw [hL] at sL pL
      have e2' := e2 s4
      rw [hL] at e2'
      refine evd_ret (evd_tup (K := K) (M := M) (kn.sub s34) (evds_cons evd_str (evds_cons (evd_ixL (d := .int (k : Int)) e2' (evd_int (i := 0)) (by decide) rfl) evds_nil)) lt2) fun y H5 s5 hy => q y (.forg k) H5 (s34.trans s5) ⟨em, pL.mem_iff.mp List.mem_cons_self, fun z hz => ?_⟩ hy
      rcases List.mem_cons.mp (pL.mem_iff.mpr hz) with w | w
      · rw [w]
        exact Nat.le_refl _
      · exact List.rel_of_pairwise_cons sL w
    | nil =>
      rw [if_neg (by decide)]
      rw [hL] at pL
      have ef : forgs h c = [] := List.Perm.eq_nil pL.symm
      dsimp only
      refine sset_of ⟨_, rfl, _, rfl, M, h, c, kn.sub s34, .cons (Dm.s hh s34) (.cons (Dm.s hc s34) .nil), x, fun y l H5 s5 im ecr hy => ?_, fun H5 p s5 ecr => ?_⟩
      · have s35 := s34.trans s5
        refine evd_ret (K := K) (M := M) (d := outD (.told l)) (evd_ifE (b := true) (evb_val (evd_notN (K := K) (M := M) (d := .list (intD l)) (evd_var (i := 3) (σ := [some vh, some (.ref a), some v2, some y, none]) rfl hy) (.inr ⟨(fun z => nomatch z), rfl⟩))) (fun _ => evd_tup (kn.sub s35) (evds_cons evd_str (evds_cons (evd_var (i := 3) rfl hy) evds_nil)) lt2) (fun e => by cases e)) fun z H6 s6 hz => q z (.told l) H6 (s35.trans s6) ⟨em, ef, ecr, im⟩ hz
      · have s35 := s34.trans s5
        have er : EvD K M (tCall (spPure K rCrewR) [] E0 (tCons (tVar 0) (tCons (tVar 1) tNil))) ([some vh, some (.ref a), some v2, some .non, none] : L2.St) H5 (roundD (crewR (putB h c) c.length)) := evd_pure (rel := rCrewR) (kn.sub s35) (evds_cons (evd_var (i := 0) rfl (Dm.s hh s35)) (evds_cons (evd_var (i := 1) rfl (Dm.s hc s35)) evds_nil)) ⟨h, c, rfl, x, rfl⟩
        rw [ecr] at er
        refine evd_ret (K := K) (M := M) (d := outD (.round p)) (evd_ifE (b := false) (evb_val (evd_notN (K := K) (M := M) (d := .none) (evd_var (i := 3) (σ := [some vh, some (.ref a), some v2, some .non, none]) rfl .non) (.inl ⟨rfl, rfl⟩))) (fun e => by cases e) (fun _ => evd_tup (kn.sub s35) (evds_cons evd_str (evds_cons er evds_nil)) lt2)) fun z H6 s6 hz => q z (.round p) H6 (s35.trans s6) ⟨em, ef, ecr⟩ hz
end
/-! what is told is small -/
theorem good_non : Good .none 20 0 := by
  refine ⟨by simp only [PyData.canLay0], by simp only [PyData.showable], by simp only [PyData.hasDict], by simp only [PyData.depth]; exact Nat.le_refl _, ?_⟩
  simp only [PyData.shown]
  decide +kernel
theorem good_big {i : Int} (h0 : 0 ≤ i) (h1 : i < 1000000000) : Good (.int i) 20 0 := by
  refine ⟨by simp only [PyData.canLay0], ?_, by simp only [PyData.hasDict], by simp only [PyData.depth]; exact Nat.le_refl _, ?_⟩
  · simp only [PyData.showable]
    refine decide_eq_true ?_
    have a : i.natAbs < 2 ^ 30 := by omega
    have := Nat.log2_lt (n := i.natAbs) (k := 30)
    by_cases z : i.natAbs = 0
    · rw [z]
      decide
    · have := (Nat.log2_lt z).mpr a
      omega
  · simp only [PyData.shown]
    have := toString_length_le h0 (k := 9) (by decide) h1
    omega
theorem tag_ok : ∀ x ∈ (["meek", "forgets", "round", "told"] : List Str), PyData.strOk x = true ∧ (reprText x).length ≤ 20 := by decide +kernel
theorem good_tagO {x : Str} {d : PyData} (hx : x ∈ (["meek", "forgets", "round", "told"] : List Str)) (g : Good d 3000 1) : Good (.tuple [.str x, d]) 10000 2 := by
  refine Good.mono (good_tup (n := 3000) (k := 1) fun e he => ?_) (by show 2 * 3002 + 4 ≤ 10000; decide) (Nat.le_refl _)
  simp only [List.mem_cons, List.not_mem_nil, or_false] at he
  rcases he with he | he
  · rw [he]
    exact Good.mono (good_str tag_ok hx) (by decide) (by decide)
  · rw [he]
    exact g
theorem good_out {h : Hou} {c : List Nat} {o : Out} (x : CrewOk h c) (io : OutIs h c o) (b : ∀ l, o = .told l → ∀ k ∈ l, k < 1000000000) : Good (outD o) 10000 2 := by
  have n8 := x.few
  have k5 := x.x.k5
  cases o with
  | meek => exact good_tagO (by decide) (Good.mono good_non (by decide) (by decide))
  | forg k =>
    have := x.lt k (List.mem_filter.mp io.2.1).1
    exact good_tagO (by decide) (Good.mono (good_int (Int.natCast_nonneg _) (by omega)) (by decide) (by decide))
  | round p =>
    rcases crewR_ok (putB h c) c.length with ⟨q, e, ⟨⟨a, ha, le⟩, _⟩⟩ | ⟨e, _⟩
    · rw [io.2.2] at e
      cases e
      have := KB.nd_len le.nd le.lt
      exact good_tagO (by decide) (Good.mono (good_intD (m := 8) (fun k hk => by have := le.lt k hk; omega) (by omega)) (by decide) (Nat.le_refl _))
    · rw [io.2.2] at e
      cases e
  | told l =>
    refine good_tagO (by decide) (Good.mono (good_lst (n := 20) (k := 0) fun d hd => ?_) ?_ (Nat.le_refl _))
    · obtain ⟨k, hk, rfl⟩ := List.mem_map.mp hd
      have := b l rfl k hk
      exact good_big (Int.natCast_nonneg _) (by omega)
    · rw [intD_len, io.2.2.2.1]
      have := Nat.mul_le_mul n8 (Nat.le_refl 22)
      omega
end KZ

namespace KB
variable {E : Nat → Nat → Bool} {n : Nat}
theorem sum_le (f : Nat → Nat) (B : Nat) : ∀ l : List Nat, (∀ y ∈ l, f y ≤ B) → (l.map f).sum ≤ l.length * B
  | [], _ => by simp
  | a :: l, h => by
    have h1 := h a List.mem_cons_self
    have h2 := sum_le f B l fun y hy => h y (List.mem_cons_of_mem _ hy)
    rw [List.map_cons, List.sum_cons, List.length_cons, Nat.succ_mul]
    omega
theorem ord_ex (no : ∀ a k, a < n → ¬ Cl E n a k) : ∀ k, k ≤ n → ∃ ord, Ord E n ord ∧ ord.length = k
  | 0, _ => ⟨[], Ord.nil, rfl⟩
  | k + 1, h => by
    obtain ⟨ord, o, l⟩ := ord_ex no k (by omega)
    obtain ⟨x0, h0, n0⟩ := miss_one n ord (by omega)
    obtain ⟨x, hx, nx, hup⟩ := next_one no h0 n0
    exact ⟨ord ++ [x], o.snoc hx nx hup, by rw [List.length_append, l]; rfl⟩
theorem most_small {l : List Nat} (no : ∀ a k, a < n → ¬ Cl E n a k) (m : IsMost E n l) (n8 : n ≤ 8) : ∀ k ∈ l, k < 1000000000 := by
  obtain ⟨ord, o, ol⟩ := ord_ex no n (Nat.le_refl _)
  have full : n ≤ ord.length := by omega
  have ul : ∀ x, (up E n x).length ≤ 8 := fun x => by
    unfold up
    have := List.length_filter_le (E x) (List.range n)
    rw [List.length_range] at this
    omega
  have go : ∀ k x, x < n → pos ord x ≤ k → l.getD x 0 ≤ 9 ^ k := by
    intro k
    induction k with
    | zero =>
      intro x hx hp
      have e : up E n x = [] := by
        cases e : up E n x with
        | nil => rfl
        | cons y r =>
          obtain ⟨hy, he⟩ := mem_up.mp (show y ∈ up E n x by rw [e]; exact List.mem_cons_self)
          have := o.pos_lt (o.full full hx) hy he
          omega
      rw [m.2 x hx, e, List.map_nil, List.sum_nil]
      exact Nat.le_refl 1
    | succ k ih =>
      intro x hx hp
      rw [m.2 x hx]
      have s := sum_le (fun y => l.getD y 0) (9 ^ k) (up E n x) fun y hy => by
        obtain ⟨hy, he⟩ := mem_up.mp hy
        have := o.pos_lt (o.full full hx) hy he
        exact ih y hy (by omega)
      have u := ul x
      have t := Nat.mul_le_mul u (Nat.le_refl (9 ^ k))
      have p : 0 < 9 ^ k := Nat.pow_pos (by decide)
      rw [Nat.pow_succ]
      omega
  intro k hk
  obtain ⟨x, hx⟩ := List.mem_iff_getElem?.mp hk
  have xl := (List.getElem?_eq_some_iff.mp hx).1
  rw [m.1] at xl
  have e : l.getD x 0 = k := by
    rw [List.getD_eq_getElem?_getD, hx]
    rfl
  have g := go 8 x xl (by
    have := pos_in ord [] x (o.full full xl)
    rw [List.append_nil] at this
    omega)
  rw [e] at g
  have : 9 ^ 8 < 1000000000 := by decide
  omega
end KB
namespace KZ
open PySem PySem.Spec PyProof.Rows L2 LamX
/-! where tables grow: data stays -/
theorem xn_rd {H H' : Hp} (k : ExtN H H') {a : Addr} {u : HO} (hu : ∀ ps, u ≠ .tbl ps) (h : Rd H a u) : Rd H' a u :=
  h.elim (fun h => Or.inl (k _ _ h hu)) fun ⟨o, h⟩ => Or.inr ⟨o, k _ _ h fun ps z => (nomatch z)⟩
theorem xn_sqL {K : PySem.W.Frag} {H H' : Hp} (k : ExtN H H') {a : Addr} {xs : List V} (h : SqL K H a xs) : SqL K H' a xs :=
  h.elim (fun h => Or.inl (xn_rd k (fun ps z => (nomatch z)) h)) Or.inr
theorem xn_sqT {K : PySem.W.Frag} {H H' : Hp} (k : ExtN H H') {a : Addr} {xs : List V} (h : SqT K H a xs) : SqT K H' a xs :=
  h.elim (fun h => Or.inl (xn_rd k (fun ps z => (nomatch z)) h)) Or.inr
mutual
theorem xn_dp {K : PySem.W.Frag} {H H' : Hp} (k : ExtN H H') : ∀ (d : PyData) (v : V), Dp K H v d → Dp K H' v d
  | .none, _, h => by
    cases h
    exact .non
  | .bool b, _, h => by
    cases h
    exact .bl b
  | .int i, _, h => by
    cases h
    exact .int i
  | .str x, _, h => by
    cases h
    exact .str x
  | .list ds, _, h => by
    cases h with
    | lst hs ha => exact .lst (xn_sqL k hs) (xn_dps k ds _ ha)
  | .tuple ds, _, h => by
    cases h with
    | tup hs ha => exact .tup (xn_sqT k hs) (xn_dps k ds _ ha)
  | .dict _, _, h => by cases h
theorem xn_dps {K : PySem.W.Frag} {H H' : Hp} (k : ExtN H H') : ∀ (ds : List PyData) (vs : List V), DpAll K H vs ds → DpAll K H' vs ds
  | [], _, h => by
    cases h
    exact .nil
  | d :: ds, _, h => by
    cases h with
    | cons h1 h2 => exact .cons (xn_dp k d _ h1) (xn_dps k ds _ h2)
end
theorem xn_er {M : List Addr} {H H' : Hp} (k : ExtN H H') : ExtN (er M H) (er M H') := fun a o h n => by
  by_cases z : a ∈ M
  · unfold er at h
    rw [if_pos z] at h
    cases h
  · rw [er_in z] at h ⊢
    exact k a o h n
/-- a step beside the bag and the tables -/
structure Wk (b l : Addr) (T : List (Addr × Str)) (H H' : Hp) : Prop where
  x : ExtN (er [b] H) (er [b] H')
  bag : Bag b l H'
  tabs : Tabs T H'
theorem Wk.trans {b l : Addr} {T : List (Addr × Str)} {A B C : Hp} (p : Wk b l T A B) (q : Wk b l T B C) : Wk b l T A C := ⟨p.x.trans q.x, q.bag, q.tabs⟩
theorem Wk.refl {b l : Addr} {T : List (Addr × Str)} {H : Hp} (g : Bag b l H) (t : Tabs T H) : Wk b l T H H := ⟨ExtN.refl _, g, t⟩
theorem Wk.sub {b l : Addr} {T : List (Addr × Str)} {H H' : Hp} (g : Bag b l H) (t : Tabs T H) (s : Sub H H') : Wk b l T H H' := ⟨xn_er (ExtN.of s), g.kp s, t.ext s⟩
theorem Wk.fr {b l : Addr} {T : List (Addr × Str)} {H H' : Hp} (g : Bag b l H) (t : Tabs T H) (f : Fr b l H H') : Wk b l T H H' := ⟨ExtN.of f.k.er, f.bag, fun p hp => by
  obtain ⟨ps, h1, h2, h3⟩ := t p hp
  have nb : ∀ {a : Addr} {o : HO}, H a = some o → (∀ xs, o ≠ .lst xs) → a ∉ [b] := fun {a o} e n z => by
    obtain ⟨x, y, i, cs, hb, _⟩ := g
    rw [List.mem_singleton.mp z, hb] at e
    exact n _ (Option.some.inj e).symm
  refine ⟨ps, f.k _ _ (nb h1 fun xs z => (nomatch z)) h1, h2, fun pos cv hc => ?_⟩
  obtain ⟨c, e1, e2⟩ := h3 pos cv hc
  exact ⟨c, e1, f.k _ _ (nb e2 fun xs z => (nomatch z)) e2⟩⟩
theorem bag_xn {b l : Addr} {H H' : Hp} (g : Bag b l H) (k : ExtN H H') : Bag b l H' := by
  obtain ⟨x, y, i, cs, h1, h2, h3, h4⟩ := g
  exact ⟨x, y, i, cs, k _ _ h1 (fun ps z => (nomatch z)), h2, k _ _ h3 (fun ps z => (nomatch z)), h4⟩
theorem Wk.xn {b l : Addr} {T : List (Addr × Str)} {H H' : Hp} (g : Bag b l H) (k : ExtN H H') (t : Tabs T H') : Wk b l T H H' := ⟨xn_er k, bag_xn g k, t⟩
theorem Dm.w {K : PySem.W.Frag} {b l : Addr} {T : List (Addr × Str)} {H H' : Hp} {v : V} {d : PyData} (h : Dm K [b] H v d) (w : Wk b l T H H') : Dm K [b] H' v d := xn_dp w.x _ _ h
theorem Dms.w {K : PySem.W.Frag} {b l : Addr} {T : List (Addr × Str)} {H H' : Hp} {v : List V} {d : List PyData} (h : Dms K [b] H v d) (w : Wk b l T H H') : Dms K [b] H' v d := xn_dps w.x _ _ h
theorem Bag.cb {b l : Addr} {H : Hp} (g : Bag b l H) : Cb [b] b l H := ⟨g, List.mem_cons_self, fun a m => by
  rw [List.mem_singleton.mp m]
  exact g.at⟩
/-- what does not stand in a heap, but for tables -/
def NoOld (H : Hp) (p : Addr) : Prop := ∀ o, H p = some o → ∃ ps, o = .tbl ps
theorem NoOld.of {H H1 : Hp} {p : Addr} (k : ExtN H H1) (h : H1 p = none) : NoOld H p := fun o e => by
  by_cases n : ∃ ps, o = .tbl ps
  · exact n
  · have := k p o e fun ps z => n ⟨ps, z⟩
    rw [h] at this
    cases this
section
variable {K : PySem.W.Frag} {b l : Addr} {T : List (Addr × Str)} {H0 H : Hp}
theorem NoOld.nb {p : Addr} (g : Bag b l H0) (hp : NoOld H0 p) : p ≠ b := fun z => by
  obtain ⟨x, y, i, cs, h1, _⟩ := g
  rw [z] at hp
  obtain ⟨ps, e⟩ := hp _ h1
  cases e
theorem NoOld.nl {p : Addr} (g : Bag b l H0) (hp : NoOld H0 p) : p ≠ l := fun z => by
  obtain ⟨x, y, i, cs, _, _, h1, _⟩ := g
  rw [z] at hp
  obtain ⟨ps, e⟩ := hp _ h1
  cases e
theorem Wk.mut {p : Addr} {o : HO} {xs : List V} (g : Bag b l H0) (w : Wk b l T H0 H) (hp : NoOld H0 p) (he : H p = some (.lst xs)) : Wk b l T H0 (upd H p o) := by
  have pb := hp.nb g
  have pl := hp.nl g
  refine ⟨fun a u e n => ?_, w.bag.put pb pl, fun x hx => ?_⟩
  · have q := w.x a u e n
    have na : a ≠ p := fun z => by
      unfold er at e
      by_cases c : a ∈ [b]
      · rw [if_pos c] at e
        cases e
      · rw [if_neg c, z] at e
        obtain ⟨ps, ee⟩ := hp _ e
        exact n ps ee
    unfold er at q ⊢
    by_cases c : a ∈ [b]
    · rw [if_pos c] at q
      cases q
    · rw [if_neg c] at q ⊢
      rw [upd_ne na]
      exact q
  · obtain ⟨ps, h1, h2, h3⟩ := w.tabs x hx
    refine ⟨ps, by rw [upd_ne (fun z => by rw [z, he] at h1; cases h1)]; exact h1, h2, fun pos cv hc => ?_⟩
    obtain ⟨c, e1, e2⟩ := h3 pos cv hc
    exact ⟨c, e1, by rw [upd_ne (fun z => by rw [z, he] at e2; cases e2)]; exact e2⟩
end
/-! _law_heard -/
structure Refs (K : PySem.W.Frag) (mg : Str → Option Value) (CN CF CG CT iF iG : Addr) : Prop where
  nm : Oer0 K mg "NotMeek" CN
  fo : Oer K mg "Forgets" "kind" CF iF
  gr : Oer K mg "GoesRound" "persons" CG iG
  th : mg "ThroughError" = some (.ref CT)
  n1 : PySem.W.exmOne K (.ref CN) (.ref CN) = some true
  f1 : PySem.W.exmOne K (.ref CF) (.ref CN) = some false
  f2 : PySem.W.exmOne K (.ref CF) (.ref CF) = some true
  g1 : PySem.W.exmOne K (.ref CG) (.ref CN) = some false
  g2 : PySem.W.exmOne K (.ref CG) (.ref CF) = some false
  g3 : PySem.W.exmOne K (.ref CG) (.ref CG) = some true
def TupQ (xs : List V) (H : Hp) (Q : VK) : Prop := xs.length ≤ sizeLine ∧ ∀ p, H p = none → Q (.ref p) (upd H p (.tup xs))
def CaughtH (CN CF CG : Addr) (Q : VK) : XK := fun cls d H =>
  (cls = .ref CN ∧ TupQ [.str "meek", .non] H Q) ∨
  (cls = .ref CF ∧ ∃ (dd : Addr) (v : V), d = some dd ∧ H dd = some (.xd [(("kind" : Str), v)]) ∧ TupQ [.str "forgets", v] H Q) ∨
  (cls = .ref CG ∧ ∃ (dd : Addr) (v : V), d = some dd ∧ H dd = some (.xd [(("persons" : Str), v)]) ∧ TupQ [.str "round", v] H Q)
def TH (CN CF CG : Addr) : (XK → Hp → VK → Prop) → Hp → VK → Prop := fun tl H Q => tl (CaughtH CN CF CG Q) H fun v H' => TupQ [.str "told", v] H' Q
theorem miss {K : PySem.W.Frag} {Wout : WX} {D : Ends} {q : Clause} {r : List Clause} {cls : Value} {d : Option Addr} {σ : L2.St} {H : Hp} (e : PySem.W.exmOne K cls q.c = some false) (h : wClauses K Wout D r cls d σ H) : wClauses K Wout D (q :: r) cls d σ H :=
  Exists.intro false (And.intro e (And.intro (fun z => Bool.noConfusion z) fun _ => h))
theorem hits {K : PySem.W.Frag} {Wout : WX} {D : Ends} {q : Clause} {r : List Clause} {cls : Value} {d : Option Addr} {σ : L2.St} {H : Hp} (e : PySem.W.exmOne K cls q.c = some true) (h : ∀ a, H a = none → q.run a cls d D σ H) : wClauses K Wout D (q :: r) cls d σ H :=
  Exists.intro true (And.intro e (And.intro (fun _ => h) fun z => Bool.noConfusion z))
abbrev sHeard : Stmt := topS 42
theorem scHeard : FnScope ["act", "error"] ["act"] (defScope sHeard) := ⟨rfl, rfl, rfl, by decide +kernel, rfl, by decide +kernel, by decide +kernel⟩
theorem heard_gives {X : Cx} {CN CF CG CT iF iG g : Addr} {cdg : Value} {q : Str} (R : Refs X.K X.mg CN CF CG CT iF iG) : GivesTo X ["act", "error"] "_law_heard" (defScope sHeard) g cdg (defBody sHeard) "act" q (TH CN CF CG) := by
  intro f c' s H Q tl act hc h
  refine ⟨_, pss_one (ps_try_named (X := (cxOf C8.CX0 X.prog X.w X.K X.mg X.base ["act", "error"] "_law_heard" (defScope sHeard) g cdg X.A X.stack s H C8.E0).nox)
      (tb := fun W D σ H => ∃ Ech : XK, (∀ cls d σ' H', Ech cls d H' → W cls d σ' H') ∧ tRet (tTup (tCons (tC (.str "told")) (tCons (fun σZ HZ Q => σZ[0]? = some (some (.ref f)) ∧ HZ c' = some (CodeO c' q) ∧ tl Ech HZ Q) tNil))) D σ H)
      (Wout := fun _ _ _ _ => False) rfl rfl scHeard.nd LamX.takes0 (fun W pn xe tk _ => ?_)
      (.bare ⟨rfl, by decide, .inl R.nm.g⟩ (fun a oe cls d pn hz hf => pss_one (ps_ret (pe_tup (pa_cons pe_str (pa_cons pe_non pa_nil)))))
      (.named (i := 1) ⟨rfl, by decide, .inl R.fo.g⟩ rfl rfl (fun a oe cls d pn hz hf => pss_one (ps_ret (pe_tup (pa_cons pe_str (pa_cons (pe_byF R.fo hz hf (pv 1)) pa_nil)))))
      (.named (i := 1) ⟨rfl, by decide, .inl R.gr.g⟩ rfl rfl (fun a oe cls d pn hz hf => pss_one (ps_ret (pe_tup (pa_cons pe_str (pa_cons (pe_byF R.gr hz hf (pv 1)) pa_nil)))))
      (.bare ⟨rfl, by decide, .inl R.th⟩ (fun a oe cls d pn hz hf => pss_one (ps_ret (pe_tup (pa_cons pe_str (pa_cons pe_non pa_nil)))))
      .nil))))), ?_⟩
  · refine ⟨fun pins s' σ H' D I h' => ?_⟩
    obtain ⟨Ech, hW, h1⟩ := h'
    exact (pss_one (ps_ret (pe_tup (pa_cons pe_str (pa_cons (act W pn xe Ech _ _ tk hW) pa_nil))))).run pins s' σ H' D I h1
  · refine ⟨CaughtH CN CF CG Q, fun cls d σ' H' hE => ?_, rfl, hc, h⟩
    have at1 : ∀ {a : Addr}, 1 < σ'.length → (σ'.set 1 (some (V.ref a)))[1]? = some (some (.ref a)) := fun {a} hl => by
      rw [List.getElem?_set_self hl]
    rcases hE with ⟨rfl, k⟩ | ⟨rfl, dd, v, rfl, e, k⟩ | ⟨rfl, dd, v, rfl, e, k⟩
    · exact hits R.n1 fun a ha => k
    · exact miss R.f1 (hits R.f2 fun a ha hl => ⟨.ref a, at1 hl, rfl, rfl, dd, v, rfl, e, k⟩)
    · exact miss R.g1 (miss R.g2 (hits R.g3 fun a ha hl => ⟨.ref a, at1 hl, rfl, rfl, dd, v, rfl, e, k⟩))
section
variable {X : Cx}
/-- _law_heard(lambda: f(..)) -/
theorem pe_heard {CN CF CG CT iF iG c P fR f : Addr} {fdR fd : FuncData} {q : Str} {ps : List Str} {sp : Sp} {tr : TA} {params : Arguments} {e : Expr} {es : List Expr} {scope : Scope} {x : Str} {p lpos pos xp cpos : Pos}
    (R : Refs X.K X.mg CN CF CG CT iF iG) (FR : Fun X.K "_law_heard" "_law_heard" sHeard fR fdR) (gR : X.mg "_law_heard" = some (.ref fR)) (bR : L2.Binds X.K fdR ["act"] [])
    (C : CalX X.prog X.w X.K X.mg X.base x 7 ps sp f fd)
    (TB : TabB X.base X.mg c P) (hcode : X.env.code = .ref c) (hq : X.env.qual ++ "<lambda>" = q) (hr : Room 9 X.A) (L : LamS X.env.scope scope) (hdef : defaultsOf params X.env = ([], []))
    (hbind : ∀ (q : Str) (cl : List (Str × Addr)) (pm cv ctv : Value), bindArgs (PySem.W.kla_fn "<lambda>" q params (.Call (.Name x xp) (e :: es) [] cpos) scope cl pm cv ctv) ⟨[], []⟩ = pure [])
    (hg : Gl X "_law_heard") (hgl : ∀ (A : Around) (outer : List Env) (s : Shared) (H : Hp) (E : XK) (g c' : Addr), Gl (lamCx X A outer s H E scope g c') x)
    (ha : ∀ (A : Around) (outer : List Env) (s : Shared) (H : Hp) (E : XK) (g c' : Addr), L2.PA (lamCx X A outer s H E scope g c') (e :: es) tr)
    (hs : ∀ env, starEach (e :: es) env = (false, eval e env) :: starEach es env) (hpl : ∀ env, (backTo cpos (starEach es env)).any (·.1) = false) (hdb : (x == ("__debug__" : Str)) = false := by decide) :
    PE X (.Call (.Name "_law_heard" p) [.Lambda params (.Call (.Name x xp) (e :: es) [] cpos) scope lpos] [] pos) (tLam [(P, q)] (TH CN CF CG) fun E => tCallS sp (WE fun cls d _ H => E cls d H) tr) := by
  subst hq
  obtain ⟨oc, od, kV, doc, pm, an, cdR, ct, osl, rfl, lk, hcg⟩ := FR.ex
  exact pe_lamcall (T := [(P, X.env.qual ++ "<lambda>")]) (TT := TH CN CF CG) (a := "act") (c := c) (P := P) (k := 7) (Ng := ["act", "error"]) hg gR FR.kp lk hcg bR scHeard rfl (Or.inl rfl) (heard_gives R) TB hcode (List.mem_singleton.mpr rfl) (fun z hz _ => by rw [List.mem_singleton.mp hz]) hr L hdef hbind
    (fun A outer s H E g c' hr3 => pe_callS (X := lamCx X A outer s H E scope g c') C.ok hr3 (hgl A outer s H E g c') C.g C.kp C.b (fun σ => passAt (takes_of (X := lamCx X A outer s H E scope g c') (E := E) rfl rfl rfl rfl) σ) (ha A outer s H E g c') hdb (hs _) (hpl _))
end
section
variable {K : PySem.W.Frag} {M : List Addr} {σ : L2.St} {H : Hp} {T : List (Addr × Str)} {CN CF CG : Addr} {tr : TA} {h : Hou} {c : List Nat} {o : Out}
theorem heard_fin {H H1 H2 H3 : Hp} {xs : List V} {es : List PyData} {Q : VK} (x1 : ExtN H H1) (T1 : Tabs T H1) (kn : Kn M H1) (s2 : Sub H1 H2) (s3 : Sub H2 H3) (hx : Dms K M H3 xs es) (hl : es.length < 1000000)
    (q : ∀ t H', ExtN H H' → Tabs T H' → Dm K M H' (.ref t) (.tuple es) → H' t = some (.tup xs) → Sub H3 H' → Q (.ref t) H') : TupQ xs H3 Q := by
  refine ⟨Nat.le_of_lt (szl (by rw [hx.len]; exact hl)), fun p hp => ?_⟩
  have s23 : Sub H1 (upd H3 p (.tup xs)) := (s2.trans s3).trans (Sub.new hp)
  exact q _ _ (x1.trans (ExtN.of s23)) (T1.ext s23) (Dm.tupNew (kn.sub (s2.trans s3)) hp hx) upd_same (Sub.new hp)
theorem heard_raise {H1 H2 : Hp} {Q : VK} {Tt : List Nat → Prop} (x1 : ExtN H H1) (T1 : Tabs T H1) (kn : Kn M H1) (s2 : Sub H1 H2) (q : ∀ t H', ExtN H H' → Tabs T H' → Dm K M H' (.ref t) (outD o) → (∀ l, o ≠ .told l) → Q (.ref t) H') (ht : ∀ l, o = .told l → Tt l) :
    OutE K CN CF CG M H2 (WE (fun cls d _ H => CaughtH CN CF CG Q cls d H) σ) Tt o := by
  cases o with
  | meek => exact fun H3 s3 => .inl ⟨rfl, heard_fin (T := T) x1 T1 kn s2 s3 (.cons (.str _) (.cons .non .nil)) lt2 fun t H' a b d _ _ => q t H' a b d fun l z => nomatch z⟩
  | forg k => exact fun a v H3 s3 hv e => .inr (.inl ⟨rfl, a, v, rfl, e, heard_fin (T := T) x1 T1 kn s2 s3 (.cons (.str _) (.cons hv .nil)) lt2 fun t H' a b d _ _ => q t H' a b d fun l z => nomatch z⟩)
  | round p => exact fun a v H3 s3 hv e => .inr (.inr ⟨rfl, a, v, rfl, e, heard_fin (T := T) x1 T1 kn s2 s3 (.cons (.str _) (.cons hv .nil)) lt2 fun t H' a b d _ _ => q t H' a b d fun l z => nomatch z⟩)
  | told l => exact ht l rfl
theorem heard_mb {Q : VK} (hT : Tabs T H) (hd : ∀ H1, ExtN H H1 → EvDs K M tr σ H1 [houD h, .tuple (intD c)]) (kn : ∀ H1, ExtN H H1 → Kn M H1) (x : CrewOk h c) (io : OutIs h c o)
    (q : ∀ t H', ExtN H H' → Tabs T H' → Dm K M H' (.ref t) (outD o) → (∀ l, o = .told l → ∃ p, NoOld H p ∧ H' t = some (.tup [.str "told", .ref p]) ∧ H' p = some (.lst (intV l))) → Q (.ref t) H') :
    tLam T (TH CN CF CG) (fun E => tCallS (spMB K CN CF CG) (WE fun cls d _ H => E cls d H) tr) σ H Q := by
  refine ⟨hT, fun H1 x1 T1 => ?_⟩
  refine hd H1 x1 H1 (Sub.refl _) _ fun vs H2 s2 hvs => ⟨M, h, c, o, (kn H1 x1).sub s2, hvs, x, io, ?_⟩
  refine heard_raise (T := T) x1 T1 (kn H1 x1) s2 (fun t H' a b d e => q t H' a b d fun l z => absurd z (e l)) fun l el p H3 s3 hp h3p => ?_
  subst el
  have hp1 : H1 p = none := s2.free hp
  have hpD : Dm K M H3 (.ref p) (.list (intD l)) := .lst (SqL.of (by rw [er_in ((kn H1 x1).out hp1)]; exact h3p)) int_dms
  exact heard_fin (T := T) (es := [.str "told", .list (intD l)]) x1 T1 (kn H1 x1) s2 s3 (.cons (.str _) (.cons hpD .nil)) lt2 fun t H' a b d e s' => q t H' a b d fun l' z => by
    cases z
    exact ⟨p, NoOld.of x1 hp1, e, s' _ _ h3p⟩
theorem heard_br {Q : VK} (hT : Tabs T H) (hd : ∀ H1, ExtN H H1 → EvDs K M tr σ H1 [houD h, .tuple (intD c)]) (kn : ∀ H1, ExtN H H1 → Kn M H1) (x : CrewOk h c) (io : OutIs h c o) (no : ∀ l, o ≠ .told l)
    (q : ∀ t H', ExtN H H' → Tabs T H' → Dm K M H' (.ref t) (outD o) → Q (.ref t) H') :
    tLam T (TH CN CF CG) (fun E => tCallS (spBR K CN CF CG) (WE fun cls d _ H => E cls d H) tr) σ H Q := by
  refine ⟨hT, fun H1 x1 T1 => ?_⟩
  refine hd H1 x1 H1 (Sub.refl _) _ fun vs H2 s2 hvs => ⟨M, h, c, o, (kn H1 x1).sub s2, hvs, x, io, ?_⟩
  exact heard_raise (T := T) x1 T1 (kn H1 x1) s2 (fun t H' a b d _ => q t H' a b d) fun l el => absurd el (no l)
theorem heard_ip {Q : VK} {d : PyData} (hT : Tabs T H) (hd : ∀ H1, ExtN H H1 → EvDs K M tr σ H1 [houD h, .tuple (intD c), d]) (kn : ∀ H1, ExtN H H1 → Kn M H1) (x : CrewOk h c) (io : OutIs h c o) (no : ∀ l, o ≠ .told l)
    (q : ∀ t H', ExtN H H' → Tabs T H' → Dm K M H' (.ref t) (outD o) → Q (.ref t) H') :
    tLam T (TH CN CF CG) (fun E => tCallS (spIP K CN CF CG) (WE fun cls d _ H => E cls d H) tr) σ H Q := by
  refine ⟨hT, fun H1 x1 T1 => ?_⟩
  refine hd H1 x1 H1 (Sub.refl _) _ fun vs H2 s2 hvs => ⟨M, h, c, d, o, (kn H1 x1).sub s2, hvs, x, io, ?_⟩
  exact heard_raise (T := T) x1 T1 (kn H1 x1) s2 (fun t H' a b d _ => q t H' a b d) fun l el => absurd el (no l)
end
/-- a def by its body, where no repr is under way, its code object told -/
theorem fun_okGd {P : Program} {w : World} {K : PySem.W.Frag} {mg : Str → Option Value} {base : Heap} {x qual : Str} {st : Stmt} {f : Addr} {fd : FuncData} {N ps : List Str} {k : Nat} {sp : Sp} {cv : Value} (hcv : fd.code = cv) (F : Fun K x qual st f fd) (S : FnScope N ps (defScope st)) (hlen : ∀ vs H Q E, sp vs H Q E → vs.length = ps.length)
    (body : ∀ (A : Around) (up : List Env) (t : Shared) (H : Hp) (vs : List V) (Q : VK) (E : XK), A.guards = some [] → Room k (A.deeper (envOfC qual (defScope st) t.heap.objs.size f cv)) → sp vs H Q E →
      ∃ τ, PSs (cxOf CX0 P w K mg base N qual (defScope st) f cv A up t H E).nox (defBody st) τ ∧ τ { nx := fun _ H' => Q .non H', rt := Q } (start N vs) H) : FnG P w K mg base (k + 1) f fd ps sp := by
  have F' : Fun K x qual st f fd ∧ ∀ (oc : Value) (od : Option Addr) (kV doc pm : Value) (an : Option Addr) (cdv ct : Value), fd = PySem.W.fnOf x qual (defArgs st) (defBody st) (defScope st) .none kV doc pm an cdv ct → cdv = cv := ⟨F, fun oc od kV doc pm an cdv ct e => by
    rw [e] at hcv
    exact hcv⟩
  obtain ⟨c0, d0, k0, doc, pm, an, cdv, ct, sl, e, found, code⟩ := F.ex
  cases F'.2 c0 d0 k0 doc pm an cdv ct e
  subst e
  refine ⟨hlen, ?_⟩
  intro A up t H ar us vs Q E gs room here binds rel wish
  have many := hlen _ _ _ _ wish
  have lim : t.heap.NoLimit := Heap.NoLimit.keeps here.mod.nolimit (fun b o e => (here.bs b o e).1)
  have inK : K.In t.heap := PySem.W.Frag.In.keeps here.mod.kin (fun b o e => (here.bs b o e).1)
  have kinds : ∀ z ∈ ps.zip us, (defScope st).names.lookup z.1 = some .local ∨
      ((defScope st).names.lookup z.1 = some .cell ∧ ((cellsFrom (t.heap.objs.size + 1) (defScope st).names []).lookup z.1).isSome = true) := by
    intro z hz
    have h1 : z.1 ∈ ps := (List.of_mem_zip (show (z.1, z.2) ∈ ps.zip us from hz)).1
    cases S.par _ h1 with
    | inl l => exact Or.inl l
    | inr l => exact Or.inr ⟨l, PySem.W.cellsFrom_some _ _ _ (Or.inl l)⟩
  refine codeAny_call_function room.depth (inK _ _ found) rfl S.co S.gen rfl (PySem.W.codeRec_of inK code) ?_
  refine binds _ _ _ _ ?_
  refine wpAny_newFunctionEnv_cells S.kind kinds ?_
  intro env he t1 inside
  subst he
  refine ⟨Heap.NoLimit.keeps lim inside.toInCall.keep, ?_⟩
  refine codeAny_func ?_
  obtain ⟨τ, runs, reads⟩ := body A up t H vs Q E gs (Room.deeper room _) wish
  have J : L2.Inv (cxOf CX0 P w K mg base N qual (defScope st) f _ A up t H E) [] (start N vs) H t1 := inv_start S room.hd here many rel inside
  refine wpAny_mono (runs.nox.run [] t1 (start N vs) H _ J reads) ?_ (fun _ _ z => z)
  intro fl t' out
  cases fl with
  | ret u =>
    obtain ⟨v, σ', H', I', rv, q⟩ := out
    exact ⟨v, H', I'.os, I'.bare, I'.base, I'.hok, rv, q⟩
  | next =>
    obtain ⟨σ', H', I', q⟩ := out
    exact ⟨V.non, H', I'.os, I'.bare, I'.base, I'.hok, rfl, q⟩
  | brk =>
    obtain ⟨_, _, _, q⟩ := out
    cases q
  | cont =>
    obtain ⟨_, _, _, q⟩ := out
    cases q
end KZ

namespace KZ
open PySem PySem.Spec PyProof.Rows L2 LamX
def spLaw (K : PySem.W.Frag) (P : Addr) : Sp := fun vs H Q _ => ∃ (a : Addr) (ns : List Int), vs = [.ref a] ∧ SqL K H a (ns.map V.int) ∧ ns.length ≤ 63 ∧ H P = some (.tbl #[]) ∧ ∀ H', Q (.bl true) H'
section
variable {K : PySem.W.Frag} {M : List Addr} {σ : L2.St} {H : Hp} {te t1 t2 : TE} {g : TG} {ta tb u : TS} {D : Ends} {ds : List PyData}
theorem alike_if {n k : Nat} (h1 : EvD K M t1 σ H (.tuple ds)) (h2 : EvD K M t2 σ H (.tuple ds)) (g : Good (.tuple ds) n k) (hn : n < 1000000) (hk : k ≤ 60) (q : ∀ H', Sub H H' → tb D σ H') :
    tIfS (tNot (tB (tCall (spAlikeL K) [] E0 (tCons t1 (tCons t2 tNil))))) ta tb D σ H :=
  h1 H (Sub.refl _) _ fun v H1 s1 hv => h2 H1 s1 _ fun u H2 s2 hu => by
    obtain ⟨a, _, ea, _⟩ := hv.tupAt
    obtain ⟨b, _, eb, _⟩ := hu.tupAt
    exact ⟨v, u, .tuple ds, n, k, rfl, (Dm.s hv s2).all, hu.all, ⟨a, ea⟩, ⟨b, eb⟩, g, hn, hk, true, rfl, q H2 (s1.trans s2)⟩
end
section
variable {K : PySem.W.Frag} {M : List Addr} {σ : L2.St} {H : Hp} {tl t2 : TE} {ta tb : TS} {D : Ends} {T : List (Addr × Str)} {es : List PyData}
theorem heardAlike {n k : Nat} (hl : ∀ Q : VK, (∀ t H', ExtN H H' → Tabs T H' → Dm K M H' (.ref t) (.tuple es) → Q (.ref t) H') → tl σ H Q) (h2 : ∀ H1, ExtN H H1 → EvD K M t2 σ H1 (.tuple es)) (g : Good (.tuple es) n k) (hn : n < 1000000) (hk : k ≤ 60)
    (q : ∀ H', ExtN H H' → Tabs T H' → tb D σ H') : tIfS (tNot (tB (tCall (spAlikeL K) [] E0 (tCons tl (tCons t2 tNil))))) ta tb D σ H := by
  refine hl _ fun t H1 x1 T1 ht => ?_
  refine h2 H1 x1 H1 (Sub.refl _) _ fun u H2 s2 hu => ?_
  obtain ⟨b, _, eb, _⟩ := hu.tupAt
  exact ⟨.ref t, u, .tuple es, n, k, rfl, (Dm.s ht s2).all, hu.all, ⟨t, rfl⟩, ⟨b, eb⟩, g, hn, hk, true, rfl, q H2 (x1.trans (ExtN.of s2)) (T1.ext s2)⟩
theorem evd_neSS {x y : Str} (ha : EvD K M tl σ H (.str x)) (hb : EvD K M t2 σ H (.str y)) : EvD K M (tOp rNe tl t2) σ H (.bool (!decide (x = y))) := fun H1 s Q q =>
  ha H1 s _ fun v H2 s2 hv => hb H2 (s.trans s2) _ fun u H3 s3 hu => by
    cases hv.strAt
    cases hu.strAt
    refine ⟨rfl, q _ H3 (s2.trans s3) ?_⟩
    have e : decide (V.str x = V.str y) = decide (x = y) := by
      by_cases z : x = y
      · rw [decide_eq_true z, decide_eq_true (by rw [z])]
      · rw [decide_eq_false z, decide_eq_false fun y => z (by cases y; rfl)]
    rw [e]
    exact .bl _
end
theorem outD_tup (o : Out) : ∃ x d, outD o = .tuple [.str x, d] ∧ (x = "told" ↔ ∃ l, o = .told l) := by
  cases o with
  | meek => exact ⟨_, _, rfl, fun e => absurd e (by decide +kernel), fun ⟨_, e⟩ => nomatch e⟩
  | forg k => exact ⟨_, _, rfl, fun e => absurd e (by decide +kernel), fun ⟨_, e⟩ => nomatch e⟩
  | round p => exact ⟨_, _, rfl, fun e => absurd e (by decide +kernel), fun ⟨_, e⟩ => nomatch e⟩
  | told l => exact ⟨_, _, rfl, fun _ => ⟨l, rfl⟩, fun _ => rfl⟩
section
variable {K : PySem.W.Frag} {M : List Addr} {σ : L2.St} {H : Hp} {te tb : TE} {b l : Addr}
/-- [e for x in t], e beside the bag, t a tuple -/
theorem lcT_bag {vs : List Nat} {j : Nat} {ds : List PyData} (P : PyData → Prop) (cb : Cb M b l H) (h : EvD K M te σ H (.tuple ds)) (hz : ds.length < 100000) (hw : ∀ x, wipe ((wipe σ vs).set j (some x)) vs = wipe σ vs)
    (he : ∀ (Dl : Addr), H Dl = none → ∀ (x : V) (H1 : Hp), Fr b l H H1 → Cb (Dl :: M) b l H1 → ∀ Q : VK, (∀ y d H2, Fr b l H1 H2 → P d → Dm K (Dl :: M) H2 y d → Q y H2) → tb ((wipe σ vs).set j (some x)) H1 Q)
    (Q : VK) (q : ∀ y es H', Fr b l H H' → es.length = ds.length → (∀ d ∈ es, P d) → Dm K M H' y (.list es) → Q y H') : tLc (iTup K te) (gName j) tYes tb vs σ H Q :=
  h H (Sub.refl _) _ fun v H2 s2 hv => by
    obtain ⟨a, xs, rfl, hs, ha⟩ := hv.tupAtE
    have hl := ha.len
    have f02 : Fr b l H H2 := Fr.sub cb.bag s2
    refine ⟨a, rfl, ⟨xs, (er_sub _ _).sqT hs⟩, fun Dl hD => ?_⟩
    have h0D : H Dl = none := s2.free hD
    have pb := ne_new cb.bag.at h0D
    refine lc_tup (K := K) (a := a) (xs := xs) (fun i H' => Fr b l H H' ∧ ∃ acc es, H' Dl = some (.lst acc) ∧ Dms K (Dl :: M) H' acc es ∧ es.length = i ∧ (∀ d ∈ es, P d) ∧ SqT K (er (Dl :: M) H') a xs)
      ⟨f02.mut cb.bag h0D, [], [], upd_same, .nil, rfl, by simp, Sub.sqT (Kp.er (Kp.mut List.mem_cons_self)) (by rw [er_more hD]; exact hs)⟩ (fun i H' _ p => ?_) (fun i x H' hi p => ?_) (fun H' p => ?_)
    · obtain ⟨_, acc, es, _, _, _, _, p5⟩ := p
      exact (er_sub _ _).sqT p5
    · obtain ⟨fp, acc, es, p1, p2, p3, p4, p5⟩ := p
      have c3 : Cb (Dl :: M) b l H' := (cb.fr fp).more ⟨_, p1⟩
      have il := (List.getElem?_eq_some_iff.mp hi).1
      refine ⟨hw x, ?_⟩
      unfold tYes
      dsimp only
      rw [if_pos rfl]
      refine he Dl h0D x H' fp c3 _ fun y d H3 f3 pd hy => ⟨acc, f3.k Dl _ (by simp [pb]) p1, ?_, ?_⟩
      · have q1 := p2.len
        exact szl (by omega)
      · have km : Kp (Dl :: M) H3 (upd H3 Dl (.lst (acc ++ [y]))) := Kp.mut List.mem_cons_self
        refine ⟨(fp.trans f3).mut cb.bag h0D, _, es ++ [d], upd_same, Dms.k ((p2.f f3 c3.mem).app (DpAll.one hy)) km, by rw [List.length_append, p3] <;> rfl, ?_, Sub.sqT km.er (Sub.sqT (f3.kp c3.mem).er p5)⟩
        intro e he
        rcases List.mem_append.mp he with he | he
        · exact p4 e he
        · rw [List.mem_singleton.mp he]
          exact pd
    · obtain ⟨fp, acc, es, p1, p2, p3, p4, p5⟩ := p
      exact q _ es H' fp (by omega) p4 (Dm.lstOf (cb.kn.out h0D) p1 p2)
end
section
variable {P : Program} {w : World} {K : PySem.W.Frag} {mg : Str → Option Value} {base : Heap}
abbrev sLaw : Stmt := topS 45
abbrev NL : List Str := ["script", "bag", "turn", "due", "again", "told", "counts", "crew", "house", "person"]
theorem scLaw : FnScope NL ["script"] (defScope sLaw) := ⟨rfl, rfl, rfl, by decide +kernel, rfl, by decide +kernel, by decide +kernel⟩
abbrev lamQ : Str := (("law" : Str) ++ (".<locals>." : Str)) ++ ("<lambda>" : Str)
abbrev tSome (K : PySem.W.Frag) : TE := tCall (spSome K) [] E0 (tCons (tVar 1) (tCons (tLst (tCons (tC (.int 1)) (tCons (tC (.int 1)) (tCons (tC (.int 0)) (tCons (tC (.int 2)) tNil))))) tNil))
theorem ok_law {f c P0 CN CF CG CT iF iG fB fS fH fT fL fC fD fA fR gM gB gI : Addr} {fd fdB fdS fdH fdT fdL fdC fdD fdA fdR dM dB dI : FuncData} (F : Fun K "law" "law" sLaw f fd) (hcv : fd.code = .ref c) (T : Txt mg)
    (CB : Cal P w K mg base "_law_bag" 1 ["script"] (spBag K) fB fdB) (CS : Cal P w K mg base "_law_some" 2 ["bag", "things"] (spSome K) fS fdS) (CH : Cal P w K mg base "_law_meek_house" 4 ["bag", "most", "keeps"] (spMeekH K) fH fdH)
    (CTa : Cal P w K mg base "_law_take" 1 ["bag", "upto"] spTake fT fdT) (CL : Cal P w K mg base "_law_less_meek" 3 ["bag", "house"] (spLess K) fL fdL) (CC : Cal P w K mg base "_law_crew" 2 ["bag", "house", "most"] (spCrew K) fC fdC)
    (CD : CalG P w K mg base "_law_due" 6 ["house", "crew"] (spDue K) fD fdD) (CA : CalG P w K mg base "_law_alike" 1 ["found", "due"] (spAlikeL K) fA fdA)
    (R : Refs K mg CN CF CG CT iF iG) (FR : Fun K "_law_heard" "_law_heard" sHeard fR fdR) (gR : mg "_law_heard" = some (.ref fR)) (bR : L2.Binds K fdR ["act"] [])
    (XM : CalX P w K mg base "most_begins" 7 ["house", "crew"] (spMB K CN CF CG) gM dM) (XB : CalX P w K mg base "busiest_run" 7 ["house", "crew"] (spBR K CN CF CG) gB dB) (XI : CalX P w K mg base "is_possible" 7 ["house", "crew", "counts"] (spIP K CN CF CG) gI dI)
    (TB : TabB base mg c P0) : FnG P w K mg base 10 f fd ["script"] (spLaw K P0) := by
  refine fun_okGd hcv F scLaw (fun vs H Q E h => ?_) (fun A outer s H vs Q E gs hr h => ?_)
  · obtain ⟨a, ns, rfl, _⟩ := h
    rfl
  obtain ⟨a, ns, rfl, hS, hl, hP, k⟩ := h
  have hr1 : Room 1 _ := hr.mono (by decide)
  have hr2 : Room 2 _ := hr.mono (by decide)
  have hr3 : Room 3 _ := hr.mono (by decide)
  have hr4 : Room 4 _ := hr.mono (by decide)
  have hr6 : Room 6 _ := hr.mono (by decide)
  refine ⟨_, pss_cons (ps_set (i := 1) scLaw.nd rfl (Or.inr rfl) (pcl CB hr1 (pa_cons (pv 0) pa_nil)))
    (pss_cons (ps_for PassesOwn.never rfl (pi_range1 rfl T.range (pa_cons pe_int pa_nil)) (pg_name (i := 2) scLaw.nd rfl (Or.inl rfl))
      (pss_cons (ps_set (i := 8) scLaw.nd rfl (Or.inr rfl) (pcl CH hr4 (pa_cons (pv 1) (pa_cons pe_int (pa_cons (pcl CS hr2 (pa_cons (pv 1) (pa_cons (pe_lst (pa_cons (pe_lst (pa_cons pe_bl pa_nil)) (pa_cons (pe_lst (pa_cons pe_bl pa_nil)) (pa_cons (pe_lst (pa_cons pe_bl (pa_cons pe_bl (pa_cons pe_bl (pa_cons pe_bl pa_nil))))) pa_nil)))) pa_nil))) pa_nil)))))
      (pss_cons (ps_set (i := 8) scLaw.nd rfl (Or.inr rfl) (pe_ifExp (pt_cmpR op_eq (pcl CTa hr1 (pa_cons (pv 1) (pa_cons pe_int pa_nil))) pe_int (nomark _)) (pcl CL hr3 (pa_cons (pv 1) (pa_cons (pv 8) pa_nil))) (pv 8)))
      (pss_cons (ps_set (i := 7) scLaw.nd rfl (Or.inr rfl) (pcl CC hr2 (pa_cons (pv 1) (pa_cons (pv 8) (pa_cons pe_int pa_nil)))))
      (pss_cons (ps_set (i := 3) scLaw.nd rfl (Or.inl rfl) (pclG CD gs hr6 (pa_cons (pv 8) (pa_cons (pv 7) pa_nil))))
      (pss_cons (ps_for PassesOwn.never rfl (pi_range1 rfl T.range (pa_cons pe_int pa_nil)) (pg_name (i := 4) scLaw.nd rfl (Or.inl rfl))
        (pss_cons (ps_set (i := 5) scLaw.nd rfl (Or.inl rfl) (pe_heard R FR gR bR XM TB rfl rfl hr (lamS_by (show lamSB (defScope sLaw) _ = true by decide +kernel)) rfl (fun _ _ _ _ _ => rfl) rfl (fun _ _ _ _ _ _ _ => rfl) (fun _ _ _ _ _ _ _ => pa_cons (pv 8) (pa_cons (pv 7) pa_nil)) (fun _ => rfl) (fun _ => rfl)))
        (pss_cons (ps_if (pt_not (pt_val (pclG CA gs hr1 (pa_cons (pv 5) (pa_cons (pv 3) pa_nil))))) (pss_one (ps_ret pe_bl)) pss_nil)
        (pss_one (ps_if (pt_cmpR op_eq (pe_ix ix_tup (pv 5) pe_int (fun _ _ => rfl)) pe_str (nomark _)) (pss_one (ps_expr (pe_bm PySem.F.plainAttrs_list PySem.F.slot_list_append PySem.F.type_list_append mt_append (pe_ix ix_tup (pv 5) pe_int (fun _ _ => rfl)) (pa_cons pe_non pa_nil)))) pss_nil)))))
      (pss_one (ps_if (pt_cmpR op_ne (pe_ix ix_tup (pv 3) pe_int (fun _ _ => rfl)) pe_str (nomark _))
        (pss_cons (ps_set (i := 6) scLaw.nd rfl (Or.inr rfl) (pe_lc (own := [("person", 9)]) (g := gName 9) (tt := tYes) (te := tSome K) rfl scLaw.nd (pi_tup (pv 7)) (blkOk_by (N := NL) (sc := defScope sLaw) (by decide +kernel)) (fun _ _ _ _ _ => pg_name (i := 9) scLaw.nd rfl (Or.inl rfl)) (fun _ _ _ _ _ => pts_nil) (fun _ _ _ _ _ => pcl CS hr2 (pa_cons (pv 1) (pa_cons (pe_lst (pa_cons pe_int (pa_cons pe_int (pa_cons pe_int (pa_cons pe_int pa_nil))))) pa_nil)))))
        (pss_cons (ps_if (pt_not (pt_val (pclG CA gs hr1 (pa_cons (pe_heard R FR gR bR XB TB rfl rfl hr (lamS_by (show lamSB (defScope sLaw) _ = true by decide +kernel)) rfl (fun _ _ _ _ _ => rfl) rfl (fun _ _ _ _ _ _ _ => rfl) (fun _ _ _ _ _ _ _ => pa_cons (pv 8) (pa_cons (pv 7) pa_nil)) (fun _ => rfl) (fun _ => rfl)) (pa_cons (pv 3) pa_nil))))) (pss_one (ps_ret pe_bl)) pss_nil)
        (pss_one (ps_if (pt_not (pt_val (pclG CA gs hr1 (pa_cons (pe_heard R FR gR bR XI TB rfl rfl hr (lamS_by (show lamSB (defScope sLaw) _ = true by decide +kernel)) rfl (fun _ _ _ _ _ => rfl) rfl (fun _ _ _ _ _ _ _ => rfl) (fun _ _ _ _ _ _ _ => pa_cons (pv 8) (pa_cons (pv 7) (pa_cons (pv 6) pa_nil))) (fun _ => rfl) (fun _ => rfl)) (pa_cons (pv 3) pa_nil))))) (pss_one (ps_ret pe_bl)) pss_nil)))) pss_nil))))))))
    (pss_one (ps_ret pe_bl))), ?_⟩
  refine sset_of ⟨_, rfl, a, ns, rfl, hS, hl, fun b l H1 s1 bag1 => ?_⟩
  have T1 : Tabs [(P0, lamQ)] H1 := fun p hp => by
    rw [List.mem_singleton.mp hp]
    exact TabS.nil (s1 _ _ hP)
  have mb : b ∈ [b] := List.mem_cons_self
  refine sfor ⟨5, rfl, by decide, by decide, for_range (lo := 0) (n := (5 : Int).toNat) (fun i σ H' => ∃ (u2 u3 u4 u5 u6 u7 u8 : Option V), σ = [some (.ref a), some (.ref b), u2, u3, u4, u5, u6, u7, u8, none] ∧ Bag b l H' ∧ Tabs [(P0, lamQ)] H')
    ⟨none, none, none, none, none, none, none, rfl, bag1, T1⟩ ?_ ?_⟩
  · rintro i σ H2 hi ⟨u2, u3, u4, u5, u6, u7, u8, rfl, bag2, T2⟩
    have cb2 := bag2.cb
    refine gname_of ?_
    dsimp only [List.set]
    refine sset_of ⟨_, rfl, cons_of (c_of (cons_of ?_))⟩
    refine evb_call (K := K) (M := [b]) rfl (evds_cons (evd_lst cb2.kn (evds_cons (evd_lst cb2.kn (evds_cons evd_bl evds_nil) lt1) (evds_cons (evd_lst cb2.kn (evds_cons evd_bl evds_nil) lt1) (evds_cons (evd_lst cb2.kn (evds_cons evd_bl (evds_cons evd_bl (evds_cons evd_bl (evds_cons evd_bl evds_nil)))) lt4) evds_nil))) lt3) evds_nil) fun vs H3 s3 h3 => ?_
    obtain ⟨v3, rfl, h3'⟩ := Dms.one_at h3
    have f3 : Fr b l H2 H3 := Fr.sub bag2 s3
    refine ⟨[b], b, l, v3, _, rfl, cb2.fr f3, .inl h3', by show 0 < 3; decide, by show 3 < 1000000; decide, fun y d H4 f4 hd hy => ?_⟩
    obtain ⟨bs, rfl, b0, b1⟩ : ∃ bs : List Bool, d = .list (bs.map PyData.bool) ∧ 0 < bs.length ∧ bs.length < 1000 := by
      simp only [List.mem_cons, List.not_mem_nil, or_false] at hd
      rcases hd with hd | hd | hd
      · exact ⟨[_], hd, by decide, by decide⟩
      · exact ⟨[_], hd, by decide, by decide⟩
      · exact ⟨[_, _, _, _], hd, by show 0 < 4; decide, by show 4 < 1000; decide⟩
    have f24 := f3.trans f4
    refine nil_of ⟨[b], b, l, 4, y, bs, rfl, cb2.fr f24, by decide, by decide, hy, b0, b1, fun vh0 h0 H5 f5 x0 hv0 => ?_⟩
    dsimp only [List.set]
    have f25 := f24.trans f5
    have cb5 := cb2.fr f25
    have hless : ∀ R : VK, (∀ (v' : V) (h' : Hou) (H' : Hp), Fr b l H5 H' → HQ h' → Dm K [b] H' v' (houD h') → R v' H') → tIf (tTest (tOp rEq (tCall spTake [] E0 (tCons (tVar 1) (tCons (tC (.int 4)) tNil))) (tC (.int 0)))) (tCall (spLess K) [] E0 (tCons (tVar 1) (tCons (tVar 8) tNil))) (tVar 8)
        ([some (.ref a), some (.ref b), some (.int ((0 : Int) + (i : Nat))), u3, u4, u5, u6, u7, some vh0, none] : L2.St) H5 R := fun R r => by
      refine ⟨_, rfl, b, l, 4, rfl, cb5.bag, by decide, by decide, fun j H6 f6 j0 j1 => ⟨rfl, _, rfl, ite2 (fun e => ?_) (fun e => ?_)⟩⟩
      · exact ⟨_, rfl, _, rfl, [b], b, l, vh0, h0, rfl, cb5.fr f6, Dm.f hv0 f6 mb, x0, fun y h' H7 f7 x' hy => r y h' H7 (f6.trans f7) x' hy⟩
      · exact ⟨_, rfl, r vh0 h0 H6 f6 x0 (Dm.f hv0 f6 mb)⟩
    refine sset_of (hless _ fun vh h H6 f6 x hv6 => ?_)
    dsimp only [List.set]
    have f26 := f25.trans f6
    have cb6 := cb2.fr f26
    refine sset_of ⟨_, rfl, _, rfl, [b], b, l, 8, vh, h, rfl, cb6, hv6, x, by decide, by decide, fun vc c H7 f7 c0 c8 clt hc7 => ?_⟩
    dsimp only [List.set]
    have okc : CrewOk h c := ⟨x, clt, c8⟩
    have f27 := f26.trans f7
    have cb7 := cb2.fr f27
    have hv7 := Dm.f hv6 f7 mb
    refine sset_of ⟨_, rfl, _, rfl, [b], h, c, cb7.kn, .cons hv7 (.cons hc7 .nil), okc, fun vd o H8 s8 io hd8 => ?_⟩
    dsimp only [List.set]
    have f28 := f27.trans (Fr.sub cb7.bag s8)
    have w8 : Wk b l [(P0, lamQ)] H2 H8 := Wk.fr bag2 T2 f28
    have hv8 := Dm.s hv7 s8
    have hc8 := Dm.s hc7 s8
    have hgood : Good (outD o) 10000 2 := good_out okc io fun l0 e k hk => by
      rw [e] at io
      have no : ∀ a k, a < c.length → ¬ KB.Cl (putB h c) c.length a k := by
        rcases crewR_ok (putB h c) c.length with ⟨p, e, _⟩ | ⟨_, no⟩
        · rw [io.2.2.1] at e
          cases e
        · exact no
      exact KB.most_small no io.2.2.2 c8 k hk
    obtain ⟨tag, dd, eo, et⟩ := outD_tup o
    rw [eo] at hd8 hgood
    refine sfor ⟨2, rfl, by decide, by decide, for_range (lo := 0) (n := (2 : Int).toNat) (fun i' σ H' => ∃ (u4 u5 : Option V), σ = [some (.ref a), some (.ref b), some (.int ((0 : Int) + (i : Nat))), some vd, u4, u5, u6, some vc, some vh, none] ∧ Wk b l [(P0, lamQ)] H8 H')
      ⟨u4, u5, rfl, Wk.refl w8.bag w8.tabs⟩ ?_ ?_⟩
    · rintro i' σ H9 hi' ⟨u4, u5, rfl, w9⟩
      refine gname_of ?_
      dsimp only [List.set]
      have hv9 := Dm.w hv8 w9
      have hc9 := Dm.w hc8 w9
      refine sset_of (heard_mb (K := K) (M := [b]) (h := h) (c := c) (o := o) w9.tabs (fun H' x' => evds_cons (evd_var (i := 8) rfl (xn_dp (xn_er x') _ _ hv9)) (evds_cons (evd_var (i := 7) rfl (xn_dp (xn_er x') _ _ hc9)) evds_nil)) (fun H' x' => (bag_xn w9.bag x').cb.kn) okc io fun t H10 x10 T10 ht hp => ?_)
      dsimp only [List.set]
      rw [eo] at ht
      have w910 : Wk b l [(P0, lamQ)] H9 H10 := Wk.xn w9.bag x10 T10
      have w10 := w9.trans w910
      have hd10 := Dm.w hd8 w10
      refine sifs (alike_if (K := K) (M := [b]) (evd_var (i := 5) rfl ht) (evd_var (i := 3) rfl hd10) hgood (by decide) (by decide) fun H11 s11 => ?_)
      unfold tNext
      dsimp only
      have c5 : EvB (tTest (tOp rEq (tOp (rIxT K) (tVar 5) (tC (.int 0))) (tC (.str "told")))) ([some (.ref a), some (.ref b), some (.int ((0 : Int) + (i : Nat))), some vd, some (.int ((0 : Int) + (i' : Nat))), some (.ref t), u6, some vc, some vh, none] : L2.St) H11 (decide (tag = "told")) :=
        evb_test (evd_eqS (evd_ixT (K := K) (M := [b]) (evd_var (i := 5) rfl (Dm.s ht s11)) (evd_int (i := 0)) (by decide) rfl) evd_str)
      refine ifs_of c5 fun H12 s12 => ?_
      have s112 := s11.trans s12
      have w912 := w910.trans (Wk.sub w910.bag w910.tabs s112)
      by_cases etg : tag = "told"
      · rw [decide_eq_true etg, if_pos rfl]
        obtain ⟨l0, el⟩ := et.mp etg
        obtain ⟨p, np, h10t, h10p⟩ := hp l0 el
        have h12t := s112 _ _ h10t
        have h12p := s112 _ _ h10p
        have l0l : l0.length ≤ 8 := by
          rw [el] at io
          rw [io.2.2.2.1]
          exact c8
        refine ⟨_, rfl, t, _, 1, .ref p, rfl, rfl, SqT.of h12t, rfl, .inl ⟨rfl, _, SqL.of h12p⟩, p, _, _, rfl, rfl, h12p, szl (by rw [intV_len]; omega), ?_⟩
        exact ⟨_, _, rfl, w9.trans (Wk.mut w9.bag w912 np h12p)⟩
      · rw [decide_eq_false etg, if_neg (by decide)]
        exact ⟨_, _, rfl, w9.trans w912⟩
    · rintro σ H9 ⟨u4, u5, rfl, w9⟩
      dsimp only
      have hd9 := Dm.w hd8 w9
      have c3 : EvB (tTest (tOp rNe (tOp (rIxT K) (tVar 3) (tC (.int 0))) (tC (.str "told")))) ([some (.ref a), some (.ref b), some (.int ((0 : Int) + (i : Nat))), some vd, u4, u5, u6, some vc, some vh, none] : L2.St) H9 (!decide (tag = "told")) :=
        evb_test (evd_neSS (evd_ixT (K := K) (M := [b]) (evd_var (i := 3) rfl hd9) (evd_int (i := 0)) (by decide) rfl) evd_str)
      refine ifs_of c3 fun H10 s10 => ?_
      have w10 := w9.trans (Wk.sub w9.bag w9.tabs s10)
      by_cases etg : tag = "told"
      · rw [decide_eq_true etg, if_neg (by decide)]
        exact ⟨_, _, _, _, _, _, _, rfl, w10.bag, w10.tabs⟩
      · rw [decide_eq_false etg, if_pos (by decide)]
        have no : ∀ l, o ≠ .told l := fun l e => etg (et.mpr ⟨l, e⟩)
        have cb10 := w10.bag.cb
        have hc10 := Dm.w hc8 w10
        refine sset_of (lcT_bag (K := K) (M := [b]) (b := b) (l := l) (fun _ => True) cb10 (evd_var (i := 7) rfl hc10) (by rw [intD_len]; omega) (by intro z; rfl) (fun Dl hD z Hx fx cx Qx qx => ?_) _ fun vn es H12 f12 _ _ hn12 => ?_)
        · refine evb_call (K := K) (M := Dl :: [b]) rfl (evds_cons (evd_lst cx.kn (evds_cons (evd_int (i := 1)) (evds_cons (evd_int (i := 1)) (evds_cons (evd_int (i := 0)) (evds_cons (evd_int (i := 2)) evds_nil)))) lt4) evds_nil) fun vs Hy sy hy => ?_
          obtain ⟨vy, rfl, hy'⟩ := Dms.one_at hy
          have fy : Fr b l Hx Hy := Fr.sub cx.bag sy
          exact ⟨Dl :: [b], b, l, vy, _, rfl, cx.fr fy, .inl hy', by show 0 < 4; decide, by show 4 < 1000000; decide, fun y d Hz fz _ hz => qx y d Hz (fy.trans fz) trivial hz⟩
        · dsimp only [List.set]
          have w12 := w10.trans (Wk.fr w10.bag w10.tabs f12)
          have hv12 := Dm.w hv8 w12
          have hc12 := Dm.w hc8 w12
          have hd12 := Dm.w hd8 w12
          refine sifs (heardAlike (K := K) (M := [b]) (T := [(P0, lamQ)]) (es := [.str tag, dd]) (fun Qx qx => heard_br (K := K) (M := [b]) (h := h) (c := c) (o := o) w12.tabs (fun H' x' => evds_cons (evd_var (i := 8) rfl (xn_dp (xn_er x') _ _ hv12)) (evds_cons (evd_var (i := 7) rfl (xn_dp (xn_er x') _ _ hc12)) evds_nil)) (fun H' x' => (bag_xn w12.bag x').cb.kn) okc io no fun t H' xx TT ht => qx t H' xx TT (by rw [← eo]; exact ht))
            (fun H' x' => evd_var (i := 3) rfl (xn_dp (xn_er x') _ _ hd12)) hgood (by decide) (by decide) fun H13 x13 T13 => ?_)
          unfold tNext
          dsimp only
          have w1213 : Wk b l [(P0, lamQ)] H12 H13 := Wk.xn w12.bag x13 T13
          have w13 := w12.trans w1213
          have hv13 := Dm.w hv8 w13
          have hc13 := Dm.w hc8 w13
          have hd13 := Dm.w hd8 w13
          have hn13 := Dm.w hn12 w1213
          refine heardAlike (K := K) (M := [b]) (T := [(P0, lamQ)]) (es := [.str tag, dd]) (fun Qx qx => heard_ip (K := K) (M := [b]) (h := h) (c := c) (o := o) (d := .list es) w13.tabs (fun H' x' => evds_cons (evd_var (i := 8) rfl (xn_dp (xn_er x') _ _ hv13)) (evds_cons (evd_var (i := 7) rfl (xn_dp (xn_er x') _ _ hc13)) (evds_cons (evd_var (i := 6) rfl (xn_dp (xn_er x') _ _ hn13)) evds_nil))) (fun H' x' => (bag_xn w13.bag x').cb.kn) okc io no fun t H' xx TT ht => qx t H' xx TT (by rw [← eo]; exact ht))
            (fun H' x' => evd_var (i := 3) rfl (xn_dp (xn_er x') _ _ hd13)) hgood (by decide) (by decide) fun H14 x14 T14 => ?_
          have w14 := w13.trans (Wk.xn w13.bag x14 T14)
          exact ⟨_, _, _, _, _, _, _, rfl, w14.bag, w14.tabs⟩
  · rintro σ H2 ⟨u2, u3, u4, u5, u6, u7, u8, rfl, bag2, T2⟩
    dsimp only
    exact ret_of (k H2)

end
end KZ

namespace KZ
open PySem PySem.Spec PyProof.Rows L2 LamX
/-! the law, called from outside: no repr is under way there, and one table of code objects is empty -/
theorem tell_script {P : Program} {w : World} {K : PySem.W.Frag} {t : Shared} {a : Addr} {us : List Value} {ns : List Int} (kin : K.In t.heap) (here : t.heap.get? a = some { cls := .type "list", data := .seq us.toArray })
    (iu : IntsAre us ns) (lu : ns.length ≤ sizeLine) : ∃ H : Hp, (∀ b u, H b = some u → b = a ∧ K.lookup b = none ∧ ∃ o, u = .frz o (.lst (ns.map V.int))) ∧ SqL K H a (ns.map V.int) ∧ ∀ G : Hp, (∀ b u, H b = some u → ObjOk P w G t.heap b u) := by
  have ru := vals_ints iu
  have len := iu.length
  cases e : K.lookup a with
  | some o =>
    have g := kin a o e
    rw [here] at g
    cases g
    exact ⟨fun _ => none, fun _ _ z => (nomatch z), .inr ⟨_, us.toArray, _, e, rfl, rfl, rfl, by rw [List.size_toArray, len]; exact lu, ru⟩, fun _ _ _ z => (nomatch z)⟩
  | none =>
    refine ⟨fun b => if b = a then some (.frz { cls := .type "list", data := .seq us.toArray } (.lst (ns.map V.int))) else none, fun b u z => ?_, .inl (.inr ⟨_, if_pos rfl⟩), fun G b u z => ?_⟩
    · by_cases y : b = a
      · dsimp only at z
        rw [if_pos y] at z
        exact ⟨y, by rw [y]; exact e, _, (Option.some.inj z).symm⟩
      · dsimp only at z
        rw [if_neg y] at z
        cases z
    · by_cases y : b = a
      · dsimp only at z
        rw [if_pos y] at z
        cases Option.some.inj z
        rw [y]
        exact ⟨here, by rw [List.length_map]; exact lu, us, _, ru, here⟩
      · dsimp only at z
        rw [if_neg y] at z
        cases z
theorem lawT {P : Program} {w : World} {K : PySem.W.Frag} {mg mb : Str → Option Value} {k : Nat} {fa a c p : Addr} {fd : FuncData} {sp : Sp} {t : Shared} {us : List Value} {ns : List Int}
    (kin : K.In t.heap) (nm : t.heap.Ns mainGlobals mg) (nb : t.heap.Ns builtinsNs mb) (eb : ∀ x : Str, x ≠ "__name__" → mb x = bootBuiltins x) (nl : t.heap.NoLimit) (ng : t.gens = #[])
    (tab : t.heap.get? p = some { cls := .none, data := .fields #[] }) (ntab : K.lookup p = none) (code : PySem.W.CodeHd t.heap c p)
    (mod : ∃ (bm : Addr) (ob : Obj), mg "__builtins__" = some (.ref bm) ∧ bm ≠ builtinsNs ∧ t.heap.get? bm = some ob ∧ ob.cls = .type "module" ∧ ob.dict = some builtinsNs ∧ ob.data = .plain)
    (here : t.heap.get? a = some { cls := .type "list", data := .seq us.toArray }) (iu : IntsAre us ns) (lu : ns.length ≤ sizeLine) (room : Room k callerA)
    (F : ∀ base : Heap, K.In base → base.Ns mainGlobals mg → TabB base mg c p → FnG P w K mg base k fa fd ["script"] sp) (bind : ∀ (s : Shared) (u : Value), BindsTo s fd ⟨[u], []⟩ [("script", u)])
    (prom : ∀ H : Hp, H p = some (.tbl #[]) → SqL K H a (ns.map V.int) → sp [.ref a] H (fun v _ => v = .bl true) fun _ _ _ => False) :
    codeAny (model P w) callerA (.call (.ref fa) ⟨[.ref a], []⟩) (fun r s' => r = .ok (.ret (.bool true)) ∧ OldK t.heap s'.heap ∧ s'.os = t.os ∧ AllBare s'.gens) t := by
  obtain ⟨H0, only0, seq0, good0⟩ := tell_script (P := P) (w := w) kin here iu lu
  have pa : p ≠ a := fun z => by
    rw [z, here] at tab
    cases (show Data.seq us.toArray _ = Data.fields #[] from congrArg Obj.data (Option.some.inj tab))
  have h0p : H0 p = none := by
    cases e : H0 p with
    | none => rfl
    | some u => exact absurd (only0 p u e).1 pa
  obtain ⟨H, hH⟩ : ∃ H : Hp, H = upd H0 p (.tbl #[]) := ⟨_, rfl⟩
  have hp : H p = some (.tbl #[]) := by
    rw [hH]
    exact upd_same
  have only : ∀ b u, H b = some u → (b = p ∧ u = .tbl #[]) ∨ (b = a ∧ K.lookup b = none ∧ ∃ o, u = .frz o (.lst (ns.map V.int))) := fun b u e => by
    by_cases z : b = p
    · rw [z, hp] at e
      exact .inl ⟨z, (Option.some.inj e).symm⟩
    · rw [hH, upd_ne z] at e
      exact .inr (only0 b u e)
  have seq : SqL K H a (ns.map V.int) := Sub.sqL (fun b o e => by
    rw [hH, upd_ne (ne_of_none e h0p)]
    exact e) seq0
  have good : HOk P w H t.heap := fun b u e => by
    by_cases z : b = p
    · rw [z, hp] at e
      cases Option.some.inj e
      rw [z]
      exact tab
    · rw [hH, upd_ne z] at e
      rw [hH]
      exact good0 _ b u e
  have free : ∀ {b : Addr} {o : Obj}, t.heap.get? b = some o → (∀ u, H b = some u → False) → (hidT t.heap H).get? b = some o := fun {b o} g no => hidT_get g (by
    cases y : H b with
    | none => rfl
    | some u => exact (no u y).elim)
  have other : ∀ {b : Addr} {o : Obj}, t.heap.get? b = some o → o.cls ≠ .none ∨ (∀ fs, o.data ≠ .fields fs) → o.cls ≠ .type "list" ∨ (∀ xs m, o.data ≠ .seq xs m) → ∀ u, H b = some u → False := fun {b o} g n1 n2 u y => by
    rcases only b u y with ⟨z, _⟩ | ⟨z, _⟩
    · rw [z, tab] at g
      cases Option.some.inj g
      rcases n1 with n1 | n1
      · exact n1 rfl
      · exact n1 _ rfl
    · rw [z, here] at g
      cases Option.some.inj g
      rcases n2 with n2 | n2
      · exact n2 rfl
      · exact n2 _ _ rfl
  have kin' : K.In (hidT t.heap H) := fun b o g => free (kin b o g) fun u y => by
    rcases only b u y with ⟨z, _⟩ | ⟨_, h2, _⟩
    · rw [z, ntab] at g
      cases g
    · rw [g] at h2
      cases h2
  have space : ∀ {b : Addr} {m : Str → Option Value}, t.heap.Ns b m → (hidT t.heap H).Ns b m := fun {b m} ⟨o, es, ep, g, d, r⟩ => ⟨o, es, ep, free g (other g (.inr fun fs z => by
    rw [d] at z
    cases z) (.inr fun xs m z => by
    rw [d] at z
    cases z)), d, r⟩
  have pg : mainGlobals ≠ p := fun z => by
    obtain ⟨o, es, ep, g, d, _⟩ := nm
    rw [z, tab] at g
    cases Option.some.inj g
    cases d
  have TB : TabB (hidT t.heap H) mg c p := by
    refine ⟨?_, ?_, pg⟩
    · obtain ⟨o, vs, file, tf, flags, tg, inF, text, tt, g, r1, r2, rest⟩ := code
      exact ⟨o, vs, file, tf, flags, tg, inF, text, tt, free g (other g (.inl fun z => by
        rw [r1] at z
        cases z) (.inl fun z => by
        rw [r1] at z
        injection z with z
        exact absurd z (by decide))), r1, r2, rest⟩
    · obtain ⟨bm, ob, b1, b2, g, b4, b5, b6⟩ := mod
      have q1 : bm ≠ mainGlobals := fun z => by
        obtain ⟨o, es, ep, g', d, _⟩ := nm
        rw [z, g'] at g
        cases Option.some.inj g
        rw [d] at b6
        cases b6
      have q2 : bm ≠ p := fun z => by
        rw [z, tab] at g
        cases Option.some.inj g
        cases b6
      exact ⟨bm, ob, b1, b2, q1, q2, free g (other g (.inr fun fs z => by
        rw [b6] at z
        cases z) (.inr fun xs m z => by
        rw [b6] at z
        cases z)), b4, b5, b6⟩
  obtain ⟨mc, l1, l2⟩ := nl
  have env : Env0 P w K mg (hidT t.heap H) callerA [] t H :=
    { frames := rfl, mod := ⟨kin', space nm, ⟨mb, space nb, eb⟩, ⟨mc, space l1, l2⟩⟩, bs := fun b o g => of_hidT g, bsz := Nat.le_of_eq (hidT_size _ _), funs := trivial, frf := fun b m => (nomatch (show b ∈ ([] : List Addr) from m)), hok := good, bare := .of_eq ng }
  refine codeAny_mono ((F _ kin' (space nm) TB).go callerA [] t H ⟨[.ref a], []⟩ [.ref a] [.ref a] _ _ rfl room env (bind t (.ref a)) (.cons rfl .nil) (prom H hp seq)) fun r s' z => ?_
  cases r with
  | error _ => exact False.elim z
  | ok fl =>
    cases fl with
    | next => exact False.elim z
    | brk => exact False.elim z
    | cont => exact False.elim z
    | ret u =>
      obtain ⟨v, H', z1, z2, un, good', rel, z3⟩ := z
      cases (show v = V.bl true from z3)
      cases (show u = Value.bool true from rel)
      obtain ⟨more, gm⟩ := un.tbls p #[] hp
      have gp : s'.heap.get? p = some { cls := .none, data := .fields (#[] ++ more) } := good' p _ gm
      have keep : ∀ b o, b ≠ p → t.heap.get? b = some o → s'.heap.get? b = some o := fun b o n g => by
        cases y : H b with
        | none => exact un.keep b o g y (fun m => nomatch (show b ∈ ([] : List Addr) from m)) (fun m => nomatch m)
        | some x =>
          rcases only b x y with ⟨z, _⟩ | ⟨_, _, ob, rfl⟩
          · exact absurd z n
          · have g1 := (good b _ y).1
            have g2 := (good' b _ (un.frzs b ob _ y)).1
            rw [g] at g1
            cases Option.some.inj g1
            exact g2
      refine ⟨rfl, ⟨fun b o g => ?_, fun b o g => ?_⟩, z1, z2⟩
      · by_cases n : b = p
        · rw [n] at g ⊢
          rw [tab] at g
          cases Option.some.inj g
          rw [Array.empty_append] at gp
          exact Or.inr (Or.inl ⟨(code.tab tab).isCodeTable, rfl, #[], more, rfl, by
            rw [Array.empty_append]
            exact gp⟩)
        · exact Or.inl (keep b o n g)
      · by_cases n : b = p
        · rw [n]
          exact ⟨_, gp⟩
        · exact ⟨o, keep b o n g⟩
/-- where the law's code object and its table stand -/
structure TabIs (K : PySem.W.Frag) (x : Str) (c p : Addr) : Prop where
  t : PySem.W.tabIn K x = some (c, p)
  n : K.lookup p = none
theorem tab_mk {K : PySem.W.Frag} {x : Str} {f c p : Addr} {oc oc2 : Value} {od od2 : Option Addr} {fd : FuncData} {vs : Array Value} {sl sl2 : Array (Option Value)} (a : PySem.W.nsIn K mainGlobals x = some (some (.ref f))) (l : K.lookup f = some ⟨oc, od, .func fd, sl⟩) (hc : fd.code = .ref c)
    (lc : K.lookup c = some ⟨oc2, od2, .fields vs, sl2⟩) (hv : (vs[11]? : Option Value) = some (.ref p)) : PySem.W.tabIn K x = some (c, p) := by
  unfold PySem.W.tabIn
  rw [a]
  dsimp only
  rw [l]
  dsimp only
  rw [hc]
  dsimp only
  rw [lc]
  dsimp only
  rw [hv]
theorem walkT {l : PySem.W.OpenLaw} {n k : Nat} {q : Program} {loose : List Str} {XP : (Str → Option Value) → Heap → Prop} {YP : World → Heap → Prop} {d : DefRec} {K : Params → PySem.W.Frag} {sp : PySem.W.Frag → Addr → Sp}
    (many : l.most = some n) (few : n ≤ sizeLine) (plain : d.params.defaults = []) (room : Room k callerA) (has : ∀ (w : World) (h : Heap), YP w h → (K w.params).In h) (rec : (recsOf q).find? (fun e => e.name == d.name) = some d)
    (F : ∀ (w : World) (mg : Str → Option Value) (fa : Addr) (h : Heap), (K w.params).In h → h.Ns mainGlobals mg → mg d.name = some (.ref fa) →
      ∃ (fd : FuncData) (c p : Addr), TabIs (K w.params) d.name c p ∧ (∀ (s : Shared) (u : Value), BindsTo s fd ⟨[u], []⟩ [("script", u)]) ∧ ∀ base : Heap, (K w.params).In base → base.Ns mainGlobals mg → TabB base mg c p → FnG l.prog w (K w.params) mg base k fa fd ["script"] (sp (K w.params) p))
    (prom : ∀ (K : PySem.W.Frag) (p : Addr) (H : Hp) (a : Addr) (ns : List Int), ns.length ≤ n → H p = some (.tbl #[]) → SqL K H a (ns.map V.int) → sp K p [.ref a] H (fun v _ => v = .bl true) fun _ _ _ => False) :
    PySem.W.WalkO q loose XP YP l.row.toRowW d [] (fun f vs => PySem.call f vs) := by
  refine Att.attach_call many plain fun w s0 t mg mb fa o pm cd doc a us ns G Y _ _ _ law here iu short bare => ?_
  have kin := has w _ Y
  obtain ⟨fd, c, p, tb, bind, F'⟩ := F w mg fa _ kin G.T.g law
  obtain ⟨code, tab⟩ := PySem.W.tab_of G.T kin rec tb.t
  exact lawT kin G.T.g G.T.b G.T.builtins G.T.nolimit bare tab tb.n code G.T.bmain here iu (Nat.le_trans short few) room F' bind fun H hp seq => prom _ p H a ns short hp seq
end KZ

namespace KZ
open PySem PySem.Spec PyProof.Rows L2 LamX
/-! where each def, each error stands in what the top has written -/
structure At (K : PySem.W.Frag) (x : Str) (st : Stmt) (f : Addr) (fd : FuncData) : Prop where
  a : PySem.W.nsIn K mainGlobals x = some (some (.ref f))
  fn : Fun K x x st f fd
theorem At.cal {P : Program} {w : World} {K : PySem.W.Frag} {h : Heap} {mg : Str → Option Value} {base : Heap} {x : Str} {st : Stmt} {f : Addr} {fd : FuncData} {k : Nat} {ps : List Str} {sp : Sp} (A : At K x st f fd) (X : K.In h) (G : h.Ns mainGlobals mg) (ok : FnOk P w K mg base CX0 k f fd ps sp) (b : Binds K fd ps []) :
    Cal P w K mg base x k ps sp f fd := ⟨ok, PySem.W.mg_of X G A.a, A.fn.kp, b⟩
/-- an own error with one field, as it stands -/
structure ErrF (K : PySem.W.Frag) (x f : Str) (C fI : Addr) : Prop where
  a : PySem.W.nsIn K mainGlobals x = some (some (.ref C))
  o : OexC K C
  i : PySem.W.findIn K (.ref C) "__init__" = some (some (.ref fI))
  t : PySem.W.typeIn K (.ref fI) = some (.type "function")
  no : PySem.W.findIn K (.ref C) f = some none
  ga : PySem.W.findIn K (.ref C) "__getattribute__" = some (some (.builtin "BaseException.__getattribute__"))
  gg : PySem.W.findIn K (.ref C) "__getattr__" = some none
  hd : PySem.W.hasDictIn K C = true
  ic : PySem.W.isClsIn K C = true
theorem ErrF.oer {K : PySem.W.Frag} {h : Heap} {mg : Str → Option Value} {x f : Str} {C fI : Addr} (A : ErrF K x f C fI) (X : K.In h) (G : h.Ns mainGlobals mg) : Oer K mg x f C fI := ⟨A.o, PySem.W.mg_of X G A.a, A.i, A.t, A.no, A.ga, A.gg, A.hd⟩
theorem err_mk {K : PySem.W.Frag} {x f : Str} {C fI : Addr} {nm q : Str} {N : Addr} {bs bm : List Value} {sn : List Str} {sub : List Value} {ab : Bool} {col : Option Bool} {dd : Option Addr} {k0 k1 k2 k3 k5 : Option Value}
    (a : PySem.W.nsIn K mainGlobals x = some (some (.ref C))) (l : K.lookup C = some (excClassObj nm q C N bs bm true sn sub ab col dd k0 k1 k2 k3 k5 "ValueError.__new__")) (re : PySem.HandSPX.refsVE bm = true) (sa : PySem.W.findIn K (.ref C) "__setattr__" = some (some (.builtin "object.__setattr__")))
    (eC : PySem.W.subIn K (.ref C) (.type "BaseException") = some true) (tC : PySem.W.typeIn K (.ref C) = some (.type "type")) (kC : PySem.W.keepIn K (.ref C) = true) (i : PySem.W.findIn K (.ref C) "__init__" = some (some (.ref fI))) (t : PySem.W.typeIn K (.ref fI) = some (.type "function"))
    (no : PySem.W.findIn K (.ref C) f = some none) (ga : PySem.W.findIn K (.ref C) "__getattribute__" = some (some (.builtin "BaseException.__getattribute__"))) (gg : PySem.W.findIn K (.ref C) "__getattr__" = some none) (hd : PySem.W.hasDictIn K C = true) (ic : PySem.W.isClsIn K C = true) : ErrF K x f C fI :=
  ⟨a, ⟨⟨nm, q, N, bs, bm, sn, sub, ab, col, dd, k0, k1, k2, k3, k5, l, re⟩, sa, eC, tC, kC⟩, i, t, no, ga, gg, hd, ic⟩
structure ErrZ (K : PySem.W.Frag) (x : Str) (C : Addr) : Prop where
  a : PySem.W.nsIn K mainGlobals x = some (some (.ref C))
  q : PySem.W.excIn K C [.type "ValueError", .type "Exception", .type "BaseException", .type "object"] "ValueError.__new__" = true
  kC : PySem.W.keepIn K (.ref C) = true
  exC : PySem.W.subIn K (.ref C) (.type "BaseException") = some true
  tyC : PySem.W.typeIn K (.ref C) = some (.type "type")
  ic : PySem.W.isClsIn K C = true
theorem ErrZ.oer {K : PySem.W.Frag} {h : Heap} {mg : Str → Option Value} {x : Str} {C : Addr} (A : ErrZ K x C) (X : K.In h) (G : h.Ns mainGlobals mg) : Oer0 K mg x C := ⟨PySem.W.mg_of X G A.a, A.q, A.kC, A.exC, A.tyC⟩
/-- what «except S» names -/
theorem exm_by {K : PySem.W.Frag} {C S : Addr} {b : Bool} (h1 : PySem.W.subIn K (.ref S) (.type "BaseException") = some true) (h2 : PySem.W.isClsIn K S = true) (h3 : PySem.W.typeIn K (.ref S) = some (.type "type")) (h4 : PySem.W.subIn K (.ref C) (.ref S) = some b) :
    PySem.W.exmOne K (.ref C) (.ref S) = some b := by
  have e1 : (PySem.W.subIn K (.ref S) (.type "BaseException") == some true) = true := by rw [h1] <;> rfl
  have e2 : ((PySem.W.clsIn K S).isSome && PySem.W.typeIn K (.ref S) == some (.type "type")) = true := by
    have h2' : (PySem.W.clsIn K S).isSome = true := h2
    rw [h2', h3] <;> rfl
  show (if (PySem.W.subIn K (.ref S) (.type "BaseException") == some true) = true then (if ((PySem.W.clsIn K S).isSome && PySem.W.typeIn K (.ref S) == some (.type "type")) = true then PySem.W.subIn K (.ref C) (.ref S) else none) else none) = some b
  rw [if_pos e1, if_pos e2]
  exact h4
/-- a method, by what the top tells of it -/
structure IniAt (K : PySem.W.Frag) (qual : Str) (st : Stmt) (f : Addr) (fd : FuncData) : Prop where
  fn : Fun K "__init__" qual st f fd
theorem ini_mk {K : PySem.W.Frag} {qual : Str} {st : Stmt} {f : Addr} {oc : Value} {od an : Option Addr} {osl : Array (Option Value)} {kV doc pm cdv ct : Value}
    (l : K.lookup f = some ⟨oc, od, .func (PySem.W.fnOf "__init__" qual (defArgs st) (defBody st) (defScope st) .none kV doc pm an cdv ct), osl⟩) (c : PySem.W.codeIn K cdv qual = true) (k : PySem.W.keepIn K (.ref f) = true) : ∃ fd, IniAt K qual st f fd :=
  ⟨_, ⟨fun_mk l c k⟩⟩
theorem At.calX {P : Program} {w : World} {K : PySem.W.Frag} {h : Heap} {mg : Str → Option Value} {base : Heap} {x : Str} {st : Stmt} {f : Addr} {fd : FuncData} {k : Nat} {ps : List Str} {sp : Sp} (A : At K x st f fd) (X : K.In h) (G : h.Ns mainGlobals mg) (ok : FnOk P w K mg base (L2.CX P w) k f fd ps sp) (b : Binds K fd ps []) : CalX P w K mg base x k ps sp f fd := ⟨ok, PySem.W.mg_of X G A.a, A.fn.kp, b⟩
structure Errs (K : PySem.W.Frag) (CF iF CG iG CN CT : Addr) : Prop where
  eF : ErrF K "Forgets" "kind" CF iF
  eG : ErrF K "GoesRound" "persons" CG iG
  eN : ErrZ K "NotMeek" CN
  eT : PySem.W.nsIn K mainGlobals "ThroughError" = some (some (.ref CT))
  mF : ∃ fd, IniAt K "Forgets.__init__" sIniF iF fd
  mG : ∃ fd, IniAt K "GoesRound.__init__" sIniG iG fd
  sNN : PySem.W.subIn K (.ref CN) (.ref CN) = some true
  sFN : PySem.W.subIn K (.ref CF) (.ref CN) = some false
  sFF : PySem.W.subIn K (.ref CF) (.ref CF) = some true
  sGN : PySem.W.subIn K (.ref CG) (.ref CN) = some false
  sGF : PySem.W.subIn K (.ref CG) (.ref CF) = some false
  sGG : PySem.W.subIn K (.ref CG) (.ref CG) = some true
structure Defs (K : PySem.W.Frag) : Prop where
  d0 : ∃ f fd, At K "word_at" sWatP f fd
  d1 : ∃ f fd, At K "puts_out" sPuts f fd
  d2 : ∃ f fd, At K "crew_round" sCrewR f fd
  d3 : ∃ f fd, At K "_sort_of" sSortOf f fd
  d4 : ∃ f fd, At K "_round_from" sRoundF f fd
  d5 : ∃ f fd, At K "places_of" sPof f fd
  d6 : ∃ f fd, At K "is_last" sIsLast f fd
  d7 : ∃ f fd, At K "is_meek" sMeek f fd
  d8 : ∃ f fd, At K "_masters_of" sMast f fd
  d9 : ∃ f fd, At K "_victims_last" sVict f fd
  d10 : ∃ f fd, At K "_ask_crew" sAsk f fd
  d11 : ∃ f fd, At K "most_begins" sMB f fd
  d12 : ∃ f fd, At K "busiest_run" sBR f fd
  d13 : ∃ f fd, At K "is_possible" sIP f fd
  d14 : ∃ f fd, At K "_law_bag" sBag f fd
  d15 : ∃ f fd, At K "_law_take" sTake f fd
  d16 : ∃ f fd, At K "_law_some" sSome f fd
  d17 : ∃ f fd, At K "_law_alike" sAlike f fd
  d18 : ∃ f fd, At K "_law_mixed" sMixed f fd
  d19 : ∃ f fd, At K "_law_named" sNamed f fd
  d20 : ∃ f fd, At K "_law_meek_couple" sCouple f fd
  d21 : ∃ f fd, At K "_law_meek_house" sMeekH f fd
  d22 : ∃ f fd, At K "_law_crew" sCrew f fd
  d23 : ∃ f fd, At K "_law_can_put" sCanPut f fd
  d24 : ∃ f fd, At K "_law_put" sPut f fd
  d25 : ∃ f fd, At K "_law_putters" sPutters f fd
  d26 : ∃ f fd, At K "_law_crew_order" sCO f fd
  d27 : ∃ f fd, At K "_law_most" sMost f fd
  d28 : ∃ f fd, At K "_law_is_meek" sLMeek f fd
  d29 : ∃ f fd, At K "_law_with_word" sWW f fd
  d30 : ∃ f fd, At K "_law_places" sLP f fd
  d31 : ∃ f fd, At K "_law_less_meek" sLess f fd
  d32 : ∃ f fd, At K "_law_heard" sHeard f fd
  d33 : ∃ f fd, At K "_law_due" sDue f fd
  d34 : ∃ f fd, At K "law" sLaw f fd
  er : ∃ CF iF CG iG CN CT, Errs K CF iF CG iG CN CT
  tb : ∃ c p, TabIs K "law" c p
structure Free (K : PySem.W.Frag) : Prop where
  int : PySem.W.nsIn K mainGlobals "int" = some none
  len : PySem.W.nsIn K mainGlobals "len" = some none
  abs : PySem.W.nsIn K mainGlobals "abs" = some none
  range : PySem.W.nsIn K mainGlobals "range" = some none
  tuple : PySem.W.nsIn K mainGlobals "tuple" = some none
  list : PySem.W.nsIn K mainGlobals "list" = some none
  dict : PySem.W.nsIn K mainGlobals "dict" = some none
  repr : PySem.W.nsIn K mainGlobals "repr" = some none
  enumerate : PySem.W.nsIn K mainGlobals "enumerate" = some none
  min : PySem.W.nsIn K mainGlobals "min" = some none
  all : PySem.W.nsIn K mainGlobals "all" = some none
  sum : PySem.W.nsIn K mainGlobals "sum" = some none
  sorted : PySem.W.nsIn K mainGlobals "sorted" = some none
theorem Free.txt {K : PySem.W.Frag} {h : Heap} {mg : Str → Option Value} (Z : Free K) (X : K.In h) (G : h.Ns mainGlobals mg) : Txt mg where
  int := PySem.W.mg_none_of X G Z.int
  len := PySem.W.mg_none_of X G Z.len
  abs := PySem.W.mg_none_of X G Z.abs
  range := PySem.W.mg_none_of X G Z.range
  tuple := PySem.W.mg_none_of X G Z.tuple
  list := PySem.W.mg_none_of X G Z.list
  dict := PySem.W.mg_none_of X G Z.dict
  repr := PySem.W.mg_none_of X G Z.repr
  enumerate := PySem.W.mg_none_of X G Z.enumerate
theorem all_mk {l : PySem.W.OpenLaw} {w : World} {K : PySem.W.Frag} {h : Heap} {mg : Str → Option Value} {fa : Addr} (X : K.In h) (G : h.Ns mainGlobals mg) (hfa : mg "law" = some (.ref fa)) (D : Defs K) (Z : Free K) :
    ∃ (fd : FuncData) (c p : Addr), TabIs K "law" c p ∧ (∀ (s : Shared) (v : Value), BindsTo s fd ⟨[v], []⟩ [("script", v)]) ∧ ∀ base : Heap, K.In base → base.Ns mainGlobals mg → TabB base mg c p → FnG l.prog w K mg base 10 fa fd ["script"] (spLaw K p) := by
  have T := Z.txt X G
  obtain ⟨CF, iF, CG, iG, CN, CT, E⟩ := D.er
  obtain ⟨c, p, tb⟩ := D.tb
  obtain ⟨dF, mF⟩ := E.mF
  obtain ⟨dG, mG⟩ := E.mG
  have bF := mF.fn.binds (ps := ["self", "kind"]) fun _ _ _ _ _ _ us hl => match us, hl with | [_, _], _ => rfl
  have bG := mG.fn.binds (ps := ["self", "persons"]) fun _ _ _ _ _ _ us hl => match us, hl with | [_, _], _ => rfl
  have z_min := PySem.W.mg_none_of X G Z.min
  have z_all := PySem.W.mg_none_of X G Z.all
  have z_sum := PySem.W.mg_none_of X G Z.sum
  have z_sorted := PySem.W.mg_none_of X G Z.sorted
  obtain ⟨f0, fd0, A0⟩ := D.d0
  obtain ⟨f1, fd1, A1⟩ := D.d1
  obtain ⟨f2, fd2, A2⟩ := D.d2
  obtain ⟨f3, fd3, A3⟩ := D.d3
  obtain ⟨f4, fd4, A4⟩ := D.d4
  obtain ⟨f5, fd5, A5⟩ := D.d5
  obtain ⟨f6, fd6, A6⟩ := D.d6
  obtain ⟨f7, fd7, A7⟩ := D.d7
  obtain ⟨f8, fd8, A8⟩ := D.d8
  obtain ⟨f9, fd9, A9⟩ := D.d9
  obtain ⟨f10, fd10, A10⟩ := D.d10
  obtain ⟨f11, fd11, A11⟩ := D.d11
  obtain ⟨f12, fd12, A12⟩ := D.d12
  obtain ⟨f13, fd13, A13⟩ := D.d13
  obtain ⟨f14, fd14, A14⟩ := D.d14
  obtain ⟨f15, fd15, A15⟩ := D.d15
  obtain ⟨f16, fd16, A16⟩ := D.d16
  obtain ⟨f17, fd17, A17⟩ := D.d17
  obtain ⟨f18, fd18, A18⟩ := D.d18
  obtain ⟨f19, fd19, A19⟩ := D.d19
  obtain ⟨f20, fd20, A20⟩ := D.d20
  obtain ⟨f21, fd21, A21⟩ := D.d21
  obtain ⟨f22, fd22, A22⟩ := D.d22
  obtain ⟨f23, fd23, A23⟩ := D.d23
  obtain ⟨f24, fd24, A24⟩ := D.d24
  obtain ⟨f25, fd25, A25⟩ := D.d25
  obtain ⟨f26, fd26, A26⟩ := D.d26
  obtain ⟨f27, fd27, A27⟩ := D.d27
  obtain ⟨f28, fd28, A28⟩ := D.d28
  obtain ⟨f29, fd29, A29⟩ := D.d29
  obtain ⟨f30, fd30, A30⟩ := D.d30
  obtain ⟨f31, fd31, A31⟩ := D.d31
  obtain ⟨f32, fd32, A32⟩ := D.d32
  obtain ⟨f33, fd33, A33⟩ := D.d33
  obtain ⟨f34, fd34, A34⟩ := D.d34
  have b0 := A0.fn.binds (ps := ["house", "place"]) fun _ _ _ _ _ _ us hl => match us, hl with | [_, _], _ => rfl
  have b1 := A1.fn.binds (ps := ["house", "crew", "one", "other"]) fun _ _ _ _ _ _ us hl => match us, hl with | [_, _, _, _], _ => rfl
  have b2 := A2.fn.binds (ps := ["house", "crew"]) fun _ _ _ _ _ _ us hl => match us, hl with | [_, _], _ => rfl
  have b3 := A3.fn.binds (ps := ["house", "crew", "one", "other"]) fun _ _ _ _ _ _ us hl => match us, hl with | [_, _, _, _], _ => rfl
  have b4 := A4.fn.binds (ps := ["house", "crew", "person"]) fun _ _ _ _ _ _ us hl => match us, hl with | [_, _, _], _ => rfl
  have b5 := A5.fn.binds (ps := ["house"]) fun _ _ _ _ _ _ us hl => match us, hl with | [_], _ => rfl
  have b6 := A6.fn.binds (ps := ["house", "kind"]) fun _ _ _ _ _ _ us hl => match us, hl with | [_, _], _ => rfl
  have b7 := A7.fn.binds (ps := ["house"]) fun _ _ _ _ _ _ us hl => match us, hl with | [_], _ => rfl
  have b8 := A8.fn.binds (ps := ["house", "crew", "person"]) fun _ _ _ _ _ _ us hl => match us, hl with | [_, _, _], _ => rfl
  have b9 := A9.fn.binds (ps := ["house", "crew"]) fun _ _ _ _ _ _ us hl => match us, hl with | [_, _], _ => rfl
  have b10 := A10.fn.binds (ps := ["house", "crew"]) fun _ _ _ _ _ _ us hl => match us, hl with | [_, _], _ => rfl
  have b11 := A11.fn.binds (ps := ["house", "crew"]) fun _ _ _ _ _ _ us hl => match us, hl with | [_, _], _ => rfl
  have b12 := A12.fn.binds (ps := ["house", "crew"]) fun _ _ _ _ _ _ us hl => match us, hl with | [_, _], _ => rfl
  have b13 := A13.fn.binds (ps := ["house", "crew", "counts"]) fun _ _ _ _ _ _ us hl => match us, hl with | [_, _, _], _ => rfl
  have b14 := A14.fn.binds (ps := ["script"]) fun _ _ _ _ _ _ us hl => match us, hl with | [_], _ => rfl
  have b15 := A15.fn.binds (ps := ["bag", "upto"]) fun _ _ _ _ _ _ us hl => match us, hl with | [_, _], _ => rfl
  have b16 := A16.fn.binds (ps := ["bag", "things"]) fun _ _ _ _ _ _ us hl => match us, hl with | [_, _], _ => rfl
  have b17 := A17.fn.binds (ps := ["found", "due"]) fun _ _ _ _ _ _ us hl => match us, hl with | [_, _], _ => rfl
  have b18 := A18.fn.binds (ps := ["bag", "things"]) fun _ _ _ _ _ _ us hl => match us, hl with | [_, _], _ => rfl
  have b19 := A19.fn.binds (ps := ["bag", "many"]) fun _ _ _ _ _ _ us hl => match us, hl with | [_, _], _ => rfl
  have b20 := A20.fn.binds (ps := ["bag", "style", "asker", "holder"]) fun _ _ _ _ _ _ us hl => match us, hl with | [_, _, _, _], _ => rfl
  have b21 := A21.fn.binds (ps := ["bag", "most", "keeps"]) fun _ _ _ _ _ _ us hl => match us, hl with | [_, _, _], _ => rfl
  have b22 := A22.fn.binds (ps := ["bag", "house", "most"]) fun _ _ _ _ _ _ us hl => match us, hl with | [_, _, _], _ => rfl
  have b23 := A23.fn.binds (ps := ["house", "crew", "one", "other"]) fun _ _ _ _ _ _ us hl => match us, hl with | [_, _, _, _], _ => rfl
  have b24 := A24.fn.binds (ps := ["judge", "sort", "asker", "holder", "couple"]) fun _ _ _ _ _ _ us hl => match us, hl with | [_, _, _, _, _], _ => rfl
  have b25 := A25.fn.binds (ps := ["house", "crew", "person"]) fun _ _ _ _ _ _ us hl => match us, hl with | [_, _, _], _ => rfl
  have b26 := A26.fn.binds (ps := ["house", "crew"]) fun _ _ _ _ _ _ us hl => match us, hl with | [_, _], _ => rfl
  have b27 := A27.fn.binds (ps := ["house", "crew"]) fun _ _ _ _ _ _ us hl => match us, hl with | [_, _], _ => rfl
  have b28 := A28.fn.binds (ps := ["house"]) fun _ _ _ _ _ _ us hl => match us, hl with | [_], _ => rfl
  have b29 := A29.fn.binds (ps := ["house", "place", "word"]) fun _ _ _ _ _ _ us hl => match us, hl with | [_, _, _], _ => rfl
  have b30 := A30.fn.binds (ps := ["house"]) fun _ _ _ _ _ _ us hl => match us, hl with | [_], _ => rfl
  have b31 := A31.fn.binds (ps := ["bag", "house"]) fun _ _ _ _ _ _ us hl => match us, hl with | [_, _], _ => rfl
  have b32 := A32.fn.binds (ps := ["act"]) fun _ _ _ _ _ _ us hl => match us, hl with | [_], _ => rfl
  have b33 := A33.fn.binds (ps := ["house", "crew"]) fun _ _ _ _ _ _ us hl => match us, hl with | [_, _], _ => rfl
  cases hfa.symm.trans (PySem.W.mg_of X G A34.a)
  have hcv : fd34.code = .ref c := by
    obtain ⟨oc, od, kV, doc, pm, an, cdv, ct, osl, e, lk, hcd⟩ := A34.fn.ex
    exact PySem.W.law_code X G tb.t hfa (X _ _ lk) rfl
  refine ⟨fd34, c, p, tb, fun s v => ?_, fun base _ _ TB => ?_⟩
  · obtain ⟨oc, od, kV, doc, pm, an, cdv, ct, osl, e, _⟩ := A34.fn.ex
    rw [e]
    exact .of_eq rfl
  have EF : Mer l.prog w K mg base "Forgets" "kind" CF iF := ⟨E.eF.oer X G, dF, ok_iniF mF.fn, bF⟩
  have EG : Mer l.prog w K mg base "GoesRound" "persons" CG iG := ⟨E.eG.oer X G, dG, ok_iniG mG.fn, bG⟩
  have EN := E.eN.oer X G
  have R : Refs K mg CN CF CG CT iF iG := {
    nm := EN, fo := E.eF.oer X G, gr := E.eG.oer X G, th := PySem.W.mg_of X G E.eT,
    n1 := exm_by E.eN.exC E.eN.ic E.eN.tyC E.sNN, f1 := exm_by E.eN.exC E.eN.ic E.eN.tyC E.sFN, f2 := exm_by E.eF.o.exC E.eF.ic E.eF.o.tyC E.sFF, g1 := exm_by E.eN.exC E.eN.ic E.eN.tyC E.sGN, g2 := exm_by E.eF.o.exC E.eF.ic E.eF.o.tyC E.sGF, g3 := exm_by E.eG.o.exC E.eG.ic E.eG.o.tyC E.sGG }
  have c1 := A15.cal X G (ok_take (P := l.prog) (w := w) (base := base) (mg := mg) A15.fn T) b15
  have c2 := A16.cal X G (ok_some (P := l.prog) (w := w) (base := base) (mg := mg) A16.fn T c1) b16
  have c3 := A18.cal X G (ok_mixed (P := l.prog) (w := w) (base := base) (mg := mg) A18.fn T c1) b18
  have c4 := A19.cal X G (ok_named (P := l.prog) (w := w) (base := base) (mg := mg) A19.fn c3) b19
  have c5 := A20.cal X G (ok_couple (P := l.prog) (w := w) (base := base) (mg := mg) A20.fn T c2) b20
  have c6 := A21.cal X G (ok_meekH (P := l.prog) (w := w) (base := base) (mg := mg) A21.fn T c1 c4 c2 c5) b21
  have c7 := A22.cal X G (ok_crew (P := l.prog) (w := w) (base := base) (mg := mg) A22.fn T c1) b22
  have c8 := A23.cal X G (ok_canPut (P := l.prog) (w := w) (base := base) (mg := mg) A23.fn T) b23
  have c9 := A14.cal X G (ok_bag (P := l.prog) (w := w) (base := base) (mg := mg) A14.fn T) b14
  have c10 := A24.cal X G (ok_put (P := l.prog) (w := w) (base := base) (mg := mg) A24.fn ) b24
  have c11 := A29.cal X G (ok_wW (P := l.prog) (w := w) (base := base) (mg := mg) A29.fn c10) b29
  have c12 := A30.cal X G (ok_lP (P := l.prog) (w := w) (base := base) (mg := mg) A30.fn T) b30
  have c13 := A31.cal X G (ok_less (P := l.prog) (w := w) (base := base) (mg := mg) A31.fn T c1 c11 c2 c12) b31
  have c14 := A25.cal X G (ok_putters (P := l.prog) (w := w) (base := base) (mg := mg) A25.fn T c8) b25
  have c15 := A26.cal X G (ok_cO (P := l.prog) (w := w) (base := base) (mg := mg) A26.fn T c14) b26
  have c16 := A27.cal X G (ok_most (P := l.prog) (w := w) (base := base) (mg := mg) A27.fn T z_sum c15 c14) b27
  have p1 := A0.cal X G (ok_watP (P := l.prog) (w := w) (base := base) (mg := mg) A0.fn ) b0
  have p2 := A3.cal X G (ok_sortOf (P := l.prog) (w := w) (base := base) (mg := mg) A3.fn T p1) b3
  have p3 := A1.cal X G (ok_puts (P := l.prog) (w := w) (base := base) (mg := mg) A1.fn p2) b1
  have p4 := A4.cal X G (ok_roundF (P := l.prog) (w := w) (base := base) (mg := mg) A4.fn T p3) b4
  have p5 := A2.cal X G (ok_crewR (P := l.prog) (w := w) (base := base) (mg := mg) A2.fn T z_min p4) b2
  have p6 := A5.cal X G (ok_pof (P := l.prog) (w := w) (base := base) (mg := mg) A5.fn T) b5
  have p7 := A6.cal X G (ok_isLast (P := l.prog) (w := w) (base := base) (mg := mg) A6.fn ) b6
  have p8 := A7.cal X G (ok_meek (P := l.prog) (w := w) (base := base) (mg := mg) A7.fn T z_all p6 p1 p7) b7
  have p9 := A8.cal X G (ok_mast (P := l.prog) (w := w) (base := base) (mg := mg) A8.fn T p3) b8
  have p10 := A9.cal X G (ok_vict (P := l.prog) (w := w) (base := base) (mg := mg) A9.fn T z_all p9) b9
  have x1 := A10.calX X G (ok_ask (P := l.prog) (w := w) (base := base) (mg := mg) A10.fn T z_min EN EF EG p8 p5) b10
  have x2 := A11.calX X G (ok_mb (P := l.prog) (w := w) (base := base) (mg := mg) A11.fn T z_sum x1 p10 p9) b11
  have x3 := A12.calX X G (ok_br (P := l.prog) (w := w) (base := base) (mg := mg) A12.fn x1) b12
  have x4 := A13.calX X G (ok_ip (P := l.prog) (w := w) (base := base) (mg := mg) A13.fn x1) b13
  have g1 : CalG l.prog w K mg base "_law_alike" 1 ["found", "due"] (spAlikeL K) f17 fd17 := ⟨ok_alikeL A17.fn T, PySem.W.mg_of X G A17.a, A17.fn.kp, b17⟩
  have g2 : CalG l.prog w K mg base "_law_is_meek" 1 ["house"] (spPure K rMeekQ) f28 fd28 := ⟨ok_lMeek A28.fn T, PySem.W.mg_of X G A28.a, A28.fn.kp, b28⟩
  have g3 : CalG l.prog w K mg base "_law_due" 6 ["house", "crew"] (spDue K) f33 fd33 := ⟨ok_due A33.fn T z_sorted g2 c16 p5, PySem.W.mg_of X G A33.a, A33.fn.kp, b33⟩
  exact ok_law A34.fn hcv T c9 c2 c6 c1 c13 c7 g3 g1 R A32.fn (PySem.W.mg_of X G A32.a) b32 x2 x3 x4 TB
/-- one def, by what the top tells of it -/
theorem at_mk {K : PySem.W.Frag} {x : Str} {st : Stmt} {f : Addr} {oc : Value} {od an : Option Addr} {osl : Array (Option Value)} {kV doc pm cdv ct : Value} (a : PySem.W.nsIn K mainGlobals x = some (some (.ref f)))
    (l : K.lookup f = some ⟨oc, od, .func (PySem.W.fnOf x x (defArgs st) (defBody st) (defScope st) .none kV doc pm an cdv ct), osl⟩) (c : PySem.W.codeIn K cdv x = true) (k : PySem.W.keepIn K (.ref f) = true) : ∃ f fd, At K x st f fd :=
  ⟨f, _, a, fun_mk l c k⟩
theorem tab_ex {K : PySem.W.Frag} {x : Str} {f c p : Addr} {oc oc2 : Value} {od od2 : Option Addr} {fd : FuncData} {vs : Array Value} {sl sl2 : Array (Option Value)} (a : PySem.W.nsIn K mainGlobals x = some (some (.ref f))) (l : K.lookup f = some ⟨oc, od, .func fd, sl⟩) (hc : fd.code = .ref c)
    (lc : K.lookup c = some ⟨oc2, od2, .fields vs, sl2⟩) (hv : (vs[11]? : Option Value) = some (.ref p)) (n : K.lookup p = none) : ∃ c p, TabIs K x c p := ⟨c, p, tab_mk a l hc lc hv, n⟩
theorem errs_mk {K : PySem.W.Frag} {CF iF CG iG CN CT : Addr} (eF : ErrF K "Forgets" "kind" CF iF) (eG : ErrF K "GoesRound" "persons" CG iG) (eN : ErrZ K "NotMeek" CN) (eT : PySem.W.nsIn K mainGlobals "ThroughError" = some (some (.ref CT))) (mF : ∃ fd, IniAt K "Forgets.__init__" sIniF iF fd) (mG : ∃ fd, IniAt K "GoesRound.__init__" sIniG iG fd) (sNN : PySem.W.subIn K (.ref CN) (.ref CN) = some true) (sFN : PySem.W.subIn K (.ref CF) (.ref CN) = some false) (sFF : PySem.W.subIn K (.ref CF) (.ref CF) = some true) (sGN : PySem.W.subIn K (.ref CG) (.ref CN) = some false) (sGF : PySem.W.subIn K (.ref CG) (.ref CF) = some false) (sGG : PySem.W.subIn K (.ref CG) (.ref CG) = some true) : ∃ CF iF CG iG CN CT, Errs K CF iF CG iG CN CT := ⟨CF, iF, CG, iG, CN, CT, ⟨eF, eG, eN, eT, mF, mG, sNN, sFN, sFF, sGN, sGF, sGG⟩⟩
theorem walk {l : PySem.W.OpenLaw} {q : Program} {loose : List Str} {XP : (Str → Option Value) → Heap → Prop} {YP : World → Heap → Prop} {d : DefRec} {K : Params → PySem.W.Frag} (many : l.most = some 63) (plain : d.params.defaults = []) (has : ∀ (w : World) (h : Heap), YP w h → (K w.params).In h)
    (rec : (recsOf q).find? (fun e => e.name == d.name) = some d)
    (F : ∀ (w : World) (mg : Str → Option Value) (fa : Addr) (h : Heap), (K w.params).In h → h.Ns mainGlobals mg → mg d.name = some (.ref fa) →
      ∃ (fd : FuncData) (c p : Addr), TabIs (K w.params) d.name c p ∧ (∀ (s : Shared) (u : Value), BindsTo s fd ⟨[u], []⟩ [("script", u)]) ∧ ∀ base : Heap, (K w.params).In base → base.Ns mainGlobals mg → TabB base mg c p → FnG l.prog w (K w.params) mg base 10 fa fd ["script"] (spLaw (K w.params) p)) :
    PySem.W.WalkO q loose XP YP l.row.toRowW d [] (fun f vs => PySem.call f vs) :=
  walkT (n := 63) (k := 10) (sp := spLaw) many (by decide) plain ⟨rfl, by decide, by decide⟩ has rec F fun K p H a ns few hp seq => ⟨a, ns, rfl, seq, few, hp, fun _ => rfl⟩
end KZ

open PySem PySem.W PyProof.Rows in
set_option maxRecDepth 100000 in
set_option maxHeartbeats 0 in
theorem PySem.Challenge.cw_comesthrough_k95_most_begins_holds : PySem.Challenge.rw_comesthrough_k95_most_begins.Holds := by
  w_on; o_law; k_head; (case hw => w_witness2)
  k_fill
  refine KZ.walk (l := PySem.Challenge.rw_comesthrough_k95_most_begins) rfl rfl (fun w h Y => PySem.W.km_in_of Y) rfl ?F
  case F =>
    intro w mg fa h KX G hmg
    refine' KZ.all_mk KX G hmg ⟨?d0, ?d1, ?d2, ?d3, ?d4, ?d5, ?d6, ?d7, ?d8, ?d9, ?d10, ?d11, ?d12, ?d13, ?d14, ?d15, ?d16, ?d17, ?d18, ?d19, ?d20, ?d21, ?d22, ?d23, ?d24, ?d25, ?d26, ?d27, ?d28, ?d29, ?d30, ?d31, ?d32, ?d33, ?d34, ?er, ?tb⟩ ⟨?z0, ?z1, ?z2, ?z3, ?z4, ?z5, ?z6, ?z7, ?z8, ?z9, ?z10, ?z11, ?z12⟩
    (case d0 => refine' KZ.at_mk ?a ?l ?c ?k; (case a => k_is); (case l => k_is); (case c => k_is); (case k => k_is))
    (case d1 => refine' KZ.at_mk ?a ?l ?c ?k; (case a => k_is); (case l => k_is); (case c => k_is); (case k => k_is))
    (case d2 => refine' KZ.at_mk ?a ?l ?c ?k; (case a => k_is); (case l => k_is); (case c => k_is); (case k => k_is))
    (case d3 => refine' KZ.at_mk ?a ?l ?c ?k; (case a => k_is); (case l => k_is); (case c => k_is); (case k => k_is))
    (case d4 => refine' KZ.at_mk ?a ?l ?c ?k; (case a => k_is); (case l => k_is); (case c => k_is); (case k => k_is))
    (case d5 => refine' KZ.at_mk ?a ?l ?c ?k; (case a => k_is); (case l => k_is); (case c => k_is); (case k => k_is))
    (case d6 => refine' KZ.at_mk ?a ?l ?c ?k; (case a => k_is); (case l => k_is); (case c => k_is); (case k => k_is))
    (case d7 => refine' KZ.at_mk ?a ?l ?c ?k; (case a => k_is); (case l => k_is); (case c => k_is); (case k => k_is))
    (case d8 => refine' KZ.at_mk ?a ?l ?c ?k; (case a => k_is); (case l => k_is); (case c => k_is); (case k => k_is))
    (case d9 => refine' KZ.at_mk ?a ?l ?c ?k; (case a => k_is); (case l => k_is); (case c => k_is); (case k => k_is))
    (case d10 => refine' KZ.at_mk ?a ?l ?c ?k; (case a => k_is); (case l => k_is); (case c => k_is); (case k => k_is))
    (case d11 => refine' KZ.at_mk ?a ?l ?c ?k; (case a => k_is); (case l => k_is); (case c => k_is); (case k => k_is))
    (case d12 => refine' KZ.at_mk ?a ?l ?c ?k; (case a => k_is); (case l => k_is); (case c => k_is); (case k => k_is))
    (case d13 => refine' KZ.at_mk ?a ?l ?c ?k; (case a => k_is); (case l => k_is); (case c => k_is); (case k => k_is))
    (case d14 => refine' KZ.at_mk ?a ?l ?c ?k; (case a => k_is); (case l => k_is); (case c => k_is); (case k => k_is))
    (case d15 => refine' KZ.at_mk ?a ?l ?c ?k; (case a => k_is); (case l => k_is); (case c => k_is); (case k => k_is))
    (case d16 => refine' KZ.at_mk ?a ?l ?c ?k; (case a => k_is); (case l => k_is); (case c => k_is); (case k => k_is))
    (case d17 => refine' KZ.at_mk ?a ?l ?c ?k; (case a => k_is); (case l => k_is); (case c => k_is); (case k => k_is))
    (case d18 => refine' KZ.at_mk ?a ?l ?c ?k; (case a => k_is); (case l => k_is); (case c => k_is); (case k => k_is))
    (case d19 => refine' KZ.at_mk ?a ?l ?c ?k; (case a => k_is); (case l => k_is); (case c => k_is); (case k => k_is))
    (case d20 => refine' KZ.at_mk ?a ?l ?c ?k; (case a => k_is); (case l => k_is); (case c => k_is); (case k => k_is))
    (case d21 => refine' KZ.at_mk ?a ?l ?c ?k; (case a => k_is); (case l => k_is); (case c => k_is); (case k => k_is))
    (case d22 => refine' KZ.at_mk ?a ?l ?c ?k; (case a => k_is); (case l => k_is); (case c => k_is); (case k => k_is))
    (case d23 => refine' KZ.at_mk ?a ?l ?c ?k; (case a => k_is); (case l => k_is); (case c => k_is); (case k => k_is))
    (case d24 => refine' KZ.at_mk ?a ?l ?c ?k; (case a => k_is); (case l => k_is); (case c => k_is); (case k => k_is))
    (case d25 => refine' KZ.at_mk ?a ?l ?c ?k; (case a => k_is); (case l => k_is); (case c => k_is); (case k => k_is))
    (case d26 => refine' KZ.at_mk ?a ?l ?c ?k; (case a => k_is); (case l => k_is); (case c => k_is); (case k => k_is))
    (case d27 => refine' KZ.at_mk ?a ?l ?c ?k; (case a => k_is); (case l => k_is); (case c => k_is); (case k => k_is))
    (case d28 => refine' KZ.at_mk ?a ?l ?c ?k; (case a => k_is); (case l => k_is); (case c => k_is); (case k => k_is))
    (case d29 => refine' KZ.at_mk ?a ?l ?c ?k; (case a => k_is); (case l => k_is); (case c => k_is); (case k => k_is))
    (case d30 => refine' KZ.at_mk ?a ?l ?c ?k; (case a => k_is); (case l => k_is); (case c => k_is); (case k => k_is))
    (case d31 => refine' KZ.at_mk ?a ?l ?c ?k; (case a => k_is); (case l => k_is); (case c => k_is); (case k => k_is))
    (case d32 => refine' KZ.at_mk ?a ?l ?c ?k; (case a => k_is); (case l => k_is); (case c => k_is); (case k => k_is))
    (case d33 => refine' KZ.at_mk ?a ?l ?c ?k; (case a => k_is); (case l => k_is); (case c => k_is); (case k => k_is))
    (case d34 => refine' KZ.at_mk ?a ?l ?c ?k; (case a => k_is); (case l => k_is); (case c => k_is); (case k => k_is))
    (case tb => refine' KZ.tab_ex ?tb_a ?tb_l ?tb_hc ?tb_lc ?tb_hv ?tb_n; (case tb_a => k_is); (case tb_l => k_is); (case tb_hc => rfl); (case tb_lc => k_is); (case tb_hv => rfl); (case tb_n => kernel_rfl))
    (case er =>
      refine' KZ.errs_mk (KZ.err_mk ?F_a ?F_l ?F_re ?F_sa ?F_eC ?F_tC ?F_kC ?F_i ?F_t ?F_no ?F_ga ?F_gg ?F_hd ?F_ic) (KZ.err_mk ?G_a ?G_l ?G_re ?G_sa ?G_eC ?G_tC ?G_kC ?G_i ?G_t ?G_no ?G_ga ?G_gg ?G_hd ?G_ic) ⟨?N_a, ?N_q, ?N_kC, ?N_exC, ?N_tyC, ?N_ic⟩ ?T_a (KZ.ini_mk ?F_l1 ?F_c1 ?F_k1) (KZ.ini_mk ?G_l1 ?G_c1 ?G_k1) ?s_NN ?s_FN ?s_FF ?s_GN ?s_GF ?s_GG
      (case F_a => k_is)
      (case F_l => k_is)
      (case F_re => rfl)
      (case F_sa => k_is)
      (case F_eC => k_is)
      (case F_tC => k_is)
      (case F_kC => k_is)
      (case F_i => k_is)
      (case F_t => k_is)
      (case F_no => k_is)
      (case F_ga => k_is)
      (case F_gg => k_is)
      (case F_hd => k_is)
      (case F_ic => k_is)
      (case G_a => k_is)
      (case G_l => k_is)
      (case G_re => rfl)
      (case G_sa => k_is)
      (case G_eC => k_is)
      (case G_tC => k_is)
      (case G_kC => k_is)
      (case G_i => k_is)
      (case G_t => k_is)
      (case G_no => k_is)
      (case G_ga => k_is)
      (case G_gg => k_is)
      (case G_hd => k_is)
      (case G_ic => k_is)
      (case N_a => k_is)
      (case N_q => kernel_rfl)
      (case N_kC => k_is)
      (case N_exC => k_is)
      (case N_tyC => k_is)
      (case N_ic => k_is)
      (case T_a => k_is)
      (case F_l1 => k_is)
      (case F_c1 => k_is)
      (case F_k1 => k_is)
      (case G_l1 => k_is)
      (case G_c1 => k_is)
      (case G_k1 => k_is)
      (case s_NN => first | k_is | rfl)
      (case s_FN => first | k_is | rfl)
      (case s_FF => first | k_is | rfl)
      (case s_GN => first | k_is | rfl)
      (case s_GF => first | k_is | rfl)
      (case s_GG => first | k_is | rfl))
    (case z0 => k_is)
    (case z1 => k_is)
    (case z2 => k_is)
    (case z3 => k_is)
    (case z4 => k_is)
    (case z5 => k_is)
    (case z6 => k_is)
    (case z7 => k_is)
    (case z8 => k_is)
    (case z9 => k_is)
    (case z10 => k_is)
    (case z11 => k_is)
    (case z12 => k_is)
#print axioms PySem.Challenge.cw_comesthrough_k95_most_begins_holds
