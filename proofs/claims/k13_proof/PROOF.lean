import PyProof.Rows.All
import Wide.All
import OpenK.AllK
import Wide.FinOn
import HandS.ForMost
import HandS.TupAny
import HandS.More
import HandS.Conv
import HandS.Comp
import HandS.Exc
import HandS.TryMany
import HandS.DictTup
import HandS.Evl
import HandS.Strs
import HandS.Flow
import HandS.IsInst
import HandS.WordsExc
import HandS.ExcInit
import HandS.ExcOwn
import HandS.Lambda
import HandS.EndTab
import PySem.Challenge.RW_comesthrough_k13_names_places_and_words
set_option Elab.async false
set_option linter.all false
set_option maxRecDepth 100000
set_option maxHeartbeats 8000000
namespace KZ
open PySem PySem.Spec PyProof.Rows L2
/-! a comprehension with as many clauses as one likes -/
/-- what a turn of clause k - 1 does behind its tests, and then c -/
def behind {α : Type} (elt : Expr) (gens : List Comprehension) (scope : Scope) (pos : Pos) (k : Nat) (acc : Value) (env : Env) (c : Sem α) : Sem α :=
  match gens[k]? with
  | some g => do
    let v ← eval g.iter env
    standAt g.iter.pos
    let v ← if g.is_async != 0 then foldedIterable g.iter v else foldedSetIterable g.iter env v
    let _ ← runOwn (.compStart (.ListComp elt gens scope pos) k (← holding [v] (if g.is_async != 0 then asyncIter v else pyIter v)) acc env) env
    c
  | none => do
    (do let _ ← call (.builtin "list.append") [acc, ← eval elt env])
    c
section
variable {elt tg iter : Expr} {ifs : List Expr} {gens : List Comprehension} {scope : Scope} {pos : Pos} {k : Nat} {it acc : Value} {env : Env}
theorem turnN (hk : gens[k]? = some ⟨tg, iter, ifs, 0⟩) (hn : ∀ c, gens[k + 1]? = some c → c.is_async = 0) : compTurn (.ListComp elt gens scope pos) k it acc env = (do
    standAt iter.pos
    match ← pyNext it with
    | none => pure (.done .next)
    | some x =>
      letOwnedTupleGo tg it x
      assign tg env x
      let mut yes := true
      for c in ifs do
        if yes then yes ← isTrue c env (eval c env)
      if yes then behind elt gens scope pos (k + 1) acc env (again (.compLoop (.ListComp elt gens scope pos) k it acc env))
      else again (.compLoop (.ListComp elt gens scope pos) k it acc env)) := by
  unfold compTurn behind
  dsimp only
  rw [hk]
  dsimp only
  cases e : gens[k + 1]? with
  | none => rfl
  | some c =>
    obtain ⟨t1, i1, f1, a1⟩ := c
    cases (show a1 = 0 from hn _ e)
    rfl
theorem behind_some {α : Type} {c : Sem α} (hk : gens[k]? = some ⟨tg, iter, ifs, 0⟩) : behind elt gens scope pos k acc env c = (do
    let v ← eval iter env
    standAt iter.pos
    let v ← foldedSetIterable iter env v
    let _ ← runOwn (.compStart (.ListComp elt gens scope pos) k (← holding [v] (pyIter v)) acc env) env
    c) := by
  unfold behind
  rw [hk]
  rfl
theorem behind_none {α : Type} {c : Sem α} (hk : gens[k]? = none) : behind elt gens scope pos k acc env c = (do
    (do let _ ← call (.builtin "list.append") [acc, ← eval elt env])
    c) := by
  unfold behind
  rw [hk]
end
section
variable {P : Program} {w : World} {A : Around} {R : Result → Shared → Prop} {s : Shared} {elt tg iter : Expr} {ifs : List Expr} {gens : List Comprehension} {scope : Scope} {pos : Pos} {k : Nat} {it acc : Value} {env : Env}
/-- the errors of a block's loop -/
abbrev LE (P : Program) (w : World) (A : Around) (env : Env) (R : Result → Shared → Prop) : Value → Shared → Prop := notedBy (model P w) A env fun e t => R (.error e) t
theorem loopN (hk : gens[k]? = some ⟨tg, iter, ifs, 0⟩) (hn : ∀ c, gens[k + 1]? = some c → c.is_async = 0) (J : Nat → Shared → Prop)
    (turn : ∀ n t, J n t → wpAny (model P w) A (pyNext it) (fun r t1 => match r with
      | none => R (.ok .next) t1
      | some x => wpAny (model P w) A (letOwnedTupleGo tg it x) (fun _ t2 => wpAny (model P w) A (assign tg env x) (fun _ t3 =>
          wpAny (model P w) A (forIn ifs true fun c r => if r = true then do let ok ← isTrue c env (eval c env); pure (ForInStep.yield ok) else pure (ForInStep.yield r))
            (fun yes t4 => if yes = true then (∀ (c : Sem Fin) (Q : Fin → Shared → Prop), (∀ t5, (∃ m, m < n ∧ J m t5) → wpAny (model P w) (A.under (.compLoop (.ListComp elt gens scope pos) k it acc env)) c Q (LE P w A env R) t5) → wpAny (model P w) (A.under (.compLoop (.ListComp elt gens scope pos) k it acc env)) (behind elt gens scope pos (k + 1) acc env c) Q (LE P w A env R) t4) else ∃ m, m < n ∧ J m t4) (LE P w A env R) t3) (LE P w A env R) t2) (LE P w A env R) t1)
      (LE P w A env R) t)
    (n : Nat) (h : J n s) : codeAny (model P w) A (.compLoop (.ListComp elt gens scope pos) k it acc env) R s := by
  refine codeAny_loop rfl J (fun n t hJ => ?_) n h
  show wpAny _ A ((compTurn (.ListComp elt gens scope pos) k it acc env).onRaise (fun x => do noteFrame x env; theTreesLotGoes x)) _ _ t
  refine wpAny_noted ?_
  rw [turnN hk hn]
  refine wpAny_bind (wpAny_standAt (wpAny_bind (wpAny_mono (turn n t hJ) (fun r t1 h1 => ?_) fun _ _ z => z)))
  match r with
  | none => exact wpAny_pure h1
  | some x =>
    refine wpAny_bind (wpAny_mono h1 (fun _ t2 h2 => ?_) fun _ _ z => z)
    refine wpAny_bind (wpAny_mono h2 (fun _ t3 h3 => ?_) fun _ _ z => z)
    refine wpAny_bind (wpAny_mono h3 (fun yes t4 h4 => ?_) fun _ _ z => z)
    match yes with
    | false => exact wpAny_pure ⟨rfl, h4⟩
    | true => exact h4 _ _ fun t5 h5 => wpAny_pure ⟨rfl, h5⟩
theorem startN (hk : gens[k]? = some ⟨tg, iter, ifs, 0⟩) (h0 : codeAny (model P w) A (.compLoop (.ListComp elt gens scope pos) k it acc env) R s)
    (h : wpAny (model P w) A (pyIter it) (fun it' t => codeAny (model P w) A (.compLoop (.ListComp elt gens scope pos) k it' acc env) R t) (LE P w A env R) s) :
    codeAny (model P w) A (.compStart (.ListComp elt gens scope pos) k it acc env) R s := by
  refine codeAny_of_tree ?_
  show wpAny _ _ ((compStart (.ListComp elt gens scope pos) k it acc env).onRaise (fun x => do noteFrame x env; standAt theWindowsPlace)) _ _ s
  refine wpAny_notedAt ?_
  unfold compStart
  have e : (clausesOf (.ListComp elt gens scope pos))[k]? = some ⟨tg, iter, ifs, 0⟩ := hk
  rw [e]
  show wpAny _ _ (ask >>= _) _ _ s
  refine wpAny_bind (wpAny_askSetting (wpAny_ite ?_))
  split
  · first
      | exact wpAny_bind (wpAny_pure (wpAny_pure ⟨rfl, h0⟩))
      | exact wpAny_pure ⟨rfl, h0⟩
  · refine wpAny_bind (wpAny_rule ?_)
    show wpAny _ _ (standAt iter.pos >>= _) _ _ s
    exact wpAny_bind (wpAny_standAt (wpAny_bind (wpAny_mono h (fun it' t z => wpAny_pure ⟨rfl, z⟩) fun _ _ z => z)))
end
abbrev TIn := L2.St → Hp → (Hp → Prop) → Prop
/-- what stands behind the tests of clause k - 1, in a block's context -/
structure PIn (Y : Cx) (elt : Expr) (gens : List Comprehension) (scope : Scope) (pos : Pos) (k : Nat) (D : Addr) (vs : List Nat) (t : TIn) : Prop where
  go : ∀ (pins : List (Addr × Obj)) (s : Shared) (σ : L2.St) (H : Hp) (Nx : Hp → Prop) (α : Type) (c : Sem α) (Q : α → Shared → Prop) (E : Value → Shared → Prop), L2.Inv Y pins σ H s → t σ H Nx →
    (∀ σ' H' s', L2.Inv Y pins σ' H' s' → σ.length = σ'.length → (∀ (j : Nat) v, (wipe σ vs)[j]? = some (some v) → σ'[j]? = some (some v)) → Nx H' → wpAny (model Y.prog Y.w) Y.A c Q E s') →
    wpAny (model Y.prog Y.w) Y.A (behind elt gens scope pos k (.ref D) Y.env c) Q E s
def tLeaf (te : TE) (D : Addr) : TIn := fun σ H Nx => te σ H fun y H1 => ∃ acc, H1 D = some (.lst acc) ∧ acc.length < sizeLine ∧ Nx (upd H1 D (.lst (acc ++ [y])))
/-- the turns over what has come -/
def tRun (J : It) (g : TG) (tt : TT) (t : TIn) (vs : List Nat) : TIn := fun σ H1 Nx => ∃ W : Nat → Nat → Hp → Prop, (∃ m, W 0 m H1) ∧ ∀ i m H2, W i m H2 →
  (J.stop i H2 ∧ Nx H2) ∨ (J.go i H2 ∧ ∃ N1 : Hp → Prop, (∀ H', N1 H' → ∃ m', m' < m ∧ W (i + 1) m' H') ∧ ∀ x H3, J.yld i H2 x H3 → g x (wipe σ vs) H3 fun σ2 H4 => wipe σ2 vs = wipe σ vs ∧ tt σ2 H4 fun b H5 => if b = true then t σ2 H5 N1 else N1 H5)
def tCl (wi : TI) (g : TG) (tt : TT) (t : TIn) (vs : List Nat) : TIn := fun σ H Nx => wi σ H fun J H1 => tRun J g tt t vs σ H1 Nx
section
variable {Y : Cx} {elt tg iter : Expr} {ifs : List Expr} {gens : List Comprehension} {scope : Scope} {pos : Pos} {k : Nat} {D : Addr} {te : TE} {wi : TI} {g : TG} {tt : TT} {t : TIn} {vs vs' : List Nat}
theorem no_xe {α : Type} {m : Sem α} {Q : α → Shared → Prop} {s : Shared} (hx : ∀ e t, Y.xe e t → False) (h : wpAny (model Y.prog Y.w) Y.A m Q Y.xe s) : wpAny (model Y.prog Y.w) Y.A m Q (fun _ _ => False) s := wpAny_mono h (fun _ _ q => q) hx
theorem pin_leaf (hx : ∀ e t, Y.xe e t → False) (hk : gens[k]? = none) (he : PE Y elt te) : PIn Y elt gens scope pos k D [] (tLeaf te D) := by
  refine ⟨fun pins s σ H Nx α c Q E I h q => ?_⟩
  rw [behind_none hk]
  refine wpAny_bind (wpAny_bind (thnF (no_xe hx (he.run pins s σ H _ I h)) fun z s1 ⟨y, H1, I1, r1, acc, hD, hz, nx⟩ => ?_))
  refine wpAny_bind (app_ok (X := Y) I1 hD hz r1 fun s2 I2 => wpAny_pure ?_)
  exact q σ _ s2 I2 rfl (fun j v e => (wipe_some e).1) nx
theorem loop_run {pins : List (Addr × Obj)} {s2 : Shared} {σ : L2.St} {H2 : Hp} {Nx : Hp → Prop} {it : Addr} {fp : List Addr} {tn : Nat → Heap → Prop} {J : It} (hx : ∀ e t, Y.xe e t → False) (hc : Y.calm = true) (hk : gens[k]? = some ⟨tg, iter, ifs, 0⟩) (hn : ∀ c, gens[k + 1]? = some c → c.is_async = 0)
    (hg : PG Y tg g) (ht : PTs Y ifs tt) (hb : PIn Y elt gens scope pos (k + 1) D vs' t) (sub : ∀ i ∈ vs', i ∈ vs) (I2 : L2.Inv Y pins (wipe σ vs) H2 s2) (T : Turn Y.prog Y.w Y.K tg J fp it tn) (st2 : tn 0 s2.heap) (f2 : ∀ b ∈ fp, FpOk Y pins H2 b) (h : tRun J g tt t vs σ H2 Nx) :
    codeAny (model Y.prog Y.w) Y.A (.compLoop (.ListComp elt gens scope pos) k (.ref it) (.ref D) Y.env)
      (fun r s' => match r with
        | .ok f => f = .next ∧ ∃ H', L2.Inv Y pins (wipe σ vs) H' s' ∧ Nx H'
        | .error _ => False) s2 := by
  obtain ⟨W, ⟨m0, w0⟩, turn⟩ := h
  have still : ∀ {H' : Hp}, (∀ b ∈ fp, H' b = none) → ∀ b ∈ fp, FpOk Y pins H' b := fun hn b hb => ⟨hn b hb, (f2 b hb).2⟩
  refine loopN hk hn (fun n t => ∃ i H', L2.Inv Y pins (wipe σ vs) H' t ∧ tn i t.heap ∧ (∀ b ∈ fp, H' b = none) ∧ W i n H') ?_ m0 ⟨0, H2, I2, st2, fun b hb => (f2 b hb).1, w0⟩
  rintro n s3 ⟨i, H3, I3, st3, n3, w3⟩
  rcases turn i n H3 w3 with ⟨stop, nx⟩ | ⟨go, N1, hN, step⟩
  · refine thnF (T.done Y rfl rfl rfl hc i pins s3 (wipe σ vs) H3 (fun _ _ => False) I3 (still n3) st3 stop) fun r s4 ⟨hr, I4⟩ => ?_
    subst hr
    exact ⟨rfl, H3, I4, nx⟩
  · refine thnF (T.item Y rfl rfl rfl hc i pins s3 (wipe σ vs) H3 (fun _ _ => False) I3 (still n3) st3 go) fun r s4 ⟨u, hr, h4⟩ => ?_
    subst hr
    refine thnF h4 fun _ s5 ⟨y, H5, I5, r5, y5, st5, n5⟩ => ?_
    have I5' := I5.pinned (still n5) (T.obj _ _ st5)
    refine thnF (no_xe hx (hg.run _ s5 (wipe σ vs) H5 y u _ I5' r5 (step y H5 y5))) fun _ s6 ⟨σ6, H6, I6, hw6, q6⟩ => ?_
    refine thnF (no_xe hx (ht.run _ s6 σ6 H6 _ I6 q6)) fun b s7 ⟨H7, I7, q7⟩ => ?_
    have fin : ∀ {σ9 : L2.St} {s9 : Shared} {H9 : Hp}, L2.Inv Y (pins ++ pinsAt fp s5.heap) σ9 H9 s9 → (wipe σ vs).length = σ9.length → (∀ (j : Nat) v, (wipe σ vs)[j]? = some (some v) → σ9[j]? = some (some v)) → N1 H9 →
        ∃ m, m < n ∧ ∃ i H', L2.Inv Y pins (wipe σ vs) H' s9 ∧ tn i s9.heap ∧ (∀ b ∈ fp, H' b = none) ∧ W i m H' := fun {σ9 s9 H9} I9 l9 k9 nx => by
      obtain ⟨m', hm, w9⟩ := hN H9 nx
      have pin : ∀ b ∈ fp, ∀ o, s5.heap.get? b = some o → s9.heap.get? b = some o ∧ H9 b = none := fun b hb o e =>
        let z := I9.pin (b, o) (List.mem_append_right _ (List.mem_append_right _ (mem_pinsAt hb e)))
        ⟨z.1, z.2.1⟩
      refine ⟨m', hm, i + 1, H9, I9.unpinned.weak l9 k9, T.keep _ _ _ st5 fun b hb o e => (pin b hb o e).1, fun b hb => ?_, w9⟩
      obtain ⟨o, e, _⟩ := T.obj _ _ st5 b hb
      exact (pin b hb o e).2
    have l6 : (wipe σ vs).length = σ6.length := by rw [← hw6, wipe_length]
    have k6 : ∀ (j : Nat) v, (wipe σ vs)[j]? = some (some v) → σ6[j]? = some (some v) := fun j v e => by
      rw [← hw6] at e
      exact (wipe_some e).1
    match b with
    | false => exact fin I7 l6 k6 q7
    | true =>
      intro c1 Q1 next
      refine hb.go _ s7 σ6 H7 N1 _ c1 Q1 _ I7 q7 fun σ8 H8 s8 I8 l8 k8 nx => next s8 ?_
      refine fin I8 (l6.trans l8) (fun j v e => k8 j v ?_) nx
      rw [← hw6] at e
      obtain ⟨e1, e2⟩ := wipe_some e
      rw [wipe_out fun z => e2 (sub j z)]
      exact e1
theorem pin_clause (hx : ∀ e t, Y.xe e t → False) (hc : Y.calm = true) (hk : gens[k]? = some ⟨tg, iter, ifs, 0⟩) (hn : ∀ c, gens[k + 1]? = some c → c.is_async = 0) (hi : PI Y tg iter wi) (hg : PG Y tg g) (ht : PTs Y ifs tt) (hb : PIn Y elt gens scope pos (k + 1) D vs' t) (sub : ∀ i ∈ vs', i ∈ vs)
    (hs : ∀ x, foldedSetIterable iter Y.env x = pure x) : PIn Y elt gens scope pos k D vs (tCl wi g tt t vs) := by
  refine ⟨fun pins s σ H Nx α c Q E I h q => ?_⟩
  rw [behind_some hk]
  refine wpAny_bind (thnF (no_xe hx (hi.run pins s σ H _ I h)) fun x s1 hx1 => ?_)
  refine wpAny_bind (wpAny_standAt (wpAny_bind (wpAny_of_eq (hs x) ?_)))
  refine wpAny_bind (wpAny_holding (thnF (no_xe hx hx1) fun itv s2 h2 => ?_))
  obtain ⟨it, fp, tn, J, H2, rfl, I2, T, st2, f2, h⟩ := h2
  refine wpAny_bind (wpAny_runOwn ?_)
  rw [Around.mark_none]
  have loop := loop_run (σ := σ) hx hc hk hn hg ht hb sub (I2.weak (wipe_length _ _) (fun j v e => (wipe_some e).1)) T st2 f2 h
  refine codeAny_mono (startN hk loop (T.self Y.A 0 _ _ _ st2 loop)) fun r s' z => ?_
  match r with
  | .ok f =>
    obtain ⟨_, H', I', nx⟩ := z
    exact q (wipe σ vs) H' s' I' (wipe_length σ vs).symm (fun j v e => e) nx
  | .error e => exact z.elim
end
/-- [elt for .. for ..]: D the new list -/
def tLcN (wi : TI) (g : TG) (tt : TT) (t : Addr → TIn) (vs : List Nat) : TE := fun σ H Q => wi σ H fun J H1 => ∀ D, H1 D = none → tRun J g tt (t D) vs σ (upd H1 D (.lst [])) fun H' => Q (.ref D) H'
section
variable {X : Cx}
theorem lcN_core {pins : List (Addr × Obj)} {s : Shared} {σ : L2.St} {H : Hp} {Q : VK} {elt tg iter : Expr} {ifs : List Expr} {rest : List Comprehension} {scope : Scope} {own : List (Str × Nat)} {pos pos' : Pos} {wi : TI} {g : TG} {tt : TT} {t : Addr → TIn} {vs' : List Nat} {use : Option (Value → Sem Unit)}
    {Qf : Value → Shared → Prop} (hc : X.calm = true) (hN : X.N.Nodup) (I : L2.Inv X pins σ H s) (hi : PI X tg iter wi) (ok : BlkOk X.N X.env.scope scope own)
    (hg : ∀ (s : Shared) (H : Hp) (C : Addr) (cl : List (Str × Addr)) (fp : List Addr), PG (X.blk s H scope (compEnvC scope cl C X.env) fp) tg g)
    (ht : ∀ (s : Shared) (H : Hp) (C : Addr) (cl : List (Str × Addr)) (fp : List Addr), PTs (X.blk s H scope (compEnvC scope cl C X.env) fp) ifs tt)
    (hb : ∀ (s : Shared) (H : Hp) (C : Addr) (cl : List (Str × Addr)) (fp : List Addr) (D : Addr), PIn (X.blk s H scope (compEnvC scope cl C X.env) fp) elt (⟨tg, iter, ifs, 0⟩ :: rest) scope pos 1 D vs' (t D)) (sub : ∀ i ∈ vs', i ∈ own.map (·.2))
    (hn : ∀ c, rest[0]? = some c → c.is_async = 0) (hs : ∀ x, foldedSetIterable iter X.env x = pure x) (h : tLcN wi g tt t (own.map (·.2)) σ H Q)
    (last : ∀ D C s' m H', L2.Inv X pins σ H' s' → Q (.ref D) H' → s'.heap.Ns C m → FpOk X pins H' C → compPost (model X.prog X.w) X.A X.xe use Qf (.ref D) C (.ok .next) s') :
    wpAny (model X.prog X.w) X.A (comprehension (.ListComp elt (⟨tg, iter, ifs, 0⟩ :: rest) scope pos) scope X.env pos' (newList []) false (eval iter X.env) use) Qf X.xe s := by
  have free : ∀ y ∈ scope.names, y.2 = .free → ∃ c, X.env.cells.lookup y.1 = some c := fun y hy e => (ok.free y hy e).elim (fun z => I.ok.has _ (.inl z)) fun z => I.ok.has _ (.inr z)
  refine wpAny_comprehension_free (use := use) rfl hs (closure_ok free) ok.kind (fun y hy e => by rw [ok.uniq y hy, e]) (thn (hi.run pins s σ H _ I h) fun xv s1 hx1 => thn hx1 fun itv s2 h2 => ?_)
  obtain ⟨it, fp, tn, J, H2, rfl, I2, T, st2, f2, q⟩ := h2
  refine wpAny_newObj_type (newEnv_comp ?_) (by show 0 ≤ sizeLine; decide)
  have dn : H2 s2.heap.objs.size = none := I2.hok.fresh (Nat.le_refl _)
  have run := q _ dn
  obtain ⟨s3, e3⟩ : ∃ s3 : Shared, s3 = { s2 with heap := s2.heap.push { cls := .type "list", data := .seq ([] : List Value).toArray } } := ⟨_, rfl⟩
  rw [← e3]
  have heap3 : s3.heap = s2.heap.push { cls := .type "list", data := .seq ([] : List Value).toArray } := by rw [e3]
  have I3 : L2.Inv X pins σ (upd H2 s2.heap.objs.size (.lst [])) s3 := by
    rw [e3]
    exact I2.laid (t' := s2.toks) (fun b o e => Heap.get?_push_of_some _ e) (Nat.le_refl _) ⟨Nat.zero_le _, [], 0, .nil, Heap.get?_push_size _ rfl⟩
  have st3 : tn 0 s3.heap := T.keep _ _ _ st2 fun b _ o e => by
    rw [heap3]
    exact Heap.get?_push_of_some _ e
  have low : ∀ b ∈ fp, b ≠ s2.heap.objs.size ∧ b < s3.heap.objs.size := fun b hb => by
    obtain ⟨o, e, _⟩ := T.obj _ _ st2 b hb
    have lt := Heap.lt_size e
    exact ⟨Nat.ne_of_lt lt, by rw [heap3, Heap.size_push]; exact Nat.lt_succ_of_lt lt⟩
  generalize s2.heap.objs.size = D at run I3 heap3 dn low ⊢
  have f3 : ∀ b ∈ fp, FpOk X pins (upd H2 D (.lst [])) b ∧ b < s3.heap.objs.size := fun b hb => ⟨⟨by rw [upd_ne (low b hb).1]; exact (f2 b hb).1, (f2 b hb).2⟩, (low b hb).2⟩
  have I4 := block_start I3 ok hN f3
  have bg := hg s3 (upd H2 D (.lst [])) s3.heap.objs.size (cellsFrom (s3.heap.objs.size + 1) scope.names (cloFrom X.env.cells scope.names [])) fp
  have bt := ht s3 (upd H2 D (.lst [])) s3.heap.objs.size (cellsFrom (s3.heap.objs.size + 1) scope.names (cloFrom X.env.cells scope.names [])) fp
  have bb := hb s3 (upd H2 D (.lst [])) s3.heap.objs.size (cellsFrom (s3.heap.objs.size + 1) scope.names (cloFrom X.env.cells scope.names [])) fp D
  show codeAny (model X.prog X.w) X.A (.compStart _ 0 (.ref it) (.ref D) (compEnvC scope (cellsFrom (s3.heap.objs.size + 1) scope.names (cloFrom X.env.cells scope.names [])) s3.heap.objs.size X.env)) _ { s3 with heap := pushCells (s3.heap.push { cls := .type "dict", data := .dict #[] }) scope.names }
  have none3 : ∀ b ∈ fp, upd H2 D (.lst []) b = none := fun b hb => (f3 b hb).1.1
  obtain ⟨ce, ece⟩ : ∃ ce, ce = compEnvC scope (cellsFrom (s3.heap.objs.size + 1) scope.names (cloFrom X.env.cells scope.names [])) s3.heap.objs.size X.env := ⟨_, rfl⟩
  rw [← ece] at I4 bg bt bb ⊢
  have here : ce.locals = s3.heap.objs.size := by
    rw [ece]
    rfl
  obtain ⟨s4, e4⟩ : ∃ s4 : Shared, s4 = { s3 with heap := pushCells (s3.heap.push { cls := .type "dict", data := .dict #[] }) scope.names } := ⟨_, rfl⟩
  rw [← e4] at I4 ⊢
  have st4 : tn 0 s4.heap := T.keep _ _ _ st3 fun b _ o e => by
    rw [e4]
    exact pushCells_keeps _ _ _ _ (Heap.get?_push_of_some _ e)
  have in4 : ∀ b ∈ fp, FpOk (X.blk s3 (upd H2 D (.lst [])) scope ce fp) [] (upd H2 D (.lst [])) b := fun b hb => ⟨none3 b hb, (I4.ok.exf b hb).1, I4.ok.exfs b hb, .inl hb, fun x c e => (I4.ok.exf b hb).2 x c e, fun p hp => (nomatch (show p ∈ ([] : List (Addr × Obj)) ++ [] from hp))⟩
  have loop := loop_run (Y := X.blk s3 (upd H2 D (.lst [])) scope ce fp) (fun _ _ z => z) hc (rfl : ((⟨tg, iter, ifs, 0⟩ :: rest : List Comprehension))[0]? = some ⟨tg, iter, ifs, 0⟩) hn bg bt bb sub I4 T st4 in4 run
  have loop' : codeAny (model X.prog X.w) X.A (.compLoop (.ListComp elt (⟨tg, iter, ifs, 0⟩ :: rest) scope pos) 0 (.ref it) (.ref D) ce) (compPost (model X.prog X.w) X.A X.xe use Qf (.ref D) s3.heap.objs.size) s4 := by
    refine codeAny_mono loop fun r s' z => ?_
    match r with
    | .error e => exact z.elim
    | .ok f =>
      obtain ⟨rfl, H', I6, qq⟩ := z
      have I7 : L2.Inv X pins σ H' s' := I3.call' (ch := fp) I6.os I6.base I6.hok I6.bare fun b hb => by
        obtain ⟨_, z1, z2, z3, z4⟩ := (f3 b hb).1
        exact ⟨z3, z1, z4.1, z4.2⟩
      have gone : H' s3.heap.objs.size = none := by
        have z : H' ce.locals = none := I6.free
        rw [here] at z
        exact z
      obtain ⟨m, nm, _⟩ := I6.loc
      have nm : s'.heap.Ns ce.locals m := nm
      rw [here] at nm
      exact last D s3.heap.objs.size s' m H' I7 qq nm (I3.fpOk (Nat.le_refl _) gone)
  exact codeAny_compStart_list loop' (T.self X.A 0 _ _ _ st4 loop')
/-- as a value -/
theorem pe_lcN {elt tg iter : Expr} {ifs : List Expr} {rest : List Comprehension} {scope : Scope} {own : List (Str × Nat)} {pos : Pos} {wi : TI} {g : TG} {tt : TT} {t : Addr → TIn} {vs' : List Nat} (hc : X.calm = true) (hN : X.N.Nodup) (hi : PI X tg iter wi) (ok : BlkOk X.N X.env.scope scope own)
    (hg : ∀ (s : Shared) (H : Hp) (C : Addr) (cl : List (Str × Addr)) (fp : List Addr), PG (X.blk s H scope (compEnvC scope cl C X.env) fp) tg g)
    (ht : ∀ (s : Shared) (H : Hp) (C : Addr) (cl : List (Str × Addr)) (fp : List Addr), PTs (X.blk s H scope (compEnvC scope cl C X.env) fp) ifs tt)
    (hb : ∀ (s : Shared) (H : Hp) (C : Addr) (cl : List (Str × Addr)) (fp : List Addr) (D : Addr), PIn (X.blk s H scope (compEnvC scope cl C X.env) fp) elt (⟨tg, iter, ifs, 0⟩ :: rest) scope pos 1 D vs' (t D)) (sub : ∀ i ∈ vs', i ∈ own.map (·.2))
    (hn : ∀ c, rest[0]? = some c → c.is_async = 0) (hs : ∀ x, foldedSetIterable iter X.env x = pure x := by intro _; rfl) : PE X (.ListComp elt (⟨tg, iter, ifs, 0⟩ :: rest) scope pos) (tLcN wi g tt t (own.map (·.2))) := by
  refine ⟨fun pins s σ H Q I h => ?_⟩
  rw [eval_ListComp]
  refine lcN_core hc hN I hi ok hg ht hb sub hn hs h fun D C s' m H' I' q nm f => ⟨m, nm, fun h'' sb => ?_⟩
  obtain ⟨f0, f1, _, f3, f4, f5⟩ := f
  exact ⟨.ref D, H', I'.turned (t' := s'.toks) (fun b o ne e => (sb.2 b ne).trans e) f0 f1 f3 f4 f5, rfl, q⟩
end
end KZ

namespace KZ
open PySem PySem.Spec PyProof.Rows L2
/-! range(n) as a value, walked -/
def rRg1 : List V → Hp → VK → Prop := fun vs H Q => ∃ j : Int, vs = [.int j] ∧ ∀ p, H p = none → Q (.ref p) (upd H p (.rng 0 j))
theorem call_rg1 {X : Cx} : CallR X (.type "range") rRg1 := by
  intro pins s σ H vs us Q I r h
  obtain ⟨j, rfl, q⟩ := h
  obtain ⟨u1, rfl, rj⟩ := vals1 r
  obtain ⟨t, rfl⟩ := rj
  refine call_range_1 ⟨.ref s.heap.objs.size, upd H s.heap.objs.size (.rng 0 j), I.laid (t' := s.toks + 1 + 1) (fun b o e => Heap.get?_push_of_some _ e) (Nat.le_refl _) ?_, rfl, q _ (I.hok.fresh (Nat.le_refl _))⟩
  exact ⟨_, _, _, Heap.get?_push_size _ rfl⟩
def iRgV (tl : TE) : TI := fun σ H R => tl σ H fun x H1 => ∃ (a : Addr) (lo hi : Int), x = .ref a ∧ H1 a = some (.rng lo hi) ∧ (-(2 ^ 62) ≤ lo ∧ lo < 2 ^ 62 ∧ -(2 ^ 62) ≤ hi ∧ hi < 2 ^ 62) ∧ R (Itr lo (hi - lo).toNat) H1
theorem pi_rgV {X : Cx} {tg l : Expr} {tl : TE} (hl : PE X l tl) : PI X tg l (iRgV tl) := by
  refine ⟨fun pins s σ H R I h => ?_⟩
  refine thn (hl.run pins s σ H _ I h) fun v s1 ⟨x, H1, I1, r1, a, lo, hi, ex, ha, ⟨b1, b2, b3, b4⟩, q⟩ => ?_
  subst ex
  cases r1
  obtain ⟨t, u, w, hg⟩ := I1.hok a _ ha
  refine wpAny_pyIter_range (t := t) (u := u) (v := w) hg (small_one b1 b2 b3 b4) ?_
  have I2 : L2.Inv X pins σ H1 { s1 with heap := s1.heap.push { cls := .type "range_iterator", data := .fields #[rawInt lo, rawInt (Builtin.Range.rangeSize lo hi 1), rawInt 1] } } := I1.kept (t' := s1.toks) fun b o e => Heap.get?_push_of_some _ e
  refine ⟨s1.heap.objs.size, [s1.heap.objs.size], _, _, H1, rfl, I2, turn_range _ lo (hi - lo).toNat, ?_, fun b hb => ?_, q⟩
  · have e1 : lo + ((0 : Nat) : Int) * 1 = lo := by simp
    have e2 : (((hi - lo).toNat : Nat) : Int) - ((0 : Nat) : Int) = Builtin.Range.rangeSize lo hi 1 := by
      rw [rangeSize_one]
      split <;> omega
    show IsRangeIter _ _ (lo + ((0 : Nat) : Int) * 1) ((((hi - lo).toNat : Nat) : Int) - ((0 : Nat) : Int)) 1
    rw [e1, e2]
    exact Heap.get?_push_size _ rfl
  · rw [List.mem_singleton.mp hb]
    exact I1.fpOk (Nat.le_refl _) (I1.hok.fresh (Nat.le_refl _))
/-! the turns of a clause, by what is true ahead of each -/
theorem run_range {lo : Int} {n : Nat} {g : TG} {tt : TT} {t : TIn} {vs : List Nat} {σ : L2.St} {H : Hp} {Nx : Hp → Prop} (Pv : Nat → Hp → Prop) (h0 : Pv 0 H)
    (hs : ∀ i H, i < n → Pv i H → g (.int (lo + i)) (wipe σ vs) H fun σ2 H2 => wipe σ2 vs = wipe σ vs ∧ tt σ2 H2 fun b H3 => if b = true then t σ2 H3 (Pv (i + 1)) else Pv (i + 1) H3) (hd : ∀ H, Pv n H → Nx H) : tRun (Itr lo n) g tt t vs σ H Nx := by
  refine ⟨fun i m H => m = n - i ∧ i ≤ n ∧ Pv i H, ⟨n, by simp, Nat.zero_le _, h0⟩, ?_⟩
  rintro i m H2 ⟨rfl, hi, p⟩
  by_cases lt : i < n
  · refine Or.inr ⟨lt, Pv (i + 1), fun H' p' => ⟨n - (i + 1), by omega, rfl, lt, p'⟩, fun x H' y => ?_⟩
    obtain ⟨rfl, rfl⟩ := y
    exact hs i _ lt p
  · have e : i = n := by omega
    subst e
    exact Or.inl ⟨Nat.le_refl _, hd H2 p⟩
theorem run_tup {K : PySem.W.Frag} {a : Addr} {xs : List V} {g : TG} {tt : TT} {t : TIn} {vs : List Nat} {σ : L2.St} {H : Hp} {Nx : Hp → Prop} (Pv : Nat → Hp → Prop) (h0 : Pv 0 H) (hl : ∀ i H, i ≤ xs.length → Pv i H → SqT K H a xs)
    (hs : ∀ i x H, xs[i]? = some x → Pv i H → g x (wipe σ vs) H fun σ2 H2 => wipe σ2 vs = wipe σ vs ∧ tt σ2 H2 fun b H3 => if b = true then t σ2 H3 (Pv (i + 1)) else Pv (i + 1) H3) (hd : ∀ H, Pv xs.length H → Nx H) : tRun (Itt K a) g tt t vs σ H Nx := by
  refine ⟨fun i m H => m = xs.length - i ∧ i ≤ xs.length ∧ Pv i H, ⟨xs.length, by simp, Nat.zero_le _, h0⟩, ?_⟩
  rintro i m H2 ⟨rfl, hi, p⟩
  have sq := hl i H2 hi p
  by_cases lt : i < xs.length
  · refine Or.inr ⟨⟨xs, xs[i], sq, by simp [lt]⟩, Pv (i + 1), fun H' p' => ⟨xs.length - (i + 1), by omega, rfl, lt, p'⟩, fun x H' y => ?_⟩
    obtain ⟨rfl, y⟩ := y
    exact hs i x _ (y xs sq) p
  · have e : i = xs.length := by omega
    subst e
    exact Or.inl ⟨⟨xs, sq, Nat.le_refl _⟩, hd H2 p⟩
end KZ

namespace KZ
open PySem PySem.Spec PyProof.Rows L2
/-! several except clauses, some of them with a name -/
/-- a clause: the class, the slot of its name if it has one, its suite -/
structure Clause where
  c : Value
  slot : Option Nat
  ts : Addr → Value → Option Addr → TS
def unnamed (i : Nat) (D : Ends) : Ends := { nx := fun σ H => D.nx (σ.set i none) H, rt := D.rt, bk := fun σ H => D.bk (σ.set i none) H, ct := fun σ H => D.ct (σ.set i none) H }
def Clause.run (q : Clause) (a : Addr) (cls : Value) (d : Option Addr) (D : Ends) (σ : L2.St) (H : Hp) : Prop := match q.slot with
  | none => q.ts a cls d D σ H
  | some i => i < σ.length → q.ts a cls d (unnamed i D) (σ.set i (some (.ref a))) H
def wClauses (K : PySem.W.Frag) (Wout : WX) (D : Ends) : List Clause → WX
  | [] => Wout
  | q :: r => fun cls d σ H => ∃ b, PySem.W.exmOne K cls q.c = some b ∧ (b = true → ∀ a, H a = none → q.run a cls d D σ H) ∧ (b = false → wClauses K Wout D r cls d σ H)
inductive Clauses (X : Cx) : List ExceptHandler → List Clause → Prop
  | nil : Clauses X [] []
  | bare {x : Str} {c : Value} {ts : Addr → Value → Option Addr → TS} {b0 : Stmt} {bs : List Stmt} {np p : Pos} {hds : List ExceptHandler} {l : List Clause} (known : Names X x c)
      (suite : ∀ (a : Addr) (oe : Obj) (cls : Value) (d : Option Addr) (pn : List (Addr × Obj)), Zc cls d oe → (∃ vs, oe.data = .fields vs) → PSs (X.suite a ((a, oe) :: pn)) (b0 :: bs) (ts a cls d)) (r : Clauses X hds l) :
      Clauses X (.ExceptHandler (some (.Name x np)) none (b0 :: bs) p :: hds) (⟨c, none, ts⟩ :: l)
  | named {x n : Str} {i : Nat} {c : Value} {ts : Addr → Value → Option Addr → TS} {b0 : Stmt} {bs : List Stmt} {np p : Pos} {hds : List ExceptHandler} {l : List Clause} (known : Names X x c) (at_ : X.N[i]? = some n) (loc : X.env.kindOf n = some .local)
      (suite : ∀ (a : Addr) (oe : Obj) (cls : Value) (d : Option Addr) (pn : List (Addr × Obj)), Zc cls d oe → (∃ vs, oe.data = .fields vs) → PSs (X.suite a ((a, oe) :: pn)) (b0 :: bs) (ts a cls d)) (r : Clauses X hds l) :
      Clauses X (.ExceptHandler (some (.Name x np)) (some n) (b0 :: bs) p :: hds) (⟨c, some i, ts⟩ :: l)
section
variable {X : Cx} {body : List Stmt} {h0 : ExceptHandler} {hds : List ExceptHandler} {l : List Clause} {pos : Pos} {tb : WX → TS} {Wout : WX}
theorem ps_try_named (hs : X.stack = X.env :: X.outer) (hf : X.env.frame = some X.env.locals) (nd : X.N.Nodup) (tk : Takes X Wout)
    (hb : ∀ (W : WX) (pn : List (Addr × Obj)) (xe : Value → Shared → Prop), Takes (X.tr pn xe) W → PassesOwn (model X.prog X.w) X.A X.env xe → PSs (X.tr pn xe) body (tb W)) (hh : Clauses X (h0 :: hds) l) :
    PS X (.Try body (h0 :: hds) [] [] pos) (fun D σ H => tb (wClauses X.K Wout D l) D σ H) := by
  refine ⟨fun pins s σ H D I wish => ?_⟩
  have inn := I.ok
  have frames : X.A.frames = some (X.env :: X.outer) := by rw [inn.frames, hs]
  refine wpAny_Try_except ?_
  let look : Value → Shared → Prop := fun e t1 => wpAny (model X.prog X.w) X.A (noteFrame e X.env) (fun _ t2 => wpAny (model X.prog X.w) X.A (setFlight e none) (fun _ t3 => wpAny (model X.prog X.w) X.A (handleBy e X.env (h0 :: hds)) (SP X pins D) X.xe t3) X.xe t2) X.xe t1
  refine wpAny_mono ((hb (wClauses X.K Wout D l) (X.pn ++ pins) look (fun u t came => ?_) PassesOwn.looking).run [] s σ H D (I.toTry _) wish) (fun fl t out => ?_) (fun e t z => z)
  · obtain ⟨a, B, sI, pins', σ1, H1, cls, d, rfl, Jt, nb, up, sky, na, os, ag, wants⟩ := came
    have J : L2.Inv X pins σ1 H1 sI := Jt.ofTry inn
    have skyX : Sky B (X.env :: X.outer) a (Zc cls d) X.env.locals t.heap := by
      rw [← hs]
      exact sky
    show wpAny (model X.prog X.w) X.A (noteFrame (.ref a) X.env) _ _ _
    refine Sky.land Zc.steady frames hf skyX fun g1 land1 up1 => ?_
    have K1 : L2.Inv X pins σ1 H1 { t with heap := g1 } := J.landed nb land1.1 (up.trans up1) os ag
    obtain ⟨ob, fv, eb, zb, db⟩ := land1.there
    have notIn : a ∉ frs (X.env :: X.outer) := fun hm => by
      obtain ⟨_, o', e', other⟩ := land1.2.2.1.mem hm
      rw [eb] at e'
      cases e'
      exact other _ db
    have notL : a ≠ X.env.locals := fun z => notIn (List.mem_filterMap.mpr ⟨X.env, List.mem_cons_self, by rw [hf, z]⟩)
    have notF : a ∉ X.fs := fun hm => by
      obtain ⟨e, he, q⟩ := List.mem_filterMap.mp hm
      exact notIn (List.mem_filterMap.mpr ⟨e, List.mem_cons_of_mem _ he, q⟩)
    have L1 := K1.suite eb db na notL notF
    -- the test of one clause
    have asked : ∀ {x : Str} {c : Value} {np : Pos} {Q : Value → Shared → Prop} {E : Value → Shared → Prop}, Names X x c → Q c { t with heap := g1 } → wpAny (model X.prog X.w) (X.A.mark (some (.ref a))) (eval (.Name x np) X.env) Q E { t with heap := g1 } := fun {x c np Q E} known q => by
      obtain ⟨k1, k2, k3 | ⟨k3, k4, k5⟩⟩ := known
      · exact ld_glob (X := X.suite a ((a, ob) :: (X.pn ++ pins))) L1 k1 k3 q k2
      · exact ld_blt (X := X.suite a ((a, ob) :: (X.pn ++ pins))) L1 k1 k3 k4 q k5 k2
    have looks : PySem.W.Looks (model X.prog X.w) g1 (typeOf (.ref a)) cls := fun A Q E s k q => wpAny_typeOf_ref (k _ _ eb) (by
      rw [zb.1]
      exact q)
    have every : ∀ {hs' : List ExceptHandler} {l' : List Clause}, Clauses X hs' l' → wClauses X.K Wout D l' cls d σ1 H1 → wpAny (model X.prog X.w) X.A (handleBy (.ref a) X.env hs') (SP X pins D) X.xe { t with heap := g1 } := by
      intro hs' l' cl
      induction cl with
      | nil =>
        intro want
        refine wpAny_handleBy_nil ?_
        obtain ⟨_, _, _, oe, vs, T1, oT, ts', e1, e2, e3, e4, _⟩ := id land1
        unfold PySem.passOn
        refine wpAny_bind (wpAny_field e1 e3 e4 ?_)
        rw [if_neg (show ¬ ((Value.ref T1 == Value.none) = true) from by simp)]
        have away : wpAny (model X.prog X.w) X.A (setFlight (.ref a) X.env.frame) (fun _ t4 => wpAny (model X.prog X.w) X.A (throw (.ref a) : Sem Flow) (SP X pins D) X.xe t4) X.xe { t with heap := g1 } := by
          rw [hf]
          refine HandSPX.setFlight_upZ land1 fun g2 here2 up2 => wpAny_throw (tk _ _ ?_)
          exact ⟨a, B, sI, pins, σ1, H1, cls, d, rfl, J, nb, (up.trans up1).trans up2, .inr (.inr (by rw [hs]; exact here2)), na, os, ag, want⟩
        first
          | exact wpAny_bind (wpAny_pure (wpAny_bind away))
          | exact wpAny_bind away
      | @bare x c ts b0 bs np p hds2 l2 known suite r ih =>
        intro want
        obtain ⟨b, eq, yes, no⟩ := want
        refine wpAny_handleBy_cons (codeAny_handlers_test ?_) (by intro q; cases q)
        refine asked known ((PySem.W.exm_one (M := model X.prog X.w) K1.kIn looks eq).here ?_)
        match b with
        | true =>
          refine codeAny_handlers_suite ?_
          refine HandSPX.lands_againZ land1 fun g2 land2 up2 => ?_
          have K2 : L2.Inv X pins σ1 H1 { t with heap := g2 } := J.landed nb land2.1 ((up.trans up1).trans up2) os ag
          obtain ⟨oc, fc, ec, zc, dc⟩ := land2.there
          refine wpAny_mono ((suite a oc cls d (X.pn ++ pins) zc ⟨_, dc⟩).run [] _ _ H1 _ (K2.suite ec dc na notL notF) (yes rfl a na)) (fun fl t6 out => ?_) (fun _ _ z => False.elim z)
          match fl with
          | .next =>
            obtain ⟨σ6, H6, S6, q6⟩ := out
            exact ⟨_, _, S6.unsuite inn, q6⟩
          | .brk =>
            obtain ⟨σ6, H6, S6, q6⟩ := out
            exact ⟨_, _, S6.unsuite inn, q6⟩
          | .cont =>
            obtain ⟨σ6, H6, S6, q6⟩ := out
            exact ⟨_, _, S6.unsuite inn, q6⟩
          | .ret u =>
            obtain ⟨v6, σ6, H6, S6, r6, q6⟩ := out
            exact ⟨_, _, _, S6.unsuite inn, r6, q6⟩
        | false =>
          show wpAny _ X.A (handleBy (.ref a) X.env hds2) _ _ _
          exact ih (no rfl)
      | @named x n i c ts b0 bs np p hds2 l2 known at_ loc suite r ih =>
        intro want
        obtain ⟨b, eq, yes, no⟩ := want
        refine wpAny_handleBy_cons (codeAny_handlers_test ?_) (by intro q; cases q)
        refine asked known ((PySem.W.exm_one (M := model X.prog X.w) K1.kIn looks eq).here ?_)
        match b with
        | true =>
          refine codeAny_handlers_suite_as ?_
          refine HandSPX.lands_againZ land1 fun g2 land2 up2 => ?_
          have K2 : L2.Inv X pins σ1 H1 { t with heap := g2 } := J.landed nb land2.1 ((up.trans up1).trans up2) os ag
          obtain ⟨oc, fc, ec, zc, dc⟩ := land2.there
          refine store_ok (X := X.suite a ((a, oc) :: (X.pn ++ pins))) (v := .ref a) (K2.suite ec dc na notL notF) nd at_ (.inl loc) rfl (fun t5 S5 => ?_) (.inr loc)
          refine wpAny_mono ((suite a oc cls d (X.pn ++ pins) zc ⟨_, dc⟩).run [] t5 _ H1 _ S5 (yes rfl a na (by rw [J.len]; exact (List.getElem?_eq_some_iff.mp at_).1))) (fun fl t6 out => ?_) (fun _ _ z => False.elim z)
          have leave : ∀ {σ6 : L2.St} {H6 : Hp} {Q : Shared → Prop}, L2.Inv (X.suite a ((a, oc) :: (X.pn ++ pins))) [] σ6 H6 t6 → (∀ t7, L2.Inv X pins (σ6.set i none) H6 t7 → Q t7) →
              wpAny (model X.prog X.w) X.A (do bindName X.env n .none; unbindBehindTheSuite X.env n p) (fun _ t7 => Q t7) X.xe t6 := fun S6 q => gone_ok (S6.unsuite inn) nd at_ loc q
          match fl with
          | .next =>
            obtain ⟨σ6, H6, S6, q6⟩ := out
            exact leave S6 fun t7 J7 => ⟨_, _, J7, q6⟩
          | .brk =>
            obtain ⟨σ6, H6, S6, q6⟩ := out
            exact leave S6 fun t7 J7 => ⟨_, _, J7, q6⟩
          | .cont =>
            obtain ⟨σ6, H6, S6, q6⟩ := out
            exact leave S6 fun t7 J7 => ⟨_, _, J7, q6⟩
          | .ret u =>
            obtain ⟨v6, σ6, H6, S6, r6, q6⟩ := out
            exact leave S6 fun t7 J7 => ⟨_, _, _, J7, r6, q6⟩
        | false =>
          show wpAny _ X.A (handleBy (.ref a) X.env hds2) _ _ _
          exact ih (no rfl)
    exact every hh wants
  · match fl with
    | .next =>
      obtain ⟨σ', H', J', q⟩ := out
      exact wpAny_execs_nil ⟨σ', H', J'.ofTry inn, q⟩
    | .brk =>
      obtain ⟨σ', H', J', q⟩ := out
      exact ⟨σ', H', J'.ofTry inn, q⟩
    | .cont =>
      obtain ⟨σ', H', J', q⟩ := out
      exact ⟨σ', H', J'.ofTry inn, q⟩
    | .ret u =>
      obtain ⟨v, σ', H', J', r, q⟩ := out
      exact ⟨v, σ', H', J'.ofTry inn, r, q⟩
end
end KZ

namespace KZ
open PySem PySem.Spec PyProof.Rows L2

/-! data under a heap that tells more -/
def Sub (H H' : Hp) : Prop := ∀ a o, H a = some o → H' a = some o
theorem Sub.refl (H : Hp) : Sub H H := fun _ _ h => h
theorem Sub.trans {A B C : Hp} (x : Sub A B) (y : Sub B C) : Sub A C := fun a o h => y a o (x a o h)
theorem Sub.rd {H H' : Hp} (k : Sub H H') {a : Addr} {u : HO} (h : Rd H a u) : Rd H' a u :=
  h.elim (fun h => Or.inl (k _ _ h)) fun ⟨o, h⟩ => Or.inr ⟨o, k _ _ h⟩
theorem Sub.sqL {K : PySem.W.Frag} {H H' : Hp} (k : Sub H H') {a : Addr} {xs : List V} (h : SqL K H a xs) : SqL K H' a xs :=
  h.elim (fun h => Or.inl (k.rd h)) Or.inr
theorem Sub.sqT {K : PySem.W.Frag} {H H' : Hp} (k : Sub H H') {a : Addr} {xs : List V} (h : SqT K H a xs) : SqT K H' a xs :=
  h.elim (fun h => Or.inl (k.rd h)) Or.inr
mutual
theorem Sub.dp {K : PySem.W.Frag} {H H' : Hp} (k : Sub H H') : ∀ (d : PyData) (v : V), Dp K H v d → Dp K H' v d
  | .none, _, h => by
    cases h
    exact .non
  | .bool b, _, h => by
    cases h
    exact .bl b
  | .int i, _, h => by
    cases h
    exact .int i
  | .str x, _, h => by
    cases h
    exact .str x
  | .list ds, _, h => by
    cases h with
    | lst hs ha => exact .lst (k.sqL hs) (Sub.dps k ds _ ha)
  | .tuple ds, _, h => by
    cases h with
    | tup hs ha => exact .tup (k.sqT hs) (Sub.dps k ds _ ha)
  | .dict _, _, h => by cases h
theorem Sub.dps {K : PySem.W.Frag} {H H' : Hp} (k : Sub H H') : ∀ (ds : List PyData) (vs : List V), DpAll K H vs ds → DpAll K H' vs ds
  | [], _, h => by
    cases h
    exact .nil
  | d :: ds, _, h => by
    cases h with
    | cons h1 h2 => exact .cons (Sub.dp k d _ h1) (Sub.dps k ds _ h2)
end
end KZ
namespace L2
open PySem PySem.Spec PyProof.Rows
theorem DpAll.len {K : PySem.W.Frag} {H : Hp} : ∀ {ds : List PyData} {vs : List V}, DpAll K H vs ds → vs.length = ds.length
  | [], _, h => by
    cases h
    rfl
  | d :: ds, _, h => by
    cases h with
    | cons h1 h2 => rw [List.length_cons, List.length_cons, DpAll.len h2]
theorem DpAll.get {K : PySem.W.Frag} {H : Hp} : ∀ {ds : List PyData} {vs : List V} {i : Nat} {d : PyData}, DpAll K H vs ds → ds[i]? = some d → ∃ v, vs[i]? = some v ∧ Dp K H v d
  | [], _, _, _, _, e => by simp at e
  | d :: ds, _, 0, _, h, e => by
    cases h with
    | cons h1 h2 => exact ⟨_, rfl, by rw [← Option.some.inj e]; exact h1⟩
  | d :: ds, _, i + 1, _, h, e => by
    cases h with
    | cons h1 h2 => exact DpAll.get (i := i) h2 e
theorem DpAll.get' {K : PySem.W.Frag} {H : Hp} {ds : List PyData} {vs : List V} {i : Nat} {v : V} (h : DpAll K H vs ds) (e : vs[i]? = some v) : ∃ d, ds[i]? = some d ∧ Dp K H v d := by
  have hi : i < ds.length := by rw [← h.len]; exact (List.getElem?_eq_some_iff.mp e).1
  obtain ⟨w, hw, q⟩ := h.get (List.getElem?_eq_getElem hi)
  rw [e] at hw
  cases hw
  exact ⟨_, List.getElem?_eq_getElem hi, q⟩
theorem DpAll.app {K : PySem.W.Frag} {H : Hp} : ∀ {ds : List PyData} {vs ws : List V} {es : List PyData}, DpAll K H vs ds → DpAll K H ws es → DpAll K H (vs ++ ws) (ds ++ es)
  | [], _, _, _, h, g => by
    cases h
    exact g
  | d :: ds, _, _, _, h, g => by
    cases h with
    | cons h1 h2 => exact .cons h1 (DpAll.app h2 g)
theorem DpAll.one {K : PySem.W.Frag} {H : Hp} {v : V} {d : PyData} (h : Dp K H v d) : DpAll K H [v] [d] := .cons h .nil
theorem DpAll.drop {K : PySem.W.Frag} {H : Hp} : ∀ (n : Nat) {ds : List PyData} {vs : List V}, DpAll K H vs ds → DpAll K H (vs.drop n) (ds.drop n)
  | 0, _, _, h => h
  | n + 1, [], _, h => by
    cases h
    exact .nil
  | n + 1, d :: ds, _, h => by
    cases h with
    | cons h1 h2 => exact DpAll.drop n h2
theorem DpAll.take {K : PySem.W.Frag} {H : Hp} : ∀ (n : Nat) {ds : List PyData} {vs : List V}, DpAll K H vs ds → DpAll K H (vs.take n) (ds.take n)
  | 0, _, _, h => .nil
  | n + 1, [], _, h => by
    cases h
    exact .nil
  | n + 1, d :: ds, _, h => by
    cases h with
    | cons h1 h2 => exact .cons h1 (DpAll.take n h2)

end L2
namespace KZ
open PySem PySem.Spec PyProof.Rows L2
/-! data outside of some places -/
def er (M : List Addr) (H : Hp) : Hp := fun a => if a ∈ M then none else H a
theorem er_in {M : List Addr} {H : Hp} {a : Addr} (h : a ∉ M) : er M H a = H a := if_neg h
theorem er_sub (M : List Addr) (H : Hp) : Sub (er M H) H := fun a o h => by
  unfold er at h
  by_cases z : a ∈ M
  · rw [if_pos z] at h
    cases h
  · rw [if_neg z] at h
    exact h
/-- what stood outside of M stands -/
def Kp (M : List Addr) (H H' : Hp) : Prop := ∀ a o, a ∉ M → H a = some o → H' a = some o
theorem Kp.refl (M : List Addr) (H : Hp) : Kp M H H := fun _ _ _ h => h
theorem Kp.trans {M : List Addr} {A B C : Hp} (x : Kp M A B) (y : Kp M B C) : Kp M A C := fun a o m h => y a o m (x a o m h)
theorem Kp.less {M M' : List Addr} {H H' : Hp} (k : Kp M H H') (m : ∀ a ∈ M, a ∈ M') : Kp M' H H' := fun a o n h => k a o (fun z => n (m a z)) h
theorem Kp.er {M : List Addr} {H H' : Hp} (k : Kp M H H') : Sub (er M H) (er M H') := fun a o h => by
  by_cases z : a ∈ M
  · unfold KZ.er at h
    rw [if_pos z] at h
    cases h
  · rw [er_in z] at h ⊢
    exact k a o z h
theorem er_less {M M' : List Addr} (H : Hp) (m : ∀ a ∈ M, a ∈ M') : Sub (er M' H) (er M H) := fun a o h => by
  by_cases z : a ∈ M'
  · unfold KZ.er at h
    rw [if_pos z] at h
    cases h
  · rw [er_in z] at h
    rw [er_in fun y => z (m a y)]
    exact h
theorem Kp.new {M : List Addr} {H : Hp} {p : Addr} {o : HO} (h : H p = none) : Kp M H (upd H p o) := fun a u _ e => by
  rw [upd_ne (ne_of_none e h)]
  exact e
theorem Kp.mut {M : List Addr} {H : Hp} {p : Addr} {o : HO} (h : p ∈ M) : Kp M H (upd H p o) := fun a u n e => by
  rw [upd_ne fun z => n (by rw [z]; exact h)]
  exact e
/-- the places of M are known -/
def Kn (M : List Addr) (H : Hp) : Prop := ∀ a ∈ M, ∃ o, H a = some o
theorem Kn.new {M : List Addr} {H : Hp} (k : Kn M H) {p : Addr} {o : HO} : Kn M (upd H p o) := fun a m => by
  by_cases z : a = p
  · exact ⟨o, by rw [z]; exact upd_same⟩
  · rw [upd_ne z]
    exact k a m
theorem Kn.out {M : List Addr} {H : Hp} (k : Kn M H) {p : Addr} (h : H p = none) : p ∉ M := fun m => by
  obtain ⟨o, e⟩ := k p m
  rw [h] at e
  cases e
abbrev Dm (K : PySem.W.Frag) (M : List Addr) (H : Hp) (v : V) (d : PyData) : Prop := Dp K (er M H) v d
abbrev Dms (K : PySem.W.Frag) (M : List Addr) (H : Hp) (vs : List V) (ds : List PyData) : Prop := DpAll K (er M H) vs ds
section
variable {K : PySem.W.Frag} {M M' : List Addr} {H H' : Hp} {v : V} {d : PyData} {vs : List V} {ds : List PyData}
theorem Dm.k (h : Dm K M H v d) (k : Kp M H H') : Dm K M H' v d := Sub.dp k.er _ _ h
theorem Dms.k (h : Dms K M H vs ds) (k : Kp M H H') : Dms K M H' vs ds := Sub.dps k.er _ _ h
theorem Dm.less (h : Dm K M' H v d) (m : ∀ a ∈ M, a ∈ M') : Dm K M H v d := Sub.dp (er_less H m) _ _ h
theorem Dms.less (h : Dms K M' H vs ds) (m : ∀ a ∈ M, a ∈ M') : Dms K M H vs ds := Sub.dps (er_less H m) _ _ h
theorem Dm.all (h : Dm K M H v d) : Dp K H v d := Sub.dp (er_sub M H) _ _ h
theorem Dms.all (h : Dms K M H vs ds) : DpAll K H vs ds := Sub.dps (er_sub M H) _ _ h
/-- a fresh place may be set aside -/
theorem er_more {p : Addr} (h : H p = none) : er (p :: M) H = er M H := by
  funext a
  unfold er
  by_cases z : a = p
  · by_cases y : a ∈ M
    · rw [if_pos (List.mem_cons_of_mem _ y), if_pos y]
    · rw [if_pos (by rw [z]; exact List.mem_cons_self), if_neg y, z, h]
  · by_cases y : a ∈ M
    · rw [if_pos (List.mem_cons_of_mem _ y), if_pos y]
    · rw [if_neg (by intro q; rcases List.mem_cons.mp q with q | q; exact z q; exact y q), if_neg y]
theorem Dm.more {p : Addr} (h : Dm K M H v d) (hp : H p = none) : Dm K (p :: M) H v d := by
  show Dp K (er (p :: M) H) v d
  rw [er_more hp]
  exact h
theorem Dms.more {p : Addr} (h : Dms K M H vs ds) (hp : H p = none) : Dms K (p :: M) H vs ds := by
  show DpAll K (er (p :: M) H) vs ds
  rw [er_more hp]
  exact h
theorem Dm.tupNew {p : Addr} (n : Kn M H) (hp : H p = none) (h : Dms K M H vs ds) : Dm K M (upd H p (.tup vs)) (.ref p) (.tuple ds) :=
  .tup (SqT.of (by rw [er_in (n.out hp)]; exact upd_same)) (Dms.k h (Kp.new hp))
theorem Dm.lstNew {p : Addr} (n : Kn M H) (hp : H p = none) (h : Dms K M H vs ds) : Dm K M (upd H p (.lst vs)) (.ref p) (.list ds) :=
  .lst (SqL.of (by rw [er_in (n.out hp)]; exact upd_same)) (Dms.k h (Kp.new hp))
/-- a list that stands apart is data at last -/
theorem Dm.lstOf {p : Addr} (hp : p ∉ M) (e : H p = some (.lst vs)) (h : Dms K (p :: M) H vs ds) : Dm K M H (.ref p) (.list ds) :=
  .lst (SqL.of (by rw [er_in hp]; exact e)) (Dms.less h fun a m => List.mem_cons_of_mem _ m)
theorem Dm.tupAt (h : Dm K M H v (.tuple ds)) : ∃ a xs, v = .ref a ∧ SqT K H a xs ∧ Dms K M H xs ds := by
  cases h with
  | tup hs ha => exact ⟨_, _, rfl, (er_sub M H).sqT hs, ha⟩
theorem Dm.lstAt (h : Dm K M H v (.list ds)) : ∃ a xs, v = .ref a ∧ SqL K H a xs ∧ Dms K M H xs ds := by
  cases h with
  | lst hs ha => exact ⟨_, _, rfl, (er_sub M H).sqL hs, ha⟩
theorem Dm.lstAtE (h : Dm K M H v (.list ds)) : ∃ a xs, v = .ref a ∧ SqL K (er M H) a xs ∧ Dms K M H xs ds := by
  cases h with
  | lst hs ha => exact ⟨_, _, rfl, hs, ha⟩
theorem Dm.tupAtE (h : Dm K M H v (.tuple ds)) : ∃ a xs, v = .ref a ∧ SqT K (er M H) a xs ∧ Dms K M H xs ds := by
  cases h with
  | tup hs ha => exact ⟨_, _, rfl, hs, ha⟩
theorem Dm.intAt {i : Int} (h : Dm K M H v (.int i)) : v = .int i := by
  cases h
  rfl
theorem Dm.strAt {i : Str} (h : Dm K M H v (.str i)) : v = .str i := by
  cases h
  rfl
theorem Dm.blAt {i : Bool} (h : Dm K M H v (.bool i)) : v = .bl i := by
  cases h
  rfl
end

/-! the bag: a list of three ints and a list of ints -/
def Bag (b l : Addr) (H : Hp) : Prop := ∃ (x y i : Int) (cs : List Int), H b = some (.lst [.int x, .int y, .int i, .ref l]) ∧ l ≠ b ∧ H l = some (.lst (cs.map V.int)) ∧ 0 ≤ x ∧ 0 ≤ y ∧ y < 2147483647 ∧ 0 ≤ i ∧ cs.length ≤ 1000 ∧ ∀ c ∈ cs, 0 ≤ c
/-- a step beside the bag -/
structure Fr (b l : Addr) (H H' : Hp) : Prop where
  k : Kp [b] H H'
  bag : Bag b l H'
section
variable {b l p : Addr} {H H' A B C H0 : Hp} {o : HO} {M : List Addr}
theorem Bag.kp (g : Bag b l H) (k : Sub H H') : Bag b l H' := by
  obtain ⟨x, y, i, cs, h1, h2, h3, h4⟩ := g
  exact ⟨x, y, i, cs, k _ _ h1, h2, k _ _ h3, h4⟩
theorem Bag.at (g : Bag b l H) : ∃ o, H b = some o := by
  obtain ⟨x, y, i, cs, h1, _⟩ := g
  exact ⟨_, h1⟩
theorem Bag.atl (g : Bag b l H) : ∃ o, H l = some o := by
  obtain ⟨x, y, i, cs, _, _, h1, _⟩ := g
  exact ⟨_, h1⟩
theorem ne_new {a : Addr} (h : ∃ o, H a = some o) (hp : H p = none) : p ≠ a := fun z => by
  obtain ⟨o, e⟩ := h
  rw [← z, hp] at e
  cases e
theorem Fr.refl (g : Bag b l H) : Fr b l H H := ⟨Kp.refl _ _, g⟩
theorem Fr.trans (x : Fr b l A B) (y : Fr b l B C) : Fr b l A C := ⟨x.k.trans y.k, y.bag⟩
theorem Fr.sub (g : Bag b l H) (k : Sub H H') : Fr b l H H' := ⟨fun a o _ h => k a o h, g.kp k⟩
theorem Sub.new (h : H p = none) : Sub H (upd H p o) := fun a u e => by
  rw [upd_ne (ne_of_none e h)]
  exact e
theorem Fr.new (g : Bag b l H) (h : H p = none) : Fr b l H (upd H p o) := Fr.sub g (Sub.new h)
theorem Bag.put (g : Bag b l H) (hb : p ≠ b) (hl : p ≠ l) : Bag b l (upd H p o) := by
  obtain ⟨x, y, i, cs, h1, h2, h3, h4⟩ := g
  exact ⟨x, y, i, cs, by rw [upd_ne hb.symm]; exact h1, h2, by rw [upd_ne hl.symm]; exact h3, h4⟩
/-- a list of one's own, that the beginning does not know, is written -/
theorem Fr.mut (f : Fr b l H0 H) (g0 : Bag b l H0) (h0 : H0 p = none) : Fr b l H0 (upd H p o) :=
  ⟨fun a u n e => by
    rw [upd_ne (ne_of_none e h0)]
    exact f.k a u n e, f.bag.put (ne_new g0.at h0) (ne_new g0.atl h0)⟩
theorem Sub.mut (f : Sub H0 H) (h0 : H0 p = none) : Sub H0 (upd H p o) := fun a u e => by
  rw [upd_ne (ne_of_none e h0)]
  exact f a u e
/-- what is fresh behind is fresh ahead -/
theorem Fr.free (f : Fr b l H H') (g : Bag b l H) (h : H' p = none) : H p = none := by
  cases e : H p with
  | none => rfl
  | some o =>
    by_cases z : p = b
    · obtain ⟨o, e⟩ := f.bag.at
      rw [← z, h] at e
      cases e
    · rw [f.k p o (by simp [z]) e] at h
      cases h
theorem Sub.free (f : Sub H H') (h : H' p = none) : H p = none := by
  cases e : H p with
  | none => rfl
  | some o =>
    rw [f p o e] at h
    cases h
structure Cb (M : List Addr) (b l : Addr) (H : Hp) : Prop where
  bag : Bag b l H
  mem : b ∈ M
  kn : Kn M H
theorem Kn.fr (c : Kn M H) (f : Fr b l H H') : Kn M H' := fun a m => by
  by_cases z : a = b
  · rw [z]
    exact f.bag.at
  · obtain ⟨o, e⟩ := c a m
    exact ⟨o, f.k a o (by simp [z]) e⟩
theorem Kn.sub (c : Kn M H) (f : Sub H H') : Kn M H' := fun a m => by
  obtain ⟨o, e⟩ := c a m
  exact ⟨o, f a o e⟩
theorem Kn.more (c : Kn M H) (h : ∃ o, H p = some o) : Kn (p :: M) H := fun a m => by
  rcases List.mem_cons.mp m with z | z
  · rw [z]
    exact h
  · exact c a z
theorem Cb.fr (c : Cb M b l H) (f : Fr b l H H') : Cb M b l H' := ⟨f.bag, c.mem, c.kn.fr f⟩
theorem Cb.more (c : Cb M b l H) (h : ∃ o, H p = some o) : Cb (p :: M) b l H := ⟨c.bag, List.mem_cons_of_mem _ c.mem, c.kn.more h⟩
theorem Fr.kp (f : Fr b l H H') (m : b ∈ M) : Kp M H H' := f.k.less fun a h => by
  rw [List.mem_singleton.mp h]
  exact m
end
section
variable {K : PySem.W.Frag} {M : List Addr} {b l : Addr} {H H' : Hp} {v : V} {d : PyData} {vs : List V} {ds : List PyData}
theorem Dm.f (h : Dm K M H v d) (f : Fr b l H H') (m : b ∈ M) : Dm K M H' v d := h.k (f.kp m)
theorem Dms.f (h : Dms K M H vs ds) (f : Fr b l H H') (m : b ∈ M) : Dms K M H' vs ds := h.k (f.kp m)
theorem Dm.s (h : Dm K M H v d) (f : Sub H H') : Dm K M H' v d := h.k fun a o _ e => f a o e
theorem Dms.s (h : Dms K M H vs ds) (f : Sub H H') : Dms K M H' vs ds := h.k fun a o _ e => f a o e
end
end KZ

namespace KZ
open PySem PySem.Spec PyProof.Rows L2

def topS (i : Nat) : Stmt := PySem.Challenge.pw_comesthrough_k13_names_places_and_words.main.body.getD i (.Pass ⟨0, 0, 0, 0⟩)
/-- xs[i] ahead of a store to it -/
def rGetL (K : PySem.W.Frag) : V → V → Hp → VK → Prop := fun o i H Q => ∃ (p : Addr) (xs : List V) (k : Nat) (v : V), o = .ref p ∧ i = .int (k : Int) ∧ SqL K H p xs ∧ k < 1000 ∧ xs[k]? = some v ∧ Q v H
theorem get_listZ {X : Cx} : PGet X (rGetL X.K) := by
  intro pins s σ H o i ov iv Q I ro ri h
  obtain ⟨p, xs, k, v, rfl, rfl, hq, hk, hx, q⟩ := h
  cases ro
  obtain ⟨t, rfl⟩ := ri
  obtain ⟨its, r, pl, hz⟩ := I.list hq
  obtain ⟨u, eu, ru⟩ := r.get hx
  refine wpAny_getItem_list pl.isList (by omega) (by omega) ?_ ⟨v, H, I, ru, q⟩
  simpa using eu

structure BagAt (b l : Addr) (x y i : Int) (cs : List Int) (H : Hp) : Prop where
  hb : H b = some (.lst [.int x, .int y, .int i, .ref l])
  ne : l ≠ b
  hl : H l = some (.lst (cs.map V.int))
theorem BagAt.sub {b l : Addr} {x y i : Int} {cs : List Int} {H H' : Hp} (g : BagAt b l x y i cs H) (k : Sub H H') : BagAt b l x y i cs H' := ⟨k _ _ g.hb, g.ne, k _ _ g.hl⟩
theorem BagAt.put {b l : Addr} {x y i x' y' i' : Int} {cs : List Int} {H : Hp} (g : BagAt b l x y i cs H) : BagAt b l x' y' i' cs (upd H b (.lst [.int x', .int y', .int i', .ref l])) :=
  ⟨upd_same, g.ne, by rw [upd_ne g.ne]; exact g.hl⟩
theorem head_cut (cs : List Int) (hc : ∀ c ∈ cs, 0 ≤ c) (i : Int) (hi : 0 ≤ i) : ∃ c : Int, 0 ≤ c ∧ atI (cutV (cs.map V.int) (some i) none ++ [V.int 0]) 0 = some (.int c) := by
  have hall : ∀ v ∈ cutV (cs.map V.int) (some i) none, ∃ c : Int, 0 ≤ c ∧ v = .int c := fun v hv => by
    unfold cutV at hv
    have h1 := List.mem_of_mem_drop (List.mem_of_mem_take hv)
    obtain ⟨c, h2, h3⟩ := List.mem_map.mp h1
    exact ⟨c, hc c h2, h3.symm⟩
  cases e : cutV (cs.map V.int) (some i) none with
  | nil => exact ⟨0, Int.le_refl _, atI_nat (j := 0) rfl⟩
  | cons v r =>
    obtain ⟨c, h1, h2⟩ := hall v (by rw [e]; exact List.mem_cons_self)
    exact ⟨c, h1, atI_nat (j := 0) (by rw [h2] <;> rfl)⟩
theorem small1000' {n : Nat} (h : n ≤ 1001) : n < sizeLine := Nat.lt_of_le_of_lt h (by decide)
theorem bootInt : bootBuiltins "int" = some (.type "int") := by decide +kernel
/-- what the defs ask of the module's names -/
structure Txt (mg : Str → Option Value) : Prop where
  int : mg "int" = none
  len : mg "len" = none
  abs : mg "abs" = none
  range : mg "range" = none
  tuple : mg "tuple" = none
  list : mg "list" = none
  dict : mg "dict" = none
  repr : mg "repr" = none
  enumerate : mg "enumerate" = none

def spTake : Sp := fun vs H Q _ => ∃ (b l : Addr) (n : Int), vs = [.ref b, .int n] ∧ Bag b l H ∧ 0 < n ∧ n < 1073741824 ∧ ∀ (i : Int) (H' : Hp), Fr b l H H' → 0 ≤ i → i < n → Q (.int i) H'
section
variable {P : Program} {w : World} {K : PySem.W.Frag} {mg : Str → Option Value} {base : Heap}
abbrev sTake : Stmt := topS 16
theorem scTake : FnScope ["bag", "upto", "cell", "stirred", "value", "begin", "second"] ["bag", "upto"] (defScope sTake) := ⟨rfl, rfl, rfl, by decide +kernel, rfl, by decide +kernel, by decide +kernel⟩
theorem mod_lo {a n : Int} (h : 0 < n) : 0 ≤ a % n ∧ a % n < n := ⟨Int.emod_nonneg _ (by omega), Int.emod_lt_of_pos _ h⟩
/-- the end of a draw, by the state behind the stirring -/
theorem take_tail {b l : Addr} {H0 H : Hp} {x y i : Int} {cs : List Int} (kp : Kp [b] H0 H) (g : BagAt b l x y i cs H) (hx : 0 ≤ x) (hy : 0 ≤ y ∧ y < 2147483647) (hi : 0 ≤ i) (hz : cs.length ≤ 1000) (hc : ∀ c ∈ cs, 0 ≤ c) : Fr b l H0 H :=
  ⟨kp, x, y, i, cs, g.hb, g.ne, g.hl, hx, hy.1, hy.2, hi, hz, hc⟩
theorem ok_take {f : Addr} {fd : FuncData} (F : Fun K "_law_take" "_law_take" sTake f fd) (T : Txt mg) : FnOk P w K mg base CX0 1 f fd ["bag", "upto"] spTake := by
  refine F.ok scTake (fun vs H Q E h => ?_) (fun cdv A outer s H vs Q E hr h => ?_)
  · obtain ⟨b, l, n, rfl, _⟩ := h
    rfl
  · obtain ⟨b, l, n, rfl, ⟨x, y, i, cs, hb, hne, hl, hx, hy0, hy1, hi, hz, hc⟩, hn0, hn1, k⟩ := h
    have g : BagAt b l x y i cs H := ⟨hb, hne, hl⟩
    refine ⟨_, Evl.pss_cut (ps_if (pt_cmpR op_eq (pe_ix ix_list (pv 0) pe_int (fun _ _ => rfl)) pe_int (nomark _))
        (pss_cons (ps_set (i := 2) scTake.nd rfl (Or.inl rfl) (pe_ix ix_list (pe_op op_cat (pe_slice sl_list (pe_ix ix_list (pv 0) pe_int (fun _ _ => rfl)) (po_some (pe_ix ix_list (pv 0) pe_int (fun _ _ => rfl))) po_none) (pe_lst (pa_cons pe_int pa_nil))) pe_int (fun _ _ => rfl)))
        (pss_cons (ps_augS (pv 0) pe_int get_listZ pe_int ip_add set_list)
        (Evl.pss_cut (ps_if (pt_cmpR op_ge (pv 2) (pe_op op_pow pe_int pe_int) (nomark _)) (pss_one (ps_asg (pv 2) (pg_sub (pv 0) pe_int set_list))) pss_nil)
        (pss_cons (ps_set (i := 3) scTake.nd rfl (Or.inl rfl) (pe_op op_add (pe_op op_add (pe_op op_mul (pe_ix ix_list (pv 0) pe_int (fun _ _ => rfl)) pe_int) (pe_op op_mod (pe_callTy call_int1 (by rfl) T.int bootInt (pa_cons (pv 2) pa_nil)) pe_int)) (pe_op op_mul pe_int (pe_ix ix_list (pv 0) pe_int (fun _ _ => rfl)))))
        (pss_one (ps_asg (pe_op op_mod (pe_callTy call_int1 (by rfl) T.int bootInt (pa_cons (pv 3) pa_nil)) pe_int) (pg_sub (pv 0) pe_int set_list))))))) pss_nil)
      (pss_cons (ps_if (pt_cmpR op_gt (pe_ix ix_list (pv 0) pe_int (fun _ _ => rfl)) pe_int (nomark _))
        (pss_cons (ps_set (i := 4) scTake.nd rfl (Or.inl rfl) (pe_op op_mod (pe_callTy call_int1 (by rfl) T.int bootInt (pa_cons (pe_ix ix_list (pv 0) pe_int (fun _ _ => rfl)) pa_nil)) (pv 1)))
        (pss_cons (ps_asg (pe_op op_fdiv (pe_callTy call_int1 (by rfl) T.int bootInt (pa_cons (pe_ix ix_list (pv 0) pe_int (fun _ _ => rfl)) pa_nil)) (pv 1)) (pg_sub (pv 0) pe_int set_list))
        (pss_one (ps_ret (pv 4))))) pss_nil)
      (pss_cons (ps_set (i := 5) scTake.nd rfl (Or.inl rfl) (pe_op op_mod (pe_callTy call_int1 (by rfl) T.int bootInt (pa_cons (pe_op op_mul (pe_op op_add (pe_ix ix_list (pv 0) pe_int (fun _ _ => rfl)) pe_int) pe_int) pa_nil)) pe_int))
      (pss_cons (ps_set (i := 6) scTake.nd rfl (Or.inl rfl) (pe_op op_mod (pe_callTy call_int1 (by rfl) T.int bootInt (pa_cons (pe_op op_mul (pe_op op_mod (pe_callTy call_int1 (by rfl) T.int bootInt (pa_cons (pe_op op_mul (pv 5) (pv 5)) pa_nil)) pe_int) pe_int) pa_nil)) pe_int))
      (pss_one (ps_ret (pe_op op_mod (pe_callTy call_int1 (by rfl) T.int bootInt (pa_cons (pe_op op_fdiv (pv 6) pe_int) pa_nil)) (pv 1)))))))
      , ?_⟩
    refine ⟨fun σ' H' => ∃ (x y i : Int) (c st : Option V), σ' = [some (.ref b), some (.int n), c, st, none, none, none] ∧ Kp [b] H H' ∧ BagAt b l x y i cs H' ∧ 0 ≤ x ∧ 0 ≤ y ∧ y < 2147483647 ∧ 0 ≤ i, ?_, ?_⟩
    · refine ⟨_, rfl, b, _, 0, _, rfl, rfl, SqL.of hb, atI_nat (j := 0) rfl, rfl, _, rfl, ite2 (fun e => ?_) (fun e => ?_)⟩
      · -- cell
        refine ⟨_, rfl, b, _, 3, _, rfl, rfl, SqL.of hb, atI_nat (j := 3) rfl, ?_⟩
        refine ⟨_, rfl, b, _, 2, _, rfl, rfl, SqL.of hb, atI_nat (j := 2) rfl, _, rfl, l, _, rfl, SqL.of hl, fun p1 hp1 => ?_⟩
        refine ⟨by show 1 ≤ sizeLine; decide, fun p2 hp2 => ?_⟩
        have n12 : p1 ≠ p2 := ne_of_none upd_same hp2
        refine ⟨p1, p2, _, _, rfl, rfl, Eq.trans (upd_ne n12) upd_same, upd_same, ?_, fun p3 hp3 => ?_⟩
        · have := cutV_length (cs.map V.int) (some i) none
          rw [List.length_map] at this
          exact Nat.le_of_lt (small1000' (by show _ + 1 ≤ 1001; omega))
        obtain ⟨c, hc0, hc1⟩ := head_cut cs hc i hi
        refine ⟨p3, _, 0, _, rfl, rfl, SqL.of upd_same, hc1, ?_⟩
        have k1 : Sub H (upd (upd (upd H p1 (HO.lst (cutV (cs.map V.int) (some i) none))) p2 (HO.lst [V.int 0])) p3 (HO.lst (cutV (cs.map V.int) (some i) none ++ [V.int 0]))) := ((Sub.new hp1).trans (Sub.new hp2)).trans (Sub.new hp3)
        have g1 := g.sub k1
        have q1 : Kp [b] H _ := fun a o _ h => k1 a o h
        -- bag[2] += 1
        refine ⟨_, rfl, b, _, 2, _, rfl, rfl, SqL.of g1.hb, by decide, rfl, _, _, rfl, rfl, b, _, 2, 2, rfl, rfl, g1.hb, rfl, ?_⟩
        have g2 : BagAt b l x y (i + 1) cs _ := g1.put
        have q2 : Kp [b] H _ := q1.trans (Kp.mut (o := HO.lst [V.int x, V.int y, V.int (i + 1), V.ref l]) List.mem_cons_self)
        refine ⟨fun σ' H' => ∃ (x' : Int), σ' = [some (.ref b), some (.int n), some (.int c), none, none, none, none] ∧ Kp [b] H H' ∧ BagAt b l x' y (i + 1) cs H' ∧ 0 ≤ x', ?_, ?_⟩
        · refine ⟨_, rfl, _, _, rfl, rfl, ⟨by decide, by decide, by decide⟩, _, _, rfl, rfl, _, rfl, ite2 (fun e2 => ?_) (fun e2 => ?_)⟩
          · exact ⟨_, rfl, _, rfl, b, _, 0, 0, rfl, rfl, g2.hb, rfl, c, rfl, q2.trans (Kp.mut List.mem_cons_self), g2.put, hc0⟩
          · exact ⟨x, rfl, q2, g2, hx⟩
        rintro σ' H3 ⟨x', rfl, q3, g3, hx'⟩
        refine ⟨_, rfl, b, _, 1, _, rfl, rfl, SqL.of g3.hb, atI_nat (j := 1) rfl, _, _, rfl, rfl, .inr ⟨by decide, by decide⟩, _, rfl, .inl ⟨_, rfl, _, _, rfl, rfl, (by show (0 : Int) < 2147483647; decide), ?_⟩⟩
        refine ⟨_, _, rfl, rfl, _, rfl, b, _, 2, _, rfl, rfl, SqL.of g3.hb, atI_nat (j := 2) rfl, _, _, rfl, rfl, .inl ⟨by decide, by decide⟩, _, _, rfl, rfl, ?_⟩
        refine ⟨_, rfl, .inl ⟨_, rfl, _, _, rfl, rfl, (by show (0 : Int) < 2147483647; decide), ?_⟩⟩
        refine ⟨_, rfl, b, _, 1, 1, rfl, rfl, g3.hb, rfl, ?_⟩
        have z := mod_lo (a := y * 48271 + c % 2147483647 + 7919 * (i + 1)) (n := 2147483647) (by decide)
        exact ⟨x', _, i + 1, _, _, rfl, q3.trans (Kp.mut List.mem_cons_self), g3.put, hx', z.1, z.2, by omega⟩
      · exact ⟨x, y, i, none, none, rfl, Kp.refl _ _, g, hx, hy0, hy1, hi⟩
    · rintro σ' H1 ⟨x, y, i, c, st, rfl, kp, g, hx, hy0, hy1, hi⟩
      refine ⟨_, rfl, b, _, 0, _, rfl, rfl, SqL.of g.hb, atI_nat (j := 0) rfl, _, _, rfl, rfl, _, rfl, ite2 (fun e => ?_) (fun e => ?_)⟩
      · refine ⟨_, rfl, b, _, 0, _, rfl, rfl, SqL.of g.hb, atI_nat (j := 0) rfl, .inl ⟨_, rfl, _, rfl, _, _, rfl, rfl, hn0, ?_⟩⟩
        refine ⟨_, rfl, b, _, 0, _, rfl, rfl, SqL.of g.hb, atI_nat (j := 0) rfl, .inl ⟨_, rfl, _, rfl, _, _, rfl, rfl, ⟨hn0, hn1⟩, ?_⟩⟩
        refine ⟨_, rfl, b, _, 0, 0, rfl, rfl, g.hb, rfl, ?_⟩
        refine ⟨_, rfl, ?_⟩
        have z := mod_lo (a := x) hn0
        exact k _ _ (take_tail (kp.trans (Kp.mut List.mem_cons_self)) g.put (Int.ediv_nonneg hx (by omega)) ⟨hy0, hy1⟩ hi hz hc) z.1 z.2
      · refine ⟨_, rfl, b, _, 1, _, rfl, rfl, SqL.of g.hb, atI_nat (j := 1) rfl, _, _, rfl, rfl, _, _, rfl, rfl, .inr ⟨by decide, by decide⟩, .inl ⟨_, rfl, _, _, rfl, rfl, (by show (0 : Int) < 1000000007; decide), ?_⟩⟩
        have z1 := mod_lo (a := (y + 1) * 39373) (n := 1000000007) (by decide)
        refine ⟨_, rfl, _, rfl, _, _, rfl, rfl, .inl ⟨by omega, by omega⟩, .inl ⟨_, rfl, _, _, rfl, rfl, (by show (0 : Int) < 998244353; decide), ?_⟩⟩
        refine ⟨_, _, rfl, rfl, .inr ⟨by decide, by decide⟩, .inl ⟨_, rfl, _, _, rfl, rfl, (by show (0 : Int) < 998244353; decide), ?_⟩⟩
        refine ⟨_, rfl, _, _, rfl, rfl, ⟨by decide, by decide⟩, .inl ⟨_, rfl, _, rfl, _, _, rfl, rfl, hn0, ?_⟩⟩
        have z := mod_lo (a := ((y + 1) * 39373 % 1000000007 * ((y + 1) * 39373 % 1000000007) % 998244353 * 30011 % 998244353) / 7) hn0
        exact k _ _ (take_tail kp g hx ⟨hy0, hy1⟩ hi hz hc) z.1 z.2
end
end KZ

namespace KZ
open PySem PySem.Spec PyProof.Rows L2

theorem szl {n : Nat} (h : n < 1000000) : n < sizeLine := Nat.lt_of_lt_of_le h (by decide)
/-- a def that may be called: its promise, where it stands -/
structure Cal (P : Program) (w : World) (K : PySem.W.Frag) (mg : Str → Option Value) (base : Heap) (x : Str) (k : Nat) (ps : List Str) (sp : Sp) (f : Addr) (fd : FuncData) : Prop where
  ok : FnOk P w K mg base CX0 k f fd ps sp
  g : mg x = some (.ref f)
  kp : PySem.W.keepIn K (.ref f) = true
  b : Binds K fd ps []
section
variable {X : Cx} {x : Str} {k : Nat} {ps : List Str} {sp : Sp} {f : Addr} {fd : FuncData} {e : Expr} {es : List Expr} {t : TA} {p pos : Pos}
theorem pcl (C : Cal X.prog X.w X.K X.mg X.base x k ps sp f fd) (hr : Room k X.A) (ha : PA X (e :: es) t) (hg : Gl X x := by rfl) (hdb : (x == ("__debug__" : Str)) = false := by decide) (he : starEach (e :: es) X.env = (false, eval e X.env) :: starEach es X.env := by rfl)
    (hpl : (backTo pos (starEach es X.env)).any (·.1) = false := by rfl) : PE X (.Call (.Name x p) (e :: es) [] pos) (tCall sp [] E0 t) := pe_call C.ok hr hg C.g C.kp C.b .nil pass0 ha hdb he hpl
end
theorem atI_mem {α : Type} {xs : List α} {i : Int} (h0 : 0 ≤ i) (h1 : i < xs.length) : ∃ v, v ∈ xs ∧ xs[i.toNat]? = some v ∧ atI xs i = some v := by
  have hj : i.toNat < xs.length := by omega
  refine ⟨xs[i.toNat], List.getElem_mem hj, List.getElem?_eq_getElem hj, ?_⟩
  have e : ((i.toNat : Nat) : Int) = i := by omega
  have g := atI_nat (List.getElem?_eq_getElem hj)
  rw [e] at g
  exact g

/-- the items of a list or a tuple -/
def Its (K : PySem.W.Frag) (M : List Addr) (H : Hp) (v : V) (ds : List PyData) : Prop := Dm K M H v (.list ds) ∨ Dm K M H v (.tuple ds)
theorem Its.at {K : PySem.W.Frag} {M : List Addr} {H : Hp} {v : V} {ds : List PyData} (h : Its K M H v ds) : ∃ a xs, v = .ref a ∧ (SqL K H a xs ∨ SqT K H a xs) ∧ Dms K M H xs ds := by
  rcases h with h | h
  · obtain ⟨a, xs, h1, h2, h3⟩ := h.lstAt
    exact ⟨a, xs, h1, .inl h2, h3⟩
  · obtain ⟨a, xs, h1, h2, h3⟩ := h.tupAt
    exact ⟨a, xs, h1, .inr h2, h3⟩
theorem Its.f {K : PySem.W.Frag} {M : List Addr} {b l : Addr} {H H' : Hp} {v : V} {ds : List PyData} (h : Its K M H v ds) (f : Fr b l H H') (m : b ∈ M) : Its K M H' v ds := h.elim (fun h => .inl (Dm.f h f m)) fun h => .inr (Dm.f h f m)
def spSome (K : PySem.W.Frag) : Sp := fun vs H Q _ => ∃ (M : List Addr) (b l : Addr) (v : V) (ds : List PyData), vs = [.ref b, v] ∧ Cb M b l H ∧ Its K M H v ds ∧ 0 < ds.length ∧ ds.length < 1000000 ∧
  ∀ (y : V) (d : PyData) (H' : Hp), Fr b l H H' → d ∈ ds → Dm K M H' y d → Q y H'
def spMixed (K : PySem.W.Frag) : Sp := fun vs H Q _ => ∃ (M : List Addr) (b l : Addr) (v : V) (ds : List PyData), vs = [.ref b, v] ∧ Cb M b l H ∧ Dm K M H v (.list ds) ∧ ds.length < 100000 ∧
  ∀ (y : V) (es : List PyData) (H' : Hp), Fr b l H H' → es.Perm ds → Dm K M H' y (.list es) → Q y H'
section
variable {P : Program} {w : World} {K : PySem.W.Frag} {mg : Str → Option Value} {base : Heap}
abbrev sSome : Stmt := topS 17
theorem scSome : FnScope ["bag", "things"] ["bag", "things"] (defScope sSome) := ⟨rfl, rfl, rfl, by decide +kernel, rfl, by decide +kernel, by decide +kernel⟩
theorem ok_some {f fT : Addr} {fd fdT : FuncData} (F : Fun K "_law_some" "_law_some" sSome f fd) (T : Txt mg) (CT : Cal P w K mg base "_law_take" 1 ["bag", "upto"] spTake fT fdT) : FnOk P w K mg base CX0 2 f fd ["bag", "things"] (spSome K) := by
  refine F.ok scSome (fun vs H Q E h => ?_) (fun cdv A outer s H vs Q E hr h => ?_)
  · obtain ⟨M, b, l, v, ds, rfl, _⟩ := h
    rfl
  · obtain ⟨M, b, l, v, ds, rfl, cb, hv, h0, h1, k⟩ := h
    refine ⟨_, pss_one (ps_ret (pe_ix (ix_list.or ix_tup) (pv 1) (pcl CT hr (pa_cons (pv 0) (pa_cons (pe_callB call_len_seq (by rfl) T.len PySem.boot_len (pa_cons (pv 1) pa_nil)) pa_nil))) (fun _ _ => rfl))), ?_⟩
    obtain ⟨a, xs, rfl, hs, ha⟩ := hv.at
    have hl := ha.len
    refine ⟨_, rfl, _, rfl, _, rfl, a, xs, rfl, hs, ?_⟩
    refine ⟨b, l, _, rfl, cb.bag, by omega, by omega, fun i H' f' i0 i1 => ?_⟩
    obtain ⟨a2, xs2, e2, hs2, ha2⟩ := (hv.f f' cb.mem).at
    cases e2
    have hl2 := ha2.len
    obtain ⟨y, _, hy, hat⟩ := atI_mem (xs := xs2) i0 (by omega)
    obtain ⟨d, hd, hyd⟩ := ha2.get' hy
    have fin : Q y H' := k y d H' f' (List.mem_of_getElem? hd) hyd
    exact hs2.elim (fun q => .inl ⟨a, xs2, i, y, rfl, rfl, q, hat, fin⟩) fun q => .inr ⟨a, xs2, i, y, rfl, rfl, q, hat, fin⟩
abbrev sMixed : Stmt := topS 19
theorem scMixed : FnScope ["bag", "things", "found", "thing"] ["bag", "things"] (defScope sMixed) := ⟨rfl, rfl, rfl, by decide +kernel, rfl, by decide +kernel, by decide +kernel⟩
theorem ins_perm {α : Type} (xs : List α) (n : Nat) (d : α) : (xs.take n ++ [d] ++ xs.drop n).Perm (d :: xs) := by
  have h : (xs.take n ++ [d] ++ xs.drop n).Perm (d :: (xs.take n ++ xs.drop n)) := by
    rw [List.append_assoc]
    exact List.perm_middle
  rw [List.take_append_drop] at h
  exact h
theorem take_snoc {α : Type} {xs : List α} {i : Nat} {d : α} (h : xs[i]? = some d) : xs.take (i + 1) = xs.take i ++ [d] := by
  rw [List.take_succ, h]
  rfl
theorem ok_mixed {f fT : Addr} {fd fdT : FuncData} (F : Fun K "_law_mixed" "_law_mixed" sMixed f fd) (T : Txt mg) (CT : Cal P w K mg base "_law_take" 1 ["bag", "upto"] spTake fT fdT) : FnOk P w K mg base CX0 2 f fd ["bag", "things"] (spMixed K) := by
  refine F.ok scMixed (fun vs H Q E h => ?_) (fun cdv A outer s H vs Q E hr h => ?_)
  · obtain ⟨M, b, l, v, ds, rfl, _⟩ := h
    rfl
  · obtain ⟨M, b, l, v, ds, rfl, cb, hv, h1, k⟩ := h
    refine ⟨_, pss_cons (ps_set (i := 2) scMixed.nd rfl (Or.inl rfl) (pe_lst pa_nil))
      (pss_cons (ps_for PassesOwn.never rfl (pi_list (pv 1)) (pg_name (i := 3) scMixed.nd rfl (Or.inl rfl))
        (pss_one (ps_expr (pe_bm PySem.F.plainAttrs_list PySem.F.slot_list_insert PySem.F.type_list_insert mt_insert (pv 2)
          (pa_cons (pcl CT hr (pa_cons (pv 0) (pa_cons (pe_op op_add (pe_callB call_len_seq (by rfl) T.len PySem.boot_len (pa_cons (pv 2) pa_nil)) pe_int) pa_nil))) (pa_cons (pv 3) pa_nil))))))
      (pss_one (ps_ret (pv 2)))), ?_⟩
    refine ⟨Nat.zero_le _, fun p hp => ?_⟩
    obtain ⟨a, xs, rfl, hse, ha⟩ := hv.lstAtE
    have hs := (er_sub M H).sqL hse
    have hl := ha.len
    have f0 : Fr b l H (upd H p (.lst [])) := Fr.new cb.bag hp
    have pb := ne_new cb.bag.at hp
    refine ⟨_, rfl, a, rfl, ⟨_, (Sub.new hp).sqL hs⟩, for_list (K := K) (a := a) (xs := xs) (fun i σ H' => ∃ (u : Option V) (vs : List V) (es : List PyData), σ = [some (.ref b), some (.ref a), some (.ref p), u] ∧ Fr b l H H' ∧ H' p = some (.lst vs) ∧ Dms K (p :: M) H' vs es ∧ es.Perm (ds.take i) ∧ SqL K (er (p :: M) H') a xs ∧ Dms K (p :: M) H' xs ds)
      ⟨none, [], [], rfl, f0, upd_same, .nil, List.Perm.refl _, Sub.sqL (Kp.er (Kp.mut List.mem_cons_self)) (by rw [er_more hp]; exact hse), (ha.more hp).k (Kp.mut List.mem_cons_self)⟩ (fun i σ H' _ ⟨_, _, _, _, _, _, _, _, q, _⟩ => (er_sub _ _).sqL q) ?_ ?_⟩
    · rintro i y σ H' hi ⟨u, vs, es, rfl, f1, h1p, hds, hpm, hsx, hdx⟩
      have hlv : vs.length = i := by
        rw [hds.len, hpm.length_eq, List.length_take, ← hl]
        have := (List.getElem?_eq_some_iff.mp hi).1
        omega
      have hix := (List.getElem?_eq_some_iff.mp hi).1
      refine ⟨_, rfl, .inl ⟨rfl, _, SqL.of h1p⟩, _, rfl, _, rfl, p, _, rfl, .inl (SqL.of h1p), _, _, rfl, rfl, ?_⟩
      refine ⟨b, l, _, rfl, f1.bag, by omega, by omega, fun j H2 f2 j0 j1 => ?_⟩
      have c1 : Cb (p :: M) b l H' := (cb.fr f1).more ⟨_, h1p⟩
      have h2p : H2 p = some (.lst vs) := f2.k p _ (by simp [pb]) h1p
      refine ⟨_, rfl, p, vs, j, y, rfl, rfl, h2p, szl (by omega), j0, by omega, ?_⟩
      obtain ⟨d, hd, hyd⟩ := hdx.get' hi
      have f3 := (f1.trans f2).mut cb.bag hp (o := .lst (vs.take j.toNat ++ [y] ++ vs.drop j.toNat))
      have km : Kp (p :: M) H2 (upd H2 p (.lst (vs.take j.toNat ++ [y] ++ vs.drop j.toNat))) := Kp.mut List.mem_cons_self
      have hds2 := hds.f f2 c1.mem
      refine ⟨_, _, es.take j.toNat ++ [d] ++ es.drop j.toNat, rfl, f3, upd_same, Dms.k (((hds2.take _).app (DpAll.one (Dm.f hyd f2 c1.mem))).app (hds2.drop _)) km, ?_, ?_, ?_⟩
      · rw [take_snoc hd]
        exact (ins_perm _ _ _).trans ((List.Perm.cons _ hpm).trans (List.perm_append_singleton _ _).symm)
      · exact Sub.sqL ((f2.kp c1.mem).trans km).er hsx
      · exact (hdx.f f2 c1.mem).k km
    · rintro σ H' ⟨u, vs, es, rfl, f1, h1p, hds, hpm, hsx, hdx⟩
      refine ⟨_, rfl, ?_⟩
      rw [hl, List.take_length] at hpm
      exact k _ es H' f1 hpm (Dm.lstOf (cb.kn.out hp) h1p hds)
end
end KZ

namespace KZ
open PySem PySem.Spec PyProof.Rows L2

def Names : List Str := ["a", "b", "c", "ab", "ba", "zz", "wait", "yield", "oust", "elder", "work", "kind", "abcdefgh", "z", "sort"]
def unS : PyData → Str
  | .str x => x
  | _ => ""
theorem perm_str {es : List PyData} {l : List Str} (h : es.Perm (l.map PyData.str)) : ∃ ns : List Str, es = ns.map PyData.str ∧ ns.Perm l := by
  refine ⟨es.map unS, ?_, ?_⟩
  · rw [List.map_map]
    have : ∀ e ∈ es, (PyData.str ∘ unS) e = e := fun e he => by
      obtain ⟨x, _, rfl⟩ := List.mem_map.mp (h.mem_iff.mp he)
      rfl
    exact (List.map_id es).symm.trans (List.map_congr_left fun e he => (this e he).symm)
  · have q := h.map unS
    rw [List.map_map] at q
    have e : l.map (unS ∘ PyData.str) = l := List.map_id l
    rw [e] at q
    exact q
theorem cutV_to {xs : List V} {m : Int} (h0 : 0 ≤ m) (h1 : m ≤ xs.length) : cutV xs none (some m) = xs.take m.toNat := by
  have e : ((m.toNat : Nat) : Int) = m := by omega
  unfold cutV
  rw [← e, HT.sIx_none, HT.sIx_nat, e, List.drop_zero, Nat.sub_zero, Nat.min_eq_left (by omega)]
theorem cutV_from {xs : List V} {m : Int} (h0 : 0 ≤ m) (h1 : m ≤ xs.length) : cutV xs (some m) none = xs.drop m.toNat := by
  have e : ((m.toNat : Nat) : Int) = m := by omega
  unfold cutV
  rw [← e, HT.sIx_none, HT.sIx_nat, e, Nat.min_eq_left (by omega)]
  exact List.take_of_length_le (by rw [List.length_drop]; omega)
def spNamed (K : PySem.W.Frag) : Sp := fun vs H Q _ => ∃ (M : List Addr) (b l : Addr) (m : Int), vs = [.ref b, .int m] ∧ Cb M b l H ∧ 0 ≤ m ∧ m ≤ 15 ∧
  ∀ (y : V) (ns : List Str) (H' : Hp), Fr b l H H' → ns.length = m.toNat → (∀ n ∈ ns, n ∈ Names) → ns.Nodup → Dm K M H' y (.list (ns.map PyData.str)) → Q y H'
theorem names_nd : Names.Nodup := by decide +kernel
theorem dps_strs {K : PySem.W.Frag} {H : Hp} : ∀ l : List Str, DpAll K H (l.map V.str) (l.map PyData.str)
  | [] => .nil
  | x :: l => .cons (.str x) (dps_strs l)
section
variable {P : Program} {w : World} {K : PySem.W.Frag} {mg : Str → Option Value} {base : Heap}
abbrev sNamed : Stmt := topS 20
theorem scNamed : FnScope ["bag", "many", "names"] ["bag", "many"] (defScope sNamed) := ⟨rfl, rfl, rfl, by decide +kernel, rfl, by decide +kernel, by decide +kernel⟩
theorem ok_named {f fM : Addr} {fd fdM : FuncData} (F : Fun K "_law_named" "_law_named" sNamed f fd) (CM : Cal P w K mg base "_law_mixed" 2 ["bag", "things"] (spMixed K) fM fdM) : FnOk P w K mg base CX0 3 f fd ["bag", "many"] (spNamed K) := by
  refine F.ok scNamed (fun vs H Q E h => ?_) (fun cdv A outer s H vs Q E hr h => ?_)
  · obtain ⟨M, b, l, m, rfl, _⟩ := h
    rfl
  · obtain ⟨M, b, l, m, rfl, cb, h0, h1, k⟩ := h
    refine ⟨_, pss_cons (ps_set (i := 2) scNamed.nd rfl (Or.inl rfl) (pe_lst (pa_cons pe_str (pa_cons pe_str (pa_cons pe_str (pa_cons pe_str (pa_cons pe_str (pa_cons pe_str (pa_cons pe_str (pa_cons pe_str (pa_cons pe_str (pa_cons pe_str
        (pa_cons pe_str (pa_cons pe_str (pa_cons pe_str (pa_cons pe_str (pa_cons pe_str pa_nil)))))))))))))))))
      (pss_one (ps_ret (pe_slice sl_list (pcl CM hr (pa_cons (pv 0) (pa_cons (pv 2) pa_nil))) po_none (po_some (pv 1))))), ?_⟩
    refine ⟨by show 15 ≤ sizeLine; decide, fun p hp => ?_⟩
    have f0 : Fr b l H (upd H p (.lst (Names.map V.str))) := Fr.new cb.bag hp
    have d0 : Dm K M (upd H p (.lst (Names.map V.str))) (.ref p) (.list (Names.map PyData.str)) := Dm.lstNew cb.kn hp (dps_strs Names)
    refine ⟨_, rfl, _, rfl, M, b, l, _, _, rfl, cb.fr f0, d0, by show 15 < 100000; decide, fun y es H' f1 hpm hy => ?_⟩
    obtain ⟨ns, rfl, hns⟩ := perm_str hpm
    have hlen : ns.length = 15 := hns.length_eq
    obtain ⟨a, xs, rfl, hs, ha⟩ := hy.lstAt
    have hl := ha.len
    rw [List.length_map, hlen] at hl
    refine ⟨_, rfl, _, rfl, a, xs, rfl, hs, fun q hq => ?_⟩
    rw [cutV_to h0 (by omega)]
    have f2 := (f0.trans f1).trans (Fr.new f1.bag hq (o := .lst (xs.take m.toNat)))
    refine k _ (ns.take m.toNat) _ f2 (by rw [List.length_take]; omega) (fun n hn => hns.mem_iff.mp (List.mem_of_mem_take hn)) ((hns.nodup_iff.mpr names_nd).sublist (List.take_sublist _ _)) ?_
    rw [List.map_take]
    exact Dm.lstNew ((cb.fr f0).fr f1).kn hq (ha.take _)
end

/-! kinds -/
abbrev Kd := Str × Bool × Int
def kdD (k : Kd) : PyData := .tuple [.str k.1, .bool k.2.1, .int k.2.2]
structure KdsOk (ks : List Kd) : Prop where
  name : ∀ k ∈ ks, k.1 ∈ Names
  nd : (ks.map (·.1)).Nodup
  rise : ∀ (i : Nat) (k : Kd), ks[i]? = some k → (i : Int) ≤ k.2.2 ∧ k.2.2 < ks.length
def spKinds (K : PySem.W.Frag) : Sp := fun vs H Q _ => ∃ (M : List Addr) (b l : Addr) (m : Int) (v : V) (bs : List Bool), vs = [.ref b, .int m, v] ∧ Cb M b l H ∧ 0 ≤ m ∧ m ≤ 15 ∧ Dm K M H v (.list (bs.map PyData.bool)) ∧ 0 < bs.length ∧ bs.length < 1000 ∧
  ∀ (y : V) (ks : List Kd) (H' : Hp), Fr b l H H' → ks.length = m.toNat → KdsOk ks → Dm K M H' y (.tuple (ks.map kdD)) → Q y H'
section
variable {P : Program} {w : World} {K : PySem.W.Frag} {mg : Str → Option Value} {base : Heap}
abbrev sKinds : Stmt := topS 21
theorem scKinds : FnScope ["bag", "many", "keeps", "names", "found", "k", "rise"] ["bag", "many", "keeps"] (defScope sKinds) := ⟨rfl, rfl, rfl, by decide +kernel, rfl, by decide +kernel, by decide +kernel⟩
theorem bootTuple : bootBuiltins "tuple" = some (.type "tuple") := by decide +kernel
theorem dm_get {K : PySem.W.Frag} {M : List Addr} {H : Hp} {v : V} {ds : List PyData} {i : Int} {d : PyData} (h : Dm K M H v (.list ds)) (h0 : 0 ≤ i) (e : ds[i.toNat]? = some d) : ∃ a xs y, v = .ref a ∧ SqL K H a xs ∧ atI xs i = some y ∧ Dm K M H y d := by
  obtain ⟨a, xs, rfl, hs, ha⟩ := h.lstAt
  obtain ⟨y, hy, hd⟩ := ha.get e
  have q := atI_nat hy
  rw [show ((i.toNat : Nat) : Int) = i by omega] at q
  exact ⟨a, xs, y, rfl, hs, q, hd⟩
theorem dm_getT {K : PySem.W.Frag} {M : List Addr} {H : Hp} {v : V} {ds : List PyData} {i : Int} {d : PyData} (h : Dm K M H v (.tuple ds)) (h0 : 0 ≤ i) (e : ds[i.toNat]? = some d) : ∃ a xs y, v = .ref a ∧ SqT K H a xs ∧ atI xs i = some y ∧ Dm K M H y d := by
  obtain ⟨a, xs, rfl, hs, ha⟩ := h.tupAt
  obtain ⟨y, hy, hd⟩ := ha.get e
  have q := atI_nat hy
  rw [show ((i.toNat : Nat) : Int) = i by omega] at q
  exact ⟨a, xs, y, rfl, hs, q, hd⟩
theorem ok_kinds {f fT fS fN : Addr} {fd fdT fdS fdN : FuncData} (F : Fun K "_law_kinds" "_law_kinds" sKinds f fd) (T : Txt mg) (CT : Cal P w K mg base "_law_take" 1 ["bag", "upto"] spTake fT fdT)
    (CS : Cal P w K mg base "_law_some" 2 ["bag", "things"] (spSome K) fS fdS) (CN : Cal P w K mg base "_law_named" 3 ["bag", "many"] (spNamed K) fN fdN) : FnOk P w K mg base CX0 4 f fd ["bag", "many", "keeps"] (spKinds K) := by
  refine F.ok scKinds (fun vs H Q E h => ?_) (fun cdv A outer s H vs Q E hr h => ?_)
  · obtain ⟨M, b, l, m, v, bs, rfl, _⟩ := h
    rfl
  · obtain ⟨M, b, l, m, v, bs, rfl, cb, h0, h1, hv, b0, b1, k⟩ := h
    have hr1 : Room 1 _ := hr.mono (by decide)
    have hr2 : Room 2 _ := hr.mono (by decide)
    refine ⟨_, pss_cons (ps_par (i := 3) (j := 4) rfl scKinds.nd rfl rfl (by decide) rfl rfl (pa_cons (pcl CN hr (pa_cons (pv 0) (pa_cons (pv 1) pa_nil))) (pa_cons (pe_lst pa_nil) pa_nil)) rfl)
      (pss_cons (ps_for PassesOwn.never rfl (pi_range1 rfl T.range (pa_cons (pv 1) pa_nil)) (pg_name (i := 5) scKinds.nd rfl (Or.inl rfl))
        (Evl.pss_cut (ps_set (i := 6) scKinds.nd rfl (Or.inl rfl) (pe_ifExp (pt_cmpR op_eq (pcl CT hr1 (pa_cons (pv 0) (pa_cons pe_int pa_nil))) pe_int (nomark _)) (pe_op op_add (pv 5) (pcl CT hr1 (pa_cons (pv 0) (pa_cons (pe_op op_sub (pv 1) (pv 5)) pa_nil)))) (pv 5)))
        (pss_one (ps_expr (pe_bm PySem.F.plainAttrs_list PySem.F.slot_list_append PySem.F.type_list_append mt_append (pv 4)
          (pa_cons (pe_tup (pa_cons (pe_ix ix_list (pv 3) (pv 5) (fun _ _ => rfl)) (pa_cons (pcl CS hr2 (pa_cons (pv 0) (pa_cons (pv 2) pa_nil))) (pa_cons (pv 6) pa_nil)))) pa_nil))))))
      (pss_one (ps_ret (pe_callTy call_tuple_of (by rfl) T.tuple bootTuple (pa_cons (pv 4) pa_nil))))), ?_⟩
    refine ⟨_, rfl, _, rfl, M, b, l, m, rfl, cb, h0, h1, fun yn ns H1 f1 hnl hnN hnd hyn => ?_⟩
    refine ⟨Nat.zero_le _, fun p hp => ?_⟩
    have c1 := cb.fr f1
    have hp0 : H p = none := f1.free cb.bag hp
    refine ⟨_, _, rfl, ?_⟩
    have km {o : HO} : Kp (p :: M) H1 (upd H1 p o) := Kp.mut List.mem_cons_self
    have f2 : Fr b l H (upd H1 p (.lst [])) := f1.mut cb.bag hp0
    refine ⟨_, rfl, m, rfl, by omega, by omega, for_range (lo := 0) (n := m.toNat) (fun i σ H' => ∃ (u1 u2 : Option V) (vs : List V) (ks : List Kd), σ = [some (.ref b), some (.int m), some v, some yn, some (.ref p), u1, u2] ∧ Fr b l H H' ∧ H' p = some (.lst vs) ∧ Dms K (p :: M) H' vs (ks.map kdD) ∧
        ks.length = i ∧ ks.map (·.1) = ns.take i ∧ (∀ (j : Nat) (k : Kd), ks[j]? = some k → (j : Int) ≤ k.2.2 ∧ k.2.2 < m) ∧ Dm K (p :: M) H' yn (.list (ns.map PyData.str)) ∧ Dm K (p :: M) H' v (.list (bs.map PyData.bool)))
      ⟨none, none, [], [], rfl, f2, upd_same, .nil, rfl, rfl, fun j k e => by simp at e, (hyn.more hp).k km, ((hv.f f1 cb.mem).more hp).k km⟩ ?_ ?_⟩
    · rintro i σ H' hi ⟨u1, u2, vs, ks, rfl, f3, h3p, hds, hkl, hkn, hkr, hdn, hdv⟩
      have c3 : Cb (p :: M) b l H' := (cb.fr f3).more ⟨_, h3p⟩
      have pb := ne_new cb.bag.at hp0
      have hi' : (i : Int) < m := by omega
      refine ⟨fun σ' H4 => ∃ r : Int, σ' = [some (.ref b), some (.int m), some v, some yn, some (.ref p), some (.int ((0 : Int) + (i : Nat))), some (.int r)] ∧ Fr b l H' H4 ∧ (i : Int) ≤ r ∧ r < m, ?_, ?_⟩
      · refine ⟨_, rfl, b, l, _, rfl, f3.bag, by decide, by decide, fun j H4 f4 j0 j1 => ⟨rfl, _, rfl, ite2 (fun e => ?_) (fun e => ?_)⟩⟩
        · exact ⟨_, rfl, _, rfl, _, rfl, _, rfl, _, _, rfl, rfl, b, l, _, rfl, f4.bag, by omega, by omega, fun j2 H5 f5 j20 j21 => ⟨_, _, rfl, rfl, _, rfl, f4.trans f5, by omega, by omega⟩⟩
        · exact ⟨_, rfl, _, by simp [List.set], f4, Int.le_refl _, hi'⟩
      rintro σ4 H4 ⟨r, rfl, f4, r0, r1⟩
      have h4p : H4 p = some (.lst vs) := f4.k p _ (by simp [pb]) h3p
      have hdn4 := Dm.f hdn f4 c3.mem
      have hni : (ns.map PyData.str)[((0 : Int) + (i : Nat)).toNat]? = some (.str (ns[i]'(by omega))) := by
        rw [show ((0 : Int) + (i : Nat)).toNat = i by omega, List.getElem?_map, List.getElem?_eq_getElem (by omega)]
        rfl
      obtain ⟨a, xs, y, rfl, hsx, hat, hdy⟩ := dm_get hdn4 (by omega) hni
      have hy := hdy.strAt
      refine ⟨_, rfl, .inl ⟨rfl, _, SqL.of h4p⟩, _, rfl, _, rfl, a, xs, _, y, rfl, rfl, hsx, hat, ?_⟩
      refine ⟨_, rfl, _, rfl, p :: M, b, l, v, _, rfl, c3.fr f4, .inl (Dm.f hdv f4 c3.mem), by rw [List.length_map]; exact b0, by rw [List.length_map]; omega, fun z d H5 f5 hd hz => ?_⟩
      obtain ⟨bb, _, rfl⟩ := List.mem_map.mp hd
      refine ⟨_, rfl, by show 3 ≤ sizeLine; decide, fun q hq => ?_⟩
      have h5p : H5 p = some (.lst vs) := f5.k p _ (by simp [pb]) h4p
      have c5 := (c3.fr f4).fr f5
      have f6 := f5.trans (Fr.new f5.bag hq (o := .tup [y, z, .int r]))
      have h6p : upd H5 q (.tup [y, z, .int r]) p = some (.lst vs) := by
        rw [upd_ne (ne_of_none h5p hq)]
        exact h5p
      have hdq : Dm K (p :: M) (upd H5 q (.tup [y, z, .int r])) (.ref q) (kdD (ns[i]'(by omega), bb, r)) := Dm.tupNew c5.kn hq (.cons (Dm.f hdy f5 c5.mem) (.cons hz (.cons (.int r) .nil)))
      refine ⟨p, vs, _, rfl, rfl, h6p, szl (by have := hds.len; rw [List.length_map] at this; omega), ?_⟩
      have km2 {o : HO} : Kp (p :: M) (upd H5 q (.tup [y, z, .int r])) (upd (upd H5 q (.tup [y, z, .int r])) p o) := Kp.mut List.mem_cons_self
      have f7 := f4.trans f6
      refine ⟨_, _, _, ks ++ [(ns[i]'(by omega), bb, r)], rfl, (f3.trans f7).mut cb.bag hp0, upd_same, ?_, by rw [List.length_append, hkl]; rfl, ?_, ?_, (Dm.f hdn f7 c3.mem).k km2, (Dm.f hdv f7 c3.mem).k km2⟩
      · rw [List.map_append]
        exact Dms.k ((hds.f f7 c3.mem).app (DpAll.one hdq)) km2
      · rw [List.map_append, hkn]
        exact (take_snoc (List.getElem?_eq_getElem (by omega))).symm
      · intro j k e
        rcases Nat.lt_or_ge j ks.length with q | q
        · rw [List.getElem?_append_left q] at e
          exact hkr j k e
        · rw [List.getElem?_append_right q] at e
          have ej : j - ks.length = 0 := by
            by_cases z : j - ks.length = 0
            · exact z
            · rw [List.getElem?_eq_none (by simp; omega)] at e
              cases e
          rw [ej] at e
          cases Option.some.inj e
          exact ⟨by show (j : Int) ≤ r; omega, r1⟩
    · rintro σ H' ⟨u1, u2, vs, ks, rfl, f3, h3p, hds, hkl, hkn, hkr, hdn, hdv⟩
      refine ⟨_, rfl, p, vs, rfl, .inl ⟨SqL.of h3p, fun q hq => ?_⟩⟩
      rw [List.take_of_length_le (by omega)] at hkn
      have f4 := f3.trans (Fr.new f3.bag hq (o := .tup vs))
      refine k _ ks _ f4 hkl ⟨fun k hk => hnN _ (by rw [← hkn]; exact List.mem_map_of_mem hk), by rw [hkn]; exact hnd, fun j k e => ⟨(hkr j k e).1, by have := (hkr j k e).2; omega⟩⟩ ?_
      exact Dm.tupNew (cb.fr f3).kn hq (hds.less fun a h => List.mem_cons_of_mem _ h)
end
end KZ

namespace KZ
open PySem PySem.Spec PyProof.Rows L2

/-! what an expression without a bag comes to, as data -/
def EvD (K : PySem.W.Frag) (M : List Addr) (te : TE) (σ : L2.St) (H : Hp) (d : PyData) : Prop := ∀ H1, Sub H H1 → ∀ Q : VK, (∀ v H', Sub H1 H' → Dm K M H' v d → Q v H') → te σ H1 Q
def EvDs (K : PySem.W.Frag) (M : List Addr) (ta : TA) (σ : L2.St) (H : Hp) (ds : List PyData) : Prop := ∀ H1, Sub H H1 → ∀ Q : List V → Hp → Prop, (∀ vs H', Sub H1 H' → Dms K M H' vs ds → Q vs H') → ta σ H1 Q
def EvO (to : TO) (σ : L2.St) (H : Hp) (o : Option Int) : Prop := ∀ H1, Sub H H1 → ∀ Q : Option Int → Hp → Prop, (∀ H', Sub H1 H' → Q o H') → to σ H1 Q
section
variable {K : PySem.W.Frag} {M : List Addr} {σ : L2.St} {H H' : Hp} {ta tb te : TE} {tr : TA} {tl th : TO} {d e : PyData} {ds es : List PyData} {v : V}
theorem EvD.sub (h : EvD K M te σ H d) (s : Sub H H') : EvD K M te σ H' d := fun H1 s1 => h H1 (s.trans s1)
theorem evd_var {i : Nat} (h : σ[i]? = some (some v)) (hd : Dm K M H v d) : EvD K M (tVar i) σ H d := fun H1 s Q q => ⟨v, h, q v H1 (Sub.refl _) (Dm.s hd s)⟩
theorem evd_int {i : Int} : EvD K M (tC (.int i)) σ H (.int i) := fun H1 s Q q => q _ H1 (Sub.refl _) (.int i)
theorem evd_str {x : Str} : EvD K M (tC (.str x)) σ H (.str x) := fun H1 s Q q => q _ H1 (Sub.refl _) (.str x)
theorem evd_bl {b : Bool} : EvD K M (tC (.bl b)) σ H (.bool b) := fun H1 s Q q => q _ H1 (Sub.refl _) (.bl b)
theorem evds_nil : EvDs K M tNil σ H [] := fun H1 s Q q => q [] H1 (Sub.refl _) .nil
theorem evds_cons (h : EvD K M ta σ H d) (hr : EvDs K M tr σ H ds) : EvDs K M (tCons ta tr) σ H (d :: ds) := fun H1 s Q q =>
  h H1 s _ fun v H2 s2 hd => hr H2 (s.trans s2) _ fun vs H3 s3 hds => q _ H3 (s2.trans s3) (.cons (Dm.s hd s3) hds)
theorem evd_tup (n : Kn M H) (h : EvDs K M tr σ H ds) (hl : ds.length < 1000000) : EvD K M (tTup tr) σ H (.tuple ds) := fun H1 s Q q =>
  h H1 s _ fun vs H2 s2 hds => ⟨Nat.le_of_lt (szl (by rw [hds.len]; exact hl)), fun p hp => q _ _ (s2.trans (Sub.new hp)) (Dm.tupNew (n.sub (s.trans s2)) hp hds)⟩
theorem evd_lst (n : Kn M H) (h : EvDs K M tr σ H ds) (hl : ds.length < 1000000) : EvD K M (tLst tr) σ H (.list ds) := fun H1 s Q q =>
  h H1 s _ fun vs H2 s2 hds => ⟨Nat.le_of_lt (szl (by rw [hds.len]; exact hl)), fun p hp => q _ _ (s2.trans (Sub.new hp)) (Dm.lstNew (n.sub (s.trans s2)) hp hds)⟩
theorem evd_ixT {i : Int} (h : EvD K M ta σ H (.tuple ds)) (hi : EvD K M tb σ H (.int i)) (h0 : 0 ≤ i) (hd : ds[i.toNat]? = some d) : EvD K M (tOp (rIxT K) ta tb) σ H d := fun H1 s Q q =>
  h H1 s _ fun v H2 s2 hv => hi H2 (s.trans s2) _ fun u H3 s3 hu => by
    obtain ⟨a, xs, y, rfl, hs, hat, hy⟩ := dm_getT (Dm.s hv s3) h0 hd
    cases hu.intAt
    exact ⟨a, xs, i, y, rfl, rfl, hs, hat, q y H3 (s2.trans s3) hy⟩
theorem evd_ixL {i : Int} (h : EvD K M ta σ H (.list ds)) (hi : EvD K M tb σ H (.int i)) (h0 : 0 ≤ i) (hd : ds[i.toNat]? = some d) : EvD K M (tOp (rIxL K) ta tb) σ H d := fun H1 s Q q =>
  h H1 s _ fun v H2 s2 hv => hi H2 (s.trans s2) _ fun u H3 s3 hu => by
    obtain ⟨a, xs, y, rfl, hs, hat, hy⟩ := dm_get (Dm.s hv s3) h0 hd
    cases hu.intAt
    exact ⟨a, xs, i, y, rfl, rfl, hs, hat, q y H3 (s2.trans s3) hy⟩
theorem evo_none : EvO tNoPart σ H none := fun H1 _ Q q => q H1 (Sub.refl _)
theorem evo_some {i : Int} (h : EvD K M te σ H (.int i)) : EvO (tPart te) σ H (some i) := fun H1 s Q q => h H1 s _ fun v H2 s2 hv => by
  cases hv.intAt
  exact ⟨i, rfl, q H2 s2⟩
def cutD (ds : List PyData) (lo hi : Option Int) : List PyData := (ds.drop (HT.sIx ds.length 0 lo)).take (HT.sIx ds.length ds.length hi - HT.sIx ds.length 0 lo)
theorem dps_cut {vs : List V} (h : DpAll K H vs ds) (lo hi : Option Int) : DpAll K H (cutV vs lo hi) (cutD ds lo hi) := by
  unfold cutV cutD
  rw [h.len]
  exact (h.drop _).take _
theorem cutD_to {m : Int} (h0 : 0 ≤ m) (h1 : m ≤ ds.length) : cutD ds none (some m) = ds.take m.toNat := by
  have e : ((m.toNat : Nat) : Int) = m := by omega
  unfold cutD
  rw [← e, HT.sIx_none, HT.sIx_nat, e, List.drop_zero, Nat.sub_zero, Nat.min_eq_left (by omega)]
theorem cutD_from {m : Int} (h0 : 0 ≤ m) (h1 : m ≤ ds.length) : cutD ds (some m) none = ds.drop m.toNat := by
  have e : ((m.toNat : Nat) : Int) = m := by omega
  unfold cutD
  rw [← e, HT.sIx_none, HT.sIx_nat, e, Nat.min_eq_left (by omega)]
  exact List.take_of_length_le (by rw [List.length_drop]; omega)
theorem evd_slT {lo hi : Option Int} (n : Kn M H) (h : EvD K M te σ H (.tuple ds)) (h1 : EvO tl σ H lo) (h2 : EvO th σ H hi) : EvD K M (tSl (rSlA K) te tl th) σ H (.tuple (cutD ds lo hi)) := fun H1 s Q q =>
  h H1 s _ fun v H2 s2 hv => h1 H2 (s.trans s2) _ fun H3 s3 => h2 H3 ((s.trans s2).trans s3) _ fun H4 s4 => by
    have hv4 := Dm.s (Dm.s hv s3) s4
    obtain ⟨a, xs, rfl, hs, ha⟩ := hv4.tupAt
    refine ⟨a, xs, rfl, hs, fun w => q _ H4 ((s2.trans s3).trans s4) ?_, fun _ p hp => q _ _ (((s2.trans s3).trans s4).trans (Sub.new hp)) (Dm.tupNew (n.sub (((s.trans s2).trans s3).trans s4)) hp (dps_cut ha lo hi))⟩
    have e : cutD ds lo hi = ds := by
      unfold cutD
      rw [ha.len] at w
      rw [w.1, w.2, List.drop_zero, Nat.sub_zero, List.take_length]
    rw [e]
    exact hv4
theorem evd_slL {lo hi : Option Int} (n : Kn M H) (h : EvD K M te σ H (.list ds)) (h1 : EvO tl σ H lo) (h2 : EvO th σ H hi) : EvD K M (tSl (rSlL K) te tl th) σ H (.list (cutD ds lo hi)) := fun H1 s Q q =>
  h H1 s _ fun v H2 s2 hv => h1 H2 (s.trans s2) _ fun H3 s3 => h2 H3 ((s.trans s2).trans s3) _ fun H4 s4 => by
    have hv4 := Dm.s (Dm.s hv s3) s4
    obtain ⟨a, xs, rfl, hs, ha⟩ := hv4.lstAt
    exact ⟨a, xs, rfl, hs, fun p hp => q _ _ (((s2.trans s3).trans s4).trans (Sub.new hp)) (Dm.lstNew (n.sub (((s.trans s2).trans s3).trans s4)) hp (dps_cut ha lo hi))⟩
theorem evd_catT (n : Kn M H) (h : EvD K M ta σ H (.tuple ds)) (h2 : EvD K M tb σ H (.tuple es)) (hl : ds.length + es.length < 1000000) : EvD K M (tOp (rCatA K) ta tb) σ H (.tuple (ds ++ es)) := fun H1 s Q q =>
  h H1 s _ fun v H2 s2 hv => h2 H2 (s.trans s2) _ fun u H3 s3 hu => by
    have hv3 := Dm.s hv s3
    obtain ⟨a, xs, rfl, hs, ha⟩ := hv3.tupAt
    obtain ⟨b, ys, rfl, hs', hb⟩ := hu.tupAt
    have l1 := ha.len
    have l2 := hb.len
    refine ⟨a, b, xs, ys, rfl, rfl, hs, hs', Nat.le_of_lt (szl (by omega)), fun z => ?_, fun _ z => ?_, fun _ _ p hp => ?_⟩
    · have e : ds = [] := List.eq_nil_of_length_eq_zero (by rw [← l1, z]; rfl)
      rw [e, List.nil_append] at q
      exact q _ H3 (s2.trans s3) hu
    · have e : es = [] := List.eq_nil_of_length_eq_zero (by rw [← l2, z]; rfl)
      rw [e, List.append_nil] at q
      exact q _ H3 (s2.trans s3) hv3
    · exact q _ _ ((s2.trans s3).trans (Sub.new hp)) (Dm.tupNew (n.sub ((s.trans s2).trans s3)) hp (ha.app hb))
/-- a list that is new -/
def EvNL (K : PySem.W.Frag) (M : List Addr) (te : TE) (σ : L2.St) (H : Hp) (ds : List PyData) : Prop := ∀ H1, Sub H H1 → ∀ Q : VK, (∀ p xs H', Sub H1 H' → H1 p = none → H' p = some (.lst xs) → Dms K (p :: M) H' xs ds → Q (.ref p) H') → te σ H1 Q
theorem EvNL.toD (n : Kn M H) (h : EvNL K M te σ H ds) : EvD K M te σ H (.list ds) := fun H1 s Q q => h H1 s Q fun p xs H' s2 hp e hx => q _ H' s2 (Dm.lstOf ((n.sub s).out hp) e hx)
theorem evn_lst (h : EvDs K M tr σ H ds) (hl : ds.length < 1000000) : EvNL K M (tLst tr) σ H ds := fun H1 s Q q =>
  h H1 s _ fun vs H2 s2 hds => ⟨Nat.le_of_lt (szl (by rw [hds.len]; exact hl)), fun p hp => q p vs _ (s2.trans (Sub.new hp)) (s2.free hp) upd_same (Dms.k (hds.more hp) (Kp.mut List.mem_cons_self))⟩
theorem evd_lc {vs : List Nat} {j : Nat} (g : PyData → PyData) (n : Kn M H) (h : EvD K M te σ H (.list ds)) (hz : ds.length < 100000) (hw : ∀ x, wipe ((wipe σ vs).set j (some x)) vs = wipe σ vs)
    (he : ∀ (Dl : Addr), H Dl = none → ∀ (d : PyData) (x : V) (H1 : Hp), Sub H H1 → Kn (Dl :: M) H1 → d ∈ ds → Dm K (Dl :: M) H1 x d → EvD K (Dl :: M) tb ((wipe σ vs).set j (some x)) H1 (g d)) : EvNL K M (tLc (iList K te) (gName j) tYes tb vs) σ H (ds.map g) := fun H1 s Q q =>
  h H1 s _ fun v H2 s2 hv => by
    obtain ⟨a, xs, rfl, hs, ha⟩ := hv.lstAtE
    have s02 := s.trans s2
    have hl := ha.len
    refine ⟨a, rfl, ⟨xs, (er_sub _ _).sqL hs⟩, fun Dl hD => ?_⟩
    have h0D : H Dl = none := s02.free hD
    refine lc_list (K := K) (a := a) (xs := xs) (fun i H' => Sub H2 H' ∧ ∃ acc, H' Dl = some (.lst acc) ∧ Dms K (Dl :: M) H' acc ((ds.take i).map g) ∧ SqL K (er (Dl :: M) H') a xs ∧ Dms K (Dl :: M) H' xs ds)
      ⟨Sub.new hD, [], upd_same, .nil, Sub.sqL (Kp.er (Kp.mut List.mem_cons_self)) (by rw [er_more hD]; exact hs), (ha.more hD).k (Kp.mut List.mem_cons_self)⟩ (fun i H' _ p => ?_) (fun i x H' hi p => ?_) (fun H' p => ?_)
    · obtain ⟨_, acc, _, _, p3, _⟩ := p
      exact (er_sub _ _).sqL p3
    · obtain ⟨sp, acc, p1, p2, p3, p4⟩ := p
      obtain ⟨d, hd, hx⟩ := p4.get' hi
      refine ⟨hw x, ?_⟩
      unfold tYes
      dsimp only
      rw [if_pos rfl]
      refine he Dl h0D d x H' (s02.trans sp) ((n.sub (s02.trans sp)).more ⟨_, p1⟩) (List.mem_of_getElem? hd) hx H' (Sub.refl _) _ fun y H3 s3 hy => ⟨acc, s3 _ _ p1, ?_, ?_⟩
      · have q1 := p2.len
        rw [List.length_map, List.length_take] at q1
        exact szl (by omega)
      · have km : Kp (Dl :: M) H3 (upd H3 Dl (.lst (acc ++ [y]))) := Kp.mut List.mem_cons_self
        refine ⟨(sp.trans s3).mut hD, _, upd_same, ?_, Sub.sqL km.er (Sub.sqL (Kp.er fun a o _ e => s3 a o e) p3), (Dms.s p4 s3).k km⟩
        rw [take_snoc hd, List.map_append]
        exact Dms.k ((Dms.s p2 s3).app (DpAll.one hy)) km
    · obtain ⟨sp, acc, p1, p2, p3, p4⟩ := p
      rw [hl, List.take_length] at p2
      exact q Dl acc H' (s2.trans sp) (s2.free hD) p1 p2
theorem evd_lcR {vs : List Nat} {j : Nat} {m : Int} (g : Nat → PyData) (n : Kn M H) (h : EvDs K M tr σ H [.int m]) (h0 : 0 ≤ m) (hz : m < 100000) (hw : ∀ x, wipe ((wipe σ vs).set j (some x)) vs = wipe σ vs)
    (he : ∀ (Dl : Addr), H Dl = none → ∀ (i : Nat) (H1 : Hp), Sub H H1 → Kn (Dl :: M) H1 → (i : Int) < m → EvD K (Dl :: M) tb ((wipe σ vs).set j (some (.int (i : Int)))) H1 (g i)) : EvNL K M (tLc (iRng1 tr) (gName j) tYes tb vs) σ H ((List.range m.toNat).map g) := fun H1 s Q q =>
  h H1 s _ fun us H2 s2 hv => by
    cases hv with
    | cons hv1 hv2 =>
    cases hv2
    cases hv1
    have s02 := s.trans s2
    refine ⟨m, rfl, by omega, by omega, fun Dl hD => ?_⟩
    have h0D : H Dl = none := s02.free hD
    refine lc_range (lo := 0) (n := m.toNat) (fun i H' => Sub H2 H' ∧ ∃ acc, H' Dl = some (.lst acc) ∧ Dms K (Dl :: M) H' acc ((List.range i).map g))
      ⟨Sub.new hD, [], upd_same, .nil⟩ (fun i H' hi p => ?_) (fun H' p => ?_)
    · obtain ⟨sp, acc, p1, p2⟩ := p
      rw [show (0 : Int) + (i : Nat) = (i : Int) by omega]
      refine ⟨hw _, ?_⟩
      unfold tYes
      dsimp only
      rw [if_pos rfl]
      refine he Dl h0D i H' (s02.trans sp) ((n.sub (s02.trans sp)).more ⟨_, p1⟩) (by omega) H' (Sub.refl _) _ fun y H3 s3 hy => ⟨acc, s3 _ _ p1, ?_, ?_⟩
      · have q1 := p2.len
        rw [List.length_map, List.length_range] at q1
        exact szl (by omega)
      · have km : Kp (Dl :: M) H3 (upd H3 Dl (.lst (acc ++ [y]))) := Kp.mut List.mem_cons_self
        refine ⟨(sp.trans s3).mut hD, _, upd_same, ?_⟩
        rw [List.range_succ, List.map_append]
        exact Dms.k ((Dms.s p2 s3).app (DpAll.one hy)) km
    · obtain ⟨sp, acc, p1, p2⟩ := p
      exact q Dl acc H' (s2.trans sp) (s2.free hD) p1 p2
end

theorem lt1 {α : Type} {a : α} : [a].length < 1000000 := by
  show 1 < 1000000
  decide
theorem lt2 {α : Type} {a b : α} : [a, b].length < 1000000 := by
  show 2 < 1000000
  decide
theorem lt3 {α : Type} {a b c : α} : [a, b, c].length < 1000000 := by
  show 3 < 1000000
  decide
theorem lt4 {α : Type} {a b c d : α} : [a, b, c, d].length < 1000000 := by
  show 4 < 1000000
  decide
section
variable {K : PySem.W.Frag} {M : List Addr} {σ : L2.St} {H H' : Hp} {te : TE} {tr : TA} {d : PyData} {ds : List PyData} {D : Ends} {u : TS} {i : Nat} {sp : Sp} {E : XK} {Q : VK} {y : V}
theorem ret_of (h : te σ H D.rt) : tRet te D σ H := h
theorem set_of (h : te σ H fun x H1 => D.nx (σ.set i (some x)) H1) : tAsg te (gName i) D σ H := h
theorem sset_of (h : te σ H fun x H1 => u D (σ.set i (some x)) H1) : tSeq (tAsg te (gName i)) u D σ H := h
theorem evd_set (h : EvD K M te σ H d) (k : ∀ v H1, Sub H H1 → Dm K M H1 v d → D.nx (σ.set i (some v)) H1) : tAsg te (gName i) D σ H := h H (Sub.refl _) _ fun v H1 s hd => k v H1 s hd
theorem evd_sset (h : EvD K M te σ H d) (k : ∀ v H1, Sub H H1 → Dm K M H1 v d → u D (σ.set i (some v)) H1) : tSeq (tAsg te (gName i)) u D σ H := h H (Sub.refl _) _ fun v H1 s hd => k v H1 s hd
theorem evd_ret (h : EvD K M te σ H d) (k : ∀ v H1, Sub H H1 → Dm K M H1 v d → D.rt v H1) : tRet te D σ H := h H (Sub.refl _) _ fun v H1 s hd => k v H1 s hd
theorem evb_call (hb : σ[i]? = some (some y)) (h : EvDs K M tr σ H ds) (k : ∀ vs H1, Sub H H1 → Dms K M H1 vs ds → sp (y :: vs) H1 Q E) : tCall sp [] E (tCons (tVar i) tr) σ H Q :=
  ⟨y, hb, h H (Sub.refl _) _ fun vs H1 s hd => by
    dsimp only
    rw [List.append_nil]
    exact k vs H1 s hd⟩
theorem evd_callQ (h : EvDs K M tr σ H ds) (k : ∀ vs H1, Sub H H1 → Dms K M H1 vs ds → sp vs H1 Q E) : tCall sp [] E tr σ H Q :=
  h H (Sub.refl _) _ fun vs H1 s hd => by
    rw [List.append_nil]
    exact k vs H1 s hd
theorem Dms.one_at {vs : List V} (h : Dms K M H vs [d]) : ∃ v, vs = [v] ∧ Dm K M H v d := by
  cases h with
  | cons h1 h2 =>
    cases h2
    exact ⟨_, rfl, h1⟩
theorem Dms.two_at {vs : List V} {e : PyData} (h : Dms K M H vs [d, e]) : ∃ v w, vs = [v, w] ∧ Dm K M H v d ∧ Dm K M H w e := by
  cases h with
  | cons h1 h2 =>
    obtain ⟨w, rfl, h3⟩ := Dms.one_at h2
    exact ⟨_, _, rfl, h1, h3⟩
theorem Dms.three_at {vs : List V} {e f : PyData} (h : Dms K M H vs [d, e, f]) : ∃ v w x, vs = [v, w, x] ∧ Dm K M H v d ∧ Dm K M H w e ∧ Dm K M H x f := by
  cases h with
  | cons h1 h2 =>
    obtain ⟨w, x, rfl, h3, h4⟩ := Dms.two_at h2
    exact ⟨_, _, _, rfl, h1, h3, h4⟩
end

/-! the words that a couple may have -/
def Words : List Str := ["wait", "yield", "oust"]
abbrev Cp := Str × Str
def cpD (c : Cp) : PyData := .tuple [.str c.1, .str c.2]
def CpOk (c : Cp) : Prop := c.1 ∈ Words ∧ c.2 ∈ Words
def spMenu (K : PySem.W.Frag) : Sp := fun vs H Q _ => ∃ (M : List Addr) (b l : Addr) (x : Str), vs = [.ref b, .str x] ∧ Cb M b l H ∧
  ∀ (y : V) (cs : List Cp) (H' : Hp), Fr b l H H' → 0 < cs.length → cs.length < 10 → (∀ c ∈ cs, CpOk c) → Dm K M H' y (.list (cs.map cpD)) → Q y H'
section
variable {P : Program} {w : World} {K : PySem.W.Frag} {mg : Str → Option Value} {base : Heap}
abbrev sMenu : Stmt := topS 22
theorem scMenu : FnScope ["bag", "style", "words", "found", "word", "other"] ["bag", "style"] (defScope sMenu) := ⟨rfl, rfl, rfl, by decide +kernel, rfl, by decide +kernel, by decide +kernel⟩
def eldM : List (List Cp) := [[("oust", "wait"), ("oust", "yield")], [("wait", "yield")], [("oust", "wait")]]
def youM : List (List Cp) := [[("wait", "oust")], [("yield", "wait"), ("yield", "oust")], [("yield", "oust")]]
def lcD (cs : List Cp) : PyData := .list (cs.map cpD)
theorem eld_ok : ∀ cs ∈ eldM, (∀ c ∈ cs, CpOk c) ∧ 0 < cs.length ∧ cs.length < 10 := by
  unfold eldM CpOk
  decide +kernel
theorem you_ok : ∀ cs ∈ youM, (∀ c ∈ cs, CpOk c) ∧ 0 < cs.length ∧ cs.length < 10 := by
  unfold youM CpOk
  decide +kernel
theorem ok_menu {f fS : Addr} {fd fdS : FuncData} (F : Fun K "_law_menu" "_law_menu" sMenu f fd) (T : Txt mg) 
    (CS : Cal P w K mg base "_law_some" 2 ["bag", "things"] (spSome K) fS fdS) : FnOk P w K mg base CX0 3 f fd ["bag", "style"] (spMenu K) := by
  refine F.ok scMenu (fun vs H Q E h => ?_) (fun cdv A outer s H vs Q E hr h => ?_)
  · obtain ⟨M, b, l, x, rfl, _⟩ := h
    rfl
  · obtain ⟨M, b, l, x, rfl, cb, k⟩ := h
    refine ⟨_, pss_cons (ps_set (i := 2) scMenu.nd rfl (Or.inl rfl) (pe_lst (pa_cons pe_str (pa_cons pe_str (pa_cons pe_str pa_nil)))))
      (pss_cons (ps_if (pt_cmpR op_eq (pv 1) pe_str (nomark _)) (pss_one (ps_ret (pcl CS hr (pa_cons (pv 0) (pa_cons
          (pe_lst (pa_cons (pe_lst (pa_cons (pe_tup (pa_cons pe_str (pa_cons pe_str pa_nil))) (pa_cons (pe_tup (pa_cons pe_str (pa_cons pe_str pa_nil))) pa_nil))) (pa_cons (pe_lst (pa_cons (pe_tup (pa_cons pe_str (pa_cons pe_str pa_nil))) pa_nil)) (pa_cons (pe_lst (pa_cons (pe_tup (pa_cons pe_str (pa_cons pe_str pa_nil))) pa_nil)) pa_nil)))) pa_nil))))) pss_nil)
      (pss_cons (ps_if (pt_cmpR op_eq (pv 1) pe_str (nomark _)) (pss_one (ps_ret (pcl CS hr (pa_cons (pv 0) (pa_cons
          (pe_lst (pa_cons (pe_lst (pa_cons (pe_tup (pa_cons pe_str (pa_cons pe_str pa_nil))) pa_nil)) (pa_cons (pe_lst (pa_cons (pe_tup (pa_cons pe_str (pa_cons pe_str pa_nil))) (pa_cons (pe_tup (pa_cons pe_str (pa_cons pe_str pa_nil))) pa_nil))) (pa_cons (pe_lst (pa_cons (pe_tup (pa_cons pe_str (pa_cons pe_str pa_nil))) pa_nil)) pa_nil)))) pa_nil))))) pss_nil)
      (Evl.pss_cut (ps_if (pt_cmpR op_eq (pv 1) pe_str (nomark _)) (pss_one (ps_set (i := 2) scMenu.nd rfl (Or.inl rfl) (pe_lst (pa_cons pe_str (pa_cons pe_str pa_nil))))) pss_nil)
      (pss_cons (ps_set (i := 3) scMenu.nd rfl (Or.inl rfl) (pe_lst pa_nil))
      (pss_cons (ps_for PassesOwn.never rfl (pi_list (pv 2)) (pg_name (i := 4) scMenu.nd rfl (Or.inr rfl))
        (pss_one (ps_expr (pe_bm PySem.F.plainAttrs_list PySem.F.slot_list_extend PySem.F.type_list_extend mt_extend (pv 3)
          (pa_cons (pe_lc (own := [("other", 5)]) (g := gName 5) (tt := tYes) rfl scMenu.nd (pi_list (pv 2)) (blkOk_by (N := ["bag", "style", "words", "found", "word", "other"]) (sc := defScope sMenu) (by decide +kernel)) (fun _ _ _ _ _ => pg_name (i := 5) scMenu.nd rfl (Or.inl rfl)) (fun _ _ _ _ _ => pts_nil)
            (fun _ _ _ _ _ => pe_tup (pa_cons (pv 4) (pa_cons (pv 5) pa_nil)))) pa_nil)))))
      (pss_one (ps_ret (pv 3)))))))), ?_⟩
    refine evd_sset (M := M) (K := K) (evd_lst cb.kn (evds_cons evd_str (evds_cons evd_str (evds_cons evd_str evds_nil))) lt3) fun vw H1 s1 hw => ?_
    have f1 : Fr b l H H1 := Fr.sub cb.bag s1
    have c1 := cb.fr f1
    have pr {y z : Str} {te te2 : TE} {σ : L2.St} {H : Hp} (n : Kn M H) (h1 : EvD K M te σ H (.str y)) (h2 : EvD K M te2 σ H (.str z)) : EvD K M (tTup (tCons te (tCons te2 tNil))) σ H (cpD (y, z)) := evd_tup n (evds_cons h1 (evds_cons h2 evds_nil)) lt2
    refine ⟨_, rfl, rfl, _, rfl, ite2 (fun e => ?_) (fun e => ?_)⟩
    · refine ret_of (evb_call (K := K) (M := M) rfl (evds_cons (evd_lst c1.kn (evds_cons (evd_lst c1.kn (evds_cons (pr c1.kn evd_str evd_str) (evds_cons (pr c1.kn evd_str evd_str) evds_nil)) lt2) (evds_cons (evd_lst c1.kn (evds_cons (pr c1.kn evd_str evd_str) evds_nil) lt1)
        (evds_cons (evd_lst c1.kn (evds_cons (pr c1.kn evd_str evd_str) evds_nil) lt1) evds_nil))) lt3) evds_nil) fun vs2 H2 s2 h2 => ?_)
      obtain ⟨v2, rfl, h2'⟩ := Dms.one_at h2
      have f2 := f1.trans (Fr.sub c1.bag s2)
      refine ⟨M, b, l, v2, eldM.map lcD, rfl, cb.fr f2, .inl h2', by decide, by decide, fun y d H3 f3 hd hy => ?_⟩
      obtain ⟨cs, hcs, rfl⟩ := List.mem_map.mp hd
      obtain ⟨o1, o2, o3⟩ := eld_ok cs hcs
      exact k y cs H3 (f2.trans f3) o2 o3 o1 hy
    refine ⟨_, rfl, rfl, _, rfl, ite2 (fun e => ?_) (fun e => ?_)⟩
    · refine ret_of (evb_call (K := K) (M := M) rfl (evds_cons (evd_lst c1.kn (evds_cons (evd_lst c1.kn (evds_cons (pr c1.kn evd_str evd_str) evds_nil) lt1) (evds_cons (evd_lst c1.kn (evds_cons (pr c1.kn evd_str evd_str) (evds_cons (pr c1.kn evd_str evd_str) evds_nil)) lt2)
        (evds_cons (evd_lst c1.kn (evds_cons (pr c1.kn evd_str evd_str) evds_nil) lt1) evds_nil))) lt3) evds_nil) fun vs2 H2 s2 h2 => ?_)
      obtain ⟨v2, rfl, h2'⟩ := Dms.one_at h2
      have f2 := f1.trans (Fr.sub c1.bag s2)
      refine ⟨M, b, l, v2, youM.map lcD, rfl, cb.fr f2, .inl h2', by decide, by decide, fun y d H3 f3 hd hy => ?_⟩
      obtain ⟨cs, hcs, rfl⟩ := List.mem_map.mp hd
      obtain ⟨o1, o2, o3⟩ := you_ok cs hcs
      exact k y cs H3 (f2.trans f3) o2 o3 o1 hy
    refine ⟨fun σ' H' => ∃ (vw : V) (ws : List Str), σ' = [some (.ref b), some (.str x), some vw, none, none, none] ∧ Fr b l H H' ∧ (∀ z ∈ ws, z ∈ Words) ∧ 0 < ws.length ∧ ws.length < 4 ∧ Dm K M H' vw (.list (ws.map PyData.str)), ?_, ?_⟩
    · refine ⟨_, rfl, rfl, _, rfl, ite2 (fun e => ?_) (fun e => ?_)⟩
      · refine evd_set (M := M) (K := K) (evd_lst c1.kn (evds_cons evd_str (evds_cons evd_str evds_nil)) lt2) fun vw2 H2 s2 hw2 => ?_
        exact ⟨vw2, ["wait", "yield"], rfl, f1.trans (Fr.sub c1.bag s2), by unfold Words; decide +kernel, by decide, by decide, hw2⟩
      · exact ⟨vw, Words, rfl, f1, fun z hz => hz, by decide, by decide, hw⟩
    rintro σ2 H2 ⟨vw, ws, rfl, f2, wOk, w0, w1, hw⟩
    refine ⟨Nat.zero_le _, fun p hp => ?_⟩
    have c2 := cb.fr f2
    have hp0 : H p = none := f2.free cb.bag hp
    have pb := ne_new cb.bag.at hp0
    obtain ⟨a, xs, rfl, hse, ha⟩ := hw.lstAtE
    have hl := ha.len
    rw [List.length_map] at hl
    have km0 {o : HO} : Kp (p :: M) H2 (upd H2 p o) := Kp.mut List.mem_cons_self
    refine ⟨_, rfl, a, rfl, ⟨_, (Sub.new hp).sqL ((er_sub _ _).sqL hse)⟩, for_list (K := K) (a := a) (xs := xs) (fun i σ H' => ∃ (u : Option V) (vs : List V) (cs : List Cp), σ = [some (.ref b), some (.str x), some (.ref a), some (.ref p), u, none] ∧ Fr b l H H' ∧ H' p = some (.lst vs) ∧ Dms K (p :: M) H' vs (cs.map cpD) ∧ cs.length = i * ws.length ∧ (∀ c ∈ cs, CpOk c) ∧
        SqL K (er (p :: M) H') a xs ∧ Dms K (p :: M) H' xs (ws.map PyData.str))
      ⟨none, [], [], rfl, f2.mut cb.bag hp0, upd_same, .nil, by simp, by simp, Sub.sqL (Kp.er km0) (by rw [er_more hp]; exact hse), (ha.more hp).k km0⟩ (fun i σ H' _ ⟨_, _, _, _, _, _, _, _, _, q, _⟩ => (er_sub _ _).sqL q) ?_ ?_⟩
    · rintro i y σ H' hi ⟨u, vs, cs, rfl, f3, h3p, hds, hcl, hco, hsx, hdx⟩
      have c3 : Cb (p :: M) b l H' := (cb.fr f3).more ⟨_, h3p⟩
      obtain ⟨d, hd, hy⟩ := hdx.get' hi
      rw [List.getElem?_map] at hd
      obtain ⟨z, hz, rfl⟩ := Option.map_eq_some_iff.mp hd
      cases Dm.strAt hy
      refine ⟨_, rfl, .inl ⟨rfl, _, SqL.of h3p⟩, ?_⟩
      have e1 : EvD K (p :: M) (tVar 2) ([some (V.ref b), some (V.str x), some (V.ref a), some (V.ref p), some (V.str z), none] : L2.St) H' (.list (ws.map PyData.str)) := evd_var rfl (.lst hsx hdx)
      refine (evd_lc (g := fun d => cpD (z, unS d)) c3.kn e1 (by rw [List.length_map]; omega) (fun _ => rfl) ?_) H' (Sub.refl _) _ fun q xs4 H4 s4 hq h4q h4 => ?_
      · intro Dl hD d x H5 s5 n5 hd5 hx5
        obtain ⟨z5, _, rfl⟩ := List.mem_map.mp hd5
        cases Dm.strAt hx5
        exact evd_tup n5 (evds_cons (evd_var rfl (.str z)) (evds_cons (evd_var rfl (.str z5)) evds_nil)) lt2
      have f4 : Fr b l H' H4 := Fr.sub c3.bag s4
      have h4p := s4 _ _ h3p
      have c4 := c3.fr f4
      rw [List.map_map] at h4
      have l1 := hds.len
      have l2 := h4.len
      rw [List.length_map] at l1 l2
      have hi4 := (List.getElem?_eq_some_iff.mp hi).1
      have hcl' : cs.length < 100 := by
        rw [hcl]
        have := Nat.mul_le_mul (show i ≤ 3 by omega) (show ws.length ≤ 3 by omega)
        omega
      refine ⟨p, q, vs, xs4, rfl, rfl, h4p, h4q, Nat.le_of_lt (szl (by omega)), ?_⟩
      have km {o : HO} : Kp (p :: M) H4 (upd H4 p o) := Kp.mut List.mem_cons_self
      have h4' : Dms K (p :: M) H4 xs4 ((ws.map fun z5 => (z, z5)).map cpD) := by
        rw [List.map_map]
        exact h4.less fun a h => List.mem_cons_of_mem _ h
      refine ⟨_, _, cs ++ ws.map (fun z5 => (z, z5)), rfl, (f3.trans f4).mut cb.bag hp0, upd_same, ?_, ?_, ?_, Sub.sqL ((Kp.trans (f4.kp c3.mem) km).er) hsx, ((hdx.f f4 c3.mem).k km)⟩
      · rw [List.map_append]
        exact Dms.k ((hds.f f4 c3.mem).app h4') km
      · rw [List.length_append, hcl, List.length_map, Nat.succ_mul]
      · intro c hc
        rcases List.mem_append.mp hc with hc | hc
        · exact hco c hc
        · obtain ⟨z5, hz5, rfl⟩ := List.mem_map.mp hc
          exact ⟨wOk z (List.mem_of_getElem? hz), wOk z5 hz5⟩
    · rintro σ H' ⟨u, vs, cs, rfl, f3, h3p, hds, hcl, hco, hsx, hdx⟩
      refine ⟨_, rfl, ?_⟩
      refine k _ cs H' f3 ?_ ?_ hco (Dm.lstOf (cb.kn.out hp0) h3p hds)
      · rw [hcl]
        exact Nat.mul_pos (by omega) w0
      · rw [hcl]
        have := Nat.mul_le_mul (show xs.length ≤ 3 by omega) (show ws.length ≤ 3 by omega)
        omega
end
end KZ

namespace KZ
open PySem PySem.Spec PyProof.Rows L2
section
variable {K : PySem.W.Frag} {M : List Addr} {σ : L2.St} {H H' : Hp} {te : TE} {tr : TA} {b l : Addr}
theorem lcR_bag {vs : List Nat} {j : Nat} {m : Int} (P : PyData → Prop) (cb : Cb M b l H) (h : EvDs K M tr σ H [.int m]) (h0 : 0 ≤ m) (hz : m < 100000) (hw : ∀ x, wipe ((wipe σ vs).set j (some x)) vs = wipe σ vs)
    (he : ∀ (Dl : Addr), H Dl = none → ∀ (i : Nat) (H1 : Hp), Fr b l H H1 → Cb (Dl :: M) b l H1 → (i : Int) < m → ∀ Q : VK, (∀ y d H2, Fr b l H1 H2 → P d → Dm K (Dl :: M) H2 y d → Q y H2) → te ((wipe σ vs).set j (some (.int (i : Int)))) H1 Q)
    (Q : VK) (q : ∀ p xs ds H', Fr b l H H' → H p = none → H' p = some (.lst xs) → Dms K (p :: M) H' xs ds → ds.length = m.toNat → (∀ d ∈ ds, P d) → Q (.ref p) H') : tLc (iRng1 tr) (gName j) tYes te vs σ H Q :=
  h H (Sub.refl _) _ fun us H2 s2 hv => by
    cases hv with
    | cons hv1 hv2 =>
    cases hv2
    cases hv1
    have f2 : Fr b l H H2 := Fr.sub cb.bag s2
    refine ⟨m, rfl, by omega, by omega, fun Dl hD => ?_⟩
    have h0D : H Dl = none := s2.free hD
    have pb := ne_new cb.bag.at h0D
    refine lc_range (lo := 0) (n := m.toNat) (fun i H' => Fr b l H H' ∧ ∃ acc ds, H' Dl = some (.lst acc) ∧ Dms K (Dl :: M) H' acc ds ∧ ds.length = i ∧ ∀ d ∈ ds, P d)
      ⟨f2.mut cb.bag h0D, [], [], upd_same, .nil, rfl, by simp⟩ (fun i H' hi p => ?_) (fun H' p => ?_)
    · obtain ⟨fp, acc, ds, p1, p2, p3, p4⟩ := p
      have c3 : Cb (Dl :: M) b l H' := (cb.fr fp).more ⟨_, p1⟩
      rw [show (0 : Int) + (i : Nat) = (i : Int) by omega]
      refine ⟨hw _, ?_⟩
      unfold tYes
      dsimp only
      rw [if_pos rfl]
      refine he Dl h0D i H' fp c3 (by omega) _ fun y d H3 f3 pd hy => ⟨acc, f3.k Dl _ (by simp [pb]) p1, ?_, ?_⟩
      · have q1 := p2.len
        exact szl (by omega)
      · have km : Kp (Dl :: M) H3 (upd H3 Dl (.lst (acc ++ [y]))) := Kp.mut List.mem_cons_self
        refine ⟨(fp.trans f3).mut cb.bag h0D, _, ds ++ [d], upd_same, Dms.k ((p2.f f3 c3.mem).app (DpAll.one hy)) km, by rw [List.length_append, p3] <;> rfl, ?_⟩
        intro e he
        rcases List.mem_append.mp he with he | he
        · exact p4 e he
        · rw [List.mem_singleton.mp he]
          exact pd
    · obtain ⟨fp, acc, ds, p1, p2, p3, p4⟩ := p
      exact q Dl acc ds H' fp h0D p1 p2 p3 p4
end
theorem args1 {te : TE} {σ : L2.St} {H : Hp} {Q : List V → Hp → Prop} (h : te σ H fun v H1 => Q [v] H1) : tCons te tNil σ H Q := h
theorem cb_args {r : List V → Hp → VK → Prop} {te : TE} {σ : L2.St} {H : Hp} {Q : VK} (h : te σ H fun v H1 => r [v] H1 Q) : tCB r (tCons te tNil) σ H Q := h
abbrev Row := List Cp
abbrev Tab := List Row
abbrev Jud := List Tab
def rowD (r : Row) : PyData := .tuple (r.map cpD)
def tabD (t : Tab) : PyData := .tuple (t.map rowD)
def judD (j : Jud) : PyData := .tuple (j.map tabD)
def RowOk (n : Nat) (r : Row) : Prop := r.length = n ∧ ∀ c ∈ r, CpOk c
def TabOk (n : Nat) (t : Tab) : Prop := t.length = n ∧ ∀ r ∈ t, RowOk n r
def JudOk (n m : Nat) (j : Jud) : Prop := j.length = m ∧ ∀ t ∈ j, TabOk n t
theorem cps_of {ds : List PyData} (h : ∀ d ∈ ds, ∃ c, CpOk c ∧ d = cpD c) : ∃ r : Row, ds = r.map cpD ∧ ∀ c ∈ r, CpOk c := by
  induction ds with
  | nil => exact ⟨[], rfl, by simp⟩
  | cons d ds ih =>
    obtain ⟨r, e, o⟩ := ih fun x hx => h x (List.mem_cons_of_mem _ hx)
    obtain ⟨c, oc, rfl⟩ := h d List.mem_cons_self
    exact ⟨c :: r, by rw [e] <;> rfl, fun x hx => (List.mem_cons.mp hx).elim (fun z => by rw [z]; exact oc) (o x)⟩
def spJudge (K : PySem.W.Frag) : Sp := fun vs H Q _ => ∃ (M : List Addr) (b l : Addr) (n m : Int) (x : Str), vs = [.ref b, .int n, .int m, .str x] ∧ Cb M b l H ∧ 0 ≤ n ∧ n < 1000 ∧ 0 ≤ m ∧ m < 1000 ∧
  ∀ (y : V) (j : Jud) (H' : Hp), Fr b l H H' → JudOk n.toNat m.toNat j → Dm K M H' y (judD j) → Q y H'
section
variable {P : Program} {w : World} {K : PySem.W.Frag} {mg : Str → Option Value} {base : Heap}
abbrev sJudge : Stmt := topS 23
theorem scJudge : FnScope ["bag", "kinds", "sorts", "style", "menu", "found", "sort", "rows", "asker", "holder"] ["bag", "kinds", "sorts", "style"] (defScope sJudge) := ⟨rfl, rfl, rfl, by decide +kernel, rfl, by decide +kernel, by decide +kernel⟩
theorem ok_judge {f fS fM : Addr} {fd fdS fdM : FuncData} (F : Fun K "_law_judge" "_law_judge" sJudge f fd) (T : Txt mg) 
    (CS : Cal P w K mg base "_law_some" 2 ["bag", "things"] (spSome K) fS fdS) (CM : Cal P w K mg base "_law_menu" 3 ["bag", "style"] (spMenu K) fM fdM) : FnOk P w K mg base CX0 4 f fd ["bag", "kinds", "sorts", "style"] (spJudge K) := by
  refine F.ok scJudge (fun vs H Q E h => ?_) (fun cdv A outer s H vs Q E hr h => ?_)
  · obtain ⟨M, b, l, n, m, x, rfl, _⟩ := h
    rfl
  · obtain ⟨M, b, l, n, m, x, rfl, cb, n0, n1, m0, m1, k⟩ := h
    have hr2 : Room 2 _ := hr.mono (by decide)
    refine ⟨_, pss_cons (ps_asg (pe_tup (pa_cons (pcl CM hr (pa_cons (pv 0) (pa_cons (pv 3) pa_nil))) (pa_cons (pe_lst pa_nil) pa_nil))) (pg_tup rfl (pgs_cons (pg_name (i := 4) scJudge.nd rfl (Or.inr rfl)) (pgs_cons (pg_name (i := 5) scJudge.nd rfl (Or.inl rfl)) pgs_nil))))
      (pss_cons (ps_for PassesOwn.never rfl (pi_range1 rfl T.range (pa_cons (pv 2) pa_nil)) (pg_name (i := 6) scJudge.nd rfl (Or.inl rfl))
        (pss_cons (ps_set (i := 7) scJudge.nd rfl (Or.inl rfl) (pe_lst pa_nil))
        (pss_cons (ps_for PassesOwn.never rfl (pi_range1 rfl T.range (pa_cons (pv 1) pa_nil)) (pg_name (i := 8) scJudge.nd rfl (Or.inl rfl))
          (pss_one (ps_expr (pe_bm PySem.F.plainAttrs_list PySem.F.slot_list_append PySem.F.type_list_append mt_append (pv 7)
            (pa_cons (pe_callTy call_tuple_of (by rfl) T.tuple bootTuple (pa_cons
              (pe_lc (own := [("holder", 9)]) (g := gName 9) (tt := tYes) rfl scJudge.nd (pi_range1 rfl T.range (pa_cons (pv 1) pa_nil)) (blkOk_by (N := ["bag", "kinds", "sorts", "style", "menu", "found", "sort", "rows", "asker", "holder"]) (sc := defScope sJudge) (by decide +kernel)) (fun _ _ _ _ _ => pg_name (i := 9) scJudge.nd rfl (Or.inl rfl)) (fun _ _ _ _ _ => pts_nil)
                (fun _ _ _ _ _ => pcl CS hr2 (pa_cons (pv 0) (pa_cons (pv 4) pa_nil)))) pa_nil)) pa_nil)))))
        (pss_one (ps_expr (pe_bm PySem.F.plainAttrs_list PySem.F.slot_list_append PySem.F.type_list_append mt_append (pv 5)
            (pa_cons (pe_callTy call_tuple_of (by rfl) T.tuple bootTuple (pa_cons (pv 7) pa_nil)) pa_nil)))))))
      (pss_one (ps_ret (pe_callTy call_tuple_of (by rfl) T.tuple bootTuple (pa_cons (pv 5) pa_nil))))), ?_⟩
    refine ⟨_, rfl, _, rfl, M, b, l, x, rfl, cb, fun vm cs H1 f1 c0 c1 cok hm => ⟨Nat.zero_le _, fun p hp => ⟨by show 2 ≤ sizeLine; decide, fun q hq => ?_⟩⟩⟩
    have hp0 : H p = none := f1.free cb.bag hp
    have pb := ne_new cb.bag.at hp0
    have npq : p ≠ q := ne_of_none upd_same hq
    have km1 {o : HO} : Kp (p :: M) H1 (upd H1 p o) := Kp.mut List.mem_cons_self
    refine ⟨q, _, rfl, SqT.of upd_same, rfl, _, _, rfl, _, _, rfl, rfl, ?_⟩
    have f2 : Fr b l H (upd (upd H1 p (.lst [])) q (.tup [vm, .ref p])) := (f1.mut cb.bag hp0).trans (Fr.new (f1.mut cb.bag hp0).bag hq)
    have hm2 : Dm K (p :: M) (upd (upd H1 p (.lst [])) q (.tup [vm, .ref p])) vm (.list (cs.map cpD)) := ((hm.more hp).k km1).s (Sub.new hq)
    refine ⟨_, rfl, m, rfl, by omega, by omega, for_range (lo := 0) (n := m.toNat) (fun i σ H' => ∃ (u6 u7 u8 : Option V) (vs : List V) (ts : Jud), σ = [some (.ref b), some (.int n), some (.int m), some (.str x), some vm, some (.ref p), u6, u7, u8, none] ∧ Fr b l H H' ∧ H' p = some (.lst vs) ∧ Dms K (p :: M) H' vs (ts.map tabD) ∧
        ts.length = i ∧ (∀ t ∈ ts, TabOk n.toNat t) ∧ Dm K (p :: M) H' vm (.list (cs.map cpD)))
      ⟨none, none, none, [], [], rfl, f2, by rw [upd_ne npq]; exact upd_same, .nil, rfl, by simp, hm2⟩ ?_ ?_⟩
    · rintro i σ H' hi ⟨u6, u7, u8, vs, ts, rfl, f3, h3p, hds, htl, hto, hm3⟩
      have c3 : Cb (p :: M) b l H' := (cb.fr f3).more ⟨_, h3p⟩
      -- rows = []
      refine ⟨Nat.zero_le _, fun r hr3 => ?_⟩
      have hr0 : H r = none := f3.free cb.bag hr3
      have rb := ne_new cb.bag.at hr0
      have nrp : p ≠ r := ne_of_none h3p hr3
      have km3 {o : HO} : Kp (r :: p :: M) H' (upd H' r o) := Kp.mut List.mem_cons_self
      refine ⟨_, rfl, n, rfl, by omega, by omega, for_range (lo := 0) (n := n.toNat) (fun i2 σ H4 => ∃ (u8 : Option V) (ws : List V) (rs : Tab), σ = [some (.ref b), some (.int n), some (.int m), some (.str x), some vm, some (.ref p), some (.int ((0 : Int) + (i : Nat))), some (.ref r), u8, none] ∧ Fr b l H' H4 ∧ H4 r = some (.lst ws) ∧ Dms K (r :: p :: M) H4 ws (rs.map rowD) ∧
          rs.length = i2 ∧ (∀ r ∈ rs, RowOk n.toNat r) ∧ H4 p = some (.lst vs) ∧ Dms K (r :: p :: M) H4 vs (ts.map tabD) ∧ Dm K (r :: p :: M) H4 vm (.list (cs.map cpD)))
        ⟨u8, [], [], rfl, Fr.new c3.bag hr3, upd_same, .nil, rfl, by simp, by rw [upd_ne nrp]; exact h3p, (hds.more hr3).k km3, (hm3.more hr3).k km3⟩ ?_ ?_⟩
      · rintro i2 σ H4 hi2 ⟨u8, ws, rs, rfl, f4, h4r, hws, hrl, hro, h4p, hds4, hm4⟩
        have c4 : Cb (r :: p :: M) b l H4 := (c3.fr f4).more ⟨_, h4r⟩
        refine ⟨_, rfl, .inl ⟨rfl, _, SqL.of h4r⟩, ?_⟩
        refine args1 (cb_args ?_)
        refine lcR_bag (K := K) (fun d => ∃ c, CpOk c ∧ d = cpD c) c4 (evds_cons (evd_var rfl (.int n)) evds_nil) n0 (by omega) (by intro z; rfl) ?_ _ ?_
        · intro Dl hD i3 H5 f5 c5 hi3 Q5 q5
          refine ⟨_, rfl, _, rfl, Dl :: r :: p :: M, b, l, vm, _, rfl, c5, .inl (((hm4.more hD)).f f5 c5.mem), by rw [List.length_map]; exact c0, by rw [List.length_map]; omega, fun y d H6 f6 hd hy => ?_⟩
          obtain ⟨c, hc, rfl⟩ := List.mem_map.mp hd
          exact q5 y _ H6 f6 ⟨c, cok c hc, rfl⟩ hy
        · intro t xs ds H5 f5 ht h5t hxs hdl hdo
          obtain ⟨row, rfl, hrok⟩ := cps_of hdo
          rw [List.length_map] at hdl
          refine ⟨t, xs, rfl, .inl ⟨SqL.of h5t, fun z hz => ?_⟩⟩
          have c5 := c4.fr f5
          have f6 : Fr b l H4 (upd H5 z (.tup xs)) := f5.trans (Fr.new f5.bag hz)
          have ht4 : H4 r = some (.lst ws) := h4r
          have h6r : upd H5 z (.tup xs) r = some (.lst ws) := f6.k r _ (by simp [rb]) h4r
          have h6p : upd H5 z (.tup xs) p = some (.lst vs) := f6.k p _ (by simp [pb]) h4p
          have hz6 : Dm K (r :: p :: M) (upd H5 z (.tup xs)) (.ref z) (rowD row) := Dm.tupNew c5.kn hz (hxs.less fun a h => List.mem_cons_of_mem _ h)
          have km6 {o : HO} : Kp (r :: p :: M) (upd H5 z (.tup xs)) (upd (upd H5 z (.tup xs)) r o) := Kp.mut List.mem_cons_self
          have hwl := hws.len
          rw [List.length_map] at hwl
          refine ⟨r, ws, _, rfl, rfl, h6r, szl (by omega), ?_⟩
          refine ⟨_, _, rs ++ [row], rfl, (f4.trans f6).mut c3.bag hr3, upd_same, ?_, by rw [List.length_append, hrl] <;> rfl, ?_, by rw [upd_ne nrp]; exact h6p, ((hds4.f f6 c4.mem).k km6), ((hm4.f f6 c4.mem).k km6)⟩
          · rw [List.map_append]
            exact Dms.k ((hws.f f6 c4.mem).app (DpAll.one hz6)) km6
          · intro e he
            rcases List.mem_append.mp he with he | he
            · exact hro e he
            · rw [List.mem_singleton.mp he]
              exact ⟨hdl, hrok⟩
      · rintro σ H4 ⟨u8, ws, rs, rfl, f4, h4r, hws, hrl, hro, h4p, hds4, hm4⟩
        have c4 : Cb (r :: p :: M) b l H4 := (c3.fr f4).more ⟨_, h4r⟩
        refine ⟨_, rfl, .inl ⟨rfl, _, SqL.of h4p⟩, _, rfl, r, ws, rfl, .inl ⟨SqL.of h4r, fun z hz => ?_⟩⟩
        have f5 : Fr b l H' (upd H4 z (.tup ws)) := f4.trans (Fr.new f4.bag hz)
        have h5p : upd H4 z (.tup ws) p = some (.lst vs) := f5.k p _ (by simp [pb]) h3p
        have c4' := c3.fr f4
        have hz5 : Dm K (p :: M) (upd H4 z (.tup ws)) (.ref z) (tabD rs) := Dm.tupNew c4'.kn hz (hws.less fun a h => List.mem_cons_of_mem _ h)
        have km5 {o : HO} : Kp (p :: M) (upd H4 z (.tup ws)) (upd (upd H4 z (.tup ws)) p o) := Kp.mut List.mem_cons_self
        have hvl := hds.len
        rw [List.length_map] at hvl
        refine ⟨p, vs, _, rfl, rfl, h5p, szl (by omega), ?_⟩
        refine ⟨_, _, _, _, ts ++ [rs], rfl, (f3.trans f5).mut cb.bag hp0, upd_same, ?_, by rw [List.length_append, htl] <;> rfl, ?_, ((hm3.f f5 c3.mem).k km5)⟩
        · rw [List.map_append]
          exact Dms.k ((hds.f f5 c3.mem).app (DpAll.one hz5)) km5
        · intro e he
          rcases List.mem_append.mp he with he | he
          · exact hto e he
          · rw [List.mem_singleton.mp he]
            exact ⟨hrl, hro⟩
    · rintro σ H' ⟨u6, u7, u8, vs, ts, rfl, f3, h3p, hds, htl, hto, hm3⟩
      refine ⟨_, rfl, p, vs, rfl, .inl ⟨SqL.of h3p, fun z hz => ?_⟩⟩
      exact k _ ts _ (f3.trans (Fr.new f3.bag hz)) ⟨htl, hto⟩ (Dm.tupNew (cb.fr f3).kn hz (hds.less fun a h => List.mem_cons_of_mem _ h))
end
end KZ

namespace KZ
open PySem PySem.Spec PyProof.Rows L2
theorem set_eq {α : Type} (d : α) : ∀ (ds : List α) (i : Nat), i < ds.length → ds.take i ++ [d] ++ ds.drop (i + 1) = ds.set i d
  | [], _, h => by simp at h
  | x :: xs, 0, _ => rfl
  | x :: xs, i + 1, h => by
    have q := set_eq d xs i (by simpa using h)
    show x :: (xs.take i ++ [d] ++ xs.drop (i + 1)) = x :: xs.set i d
    rw [q]
section
variable {K : PySem.W.Frag} {M : List Addr} {σ : L2.St} {H H' : Hp} {ta tb tx ti tj te : TE} {tr : TA} {d : PyData} {ds : List PyData} {i : Int}
theorem evd_put (n : Kn M H) (ha : EvD K M ta σ H (.tuple ds)) (hi : EvD K M ti σ H (.int i)) (hx : EvD K M tx σ H d) (hb : EvD K M tb σ H (.tuple ds)) (hj : EvD K M tj σ H (.int (i + 1))) (h0 : 0 ≤ i) (h1 : i < ds.length) (hz : ds.length < 100000) :
    EvD K M (tOp (rCatA K) (tOp (rCatA K) (tSl (rSlA K) ta tNoPart (tPart ti)) (tTup (tCons tx tNil))) (tSl (rSlA K) tb (tPart tj) tNoPart)) σ H (.tuple (ds.set i.toNat d)) := by
  have e1 := evd_slT n ha evo_none (evo_some hi)
  have e2 := evd_slT n hb (evo_some hj) evo_none
  rw [cutD_to h0 (by omega)] at e1
  rw [cutD_from (by omega) (by omega)] at e2
  have e3 := evd_catT n (evd_catT n e1 (evd_tup n (evds_cons hx evds_nil) lt1) (by rw [List.length_take]; simp; omega)) e2 (by rw [List.length_append, List.length_take, List.length_drop]; simp; omega)
  rw [show (i + 1).toNat = i.toNat + 1 by omega, set_eq d ds i.toNat (by omega)] at e3
  exact e3
theorem evd_add {j : Int} (ha : EvD K M ta σ H (.int i)) (hb : EvD K M tb σ H (.int j)) : EvD K M (tOp (rI0 fun i j => .int (i + j)) ta tb) σ H (.int (i + j)) := fun H1 s Q q =>
  ha H1 s _ fun v H2 s2 hv => hb H2 (s.trans s2) _ fun u H3 s3 hu => by
    cases hv.intAt
    cases hu.intAt
    exact ⟨i, j, rfl, rfl, q _ H3 (s2.trans s3) (.int _)⟩
/-- a call of a def without a bag, by the data of its arguments -/
def SpD (K : PySem.W.Frag) (M : List Addr) (sp : Sp) (H : Hp) (ds : List PyData) (d : PyData) : Prop := ∀ (vs : List V) (H1 : Hp) (Q : VK) (E : XK), Sub H H1 → Dms K M H1 vs ds → (∀ v H', Sub H1 H' → Dm K M H' v d → Q v H') → sp vs H1 Q E
theorem evd_call {sp : Sp} {E : XK} (h : EvDs K M tr σ H ds) (hs : SpD K M sp H ds d) : EvD K M (tCall sp [] E tr) σ H d := fun H1 s Q q =>
  h H1 s _ fun vs H2 s2 hd => by
    rw [List.append_nil]
    exact hs vs H2 Q E (s.trans s2) hd fun v H' s3 hv => q v H' (s2.trans s3) hv
end

theorem Dm.threeT {K : PySem.W.Frag} {M : List Addr} {H : Hp} {v : V} {d e f : PyData} (h : Dm K M H v (.tuple [d, e, f])) : ∃ a v1 v2 v3, v = .ref a ∧ SqT K H a [v1, v2, v3] ∧ Dm K M H v1 d ∧ Dm K M H v2 e ∧ Dm K M H v3 f := by
  obtain ⟨a, xs, rfl, hs, ha⟩ := h.tupAt
  obtain ⟨v1, v2, v3, rfl, h1, h2, h3⟩ := Dms.three_at ha
  exact ⟨a, v1, v2, v3, rfl, hs, h1, h2, h3⟩
end KZ

namespace KZ
open PySem PySem.Spec PyProof.Rows L2
structure Hou where
  ks : List Kd
  ss : List Str
  j : Jud
def houD (h : Hou) : PyData := .tuple [.tuple (h.ks.map kdD), .tuple (h.ss.map PyData.str), judD h.j]
structure HouOk (h : Hou) : Prop where
  k0 : 0 < h.ks.length
  k1 : h.ks.length < 10
  ks : KdsOk h.ks
  s0 : 0 < h.ss.length
  s1 : h.ss.length < 10
  sn : ∀ n ∈ h.ss, n ∈ Names
  sd : h.ss.Nodup
  j : JudOk h.ks.length h.ss.length h.j
theorem mem_set {α : Type} {l : List α} {i : Nat} {x y : α} (h : y ∈ l.set i x) : y ∈ l ∨ y = x := by
  rcases List.mem_or_eq_of_mem_set h with h | h
  · exact .inl h
  · exact .inr h
theorem jud_put {n m : Nat} {j : Jud} {s a h : Nat} {c : Cp} {t : Tab} {r : Row} (ok : JudOk n m j) (et : j[s]? = some t) (er : t[a]? = some r) (oc : CpOk c) : JudOk n m (j.set s (t.set a (r.set h c))) := by
  have ot := ok.2 t (List.mem_of_getElem? et)
  have or_ := ot.2 r (List.mem_of_getElem? er)
  refine ⟨by rw [List.length_set]; exact ok.1, fun t' ht' => ?_⟩
  rcases mem_set ht' with q | q
  · exact ok.2 t' q
  · rw [q]
    refine ⟨by rw [List.length_set]; exact ot.1, fun r' hr' => ?_⟩
    rcases mem_set hr' with q | q
    · exact ot.2 r' q
    · rw [q]
      refine ⟨by rw [List.length_set]; exact or_.1, fun c' hc' => ?_⟩
      rcases mem_set hc' with q | q
      · exact or_.2 c' q
      · rw [q]
        exact oc
def spPut (K : PySem.W.Frag) : Sp := fun vs H Q _ => ∃ (M : List Addr) (n m : Nat) (j : Jud) (s a h : Int) (c : Cp) (vj vc : V), vs = [vj, .int s, .int a, .int h, vc] ∧ Kn M H ∧ Dm K M H vj (judD j) ∧ JudOk n m j ∧ (0 ≤ s ∧ s < m) ∧ (0 ≤ a ∧ a < n) ∧ (0 ≤ h ∧ h < n) ∧ n < 1000 ∧ m < 1000 ∧ Dm K M H vc (cpD c) ∧ CpOk c ∧
  ∀ (y : V) (j' : Jud) (H' : Hp), Sub H H' → JudOk n m j' → Dm K M H' y (judD j') → Q y H'
section
variable {P : Program} {w : World} {K : PySem.W.Frag} {mg : Str → Option Value} {base : Heap}
abbrev sPut : Stmt := topS 24
theorem scPut : FnScope ["judge", "sort", "asker", "holder", "couple", "rows", "row"] ["judge", "sort", "asker", "holder", "couple"] (defScope sPut) := ⟨rfl, rfl, rfl, by decide +kernel, rfl, by decide +kernel, by decide +kernel⟩
theorem ok_put {f : Addr} {fd : FuncData} (F : Fun K "_law_put" "_law_put" sPut f fd) : FnOk P w K mg base CX0 1 f fd ["judge", "sort", "asker", "holder", "couple"] (spPut K) := by
  refine F.ok scPut (fun vs H Q E h => ?_) (fun cdv A outer s H vs Q E hr h => ?_)
  · obtain ⟨M, n, m, j, s, a, h, c, vj, vc, rfl, _⟩ := h
    rfl
  · obtain ⟨M, n, m, j, s, a, h, c, vj, vc, rfl, kn, hj, ok, ⟨s0, s1⟩, ⟨a0, a1⟩, ⟨h0, h1⟩, nz, mz, hc, oc, k⟩ := h
    refine ⟨_, pss_cons (ps_set (i := 5) scPut.nd rfl (Or.inl rfl) (pe_ix ix_tup (pv 0) (pv 1) (fun _ _ => rfl)))
      (pss_cons (ps_set (i := 6) scPut.nd rfl (Or.inl rfl) (pe_op op_catA (pe_op op_catA (pe_slice sl_tupA (pe_ix ix_tup (pv 5) (pv 2) (fun _ _ => rfl)) po_none (po_some (pv 3))) (pe_tup (pa_cons (pv 4) pa_nil)))
        (pe_slice sl_tupA (pe_ix ix_tup (pv 5) (pv 2) (fun _ _ => rfl)) (po_some (pe_op op_add (pv 3) pe_int)) po_none)))
      (pss_one (ps_ret (pe_op op_catA (pe_op op_catA (pe_slice sl_tupA (pv 0) po_none (po_some (pv 1)))
        (pe_tup (pa_cons (pe_op op_catA (pe_op op_catA (pe_slice sl_tupA (pv 5) po_none (po_some (pv 2))) (pe_tup (pa_cons (pv 6) pa_nil))) (pe_slice sl_tupA (pv 5) (po_some (pe_op op_add (pv 2) pe_int)) po_none)) pa_nil)))
        (pe_slice sl_tupA (pv 0) (po_some (pe_op op_add (pv 1) pe_int)) po_none))))), ?_⟩
    have hjl := ok.1
    have et : j[s.toNat]? = some (j[s.toNat]'(by omega)) := List.getElem?_eq_getElem _
    generalize ht : j[s.toNat]'(by omega) = t at et
    have ot := ok.2 t (List.mem_of_getElem? et)
    have htl := ot.1
    have er : t[a.toNat]? = some (t[a.toNat]'(by omega)) := List.getElem?_eq_getElem _
    generalize hr' : t[a.toNat]'(by omega) = r at er
    have hrl := (ot.2 r (List.mem_of_getElem? er)).1
    have i1 {σ : L2.St} {H : Hp} (g : σ[1]? = some (some (V.int s))) : EvD K M (tVar 1) σ H (.int s) := evd_var g (.int s)
    have i2 {σ : L2.St} {H : Hp} (g : σ[2]? = some (some (V.int a))) : EvD K M (tVar 2) σ H (.int a) := evd_var g (.int a)
    have i3 {σ : L2.St} {H : Hp} (g : σ[3]? = some (some (V.int h))) : EvD K M (tVar 3) σ H (.int h) := evd_var g (.int h)
    refine evd_sset (K := K) (M := M) (d := tabD t) (evd_ixT (evd_var rfl hj) (i1 rfl) s0 (by rw [List.getElem?_map, et] <;> rfl)) fun v5 H1 s1' h5 => ?_
    have hj1 := Dm.s hj s1'
    have hc1 := Dm.s hc s1'
    have n1 := kn.sub s1'
    have erow {σ : L2.St} (g : σ[5]? = some (some v5)) (g2 : σ[2]? = some (some (V.int a))) : EvD K M (tOp (rIxT K) (tVar 5) (tVar 2)) σ H1 (.tuple (r.map cpD)) := evd_ixT (evd_var g h5) (i2 g2) a0 (by rw [List.getElem?_map, er] <;> rfl)
    refine evd_sset (K := K) (M := M) (d := rowD (r.set h.toNat c)) ?_ fun v6 H2 s2 h6 => ?_
    · have q := evd_put n1 (erow rfl rfl) (i3 rfl) (evd_var (i := 4) rfl hc1) (erow rfl rfl) (evd_add (i3 rfl) evd_int) h0 (by rw [List.length_map]; omega) (by rw [List.length_map]; omega) (σ := [some vj, some (V.int s), some (V.int a), some (V.int h), some vc, some v5, none])
      rw [← List.map_set] at q
      exact q
    have n2 := n1.sub s2
    have hj2 := Dm.s hj1 s2
    have h52 := Dm.s h5 s2
    refine evd_ret (K := K) (M := M) (d := judD (j.set s.toNat (t.set a.toNat (r.set h.toNat c)))) ?_ fun y H3 s3 hy => k y _ H3 ((s1'.trans s2).trans s3) (jud_put ok et er oc) hy
    have q1 := evd_put n2 (evd_var (i := 5) rfl h52) (i2 rfl) (evd_var (i := 6) rfl h6) (evd_var (i := 5) rfl h52) (evd_add (i2 rfl) evd_int) a0 (by rw [List.length_map]; omega) (by rw [List.length_map]; omega) (σ := [some vj, some (V.int s), some (V.int a), some (V.int h), some vc, some v5, some v6])
    rw [← List.map_set] at q1
    have q2 := evd_put n2 (evd_var (i := 0) rfl hj2) (i1 rfl) q1 (evd_var (i := 0) rfl hj2) (evd_add (i1 rfl) evd_int) s0 (by rw [List.length_map]; omega) (by rw [List.length_map]; omega)
    rw [show PyData.tuple (List.map rowD (t.set a.toNat (r.set h.toNat c))) = tabD (t.set a.toNat (r.set h.toNat c)) from rfl, ← List.map_set] at q2
    exact q2
end
end KZ

namespace KZ
open PySem PySem.Spec PyProof.Rows L2
theorem kds_flip {ks : List Kd} (ok : KdsOk ks) {i : Nat} {k : Kd} (e : ks[i]? = some k) (b : Bool) : KdsOk (ks.set i (k.1, b, k.2.2)) := by
  have em : (ks.set i (k.1, b, k.2.2)).map (·.1) = ks.map (·.1) := by
    rw [List.map_set]
    have e2 : (ks.map (·.1))[i]? = some k.1 := by rw [List.getElem?_map, e] <;> rfl
    refine List.ext_getElem? fun j => ?_
    rw [List.getElem?_set]
    by_cases z : i = j
    · subst z
      have hi : i < (ks.map (·.1)).length := (List.getElem?_eq_some_iff.mp e2).1
      rw [if_pos rfl, if_pos hi, e2]
    · rw [if_neg z]
  refine ⟨fun k' hk' => ?_, by rw [em]; exact ok.nd, fun j k' ej => ?_⟩
  · rcases mem_set hk' with q | q
    · exact ok.name k' q
    · rw [q]
      exact ok.name k (List.mem_of_getElem? e)
  · rw [List.length_set]
    rw [List.getElem?_set] at ej
    by_cases z : i = j
    · rw [if_pos z] at ej
      split at ej
      · cases Option.some.inj ej
        subst z
        exact ok.rise i k e
      · cases ej
    · rw [if_neg z] at ej
      exact ok.rise j k' ej
/-- the very object of a tuple is told -/
def SorF (M : List Addr) (H : Hp) (s : Addr) : Prop := ∃ (ob : Obj) (u : HO), er M H s = some (.frz ob u) ∧ ob.cls = .type "tuple" ∧ ob.dict = none
def HouF (K : PySem.W.Frag) (M : List Addr) (H : Hp) (y : V) (h : Hou) : Prop := ∃ (a : Addr) (v0 : V) (s : Addr) (v2 : V), y = .ref a ∧ SqT K (er M H) a [v0, .ref s, v2] ∧ Dm K M H v0 (.tuple (h.ks.map kdD)) ∧ Dm K M H (.ref s) (.tuple (h.ss.map PyData.str)) ∧ Dm K M H v2 (judD h.j) ∧ SorF M H s
theorem SorF.k {M : List Addr} {H H' : Hp} {s : Addr} (h : SorF M H s) (k : Kp M H H') : SorF M H' s := by
  obtain ⟨ob, u, e, r⟩ := h
  exact ⟨ob, u, k.er _ _ e, r⟩
theorem HouF.dm {K : PySem.W.Frag} {M : List Addr} {H : Hp} {y : V} {h : Hou} (x : HouF K M H y h) : Dm K M H y (houD h) := by
  obtain ⟨a, v0, s, v2, rfl, hs, h0, h1, h2, _⟩ := x
  exact .tup hs (.cons h0 (.cons h1 (.cons h2 .nil)))
theorem HouF.k {K : PySem.W.Frag} {M : List Addr} {H H' : Hp} {y : V} {h : Hou} (x : HouF K M H y h) (k : Kp M H H') : HouF K M H' y h := by
  obtain ⟨a, v0, s, v2, rfl, hs, h0, h1, h2, hF⟩ := x
  exact ⟨a, v0, s, v2, rfl, Sub.sqT k.er hs, Dm.k h0 k, Dm.k h1 k, Dm.k h2 k, hF.k k⟩
def rTupF (K : PySem.W.Frag) : List V → Hp → VK → Prop := fun xs H Q => ∃ p ys, xs = [V.ref p] ∧ SqL K H p ys ∧ ∀ (l : Addr) (ob : Obj), ob.cls = .type "tuple" → ob.dict = none → H l = none → Q (.ref l) (upd H l (.frz ob (.tup ys)))
/-- tuple(..) of a list that is told, its object told -/
theorem tuple_ofF {K : PySem.W.Frag} {M : List Addr} {H : Hp} {Q : VK} {v : V} {ds : List PyData} (n : Kn M H) (hv : Dm K M H v (.list ds)) (q : ∀ s H', Sub H H' → Dm K M H' (.ref s) (.tuple ds) → SorF M H' s → Q (.ref s) H') : rTupF K [v] H Q := by
  obtain ⟨a, xs, rfl, hs, ha⟩ := hv.lstAt
  refine ⟨a, xs, rfl, hs, fun z ob h1 h2 hz => ?_⟩
  have e : er M (upd H z (.frz ob (.tup xs))) z = some (.frz ob (.tup xs)) := by
    rw [er_in (n.out hz)]
    exact upd_same
  exact q z _ (Sub.new hz) (.tup (.inl (.inr ⟨ob, e⟩)) (Dms.k ha (Kp.new hz))) ⟨ob, _, e, h1, h2⟩
def spSpoilt (K : PySem.W.Frag) : Sp := fun vs H Q _ => ∃ (M : List Addr) (b l : Addr) (v : V) (h : Hou), vs = [.ref b, v] ∧ Cb M b l H ∧ HouF K M H v h ∧ HouOk h ∧
  ∀ (y : V) (h' : Hou) (H' : Hp), Fr b l H H' → HouOk h' → h'.ks.length = h.ks.length → h'.ss.length = h.ss.length → HouF K M H' y h' → Q y H'
section
variable {P : Program} {w : World} {K : PySem.W.Frag} {mg : Str → Option Value} {base : Heap}
abbrev sSpoilt : Stmt := topS 25
theorem scSpoilt : FnScope ["bag", "house", "kinds", "sorts", "judge", "turn", "couple", "places", "k"] ["bag", "house"] (defScope sSpoilt) := ⟨rfl, rfl, rfl, by decide +kernel, rfl, by decide +kernel, by decide +kernel⟩
theorem wordsD {d : PyData} (h : d ∈ [PyData.str "wait", PyData.str "yield", PyData.str "oust"]) : ∃ x, x ∈ Words ∧ d = .str x := by
  simp only [List.mem_cons, List.not_mem_nil, or_false] at h
  unfold Words
  rcases h with h | h | h
  · exact ⟨_, by simp, h⟩
  · exact ⟨_, by simp, h⟩
  · exact ⟨_, by simp, h⟩
theorem tup_of {tr : TA} {σ : L2.St} {H : Hp} {Q : VK} (h : tr σ H fun xs H1 => xs.length ≤ sizeLine ∧ ∀ p, H1 p = none → Q (.ref p) (upd H1 p (.tup xs))) : tTup tr σ H Q := h
theorem cons_of {te : TE} {tr : TA} {σ : L2.St} {H : Hp} {Q : List V → Hp → Prop} (h : te σ H fun x H1 => tr σ H1 fun xs H2 => Q (x :: xs) H2) : tCons te tr σ H Q := h
section
variable {M : List Addr} {b l : Addr} {σ : L2.St} {H : Hp} {Q : VK} {E : XK}
theorem some_words (cb : Cb M b l H) (h0 : σ[0]? = some (some (.ref b))) (q : ∀ y x H', Fr b l H H' → x ∈ Words → Dm K M H' y (.str x) → Q y H') :
    tCall (spSome K) [] E (tCons (tVar 0) (tCons (tLst (tCons (tC (.str "wait")) (tCons (tC (.str "yield")) (tCons (tC (.str "oust")) tNil)))) tNil)) σ H Q := by
  refine evb_call (K := K) (M := M) h0 (evds_cons (evd_lst cb.kn (evds_cons evd_str (evds_cons evd_str (evds_cons evd_str evds_nil))) lt3) evds_nil) fun vs H1 s1 h1 => ?_
  obtain ⟨v, rfl, h1'⟩ := Dms.one_at h1
  have f1 : Fr b l H H1 := Fr.sub cb.bag s1
  refine ⟨M, b, l, v, _, rfl, cb.fr f1, .inl h1', by decide, by decide, fun y d H' f2 hd hy => ?_⟩
  obtain ⟨x, hx, rfl⟩ := wordsD hd
  exact q y x H' (f1.trans f2) hx hy
theorem take_lit {n : Int} (cb : Cb M b l H) (h0 : σ[0]? = some (some (.ref b))) (hn : 0 < n) (hz : n < 1000000) (q : ∀ (j : Int) (H' : Hp), Fr b l H H' → 0 ≤ j → j < n → Q (.int j) H') : tCall spTake [] E (tCons (tVar 0) (tCons (tC (.int n)) tNil)) σ H Q :=
  ⟨_, h0, b, l, n, rfl, cb.bag, hn, by omega, fun j H' f j0 j1 => q j H' f j0 j1⟩
theorem take_len {i : Nat} {v : V} {ds : List PyData} (cb : Cb M b l H) (h0 : σ[0]? = some (some (.ref b))) (hi : σ[i]? = some (some v)) (hv : Its K M H v ds) (d0 : 0 < ds.length) (d1 : ds.length < 1000000)
    (q : ∀ (j : Int) (H' : Hp), Fr b l H H' → 0 ≤ j → j < ds.length → Q (.int j) H') :
    tCall spTake [] E (tCons (tVar 0) (tCons (tCB (fun xs H Q => ∃ p ys, xs = [.ref p] ∧ (SqL K H p ys ∨ SqT K H p ys) ∧ Q (.int ys.length) H) (tCons (tVar i) tNil)) tNil)) σ H Q := by
  obtain ⟨a, xs, rfl, hs, ha⟩ := hv.at
  have hl := ha.len
  exact ⟨_, h0, _, hi, a, xs, rfl, hs, b, l, _, rfl, cb.bag, by omega, by omega, fun j H' f j0 j1 => q j H' f j0 (by omega)⟩
theorem evd_not {b : Bool} {te : TE} (h : EvD K M te σ H (.bool b)) : EvD K M (tNotV te) σ H (.bool (!b)) := fun H1 s Q q => h H1 s _ fun v H2 s2 hv => by
  cases hv.blAt
  exact ⟨b, rfl, q _ H2 s2 (.bl _)⟩
end
theorem ok_spoilt {f fT fS fP : Addr} {fd fdT fdS fdP : FuncData} (F : Fun K "_law_spoilt_house" "_law_spoilt_house" sSpoilt f fd) (T : Txt mg) (CT : Cal P w K mg base "_law_take" 1 ["bag", "upto"] spTake fT fdT)
    (CS : Cal P w K mg base "_law_some" 2 ["bag", "things"] (spSome K) fS fdS) (CP : Cal P w K mg base "_law_put" 1 ["judge", "sort", "asker", "holder", "couple"] (spPut K) fP fdP) : FnOk P w K mg base CX0 3 f fd ["bag", "house"] (spSpoilt K) := by
  refine F.ok scSpoilt (fun vs H Q E h => ?_) (fun cdv A outer s H vs Q E hr h => ?_)
  · obtain ⟨M, b, l, v, h, rfl, _⟩ := h
    rfl
  · obtain ⟨M, b, l, v, ho, rfl, cb, hv, ok, k⟩ := h
    have hr1 : Room 1 _ := hr.mono (by decide)
    refine ⟨_, pss_cons (ps_asg (pv 1) (pg_tup rfl (pgs_cons (pg_name (i := 2) scSpoilt.nd rfl (Or.inl rfl)) (pgs_cons (pg_name (i := 3) scSpoilt.nd rfl (Or.inl rfl)) (pgs_cons (pg_name (i := 4) scSpoilt.nd rfl (Or.inl rfl)) pgs_nil)))))
      (pss_cons (ps_for PassesOwn.never rfl (pi_range1 rfl T.range (pa_cons (pe_op op_add pe_int (pcl CT hr1 (pa_cons (pv 0) (pa_cons pe_int pa_nil)))) pa_nil)) (pg_name (i := 5) scSpoilt.nd rfl (Or.inl rfl))
        (pss_cons (ps_set (i := 6) scSpoilt.nd rfl (Or.inl rfl) (pe_tup (pa_cons (pcl CS hr (pa_cons (pv 0) (pa_cons (pe_lst (pa_cons pe_str (pa_cons pe_str (pa_cons pe_str pa_nil)))) pa_nil))) (pa_cons (pcl CS hr (pa_cons (pv 0) (pa_cons (pe_lst (pa_cons pe_str (pa_cons pe_str (pa_cons pe_str pa_nil)))) pa_nil))) pa_nil))))
        (pss_cons (ps_set (i := 7) scSpoilt.nd rfl (Or.inl rfl) (pe_tup (pa_cons (pcl CT hr1 (pa_cons (pv 0) (pa_cons (pe_callB call_len_seq (by rfl) T.len PySem.boot_len (pa_cons (pv 3) pa_nil)) pa_nil))) (pa_cons (pcl CT hr1 (pa_cons (pv 0) (pa_cons (pe_callB call_len_seq (by rfl) T.len PySem.boot_len (pa_cons (pv 2) pa_nil)) pa_nil)))
          (pa_cons (pcl CT hr1 (pa_cons (pv 0) (pa_cons (pe_callB call_len_seq (by rfl) T.len PySem.boot_len (pa_cons (pv 2) pa_nil)) pa_nil))) pa_nil)))))
        (pss_one (ps_set (i := 4) scSpoilt.nd rfl (Or.inl rfl) (pcl CP hr1 (pa_cons (pv 4) (pa_cons (pe_ix ix_tup (pv 7) pe_int (fun _ _ => rfl)) (pa_cons (pe_ix ix_tup (pv 7) pe_int (fun _ _ => rfl)) (pa_cons (pe_ix ix_tup (pv 7) pe_int (fun _ _ => rfl)) (pa_cons (pv 6) pa_nil)))))))))))
      (pss_cons (ps_set (i := 8) scSpoilt.nd rfl (Or.inl rfl) (pcl CT hr1 (pa_cons (pv 0) (pa_cons (pe_callB call_len_seq (by rfl) T.len PySem.boot_len (pa_cons (pv 2) pa_nil)) pa_nil))))
      (Evl.pss_cut (ps_if (pt_cmpR op_eq (pcl CT hr1 (pa_cons (pv 0) (pa_cons pe_int pa_nil))) pe_int (nomark _)) (pss_one (ps_set (i := 2) scSpoilt.nd rfl (Or.inl rfl)
        (pe_op op_catA (pe_op op_catA (pe_slice sl_tupA (pv 2) po_none (po_some (pv 8))) (pe_tup (pa_cons (pe_tup (pa_cons (pe_ix ix_tup (pe_ix ix_tup (pv 2) (pv 8) (fun _ _ => rfl)) pe_int (fun _ _ => rfl))
          (pa_cons (pe_not (pe_ix ix_tup (pe_ix ix_tup (pv 2) (pv 8) (fun _ _ => rfl)) pe_int (fun _ _ => rfl))) (pa_cons (pe_ix ix_tup (pe_ix ix_tup (pv 2) (pv 8) (fun _ _ => rfl)) pe_int (fun _ _ => rfl)) pa_nil)))) pa_nil))) (pe_slice sl_tupA (pv 2) (po_some (pe_op op_add (pv 8) pe_int)) po_none)))) pss_nil)
      (pss_one (ps_ret (pe_tup (pa_cons (pv 2) (pa_cons (pv 3) (pa_cons (pv 4) pa_nil))))))))), ?_⟩
    obtain ⟨a, v0, s1, v2, rfl, hs', h0, h1, h2, hF⟩ := hv
    obtain ⟨v1, ev1⟩ : ∃ v1, v1 = V.ref s1 := ⟨_, rfl⟩
    rw [← ev1] at h1 hs'
    have hs := (er_sub _ _).sqT hs'
    refine ⟨_, rfl, a, _, rfl, hs, rfl, _, _, rfl, _, _, rfl, _, _, rfl, rfl, ?_⟩
    have kl : (ho.ks.map kdD).length = ho.ks.length := List.length_map _
    have sl : (ho.ss.map PyData.str).length = ho.ss.length := List.length_map _
    have ok0 := ok.k0
    have ok1 := ok.k1
    have os0 := ok.s0
    have os1 := ok.s1
    refine ⟨_, rfl, b, l, _, rfl, cb.bag, by decide, by decide, fun i H1 f1 i0 i1 => ⟨_, _, rfl, rfl, _, rfl, by omega, by omega, for_range (lo := 0) (n := (1 + i).toNat) (fun _ σ H' => ∃ (u5 u6 u7 : Option V) (vj : V) (j : Jud), σ = [some (.ref b), some (.ref a), some v0, some v1, some vj, u5, u6, u7, none] ∧ Fr b l H H' ∧ Dm K M H' vj (judD j) ∧ JudOk ho.ks.length ho.ss.length j)
      ⟨none, none, none, v2, ho.j, rfl, f1, Dm.f h2 f1 cb.mem, ok.j⟩ ?_ ?_⟩⟩
    · rintro i' σ H' hi ⟨u5, u6, u7, vj, j, rfl, f2, hj, oj⟩
      have c2 := cb.fr f2
      refine sset_of (tup_of (cons_of (some_words c2 rfl fun y x H3 f3 hx hy => cons_of (some_words (c2.fr f3) rfl fun y2 x2 H4 f4 hx2 hy2 => ⟨by show 2 ≤ sizeLine; decide, fun p hp => ?_⟩))))
      have c4 := (c2.fr f3).fr f4
      have f5 : Fr b l H' (upd H4 p (.tup [y, y2])) := (f3.trans f4).trans (Fr.new c4.bag hp)
      have hc5 : Dm K M (upd H4 p (.tup [y, y2])) (.ref p) (cpD (x, x2)) := Dm.tupNew c4.kn hp (.cons (Dm.f hy f4 cb.mem) (.cons hy2 .nil))
      have f25 := f2.trans f5
      have c5 := c2.fr f5
      refine sset_of (tup_of (cons_of (take_len c5 rfl (i := 3) rfl (.inr (Dm.f h1 f25 cb.mem)) (by omega) (by omega) fun s6 H6 f6 s60 s61 => cons_of (take_len (c5.fr f6) rfl (i := 2) rfl (.inr (Dm.f (Dm.f h0 f25 cb.mem) f6 cb.mem)) (by omega) (by omega) fun a7 H7 f7 a70 a71 =>
        cons_of (take_len ((c5.fr f6).fr f7) rfl (i := 2) rfl (.inr (Dm.f (Dm.f (Dm.f h0 f25 cb.mem) f6 cb.mem) f7 cb.mem)) (by omega) (by omega) fun h8 H8 f8 h80 h81 => ⟨by show 3 ≤ sizeLine; decide, fun q hq => ?_⟩)))))
      have f68 := (f6.trans f7).trans f8
      have c8 := c5.fr f68
      have f9 : Fr b l (upd H4 p (.tup [y, y2])) (upd H8 q (.tup [.int s6, .int a7, .int h8])) := f68.trans (Fr.new c8.bag hq)
      have hq9 : Dm K M (upd H8 q (.tup [.int s6, .int a7, .int h8])) (.ref q) (.tuple [.int s6, .int a7, .int h8]) := Dm.tupNew c8.kn hq (.cons (.int _) (.cons (.int _) (.cons (.int _) .nil)))
      have c9 := c5.fr f9
      have hj9 := Dm.f (Dm.f hj f5 cb.mem) f9 cb.mem
      have hc9 := Dm.f hc5 f9 cb.mem
      refine set_of (evd_callQ (K := K) (M := M) (evds_cons (evd_var (i := 4) rfl hj9) (evds_cons (evd_ixT (evd_var (i := 7) rfl hq9) (evd_int (i := 0)) (by decide) rfl) (evds_cons (evd_ixT (evd_var (i := 7) rfl hq9) (evd_int (i := 1)) (by decide) rfl)
        (evds_cons (evd_ixT (evd_var (i := 7) rfl hq9) (evd_int (i := 2)) (by decide) rfl) (evds_cons (evd_var (i := 6) rfl hc9) evds_nil))))) fun vs H10 s10 h10 => ?_)
      cases h10 with
      | cons g1 g2 =>
      cases g2 with
      | cons g2 g3 =>
      cases g3 with
      | cons g3 g4 =>
      obtain ⟨w4, w5, rfl, g4, g5⟩ := Dms.two_at g4
      cases Dm.intAt g2
      cases Dm.intAt g3
      cases Dm.intAt g4
      refine ⟨M, ho.ks.length, ho.ss.length, j, s6, a7, h8, (x, x2), _, _, rfl, c9.kn.sub s10, g1, oj, ⟨s60, by omega⟩, ⟨a70, by omega⟩, ⟨h80, by omega⟩, by omega, by omega, g5, ⟨hx, hx2⟩, fun y' j' H11 s11 oj' hy' => ?_⟩
      exact ⟨_, _, _, y', j', rfl, (f2.trans (f5.trans f9)).trans (Fr.sub c9.bag (s10.trans s11)), hy', oj'⟩
    · rintro σ H' ⟨u5, u6, u7, vj, j, rfl, f2, hj, oj⟩
      have c2 := cb.fr f2
      have h02 := Dm.f h0 f2 cb.mem
      have h12 := Dm.f h1 f2 cb.mem
      refine sset_of (take_len c2 rfl (i := 2) rfl (.inr h02) (by omega) (by omega) fun k3 H3 f3 k30 k31 => ?_)
      have c3 := c2.fr f3
      have h03 := Dm.f h02 f3 cb.mem
      refine ⟨fun σ' H4 => ∃ (ks' : List Kd) (vk : V), σ' = [some (.ref b), some (.ref a), some vk, some v1, some vj, u5, u6, u7, some (.int k3)] ∧ Fr b l H3 H4 ∧ KdsOk ks' ∧ ks'.length = ho.ks.length ∧ Dm K M H4 vk (.tuple (ks'.map kdD)), ?_, ?_⟩
      · refine ⟨_, rfl, b, l, _, rfl, c3.bag, by decide, by decide, fun j4 H4 f4 j40 j41 => ⟨rfl, _, rfl, ite2 (fun e => ?_) (fun e => ?_)⟩⟩
        · have c4 := c3.fr f4
          have h04 := Dm.f h03 f4 cb.mem
          have ek : ho.ks[k3.toNat]? = some (ho.ks[k3.toNat]'(by omega)) := List.getElem?_eq_getElem _
          generalize hkd : ho.ks[k3.toNat]'(by omega) = kd at ek
          have σ0 : EvD K M (tVar 2) ([some (.ref b), some (.ref a), some v0, some v1, some vj, u5, u6, u7, some (.int k3)] : L2.St) H4 (.tuple (ho.ks.map kdD)) := evd_var rfl h04
          have σk : EvD K M (tVar 8) ([some (.ref b), some (.ref a), some v0, some v1, some vj, u5, u6, u7, some (.int k3)] : L2.St) H4 (.int k3) := evd_var rfl (.int k3)
          have σkd : EvD K M _ ([some (.ref b), some (.ref a), some v0, some v1, some vj, u5, u6, u7, some (.int k3)] : L2.St) H4 (kdD kd) := evd_ixT σ0 σk k30 (by rw [List.getElem?_map, ek] <;> rfl)
          have q := evd_put c4.kn σ0 σk (evd_tup c4.kn (evds_cons (evd_ixT σkd (evd_int (i := 0)) (by decide) rfl) (evds_cons (evd_not (evd_ixT σkd (evd_int (i := 1)) (by decide) rfl)) (evds_cons (evd_ixT σkd (evd_int (i := 2)) (by decide) rfl) evds_nil))) lt3) σ0 (evd_add σk evd_int) k30 (by omega) (by omega)
          rw [show PyData.tuple [PyData.str kd.1, PyData.bool !kd.2.1, PyData.int kd.2.2] = kdD (kd.1, !kd.2.1, kd.2.2) from rfl, ← List.map_set] at q
          refine evd_set q fun vk H5 s5 h5 => ?_
          exact ⟨_, vk, rfl, f4.trans (Fr.sub c4.bag s5), kds_flip ok.ks ek _, List.length_set, h5⟩
        · exact ⟨ho.ks, v0, rfl, f4, ok.ks, rfl, Dm.f h03 f4 cb.mem⟩
      rintro σ4 H4 ⟨ks', vk, rfl, f4, oks, hkl, hvk⟩
      have f34 := f3.trans f4
      have c4 := c2.fr f34
      refine ret_of ⟨_, rfl, _, rfl, _, rfl, by show 3 ≤ sizeLine; decide, fun z hz => ?_⟩
      cases ev1
      have kz {o : HO} : Kp M H4 (upd H4 z o) := Kp.new hz
      exact k (.ref z) ⟨ks', ho.ss, j⟩ _ ((f2.trans f34).trans (Fr.new c4.bag hz)) ⟨by show 0 < ks'.length; omega, by show ks'.length < 10; omega, oks, ok.s0, ok.s1, ok.sn, ok.sd, by show JudOk ks'.length _ _; rw [hkl]; exact oj⟩ hkl rfl
        ⟨z, vk, s1, vj, rfl, SqT.of (by rw [er_in (c4.kn.out hz)]; exact upd_same), Dm.k hvk kz, Dm.k (Dm.f h12 f34 cb.mem) kz, Dm.k (Dm.f hj f34 cb.mem) kz, (hF.k ((f2.trans f34).kp cb.mem)).k kz⟩
end
end KZ

namespace KZ
open PySem PySem.Spec PyProof.Rows L2
/-- a tuple that is told with its very object: its methods can be called -/
def tyT (x : V) (H : Hp) : Prop := ∃ (a : Addr) (ob : Obj) (u : HO), x = .ref a ∧ H a = some (.frz ob u) ∧ ob.cls = .type "tuple" ∧ ob.dict = none
section
variable {X : Cx}
theorem call_tupleF : CallR X (.type "tuple") (fun xs H Q => ∃ p ys, xs = [.ref p] ∧ SqL X.K H p ys ∧ ∀ (l : Addr) (ob : Obj), ob.cls = .type "tuple" → ob.dict = none → H l = none → Q (.ref l) (upd H l (.frz ob (.tup ys)))) := by
  intro pins s σ H xs us Q J r wish
  obtain ⟨p, ys, rfl, sq, fin⟩ := wish
  obtain ⟨u, rfl, ru⟩ := vals1 r
  cases ru
  obtain ⟨its, vals, plain, size⟩ := J.list sq
  have many := vals.length
  refine call_tuple_list plain.isList (fun g more => ?_) (by simp only [List.size_toArray] <;> omega)
  have J1 : L2.Inv X pins σ H { s with heap := g } := J.kept (t' := s.toks) more
  have J2 : L2.Inv X pins σ (upd H g.objs.size (.frz { cls := .type "tuple", data := .seq its.toArray } (.tup ys))) { s with heap := g.push { cls := .type "tuple", data := .seq its.toArray } } :=
    J1.laid (t' := s.toks) (fun b o e => Heap.get?_push_of_some _ e) (Nat.le_refl _) (show ObjOk X.prog X.w _ _ _ (.frz _ (.tup ys)) from ⟨Heap.get?_push_size _ rfl, size, its, vals, IsTup.new _ _⟩)
  exact ⟨.ref g.objs.size, _, J2, rfl, fin _ _ rfl rfl (J1.hok.fresh (Nat.le_refl _))⟩
def tBT (r : V → List V → Hp → VK → Prop) (to : TE) (t : TA) : TE := fun σ H Q => to σ H fun x H1 => tyT x H1 ∧ t σ H1 fun xs H2 => r x xs H2 Q
/-- o.m(e, ..), o such a tuple -/
theorem pe_bt {o e : Expr} {es : List Expr} {to : TE} {t : TA} {name : Str} {apos cpos : Pos} {id : String} {r : V → List V → Hp → VK → Prop} (slot : Slot "tuple" name id) (hty : typeOf (.builtin id) = pure (.type "method_descriptor")) (hm : MtR X id r) (ho : PE X o to) (ha : PA X (e :: es) t)
    (hbase : attributeBase o name X.env (eval o X.env) = eval o X.env := by rfl)
    (few : ((backTo cpos (starEach (e :: es) X.env)).all (fun x => !x.1) && (backToKw cpos (keywordEach [] X.env)).all (fun x => x.1.isSome) && decide ((e :: es).length + ([] : List Keyword).length + (if ([] : List Keyword).isEmpty then 0 else 1) < 30)) = true := by rfl)
    (line : (apos.endLine == cpos.line) = true := by rfl) (star : starEach (e :: es) X.env = (false, eval e X.env) :: starEach es X.env := by rfl) (plain : (backTo cpos (starEach es X.env)).any (·.1) = false := by rfl) :
    PE X (.Call (.Attribute o name apos) (e :: es) [] cpos) (tBT r to t) := by
  refine ⟨fun pins s σ H Q J wish => ?_⟩
  refine wpAny_Call_method_late hbase few line rfl (thn (ho.run pins s σ H _ J wish) fun v s1 ⟨x, H1, J1, r1, ty, q1⟩ => ?_)
  obtain ⟨a, ob, u, rfl, ha1, hc, hd⟩ := ty
  obtain rfl : v = Value.ref a := r1
  have get : s1.heap.get? a = some ob := (J1.hok a _ ha1).1
  refine ⟨"tuple", id, PySem.F.plainAttrs_tuple, slot, hty, ⟨ob, get, hc⟩, (fun b e => by
    cases e
    exact ⟨ob, get, hd⟩), ?_⟩
  have args := ha.run cpos pins s1 σ H1 _ J1 q1
  rw [star] at args ⊢
  refine Calls.callWith_builtin (by show (false || (backTo cpos (starEach es X.env)).any (·.1)) = false; rw [plain] <;> rfl) (Calls.evalArgs_plain ?_)
  exact thn args fun us s2 ⟨vs, H2, J2, r2, q2⟩ => hm pins s2 σ H2 (.ref a) vs (.ref a) us Q J2 rfl r2 q2
end
def spHo (K : PySem.W.Frag) (sp : Bool) : Sp := fun vs H Q _ => ∃ (M : List Addr) (b l : Addr) (n m : Int) (x : Str), vs = [.ref b, .int n, .int m, .str x] ∧ Cb M b l H ∧ 0 < n ∧ n < 10 ∧ 0 < m ∧ m < 10 ∧ (sp = false → x ≠ "spoilt") ∧
  ∀ (y : V) (h : Hou) (H' : Hp), Fr b l H H' → HouOk h → h.ks.length = n.toNat → h.ss.length = m.toNat → HouF K M H' y h → Q y H'
section
variable {K : PySem.W.Frag} {M : List Addr} {b l : Addr} {σ : L2.St} {H : Hp} {Q : VK} {E : XK}
def rTupOf (K : PySem.W.Frag) : List V → Hp → VK → Prop := fun xs H Q => ∃ p ys, xs = [.ref p] ∧ ((SqL K H p ys ∧ ∀ l, H l = none → Q (.ref l) (upd H l (.tup ys))) ∨ (SqT K H p ys ∧ Q (.ref p) H))
theorem nil_of {Q : List V → Hp → Prop} (h : Q [] H) : tNil σ H Q := h
/-- tuple(..) of a list that is told -/
theorem tuple_of {v : V} {ds : List PyData} (n : Kn M H) (hv : Dm K M H v (.list ds)) (q : ∀ y H', Sub H H' → Dm K M H' y (.tuple ds) → Q y H') : rTupOf K [v] H Q := by
  obtain ⟨a, xs, rfl, hs, ha⟩ := hv.lstAt
  exact ⟨a, xs, rfl, .inl ⟨hs, fun z hz => q _ _ (Sub.new hz) (Dm.tupNew n hz ha)⟩⟩
/-- what follows the first if -/
theorem ho_rest {n m : Int} {x : Str} {D : Ends} (cb : Cb M b l H) (n0 : 0 < n) (n1 : n < 10) (m0 : 0 < m) (m1 : m < 10)
    (k : ∀ (y : V) (h : Hou) (H' : Hp), Fr b l H H' → HouOk h → h.ks.length = n.toNat → h.ss.length = m.toNat → HouF K M H' y h → D.rt y H') :
    Evl.tCut (tAsg (tIf (tTest (tOp (rIn K false) (tVar 3) (tTup (tCons (tC (.str "elder")) (tCons (tC (.str "younger")) tNil))))) (tLst (tCons (tC (.bl true)) (tCons (tC (.bl true)) (tCons (tC (.bl true)) (tCons (tC (.bl false)) tNil))))) (tLst (tCons (tC (.bl true)) (tCons (tC (.bl false)) tNil)))) (gName 4))
      (tSeq (tAsg (tCall (spKinds K) [] E0 (tCons (tVar 0) (tCons (tVar 1) (tCons (tIf (tAnd (tTest (tOp rEq (tVar 3) (tC (.str "meek")))) (tTest (tOp rEq (tCall spTake [] E0 (tCons (tVar 0) (tCons (tC (.int 2)) tNil))) (tC (.int 0))))) (tLst (tCons (tC (.bl true)) tNil)) (tVar 4)) tNil)))) (gName 5))
      (tRet (tTup (tCons (tVar 5) (tCons (tCB (rTupF K) (tCons (tCall (spNamed K) [] E0 (tCons (tVar 0) (tCons (tVar 2) tNil))) tNil)) (tCons (tCall (spJudge K) [] E0 (tCons (tVar 0) (tCons (tVar 1) (tCons (tVar 2) (tCons (tVar 3) tNil))))) tNil))))))
      D [some (.ref b), some (.int n), some (.int m), some (.str x), none, none] H := by
  refine ⟨fun σ' H' => ∃ (vk : V) (bs : List Bool), σ' = [some (.ref b), some (.int n), some (.int m), some (.str x), some vk, none] ∧ Fr b l H H' ∧ 0 < bs.length ∧ bs.length < 1000 ∧ Dm K M H' vk (.list (bs.map PyData.bool)), ?_, ?_⟩
  · refine ⟨_, rfl, by show 2 ≤ sizeLine; decide, fun p hp => ⟨p, _, rfl, .inr (SqT.of upd_same), rfl, rfl, _, rfl, ?_⟩⟩
    have f1 : Fr b l H (upd H p (.tup [.str "elder", .str "younger"])) := Fr.new cb.bag hp
    have c1 := cb.fr f1
    refine ite2 (fun e => ?_) (fun e => ?_)
    · refine evd_lst (K := K) (M := M) c1.kn (evds_cons evd_bl (evds_cons evd_bl (evds_cons evd_bl (evds_cons evd_bl evds_nil)))) lt4 _ (Sub.refl _) _ fun v H2 s2 h2 => ?_
      exact ⟨v, [true, true, true, false], rfl, f1.trans (Fr.sub c1.bag s2), by decide, by decide, h2⟩
    · refine evd_lst (K := K) (M := M) c1.kn (evds_cons evd_bl (evds_cons evd_bl evds_nil)) lt2 _ (Sub.refl _) _ fun v H2 s2 h2 => ?_
      exact ⟨v, [true, false], rfl, f1.trans (Fr.sub c1.bag s2), by decide, by decide, h2⟩
  rintro σ1 H1 ⟨vk, bs, rfl, f1, b0, b1, hk⟩
  have c1 := cb.fr f1
  -- from any list of truths
  have made : ∀ (v : V) (bs : List Bool) (H2 : Hp), Fr b l H1 H2 → 0 < bs.length → bs.length < 1000 → Dm K M H2 v (.list (bs.map PyData.bool)) →
      spKinds K [.ref b, .int n, v] H2 (fun y H3 => tRet (tTup (tCons (tVar 5) (tCons (tCB (rTupF K) (tCons (tCall (spNamed K) [] E0 (tCons (tVar 0) (tCons (tVar 2) tNil))) tNil)) (tCons (tCall (spJudge K) [] E0 (tCons (tVar 0) (tCons (tVar 1) (tCons (tVar 2) (tCons (tVar 3) tNil))))) tNil)))) D [some (.ref b), some (.int n), some (.int m), some (.str x), some vk, some y] H3) E0 := by
    intro v bs H2 f2 b0 b1 hb
    have c2 := c1.fr f2
    refine ⟨M, b, l, n, v, bs, rfl, c2, by omega, by omega, hb, b0, b1, fun y ks H3 f3 hkl oks hy => ?_⟩
    have c3 := c2.fr f3
    refine ret_of (tup_of (cons_of ⟨y, rfl, cons_of ?_⟩))
    refine ⟨_, rfl, _, rfl, M, b, l, m, rfl, c3, by omega, by omega, fun y2 ns H4 f4 hnl hnN hnd hy2 => ?_⟩
    have c4 := c3.fr f4
    refine nil_of ?_
    show rTupF K [y2] H4 _
    refine tuple_ofF c4.kn hy2 fun s3 H5 s5 hy3 hF3 => ?_
    refine cons_of ?_
    have f5 : Fr b l H4 H5 := Fr.sub c4.bag s5
    have c5 := c4.fr f5
    refine ⟨_, rfl, _, rfl, _, rfl, _, rfl, M, b, l, n, m, x, rfl, c5, by omega, by omega, by omega, by omega, fun y4 j H6 f6 oj hy4 => ?_⟩
    refine ⟨by show 3 ≤ sizeLine; decide, fun z hz => ?_⟩
    have c6 := c5.fr f6
    have f46 := (f4.trans f5).trans f6
    refine k _ ⟨ks, ns, j⟩ _ (((f1.trans f2).trans (f3.trans f46)).trans (Fr.new c6.bag hz)) ⟨by show 0 < ks.length; omega, by show ks.length < 10; omega, oks, by show 0 < ns.length; omega, by show ns.length < 10; omega, hnN, hnd, by show JudOk ks.length ns.length j; rw [hkl, hnl]; exact oj⟩ hkl hnl ?_
    have kz {o : HO} : Kp M H6 (upd H6 z o) := Kp.new hz
    exact ⟨z, y, s3, y4, rfl, SqT.of (by rw [er_in (c6.kn.out hz)]; exact upd_same), Dm.k (Dm.f hy f46 cb.mem) kz, Dm.k (Dm.f hy3 f6 cb.mem) kz, Dm.k hy4 kz, (hF3.k (f6.kp cb.mem)).k kz⟩
  refine ⟨_, rfl, _, rfl, ?_⟩
  refine ⟨_, rfl, rfl, _, rfl, ite2 (fun e => ?_) (fun e => ?_)⟩
  · refine ⟨_, rfl, b, l, _, rfl, c1.bag, by decide, by decide, fun j H2 f2 j0 j1 => ⟨rfl, _, rfl, ite2 (fun e => ?_) (fun e => ?_)⟩⟩
    · have c2 := c1.fr f2
      refine evd_lst (K := K) (M := M) c2.kn (evds_cons evd_bl evds_nil) lt1 _ (Sub.refl _) _ fun v H3 s3 h3 => ?_
      exact made v [true] H3 (f2.trans (Fr.sub c2.bag s3)) (by decide) (by decide) h3
    · exact ⟨_, rfl, made vk bs H2 f2 b0 b1 (Dm.f hk f2 cb.mem)⟩
  · exact ⟨_, rfl, made vk bs H1 (Fr.refl c1.bag) b0 b1 hk⟩
end
section
variable {P : Program} {w : World} {K : PySem.W.Frag} {mg : Str → Option Value} {base : Heap}
abbrev sHo : Stmt := topS 26
theorem scHo : FnScope ["bag", "kinds", "sorts", "style", "keeps", "made"] ["bag", "kinds", "sorts", "style"] (defScope sHo) := ⟨rfl, rfl, rfl, by decide +kernel, rfl, by decide +kernel, by decide +kernel⟩
theorem ok_ho0 {f fT fK fN fJ : Addr} {fd fdT fdK fdN fdJ : FuncData} (F : Fun K "_law_house_of" "_law_house_of" sHo f fd) (T : Txt mg) (CT : Cal P w K mg base "_law_take" 1 ["bag", "upto"] spTake fT fdT)
    (CK : Cal P w K mg base "_law_kinds" 4 ["bag", "many", "keeps"] (spKinds K) fK fdK) (CN : Cal P w K mg base "_law_named" 3 ["bag", "many"] (spNamed K) fN fdN) (CJ : Cal P w K mg base "_law_judge" 4 ["bag", "kinds", "sorts", "style"] (spJudge K) fJ fdJ) :
    FnOk P w K mg base CX0 5 f fd ["bag", "kinds", "sorts", "style"] (spHo K false) := by
  refine F.ok scHo (fun vs H Q E h => ?_) (fun cdv A outer s H vs Q E hr h => ?_)
  · obtain ⟨M, b, l, n, m, x, rfl, _⟩ := h
    rfl
  · obtain ⟨M, b, l, n, m, x, rfl, cb, n0, n1, m0, m1, hx, k⟩ := h
    have hr4 : Room 4 _ := hr
    have hr3 : Room 3 _ := hr.mono (by decide)
    have hr1 : Room 1 _ := hr.mono (by decide)
    refine ⟨_, pss_cons (ps_if (pt_cmpR op_eq (pv 3) pe_str (nomark _)) pss_never pss_nil)
      (Evl.pss_cut (ps_set (i := 4) scHo.nd rfl (Or.inl rfl) (pe_ifExp (pt_cmpR op_in_seq (pv 3) (pe_tup (pa_cons pe_str (pa_cons pe_str pa_nil))) (by rfl)) (pe_lst (pa_cons pe_bl (pa_cons pe_bl (pa_cons pe_bl (pa_cons pe_bl pa_nil))))) (pe_lst (pa_cons pe_bl (pa_cons pe_bl pa_nil)))))
      (pss_cons (ps_set (i := 5) scHo.nd rfl (Or.inl rfl) (pcl CK hr4 (pa_cons (pv 0) (pa_cons (pv 1) (pa_cons (pe_ifExp (PW.pt (pw_and (pt_cmpR op_eq (pv 3) pe_str (nomark _)) (pw_and1 (pt_cmpR op_eq (pcl CT hr1 (pa_cons (pv 0) (pa_cons pe_int pa_nil))) pe_int (nomark _))))) (pe_lst (pa_cons pe_bl pa_nil)) (pv 4)) pa_nil)))))
      (pss_one (ps_ret (pe_tup (pa_cons (pv 5) (pa_cons (pe_callTy (show CallR _ (.type "tuple") (rTupF K) from call_tupleF) (by rfl) T.tuple bootTuple (pa_cons (pcl CN hr3 (pa_cons (pv 0) (pa_cons (pv 2) pa_nil))) pa_nil)) (pa_cons (pcl CJ hr4 (pa_cons (pv 0) (pa_cons (pv 1) (pa_cons (pv 2) (pa_cons (pv 3) pa_nil))))) pa_nil)))))))), ?_⟩
    refine ⟨_, rfl, rfl, _, rfl, ite2 (fun e => ?_) (fun e => ?_)⟩
    · exact absurd (of_decide_eq_true e) (fun z => hx rfl (V.str.inj z))
    · exact ho_rest cb n0 n1 m0 m1 k
theorem ok_ho {f fT fS fK fN fJ fQ : Addr} {fd fdT fdS fdK fdN fdJ fdQ : FuncData} (F : Fun K "_law_house_of" "_law_house_of" sHo f fd) (T : Txt mg) (CT : Cal P w K mg base "_law_take" 1 ["bag", "upto"] spTake fT fdT) (CS : Cal P w K mg base "_law_some" 2 ["bag", "things"] (spSome K) fS fdS)
    (CK : Cal P w K mg base "_law_kinds" 4 ["bag", "many", "keeps"] (spKinds K) fK fdK) (CN : Cal P w K mg base "_law_named" 3 ["bag", "many"] (spNamed K) fN fdN) (CJ : Cal P w K mg base "_law_judge" 4 ["bag", "kinds", "sorts", "style"] (spJudge K) fJ fdJ)
    (CQ : Cal P w K mg base "_law_spoilt_house" 3 ["bag", "house"] (spSpoilt K) fQ fdQ) (g : mg "_law_house_of" = some (.ref f)) (bb : Binds K fd ["bag", "kinds", "sorts", "style"] []) :
    FnOk P w K mg base CX0 6 f fd ["bag", "kinds", "sorts", "style"] (spHo K true) := by
  have C0 : Cal P w K mg base "_law_house_of" 5 ["bag", "kinds", "sorts", "style"] (spHo K false) f fd := ⟨ok_ho0 F T CT CK CN CJ, g, F.kp, bb⟩
  refine F.ok scHo (fun vs H Q E h => ?_) (fun cdv A outer s H vs Q E hr h => ?_)
  · obtain ⟨M, b, l, n, m, x, rfl, _⟩ := h
    rfl
  · obtain ⟨M, b, l, n, m, x, rfl, cb, n0, n1, m0, m1, hx, k⟩ := h
    have hr4 : Room 4 _ := hr.mono (by decide)
    have hr3 : Room 3 _ := hr.mono (by decide)
    have hr2 : Room 2 _ := hr.mono (by decide)
    have hr1 : Room 1 _ := hr.mono (by decide)
    refine ⟨_, pss_cons (ps_if (pt_cmpR op_eq (pv 3) pe_str (nomark _)) (pss_one (ps_ret (pcl CQ hr3 (pa_cons (pv 0) (pa_cons (pcl C0 hr (pa_cons (pv 0) (pa_cons (pv 1) (pa_cons (pv 2) (pa_cons (pcl CS hr2 (pa_cons (pv 0) (pa_cons (pe_lst (pa_cons pe_str (pa_cons pe_str pa_nil))) pa_nil))) pa_nil))))) pa_nil))))) pss_nil)
      (Evl.pss_cut (ps_set (i := 4) scHo.nd rfl (Or.inl rfl) (pe_ifExp (pt_cmpR op_in_seq (pv 3) (pe_tup (pa_cons pe_str (pa_cons pe_str pa_nil))) (by rfl)) (pe_lst (pa_cons pe_bl (pa_cons pe_bl (pa_cons pe_bl (pa_cons pe_bl pa_nil))))) (pe_lst (pa_cons pe_bl (pa_cons pe_bl pa_nil)))))
      (pss_cons (ps_set (i := 5) scHo.nd rfl (Or.inl rfl) (pcl CK hr4 (pa_cons (pv 0) (pa_cons (pv 1) (pa_cons (pe_ifExp (PW.pt (pw_and (pt_cmpR op_eq (pv 3) pe_str (nomark _)) (pw_and1 (pt_cmpR op_eq (pcl CT hr1 (pa_cons (pv 0) (pa_cons pe_int pa_nil))) pe_int (nomark _))))) (pe_lst (pa_cons pe_bl pa_nil)) (pv 4)) pa_nil)))))
      (pss_one (ps_ret (pe_tup (pa_cons (pv 5) (pa_cons (pe_callTy (show CallR _ (.type "tuple") (rTupF K) from call_tupleF) (by rfl) T.tuple bootTuple (pa_cons (pcl CN hr3 (pa_cons (pv 0) (pa_cons (pv 2) pa_nil))) pa_nil)) (pa_cons (pcl CJ hr4 (pa_cons (pv 0) (pa_cons (pv 1) (pa_cons (pv 2) (pa_cons (pv 3) pa_nil))))) pa_nil)))))))), ?_⟩
    refine ⟨_, rfl, rfl, _, rfl, ite2 (fun e => ?_) (fun e => ?_)⟩
    · refine ret_of ⟨_, rfl, _, rfl, _, rfl, _, rfl, ?_⟩
      refine evb_call (K := K) (M := M) rfl (evds_cons (evd_lst cb.kn (evds_cons evd_str (evds_cons evd_str evds_nil)) lt2) evds_nil) fun vs H1 s1 h1 => ?_
      obtain ⟨v1, rfl, h1'⟩ := Dms.one_at h1
      have f1 : Fr b l H H1 := Fr.sub cb.bag s1
      refine ⟨M, b, l, v1, _, rfl, cb.fr f1, .inl h1', by decide, by decide, fun y d H2 f2 hd hy => ?_⟩
      have c2 := (cb.fr f1).fr f2
      have hst : ∃ z : Str, d = .str z ∧ z ≠ "spoilt" := by
        simp only [List.mem_cons, List.not_mem_nil, or_false] at hd
        rcases hd with hd | hd
        · exact ⟨_, hd, by decide +kernel⟩
        · exact ⟨_, hd, by decide +kernel⟩
      obtain ⟨z, rfl, hz⟩ := hst
      cases Dm.strAt hy
      refine ⟨M, b, l, n, m, z, rfl, c2, n0, n1, m0, m1, fun _ => hz, fun y3 h3 H3 f3 ok3 hk3 hs3 hy3 => ?_⟩
      exact ⟨M, b, l, y3, h3, rfl, c2.fr f3, hy3, ok3, fun y4 h4 H4 f4 ok4 hk4 hs4 hy4 => k y4 h4 H4 (((f1.trans f2).trans f3).trans f4) ok4 (hk4.trans hk3) (hs4.trans hs3) hy4⟩
    · exact ho_rest cb n0 n1 m0 m1 k
end
end KZ

namespace KZ
open PySem PySem.Spec PyProof.Rows L2
/-- the same items, in another order: told by the objects themselves -/
def spMixedV (K : PySem.W.Frag) : Sp := fun vs H Q _ => ∃ (b l a : Addr) (xs : List V), vs = [.ref b, .ref a] ∧ Bag b l H ∧ SqL K (er [b] H) a xs ∧ xs.length < 100000 ∧
  ∀ (p : Addr) (ys : List V) (H' : Hp), Fr b l H H' → H p = none → H' p = some (.lst ys) → ys.Perm xs → Q (.ref p) H'
def spBag (K : PySem.W.Frag) : Sp := fun vs H Q _ => ∃ (a : Addr) (ns : List Int), vs = [.ref a] ∧ SqL K H a (ns.map V.int) ∧ ns.length ≤ 63 ∧ ∀ (b l : Addr) (H' : Hp), Sub H H' → Bag b l H' → Q (.ref b) H'
def spHouse (K : PySem.W.Frag) : Sp := fun vs H Q _ => ∃ (M : List Addr) (b l : Addr) (n : Int), vs = [.ref b, .int n] ∧ Cb M b l H ∧ 0 < n ∧ n < 10 ∧
  ∀ (y : V) (h : Hou) (H' : Hp), Fr b l H H' → HouOk h → h.ks.length ≤ n.toNat → h.ss.length ≤ 3 → HouF K M H' y h → Q y H'
theorem er_nil (H : Hp) : er [] H = H := by
  funext a
  unfold er
  exact if_neg (by simp)
theorem dps_ints {K : PySem.W.Frag} {H : Hp} : ∀ l : List Int, DpAll K H (l.map V.int) (l.map PyData.int)
  | [] => .nil
  | x :: l => .cons (.int x) (dps_ints l)
theorem ints_dps {K : PySem.W.Frag} {H : Hp} : ∀ {l : List Int} {vs : List V}, DpAll K H vs (l.map PyData.int) → vs = l.map V.int
  | [], _, h => by
    cases h
    rfl
  | x :: l, _, h => by
    cases h with
    | cons h1 h2 =>
      cases h1
      rw [ints_dps h2]
      rfl
theorem c_of {v : V} {σ : L2.St} {H : Hp} {Q : VK} (h : Q v H) : tC v σ H Q := h
theorem lst_of {tr : TA} {σ : L2.St} {H : Hp} {Q : VK} (h : tr σ H fun xs H1 => xs.length ≤ sizeLine ∧ ∀ p, H1 p = none → Q (.ref p) (upd H1 p (.lst xs))) : tLst tr σ H Q := h
def absD : PyData → Int
  | .int i => if i < 0 then -i else i
  | _ => 0
section
variable {P : Program} {w : World} {K : PySem.W.Frag} {mg : Str → Option Value} {base : Heap}
theorem ok_mixedV {f fT : Addr} {fd fdT : FuncData} (F : Fun K "_law_mixed" "_law_mixed" sMixed f fd) (T : Txt mg) (CT : Cal P w K mg base "_law_take" 1 ["bag", "upto"] spTake fT fdT) : FnOk P w K mg base CX0 2 f fd ["bag", "things"] (spMixedV K) := by
  refine F.ok scMixed (fun vs H Q E h => ?_) (fun cdv A outer s H vs Q E hr h => ?_)
  · obtain ⟨b, l, a, xs, rfl, _⟩ := h
    rfl
  · obtain ⟨b, l, a, xs, rfl, bag, hse, hz, k⟩ := h
    refine ⟨_, pss_cons (ps_set (i := 2) scMixed.nd rfl (Or.inl rfl) (pe_lst pa_nil))
      (pss_cons (ps_for PassesOwn.never rfl (pi_list (pv 1)) (pg_name (i := 3) scMixed.nd rfl (Or.inl rfl))
        (pss_one (ps_expr (pe_bm PySem.F.plainAttrs_list PySem.F.slot_list_insert PySem.F.type_list_insert mt_insert (pv 2)
          (pa_cons (pcl CT hr (pa_cons (pv 0) (pa_cons (pe_op op_add (pe_callB call_len_seq (by rfl) T.len PySem.boot_len (pa_cons (pv 2) pa_nil)) pe_int) pa_nil))) (pa_cons (pv 3) pa_nil))))))
      (pss_one (ps_ret (pv 2)))), ?_⟩
    refine ⟨Nat.zero_le _, fun p hp => ?_⟩
    have seq : ∀ {H' : Hp}, Fr b l H H' → SqL K H' a xs := fun f => (er_sub _ _).sqL (Sub.sqL f.k.er hse)
    have f0 : Fr b l H (upd H p (.lst [])) := Fr.new bag hp
    have pb := ne_new bag.at hp
    refine ⟨_, rfl, a, rfl, ⟨_, seq f0⟩, for_list (K := K) (a := a) (xs := xs) (fun i σ H' => ∃ (u : Option V) (vs : List V), σ = [some (.ref b), some (.ref a), some (.ref p), u] ∧ Fr b l H H' ∧ H' p = some (.lst vs) ∧ vs.Perm (xs.take i))
      ⟨none, [], rfl, f0, upd_same, List.Perm.refl _⟩ (fun i σ H' _ ⟨_, _, _, q, _⟩ => seq q) ?_ ?_⟩
    · rintro i y σ H' hi ⟨u, vs, rfl, f1, h1p, hpm⟩
      have hix := (List.getElem?_eq_some_iff.mp hi).1
      have hlv : vs.length = i := by
        rw [hpm.length_eq, List.length_take]
        omega
      refine ⟨_, rfl, .inl ⟨rfl, _, SqL.of h1p⟩, _, rfl, _, rfl, p, _, rfl, .inl (SqL.of h1p), _, _, rfl, rfl, ?_⟩
      refine ⟨b, l, _, rfl, f1.bag, by omega, by omega, fun j H2 f2 j0 j1 => ?_⟩
      have h2p : H2 p = some (.lst vs) := f2.k p _ (by simp [pb]) h1p
      refine ⟨_, rfl, p, vs, j, y, rfl, rfl, h2p, szl (by omega), j0, by omega, ?_⟩
      refine ⟨_, _, rfl, (f1.trans f2).mut bag hp, upd_same, ?_⟩
      rw [take_snoc hi]
      exact (ins_perm _ _ _).trans ((List.Perm.cons _ hpm).trans (List.perm_append_singleton _ _).symm)
    · rintro σ H' ⟨u, vs, rfl, f1, h1p, hpm⟩
      rw [List.take_length] at hpm
      exact ⟨_, rfl, k p vs H' f1 hp h1p hpm⟩
abbrev sBag : Stmt := topS 15
theorem scBag : FnScope ["script", "cell"] ["script"] (defScope sBag) := ⟨rfl, rfl, rfl, by decide +kernel, rfl, by decide +kernel, by decide +kernel⟩
theorem ok_bag {f : Addr} {fd : FuncData} (F : Fun K "_law_bag" "_law_bag" sBag f fd) (T : Txt mg) : FnOk P w K mg base CX0 1 f fd ["script"] (spBag K) := by
  refine F.ok scBag (fun vs H Q E h => ?_) (fun cdv A outer s H vs Q E hr h => ?_)
  · obtain ⟨a, ns, rfl, _⟩ := h
    rfl
  · obtain ⟨a, ns, rfl, hs, hl, k⟩ := h
    refine ⟨_, pss_one (ps_ret (pe_lst (pa_cons pe_int (pa_cons pe_int (pa_cons pe_int (pa_cons
      (pe_lc (own := [("cell", 1)]) (g := gName 1) (tt := tYes) rfl scBag.nd (pi_list (pe_slice sl_list (pv 0) po_none (po_some pe_int))) (blkOk_by (N := ["script", "cell"]) (sc := defScope sBag) (by decide +kernel)) (fun _ _ _ _ _ => pg_name (i := 1) scBag.nd rfl (Or.inl rfl)) (fun _ _ _ _ _ => pts_nil)
        (fun _ _ _ _ _ => pe_callB call_abs (by rfl) T.abs PyProof.Rows.boot_abs (pa_cons (pv 1) pa_nil))) pa_nil)))))), ?_⟩
    have hd : Dm K [] H (.ref a) (.list (ns.map PyData.int)) := .lst (by rw [er_nil]; exact hs) (dps_ints ns)
    have kn : Kn [] H := fun a m => nomatch m
    refine ret_of (lst_of (cons_of (c_of (cons_of (c_of (cons_of (c_of (cons_of ?_))))))))
    have e0 : EvD K [] (tVar 0) ([some (.ref a), none] : L2.St) H (.list (ns.map PyData.int)) := evd_var rfl hd
    have e1 : EvD K [] (tSl (rSlL K) (tVar 0) tNoPart (tPart (tC (.int 63)))) ([some (.ref a), none] : L2.St) H (.list (ns.map PyData.int)) := by
      have q := evd_slL kn e0 evo_none (evo_some (evd_int (K := K) (M := []) (i := 63)))
      have z : cutD (ns.map PyData.int) none (some 63) = ns.map PyData.int := by
        unfold cutD
        have e : HT.sIx (ns.map PyData.int).length (ns.map PyData.int).length (some 63) = (ns.map PyData.int).length := by
          rw [show (63 : Int) = ((63 : Nat) : Int) from rfl, HT.sIx_nat, List.length_map]
          exact Nat.min_eq_right hl
        rw [e, HT.sIx_none, List.drop_zero, Nat.sub_zero, List.take_length]
      rw [z] at q
      exact q
    refine evd_lc (g := fun d => .int (absD d)) kn e1 (by rw [List.length_map]; omega) (by intro z; rfl) ?_ H (Sub.refl _) _ fun p xs H1 s1 hp h1p hxs => ?_
    · intro Dl hD d x H1 s1 n1 hd1 hx1
      obtain ⟨i, _, rfl⟩ := List.mem_map.mp hd1
      cases Dm.intAt hx1
      intro H2 s2 Q2 q2
      exact ⟨_, rfl, i, rfl, q2 _ H2 (Sub.refl _) (.int _)⟩
    · rw [List.map_map, show ((fun d => PyData.int (absD d)) ∘ PyData.int) = PyData.int ∘ (fun i : Int => if i < 0 then -i else i) from rfl, ← List.map_map] at hxs
      have ex := ints_dps hxs
      refine ⟨by show 4 ≤ sizeLine; decide, fun q hq => ?_⟩
      refine k q p _ (s1.trans (Sub.new hq)) ⟨0, 1234567891, 0, ns.map fun i : Int => if i < 0 then -i else i, upd_same, ne_of_none h1p hq, ?_, by decide, by decide, by decide, by decide, by rw [List.length_map]; omega, ?_⟩
      · rw [upd_ne (ne_of_none h1p hq), h1p, ex]
      · intro c hc
        obtain ⟨i, _, rfl⟩ := List.mem_map.mp hc
        split <;> omega
/-! a house -/
abbrev sHouse : Stmt := topS 27
theorem scHouse : FnScope ["bag", "kinds", "style"] ["bag", "kinds"] (defScope sHouse) := ⟨rfl, rfl, rfl, by decide +kernel, rfl, by decide +kernel, by decide +kernel⟩
theorem ok_house {f fT fS fH : Addr} {fd fdT fdS fdH : FuncData} (F : Fun K "_law_house" "_law_house" sHouse f fd) (CT : Cal P w K mg base "_law_take" 1 ["bag", "upto"] spTake fT fdT) (CS : Cal P w K mg base "_law_some" 2 ["bag", "things"] (spSome K) fS fdS)
    (CH : Cal P w K mg base "_law_house_of" 6 ["bag", "kinds", "sorts", "style"] (spHo K true) fH fdH) : FnOk P w K mg base CX0 7 f fd ["bag", "kinds"] (spHouse K) := by
  refine F.ok scHouse (fun vs H Q E h => ?_) (fun cdv A outer s H vs Q E hr h => ?_)
  · obtain ⟨M, b, l, n, rfl, _⟩ := h
    rfl
  · obtain ⟨M, b, l, n, rfl, cb, n0, n1, k⟩ := h
    have hr2 : Room 2 _ := hr.mono (by decide)
    have hr1 : Room 1 _ := hr.mono (by decide)
    refine ⟨_, pss_cons (ps_set (i := 2) scHouse.nd rfl (Or.inl rfl) (pcl CS hr2 (pa_cons (pv 0) (pa_cons (pe_lst (pa_cons pe_str (pa_cons pe_str (pa_cons pe_str (pa_cons pe_str (pa_cons pe_str (pa_cons pe_str (pa_cons pe_str pa_nil)))))))) pa_nil))))
      (pss_one (ps_ret (pcl CH hr (pa_cons (pv 0) (pa_cons (pe_op op_add pe_int (pcl CT hr1 (pa_cons (pv 0) (pa_cons (pv 1) pa_nil)))) (pa_cons (pcl CS hr2 (pa_cons (pv 0) (pa_cons (pe_lst (pa_cons pe_int (pa_cons pe_int (pa_cons pe_int (pa_cons pe_int pa_nil))))) pa_nil))) (pa_cons (pv 2) pa_nil))))))), ?_⟩
    refine sset_of (evb_call (K := K) (M := M) rfl (evds_cons (evd_lst cb.kn (evds_cons evd_str (evds_cons evd_str (evds_cons evd_str (evds_cons evd_str (evds_cons evd_str (evds_cons evd_str (evds_cons evd_str evds_nil))))))) (by show 7 < 1000000; decide)) evds_nil) fun vs H1 s1 h1 => ?_)
    obtain ⟨v1, rfl, h1'⟩ := Dms.one_at h1
    have f1 : Fr b l H H1 := Fr.sub cb.bag s1
    have c1 := cb.fr f1
    refine ⟨M, b, l, v1, _, rfl, c1, .inl h1', by show 0 < 7; decide, by show 7 < 1000000; decide, fun y d H2 f2 hd hy => ?_⟩
    have c2 := c1.fr f2
    have hst : ∃ z : Str, d = .str z := by
      simp only [List.mem_cons, List.not_mem_nil, or_false] at hd
      rcases hd with hd | hd | hd | hd | hd | hd | hd <;> exact ⟨_, hd⟩
    obtain ⟨st, rfl⟩ := hst
    cases Dm.strAt hy
    refine ret_of ⟨_, rfl, _, rfl, _, rfl, b, l, n, rfl, c2.bag, n0, by omega, fun j H3 f3 j0 j1 => ⟨_, _, rfl, rfl, cons_of ?_⟩⟩
    have c3 := c2.fr f3
    refine evb_call (K := K) (M := M) rfl (evds_cons (evd_lst c3.kn (evds_cons evd_int (evds_cons evd_int (evds_cons evd_int (evds_cons evd_int evds_nil)))) lt4) evds_nil) fun vs H4 s4 h4 => ?_
    obtain ⟨v4, rfl, h4'⟩ := Dms.one_at h4
    have f4 : Fr b l H3 H4 := Fr.sub c3.bag s4
    have c4 := c3.fr f4
    refine ⟨M, b, l, v4, _, rfl, c4, .inl h4', by show 0 < 4; decide, by show 4 < 1000000; decide, fun y d H5 f5 hd hy => ?_⟩
    have hin : ∃ z : Int, d = .int z ∧ 0 < z ∧ z ≤ 3 := by
      simp only [List.mem_cons, List.not_mem_nil, or_false] at hd
      rcases hd with hd | hd | hd | hd <;> exact ⟨_, hd, by decide, by decide⟩
    obtain ⟨m, rfl, m0, m1⟩ := hin
    cases Dm.intAt hy
    refine ⟨_, rfl, M, b, l, 1 + j, m, st, rfl, c4.fr f5, by omega, by omega, m0, by omega, fun e => (nomatch e), fun y h H6 f6 ok hk hs hy => ?_⟩
    exact k y h H6 ((((f1.trans f2).trans (f3.trans f4)).trans f5).trans f6) ok (by omega) (by omega) hy
end
end KZ

namespace KZ
open PySem PySem.Spec PyProof.Rows L2
abbrev Pl := Nat × Nat × Nat × Nat
def plK (p : Pl) : List L2.Key := [.inl (p.1 : Int), .inl (p.2.1 : Int), .inl (p.2.2.1 : Int), .inl (p.2.2.2 : Int)]
theorem plV (p : Pl) : (plK p).map kV = [.int (p.1 : Int), .int (p.2.1 : Int), .int (p.2.2.1 : Int), .int (p.2.2.2 : Int)] := rfl
def plD (p : Pl) : PyData := .tuple [.int (p.1 : Int), .int (p.2.1 : Int), .int (p.2.2.1 : Int), .int (p.2.2.2 : Int)]
def pl3 (s a h : Nat) : List Pl := [(s, a, h, 0), (s, a, h, 1)]
def pl2 (n s a : Nat) : List Pl := (List.range n).flatMap fun h => pl3 s a h
def pl1 (n s : Nat) : List Pl := (List.range n).flatMap fun a => pl2 n s a
def plL (n m : Nat) : List Pl := (List.range m).flatMap fun s => pl1 n s
theorem flat_succ {α : Type} (f : Nat → List α) (n : Nat) : (List.range (n + 1)).flatMap f = (List.range n).flatMap f ++ f n := by
  rw [List.range_succ, List.flatMap_append]
  simp
/-- tracked tuples that are new since H -/
abbrev PlAt (H H' : Hp) (ps : List Addr) (l : List Pl) : Prop := Paired (fun (q : Addr) (p : Pl) => H q = none ∧ H' q = some (.tup ((plK p).map kV))) ps l
theorem PlAt.mono {H A B : Hp} {ps : List Addr} {l : List Pl} (h : PlAt H A ps l) (k : ∀ q o, H q = none → A q = some o → (∃ vs, o = .tup vs) → B q = some o) : PlAt H B ps l :=
  Paired.mapP h fun q p e => ⟨e.1, k q _ e.1 e.2 ⟨_, rfl⟩⟩
theorem paired_app {α β : Type} {F : α → β → Prop} : ∀ {a c : List α} {b d : List β}, Paired F a b → Paired F c d → Paired F (a ++ c) (b ++ d)
  | _, _, _, _, .nil, h => h
  | _, _, _, _, .cons x t, h => .cons x (paired_app t h)
def spPlaces (K : PySem.W.Frag) : Sp := fun vs H Q _ => ∃ (M : List Addr) (v : V) (ks ss : List PyData) (j : PyData), vs = [v] ∧ Kn M H ∧ Dm K M H v (.tuple [.tuple ks, .tuple ss, j]) ∧ ks.length < 10 ∧ ss.length < 10 ∧
  ∀ (p : Addr) (ps : List Addr) (H' : Hp), Sub H H' → H p = none → H' p = some (.lst (ps.map V.ref)) → PlAt H H' ps (plL ks.length ss.length) → Q (.ref p) H'
theorem paired_len {α β : Type} {F : α → β → Prop} {a : List α} {b : List β} (h : Paired F a b) : a.length = b.length := Paired.length h
theorem len3 (s a h : Nat) : (pl3 s a h).length = 2 := rfl
theorem flat_len {α : Type} (f : Nat → List α) (k : Nat) (hf : ∀ i, (f i).length = k) : ∀ n, ((List.range n).flatMap f).length = n * k
  | 0 => by simp
  | n + 1 => by rw [flat_succ, List.length_append, flat_len f k hf n, hf, Nat.succ_mul]
theorem len2 (n s a : Nat) : (pl2 n s a).length = n * 2 := flat_len _ 2 (fun h => len3 s a h) n
theorem len1 (n s : Nat) : (pl1 n s).length = n * (n * 2) := flat_len _ (n * 2) (fun a => len2 n s a) n
theorem len0 (n m : Nat) : (plL n m).length = m * (n * (n * 2)) := flat_len _ (n * (n * 2)) (fun s => len1 n s) m
section
variable {P : Program} {w : World} {K : PySem.W.Frag} {mg : Str → Option Value} {base : Heap}
abbrev sPlaces : Stmt := topS 29
theorem scPlaces : FnScope ["house", "found", "sort", "asker", "holder"] ["house"] (defScope sPlaces) := ⟨rfl, rfl, rfl, by decide +kernel, rfl, by decide +kernel, by decide +kernel⟩
/-- range(len(house[i])) -/
theorem rng_len {M : List Addr} {σ : L2.St} {H : Hp} {i : Int} {ds rs : List PyData} {v : V} {R : It → Hp → Prop} (hv : σ[0]? = some (some v)) (hd : Dm K M H v (.tuple ds)) (i0 : 0 ≤ i) (hi : ds[i.toNat]? = some (.tuple rs)) (hz : rs.length < 1000) (k : R (Itr 0 rs.length) H) :
    iRng1 (tCons (tCB (fun xs H Q => ∃ p ys, xs = [V.ref p] ∧ (SqL K H p ys ∨ SqT K H p ys) ∧ Q (.int ys.length) H) (tCons (tOp (rIxT K) (tVar 0) (tC (.int i))) tNil)) tNil) σ H R := by
  obtain ⟨a, xs, y, rfl, hs, hat, hy⟩ := dm_getT hd i0 hi
  obtain ⟨b, ys, rfl, hs2, ha2⟩ := hy.tupAt
  refine ⟨_, hv, a, xs, i, _, rfl, rfl, hs, hat, b, ys, rfl, .inr hs2, _, rfl, by omega, ?_, ?_⟩
  · have := ha2.len
    omega
  · rw [ha2.len]
    exact k
/-- for j in range(len(house[i])) -/
theorem for_len {M : List Addr} {σ : L2.St} {H : Hp} {i : Int} {ds rs : List PyData} {v : V} {g : TG} {tb : TS} {D : Ends} (hv : σ[0]? = some (some v)) (hd : Dm K M H v (.tuple ds)) (i0 : 0 ≤ i) (hi : ds[i.toNat]? = some (.tuple rs)) (hz : rs.length < 1000)
    (Pv : Nat → L2.St → Hp → Prop) (h0 : Pv 0 σ H) (hs : ∀ (i : Nat) σ H, i < rs.length → Pv i σ H → g (.int (i : Int)) σ H fun σ2 H2 => tb { D with nx := Pv (i + 1), ct := Pv (i + 1), bk := D.nx } σ2 H2) (hn : ∀ σ H, Pv rs.length σ H → D.nx σ H) :
    tFor (iRng1 (tCons (tCB (fun xs H Q => ∃ p ys, xs = [V.ref p] ∧ (SqL K H p ys ∨ SqT K H p ys) ∧ Q (.int ys.length) H) (tCons (tOp (rIxT K) (tVar 0) (tC (.int i))) tNil)) tNil)) g tb D σ H :=
  rng_len hv hd i0 hi hz (for_range (lo := 0) (n := rs.length) Pv h0 (fun i σ H hi p => by
    rw [show (0 : Int) + (i : Nat) = (i : Int) by omega]
    exact hs i σ H hi p) hn)
theorem gname_of {i : Nat} {x : V} {σ : L2.St} {H : Hp} {k : L2.St → Hp → Prop} (h : k (σ.set i (some x)) H) : gName i x σ H k := h
theorem sfor {wi : TI} {g : TG} {tb u : TS} {D : Ends} {σ : L2.St} {H : Hp} (h : tFor wi g tb { D with nx := u D } σ H) : tSeq (tFor wi g tb) u D σ H := h
theorem for1 {wi : TI} {g : TG} {tb : TS} {D : Ends} {σ : L2.St} {H : Hp} (h : tFor wi g tb D σ H) : tFor wi g tb D σ H := h
theorem ok_places {f : Addr} {fd : FuncData} (F : Fun K "_law_places" "_law_places" sPlaces f fd) (T : Txt mg) : FnOk P w K mg base CX0 1 f fd ["house"] (spPlaces K) := by
  refine F.ok scPlaces (fun vs H Q E h => ?_) (fun cdv A outer s H vs Q E hr h => ?_)
  · obtain ⟨M, v, ks, ss, j, rfl, _⟩ := h
    rfl
  · obtain ⟨M, v, ks, ss, j, rfl, kn, hv, kz, sz, k⟩ := h
    refine ⟨_, pss_cons (ps_set (i := 1) scPlaces.nd rfl (Or.inl rfl) (pe_lst pa_nil))
      (pss_cons (ps_for PassesOwn.never rfl (pi_range1 rfl T.range (pa_cons (pe_callB call_len_seq (by rfl) T.len PySem.boot_len (pa_cons (pe_ix ix_tup (pv 0) pe_int (fun _ _ => rfl)) pa_nil)) pa_nil)) (pg_name (i := 2) scPlaces.nd rfl (Or.inl rfl))
        (pss_one (ps_for PassesOwn.never rfl (pi_range1 rfl T.range (pa_cons (pe_callB call_len_seq (by rfl) T.len PySem.boot_len (pa_cons (pe_ix ix_tup (pv 0) pe_int (fun _ _ => rfl)) pa_nil)) pa_nil)) (pg_name (i := 3) scPlaces.nd rfl (Or.inl rfl))
          (pss_one (ps_for PassesOwn.never rfl (pi_range1 rfl T.range (pa_cons (pe_callB call_len_seq (by rfl) T.len PySem.boot_len (pa_cons (pe_ix ix_tup (pv 0) pe_int (fun _ _ => rfl)) pa_nil)) pa_nil)) (pg_name (i := 4) scPlaces.nd rfl (Or.inl rfl))
            (pss_one (ps_expr (pe_bm PySem.F.plainAttrs_list PySem.F.slot_list_extend PySem.F.type_list_extend mt_extend (pv 1) (pa_cons (pe_lst (pa_cons (pe_tup (pa_cons (pv 2) (pa_cons (pv 3) (pa_cons (pv 4) (pa_cons pe_int pa_nil)))))
              (pa_cons (pe_tup (pa_cons (pv 2) (pa_cons (pv 3) (pa_cons (pv 4) (pa_cons pe_int pa_nil))))) pa_nil))) pa_nil)))))))))
      (pss_one (ps_ret (pv 1)))), ?_⟩
    refine sset_of (lst_of (nil_of ⟨Nat.zero_le _, fun p hp => ?_⟩))
    have eh {H' : Hp} (s : Sub H H') : Dm K M H' v (.tuple [.tuple ks, .tuple ss, j]) := Dm.s hv s
    refine sfor ?_
    refine for_len (i := 1) (rs := ss) rfl (eh (Sub.new hp)) (by decide) rfl (by omega) (fun i σ H' => ∃ (u2 u3 u4 : Option V) (ps : List Addr), σ = [some v, some (.ref p), u2, u3, u4] ∧ Sub H H' ∧ H' p = some (.lst (ps.map V.ref)) ∧ PlAt H H' ps ((List.range i).flatMap fun s => pl1 ks.length s))
      ⟨none, none, none, [], rfl, Sub.new hp, upd_same, .nil⟩ ?_ ?_
    · rintro i1 σ H1 hi1 ⟨u2, u3, u4, ps, rfl, s1, h1p, hps⟩
      refine gname_of (for1 ?_)
      refine for_len (i := 0) (rs := ks) rfl (eh s1) (by decide) rfl (by omega) (fun i2 σ H' => ∃ (u3 u4 : Option V) (ps : List Addr), σ = [some v, some (.ref p), some (.int (i1 : Int)), u3, u4] ∧ Sub H H' ∧ H' p = some (.lst (ps.map V.ref)) ∧ PlAt H H' ps (((List.range i1).flatMap fun s => pl1 ks.length s) ++ (List.range i2).flatMap fun a => pl2 ks.length i1 a))
        ⟨u3, u4, ps, rfl, s1, h1p, by rw [List.range_zero, List.flatMap_nil, List.append_nil]; exact hps⟩ ?_ ?_
      · rintro i2 σ H2 hi2 ⟨u3, u4, ps, rfl, s2, h2p, hps⟩
        refine gname_of (for1 ?_)
        refine for_len (i := 0) (rs := ks) rfl (eh s2) (by decide) rfl (by omega) (fun i3 σ H' => ∃ (u4 : Option V) (ps : List Addr), σ = [some v, some (.ref p), some (.int (i1 : Int)), some (.int (i2 : Int)), u4] ∧ Sub H H' ∧ H' p = some (.lst (ps.map V.ref)) ∧
            PlAt H H' ps ((((List.range i1).flatMap fun s => pl1 ks.length s) ++ (List.range i2).flatMap fun a => pl2 ks.length i1 a) ++ (List.range i3).flatMap fun h => pl3 i1 i2 h))
          ⟨u4, ps, rfl, s2, h2p, by rw [List.range_zero, List.flatMap_nil, List.append_nil]; exact hps⟩ ?_ ?_
        · rintro i3 σ H3 hi3 ⟨u4, ps, rfl, s3, h3p, hps⟩
          refine ⟨_, rfl, .inl ⟨rfl, _, SqL.of h3p⟩, _, rfl, _, rfl, _, rfl, by show 4 ≤ sizeLine; decide, fun q1 hq1 => ⟨_, rfl, _, rfl, _, rfl, by show 4 ≤ sizeLine; decide, fun q2 hq2 => ⟨by show 2 ≤ sizeLine; decide, fun lq hlq => ?_⟩⟩⟩
          have n1 : p ≠ q1 := ne_of_none h3p hq1
          have h4p := Sub.new (o := .tup ((plK (i1, i2, i3, 0)).map kV)) hq1 _ _ h3p
          have h5p := Sub.new (o := .tup ((plK (i1, i2, i3, 1)).map kV)) hq2 _ _ h4p
          have h6p := Sub.new (o := .lst [.ref q1, .ref q2]) hlq _ _ h5p
          have ll := paired_len hps
          refine ⟨p, lq, _, _, rfl, rfl, h6p, upd_same, ?_, ?_⟩
          · rw [List.length_map, ll, List.length_append, List.length_append, flat_len _ _ (fun s => len1 ks.length s), flat_len _ _ (fun a => len2 ks.length i1 a), flat_len _ _ (fun h => len3 i1 i2 h)]
            have b1 : i1 * (ks.length * (ks.length * 2)) ≤ 10 * (10 * (10 * 2)) := Nat.mul_le_mul (by omega) (Nat.mul_le_mul (by omega) (Nat.mul_le_mul (by omega) (Nat.le_refl _)))
            have b2 : i2 * (ks.length * 2) ≤ 10 * (10 * 2) := Nat.mul_le_mul (by omega) (Nat.mul_le_mul (by omega) (Nat.le_refl _))
            exact Nat.le_of_lt (szl (by show _ + 2 < 1000000; omega))
          · have s6 : Sub H3 _ := ((Sub.new (o := .tup ((plK (i1, i2, i3, 0)).map kV)) hq1).trans (Sub.new (o := .tup ((plK (i1, i2, i3, 1)).map kV)) hq2)).trans (Sub.new (o := .lst [.ref q1, .ref q2]) hlq)
            have hk1 : H q1 = none := s3.free hq1
            have hk2 : H q2 = none := (s3.trans (Sub.new (o := .tup ((plK (i1, i2, i3, 0)).map kV)) hq1)).free hq2
            have g1 := Sub.new (o := .lst [.ref q1, .ref q2]) hlq _ _ (Sub.new (o := .tup ((plK (i1, i2, i3, 1)).map kV)) hq2 _ _ (upd_same (H := H3) (a := q1) (o := .tup ((plK (i1, i2, i3, 0)).map kV))))
            have g2 := Sub.new (o := .lst [.ref q1, .ref q2]) hlq _ _ (upd_same (H := upd H3 q1 (.tup ((plK (i1, i2, i3, 0)).map kV))) (a := q2) (o := .tup ((plK (i1, i2, i3, 1)).map kV)))
            have all := paired_app (hps.mono (B := _) fun q o _ e _ => s6 q o e) (.cons ⟨hk1, g1⟩ (.cons ⟨hk2, g2⟩ .nil) : PlAt H _ [q1, q2] (pl3 i1 i2 i3))
            refine ⟨_, ps ++ [q1, q2], rfl, (s3.trans s6).mut hp, by rw [List.map_append]; exact upd_same, ?_⟩
            rw [flat_succ, ← List.append_assoc]
            refine PlAt.mono all fun q o _ e ⟨vs, ev⟩ => ?_
            rw [upd_ne (ne_of e h6p (by rw [ev]; intro z; cases z))]
            exact e
        · rintro σ H3 ⟨u4, ps, rfl, s3, h3p, hps⟩
          refine ⟨_, _, ps, rfl, s3, h3p, ?_⟩
          rw [flat_succ, ← List.append_assoc]
          exact hps
      · rintro σ H2 ⟨u3, u4, ps, rfl, s2, h2p, hps⟩
        refine ⟨_, _, _, ps, rfl, s2, h2p, ?_⟩
        rw [flat_succ]
        exact hps
    · rintro σ H1 ⟨u2, u3, u4, ps, rfl, s1, h1p, hps⟩
      exact ⟨_, rfl, k p ps H1 s1 hp h1p hps⟩
end
end KZ

namespace KZ
open PySem PySem.Spec PyProof.Rows L2
def side (c : Cp) (d : Nat) : Str := if d = 0 then c.1 else c.2
/-- the word at a place -/
def wordAt (j : Jud) (p : Pl) : Str := side (((j.getD p.1 []).getD p.2.1 []).getD p.2.2.1 ("", "")) p.2.2.2
def PlIn (n m : Nat) (p : Pl) : Prop := p.1 < m ∧ p.2.1 < n ∧ p.2.2.1 < n ∧ p.2.2.2 < 2
theorem getD_of {α : Type} {l : List α} {i : Nat} (h : i < l.length) (d : α) : l[i]? = some (l.getD i d) := by
  rw [List.getD_eq_getElem?_getD, List.getElem?_eq_getElem h]
  rfl
theorem mem_plL {n m : Nat} {p : Pl} (h : p ∈ plL n m) : PlIn n m p := by
  unfold plL pl1 pl2 pl3 at h
  obtain ⟨s, hs, h⟩ := List.mem_flatMap.mp h
  obtain ⟨a, ha, h⟩ := List.mem_flatMap.mp h
  obtain ⟨k, hk, h⟩ := List.mem_flatMap.mp h
  have := List.mem_range.mp hs
  have := List.mem_range.mp ha
  have := List.mem_range.mp hk
  rcases List.mem_cons.mp h with h | h
  · rw [h]
    exact ⟨by assumption, by assumption, by assumption, by show 0 < 2; decide⟩
  · rw [List.mem_singleton.mp h]
    exact ⟨by assumption, by assumption, by assumption, by show 1 < 2; decide⟩
theorem plL_mem {n m : Nat} {p : Pl} (h : PlIn n m p) : p ∈ plL n m := by
  obtain ⟨s, a, k, d⟩ := p
  obtain ⟨h1, h2, h3, h4⟩ := h
  refine List.mem_flatMap.mpr ⟨s, List.mem_range.mpr h1, List.mem_flatMap.mpr ⟨a, List.mem_range.mpr h2, List.mem_flatMap.mpr ⟨k, List.mem_range.mpr h3, ?_⟩⟩⟩
  have h4 : d < 2 := h4
  rcases (by omega : d = 0 ∨ d = 1) with z | z
  · rw [z]
    exact List.mem_cons_self
  · rw [z]
    exact List.mem_cons_of_mem _ List.mem_cons_self
theorem plK_inj {p q : Pl} (h : plK p = plK q) : p = q := by
  obtain ⟨a, b, c, d⟩ := p
  obtain ⟨a', b', c', d'⟩ := q
  simp only [plK, List.cons.injEq, Sum.inl.injEq] at h
  obtain ⟨h1, h2, h3, h4, _⟩ := h
  have e1 : a = a' := by omega
  have e2 : b = b' := by omega
  have e3 : c = c' := by omega
  have e4 : d = d' := by omega
  rw [e1, e2, e3, e4]
def plHash (p : Pl) : Int := reduceHash (Builtin.Tuple.tupleHashOf [hashInt (p.1 : Int), hashInt (p.2.1 : Int), hashInt (p.2.2.1 : Int), hashInt (p.2.2.2 : Int)])
theorem hash_nd : ∀ n, n < 6 → ∀ m, m < 4 → ((plL n m).map plHash).Nodup := by decide +kernel
theorem keys_nd : ∀ n, n < 6 → ∀ m, m < 4 → ((plL n m).map plK).Nodup := by
  intro n hn m hm
  have q := List.pairwise_map.mp (hash_nd n hn m hm)
  exact List.pairwise_map.mpr (q.imp fun hab e => hab (by rw [plK_inj e]))
theorem judAt {n m : Nat} {j : Jud} (ok : JudOk n m j) {p : Pl} (h : PlIn n m p) : j[p.1]? = some (j.getD p.1 []) ∧ (j.getD p.1 [])[p.2.1]? = some ((j.getD p.1 []).getD p.2.1 []) ∧ ((j.getD p.1 []).getD p.2.1 [])[p.2.2.1]? = some (((j.getD p.1 []).getD p.2.1 []).getD p.2.2.1 ("", "")) := by
  obtain ⟨h1, h2, h3, h4⟩ := h
  have e1 : j[p.1]? = some (j.getD p.1 []) := getD_of (by rw [ok.1]; exact h1) _
  have t := ok.2 _ (List.mem_of_getElem? e1)
  have e2 : (j.getD p.1 [])[p.2.1]? = some ((j.getD p.1 []).getD p.2.1 []) := getD_of (by rw [t.1]; exact h2) _
  have r := t.2 _ (List.mem_of_getElem? e2)
  exact ⟨e1, e2, getD_of (by rw [r.1]; exact h3) _⟩
def spWat (K : PySem.W.Frag) : Sp := fun vs H Q _ => ∃ (M : List Addr) (d0 d1 : PyData) (j : Jud) (n m : Nat) (p : Pl) (vh vp : V), vs = [vh, vp] ∧ Kn M H ∧ Dm K M H vh (.tuple [d0, d1, judD j]) ∧ Dm K M H vp (plD p) ∧ JudOk n m j ∧ PlIn n m p ∧ ∀ H', Sub H H' → Q (.str (wordAt j p)) H'
def wordsK (n m : Nat) (f : Pl → Str) : List (List L2.Key × V) := (plL n m).map fun p => (plK p, .str (f p))
def spWords (K : PySem.W.Frag) : Sp := fun vs H Q _ => ∃ (M : List Addr) (h : Hou) (v : V), vs = [v] ∧ Kn M H ∧ Dm K M H v (houD h) ∧ HouOk h ∧ h.ks.length < 6 ∧ h.ss.length < 4 ∧
  ∀ d H', Sub H H' → H d = none → H' d = some (.dT (wordsK h.ks.length h.ss.length (wordAt h.j))) → Q (.ref d) H'
section
variable {P : Program} {w : World} {K : PySem.W.Frag} {mg : Str → Option Value} {base : Heap}
abbrev sWat : Stmt := topS 30
theorem scWat : FnScope ["house", "place"] ["house", "place"] (defScope sWat) := ⟨rfl, rfl, rfl, by decide +kernel, rfl, by decide +kernel, by decide +kernel⟩
theorem ok_wat {f : Addr} {fd : FuncData} (F : Fun K "_law_word_at" "_law_word_at" sWat f fd) : FnOk P w K mg base CX0 1 f fd ["house", "place"] (spWat K) := by
  refine F.ok scWat (fun vs H Q E h => ?_) (fun cdv A outer s H vs Q E hr h => ?_)
  · obtain ⟨M, d0, d1, j, n, m, p, vh, vp, rfl, _⟩ := h
    rfl
  · obtain ⟨M, d0, d1, j, n, m, p, vh, vp, rfl, kn, hh, hp, ok, hin, k⟩ := h
    refine ⟨_, pss_one (ps_ret (pe_ix ix_tup (pe_ix ix_tup (pe_ix ix_tup (pe_ix ix_tup (pe_ix ix_tup (pv 0) pe_int (fun _ _ => rfl)) (pe_ix ix_tup (pv 1) pe_int (fun _ _ => rfl)) (fun _ _ => rfl)) (pe_ix ix_tup (pv 1) pe_int (fun _ _ => rfl)) (fun _ _ => rfl))
      (pe_ix ix_tup (pv 1) pe_int (fun _ _ => rfl)) (fun _ _ => rfl)) (pe_ix ix_tup (pv 1) pe_int (fun _ _ => rfl)) (fun _ _ => rfl))), ?_⟩
    obtain ⟨e1, e2, e3⟩ := judAt ok hin
    have hd := hin.2.2.2
    have σh : EvD K M (tVar 0) ([some vh, some vp] : L2.St) H (.tuple [d0, d1, judD j]) := evd_var rfl hh
    have σp : EvD K M (tVar 1) ([some vh, some vp] : L2.St) H (plD p) := evd_var rfl hp
    have q0 : EvD K M _ ([some vh, some vp] : L2.St) H (judD j) := evd_ixT σh (evd_int (i := 2)) (by decide) rfl
    have q1 : EvD K M _ ([some vh, some vp] : L2.St) H (tabD (j.getD p.1 [])) := evd_ixT q0 (evd_ixT σp (evd_int (i := 0)) (by decide) rfl) (Int.natCast_nonneg _) (by rw [Int.toNat_natCast, List.getElem?_map, e1] <;> rfl)
    have q2 : EvD K M _ ([some vh, some vp] : L2.St) H (rowD ((j.getD p.1 []).getD p.2.1 [])) := evd_ixT q1 (evd_ixT σp (evd_int (i := 1)) (by decide) rfl) (Int.natCast_nonneg _) (by rw [Int.toNat_natCast, List.getElem?_map, e2] <;> rfl)
    have q3 : EvD K M _ ([some vh, some vp] : L2.St) H (cpD (((j.getD p.1 []).getD p.2.1 []).getD p.2.2.1 ("", ""))) := evd_ixT q2 (evd_ixT σp (evd_int (i := 2)) (by decide) rfl) (Int.natCast_nonneg _) (by rw [Int.toNat_natCast, List.getElem?_map, e3] <;> rfl)
    refine evd_ret (K := K) (M := M) (d := .str (wordAt j p)) (evd_ixT q3 (evd_ixT σp (evd_int (i := 3)) (by decide) rfl) (Int.natCast_nonneg _) ?_) fun v H1 s1 hv => ?_
    · rw [Int.toNat_natCast]
      unfold wordAt side
      rcases (by omega : p.2.2.2 = 0 ∨ p.2.2.2 = 1) with z | z
      · rw [z]
        rfl
      · rw [z]
        rfl
    · cases hv.strAt
      exact k H1 s1
theorem bootDict : bootBuiltins "dict" = some (.type "dict") := by decide +kernel
theorem plD_at {M : List Addr} {H0 H : Hp} {q : Addr} {p : Pl} (kn : Kn M H0) (h0 : H0 q = none) (e : H q = some (.tup ((plK p).map kV))) : Dm K M H (.ref q) (plD p) :=
  .tup (SqT.of (by rw [er_in (kn.out h0)]; exact e)) (.cons (.int _) (.cons (.int _) (.cons (.int _) (.cons (.int _) .nil))))
end
end KZ

namespace KZ
open PySem PySem.Spec PyProof.Rows L2
/-! data that can be shown -/
structure Good (d : PyData) (n k : Nat) : Prop where
  lay : d.canLay0 = true
  sh : d.showable = true
  nd : d.hasDict = false
  dp : d.depth ≤ k
  len : d.shown.length ≤ n
theorem Good.mono {d : PyData} {n k n' k' : Nat} (g : Good d n k) (h : n ≤ n') (h' : k ≤ k') : Good d n' k' := ⟨g.lay, g.sh, g.nd, Nat.le_trans g.dp h', Nat.le_trans g.len h⟩
theorem good_all {n k : Nat} : ∀ {ds : List PyData}, (∀ d ∈ ds, Good d n k) → PyData.canLayAll0 ds = true ∧ PyData.showableAll ds = true ∧ PyData.hasDictAll ds = false ∧ PyData.depthAll ds ≤ k ∧ piled (PyData.shownAll ds) ≤ ds.length * (n + 2)
  | [], _ => ⟨by simp only [PyData.canLayAll0], by simp only [PyData.showableAll], by simp only [PyData.hasDictAll], by simp only [PyData.depthAll]; exact Nat.zero_le _, by simp only [PyData.shownAll]; exact Nat.zero_le _⟩
  | d :: ds, h => by
    obtain ⟨h1, h2, h3, h4, h5⟩ := good_all fun x hx => h x (List.mem_cons_of_mem _ hx)
    have g := h d List.mem_cons_self
    refine ⟨by simp only [PyData.canLayAll0, g.lay, h1, Bool.and_self], by simp only [PyData.showableAll, g.sh, h2, Bool.and_self], by simp only [PyData.hasDictAll, g.nd, h3, Bool.or_self], by simp only [PyData.depthAll]; exact Nat.max_le.mpr ⟨g.dp, h4⟩, ?_⟩
    simp only [PyData.shownAll, piled_cons]
    have := g.len
    rw [List.length_cons, Nat.succ_mul]
    omega
theorem txt_len (ts : List Str) : (tupleText ts).length ≤ piled ts + 4 := by
  have e1 : (((if ts.length == 1 then ",)" else ")" : String) : Str)).length ≤ 2 := by
    split <;> decide +kernel
  have e2 : ((("(" : String) : Str)).length = 1 := rfl
  unfold tupleText
  rw [strLen_append, strLen_append, e2]
  by_cases z : ts = []
  · subst z
    decide +kernel
  · have := join_length_add ts z
    omega
theorem good_tup {ds : List PyData} {n k : Nat} (h : ∀ d ∈ ds, Good d n k) : Good (.tuple ds) (ds.length * (n + 2) + 4) (k + 1) := by
  obtain ⟨h1, h2, h3, h4, h5⟩ := good_all h
  refine ⟨by simp only [PyData.canLay0, h1], by simp only [PyData.showable, h2], by simp only [PyData.hasDict, h3], by simp only [PyData.depth]; omega, ?_⟩
  simp only [PyData.shown]
  have := txt_len (PyData.shownAll ds)
  omega
theorem good_str {l : List Str} (h : ∀ x ∈ l, PyData.strOk x = true ∧ (reprText x).length ≤ 20) {x : Str} (hx : x ∈ l) : Good (.str x) 20 0 :=
  ⟨by simp only [PyData.canLay0, (h x hx).1], by simp only [PyData.showable], by simp only [PyData.hasDict], by simp only [PyData.depth]; exact Nat.le_refl _, by simp only [PyData.shown]; exact (h x hx).2⟩
theorem names_ok : ∀ x ∈ Names, PyData.strOk x = true ∧ (reprText x).length ≤ 20 := by
  unfold Names
  decide +kernel
theorem words_ok : ∀ x ∈ Words, PyData.strOk x = true ∧ (reprText x).length ≤ 20 := by
  unfold Words
  decide +kernel
theorem good_bl (b : Bool) : Good (.bool b) 20 0 := by
  refine ⟨by simp only [PyData.canLay0], by simp only [PyData.showable], by simp only [PyData.hasDict], by simp only [PyData.depth]; exact Nat.le_refl _, ?_⟩
  simp only [PyData.shown]
  cases b <;> decide +kernel
theorem int_len : ∀ n : Nat, n < 16 → ((toString (n : Int) : String) : Str).length ≤ 20 := by decide +kernel
theorem good_int {i : Int} (h0 : 0 ≤ i) (h1 : i < 16) : Good (.int i) 20 0 := by
  have e : ((i.toNat : Nat) : Int) = i := by omega
  refine ⟨by simp only [PyData.canLay0], ?_, by simp only [PyData.hasDict], by simp only [PyData.depth]; exact Nat.le_refl _, ?_⟩
  · simp only [PyData.showable]
    refine decide_eq_true ?_
    have a : i.natAbs < 16 := by omega
    exact Nat.lt_of_le_of_lt (Nat.log2_le_self _) (by omega)
  · simp only [PyData.shown]
    have q := int_len i.toNat (by omega)
    rw [e] at q
    exact q
theorem good_kd {k : Kd} (hn : k.1 ∈ Names) (h0 : 0 ≤ k.2.2) (h1 : k.2.2 < 16) : Good (kdD k) 70 1 := by
  refine Good.mono (good_tup (n := 20) (k := 0) fun d hd => ?_) (by show 3 * (20 + 2) + 4 ≤ 70; decide) (Nat.le_refl _)
  simp only [List.mem_cons, List.not_mem_nil, or_false] at hd
  rcases hd with hd | hd | hd
  · rw [hd]
    exact good_str names_ok hn
  · rw [hd]
    exact good_bl _
  · rw [hd]
    exact good_int h0 h1
theorem good_cp {c : Cp} (h : CpOk c) : Good (cpD c) 48 1 := by
  refine Good.mono (good_tup (n := 20) (k := 0) fun d hd => ?_) (by show 2 * (20 + 2) + 4 ≤ 48; decide) (Nat.le_refl _)
  simp only [List.mem_cons, List.not_mem_nil, or_false] at hd
  rcases hd with hd | hd
  · rw [hd]
    exact good_str words_ok h.1
  · rw [hd]
    exact good_str words_ok h.2
theorem good_jud {n m : Nat} {j : Jud} (hn : n < 10) (hm : m < 10) (ok : JudOk n m j) : Good (judD j) 60000 4 := by
  have row : ∀ r, RowOk n r → Good (rowD r) 600 2 := fun r h => by
    refine Good.mono (good_tup (n := 48) (k := 1) fun d hd => ?_) ?_ (Nat.le_refl _)
    · obtain ⟨c, hc, rfl⟩ := List.mem_map.mp hd
      exact good_cp (h.2 c hc)
    · rw [List.length_map, h.1]
      have := Nat.mul_le_mul (show n ≤ 9 by omega) (Nat.le_refl 50)
      omega
  have tab : ∀ t, TabOk n t → Good (tabD t) 6000 3 := fun t h => by
    refine Good.mono (good_tup (n := 600) (k := 2) fun d hd => ?_) ?_ (Nat.le_refl _)
    · obtain ⟨r, hr, rfl⟩ := List.mem_map.mp hd
      exact row r (h.2 r hr)
    · rw [List.length_map, h.1]
      have := Nat.mul_le_mul (show n ≤ 9 by omega) (Nat.le_refl 602)
      omega
  refine Good.mono (good_tup (n := 6000) (k := 3) fun d hd => ?_) ?_ (Nat.le_refl _)
  · obtain ⟨t, ht, rfl⟩ := List.mem_map.mp hd
    exact tab t (ok.2 t ht)
  · rw [List.length_map, ok.1]
    have := Nat.mul_le_mul (show m ≤ 9 by omega) (Nat.le_refl 6002)
    omega
/-- what a house is shown to be, its kinds with any rises -/
theorem good_hou {ks : List Kd} {ss : List Str} {j : Jud} {n m : Nat} (hk : ∀ k ∈ ks, k.1 ∈ Names ∧ 0 ≤ k.2.2 ∧ k.2.2 < 16) (kl : ks.length < 10) (hs : ∀ x ∈ ss, x ∈ Names) (sl : ss.length < 10) (hn : n < 10) (hm : m < 10) (ok : JudOk n m j) : Good (houD ⟨ks, ss, j⟩) 200000 5 := by
  refine Good.mono (good_tup (n := 60000) (k := 4) fun d hd => ?_) (by show 3 * 60002 + 4 ≤ 200000; decide) (Nat.le_refl _)
  simp only [List.mem_cons, List.not_mem_nil, or_false] at hd
  rcases hd with hd | hd | hd
  · rw [hd]
    refine Good.mono (good_tup (n := 70) (k := 1) fun d hd => ?_) ?_ (by decide)
    · obtain ⟨k, hk', rfl⟩ := List.mem_map.mp hd
      obtain ⟨a, b, c⟩ := hk k hk'
      exact good_kd a b c
    · rw [List.length_map]
      have := Nat.mul_le_mul (show ks.length ≤ 9 by omega) (Nat.le_refl 72)
      omega
  · rw [hd]
    refine Good.mono (good_tup (n := 20) (k := 0) fun d hd => ?_) ?_ (by decide)
    · obtain ⟨x, hx, rfl⟩ := List.mem_map.mp hd
      exact good_str names_ok (hs x hx)
    · rw [List.length_map]
      have := Nat.mul_le_mul (show ss.length ≤ 9 by omega) (Nat.le_refl 22)
      omega
  · rw [hd]
    exact good_jud hn hm ok
/-! repr -/
section
variable {X : Cx}
def rRepr (K : PySem.W.Frag) : List V → Hp → VK → Prop := fun xs H Q => ∃ (v : V) (ds : List PyData) (n k : Nat), xs = [v] ∧ Dp K H v (.tuple ds) ∧ Good (.tuple ds) n k ∧ n < 1000000 ∧ k ≤ 60 ∧ Q (.str (PyData.shown (.tuple ds))) H
theorem call_repr (hg : X.A.guards = some []) (hu : X.A.units + 64 < cLine) : CallR X (.builtin "repr") (rRepr X.K) := by
  intro pins s σ H xs us Q I r q
  obtain ⟨v, ds, n, k, rfl, hd, g, hn, hk, q⟩ := q
  obtain ⟨u, rfl, rx⟩ := vals1 r
  obtain ⟨as, rr⟩ := Dp.reads I _ v u hd rx
  cases hd with
  | tup _ _ =>
  cases rx
  have := g.dp
  exact repr_of_reads' rr g.sh (PyData.noDict_hsm g.nd) hg (by omega) (fun _ _ e => e) (fun h' u tk hk' => ⟨.str _, H, I.kept (t' := tk) hk', ⟨_, rfl⟩, q⟩) (Nat.le_of_lt (szl (Nat.lt_of_le_of_lt g.len hn)))
end
end KZ

namespace KZ
open PySem PySem.Spec PyProof.Rows L2
/-- a promise that is kept where no repr is under way -/
structure FnG (P : Program) (w : World) (K : PySem.W.Frag) (mg : Str → Option Value) (base : Heap) (k : Nat) (f : Addr) (fd : FuncData) (ps : List Str) (sp : Sp) : Prop where
  len : ∀ vs H Q E, sp vs H Q E → vs.length = ps.length
  go : ∀ (A : Around) (up : List Env) (t : Shared) (H : Hp) (ar : Args) (us : List Value) (vs : List V) (Q : VK) (E : XK), A.guards = some [] → Room k A → Env0 P w K mg base A up t H → BindsTo t fd ar (ps.zip us) → Vals vs us → sp vs H Q E →
    codeAny (model P w) A (.call (.ref f) ar) (CR CX0 up P w H t Q E) t
section
variable {P : Program} {w : World} {K : PySem.W.Frag} {mg : Str → Option Value} {base : Heap}
/-- a def by its body, where no repr is under way -/
theorem fun_okG {x qual : Str} {st : Stmt} {f : Addr} {fd : FuncData} {N ps : List Str} {k : Nat} {sp : Sp} (F : Fun K x qual st f fd) (S : FnScope N ps (defScope st)) (hlen : ∀ vs H Q E, sp vs H Q E → vs.length = ps.length)
    (body : ∀ (cdv : Value) (A : Around) (up : List Env) (t : Shared) (H : Hp) (vs : List V) (Q : VK) (E : XK), A.guards = some [] → Room k (A.deeper (envOfC qual (defScope st) t.heap.objs.size f cdv)) → sp vs H Q E →
      ∃ τ, PSs (cxOf CX0 P w K mg base N qual (defScope st) f cdv A up t H E).nox (defBody st) τ ∧ τ { nx := fun _ H' => Q .non H', rt := Q } (start N vs) H) : FnG P w K mg base (k + 1) f fd ps sp := by
  obtain ⟨c0, d0, k0, doc, pm, an, cdv, ct, sl, rfl, found, code⟩ := F.ex
  refine ⟨hlen, ?_⟩
  intro A up t H ar us vs Q E gs room here binds rel wish
  have many := hlen _ _ _ _ wish
  have lim : t.heap.NoLimit := Heap.NoLimit.keeps here.mod.nolimit (fun b o e => (here.bs b o e).1)
  have inK : K.In t.heap := PySem.W.Frag.In.keeps here.mod.kin (fun b o e => (here.bs b o e).1)
  have kinds : ∀ z ∈ ps.zip us, (defScope st).names.lookup z.1 = some .local ∨
      ((defScope st).names.lookup z.1 = some .cell ∧ ((cellsFrom (t.heap.objs.size + 1) (defScope st).names []).lookup z.1).isSome = true) := by
    intro z hz
    have h1 : z.1 ∈ ps := (List.of_mem_zip (show (z.1, z.2) ∈ ps.zip us from hz)).1
    cases S.par _ h1 with
    | inl l => exact Or.inl l
    | inr l => exact Or.inr ⟨l, PySem.W.cellsFrom_some _ _ _ (Or.inl l)⟩
  refine codeAny_call_function room.depth (inK _ _ found) rfl S.co S.gen rfl (PySem.W.codeRec_of inK code) ?_
  refine binds _ _ _ _ ?_
  refine wpAny_newFunctionEnv_cells S.kind kinds ?_
  intro env he t1 inside
  subst he
  refine ⟨Heap.NoLimit.keeps lim inside.toInCall.keep, ?_⟩
  refine codeAny_func ?_
  obtain ⟨τ, runs, reads⟩ := body cdv A up t H vs Q E gs (Room.deeper room _) wish
  have J : L2.Inv (cxOf CX0 P w K mg base N qual (defScope st) f cdv A up t H E) [] (start N vs) H t1 := inv_start S room.hd here many rel inside
  refine wpAny_mono (runs.nox.run [] t1 (start N vs) H _ J reads) ?_ (fun _ _ z => z)
  intro fl t' out
  cases fl with
  | ret u =>
    obtain ⟨v, σ', H', I', rv, q⟩ := out
    exact ⟨v, H', I'.os, I'.bare, I'.base, I'.hok, rv, q⟩
  | next =>
    obtain ⟨σ', H', I', q⟩ := out
    exact ⟨V.non, H', I'.os, I'.bare, I'.base, I'.hok, rfl, q⟩
  | brk =>
    obtain ⟨_, _, _, q⟩ := out
    cases q
  | cont =>
    obtain ⟨_, _, _, q⟩ := out
    cases q
end
/-- a def that may be called where no repr is under way -/
structure CalG (P : Program) (w : World) (K : PySem.W.Frag) (mg : Str → Option Value) (base : Heap) (x : Str) (k : Nat) (ps : List Str) (sp : Sp) (f : Addr) (fd : FuncData) : Prop where
  ok : FnG P w K mg base k f fd ps sp
  g : mg x = some (.ref f)
  kp : PySem.W.keepIn K (.ref f) = true
  b : Binds K fd ps []
section
variable {X : Cx} {x : Str} {k : Nat} {ps : List Str} {sp : Sp} {f : Addr} {fd : FuncData} {e : Expr} {es : List Expr} {t : TA} {p pos : Pos}
theorem pclG (C : CalG X.prog X.w X.K X.mg X.base x k ps sp f fd) (gs : X.A.guards = some []) (hr : Room k X.A) (ha : PA X (e :: es) t) (hg : Gl X x := by rfl) (hdb : (x == ("__debug__" : Str)) = false := by decide) (he : starEach (e :: es) X.env = (false, eval e X.env) :: starEach es X.env := by rfl)
    (hpl : (backTo pos (starEach es X.env)).any (·.1) = false := by rfl) : PE X (.Call (.Name x p) (e :: es) [] pos) (tCall sp [] E0 t) := by
  refine ⟨fun pins s σ H Q I h => ?_⟩
  refine wpAny_Call_Name_kw (ld_glob I hg C.g ?_ hdb)
  refine PySem.W.callWith_K (h₀ := X.base) I.ok.mod.kin C.kp (thn (ha.run pos pins s σ H _ I h) ?_) he hpl
  intro us t1 got
  obtain ⟨vs, H1, J, rel, q⟩ := got
  refine ⟨J.kIn, ?_⟩
  rw [List.append_nil] at q
  have many : us.length = ps.length := by rw [← Vals.length rel]; exact C.ok.len _ _ _ _ q
  have bd := C.b t1 us J.kIn (by rw [List.append_nil]; exact many)
  rw [List.append_nil] at bd
  show wpAny (model X.prog X.w) X.A (call (.ref f) us) _ _ t1
  refine wpAny_call (codeAny_mono (C.ok.go X.A X.stack t1 H1 ⟨us, []⟩ us vs Q E0 gs hr J.env0 bd rel q) ?_)
  intro r t2 hq
  cases r with
  | error z => exact False.elim hq
  | ok fl =>
    cases fl with
    | ret u => exact J.after hq
    | next => exact False.elim hq
    | brk => exact False.elim hq
    | cont => exact False.elim hq
end
/-! two that are alike -/
def spAlike (K : PySem.W.Frag) : Sp := fun vs H Q _ => ∃ (v u : V) (ds : List PyData) (n k : Nat), vs = [v, u] ∧ Dp K H v (.tuple ds) ∧ Dp K H u (.tuple ds) ∧ Good (.tuple ds) n k ∧ n < 1000000 ∧ k ≤ 60 ∧ Q (.bl true) H
section
variable {P : Program} {w : World} {K : PySem.W.Frag} {mg : Str → Option Value} {base : Heap}
abbrev sAlike : Stmt := topS 18
theorem scAlike : FnScope ["found", "due"] ["found", "due"] (defScope sAlike) := ⟨rfl, rfl, rfl, by decide +kernel, rfl, by decide +kernel, by decide +kernel⟩
theorem ok_alike {f : Addr} {fd : FuncData} (F : Fun K "_law_alike" "_law_alike" sAlike f fd) (T : Txt mg) : FnG P w K mg base 1 f fd ["found", "due"] (spAlike K) := by
  refine fun_okG F scAlike (fun vs H Q E h => ?_) (fun cdv A outer s H vs Q E gs hr h => ?_)
  · obtain ⟨v, u, ds, n, k, rfl, _⟩ := h
    rfl
  · obtain ⟨v, u, ds, n, k, rfl, hv, hu, g, hn, hk, q⟩ := h
    refine ⟨_, pss_one (ps_ret (pe_and (pe_cmpR (op_eqD hr.units) (pv 0) (pv 1) (nomark _)) (pe_one (pe_cmpR op_eq (pe_callB (call_repr gs hr.units) (by rfl) T.repr PyProof.Rows.boot_repr (pa_cons (pv 0) pa_nil)) (pe_callB (call_repr gs hr.units) (by rfl) T.repr PyProof.Rows.boot_repr (pa_cons (pv 1) pa_nil)) (nomark _))))), ?_⟩
    have sh : SeqAt.shaped (.tuple ds) = true := by
      have := g.dp
      unfold SeqAt.shaped
      rw [g.lay, decide_eq_true (by omega)]
      rfl
    refine ⟨_, rfl, _, rfl, _, _, hv, hu, sh, sh, _, rfl, ?_⟩
    rw [SeqAt.eqv_refl _ g.lay]
    refine iteT ?_
    refine ⟨_, rfl, v, ds, n, k, rfl, hv, g, hn, hk, _, rfl, u, ds, n, k, rfl, hu, g, hn, hk, rfl, ?_⟩
    rw [decide_eq_true rfl]
    exact q
end
end KZ

namespace KZ
open PySem PySem.Spec PyProof.Rows L2
/-! a test without a bag -/
def EvB (tt : TT) (σ : L2.St) (H : Hp) (b : Bool) : Prop := ∀ H1, Sub H H1 → ∀ Q : Bool → Hp → Prop, (∀ H', Sub H1 H' → Q b H') → tt σ H1 Q
section
variable {K : PySem.W.Frag} {M : List Addr} {σ : L2.St} {H H' : Hp} {ta tb te tx : TE} {tr : TA} {t u : TT} {d e : PyData} {ds es : List PyData} {b c : Bool}
theorem EvB.sub (h : EvB t σ H b) (s : Sub H H') : EvB t σ H' b := fun H1 s1 => h H1 (s.trans s1)
theorem evd_eqI {i j : Int} (ha : EvD K M ta σ H (.int i)) (hb : EvD K M tb σ H (.int j)) : EvD K M (tOp rEq ta tb) σ H (.bool (decide (i = j))) := fun H1 s Q q =>
  ha H1 s _ fun v H2 s2 hv => hb H2 (s.trans s2) _ fun u H3 s3 hu => by
    cases hv.intAt
    cases hu.intAt
    refine ⟨rfl, q _ H3 (s2.trans s3) ?_⟩
    have e : decide (V.int i = V.int j) = decide (i = j) := by
      by_cases z : i = j
      · rw [decide_eq_true z, decide_eq_true (by rw [z])]
      · rw [decide_eq_false z, decide_eq_false fun y => z (by cases y; rfl)]
    rw [e]
    exact .bl _
theorem evd_neI {i j : Int} (ha : EvD K M ta σ H (.int i)) (hb : EvD K M tb σ H (.int j)) : EvD K M (tOp rNe ta tb) σ H (.bool (!decide (i = j))) := fun H1 s Q q =>
  ha H1 s _ fun v H2 s2 hv => hb H2 (s.trans s2) _ fun u H3 s3 hu => by
    cases hv.intAt
    cases hu.intAt
    refine ⟨rfl, q _ H3 (s2.trans s3) ?_⟩
    have e : decide (V.int i = V.int j) = decide (i = j) := by
      by_cases z : i = j
      · rw [decide_eq_true z, decide_eq_true (by rw [z])]
      · rw [decide_eq_false z, decide_eq_false fun y => z (by cases y; rfl)]
    rw [e]
    exact .bl _
theorem evd_eqS {i j : Str} (ha : EvD K M ta σ H (.str i)) (hb : EvD K M tb σ H (.str j)) : EvD K M (tOp rEq ta tb) σ H (.bool (decide (i = j))) := fun H1 s Q q =>
  ha H1 s _ fun v H2 s2 hv => hb H2 (s.trans s2) _ fun u H3 s3 hu => by
    cases hv.strAt
    cases hu.strAt
    refine ⟨rfl, q _ H3 (s2.trans s3) ?_⟩
    have e : decide (V.str i = V.str j) = decide (i = j) := by
      by_cases z : i = j
      · rw [decide_eq_true z, decide_eq_true (by rw [z])]
      · rw [decide_eq_false z, decide_eq_false fun y => z (by cases y; rfl)]
    rw [e]
    exact .bl _
theorem evb_test (h : EvD K M te σ H (.bool b)) : EvB (tTest te) σ H b := fun H1 s Q q => h H1 s _ fun v H2 s2 hv => by
  cases hv.blAt
  exact ⟨b, rfl, q H2 s2⟩
theorem evb_val (h : EvD K M te σ H (.bool b)) : EvB (tB te) σ H b := fun H1 s Q q => h H1 s _ fun v H2 s2 hv => by
  cases hv.blAt
  exact ⟨b, rfl, q H2 s2⟩
theorem evb_not (h : EvB t σ H b) : EvB (tNot t) σ H (!b) := fun H1 s Q q => h H1 s _ fun H2 s2 => q H2 s2
theorem evb_and (h : EvB t σ H b) (g : b = true → EvB u σ H c) : EvB (tAnd t u) σ H (b && c) := fun H1 s Q q => h H1 s _ fun H2 s2 => by
  cases b with
  | true => exact g rfl H2 (s.trans s2) _ fun H3 s3 => q H3 (s2.trans s3)
  | false => exact q H2 s2
theorem evb_or (h : EvB t σ H b) (g : b = false → EvB u σ H c) : EvB (tOr t u) σ H (b || c) := fun H1 s Q q => h H1 s _ fun H2 s2 => by
  cases b with
  | true => exact q H2 s2
  | false => exact g rfl H2 (s.trans s2) _ fun H3 s3 => q H3 (s2.trans s3)
theorem evd_and (h : EvD K M ta σ H (.bool b)) (g : b = true → EvD K M tb σ H (.bool c)) : EvD K M (tAndV ta tb) σ H (.bool (b && c)) := fun H1 s Q q => h H1 s _ fun v H2 s2 hv => by
  cases hv.blAt
  refine ⟨b, rfl, ?_⟩
  cases b with
  | true => exact g rfl H2 (s.trans s2) _ fun w H3 s3 hw => q w H3 (s2.trans s3) hw
  | false => exact q _ H2 s2 (.bl _)
theorem truL (h : Dm K M H v (.list ds)) : TruV K v H (!ds.isEmpty) := by
  obtain ⟨a, xs, rfl, hs, ha⟩ := Dm.lstAt h
  refine .inl ⟨xs, hs, ?_⟩
  have l := ha.len
  cases xs <;> cases ds <;> first | rfl | simp at l
theorem evd_notL (h : EvD K M te σ H (.list ds)) : EvD K M (tNotT K te) σ H (.bool ds.isEmpty) := fun H1 s Q q => h H1 s _ fun v H2 s2 hv => by
  refine ⟨_, truL hv, ?_⟩
  rw [Bool.not_not]
  exact q _ H2 s2 (.bl _)
/-- [g(x) for x in a list if c(x)] -/
theorem evd_lcF {tt : TT} {vs : List Nat} {j : Nat} (f : PyData → Bool) (g : PyData → PyData) (n : Kn M H) (h : EvD K M te σ H (.list ds)) (hz : ds.length < 100000) (hw : ∀ x, wipe ((wipe σ vs).set j (some x)) vs = wipe σ vs)
    (ht : ∀ (Dl : Addr), H Dl = none → ∀ (d : PyData) (x : V) (H1 : Hp), Sub H H1 → Kn (Dl :: M) H1 → d ∈ ds → Dm K (Dl :: M) H1 x d → EvB tt ((wipe σ vs).set j (some x)) H1 (f d))
    (he : ∀ (Dl : Addr), H Dl = none → ∀ (d : PyData) (x : V) (H1 : Hp), Sub H H1 → Kn (Dl :: M) H1 → d ∈ ds → f d = true → Dm K (Dl :: M) H1 x d → EvD K (Dl :: M) tb ((wipe σ vs).set j (some x)) H1 (g d)) : EvNL K M (tLc (iList K te) (gName j) tt tb vs) σ H ((ds.filter f).map g) := fun H1 s Q q =>
  h H1 s _ fun v H2 s2 hv => by
    obtain ⟨a, xs, rfl, hs, ha⟩ := hv.lstAtE
    have s02 := s.trans s2
    have hl := ha.len
    refine ⟨a, rfl, ⟨xs, (er_sub _ _).sqL hs⟩, fun Dl hD => ?_⟩
    have h0D : H Dl = none := s02.free hD
    refine lc_list (K := K) (a := a) (xs := xs) (fun i H' => Sub H2 H' ∧ ∃ acc, H' Dl = some (.lst acc) ∧ Dms K (Dl :: M) H' acc (((ds.take i).filter f).map g) ∧ SqL K (er (Dl :: M) H') a xs ∧ Dms K (Dl :: M) H' xs ds)
      ⟨Sub.new hD, [], upd_same, .nil, Sub.sqL (Kp.er (Kp.mut List.mem_cons_self)) (by rw [er_more hD]; exact hs), (ha.more hD).k (Kp.mut List.mem_cons_self)⟩ (fun i H' _ p => ?_) (fun i x H' hi p => ?_) (fun H' p => ?_)
    · obtain ⟨_, acc, _, _, p3, _⟩ := p
      exact (er_sub _ _).sqL p3
    · obtain ⟨sp, acc, p1, p2, p3, p4⟩ := p
      obtain ⟨d, hd, hx⟩ := p4.get' hi
      refine ⟨hw x, ?_⟩
      refine ht Dl h0D d x H' (s02.trans sp) ((n.sub (s02.trans sp)).more ⟨_, p1⟩) (List.mem_of_getElem? hd) hx H' (Sub.refl _) _ fun H3 s3 => ?_
      have p13 := s3 _ _ p1
      by_cases ef : f d = true
      · rw [if_pos ef]
        refine he Dl h0D d x H3 (s02.trans (sp.trans s3)) ((n.sub (s02.trans (sp.trans s3))).more ⟨_, p13⟩) (List.mem_of_getElem? hd) ef (Dm.s hx s3) H3 (Sub.refl _) _ fun y H4 s4 hy => ⟨acc, s4 _ _ p13, ?_, ?_⟩
        · have q1 := p2.len
          have q2 := List.length_filter_le f (ds.take i)
          rw [List.length_map] at q1
          rw [List.length_take] at q2
          exact szl (by omega)
        · have km : Kp (Dl :: M) H4 (upd H4 Dl (.lst (acc ++ [y]))) := Kp.mut List.mem_cons_self
          refine ⟨((sp.trans s3).trans s4).mut hD, _, upd_same, ?_, Sub.sqL km.er (Sub.sqL (Kp.er fun a o _ e => (s3.trans s4) a o e) p3), (Dms.s p4 (s3.trans s4)).k km⟩
          rw [take_snoc hd, List.filter_append, List.map_append]
          have e1 : [d].filter f = [d] := by rw [List.filter_cons, if_pos ef]; rfl
          rw [e1]
          exact Dms.k ((Dms.s p2 (s3.trans s4)).app (DpAll.one hy)) km
      · rw [if_neg ef]
        refine ⟨sp.trans s3, acc, p13, ?_, Sub.sqL (Kp.er fun a o _ e => s3 a o e) p3, Dms.s p4 s3⟩
        rw [take_snoc hd, List.filter_append]
        have e1 : [d].filter f = [] := by rw [List.filter_cons, if_neg ef]; rfl
        rw [e1, List.append_nil]
        exact Dms.s p2 s3
    · obtain ⟨sp, acc, p1, p2, p3, p4⟩ := p
      rw [hl, List.take_length] at p2
      exact q Dl acc H' (s2.trans sp) (s2.free hD) p1 p2
/-- [g(x) for x in a tuple if c(x)] -/
theorem evd_lcFT {tt : TT} {vs : List Nat} {j : Nat} (f : PyData → Bool) (g : PyData → PyData) (n : Kn M H) (h : EvD K M te σ H (.tuple ds)) (hz : ds.length < 100000) (hw : ∀ x, wipe ((wipe σ vs).set j (some x)) vs = wipe σ vs)
    (ht : ∀ (Dl : Addr), H Dl = none → ∀ (d : PyData) (x : V) (H1 : Hp), Sub H H1 → Kn (Dl :: M) H1 → d ∈ ds → Dm K (Dl :: M) H1 x d → EvB tt ((wipe σ vs).set j (some x)) H1 (f d))
    (he : ∀ (Dl : Addr), H Dl = none → ∀ (d : PyData) (x : V) (H1 : Hp), Sub H H1 → Kn (Dl :: M) H1 → d ∈ ds → f d = true → Dm K (Dl :: M) H1 x d → EvD K (Dl :: M) tb ((wipe σ vs).set j (some x)) H1 (g d)) : EvNL K M (tLc (iTup K te) (gName j) tt tb vs) σ H ((ds.filter f).map g) := fun H1 s Q q =>
  h H1 s _ fun v H2 s2 hv => by
    obtain ⟨a, xs, rfl, hs, ha⟩ := hv.tupAtE
    have s02 := s.trans s2
    have hl := ha.len
    refine ⟨a, rfl, ⟨xs, (er_sub _ _).sqT hs⟩, fun Dl hD => ?_⟩
    have h0D : H Dl = none := s02.free hD
    refine lc_tup (K := K) (a := a) (xs := xs) (fun i H' => Sub H2 H' ∧ ∃ acc, H' Dl = some (.lst acc) ∧ Dms K (Dl :: M) H' acc (((ds.take i).filter f).map g) ∧ SqT K (er (Dl :: M) H') a xs ∧ Dms K (Dl :: M) H' xs ds)
      ⟨Sub.new hD, [], upd_same, .nil, Sub.sqT (Kp.er (Kp.mut List.mem_cons_self)) (by rw [er_more hD]; exact hs), (ha.more hD).k (Kp.mut List.mem_cons_self)⟩ (fun i H' _ p => ?_) (fun i x H' hi p => ?_) (fun H' p => ?_)
    · obtain ⟨_, acc, _, _, p3, _⟩ := p
      exact (er_sub _ _).sqT p3
    · obtain ⟨sp, acc, p1, p2, p3, p4⟩ := p
      obtain ⟨d, hd, hx⟩ := p4.get' hi
      refine ⟨hw x, ?_⟩
      refine ht Dl h0D d x H' (s02.trans sp) ((n.sub (s02.trans sp)).more ⟨_, p1⟩) (List.mem_of_getElem? hd) hx H' (Sub.refl _) _ fun H3 s3 => ?_
      have p13 := s3 _ _ p1
      by_cases ef : f d = true
      · rw [if_pos ef]
        refine he Dl h0D d x H3 (s02.trans (sp.trans s3)) ((n.sub (s02.trans (sp.trans s3))).more ⟨_, p13⟩) (List.mem_of_getElem? hd) ef (Dm.s hx s3) H3 (Sub.refl _) _ fun y H4 s4 hy => ⟨acc, s4 _ _ p13, ?_, ?_⟩
        · have q1 := p2.len
          have q2 := List.length_filter_le f (ds.take i)
          rw [List.length_map] at q1
          rw [List.length_take] at q2
          exact szl (by omega)
        · have km : Kp (Dl :: M) H4 (upd H4 Dl (.lst (acc ++ [y]))) := Kp.mut List.mem_cons_self
          refine ⟨((sp.trans s3).trans s4).mut hD, _, upd_same, ?_, Sub.sqT km.er (Sub.sqT (Kp.er fun a o _ e => (s3.trans s4) a o e) p3), (Dms.s p4 (s3.trans s4)).k km⟩
          rw [take_snoc hd, List.filter_append, List.map_append]
          have e1 : [d].filter f = [d] := by rw [List.filter_cons, if_pos ef]; rfl
          rw [e1]
          exact Dms.k ((Dms.s p2 (s3.trans s4)).app (DpAll.one hy)) km
      · rw [if_neg ef]
        refine ⟨sp.trans s3, acc, p13, ?_, Sub.sqT (Kp.er fun a o _ e => s3 a o e) p3, Dms.s p4 s3⟩
        rw [take_snoc hd, List.filter_append]
        have e1 : [d].filter f = [] := by rw [List.filter_cons, if_neg ef]; rfl
        rw [e1, List.append_nil]
        exact Dms.s p2 s3
    · obtain ⟨sp, acc, p1, p2, p3, p4⟩ := p
      rw [hl, List.take_length] at p2
      exact q Dl acc H' (s2.trans sp) (s2.free hD) p1 p2
theorem evb_yes : EvB tYes σ H true := fun H1 s Q q => q H1 (Sub.refl _)
theorem filter_yes {α : Type} (l : List α) : l.filter (fun _ => true) = l := by
  induction l with
  | nil => rfl
  | cons a l ih => rw [List.filter_cons, if_pos rfl, ih]
theorem bls_dps {H : Hp} : ∀ {l : List Bool} {vs : List V}, DpAll K H vs (l.map PyData.bool) → vs = l.map V.bl
  | [], _, h => by
    cases h
    rfl
  | x :: l, _, h => by
    cases h with
    | cons h1 h2 =>
      cases h1
      rw [bls_dps h2]
      rfl
/-- all of a list of truths -/
theorem evd_all {bs : List Bool} (h : EvD K M te σ H (.list (bs.map PyData.bool))) : EvD K M (tCB (rAll K) (tCons te tNil)) σ H (.bool (bs.all id)) := fun H1 s Q q => h H1 s _ fun v H2 s2 hv => by
  obtain ⟨a, xs, rfl, hs, ha⟩ := hv.lstAt
  have e : xs = bs.map V.bl := bls_dps ha
  subst e
  exact ⟨a, bs, rfl, hs, q _ H2 s2 (.bl _)⟩
end
end KZ

namespace KZ
open PySem PySem.Spec PyProof.Rows L2
theorem yes_of {σ : L2.St} {H : Hp} {p q : Hp → Prop} (h : p H) : tYes σ H fun b H3 => if b = true then p H3 else q H3 := by
  show if true = true then p H else q H
  rw [if_pos rfl]
  exact h
theorem run_range0 {n : Nat} {g : TG} {tt : TT} {t : TIn} {vs : List Nat} {σ : L2.St} {H : Hp} {Nx : Hp → Prop} (Pv : Nat → Hp → Prop) (h0 : Pv 0 H)
    (hs : ∀ (i : Nat) H, i < n → Pv i H → g (.int (i : Int)) (wipe σ vs) H fun σ2 H2 => wipe σ2 vs = wipe σ vs ∧ tt σ2 H2 fun b H3 => if b = true then t σ2 H3 (Pv (i + 1)) else Pv (i + 1) H3) (hd : ∀ H, Pv n H → Nx H) : tRun (Itr 0 n) g tt t vs σ H Nx :=
  run_range Pv h0 (fun i H hi p => by
    rw [Int.zero_add]
    exact hs i H hi p) hd
/-- the list of places so far -/
def PA (K : PySem.W.Frag) (M : List Addr) (H0 : Hp) (D : Addr) (l : List Pl) (H' : Hp) : Prop := Sub H0 H' ∧ ∃ acc, H' D = some (.lst acc) ∧ Dms K (D :: M) H' acc (l.map plD)
section
variable {K : PySem.W.Frag} {M : List Addr} {H0 H' H'' : Hp} {D z : Addr} {l : List Pl}
theorem PA.sub (h : PA K M H0 D l H') (s : Sub H' H'') : PA K M H0 D l H'' := by
  obtain ⟨s0, acc, e, d⟩ := h
  exact ⟨s0.trans s, acc, s _ _ e, Dms.s d s⟩
theorem PA.new (n : Kn M H0) (hD : H0 D = none) : PA K M H0 D [] (upd H0 D (.lst [])) := ⟨Sub.new hD, [], upd_same, .nil⟩
theorem PA.add (n : Kn M H0) (hD : H0 D = none) (h : PA K M H0 D l H') (hz : H' z = none) (p : Pl) (hl : l.length < 100000) : ∃ acc, upd H' z (.tup ((plK p).map kV)) D = some (.lst acc) ∧ acc.length < sizeLine ∧ PA K M H0 D (l ++ [p]) (upd (upd H' z (.tup ((plK p).map kV))) D (.lst (acc ++ [.ref z]))) := by
  obtain ⟨s0, acc, e, d⟩ := h
  have s1 : Sub H' (upd H' z (.tup ((plK p).map kV))) := Sub.new hz
  have ll := d.len
  rw [List.length_map] at ll
  refine ⟨acc, s1 _ _ e, szl (by omega), (s0.trans s1).mut hD, _, upd_same, ?_⟩
  rw [List.map_append]
  have km : Kp (D :: M) (upd H' z (.tup ((plK p).map kV))) (upd (upd H' z (.tup ((plK p).map kV))) D (.lst (acc ++ [.ref z]))) := Kp.mut List.mem_cons_self
  exact Dms.k ((Dms.s d s1).app (DpAll.one (Dm.tupNew ((n.sub s0).more ⟨_, e⟩) hz (.cons (.int _) (.cons (.int _) (.cons (.int _) (.cons (.int _) .nil))))))) km
end
def spPof (K : PySem.W.Frag) : Sp := fun vs H Q _ => ∃ (M : List Addr) (v : V) (ks ss : List PyData) (j : PyData), vs = [v] ∧ Kn M H ∧ Dm K M H v (.tuple [.tuple ks, .tuple ss, j]) ∧ ks.length < 10 ∧ ss.length < 10 ∧
  ∀ (D : Addr) (acc : List V) (H' : Hp), Sub H H' → H D = none → H' D = some (.lst acc) → Dms K (D :: M) H' acc ((plL ks.length ss.length).map plD) → Q (.ref D) H'
section
variable {P : Program} {w : World} {K : PySem.W.Frag} {mg : Str → Option Value} {base : Heap}
abbrev sPof : Stmt := topS 11
theorem scPof : FnScope ["house", "kinds", "sorts", "sort", "asker", "holder", "side"] ["house"] (defScope sPof) := ⟨rfl, rfl, rfl, by decide +kernel, rfl, by decide +kernel, by decide +kernel⟩
theorem bootRange : bootBuiltins "range" = some (.type "range") := by decide +kernel
theorem none_async {l : List Comprehension} {k : Nat} (h : ∀ c ∈ l, c.is_async = 0) : ∀ c, l[k]? = some c → c.is_async = 0 := fun c e => h c (List.mem_of_getElem? e)
/-- len(house[i]), as an int -/
theorem evd_len {M : List Addr} {σ : L2.St} {H : Hp} {i : Int} {ds rs : List PyData} {v : V} (hv : σ[0]? = some (some v)) (hd : Dm K M H v (.tuple ds)) (i0 : 0 ≤ i) (hi : ds[i.toNat]? = some (.tuple rs)) :
    EvD K M (tCB (fun xs H Q => ∃ p ys, xs = [V.ref p] ∧ (SqL K H p ys ∨ SqT K H p ys) ∧ Q (.int ys.length) H) (tCons (tOp (rIxT K) (tVar 0) (tC (.int i))) tNil)) σ H (.int rs.length) := fun H1 s Q q => by
  obtain ⟨a, xs, y, rfl, hs, hat, hy⟩ := dm_getT (Dm.s hd s) i0 hi
  obtain ⟨b, ys, rfl, hs2, ha2⟩ := hy.tupAt
  refine ⟨_, hv, a, xs, i, _, rfl, rfl, hs, hat, b, ys, rfl, .inr hs2, ?_⟩
  rw [ha2.len]
  exact q _ H1 (Sub.refl _) (.int _)
theorem ok_pof {f : Addr} {fd : FuncData} (F : Fun K "places_of" "places_of" sPof f fd) (T : Txt mg) : FnOk P w K mg base CX0 1 f fd ["house"] (spPof K) := by
  refine F.ok scPof (fun vs H Q E h => ?_) (fun cdv A outer s H vs Q E hr h => ?_)
  · obtain ⟨M, v, ks, ss, j, rfl, _⟩ := h
    rfl
  · obtain ⟨M, v, ks, ss, j, rfl, kn, hv, kz, sz, k⟩ := h
    refine ⟨_, pss_cons (ps_set (i := 1) scPof.nd rfl (Or.inr rfl) (pe_callTy call_rg1 (by rfl) T.range bootRange (pa_cons (pe_callB call_len_seq (by rfl) T.len PySem.boot_len (pa_cons (pe_ix ix_tup (pv 0) pe_int (fun _ _ => rfl)) pa_nil)) pa_nil)))
      (pss_cons (ps_set (i := 2) scPof.nd rfl (Or.inl rfl) (pe_callTy call_rg1 (by rfl) T.range bootRange (pa_cons (pe_callB call_len_seq (by rfl) T.len PySem.boot_len (pa_cons (pe_ix ix_tup (pv 0) pe_int (fun _ _ => rfl)) pa_nil)) pa_nil)))
      (pss_one (ps_ret (pe_lcN (own := [("sort", 3), ("asker", 4), ("holder", 5), ("side", 6)]) (vs' := [4, 5, 6]) (g := gName 3) (tt := tYes) rfl scPof.nd (pi_rgV (pv 2)) (blkOk_by (N := ["house", "kinds", "sorts", "sort", "asker", "holder", "side"]) (sc := defScope sPof) (by decide +kernel))
        (fun _ _ _ _ _ => pg_name (i := 3) scPof.nd rfl (Or.inl rfl)) (fun _ _ _ _ _ => pts_nil)
        (fun _ _ _ _ _ D => pin_clause (vs' := [5, 6]) (g := gName 4) (tt := tYes) (fun _ _ z => z) rfl rfl (by intro c e; cases e; rfl) (pi_rgV (pv 1)) (pg_name (i := 4) scPof.nd rfl (Or.inl rfl)) pts_nil
          (pin_clause (vs' := [6]) (g := gName 5) (tt := tYes) (fun _ _ z => z) rfl rfl (by intro c e; cases e; rfl) (pi_rgV (pv 1)) (pg_name (i := 5) scPof.nd rfl (Or.inl rfl)) pts_nil
            (pin_clause (vs' := []) (wi := iTup K (tTup (tCons (tC (.int 0)) (tCons (tC (.int 1)) tNil)))) (g := gName 6) (tt := tYes) (fun _ _ z => z) rfl rfl (by intro c e; cases e) (pi_tup (pe_tup (pa_cons pe_int (pa_cons pe_int pa_nil)))) (pg_name (i := 6) scPof.nd rfl (Or.inl rfl)) pts_nil
              (pin_leaf (fun _ _ z => z) rfl (pe_tup (pa_cons (pv 3) (pa_cons (pv 4) (pa_cons (pv 5) (pa_cons (pv 6) pa_nil)))))) (by decide) (by intro _; rfl)) (by decide) (by intro _; rfl)) (by decide) (by intro _; rfl)) (by decide) (by intro c e; cases e; rfl))))), ?_⟩
    have lk : (ks.length : Int) < 10 := by omega
    have ls : (ss.length : Int) < 10 := by omega
    have bk : -(2 ^ 62) ≤ (0 : Int) ∧ (0 : Int) < 2 ^ 62 ∧ -(2 ^ 62) ≤ (ks.length : Int) ∧ (ks.length : Int) < 2 ^ 62 := by omega
    have bs : -(2 ^ 62) ≤ (0 : Int) ∧ (0 : Int) < 2 ^ 62 ∧ -(2 ^ 62) ≤ (ss.length : Int) ∧ (ss.length : Int) < 2 ^ 62 := by omega
    refine sset_of (cb_args ?_)
    refine evd_len (σ := [some v, none, none, none, none, none, none]) (i := 0) (rs := ks) (K := K) (M := M) rfl hv (by decide) rfl H (Sub.refl _) _ fun v1 H1 s1 h1 => ?_
    cases h1.intAt
    refine ⟨_, rfl, fun rk hrk => ?_⟩
    have s2 : Sub H (upd H1 rk (.rng 0 (ks.length : Int))) := s1.trans (Sub.new hrk)
    have grk : upd H1 rk (.rng 0 (ks.length : Int)) rk = some (.rng 0 (ks.length : Int)) := upd_same
    generalize upd H1 rk (.rng 0 (ks.length : Int)) = H2 at s2 grk
    refine sset_of (cb_args ?_)
    refine evd_len (σ := [some v, some (.ref rk), none, none, none, none, none]) (i := 1) (rs := ss) (K := K) (M := M) rfl (Dm.s hv s2) (by decide) rfl H2 (Sub.refl _) _ fun v2 H3 s3 h2 => ?_
    cases h2.intAt
    refine ⟨_, rfl, fun rs hrs => ?_⟩
    have s4 : Sub H2 (upd H3 rs (.rng 0 (ss.length : Int))) := s3.trans (Sub.new hrs)
    have grs : upd H3 rs (.rng 0 (ss.length : Int)) rs = some (.rng 0 (ss.length : Int)) := upd_same
    generalize upd H3 rs (.rng 0 (ss.length : Int)) = H4 at s4 grs
    have grk4 := s4 _ _ grk
    have s04 := s2.trans s4
    have kn4 := kn.sub s04
    refine ret_of ⟨_, rfl, rs, 0, (ss.length : Int), rfl, grs, bs, fun D hD => ?_⟩
    have len2 (i1 i2 i3 : Nat) (h1 : i1 < 10) (h2 : i2 < 10) (h3 : i3 < 10) (r : List Pl) (hr : r.length ≤ 2) : (((((List.range i1).flatMap fun s => pl1 ks.length s) ++ (List.range i2).flatMap fun a => pl2 ks.length i1 a) ++ (List.range i3).flatMap fun h => pl3 i1 i2 h) ++ r).length < 100000 := by
      rw [List.length_append, List.length_append, List.length_append, flat_len _ _ (fun s => len1 ks.length s), flat_len _ _ (fun a => len2 ks.length i1 a), flat_len _ _ (fun h => len3 i1 i2 h)]
      have b1 : i1 * (ks.length * (ks.length * 2)) ≤ 10 * (10 * (10 * 2)) := Nat.mul_le_mul (by omega) (Nat.mul_le_mul (by omega) (Nat.mul_le_mul (by omega) (Nat.le_refl _)))
      have b2 : i2 * (ks.length * 2) ≤ 10 * (10 * 2) := Nat.mul_le_mul (by omega) (Nat.mul_le_mul (by omega) (Nat.le_refl _))
      omega
    have nn : ((ks.length : Int) - 0).toNat = ks.length := by omega
    have mm : ((ss.length : Int) - 0).toNat = ss.length := by omega
    refine run_range0 (σ := [some v, some (.ref rk), some (.ref rs), none, none, none, none]) (n := ((ss.length : Int) - 0).toNat) (fun i H' => PA K M H4 D ((List.range i).flatMap fun s => pl1 ks.length s) H') (PA.new kn4 hD) (fun i1 H5 hi1 p1 => ?_) (fun H5 p1 => ?_)
    · refine gname_of ⟨rfl, yes_of ⟨_, rfl, rk, 0, (ks.length : Int), rfl, p1.1 _ _ grk4, bk, ?_⟩⟩
      refine run_range0 (σ := [some v, some (.ref rk), some (.ref rs), some (.int (i1 : Int)), none, none, none]) (n := ((ks.length : Int) - 0).toNat) (fun i H' => PA K M H4 D (((List.range i1).flatMap fun s => pl1 ks.length s) ++ (List.range i).flatMap fun a => pl2 ks.length i1 a) H') (by rw [List.range_zero, List.flatMap_nil, List.append_nil]; exact p1) (fun i2 H6 hi2 p2 => ?_) (fun H6 p2 => ?_)
      · refine gname_of ⟨rfl, yes_of ⟨_, rfl, rk, 0, (ks.length : Int), rfl, p2.1 _ _ grk4, bk, ?_⟩⟩
        refine run_range0 (σ := [some v, some (.ref rk), some (.ref rs), some (.int (i1 : Int)), some (.int (i2 : Int)), none, none]) (n := ((ks.length : Int) - 0).toNat) (fun i H' => PA K M H4 D ((((List.range i1).flatMap fun s => pl1 ks.length s) ++ (List.range i2).flatMap fun a => pl2 ks.length i1 a) ++ (List.range i).flatMap fun h => pl3 i1 i2 h) H') (by rw [List.range_zero, List.flatMap_nil, List.append_nil]; exact p2) (fun i3 H7 hi3 p3 => ?_) (fun H7 p3 => ?_)
        · refine gname_of ⟨rfl, yes_of ⟨by show 2 ≤ sizeLine; decide, fun t ht => ⟨t, rfl, ⟨_, SqT.of upd_same⟩, ?_⟩⟩⟩
          have p4 := p3.sub (Sub.new ht (o := .tup [.int 0, .int 1]))
          have gt : upd H7 t (.tup [.int 0, .int 1]) t = some (.tup [.int 0, .int 1]) := upd_same
          generalize upd H7 t (.tup [.int 0, .int 1]) = H8 at p4 gt
          refine run_tup (σ := [some v, some (.ref rk), some (.ref rs), some (.int (i1 : Int)), some (.int (i2 : Int)), some (.int (i3 : Int)), none]) (K := K) (a := t) (xs := [.int 0, .int 1]) (fun i H' => H' t = some (.tup [.int 0, .int 1]) ∧ PA K M H4 D (((((List.range i1).flatMap fun s => pl1 ks.length s) ++ (List.range i2).flatMap fun a => pl2 ks.length i1 a) ++ (List.range i3).flatMap fun h => pl3 i1 i2 h) ++ (pl3 i1 i2 i3).take i) H')
            ⟨gt, by rw [List.take_zero, List.append_nil]; exact p4⟩ (fun i H' _ p => SqT.of p.1) (fun i4 x H9 hi4 p => ?_) (fun H9 p => ?_)
          · obtain ⟨p8, p9⟩ := p
            have h5 : i4 < 2 := by
              have := (List.getElem?_eq_some_iff.mp hi4).1
              exact this
            have ex : x = .int (i4 : Int) ∧ (pl3 i1 i2 i3)[i4]? = some (i1, i2, i3, i4) := by
              rcases (by omega : i4 = 0 ∨ i4 = 1) with z | z <;> subst z <;> exact ⟨(Option.some.inj hi4).symm, rfl⟩
            obtain ⟨rfl, ep⟩ := ex
            refine gname_of ⟨rfl, yes_of ⟨_, rfl, _, rfl, _, rfl, _, rfl, by show 4 ≤ sizeLine; decide, fun z hz => ?_⟩⟩
            obtain ⟨acc, e1, e2, e3⟩ := p9.add kn4 hD hz (i1, i2, i3, i4) (len2 i1 i2 i3 (by omega) (by omega) (by omega) _ (by rw [List.length_take, len3]; omega))
            have e8 : upd H9 z (.tup ((plK (i1, i2, i3, i4)).map kV)) t = some (.tup [.int 0, .int 1]) := Sub.new hz _ _ p8
            refine ⟨acc, e1, e2, ?_, ?_⟩
            · rw [upd_ne (ne_of e8 e1 (by intro y; cases y))]
              exact e8
            · rw [take_snoc ep, ← List.append_assoc]
              exact e3
          · rw [flat_succ, ← List.append_assoc]
            exact p.2
        · rw [flat_succ, ← List.append_assoc]
          exact p3
      · rw [flat_succ, ← nn]
        exact p2
    · rw [mm] at p1
      obtain ⟨s5, acc, e5, d5⟩ := p1
      exact k _ acc H5 (s04.trans s5) (s04.free hD) e5 d5
end
end KZ

namespace KZ
open PySem PySem.Spec PyProof.Rows L2
/-- a def without a bag, from data to data -/
def spPure (K : PySem.W.Frag) (rel : List PyData → PyData → Prop) : Sp := fun vs H Q _ => ∃ (M : List Addr) (ds : List PyData) (d : PyData), Kn M H ∧ Dms K M H vs ds ∧ rel ds d ∧ ∀ y H', Sub H H' → Dm K M H' y d → Q y H'
section
variable {K : PySem.W.Frag} {M : List Addr} {σ : L2.St} {H : Hp} {tr : TA} {ds : List PyData} {d : PyData} {rel : List PyData → PyData → Prop} {E : XK}
theorem evd_pure (n : Kn M H) (h : EvDs K M tr σ H ds) (r : rel ds d) : EvD K M (tCall (spPure K rel) [] E tr) σ H d :=
  evd_call h fun vs H1 Q E s hd q => ⟨M, ds, d, n.sub s, hd, r, q⟩
theorem pure_len {P : Prop} {vs : List V} {Q : VK} {E : XK} {n : Nat} (hr : ∀ ds d, rel ds d → ds.length = n) (h : spPure K rel vs H Q E) : vs.length = n := by
  obtain ⟨M, ds, d, _, hd, r, _⟩ := h
  rw [hd.len]
  exact hr ds d r
end
/-- a house as it is handed to the defs -/
structure HouX (h : Hou) : Prop where
  ok : HouOk h
  k6 : h.ks.length < 6
  s4 : h.ss.length < 4
def rIsLast (ds : List PyData) (d : PyData) : Prop := ∃ (ks : List Kd) (d1 d2 : PyData) (k : Nat) (kd : Kd), ds = [.tuple [.tuple (ks.map kdD), d1, d2], .int (k : Int)] ∧ ks[k]? = some kd ∧ d = .bool (decide (kd.2.2 = (k : Int)))
def rWatP (ds : List PyData) (d : PyData) : Prop := ∃ (d0 d1 : PyData) (j : Jud) (n m : Nat) (p : Pl), ds = [.tuple [d0, d1, judD j], plD p] ∧ JudOk n m j ∧ PlIn n m p ∧ d = .str (wordAt j p)
def outP (j : Jud) (k : Nat) (p : Pl) : Bool := (decide ((p.2.1 : Int) = (k : Int)) && decide (wordAt j p = "yield")) || (decide ((p.2.2.1 : Int) = (k : Int)) && decide (wordAt j p = "oust"))
def rOuts (ds : List PyData) (d : PyData) : Prop := ∃ (h : Hou) (k : Nat), ds = [houD h, .int (k : Int)] ∧ HouX h ∧ d = .list (((plL h.ks.length h.ss.length).filter (outP h.j k)).map plD)
def lastB (ks : List Kd) (k : Nat) : Bool := decide ((ks.getD k ("", true, 0)).2.2 = (k : Int))
def meekB (h : Hou) : Bool := ((plL h.ks.length h.ss.length).filter fun p => decide (wordAt h.j p = "oust")).isEmpty && ((List.range h.ks.length).map (lastB h.ks)).all id
def rMeek (ds : List PyData) (d : PyData) : Prop := ∃ h : Hou, ds = [houD h] ∧ HouX h ∧ d = .bool (meekB h)
def rKeeps (ds : List PyData) (d : PyData) : Prop := ∃ h : Hou, ds = [houD h] ∧ HouX h ∧ d = .bool ((h.ks.map (·.2.1)).all id)
def unPl : PyData → Pl
  | .tuple [.int a, .int b, .int c, .int d] => (a.toNat, b.toNat, c.toNat, d.toNat)
  | _ => (0, 0, 0, 0)
theorem unPl_of (p : Pl) : unPl (plD p) = p := by
  show ((p.1 : Int).toNat, (p.2.1 : Int).toNat, (p.2.2.1 : Int).toNat, (p.2.2.2 : Int).toNat) = p
  rw [Int.toNat_natCast, Int.toNat_natCast, Int.toNat_natCast, Int.toNat_natCast]
theorem filter_pl (l : List Pl) (f : Pl → Bool) : ((l.map plD).filter fun d => f (unPl d)).map (fun d => d) = (l.filter f).map plD := by
  rw [List.map_id', List.filter_map]
  have e : ((fun d => f (unPl d)) ∘ plD) = f := funext fun p => congrArg f (unPl_of p)
  rw [e]
section
variable {P : Program} {w : World} {K : PySem.W.Frag} {mg : Str → Option Value} {base : Heap}
abbrev sWatP : Stmt := topS 12
theorem scWatP : FnScope ["house", "place", "sort", "asker", "holder", "side"] ["house", "place"] (defScope sWatP) := ⟨rfl, rfl, rfl, by decide +kernel, rfl, by decide +kernel, by decide +kernel⟩
theorem ok_watP {f : Addr} {fd : FuncData} (F : Fun K "word_at" "word_at" sWatP f fd) : FnOk P w K mg base CX0 1 f fd ["house", "place"] (spPure K rWatP) := by
  refine F.ok scWatP (fun vs H Q E h => pure_len (P := True) (fun ds d r => ?_) h) (fun cdv A outer s H vs Q E hr h => ?_)
  · obtain ⟨_, _, _, _, _, _, rfl, _⟩ := r
    rfl
  · obtain ⟨M, ds, d, kn, hd, ⟨d0, d1, j, n, m, p, rfl, ok, hin, rfl⟩, q⟩ := h
    obtain ⟨vh, vp, rfl, hh, hp⟩ := Dms.two_at hd
    refine ⟨_, pss_cons (ps_asg (pv 1) (pg_tup rfl (pgs_cons (pg_name (i := 2) scWatP.nd rfl (Or.inl rfl)) (pgs_cons (pg_name (i := 3) scWatP.nd rfl (Or.inl rfl)) (pgs_cons (pg_name (i := 4) scWatP.nd rfl (Or.inl rfl)) (pgs_cons (pg_name (i := 5) scWatP.nd rfl (Or.inl rfl)) pgs_nil))))))
      (pss_one (ps_ret (pe_ix ix_tup (pe_ix ix_tup (pe_ix ix_tup (pe_ix ix_tup (pe_ix ix_tup (pv 0) pe_int (fun _ _ => rfl)) (pv 2) (fun _ _ => rfl)) (pv 3) (fun _ _ => rfl)) (pv 4) (fun _ _ => rfl)) (pv 5) (fun _ _ => rfl)))), ?_⟩
    obtain ⟨e1, e2, e3⟩ := judAt ok hin
    have hd2 := hin.2.2.2
    obtain ⟨ap, xs, rfl, hs, ha⟩ := hp.tupAt
    cases ha with
    | cons a1 ha =>
    cases ha with
    | cons a2 ha =>
    cases ha with
    | cons a3 ha =>
    obtain ⟨v4, rfl, a4⟩ := Dms.one_at ha
    cases a1
    cases a2
    cases a3
    cases a4.intAt
    refine ⟨_, rfl, ap, _, rfl, hs, rfl, _, _, rfl, _, _, rfl, _, _, rfl, _, _, rfl, rfl, ?_⟩
    have iv {i : Nat} {z : Nat} (g : ([some vh, some (V.ref ap), some (V.int (p.1 : Int)), some (V.int (p.2.1 : Int)), some (V.int (p.2.2.1 : Int)), some (V.int (p.2.2.2 : Int))] : L2.St)[i]? = some (some (V.int (z : Int)))) : EvD K M (tVar i) ([some vh, some (V.ref ap), some (V.int (p.1 : Int)), some (V.int (p.2.1 : Int)), some (V.int (p.2.2.1 : Int)), some (V.int (p.2.2.2 : Int))] : L2.St) H (.int (z : Int)) := evd_var g (.int _)
    have σh : EvD K M (tVar 0) ([some vh, some (V.ref ap), some (V.int (p.1 : Int)), some (V.int (p.2.1 : Int)), some (V.int (p.2.2.1 : Int)), some (V.int (p.2.2.2 : Int))] : L2.St) H (.tuple [d0, d1, judD j]) := evd_var rfl hh
    have q0 : EvD K M _ ([some vh, some (V.ref ap), some (V.int (p.1 : Int)), some (V.int (p.2.1 : Int)), some (V.int (p.2.2.1 : Int)), some (V.int (p.2.2.2 : Int))] : L2.St) H (judD j) := evd_ixT σh (evd_int (i := 2)) (by decide) rfl
    have q1 : EvD K M _ ([some vh, some (V.ref ap), some (V.int (p.1 : Int)), some (V.int (p.2.1 : Int)), some (V.int (p.2.2.1 : Int)), some (V.int (p.2.2.2 : Int))] : L2.St) H (tabD (j.getD p.1 [])) := evd_ixT q0 (iv (i := 2) rfl) (Int.natCast_nonneg _) (by rw [Int.toNat_natCast, List.getElem?_map, e1]; rfl)
    have q2 : EvD K M _ ([some vh, some (V.ref ap), some (V.int (p.1 : Int)), some (V.int (p.2.1 : Int)), some (V.int (p.2.2.1 : Int)), some (V.int (p.2.2.2 : Int))] : L2.St) H (rowD ((j.getD p.1 []).getD p.2.1 [])) := evd_ixT q1 (iv (i := 3) rfl) (Int.natCast_nonneg _) (by rw [Int.toNat_natCast, List.getElem?_map, e2]; rfl)
    have q3 : EvD K M _ ([some vh, some (V.ref ap), some (V.int (p.1 : Int)), some (V.int (p.2.1 : Int)), some (V.int (p.2.2.1 : Int)), some (V.int (p.2.2.2 : Int))] : L2.St) H (cpD (((j.getD p.1 []).getD p.2.1 []).getD p.2.2.1 ("", ""))) := evd_ixT q2 (iv (i := 4) rfl) (Int.natCast_nonneg _) (by rw [Int.toNat_natCast, List.getElem?_map, e3]; rfl)
    refine evd_ret (K := K) (M := M) (d := .str (wordAt j p)) (evd_ixT q3 (iv (i := 5) rfl) (Int.natCast_nonneg _) ?_) fun y H1 s1 hy => q y H1 s1 hy
    rw [Int.toNat_natCast]
    unfold wordAt side
    rcases (by omega : p.2.2.2 = 0 ∨ p.2.2.2 = 1) with z | z
    · rw [z]
      rfl
    · rw [z]
      rfl
end
end KZ

namespace KZ
open PySem PySem.Spec PyProof.Rows L2
/-- one of a list's things, told by the thing itself -/
def spSomeV (K : PySem.W.Frag) : Sp := fun vs H Q _ => ∃ (b l a : Addr) (xs : List V), vs = [.ref b, .ref a] ∧ Bag b l H ∧ SqL K (er [b] H) a xs ∧ 0 < xs.length ∧ xs.length < 1000000 ∧ ∀ (y : V) (H' : Hp), Fr b l H H' → y ∈ xs → Q y H'
section
variable {P : Program} {w : World} {K : PySem.W.Frag} {mg : Str → Option Value} {base : Heap}
theorem ok_someV {f fT : Addr} {fd fdT : FuncData} (F : Fun K "_law_some" "_law_some" sSome f fd) (T : Txt mg) (CT : Cal P w K mg base "_law_take" 1 ["bag", "upto"] spTake fT fdT) : FnOk P w K mg base CX0 2 f fd ["bag", "things"] (spSomeV K) := by
  refine F.ok scSome (fun vs H Q E h => ?_) (fun cdv A outer s H vs Q E hr h => ?_)
  · obtain ⟨b, l, a, xs, rfl, _⟩ := h
    rfl
  · obtain ⟨b, l, a, xs, rfl, bag, hs, h0, h1, k⟩ := h
    refine ⟨_, pss_one (ps_ret (pe_ix ix_list (pv 1) (pcl CT hr (pa_cons (pv 0) (pa_cons (pe_callB call_len_seq (by rfl) T.len PySem.boot_len (pa_cons (pv 1) pa_nil)) pa_nil))) (fun _ _ => rfl))), ?_⟩
    refine ⟨_, rfl, _, rfl, _, rfl, a, xs, rfl, .inl ((er_sub _ _).sqL hs), ?_⟩
    refine ⟨b, l, _, rfl, bag, by omega, by omega, fun i H' f' i0 i1 => ?_⟩
    obtain ⟨y, _, hy, hat⟩ := atI_mem (xs := xs) i0 (by omega)
    exact ⟨a, xs, i, y, rfl, rfl, (er_sub _ _).sqL (Sub.sqL f'.k.er hs), hat, k y H' f' (List.mem_of_getElem? hy)⟩
end
/-! a value of any kind -/
def oddKv : List (Key × V) := [(.inr "a", .int 0)]
/-- None, a truth, a number, a text, a tuple or a list of such: as data -/
def OddD (d : PyData) : Prop := Good d 200 3
/-- a value of any kind: data, or one of two dicts -/
def OddV (K : PySem.W.Frag) (M : List Addr) (H : Hp) (y : V) : Prop := (∃ d, Dm K M H y d ∧ OddD d) ∨ ∃ (a : Addr) (kvs : List (Key × V)), y = .ref a ∧ a ∉ M ∧ H a = some (.dK kvs) ∧ (kvs = [] ∨ kvs = oddKv)
theorem OddV.k {K : PySem.W.Frag} {M : List Addr} {H H' : Hp} {y : V} (h : OddV K M H y) (k : Kp M H H') : OddV K M H' y := by
  rcases h with ⟨d, h1, h2⟩ | ⟨a, kvs, h1, h2, h3, h4⟩
  · exact .inl ⟨d, Dm.k h1 k, h2⟩
  · exact .inr ⟨a, kvs, h1, h2, k a _ h2 h3, h4⟩
theorem OddV.fr {K : PySem.W.Frag} {M : List Addr} {b l : Addr} {H H' : Hp} {y : V} (h : OddV K M H y) (f : Fr b l H H') (m : b ∈ M) : OddV K M H' y := h.k (f.kp m)
theorem OddV.less {K : PySem.W.Frag} {M : List Addr} {p : Addr} {H : Hp} {y : V} (h : OddV K (p :: M) H y) : OddV K M H y := by
  rcases h with ⟨d, h1, h2⟩ | ⟨a, kvs, h1, h2, h3, h4⟩
  · exact .inl ⟨d, h1.less fun a m => List.mem_cons_of_mem _ m, h2⟩
  · exact .inr ⟨a, kvs, h1, fun m => h2 (List.mem_cons_of_mem _ m), h3, h4⟩
theorem good_odd : Good (.int (10 ^ 39)) 200 3 := by
  refine ⟨by simp only [PyData.canLay0], ?_, by simp only [PyData.hasDict], by simp only [PyData.depth]; exact Nat.zero_le _, ?_⟩
  · simp only [PyData.showable]
    decide +kernel
  · simp only [PyData.shown]
    decide +kernel
theorem good_non : Good .none 20 0 := ⟨by simp only [PyData.canLay0], by simp only [PyData.showable], by simp only [PyData.hasDict], by simp only [PyData.depth]; exact Nat.le_refl _, by simp only [PyData.shown]; decide +kernel⟩
end KZ

namespace KZ
open PySem PySem.Spec PyProof.Rows L2
section
variable {K : PySem.W.Frag} {M : List Addr} {σ : L2.St} {H H' : Hp} {te : TE} {tr : TA} {d : PyData} {n : Nat}
theorem OddV.s {y : V} (h : OddV K M H y) (k : Sub H H') : OddV K M H' y := h.k fun a o _ e => k a o e
/-- what comes to a value of any kind -/
def EvOd (K : PySem.W.Frag) (M : List Addr) (te : TE) (σ : L2.St) (H : Hp) : Prop := ∀ H1, Sub H H1 → ∀ Q : VK, (∀ v H2, Sub H1 H2 → OddV K M H2 v → Q v H2) → te σ H1 Q
def EvOds (K : PySem.W.Frag) (M : List Addr) (tr : TA) (σ : L2.St) (H : Hp) (n : Nat) : Prop := ∀ H1, Sub H H1 → ∀ Q : List V → Hp → Prop, (∀ vs H2, Sub H1 H2 → vs.length = n → (∀ v ∈ vs, OddV K M H2 v) → Q vs H2) → tr σ H1 Q
theorem evo_dat (h : EvD K M te σ H d) (g : OddD d) : EvOd K M te σ H := fun H1 s Q q => h H1 s Q fun v H2 s2 hv => q v H2 s2 (.inl ⟨d, hv, g⟩)
theorem evo_nil : EvOds K M tNil σ H 0 := fun H1 s Q q => q [] H1 (Sub.refl _) rfl (fun v hv => absurd hv List.not_mem_nil)
theorem evo_cons (h : EvOd K M te σ H) (hr : EvOds K M tr σ H n) : EvOds K M (tCons te tr) σ H (n + 1) := fun H1 s Q q =>
  h H1 s _ fun v H2 s2 hv => hr H2 (s.trans s2) _ fun vs H3 s3 hl hvs => q (v :: vs) H3 (s2.trans s3) (by rw [List.length_cons, hl]) fun x hx => by
    rcases List.mem_cons.mp hx with z | z
    · rw [z]
      exact OddV.s hv s3
    · exact hvs x z
theorem evd_non : EvD K M (tC .non) σ H .none := fun H1 s Q q => q _ H1 (Sub.refl _) .non
theorem evd_neg {i : Int} : EvD K M (tUn (rU fun i => .int (-i)) (tC (.int i))) σ H (.int (-i)) := fun H1 s Q q => ⟨i, rfl, q _ H1 (Sub.refl _) (.int _)⟩
theorem evd_big : EvD K M (tOp (rI CPow fun i j => .int (i ^ j.toNat)) (tC (.int 10)) (tC (.int 39))) σ H (.int (10 ^ 39)) := fun H1 s Q q => ⟨10, 39, rfl, rfl, ⟨by decide, by decide, by decide⟩, q _ H1 (Sub.refl _) (.int _)⟩
theorem evo_dic (kn : Kn M H) : EvOd K M tDNewK σ H := fun H1 s Q q => fun p hp => q _ _ (Sub.new hp) (.inr ⟨p, [], rfl, (kn.sub s).out hp, upd_same, .inl rfl⟩)
theorem evo_dic1 (kn : Kn M H) : EvOd K M (tDisp [(tC (.str "a"), tC (.int 0))]) σ H := fun H1 s Q q => fun p hp => by
  refine ⟨upd_same, oddKv, rfl, by decide, ?_⟩
  have e : upd (upd H1 p (.dK [])) p (.dK (mergeK [] oddKv)) = upd H1 p (.dK oddKv) := by
    funext c
    unfold upd
    split <;> rfl
  rw [e]
  exact q _ _ (Sub.new hp) (.inr ⟨p, oddKv, rfl, (kn.sub s).out hp, upd_same, .inr rfl⟩)
end
theorem odd_tup {ds : List PyData} (h : ∀ d ∈ ds, Good d 20 0) (hl : ds.length ≤ 3) : OddD (.tuple ds) := Good.mono (good_tup h) (by omega) (by omega)
theorem piled_is : ∀ ts : List Str, piled ts = (ts.map (·.length)).sum + 2 * ts.length
  | [] => rfl
  | t :: ts => by
    rw [piled_cons, piled_is ts, List.map_cons, List.sum_cons, List.length_cons]
    omega
theorem good_lst {ds : List PyData} {n k : Nat} (h : ∀ d ∈ ds, Good d n k) : Good (.list ds) (ds.length * (n + 2) + 4) (k + 1) := by
  obtain ⟨h1, h2, h3, h4, h5⟩ := good_all h
  refine ⟨by simp only [PyData.canLay0, h1], by simp only [PyData.showable, h2], by simp only [PyData.hasDict, h3], by simp only [PyData.depth]; omega, ?_⟩
  simp only [PyData.shown]
  have a := listText_len_le (PyData.shownAll ds)
  have b := piled_is (PyData.shownAll ds)
  omega
theorem odd_lst {ds : List PyData} (h : ∀ d ∈ ds, Good d 20 0) (hl : ds.length ≤ 3) : OddD (.list ds) := Good.mono (good_lst h) (by omega) (by omega)
theorem odd_one {d : PyData} (h : Good d 20 0) : OddD d := Good.mono h (by decide) (by decide)
abbrev OddS : List Str := ["", "a", "wait", "Wait"]
theorem oddS_ok : ∀ x ∈ OddS, PyData.strOk x = true ∧ (reprText x).length ≤ 20 := by decide +kernel
theorem good_neg : Good (.int (-1)) 20 0 := by
  refine ⟨by simp only [PyData.canLay0], ?_, by simp only [PyData.hasDict], by simp only [PyData.depth]; exact Nat.zero_le _, ?_⟩
  · simp only [PyData.showable]
    decide +kernel
  · simp only [PyData.shown]
    decide +kernel
theorem g0 : Good (.int 0) 20 0 := good_int (by decide) (by decide)
theorem two_of {P : PyData → Prop} {a b : PyData} (ha : P a) (hb : P b) : ∀ d ∈ [a, b], P d := fun d hd => by
  simp only [List.mem_cons, List.not_mem_nil, or_false] at hd
  rcases hd with hd | hd <;> rw [hd] <;> assumption
theorem one_of {P : PyData → Prop} {a : PyData} (ha : P a) : ∀ d ∈ [a], P d := fun d hd => by rw [List.mem_singleton.mp hd]; exact ha
theorem three_of {P : PyData → Prop} {a b c : PyData} (ha : P a) (hb : P b) (hc : P c) : ∀ d ∈ [a, b, c], P d := fun d hd => by
  simp only [List.mem_cons, List.not_mem_nil, or_false] at hd
  rcases hd with hd | hd | hd <;> rw [hd] <;> assumption
theorem Bag.cb1 {b l : Addr} {H : Hp} (g : Bag b l H) : Cb [b] b l H := ⟨g, List.mem_cons_self, fun a m => by
  rw [List.mem_singleton.mp m]
  exact g.at⟩
def spOdd (K : PySem.W.Frag) : Sp := fun vs H Q _ => ∃ (M : List Addr) (b l : Addr), vs = [.ref b] ∧ Cb M b l H ∧ ∀ y H', Fr b l H H' → OddV K M H' y → Q y H'
section
variable {P : Program} {w : World} {K : PySem.W.Frag} {mg : Str → Option Value} {base : Heap}
abbrev sOdd : Stmt := topS 28
theorem scOdd : FnScope ["bag", "some"] ["bag"] (defScope sOdd) := ⟨rfl, rfl, rfl, by decide +kernel, rfl, by decide +kernel, by decide +kernel⟩
theorem ok_odd {f fS : Addr} {fd fdS : FuncData} (F : Fun K "_law_odd" "_law_odd" sOdd f fd) (CS : Cal P w K mg base "_law_some" 2 ["bag", "things"] (spSomeV K) fS fdS) : FnOk P w K mg base CX0 3 f fd ["bag"] (spOdd K) := by
  refine F.ok scOdd (fun vs H Q E h => ?_) (fun cdv A outer s H vs Q E hr h => ?_)
  · obtain ⟨M, b, l, rfl, _⟩ := h
    rfl
  obtain ⟨M, b, l, rfl, cb, q⟩ := h
  have bag := cb.bag
  refine ⟨_, pss_cons (ps_set (i := 1) scOdd.nd rfl (Or.inl rfl) (pe_lst (pa_cons pe_non (pa_cons pe_bl (pa_cons pe_bl (pa_cons pe_int (pa_cons pe_int (pa_cons (pe_un un_neg pe_int) (pa_cons (pe_op op_pow pe_int pe_int) (pa_cons pe_str (pa_cons pe_str (pa_cons pe_str (pa_cons (pe_tup pa_nil) (pa_cons (pe_lst pa_nil) (pa_cons pe_dnewK
      (pa_cons (pe_tup (pa_cons pe_int pa_nil)) (pa_cons (pe_lst (pa_cons pe_int pa_nil)) (pa_cons (pe_tup (pa_cons pe_int (pa_cons pe_int pa_nil))) (pa_cons (pe_tup (pa_cons pe_str (pa_cons pe_bl (pa_cons pe_int pa_nil)))) pa_nil)))))))))))))))))))
    (pss_one (ps_ret (pcl CS hr (pa_cons (pv 0) (pa_cons (pe_op op_cat (pv 1) (pe_lst (pa_cons (pe_disp (pps_cons pe_str pe_int pps_nil) rfl rfl (by simp) (by decide)) (pa_cons (pe_tup (pa_cons pe_non pa_nil)) (pa_cons pe_str (pa_cons (pe_tup (pa_cons pe_int (pa_cons pe_bl pa_nil))) (pa_cons (pe_lst (pa_cons (pe_tup (pa_cons pe_int (pa_cons pe_int pa_nil))) pa_nil)) pa_nil))))))) pa_nil))))), ?_⟩
  have kn := cb.kn
  have str {x : Str} {σ : L2.St} {H : Hp} (h : x ∈ OddS) : EvOd K M (tC (.str x)) σ H := evo_dat evd_str (odd_one (good_str oddS_ok h))
  have o1 : EvOds K M _ ([some (.ref b), none] : L2.St) H 17 := evo_cons (evo_dat evd_non (odd_one good_non)) (evo_cons (evo_dat evd_bl (odd_one (good_bl true))) (evo_cons (evo_dat evd_bl (odd_one (good_bl false))) (evo_cons (evo_dat evd_int (odd_one g0)) (evo_cons (evo_dat evd_int (odd_one (good_int (i := 1) (by decide) (by decide))))
    (evo_cons (evo_dat evd_neg (odd_one good_neg)) (evo_cons (evo_dat evd_big good_odd) (evo_cons (str (x := "") (by simp)) (evo_cons (str (x := "a") (by simp)) (evo_cons (str (x := "wait") (by simp)) (evo_cons (evo_dat (evd_tup kn evds_nil (by show 0 < 1000000; decide)) (odd_tup (ds := []) (by simp) (by decide)))
    (evo_cons (evo_dat (evd_lst kn evds_nil (by show 0 < 1000000; decide)) (odd_lst (ds := []) (by simp) (by decide))) (evo_cons (evo_dic kn) (evo_cons (evo_dat (evd_tup kn (evds_cons evd_int evds_nil) lt1) (odd_tup (one_of g0) (by decide)))
    (evo_cons (evo_dat (evd_lst kn (evds_cons evd_int evds_nil) lt1) (odd_lst (one_of g0) (by decide))) (evo_cons (evo_dat (evd_tup kn (evds_cons evd_int (evds_cons evd_int evds_nil)) lt2) (odd_tup (two_of g0 g0) (by decide)))
    (evo_cons (evo_dat (evd_tup kn (evds_cons evd_str (evds_cons evd_bl (evds_cons evd_int evds_nil))) lt3) (odd_tup (three_of (good_str oddS_ok (x := "a") (by simp)) (good_bl true) g0) (by decide))) evo_nil))))))))))))))))
  refine sset_of (lst_of (o1 H (Sub.refl _) _ fun vs H1 s1 hl hv => ⟨by rw [hl]; exact Nat.le_of_lt (szl (by decide)), fun p hp => ?_⟩))
  have s2 : Sub H (upd H1 p (.lst vs)) := s1.trans (Sub.new hp)
  have e2 : upd H1 p (.lst vs) p = some (.lst vs) := upd_same
  have hv2 : ∀ v ∈ vs, OddV K M (upd H1 p (.lst vs)) v := fun v m => (hv v m).s (Sub.new hp)
  generalize upd H1 p (.lst vs) = H2 at s2 e2 hv2 ⊢
  have kn2 := kn.sub s2
  have o2 : EvOds K M _ ([some (.ref b), some (.ref p)] : L2.St) H2 5 := evo_cons (evo_dic1 kn2) (evo_cons (evo_dat (evd_tup kn2 (evds_cons evd_non evds_nil) lt1) (odd_tup (one_of good_non) (by decide))) (evo_cons (str (x := "Wait") (by simp))
    (evo_cons (evo_dat (evd_tup kn2 (evds_cons evd_int (evds_cons evd_bl evds_nil)) lt2) (odd_tup (two_of g0 (good_bl true)) (by decide)))
    (evo_cons (evo_dat (evd_lst kn2 (evds_cons (evd_tup kn2 (evds_cons evd_int (evds_cons evd_int evds_nil)) lt2) evds_nil) lt1) (Good.mono (good_lst (one_of (P := fun d => Good d 100 1) (Good.mono (good_tup (two_of g0 g0)) (by decide) (by decide)))) (by decide) (by decide))) evo_nil))))
  refine ret_of ⟨_, rfl, args1 ⟨_, rfl, lst_of (o2 H2 (Sub.refl _) _ fun ws H3 s3 hl2 hw => ⟨by rw [hl2]; exact Nat.le_of_lt (szl (by decide)), fun p2 hp2 => ?_⟩)⟩⟩
  have s4 : Sub H2 (upd H3 p2 (.lst ws)) := s3.trans (Sub.new hp2)
  refine ⟨p, p2, vs, ws, rfl, rfl, s4 _ _ e2, upd_same, Nat.le_of_lt (szl (by omega)), fun r hr => ?_⟩
  have s5 : Sub H2 (upd (upd H3 p2 (.lst ws)) r (.lst (vs ++ ws))) := s4.trans (Sub.new hr)
  have f5 : Fr b l H (upd (upd H3 p2 (.lst ws)) r (.lst (vs ++ ws))) := Fr.sub bag (s2.trans s5)
  have nr : r ≠ b := ne_new ((bag.kp s2).kp s4).at hr
  refine ⟨b, l, r, vs ++ ws, rfl, f5.bag, SqL.of (by rw [er_in (by simp [nr])]; exact upd_same), by rw [List.length_append]; omega, by rw [List.length_append]; omega, fun y H' f' hy => q y H' (f5.trans f') ?_⟩
  refine OddV.fr ?_ f' cb.mem
  rcases List.mem_append.mp hy with z | z
  · exact (hv2 y z).s s5
  · exact (hw y z).s ((Sub.new hp2).trans (Sub.new hr))
end
end KZ

namespace KZ
open PySem PySem.Spec PyProof.Rows L2
/-! isinstance(x, str) of a value of any kind -/
def isStrD : PyData → Bool
  | .str _ => true
  | _ => false
def rIsStr (K : PySem.W.Frag) : List V → Hp → VK → Prop := fun xs H Q => ∃ x, xs = [x, .ty "str"] ∧ ((∃ d, Dp K H x d ∧ Q (.bl (isStrD d)) H) ∨ ∃ a kvs, x = .ref a ∧ H a = some (.dK kvs) ∧ Q (.bl false) H)
theorem kit_none {K : PySem.W.Frag} : PySem.W.kitOne K (.type "NoneType") (.type "str") = some false := by rfl
theorem kit_bool {K : PySem.W.Frag} : PySem.W.kitOne K (.type "bool") (.type "str") = some false := by rfl
theorem kit_int {K : PySem.W.Frag} : PySem.W.kitOne K (.type "int") (.type "str") = some false := by rfl
theorem kit_list {K : PySem.W.Frag} : PySem.W.kitOne K (.type "list") (.type "str") = some false := by rfl
theorem kit_tuple {K : PySem.W.Frag} : PySem.W.kitOne K (.type "tuple") (.type "str") = some false := by rfl
theorem kit_dict {K : PySem.W.Frag} : PySem.W.kitOne K (.type "dict") (.type "str") = some false := by rfl
theorem kit_str {K : PySem.W.Frag} : PySem.W.kitOne K (.type "str") (.type "str") = some true := by rfl
theorem call_isStr {X : Cx} : CallR X (.builtin "isinstance") (rIsStr X.K) := by
  intro pins s σ H xs us Q I r h
  obtain ⟨x, rfl, h⟩ := h
  obtain ⟨u1, u2, rfl, r1, r2⟩ := vals2 r
  cases (show u2 = Value.type "str" from r2)
  rcases h with ⟨d, hd, q⟩ | ⟨a, kvs, rfl, e, q⟩
  · cases hd with
    | non =>
      cases (show u1 = Value.none from r1)
      exact PySem.W.kia_one PySem.W.kitx_none I.kIn True.intro kit_none (fun z => nomatch z) fun tk => ⟨.bl _, H, I.tok tk, rfl, q⟩
    | bl b =>
      cases (show u1 = Value.bool b from r1)
      exact PySem.W.kia_one PySem.W.kitx_bool I.kIn True.intro kit_bool (fun z => nomatch z) fun tk => ⟨.bl _, H, I.tok tk, rfl, q⟩
    | int i =>
      obtain ⟨t, z⟩ := (show ∃ t, u1 = Value.int i t from r1)
      cases z
      exact PySem.W.kia_one PySem.W.kitx_int I.kIn True.intro kit_int (fun z => nomatch z) fun tk => ⟨.bl _, H, I.tok tk, rfl, q⟩
    | str i =>
      obtain ⟨t, z⟩ := (show ∃ t, u1 = Value.str i t from r1)
      cases z
      exact PySem.W.kia_one PySem.W.kitx_str I.kIn True.intro kit_str (fun z => nomatch z) fun tk => ⟨.bl _, H, I.tok tk, rfl, q⟩
    | lst hs _ =>
      cases r1
      obtain ⟨its, rv, ⟨o, n, ho, hc, _⟩, _⟩ := I.list hs
      exact PySem.W.kia_one PySem.W.kitx_list I.kIn ⟨o, ho, hc⟩ kit_list (fun z => nomatch z) fun tk => ⟨.bl _, H, I.tok tk, rfl, q⟩
    | tup hs _ =>
      cases r1
      obtain ⟨its, rv, ⟨o, ho, hc, _⟩, _⟩ := I.tuple hs
      exact PySem.W.kia_one PySem.W.kitx_tuple I.kIn ⟨o, ho, hc⟩ kit_tuple (fun z => nomatch z) fun tk => ⟨.bl _, H, I.tok tk, rfl, q⟩
  · cases r1
    obtain ⟨_, _, vs, rel, o, es, ep, ho, ex, _⟩ := dk_of I.hok e
    exact PySem.W.kia_one PySem.W.kitx_dict I.kIn ⟨o, ho, ex.1⟩ kit_dict (fun z => nomatch z) fun tk => ⟨.bl _, H, I.tok tk, rfl, q⟩
end KZ

namespace KZ
open PySem PySem.Spec PyProof.Rows L2
/-! two tuples (a text, one thing), the thing one of two dicts: alike -/
def oddDict (kvs : List (Key × V)) : List (PyData × PyData) := match kvs with
  | [] => []
  | _ => [(.str "a", .int 0)]
def pairD (tag : Str) (kvs : List (Key × V)) : PyData := .tuple [.str tag, .dict (oddDict kvs)]
section
variable {X : Cx}
def rEqP : R2 := fun x y H Q => ∃ (t u a : Addr) (tag : Str), x = .ref t ∧ y = .ref u ∧ H t = some (.tup [.str tag, .ref a]) ∧ H u = some (.tup [.str tag, .ref a]) ∧ Q (.bl true) H
theorem op_eqP (hu : X.A.units + 64 < cLine) : OpR X (compareOp .Eq) rEqP := by
  intro pins s σ H x y v w Q I rx ry h
  obtain ⟨t, u, a, tag, rfl, rfl, ht, hu', q⟩ := h
  cases rx
  cases ry
  obtain ⟨its, rv, p1, _⟩ := I.tuple (SqT.of ht)
  obtain ⟨its2, rv2, p2, _⟩ := I.tuple (SqT.of hu')
  obtain ⟨x1, x2, rfl, e1, e2⟩ := Vals.two rv
  obtain ⟨y1, y2, rfl, g1, g2⟩ := Vals.two rv2
  obtain ⟨t1, rfl⟩ := (show ∃ t, x1 = Value.str tag t from e1)
  obtain ⟨t2, rfl⟩ := (show ∃ t, y1 = Value.str tag t from g1)
  obtain rfl : x2 = Value.ref a := e2
  obtain rfl : y2 = Value.ref a := g2
  refine SeqAt.eq_tupleAt (e := fun _ => true) p1 p2 (by omega) (fun j h1 h2 => ?_) ⟨.bl true, H, I, rfl, q⟩
  rcases j with _ | _ | j
  · have z := (SeqRoads2.EqGives.str tag tag t1 t2).at X.A.in1 s
    rw [beq_self_eq_true] at z
    exact z
  · exact SeqAt.EqAt.same _
  · exact absurd (show j + 2 < 2 from h1) (by omega)
theorem read_odd {P : Program} {w : World} {h : Heap} {es : List DictEntry} {vs : List (Key × Value)} {kvs : List (Key × V)} (hk : kvs = [] ∨ kvs = oddKv) (pr : Pairs (mixKind P w) es vs) (kv : KV kvs vs) : ReadsAll h (es.map (·.key)) ((oddDict kvs).map (·.1)) [] ∧ ReadsAll h (es.map (·.val)) ((oddDict kvs).map (·.2)) [] := by
  rcases hk with rfl | rfl
  · unfold KV at kv
    cases kv
    cases pr
    exact ⟨.nil, .nil⟩
  · unfold KV oddKv at kv
    cases kv with
    | @cons _ kv0 _ kvs0 h1 h2 =>
      cases h2
      cases pr with
      | @cons e0 _ es0 _ k1 k2 k3 =>
        cases k3
        obtain ⟨ek, rv⟩ := h1
        have kk : keyIs (.inr "a") e0.key = true := by
          rw [show (Sum.inr "a" : Key) = kv0.1 from ek]
          exact k1
        obtain ⟨t2, e2⟩ := (show ∃ t, kv0.2 = Value.int 0 t from rv)
        rcases keyIs_shape kk with ⟨i, t, z, _⟩ | ⟨x, t, z, e⟩
        · cases z
        · cases z
          refine ⟨?_, ?_⟩
          · show ReadsAll h [e0.key] [.str "a"] []
            rw [e]
            exact ReadsAll.cons (Reads.str _ _) ReadsAll.nil
          · show ReadsAll h [e0.val] [.int 0] []
            rw [k2, e2]
            exact ReadsAll.cons (Reads.int _ _) ReadsAll.nil
theorem reads_odd {pins : List (Addr × Obj)} {σ : L2.St} {H : Hp} {s : Shared} {a : Addr} {kvs : List (Key × V)} (I : L2.Inv X pins σ H s) (e : H a = some (.dK kvs)) (h : kvs = [] ∨ kvs = oddKv) : Reads s.heap (.ref a) (.dict (oddDict kvs)) [a] ∧ a ≠ sysModules := by
  obtain ⟨_, hd, vs, rel, o, es, ep, ho, ex, hda, _, pr, _⟩ := dk_of I.hok e
  obtain ⟨r1, r2⟩ := read_odd (h := s.heap) h pr rel
  refine ⟨Reads.dict ho ex.1 hda r1 r2, fun z => ?_⟩
  rw [z] at hd
  exact absurd hd (by decide)
def rReprP : List V → Hp → VK → Prop := fun xs H Q => ∃ (t a : Addr) (tag : Str) (kvs : List (Key × V)), xs = [.ref t] ∧ H t = some (.tup [.str tag, .ref a]) ∧ H a = some (.dK kvs) ∧ (kvs = [] ∨ kvs = oddKv) ∧ (tag = "kind" ∨ tag = "sort") ∧ Q (.str (PyData.shown (pairD tag kvs))) H
theorem pair_ok {tag : Str} {kvs : List (Key × V)} (h : kvs = [] ∨ kvs = oddKv) (ht : tag = "kind" ∨ tag = "sort") : (pairD tag kvs).showable = true ∧ (pairD tag kvs).depth ≤ 2 ∧ (pairD tag kvs).shown.length ≤ 1000 := by
  rcases h with rfl | rfl <;> rcases ht with rfl | rfl
  all_goals
    refine ⟨?_, ?_, ?_⟩
    · unfold pairD oddDict
      decide +kernel
    · unfold pairD oddDict
      decide +kernel
    · unfold pairD oddDict
      decide +kernel
theorem call_reprP (hg : X.A.guards = some []) (hu : X.A.units + 64 < cLine) : CallR X (.builtin "repr") rReprP := by
  intro pins s σ H xs us Q I r wish
  obtain ⟨t, a, tag, kvs, rfl, ht, ha, hk, htag, fin⟩ := wish
  obtain ⟨y, rfl, ry⟩ := vals1 r
  obtain rfl : y = Value.ref t := ry
  obtain ⟨its, rv, ⟨o, get, hc, n, hda⟩, _⟩ := I.tuple (SqT.of ht)
  obtain ⟨x1, x2, rfl, e1, e2⟩ := Vals.two rv
  obtain ⟨t1, rfl⟩ := (show ∃ t, x1 = Value.str tag t from e1)
  obtain rfl : x2 = Value.ref a := e2
  obtain ⟨ra, na⟩ := reads_odd I ha hk
  obtain ⟨sh, dp, ln⟩ := pair_ok hk htag
  have rr : Reads s.heap (.ref t) (pairD tag kvs) ([] ++ ([a] ++ [])) := Reads.tuple get hc hda (ReadsAll.cons (Reads.str _ _) (ReadsAll.cons ra ReadsAll.nil))
  exact repr_of_reads' rr sh (fun _ => by simp [na.symm]) hg (by omega) (fun _ _ e => e) (fun h' u tk hk' => ⟨.str _, H, I.kept (t' := tk) hk', ⟨_, rfl⟩, fin⟩) (Nat.le_trans ln (by decide))
end
/-- alike, the one thing a dict -/
def spAlikeD : Sp := fun vs H Q _ => ∃ (t u a : Addr) (tag : Str) (kvs : List (Key × V)), vs = [.ref t, .ref u] ∧ H t = some (.tup [.str tag, .ref a]) ∧ H u = some (.tup [.str tag, .ref a]) ∧ H a = some (.dK kvs) ∧ (kvs = [] ∨ kvs = oddKv) ∧ (tag = "kind" ∨ tag = "sort") ∧ Q (.bl true) H
section
variable {P : Program} {w : World} {K : PySem.W.Frag} {mg : Str → Option Value} {base : Heap}
theorem ok_alikeD {f : Addr} {fd : FuncData} (F : Fun K "_law_alike" "_law_alike" sAlike f fd) (T : Txt mg) : FnG P w K mg base 1 f fd ["found", "due"] spAlikeD := by
  refine fun_okG F scAlike (fun vs H Q E h => ?_) (fun cdv A outer s H vs Q E gs hr h => ?_)
  · obtain ⟨t, u, a, tag, kvs, rfl, _⟩ := h
    rfl
  · obtain ⟨t, u, a, tag, kvs, rfl, ht, hu, ha, hk, htag, q⟩ := h
    refine ⟨_, pss_one (ps_ret (pe_and (pe_cmpR (op_eqP hr.units) (pv 0) (pv 1) (nomark _)) (pe_one (pe_cmpR op_eq (pe_callB (call_reprP gs hr.units) (by rfl) T.repr PyProof.Rows.boot_repr (pa_cons (pv 0) pa_nil)) (pe_callB (call_reprP gs hr.units) (by rfl) T.repr PyProof.Rows.boot_repr (pa_cons (pv 1) pa_nil)) (nomark _))))), ?_⟩
    refine ⟨_, rfl, _, rfl, t, u, a, tag, rfl, rfl, ht, hu, _, rfl, ?_⟩
    refine iteT ?_
    refine ⟨_, rfl, t, a, tag, kvs, rfl, ht, ha, hk, htag, _, rfl, u, a, tag, kvs, rfl, hu, ha, hk, htag, rfl, ?_⟩
    rw [decide_eq_true rfl]
    exact q
end
end KZ

namespace KZ
open PySem PySem.Spec PyProof.Rows L2
/-! own errors with one field, own errors with none -/
structure Oer (K : PySem.W.Frag) (mg : Str → Option Value) (x f : Str) (C fI : Addr) : Prop where
  o : OexC K C
  g : mg x = some (.ref C)
  i : PySem.W.findIn K (.ref C) "__init__" = some (some (.ref fI))
  t : PySem.W.typeIn K (.ref fI) = some (.type "function")
  no : PySem.W.findIn K (.ref C) f = some none
  ga : PySem.W.findIn K (.ref C) "__getattribute__" = some (some (.builtin "BaseException.__getattribute__"))
  gg : PySem.W.findIn K (.ref C) "__getattr__" = some none
  hd : PySem.W.hasDictIn K C = true
structure Oer0 (K : PySem.W.Frag) (mg : Str → Option Value) (x : Str) (C : Addr) : Prop where
  g : mg x = some (.ref C)
  q : PySem.W.excIn K C [.type "ValueError", .type "Exception", .type "BaseException", .type "object"] "ValueError.__new__" = true
  kC : PySem.W.keepIn K (.ref C) = true
  exC : PySem.W.subIn K (.ref C) (.type "BaseException") = some true
  tyC : PySem.W.typeIn K (.ref C) = some (.type "type")
def spIni (K : PySem.W.Frag) (f : Str) : Sp := fun vs H Q _ => ∃ (a C : Addr) (v : V), vs = [.ref a, v] ∧ OexC K C ∧ PySem.W.findIn K (.ref C) f = some none ∧ H a = some (exo a C none) ∧
  ∀ dx, H dx = none → dx ≠ a → Q .non (upd (upd H dx (exd dx [(f, v)])) a (exo a C (some dx)))
section
variable {P : Program} {w : World} {K : PySem.W.Frag} {mg : Str → Option Value} {base : Heap}
abbrev sIniK : Stmt := inClass (topS 2) 0
theorem scIniK : FnScope ["self", "name"] ["self", "name"] (defScope sIniK) := ⟨rfl, rfl, rfl, by decide +kernel, rfl, by decide +kernel, by decide +kernel⟩
theorem ok_iniK {f : Addr} {fd : FuncData} (F : Fun K "__init__" "NoKind.__init__" sIniK f fd) : FnOk P w K mg base CX0 1 f fd ["self", "name"] (spIni K "name") := by
  refine F.ok scIniK (fun vs H Q E h => ?_) (fun cdv A outer s H vs Q E hr h => ?_)
  · obtain ⟨_, _, _, rfl, _⟩ := h
    rfl
  · obtain ⟨a, C, v, rfl, T, no, hH, q⟩ := h
    exact ⟨_, pss_one (ps_ost (pv 0) (pv 1)), v, rfl, .ref a, rfl, a, C, rfl, T, no, .inl ⟨hH, fun dx h1 h2 => q dx h1 h2⟩⟩
abbrev sIniS : Stmt := inClass (topS 3) 0
theorem scIniS : FnScope ["self", "name"] ["self", "name"] (defScope sIniS) := ⟨rfl, rfl, rfl, by decide +kernel, rfl, by decide +kernel, by decide +kernel⟩
theorem ok_iniS {f : Addr} {fd : FuncData} (F : Fun K "__init__" "NoSort.__init__" sIniS f fd) : FnOk P w K mg base CX0 1 f fd ["self", "name"] (spIni K "name") := by
  refine F.ok scIniS (fun vs H Q E h => ?_) (fun cdv A outer s H vs Q E hr h => ?_)
  · obtain ⟨_, _, _, rfl, _⟩ := h
    rfl
  · obtain ⟨a, C, v, rfl, T, no, hH, q⟩ := h
    exact ⟨_, pss_one (ps_ost (pv 0) (pv 1)), v, rfl, .ref a, rfl, a, C, rfl, T, no, .inl ⟨hH, fun dx h1 h2 => q dx h1 h2⟩⟩
end
/-- an own error with one field, that can be made -/
structure Mer (P : Program) (w : World) (K : PySem.W.Frag) (mg : Str → Option Value) (base : Heap) (x f : Str) (C fI : Addr) : Prop where
  r : Oer K mg x f C fI
  fn : ∃ fd, FnOk P w K mg base CX0 1 fI fd ["self", f] (spIni K f) ∧ Binds K fd ["self", f] []
/-- X(v) has been made: what is wished of it -/
def Made1 (K : PySem.W.Frag) (C : Addr) (f : Str) (v : V) (H1 : Hp) (Q : XK) : Prop := ([v] : List V).length ≤ 1000 ∧ ∀ a, H1 a = none → spIni K f (.ref a :: ([v] ++ [])) (upd H1 a (exo a C none))
  (fun u H2 => u = .non ∧ ∃ (d : Addr) (fs : List (Str × V)), H2 a = some (exo a C (some d)) ∧ H2 d = some (exd d fs) ∧ H1 d = none ∧ Q (.ref C) (some d) (upd (del H2 a) d (.xd fs))) (fun _ _ _ => False)
theorem made1_of {K : PySem.W.Frag} {mg : Str → Option Value} {x : Str} {C fI : Addr} {f : Str} {v : V} {H1 : Hp} {Q : XK} (T : Oer K mg x f C fI) (h : ∀ (d : Addr) (H2 : Hp), Sub H1 H2 → H2 d = some (.xd [(f, v)]) → Q (.ref C) (some d) H2) : Made1 K C f v H1 Q := by
  refine ⟨by show 1 ≤ 1000; decide, fun a ha => ⟨a, C, v, rfl, T.o, T.no, upd_same, fun dx h1 h2 => ⟨rfl, dx, _, upd_same, ?_, ?_, h dx _ ?_ upd_same⟩⟩⟩
  · rw [upd_ne h2, upd_same]
  · rw [upd_ne h2] at h1
    exact h1
  · intro b o e
    have hb : b ≠ a := ne_of_none e ha
    rw [upd_ne h2] at h1
    have hd : b ≠ dx := ne_of_none e h1
    rw [upd_ne hd, del_ne hb, upd_ne hb, upd_ne hd, upd_ne hb]
    exact e
section
variable {X : Cx}
/-- raise X(e) -/
theorem ps_raise1 {x f : Str} {C fI : Addr} {e : Expr} {te : TE} {W : WX} {p pos pos2 : Pos} (hc : X.calm = true) (T : Mer X.prog X.w X.K X.mg X.base x f C fI) (hr : Room 2 X.A) (tk : Takes X W) (he : PE X e te) (hg : Gl X x := by rfl)
    (hdb : (x == ("__debug__" : Str)) = false := by decide) (hs : starEach [e] X.env = (false, eval e X.env) :: starEach [] X.env := by rfl) (hpl : (backTo pos (starEach [] X.env)).any (·.1) = false := by rfl) :
    PS X (.Raise (some (.Call (.Name x p) [e] [] pos)) none pos2) (fun D σ H => te σ H fun v H1 => Made1 X.K C f v H1 fun cls d H2 => W cls d σ H2) := by
  obtain ⟨fd, F, hb⟩ := T.fn
  refine ⟨fun pins s σ H D I h => (ps_raise (pos := pos2) hc tk (pmk_oex (pos := pos) (p := p) T.r.o T.r.i T.r.t F hr hb (.nil : Vals [] []) pass0 hg T.r.g (pa_cons he pa_nil hs) hdb hs hpl)).run pins s σ H D I ?_⟩
  exact args1 h
/-- X() -/
theorem pmk_own0 {x : Str} {C : Addr} {p pos : Pos} (T : Oer0 X.K X.mg x C) (hg : Gl X x) (hdb : (x == ("__debug__" : Str)) = false := by decide) : PMk X (.Call (.Name x p) [] [] pos) (fun _ H Q => Q (.ref C) none H) := by
  intro pins s σ H Q I h
  refine wpAny_Call_Name_kw (ld_glob I hg T.g ?_ hdb)
  refine PySem.W.callWith_K0 I.kIn T.kC ?_
  show wpAny _ _ (call (.ref C) []) _ _ _
  obtain ⟨bm, N, nm, qn, bs, hdct, sn, sub, ab, col, dd, k0, k1, k2, k3, k5, mN, hC, hN, hni, tl⟩ := exc_obj I.kIn T.q
  refine wpAny_call_exc_subT F.excBase_ValueError tl hC hN hni (fun h' e hm => ?_) (Nat.zero_le _)
  exact mk_of I hm (raises_own T.exC T.tyC) h (I.hok.gone hm.new)
theorem ps_raise0 {x : Str} {C : Addr} {W : WX} {p pos pos2 : Pos} (hc : X.calm = true) (T : Oer0 X.K X.mg x C) (tk : Takes X W) (hg : Gl X x := by rfl) (hdb : (x == ("__debug__" : Str)) = false := by decide) :
    PS X (.Raise (some (.Call (.Name x p) [] [] pos)) none pos2) (fun _ σ H => W (.ref C) none σ H) := ps_raise hc tk (pmk_own0 T hg hdb)
/-- e.f, e the exception that the suite holds (at a; its class cls, its dict d) -/
def tByF (f : Str) (C : Addr) (a : Addr) (cls : Value) (d : Option Addr) (te : TE) : TE := fun σ H Q => te σ H fun x H1 => x = .ref a ∧ cls = .ref C ∧ ∃ (dd : Addr) (v : V), d = some dd ∧ H1 dd = some (.xd [(f, v)]) ∧ Q v H1
theorem pe_byF {x f : Str} {C fI : Addr} {a : Addr} {oe : Obj} {cls : Value} {d : Option Addr} {pn : List (Addr × Obj)} {e : Expr} {te : TE} {pos : Pos} (T : Oer X.K X.mg x f C fI) (hz : Zc cls d oe) (hf : ∃ vs, oe.data = .fields vs) (he : PE (X.suite a ((a, oe) :: pn)) e te)
    (hb : attributeBase e f X.env (eval e X.env) = eval e X.env := by rfl) : PE (X.suite a ((a, oe) :: pn)) (.Attribute e f pos) (tByF f C a cls d te) := by
  refine ⟨fun pins s σ H Q I h => ?_⟩
  refine attr_of hb (thn (he.run pins s σ H _ I h) fun u s1 hh => ?_)
  obtain ⟨x, H1, I1, rx, ex, ec, dd, v, ed, ea, q⟩ := hh
  subst ex
  obtain rfl : u = Value.ref a := rx
  subst ec
  subst ed
  obtain ⟨ha, _⟩ := I1.pin (a, oe) (List.mem_append_left _ List.mem_cons_self)
  obtain ⟨vs, hd⟩ := hf
  have hx : ObjOk X.prog X.w H1 s1.heap dd (.xd [(f, v)]) := I1.hok dd _ ea
  obtain ⟨mA, hns, hr⟩ := hx
  obtain ⟨od, ho, hl⟩ := lookIn_ns hns
  have l : List.lookup f [(f, v)] = some v := by simp [List.lookup]
  obtain ⟨u, hu, ru⟩ := RelO.some_of (v := v) (o := mA f) (by rw [← l]; exact hr f)
  have J : PySem.W.InstAt s1.heap a oe C (some od) := ⟨ha, hz.1, by unfold PySem.W.notCls; rw [hd] <;> rfl, by rw [hz.2]; exact ho⟩
  exact HandSPX.exc_get I1.kIn J T.ga T.gg T.o.exC (PySem.W.findObj_own T.hd T.no rfl (by rw [hl, hu])) (handed_of ru) ⟨v, H1, I1.tok _, ru, q⟩
end
end KZ

namespace KZ
open PySem PySem.Spec PyProof.Rows L2
/-! texts in lists and tuples: in, index -/
section
variable {K : PySem.W.Frag} {M : List Addr} {σ : L2.St} {H : Hp}
theorem strs_dps {H : Hp} : ∀ {l : List Str} {vs : List V}, DpAll K H vs (l.map PyData.str) → vs = l.map V.str
  | [], _, h => by
    cases h
    rfl
  | x :: l, _, h => by
    cases h with
    | cons h1 h2 =>
      cases h1
      rw [strs_dps h2]
      rfl
theorem inV_str (x : Str) : ∀ l : List Str, inV (.str x) (l.map V.str) = decide (x ∈ l)
  | [] => by simp [inV]
  | a :: l => by
    have ih := inV_str x l
    unfold inV at ih ⊢
    rw [List.map_cons, List.any_cons, ih]
    have e : eqV (V.str a) (V.str x) = decide (x = a) := by
      show (a == x) = _
      by_cases z : x = a
      · subst z
        simp
      · rw [decide_eq_false z]
        simpa using fun y => z y.symm
    rw [e]
    by_cases z : x = a
    · simp [z]
    · simp [z]
theorem flat_str : ∀ l : List Str, (l.map V.str).all flatV = true
  | [] => rfl
  | a :: l => by
    rw [List.map_cons, List.all_cons]
    exact flat_str l
/-- x in a list, a tuple of texts -/
theorem evb_inS {te tl : TE} {x : Str} {l : List Str} (hx : EvD K M te σ H (.str x)) (hl : EvD K M tl σ H (.list (l.map PyData.str)) ∨ EvD K M tl σ H (.tuple (l.map PyData.str))) : EvB (tTest (tOp (rIn K false) te tl)) σ H (decide (x ∈ l)) := fun H1 s Q q =>
  hx H1 s _ fun v H2 s2 hv => by
    cases hv.strAt
    have fin : ∀ (u : V) (H3 : Hp), Sub H2 H3 → (Dm K M H3 u (.list (l.map PyData.str)) ∨ Dm K M H3 u (.tuple (l.map PyData.str))) → rIn K false (.str x) u H3 fun y H' => ∃ k, y = .bl k ∧ Q k H' := fun u H3 s3 hu => by
      have go : ∀ (a : Addr) (xs : List V), u = .ref a → (SqL K H3 a xs ∨ SqT K H3 a xs) → xs = l.map V.str → rIn K false (.str x) u H3 fun y H' => ∃ k, y = .bl k ∧ Q k H' := fun a xs e hs ex => by
        subst ex
        refine ⟨a, _, e, hs, rfl, flat_str l, _, rfl, ?_⟩
        rw [inV_str]
        exact q H3 (s2.trans s3)
      rcases hu with hu | hu
      · obtain ⟨a, xs, e, hs, ha⟩ := hu.lstAt
        exact go a xs e (.inl hs) (strs_dps ha)
      · obtain ⟨a, xs, e, hs, ha⟩ := hu.tupAt
        exact go a xs e (.inr hs) (strs_dps ha)
    rcases hl with hl | hl
    · exact hl H2 (s.trans s2) _ fun u H3 s3 hu => fin u H3 s3 (.inl hu)
    · exact hl H2 (s.trans s2) _ fun u H3 s3 hu => fin u H3 s3 (.inr hu)
end
def idxS : List Str → Str → Nat
  | [], _ => 0
  | a :: l, x => if a = x then 0 else idxS l x + 1
theorem ids_at {x : Str} : ∀ {o : List Str}, x ∈ o → o[idxS o x]? = some x
  | [], h => nomatch h
  | a :: l, h => by
    unfold idxS
    by_cases e : a = x
    · rw [if_pos e, e]
      rfl
    · rw [if_neg e]
      exact ids_at ((List.mem_cons.mp h).resolve_left fun z => e z.symm)
theorem ids_lo {x z : Str} : ∀ {o : List Str} {m : Nat}, m < idxS o x → o[m]? = some z → z ≠ x
  | [], m, _, e => by simp at e
  | a :: l, m, h, e => by
    unfold idxS at h
    by_cases c : a = x
    · rw [if_pos c] at h
      omega
    · rw [if_neg c] at h
      cases m with
      | zero =>
        cases Option.some.inj e
        exact c
      | succ m => exact ids_lo (o := l) (by omega) e
theorem eqS (a x : Str) : eqV (V.str a) (V.str x) = decide (a = x) := by
  show (a == x) = _
  by_cases z : a = x
  · subst z
    simp
  · rw [decide_eq_false z]
    simpa using z
section
variable {K : PySem.W.Frag} {M : List Addr} {σ : L2.St} {H : Hp}
theorem evd_indexS {to te : TE} {o : List Str} {x : Str} (ho : EvD K M to σ H (.list (o.map PyData.str))) (hx : EvD K M te σ H (.str x)) (m : x ∈ o) : EvD K M (tBM K "list" (rIndex K) to (tCons te tNil)) σ H (.int ((idxS o x : Nat) : Int)) := fun H1 s Q q =>
  ho H1 s _ fun v H2 s2 hv => by
    obtain ⟨a, xs, rfl, hs, ha⟩ := hv.lstAt
    refine ⟨.inl ⟨rfl, _, hs⟩, args1 ?_⟩
    refine hx H2 (s.trans s2) _ fun u H3 s3 hu => ?_
    cases hu.strAt
    obtain ⟨a', xs', e', hs', ha'⟩ := (Dm.s hv s3).lstAt
    cases e'
    have ex := strs_dps ha'
    subst ex
    refine ⟨a, _, _, idxS o x, .str x, rfl, rfl, hs', rfl, flat_str o, ?_, ?_, fun k z' hk e => ?_, q _ H3 (s2.trans s3) (.int _)⟩
    · rw [List.getElem?_map, ids_at m]
      rfl
    · rw [eqS]
      exact decide_eq_true rfl
    · rw [List.getElem?_map] at e
      obtain ⟨z, ez, rfl⟩ := Option.map_eq_some_iff.mp e
      rw [eqS]
      exact decide_eq_false (ids_lo hk ez)
end
def rIndexT (K : PySem.W.Frag) : V → List V → Hp → VK → Prop := fun x xs H Q => ∃ (a : Addr) (o : List Str) (k : Str), x = .ref a ∧ xs = [.str k] ∧ SqT K H a (o.map V.str) ∧ k ∈ o ∧ Q (.int ((idxS o k : Nat) : Int)) H
theorem mt_indexT {X : Cx} : MtR X "tuple.index" (rIndexT X.K) := by
  intro pins s σ H x xs v us Q J r1 r2 wish
  obtain ⟨a, o, k, rfl, rfl, sq, mem, fin⟩ := wish
  cases r1
  obtain ⟨u, rfl, tk, rfl⟩ := vals1 r2
  obtain ⟨its, vals, ⟨⟨cl, dc, da, so⟩, get, hcl, m0, hda⟩, size⟩ := J.tuple sq
  simp only at hcl hda
  subst hcl
  subst hda
  have here := ids_at mem
  have many : its.toArray.size = o.length := by rw [List.size_toArray, ← vals.length, List.length_map]
  have low : idxS o k < its.toArray.size := by
    rw [many]
    exact (List.getElem?_eq_some_iff.mp here).1
  have item : ∀ (m : Nat) (h : m < its.toArray.size), ∃ (y : Str) (t : Tok), o[m]? = some y ∧ its.toArray[m] = Value.str y t := fun m h => by
    have h' : m < o.length := by rw [← many]; exact h
    obtain ⟨w, hw, t, ew⟩ := vals.get (i := m) (x := .str o[m]) (by simp [h'])
    refine ⟨o[m], t, List.getElem?_eq_getElem h', ?_⟩
    rw [← ew, ← (List.getElem?_eq_some_iff.mp hw).2]
    simp
  have eqs : ∀ (y : Str) (t : Tok), eqU (.str k) (.str y t) = decide (y = k) := fun y t => eqS y k
  refine call_meets PySem.F.slot_tuple_index ⟨_, get, rfl⟩ PySem.F.entry_tuple_index (PySem.F.args_tuple_index_2 _ _)
    (TI.tuple_indexAt a its.toArray m0 dc so (.str k tk) (eqU (.str k)) (idxS o k) low ?_ ?_) ⟨get, fun w hw => mem_eqAt (x := .str k) ⟨tk, rfl⟩ rfl vals (flat_str o) w (by simpa using hw), ⟨.int ((idxS o k : Nat) : Int), H, J.tok _, ⟨_, rfl⟩, fin⟩⟩
  · obtain ⟨y, t, e1, e2⟩ := item _ low
    rw [here] at e1
    cases e1
    rw [e2, eqs]
    exact decide_eq_true rfl
  · intro m hm lt
    obtain ⟨y, t, e1, e2⟩ := item m hm
    rw [e2, eqs]
    exact decide_eq_false (ids_lo lt e1)
end KZ

namespace KZ
open PySem PySem.Spec PyProof.Rows L2
/-! the kind, the sort with a name, any value -/
def posN (ns : List Str) : V → Option Nat
  | .str x => if x ∈ ns then some (idxS ns x) else none
  | _ => none
theorem posN_some {ns : List Str} {v : V} {i : Nat} (z : posN ns v = some i) : ∃ x, v = .str x ∧ x ∈ ns ∧ idxS ns x = i := by
  cases v with
  | str x =>
    have z' : (if x ∈ ns then some (idxS ns x) else none) = some i := z
    by_cases c : x ∈ ns
    · rw [if_pos c] at z'
      exact ⟨x, rfl, c, Option.some.inj z'⟩
    · rw [if_neg c] at z'
      cases z'
  | _ => cases z
def NmV (K : PySem.W.Frag) (M : List Addr) (H : Hp) (v : V) : Prop := (∃ d, Dm K M H v d) ∨ ∃ (a : Addr) (kvs : List (Key × V)), v = .ref a ∧ H a = some (.dK kvs)
theorem NmV.s {K : PySem.W.Frag} {M : List Addr} {H H' : Hp} {v : V} (h : NmV K M H v) (k : Sub H H') : NmV K M H' v := by
  rcases h with ⟨d, h⟩ | ⟨a, kvs, e, h⟩
  · exact .inl ⟨d, Dm.s h k⟩
  · exact .inr ⟨a, kvs, e, k _ _ h⟩
theorem sifs {c : TT} {t u w : TS} {D : Ends} {σ : L2.St} {H : Hp} (h : tIfS c t u { D with nx := w D } σ H) : tSeq (tIfS c t u) w D σ H := h
theorem bootStr : bootBuiltins "str" = some (.type "str") := by decide +kernel
section
variable {K : PySem.W.Frag} {M : List Addr} {σ : L2.St} {H : Hp}
abbrev tIsIn (K : PySem.W.Frag) (i : Nat) (tl : TE) : TT := tAnd (tB (tCB (rIsStr K) (tCons (tVar i) (tCons (tC (.ty "str")) tNil)))) (tTest (tOp (rIn K false) (tVar i) tl))
theorem evb_nm {i : Nat} {v : V} {tl : TE} {ns : List Str} (hv : σ[i]? = some (some v)) (nm : NmV K M H v) (hl : EvD K M tl σ H (.list (ns.map PyData.str)) ∨ EvD K M tl σ H (.tuple (ns.map PyData.str))) : EvB (tIsIn K i tl) σ H (posN ns v).isSome := fun H1 s Q q => by
  rcases nm with ⟨d, hd⟩ | ⟨a, kvs, rfl, e⟩
  · have hd1 := Dm.s hd s
    refine ⟨v, hv, v, rfl, .inl ⟨d, hd1.all, _, rfl, ?_⟩⟩
    cases hd1 with
    | str x =>
      show if true = true then _ else _
      rw [if_pos rfl]
      have z := evb_inS (K := K) (M := M) (σ := σ) (H := H1) (x := x) (l := ns) (evd_var hv (.str x)) (hl.elim (fun h => .inl (h.sub s)) fun h => .inr (h.sub s))
      refine z H1 (Sub.refl _) _ fun H2 s2 => ?_
      have e : decide (x ∈ ns) = (posN ns (.str x)).isSome := by
        unfold posN
        by_cases c : x ∈ ns
        · rw [decide_eq_true c]
          simp [c]
        · rw [decide_eq_false c]
          simp [c]
      rw [e]
      exact q H2 s2
    | non => exact q H1 (Sub.refl _)
    | bl b => exact q H1 (Sub.refl _)
    | int b => exact q H1 (Sub.refl _)
    | lst _ _ => exact q H1 (Sub.refl _)
    | tup _ _ => exact q H1 (Sub.refl _)
  · exact ⟨_, hv, _, rfl, .inr ⟨a, kvs, rfl, s _ _ e, _, rfl, q H1 (Sub.refl _)⟩⟩
end
def spNm (K : PySem.W.Frag) (C : Addr) (sel : Hou → List Str) : Sp := fun vs H Q E => ∃ (M : List Addr) (vh v : V) (h : Hou), vs = [vh, v] ∧ Kn M H ∧ HouF K M H vh h ∧ HouOk h ∧ NmV K M H v ∧ (∀ i, posN (sel h) v = some i → ∀ H', Sub H H' → Q (.int (i : Nat)) H') ∧
  (posN (sel h) v = none → ∀ a H', Sub H H' → H' a = some (.xd [(("name" : Str), v)]) → E (.ref C) (some a) H')
abbrev kdN (h : Hou) : List Str := h.ks.map (·.1)
def rNames (ds : List PyData) (d : PyData) : Prop := ∃ h : Hou, ds = [houD h] ∧ h.ks.length < 100 ∧ d = .list ((kdN h).map PyData.str)
def fstD : PyData → PyData
  | .tuple (x :: _) => x
  | d => d
theorem fst_map (ks : List Kd) : (ks.map kdD).map fstD = (ks.map (·.1)).map PyData.str := by
  rw [List.map_map, List.map_map]
  rfl
section
variable {K : PySem.W.Frag} {M : List Addr} {σ : L2.St} {H : Hp} {te tb : TE} {ds : List PyData}
theorem evd_lcT {vs : List Nat} {j : Nat} (g : PyData → PyData) (n : Kn M H) (h : EvD K M te σ H (.tuple ds)) (hz : ds.length < 100000) (hw : ∀ x, wipe ((wipe σ vs).set j (some x)) vs = wipe σ vs)
    (he : ∀ (Dl : Addr), H Dl = none → ∀ (d : PyData) (x : V) (H1 : Hp), Sub H H1 → Kn (Dl :: M) H1 → d ∈ ds → Dm K (Dl :: M) H1 x d → EvD K (Dl :: M) tb ((wipe σ vs).set j (some x)) H1 (g d)) : EvNL K M (tLc (iTup K te) (gName j) tYes tb vs) σ H (ds.map g) := by
  have z := evd_lcFT (K := K) (M := M) (σ := σ) (H := H) (te := te) (tb := tb) (tt := tYes) (vs := vs) (j := j) (fun _ => true) g n h hz hw (fun _ _ _ _ _ _ _ _ _ => evb_yes) (fun Dl hD d x H1 s1 n1 hd _ hx => he Dl hD d x H1 s1 n1 hd hx)
  rw [filter_yes] at z
  exact z
end
section
variable {P : Program} {w : World} {K : PySem.W.Frag} {mg : Str → Option Value} {base : Heap}
abbrev sNames : Stmt := topS 13
theorem scNames : FnScope ["house", "kind"] ["house"] (defScope sNames) := ⟨rfl, rfl, rfl, by decide +kernel, rfl, by decide +kernel, by decide +kernel⟩
theorem ok_names {f : Addr} {fd : FuncData} (F : Fun K "_kind_names" "_kind_names" sNames f fd) : FnOk P w K mg base CX0 1 f fd ["house"] (spPure K rNames) := by
  refine F.ok scNames (fun vs H Q E h => pure_len (P := True) (fun ds d r => ?_) h) (fun cdv A outer s H vs Q E hr h => ?_)
  · obtain ⟨_, rfl, _⟩ := r
    rfl
  obtain ⟨M, ds, d, kn, hd, ⟨h, rfl, kl, rfl⟩, q⟩ := h
  obtain ⟨vh, rfl, hh⟩ := Dms.one_at hd
  refine ⟨_, pss_one (ps_ret (pe_lc (own := [("kind", 1)]) (g := gName 1) (tt := tYes) (te := tOp (rIxT K) (tVar 1) (tC (.int 0))) rfl scNames.nd (pi_tup (pe_ix ix_tup (pv 0) pe_int (fun _ _ => rfl))) (blkOk_by (N := ["house", "kind"]) (sc := defScope sNames) (by decide +kernel)) (fun _ _ _ _ _ => pg_name (i := 1) scNames.nd rfl (Or.inl rfl)) (fun _ _ _ _ _ => pts_nil)
    (fun _ _ _ _ _ => pe_ix ix_tup (pv 1) pe_int (fun _ _ => rfl)))), ?_⟩
  have e0 : EvD K M (tOp (rIxT K) (tVar 0) (tC (.int 0))) ([some vh, none] : L2.St) H (.tuple (h.ks.map kdD)) := evd_ixT (evd_var rfl (show Dm K M H vh (.tuple _) from hh)) (evd_int (i := 0)) (by decide) rfl
  have ec := evd_lcT (K := K) (M := M) (H := H) (σ := [some vh, none]) (te := tOp (rIxT K) (tVar 0) (tC (.int 0))) (tb := tOp (rIxT K) (tVar 1) (tC (.int 0))) (vs := [1]) (j := 1) (ds := h.ks.map kdD) fstD kn e0 (by rw [List.length_map]; omega) (by intro z; rfl) (by
    intro Dl hDl d x H1 s1 n1 hd hx
    obtain ⟨k, hk, rfl⟩ := List.mem_map.mp hd
    exact evd_ixT (ds := [.str k.1, .bool k.2.1, .int k.2.2]) (evd_var rfl hx) (evd_int (i := 0)) (by decide) rfl)
  rw [fst_map] at ec
  exact evd_ret (K := K) (M := M) (EvNL.toD kn ec) fun y H1 s1 hy => q y H1 s1 hy
abbrev sKn : Stmt := topS 9
theorem scKn : FnScope ["house", "name", "names"] ["house", "name"] (defScope sKn) := ⟨rfl, rfl, rfl, by decide +kernel, rfl, by decide +kernel, by decide +kernel⟩
theorem ok_kn {f C iC fN : Addr} {fd fdN : FuncData} (F : Fun K "kind_named" "kind_named" sKn f fd) (Ti : mg "isinstance" = none) (Ts : mg "str" = none) (EK : Mer P w K mg base "NoKind" "name" C iC) (CN : Cal P w K mg base "_kind_names" 1 ["house"] (spPure K rNames) fN fdN) : FnOk P w K mg base (L2.CX P w) 3 f fd ["house", "name"] (spNm K C kdN) := by
  refine F.okX scKn (fun vs H Q E h => ?_) (fun cdv A outer s H vs Q E hr h => ?_)
  · obtain ⟨_, _, _, _, rfl, _⟩ := h
    rfl
  obtain ⟨M, vh, v, h, rfl, kn, hF, ok, nm, q1, q2⟩ := h
  have hr1 : Room 1 _ := hr.mono (by decide)
  have k1 := ok.k1
  refine ⟨_, pss_cons (ps_set (i := 2) scKn.nd rfl (Or.inl rfl) (pcl CN hr1 (pa_cons (pv 0) pa_nil)))
    (pss_cons (ps_if (pt_not (PW.pt (pw_and (pt_val (pe_callB call_isStr (by rfl) Ti PyProof.Rows.boot_isinstance (pa_cons (pv 1) (pa_cons (pe_bltn (v := .ty "str") (by rfl) Ts bootStr rfl) pa_nil)))) (pw_and1 (pt_cmpR op_in_seq (pv 1) (pv 2) rfl))))) (pss_one (ps_raise1 (W := fun cls d _ H => E cls d H) rfl EK hr (takes_of rfl rfl rfl rfl) (pv 1))) pss_nil)
    (pss_one (ps_ret (pe_bm PySem.F.plainAttrs_list PySem.F.slot_list_index PySem.F.type_list_index mt_index (pv 2) (pa_cons (pv 1) pa_nil))))), ?_⟩
  have en : EvD K M (tCall (spPure K rNames) [] E0 (tCons (tVar 0) tNil)) ([some vh, some v, none] : L2.St) H (.list ((kdN h).map PyData.str)) := evd_pure (rel := rNames) (E := E0) kn (evds_cons (evd_var (i := 0) rfl hF.dm) evds_nil) ⟨h, rfl, by omega, rfl⟩
  refine evd_sset (K := K) (M := M) en fun vn H1 s1 hn => ?_
  have e2 : EvD K M (tVar 2) ([some vh, some v, some vn] : L2.St) H1 (.list ((kdN h).map PyData.str)) := evd_var rfl hn
  refine sifs (evb_nm (K := K) (M := M) (i := 1) rfl (nm.s s1) (.inl e2) H1 (Sub.refl _) _ fun H2 s2 => ?_)
  cases z : posN (kdN h) v with
  | none =>
    show if (!false) = true then _ else _
    rw [if_pos (show (!false) = true by rfl)]
    exact ⟨v, rfl, made1_of EK.r fun d H4 s4 e => q2 z d H4 ((s1.trans s2).trans s4) e⟩
  | some i =>
    show if (!true) = true then _ else _
    rw [if_neg (show ¬ (!true) = true by decide)]
    obtain ⟨x, rfl, mx, ix⟩ := posN_some z
    unfold tNext
    dsimp only
    refine evd_ret (K := K) (M := M) (evd_indexS (evd_var (i := 2) rfl (Dm.s hn s2)) (evd_var (i := 1) rfl (.str x)) mx) fun y H3 s3 hy => ?_
    cases hy.intAt
    rw [ix]
    exact q1 i z H3 ((s1.trans s2).trans s3)
abbrev sSn : Stmt := topS 10
theorem scSn : FnScope ["house", "name"] ["house", "name"] (defScope sSn) := ⟨rfl, rfl, rfl, by decide +kernel, rfl, by decide +kernel, by decide +kernel⟩
theorem ok_sn {f C iC : Addr} {fd : FuncData} (F : Fun K "sort_named" "sort_named" sSn f fd) (Ti : mg "isinstance" = none) (Ts : mg "str" = none) (ES : Mer P w K mg base "NoSort" "name" C iC) : FnOk P w K mg base (L2.CX P w) 3 f fd ["house", "name"] (spNm K C fun h => h.ss) := by
  refine F.okX scSn (fun vs H Q E h => ?_) (fun cdv A outer s H vs Q E hr h => ?_)
  · obtain ⟨_, _, _, _, rfl, _⟩ := h
    rfl
  obtain ⟨M, vh, v, h, rfl, kn, hF, ok, nm, q1, q2⟩ := h
  have s1 := ok.s1
  refine ⟨_, pss_cons (ps_if (pt_not (PW.pt (pw_and (pt_val (pe_callB call_isStr (by rfl) Ti PyProof.Rows.boot_isinstance (pa_cons (pv 1) (pa_cons (pe_bltn (v := .ty "str") (by rfl) Ts bootStr rfl) pa_nil)))) (pw_and1 (pt_cmpR op_in_seq (pv 1) (pe_ix ix_tup (pv 0) pe_int (fun _ _ => rfl)) rfl))))) (pss_one (ps_raise1 (W := fun cls d _ H => E cls d H) rfl ES hr (takes_of rfl rfl rfl rfl) (pv 1))) pss_nil)
    (pss_one (ps_ret (pe_bt PySem.F.slot_tuple_index PySem.F.type_tuple_index mt_indexT (pe_ix ix_tup (pv 0) pe_int (fun _ _ => rfl)) (pa_cons (pv 1) pa_nil)))), ?_⟩
  have e0 : EvD K M (tOp (rIxT K) (tVar 0) (tC (.int 1))) ([some vh, some v] : L2.St) H (.tuple (h.ss.map PyData.str)) := evd_ixT (evd_var rfl (show Dm K M H vh (.tuple _) from hF.dm)) (evd_int (i := 1)) (by decide) rfl
  refine sifs (evb_nm (K := K) (M := M) (i := 1) rfl nm (.inr e0) H (Sub.refl _) _ fun H2 s2 => ?_)
  cases z : posN h.ss v with
  | none =>
    show if (!false) = true then _ else _
    rw [if_pos (show (!false) = true by rfl)]
    exact ⟨v, rfl, made1_of ES.r fun d H4 s4 e => q2 z d H4 (s2.trans s4) e⟩
  | some i =>
    show if (!true) = true then _ else _
    rw [if_neg (show ¬ (!true) = true by decide)]
    obtain ⟨x, rfl, mx, ix⟩ := posN_some z
    unfold tNext
    dsimp only
    obtain ⟨a, v0, s, v2, rfl, hs, h0, h1, h2, ob, u, e, c1, c2⟩ := hF
    have hs2 := s2.sqT ((er_sub _ _).sqT hs)
    have e' := s2 _ _ (er_sub _ _ _ _ e)
    obtain ⟨a', xs', ea, hx, hd⟩ := (Dm.s h1 s2).tupAt
    cases ea
    cases strs_dps hd
    refine ret_of ⟨_, rfl, a, _, 1, .ref s, rfl, rfl, hs2, rfl, ⟨s, ob, u, rfl, e', c1, c2⟩, args1 ⟨_, rfl, s, h.ss, x, rfl, rfl, hx, mx, ?_⟩⟩
    rw [ix]
    exact q1 i z H2 s2
end
end KZ

namespace KZ
open PySem PySem.Spec PyProof.Rows L2 LamX
/-! where tables grow: data stays -/
theorem xn_rd {H H' : Hp} (k : ExtN H H') {a : Addr} {u : HO} (hu : ∀ ps, u ≠ .tbl ps) (h : Rd H a u) : Rd H' a u :=
  h.elim (fun h => Or.inl (k _ _ h hu)) fun ⟨o, h⟩ => Or.inr ⟨o, k _ _ h fun ps z => (nomatch z)⟩
theorem xn_sqL {K : PySem.W.Frag} {H H' : Hp} (k : ExtN H H') {a : Addr} {xs : List V} (h : SqL K H a xs) : SqL K H' a xs :=
  h.elim (fun h => Or.inl (xn_rd k (fun ps z => (nomatch z)) h)) Or.inr
theorem xn_sqT {K : PySem.W.Frag} {H H' : Hp} (k : ExtN H H') {a : Addr} {xs : List V} (h : SqT K H a xs) : SqT K H' a xs :=
  h.elim (fun h => Or.inl (xn_rd k (fun ps z => (nomatch z)) h)) Or.inr
mutual
theorem xn_dp {K : PySem.W.Frag} {H H' : Hp} (k : ExtN H H') : ∀ (d : PyData) (v : V), Dp K H v d → Dp K H' v d
  | .none, _, h => by
    cases h
    exact .non
  | .bool b, _, h => by
    cases h
    exact .bl b
  | .int i, _, h => by
    cases h
    exact .int i
  | .str x, _, h => by
    cases h
    exact .str x
  | .list ds, _, h => by
    cases h with
    | lst hs ha => exact .lst (xn_sqL k hs) (xn_dps k ds _ ha)
  | .tuple ds, _, h => by
    cases h with
    | tup hs ha => exact .tup (xn_sqT k hs) (xn_dps k ds _ ha)
  | .dict _, _, h => by cases h
theorem xn_dps {K : PySem.W.Frag} {H H' : Hp} (k : ExtN H H') : ∀ (ds : List PyData) (vs : List V), DpAll K H vs ds → DpAll K H' vs ds
  | [], _, h => by
    cases h
    exact .nil
  | d :: ds, _, h => by
    cases h with
    | cons h1 h2 => exact .cons (xn_dp k d _ h1) (xn_dps k ds _ h2)
end
theorem xn_er {M : List Addr} {H H' : Hp} (k : ExtN H H') : ExtN (er M H) (er M H') := fun a o h n => by
  by_cases z : a ∈ M
  · unfold er at h
    rw [if_pos z] at h
    cases h
  · rw [er_in z] at h ⊢
    exact k a o h n
/-- a step beside the bag and the tables -/
structure Wk (b l : Addr) (T : List (Addr × Str)) (H H' : Hp) : Prop where
  x : ExtN (er [b] H) (er [b] H')
  bag : Bag b l H'
  tabs : Tabs T H'
theorem Wk.trans {b l : Addr} {T : List (Addr × Str)} {A B C : Hp} (p : Wk b l T A B) (q : Wk b l T B C) : Wk b l T A C := ⟨p.x.trans q.x, q.bag, q.tabs⟩
theorem Wk.refl {b l : Addr} {T : List (Addr × Str)} {H : Hp} (g : Bag b l H) (t : Tabs T H) : Wk b l T H H := ⟨ExtN.refl _, g, t⟩
theorem Wk.sub {b l : Addr} {T : List (Addr × Str)} {H H' : Hp} (g : Bag b l H) (t : Tabs T H) (s : Sub H H') : Wk b l T H H' := ⟨xn_er (ExtN.of s), g.kp s, t.ext s⟩
theorem Wk.fr {b l : Addr} {T : List (Addr × Str)} {H H' : Hp} (g : Bag b l H) (t : Tabs T H) (f : Fr b l H H') : Wk b l T H H' := ⟨ExtN.of f.k.er, f.bag, fun p hp => by
  obtain ⟨ps, h1, h2, h3⟩ := t p hp
  have nb : ∀ {a : Addr} {o : HO}, H a = some o → (∀ xs, o ≠ .lst xs) → a ∉ [b] := fun {a o} e n z => by
    obtain ⟨x, y, i, cs, hb, _⟩ := g
    rw [List.mem_singleton.mp z, hb] at e
    exact n _ (Option.some.inj e).symm
  refine ⟨ps, f.k _ _ (nb h1 fun xs z => (nomatch z)) h1, h2, fun pos cv hc => ?_⟩
  obtain ⟨c, e1, e2⟩ := h3 pos cv hc
  exact ⟨c, e1, f.k _ _ (nb e2 fun xs z => (nomatch z)) e2⟩⟩
theorem bag_xn {b l : Addr} {H H' : Hp} (g : Bag b l H) (k : ExtN H H') : Bag b l H' := by
  obtain ⟨x, y, i, cs, h1, h2, h3, h4⟩ := g
  exact ⟨x, y, i, cs, k _ _ h1 (fun ps z => (nomatch z)), h2, k _ _ h3 (fun ps z => (nomatch z)), h4⟩
theorem Wk.xn {b l : Addr} {T : List (Addr × Str)} {H H' : Hp} (g : Bag b l H) (k : ExtN H H') (t : Tabs T H') : Wk b l T H H' := ⟨xn_er k, bag_xn g k, t⟩
theorem Dm.w {K : PySem.W.Frag} {b l : Addr} {T : List (Addr × Str)} {H H' : Hp} {v : V} {d : PyData} (h : Dm K [b] H v d) (w : Wk b l T H H') : Dm K [b] H' v d := xn_dp w.x _ _ h
theorem Dms.w {K : PySem.W.Frag} {b l : Addr} {T : List (Addr × Str)} {H H' : Hp} {v : List V} {d : List PyData} (h : Dms K [b] H v d) (w : Wk b l T H H') : Dms K [b] H' v d := xn_dps w.x _ _ h
theorem Bag.cb {b l : Addr} {H : Hp} (g : Bag b l H) : Cb [b] b l H := ⟨g, List.mem_cons_self, fun a m => by
  rw [List.mem_singleton.mp m]
  exact g.at⟩
/-! _law_refused -/
structure Refs (K : PySem.W.Frag) (mg : Str → Option Value) (CK CS CT CM CF CL iK iS iT iM iL : Addr) : Prop where
  nk : Oer K mg "NoKind" "name" CK iK
  ns : Oer K mg "NoSort" "name" CS iS
  tk : Oer K mg "Taken" "name" CT iT
  tm : Oer K mg "TooMany" "most" CM iM
  tf : Oer0 K mg "TooFew" CF
  nl : Oer K mg "NotLater" "kind" CL iL
  k1 : PySem.W.exmOne K (.ref CK) (.ref CK) = some true
  s1 : PySem.W.exmOne K (.ref CS) (.ref CK) = some false
  s2 : PySem.W.exmOne K (.ref CS) (.ref CS) = some true
def TupQ (xs : List V) (H : Hp) (Q : VK) : Prop := xs.length ≤ sizeLine ∧ ∀ p, H p = none → Q (.ref p) (upd H p (.tup xs))
def CaughtR (CK CS : Addr) (Q : VK) : XK := fun cls d H => ∃ (dd : Addr) (v : V), d = some dd ∧ H dd = some (.xd [(("name" : Str), v)]) ∧ ((cls = .ref CK ∧ TupQ [.str "kind", v] H Q) ∨ (cls = .ref CS ∧ TupQ [.str "sort", v] H Q))
def TRef (CK CS : Addr) : (XK → Hp → VK → Prop) → Hp → VK → Prop := fun tl H Q => tl (CaughtR CK CS Q) H fun v H' => TupQ [.str "told", v] H' Q
theorem miss {K : PySem.W.Frag} {Wout : WX} {D : Ends} {q : Clause} {r : List Clause} {cls : Value} {d : Option Addr} {σ : L2.St} {H : Hp} (e : PySem.W.exmOne K cls q.c = some false) (h : wClauses K Wout D r cls d σ H) : wClauses K Wout D (q :: r) cls d σ H :=
  Exists.intro false (And.intro e (And.intro (fun z => Bool.noConfusion z) fun _ => h))
theorem hits {K : PySem.W.Frag} {Wout : WX} {D : Ends} {q : Clause} {r : List Clause} {cls : Value} {d : Option Addr} {σ : L2.St} {H : Hp} (e : PySem.W.exmOne K cls q.c = some true) (h : ∀ a, H a = none → q.run a cls d D σ H) : wClauses K Wout D (q :: r) cls d σ H :=
  Exists.intro true (And.intro e (And.intro (fun _ => h) fun z => Bool.noConfusion z))
abbrev sRef : Stmt := topS 31
theorem scRef : FnScope ["act", "e"] ["act"] (defScope sRef) := ⟨rfl, rfl, rfl, by decide +kernel, rfl, by decide +kernel, by decide +kernel⟩
theorem ref_gives {X : Cx} {CK CS CT CM CF CL iK iS iT iM iL g : Addr} {cdg : Value} {q : Str} (R : Refs X.K X.mg CK CS CT CM CF CL iK iS iT iM iL) : GivesTo X ["act", "e"] "_law_refused" (defScope sRef) g cdg (defBody sRef) "act" q (TRef CK CS) := by
  intro f c' s H Q tl act hc h
  refine ⟨_, pss_one (ps_try_named (X := (cxOf C8.CX0 X.prog X.w X.K X.mg X.base ["act", "e"] "_law_refused" (defScope sRef) g cdg X.A X.stack s H C8.E0).nox)
      (tb := fun W D σ H => ∃ Ech : XK, (∀ cls d σ' H', Ech cls d H' → W cls d σ' H') ∧ tRet (tTup (tCons (tC (.str "told")) (tCons (fun σZ HZ Q => σZ[0]? = some (some (.ref f)) ∧ HZ c' = some (CodeO c' q) ∧ tl Ech HZ Q) tNil))) D σ H)
      (Wout := fun _ _ _ _ => False) rfl rfl scRef.nd LamX.takes0 (fun W pn xe tk _ => ?_)
      (.named (i := 1) ⟨rfl, by decide, .inl R.nk.g⟩ rfl rfl (fun a oe cls d pn hz hf => pss_one (ps_ret (pe_tup (pa_cons pe_str (pa_cons (pe_byF R.nk hz hf (pv 1)) pa_nil)))))
      (.named (i := 1) ⟨rfl, by decide, .inl R.ns.g⟩ rfl rfl (fun a oe cls d pn hz hf => pss_one (ps_ret (pe_tup (pa_cons pe_str (pa_cons (pe_byF R.ns hz hf (pv 1)) pa_nil)))))
      (.named (i := 1) ⟨rfl, by decide, .inl R.tk.g⟩ rfl rfl (fun a oe cls d pn hz hf => pss_one (ps_ret (pe_tup (pa_cons pe_str (pa_cons (pe_byF R.tk hz hf (pv 1)) pa_nil)))))
      (.named (i := 1) ⟨rfl, by decide, .inl R.tm.g⟩ rfl rfl (fun a oe cls d pn hz hf => pss_one (ps_ret (pe_tup (pa_cons pe_str (pa_cons (pe_byF R.tm hz hf (pv 1)) pa_nil)))))
      (.bare ⟨rfl, by decide, .inl R.tf.g⟩ (fun a oe cls d pn hz hf => pss_one (ps_ret (pe_tup (pa_cons pe_str pa_nil))))
      (.named (i := 1) ⟨rfl, by decide, .inl R.nl.g⟩ rfl rfl (fun a oe cls d pn hz hf => pss_one (ps_ret (pe_tup (pa_cons pe_str (pa_cons (pe_byF R.nl hz hf (pv 1)) pa_nil)))))
      .nil))))))), ?_⟩
  · refine ⟨fun pins s' σ H' D I h' => ?_⟩
    obtain ⟨Ech, hW, h1⟩ := h'
    exact (pss_one (ps_ret (pe_tup (pa_cons pe_str (pa_cons (act W pn xe Ech _ _ tk hW) pa_nil))))).run pins s' σ H' D I h1
  · refine ⟨CaughtR CK CS Q, fun cls d σ' H' hE => ?_, rfl, hc, h⟩
    have at1 : ∀ {a : Addr}, 1 < σ'.length → (σ'.set 1 (some (V.ref a)))[1]? = some (some (.ref a)) := fun {a} hl => by
      rw [List.getElem?_set_self hl]
    obtain ⟨dd, v, rfl, e, hh⟩ := hE
    rcases hh with ⟨rfl, k⟩ | ⟨rfl, k⟩
    · exact hits R.k1 fun a ha hl => ⟨.ref a, at1 hl, rfl, rfl, dd, v, rfl, e, k⟩
    · exact miss R.s1 (hits R.s2 fun a ha hl => ⟨.ref a, at1 hl, rfl, rfl, dd, v, rfl, e, k⟩)
end KZ

namespace KZ
open PySem PySem.Spec PyProof.Rows L2 LamX
section
variable {K : PySem.W.Frag} {M : List Addr} {σ : L2.St} {H : Hp} {tb : TE} {rs : List PyData}
theorem evd_lcRF {tr : TA} {tb : TE} {tt : TT} {vs : List Nat} {j : Nat} {m : Int} (f : Nat → Bool) (g : Nat → PyData) (n : Kn M H) (h : EvDs K M tr σ H [.int m]) (h0 : 0 ≤ m) (hz : m < 100000) (hw : ∀ x, wipe ((wipe σ vs).set j (some x)) vs = wipe σ vs)
    (ht : ∀ (Dl : Addr), H Dl = none → ∀ (i : Nat) (H1 : Hp), Sub H H1 → Kn (Dl :: M) H1 → (i : Int) < m → EvB tt ((wipe σ vs).set j (some (.int (i : Int)))) H1 (f i))
    (he : ∀ (Dl : Addr), H Dl = none → ∀ (i : Nat) (H1 : Hp), Sub H H1 → Kn (Dl :: M) H1 → (i : Int) < m → EvD K (Dl :: M) tb ((wipe σ vs).set j (some (.int (i : Int)))) H1 (g i)) : EvNL K M (tLc (iRng1 tr) (gName j) tt tb vs) σ H (((List.range m.toNat).filter f).map g) := fun H1 s Q q =>
  h H1 s _ fun us H2 s2 hv => by
    cases hv with
    | cons hv1 hv2 =>
    cases hv2
    cases hv1
    have s02 := s.trans s2
    refine ⟨m, rfl, by omega, by omega, fun Dl hD => ?_⟩
    have h0D : H Dl = none := s02.free hD
    refine lc_range (lo := 0) (n := m.toNat) (fun i H' => Sub H2 H' ∧ ∃ acc, H' Dl = some (.lst acc) ∧ Dms K (Dl :: M) H' acc (((List.range i).filter f).map g))
      ⟨Sub.new hD, [], upd_same, .nil⟩ (fun i H' hi p => ?_) (fun H' p => ?_)
    · obtain ⟨sp, acc, p1, p2⟩ := p
      rw [show (0 : Int) + (i : Nat) = (i : Int) by omega]
      refine ⟨hw _, ?_⟩
      refine ht Dl h0D i H' (s02.trans sp) ((n.sub (s02.trans sp)).more ⟨_, p1⟩) (by omega) H' (Sub.refl _) _ fun H3 s3 => ?_
      have p13 := s3 _ _ p1
      rw [List.range_succ, List.filter_append, List.map_append, List.filter_cons]
      by_cases ef : f i = true
      · rw [if_pos ef, if_pos ef]
        refine he Dl h0D i H3 (s02.trans (sp.trans s3)) ((n.sub (s02.trans (sp.trans s3))).more ⟨_, p13⟩) (by omega) H3 (Sub.refl _) _ fun y H4 s4 hy => ⟨acc, s4 _ _ p13, ?_, ?_⟩
        · have q1 := p2.len
          have q2 := List.length_filter_le f (List.range i)
          rw [List.length_map] at q1
          rw [List.length_range] at q2
          exact szl (by omega)
        · have km : Kp (Dl :: M) H4 (upd H4 Dl (.lst (acc ++ [y]))) := Kp.mut List.mem_cons_self
          exact ⟨((sp.trans s3).trans s4).mut hD, _, upd_same, Dms.k ((Dms.s p2 (s3.trans s4)).app (DpAll.one hy)) km⟩
      · rw [if_neg ef, if_neg ef]
        exact ⟨sp.trans s3, acc, p13, by rw [List.filter_nil, List.map_nil, List.append_nil]; exact Dms.s p2 s3⟩
    · obtain ⟨sp, acc, p1, p2⟩ := p
      exact q Dl acc H' (s2.trans sp) (s2.free hD) p1 p2
end
theorem good_shaped {d : PyData} {n k : Nat} (g : Good d n k) (hk : k ≤ 60) : SeqAt.shaped d = true := by
  have := g.dp
  unfold SeqAt.shaped
  rw [g.lay, decide_eq_true (by omega)]
  rfl
section
variable {K : PySem.W.Frag} {M : List Addr} {σ : L2.St} {H : Hp} {t1 t2 : TE} {ds : List PyData}
theorem eqv_nil (ds : List PyData) : PyData.eqv (.list ds) (.list []) = ds.isEmpty := by
  cases ds <;> simp [PyData.eqv, PyData.eqvAll]
theorem evd_neNil {n k : Nat} (h1 : EvD K M t1 σ H (.list ds)) (h2 : EvD K M t2 σ H (.list [])) (g : Good (.list ds) n k) (hk : k ≤ 60) : EvD K M (tOp (rNeD K) t1 t2) σ H (.bool (!ds.isEmpty)) := fun H1 s Q q =>
  h1 H1 s _ fun v H2 s2 hv => h2 H2 (s.trans s2) _ fun u H3 s3 hu => by
    refine ⟨_, _, (Dm.s hv s3).all, hu.all, good_shaped g hk, by decide, ?_⟩
    rw [eqv_nil]
    exact q _ H3 (s2.trans s3) (.bl _)
end
/-- a def by its body, where no repr is under way, its code object told -/
theorem fun_okGd {P : Program} {w : World} {K : PySem.W.Frag} {mg : Str → Option Value} {base : Heap} {x qual : Str} {st : Stmt} {f : Addr} {fd : FuncData} {N ps : List Str} {k : Nat} {sp : Sp} {cv : Value} (hcv : fd.code = cv) (F : Fun K x qual st f fd) (S : FnScope N ps (defScope st)) (hlen : ∀ vs H Q E, sp vs H Q E → vs.length = ps.length)
    (body : ∀ (A : Around) (up : List Env) (t : Shared) (H : Hp) (vs : List V) (Q : VK) (E : XK), A.guards = some [] → Room k (A.deeper (envOfC qual (defScope st) t.heap.objs.size f cv)) → sp vs H Q E →
      ∃ τ, PSs (cxOf CX0 P w K mg base N qual (defScope st) f cv A up t H E).nox (defBody st) τ ∧ τ { nx := fun _ H' => Q .non H', rt := Q } (start N vs) H) : FnG P w K mg base (k + 1) f fd ps sp := by
  have F' : Fun K x qual st f fd ∧ ∀ (oc : Value) (od : Option Addr) (kV doc pm : Value) (an : Option Addr) (cdv ct : Value), fd = PySem.W.fnOf x qual (defArgs st) (defBody st) (defScope st) .none kV doc pm an cdv ct → cdv = cv := ⟨F, fun oc od kV doc pm an cdv ct e => by
    rw [e] at hcv
    exact hcv⟩
  obtain ⟨c0, d0, k0, doc, pm, an, cdv, ct, sl, e, found, code⟩ := F.ex
  cases F'.2 c0 d0 k0 doc pm an cdv ct e
  subst e
  refine ⟨hlen, ?_⟩
  intro A up t H ar us vs Q E gs room here binds rel wish
  have many := hlen _ _ _ _ wish
  have lim : t.heap.NoLimit := Heap.NoLimit.keeps here.mod.nolimit (fun b o e => (here.bs b o e).1)
  have inK : K.In t.heap := PySem.W.Frag.In.keeps here.mod.kin (fun b o e => (here.bs b o e).1)
  have kinds : ∀ z ∈ ps.zip us, (defScope st).names.lookup z.1 = some .local ∨
      ((defScope st).names.lookup z.1 = some .cell ∧ ((cellsFrom (t.heap.objs.size + 1) (defScope st).names []).lookup z.1).isSome = true) := by
    intro z hz
    have h1 : z.1 ∈ ps := (List.of_mem_zip (show (z.1, z.2) ∈ ps.zip us from hz)).1
    cases S.par _ h1 with
    | inl l => exact Or.inl l
    | inr l => exact Or.inr ⟨l, PySem.W.cellsFrom_some _ _ _ (Or.inl l)⟩
  refine codeAny_call_function room.depth (inK _ _ found) rfl S.co S.gen rfl (PySem.W.codeRec_of inK code) ?_
  refine binds _ _ _ _ ?_
  refine wpAny_newFunctionEnv_cells S.kind kinds ?_
  intro env he t1 inside
  subst he
  refine ⟨Heap.NoLimit.keeps lim inside.toInCall.keep, ?_⟩
  refine codeAny_func ?_
  obtain ⟨τ, runs, reads⟩ := body A up t H vs Q E gs (Room.deeper room _) wish
  have J : L2.Inv (cxOf CX0 P w K mg base N qual (defScope st) f _ A up t H E) [] (start N vs) H t1 := inv_start S room.hd here many rel inside
  refine wpAny_mono (runs.nox.run [] t1 (start N vs) H _ J reads) ?_ (fun _ _ z => z)
  intro fl t' out
  cases fl with
  | ret u =>
    obtain ⟨v, σ', H', I', rv, q⟩ := out
    exact ⟨v, H', I'.os, I'.bare, I'.base, I'.hok, rv, q⟩
  | next =>
    obtain ⟨σ', H', I', q⟩ := out
    exact ⟨V.non, H', I'.os, I'.bare, I'.base, I'.hok, rfl, q⟩
  | brk =>
    obtain ⟨_, _, _, q⟩ := out
    cases q
  | cont =>
    obtain ⟨_, _, _, q⟩ := out
    cases q
section
variable {X : Cx}
/-- _law_refused(lambda: f(..)) -/
theorem pe_ref {CK CS CT CM CF CL iK iS iT iM iL c P fR f : Addr} {fdR fd : FuncData} {q : Str} {ps : List Str} {sp : Sp} {tr : TA} {params : Arguments} {e : Expr} {es : List Expr} {scope : Scope} {x : Str} {p lpos pos xp cpos : Pos}
    (R : Refs X.K X.mg CK CS CT CM CF CL iK iS iT iM iL) (FR : Fun X.K "_law_refused" "_law_refused" sRef fR fdR) (gR : X.mg "_law_refused" = some (.ref fR)) (bR : L2.Binds X.K fdR ["act"] [])
    (F : FnOk X.prog X.w X.K X.mg X.base (L2.CX X.prog X.w) 3 f fd ps sp) (gF : X.mg x = some (.ref f)) (kF : PySem.W.keepIn X.K (.ref f) = true) (bF : L2.Binds X.K fd ps [])
    (TB : TabB X.base X.mg c P) (hcode : X.env.code = .ref c) (hq : X.env.qual ++ "<lambda>" = q) (hr : Room 5 X.A) (L : LamS X.env.scope scope) (hdef : defaultsOf params X.env = ([], []))
    (hbind : ∀ (q : Str) (cl : List (Str × Addr)) (pm cv ctv : Value), bindArgs (PySem.W.kla_fn "<lambda>" q params (.Call (.Name x xp) (e :: es) [] cpos) scope cl pm cv ctv) ⟨[], []⟩ = pure [])
    (hg : Gl X "_law_refused") (hgl : ∀ (A : Around) (outer : List Env) (s : Shared) (H : Hp) (E : XK) (g c' : Addr), Gl (lamCx X A outer s H E scope g c') x)
    (ha : ∀ (A : Around) (outer : List Env) (s : Shared) (H : Hp) (E : XK) (g c' : Addr), L2.PA (lamCx X A outer s H E scope g c') (e :: es) tr)
    (hs : ∀ env, starEach (e :: es) env = (false, eval e env) :: starEach es env) (hpl : ∀ env, (backTo cpos (starEach es env)).any (·.1) = false) (hdb : (x == ("__debug__" : Str)) = false := by decide) :
    PE X (.Call (.Name "_law_refused" p) [.Lambda params (.Call (.Name x xp) (e :: es) [] cpos) scope lpos] [] pos) (tLam [(P, q)] (TRef CK CS) fun E => tCallS sp (WE fun cls d _ H => E cls d H) tr) := by
  subst hq
  obtain ⟨oc, od, kV, doc, pm, an, cdR, ct, osl, rfl, lk, hcg⟩ := FR.ex
  exact pe_lamcall (T := [(P, X.env.qual ++ "<lambda>")]) (TT := TRef CK CS) (a := "act") (c := c) (P := P) (k := 3) (Ng := ["act", "e"]) hg gR FR.kp lk hcg bR scRef rfl (Or.inl rfl) (ref_gives R) TB hcode (List.mem_singleton.mpr rfl) (fun z hz _ => by rw [List.mem_singleton.mp hz]) hr L hdef hbind
    (fun A outer s H E g c' hr3 => pe_callS (X := lamCx X A outer s H E scope g c') F hr3 (hgl A outer s H E g c') gF kF bF (fun σ => passAt (takes_of (X := lamCx X A outer s H E scope g c') (E := E) rfl rfl rfl rfl) σ) (ha A outer s H E g c') hdb (hs _) (hpl _))
end
theorem FnG.or {P : Program} {w : World} {K : PySem.W.Frag} {mg : Str → Option Value} {base : Heap} {k : Nat} {f : Addr} {fd : FuncData} {ps : List Str} {s1 s2 : Sp} (a : FnG P w K mg base k f fd ps s1) (b : FnG P w K mg base k f fd ps s2) : FnG P w K mg base k f fd ps fun vs H Q E => s1 vs H Q E ∨ s2 vs H Q E where
  len := fun vs H Q E h => h.elim (a.len vs H Q E) (b.len vs H Q E)
  go := fun A up t H ar us vs Q E gs hr here bd rel h => h.elim (a.go A up t H ar us vs Q E gs hr here bd rel) (b.go A up t H ar us vs Q E gs hr here bd rel)
/-- alike: tuples that are data, or a text and a dict -/
def spAlikeX (K : PySem.W.Frag) : Sp := fun vs H Q E => spAlike K vs H Q E ∨ spAlikeD vs H Q E
theorem evd_lenE {K : PySem.W.Frag} {M : List Addr} {σ : L2.St} {H : Hp} {te : TE} {rs : List PyData} (h : EvD K M te σ H (.tuple rs)) : EvD K M (tCB (fun xs H Q => ∃ p ys, xs = [V.ref p] ∧ (SqL K H p ys ∨ SqT K H p ys) ∧ Q (.int ys.length) H) (tCons te tNil)) σ H (.int rs.length) := fun H1 s Q q =>
  h H1 s _ fun v H2 s2 hv => by
    obtain ⟨a, xs, rfl, hs, ha⟩ := hv.tupAt
    refine ⟨a, xs, rfl, .inr hs, ?_⟩
    rw [ha.len]
    exact q _ H2 s2 (.int _)
section
variable {K : PySem.W.Frag} {b l : Addr} {T : List (Addr × Str)} {H H' : Hp} {v : V} {h : Hou}
theorem wk_at {p : Addr} {o : HO} (w : Wk b l T H H') (e : H p = some o) (nb : p ≠ b) (nt : ∀ ps, o ≠ .tbl ps) : H' p = some o := by
  have q := w.x p o (by rw [er_in (by simp [nb])]; exact e) nt
  rw [er_in (by simp [nb])] at q
  exact q
theorem HouF.w (x : HouF K [b] H v h) (w : Wk b l T H H') : HouF K [b] H' v h := by
  obtain ⟨a, v0, s, v2, rfl, hs, h0, h1, h2, ob, u, e, c1, c2⟩ := x
  exact ⟨a, v0, s, v2, rfl, xn_sqT w.x hs, Dm.w h0 w, Dm.w h1 w, Dm.w h2 w, ob, u, w.x _ _ e (fun _ z => nomatch z), c1, c2⟩
theorem OddV.w (x : OddV K [b] H v) (w : Wk b l T H H') : OddV K [b] H' v := by
  rcases x with ⟨d, h1, h2⟩ | ⟨a, kvs, h1, h2, h3, h4⟩
  · exact .inl ⟨d, Dm.w h1 w, h2⟩
  · exact .inr ⟨a, kvs, h1, h2, wk_at w h3 (by simpa using h2) (fun _ z => nomatch z), h4⟩
theorem OddV.nm (x : OddV K [b] H v) : NmV K [b] H v := by
  rcases x with ⟨d, h1, h2⟩ | ⟨a, kvs, h1, h2, h3, h4⟩
  · exact .inl ⟨d, h1⟩
  · exact .inr ⟨a, kvs, h1, h3⟩
end
/-- the places of a text -/
def isAt (ns : List Str) (v : V) (k : Nat) : Bool := match v with
  | .str x => decide (ns[k]? = some x)
  | _ => false
theorem filt_none {ns : List Str} {v : V} (h : posN ns v = none) : (List.range ns.length).filter (isAt ns v) = [] := by
  rw [List.filter_eq_nil_iff]
  intro k hk
  have hk' := List.mem_range.mp hk
  cases v with
  | str x =>
    have h' : (if x ∈ ns then some (idxS ns x) else none) = none := h
    by_cases c : x ∈ ns
    · rw [if_pos c] at h'
      cases h'
    · show ¬ decide (ns[k]? = some x) = true
      intro z
      exact c (List.mem_of_getElem? (of_decide_eq_true z))
  | _ => exact fun z => Bool.noConfusion z
theorem filt_some {ns : List Str} {v : V} {i : Nat} (h : posN ns v = some i) : ∃ r, (List.range ns.length).filter (isAt ns v) = i :: r := by
  obtain ⟨x, rfl, mx, ix⟩ := posN_some h
  have hf : (List.range ns.length).find? (isAt ns (.str x)) = some i := by
    rw [List.find?_range_eq_some]
    refine ⟨?_, ?_, fun j hj => ?_⟩
    · show decide (ns[i]? = some x) = true
      rw [← ix]
      exact decide_eq_true (ids_at mx)
    · rw [List.mem_range, ← ix]
      exact (List.getElem?_eq_some_iff.mp (ids_at mx)).1
    · show (!decide (ns[j]? = some x)) = true
      rw [decide_eq_false fun e => ids_lo (by rw [ix]; exact hj) e rfl]
      rfl
  have hh := List.head?_filter (p := isAt ns (.str x)) (l := List.range ns.length)
  rw [hf] at hh
  cases z : (List.range ns.length).filter (isAt ns (.str x)) with
  | nil =>
    rw [z] at hh
    cases hh
  | cons a r =>
    rw [z] at hh
    cases Option.some.inj hh
    exact ⟨r, rfl⟩
theorem posN_lt {ns : List Str} {v : V} {i : Nat} (h : posN ns v = some i) : i < ns.length := by
  obtain ⟨x, rfl, mx, ix⟩ := posN_some h
  rw [← ix]
  exact (List.getElem?_eq_some_iff.mp (ids_at mx)).1
end KZ

namespace KZ
open PySem PySem.Spec PyProof.Rows L2 LamX
/-- what is due, what was told: the index, or the very value behind a word -/
def DueOk (K : PySem.W.Frag) (b : Addr) (H : Hp) (tag : Str) (po : Option Nat) (v y : V) : Prop := match po with
  | some i => Dm K [b] H y (.tuple [.str "told", .int (i : Nat)])
  | none => ∃ t, y = .ref t ∧ t ≠ b ∧ H t = some (.tup [.str tag, v])
section
variable {K : PySem.W.Frag} {b l : Addr} {T : List (Addr × Str)} {σ : L2.St} {H H' : Hp} {v : V} {tag : Str} {po : Option Nat}
theorem DueOk.w {y : V} (h : DueOk K b H tag po v y) (w : Wk b l T H H') : DueOk K b H' tag po v y := by
  cases po with
  | some i => exact Dm.w (show Dm K [b] H y _ from h) w
  | none =>
    obtain ⟨t, e, nb, ht⟩ := h
    exact ⟨t, e, nb, wk_at w ht nb (fun _ z => nomatch z)⟩
theorem due_rd {i : Nat} {ns : List Str} {Q : VK} (at_ : ∃ o, H b = some o) (kn : Kn [b] H) (few : ns.length < 10) (hv : σ[1]? = some (some v)) (el : EvD K [b] (tVar i) σ H (.list (((List.range ns.length).filter (isAt ns v)).map fun k : Nat => PyData.int (k : Int))))
    (q : ∀ y H', Sub H H' → DueOk K b H' tag (posN ns v) v y → Q y H') :
    tIf (tTest (tOp (rNeD K) (tVar i) (tLst tNil))) (tTup (tCons (tC (.str "told")) (tCons (tOp (rIxL K) (tVar i) (tC (.int 0))) tNil))) (tTup (tCons (tC (.str tag)) (tCons (tVar 1) tNil))) σ H Q := by
  have gl : Good (.list (((List.range ns.length).filter (isAt ns v)).map fun k : Nat => PyData.int (k : Int))) 1000 1 := by
    refine Good.mono (good_lst (n := 20) (k := 0) fun d hd => ?_) ?_ (Nat.le_refl _)
    · obtain ⟨k, hk, rfl⟩ := List.mem_map.mp hd
      have := List.mem_range.mp (List.mem_filter.mp hk).1
      exact good_int (by omega) (by omega)
    · have := List.length_filter_le (isAt ns v) (List.range ns.length)
      rw [List.length_range] at this
      rw [List.length_map]
      omega
  refine evb_test (evd_neNil el (evd_lst kn evds_nil (by show 0 < 1000000; decide)) gl (by decide)) H (Sub.refl _) _ fun H2 s2 => ?_
  cases z : posN ns v with
  | some k =>
    obtain ⟨r, er_⟩ := filt_some z
    rw [er_] at el ⊢
    rw [if_pos (by rfl)]
    refine evd_tup (K := K) (M := [b]) (kn.sub s2) (evds_cons evd_str (evds_cons (evd_ixL (el.sub s2) (evd_int (i := 0)) (by decide) rfl) evds_nil)) lt2 H2 (Sub.refl _) _ fun y H3 s3 hy => ?_
    rw [z] at q
    exact q y H3 (s2.trans s3) hy
  | none =>
    rw [filt_none z]
    rw [if_neg (by show ¬ (!true) = true; decide)]
    rw [z] at q
    refine tup_of (cons_of (c_of (cons_of ⟨v, hv, nil_of ⟨by show 2 ≤ sizeLine; decide, fun p hp => ?_⟩⟩)))
    obtain ⟨o, e⟩ := at_
    exact q _ _ (s2.trans (Sub.new hp)) ⟨p, rfl, ne_new ⟨o, s2 _ _ e⟩ hp, upd_same⟩
theorem ref_rd {CK CS C : Addr} {sel : Hou → List Str} {vh : V} {h : Hou} {Q : VK} (hT : Tabs T H) (bag : Bag b l H) (hc : (C = CK ∧ tag = "kind") ∨ (C = CS ∧ tag = "sort")) (s0 : σ[0]? = some (some vh)) (s1 : σ[1]? = some (some v)) (hF : HouF K [b] H vh h) (ok : HouOk h) (ov : OddV K [b] H v)
    (q : ∀ y H', Wk b l T H H' → DueOk K b H' tag (posN (sel h) v) v y → Q y H') :
    tLam T (TRef CK CS) (fun E => tCallS (spNm K C sel) (WE fun cls d _ H => E cls d H) (tCons (tVar 0) (tCons (tVar 1) tNil))) σ H Q := by
  refine ⟨hT, fun H1 x1 T1 => ?_⟩
  have w1 : Wk b l T H H1 := Wk.xn bag x1 T1
  have fin : ∀ {H2 : Hp} {w : Str} {u : V}, Sub H1 H2 → (∀ p, H2 p = none → p ≠ b → DueOk K b (upd H2 p (.tup [.str w, u])) tag (posN (sel h) v) v (.ref p)) → TupQ [.str w, u] H2 Q := fun {H2 w u} s k => by
    refine ⟨by show 2 ≤ sizeLine; decide, fun p hp => ?_⟩
    have w2 := w1.trans (Wk.sub w1.bag w1.tabs (s.trans (Sub.new (o := .tup [.str w, u]) hp)))
    exact q _ _ w2 (k p hp (ne_new (w1.bag.kp s).at hp))
  refine ⟨vh, s0, v, s1, [b], vh, v, h, rfl, (Bag.cb1 w1.bag).kn, hF.w w1, ok, (ov.w w1).nm, fun i z H2 s2 => ?_, fun z a H2 s2 e => ?_⟩
  · refine fin s2 fun p hp nb => ?_
    rw [z]
    exact Dm.tupNew ((Bag.cb1 w1.bag).kn.sub s2) hp (.cons (.str _) (.cons (.int _) .nil))
  · refine ⟨a, v, rfl, e, ?_⟩
    rcases hc with ⟨rfl, rfl⟩ | ⟨rfl, rfl⟩
    · refine .inl ⟨rfl, fin s2 fun p hp nb => ?_⟩
      rw [z]
      exact ⟨p, rfl, nb, upd_same⟩
    · refine .inr ⟨rfl, fin s2 fun p hp nb => ?_⟩
      rw [z]
      exact ⟨p, rfl, nb, upd_same⟩
theorem alike_x {y1 y2 : V} {Q : VK} {E : XK} (h1 : DueOk K b H tag po v y1) (h2 : DueOk K b H tag po v y2) (ov : OddV K [b] H v) (ht : tag = "kind" ∨ tag = "sort") (few : ∀ i, po = some i → i < 10) (q : Q (.bl true) H) : spAlikeX K [y1, y2] H Q E := by
  have tagOk : ∀ x ∈ (["told", "kind", "sort"] : List Str), PyData.strOk x = true ∧ (reprText x).length ≤ 20 := by decide +kernel
  cases po with
  | some i =>
    refine .inl ⟨y1, y2, [.str "told", .int (i : Nat)], 100, 1, rfl, Dm.all (show Dm K [b] H y1 _ from h1), Dm.all (show Dm K [b] H y2 _ from h2), ?_, by decide, by decide, q⟩
    have := few i rfl
    exact Good.mono (good_tup (two_of (good_str tagOk (by simp)) (good_int (by omega) (by omega)))) (by show 2 * 22 + 4 ≤ 100; decide) (by decide)
  | none =>
    obtain ⟨t, rfl, nt, et⟩ := h1
    obtain ⟨u, rfl, nu, eu⟩ := h2
    rcases ov with ⟨d, hd, g⟩ | ⟨a, kvs, rfl, na, ea, hk⟩
    · have dt : ∀ {t : Addr}, t ≠ b → H t = some (.tup [.str tag, v]) → Dp K H (.ref t) (.tuple [.str tag, d]) := fun {t} nb e => .tup (SqT.of e) (.cons (.str _) (.cons hd.all .nil))
      refine .inl ⟨_, _, [.str tag, d], 1000, 4, rfl, dt nt et, dt nu eu, ?_, by decide, by decide, q⟩
      refine Good.mono (good_tup (two_of (P := fun d => Good d 200 3) ?_ g)) (by show 2 * 202 + 4 ≤ 1000; decide) (by decide)
      rcases ht with rfl | rfl
      · exact Good.mono (good_str tagOk (by simp)) (by decide) (by decide)
      · exact Good.mono (good_str tagOk (by simp)) (by decide) (by decide)
    · exact .inr ⟨t, u, a, tag, kvs, rfl, et, eu, ea, hk, ht, q⟩
def sameS (a : Str) : V → Bool
  | .str x => decide (a = x)
  | _ => false
theorem same_is {ns : List Str} {a : Str} {i : Nat} (e : ns[i]? = some a) (v : V) : sameS a v = isAt ns v i := by
  cases v <;> first | rfl | (unfold sameS isAt; simp only [e, Option.some.injEq])
/-- isinstance(name, str) and x == name -/
theorem evb_at {i : Nat} {M N : List Addr} {te : TE} {a : Str} (hv : σ[i]? = some (some v)) (nm : NmV K M H v) (hx : EvD K N te σ H (.str a)) : EvB (tAnd (tB (tCB (rIsStr K) (tCons (tVar i) (tCons (tC (.ty "str")) tNil)))) (tTest (tOp rEq te (tVar i)))) σ H (sameS a v) := fun H1 s Q q => by
  rcases nm with ⟨d, hd⟩ | ⟨c, kvs, rfl, e⟩
  · have hd1 := Dm.s hd s
    refine ⟨v, hv, v, rfl, .inl ⟨d, hd1.all, _, rfl, ?_⟩⟩
    cases hd1 with
    | str x =>
      show if true = true then _ else _
      rw [if_pos rfl]
      refine hx H1 s _ fun y H2 s2 hy => ?_
      cases hy.strAt
      refine ⟨_, hv, rfl, _, rfl, ?_⟩
      have e : decide (V.str a = V.str x) = decide (a = x) := by
        by_cases z : a = x
        · rw [z]
          simp
        · rw [decide_eq_false z, decide_eq_false fun y => z (V.str.inj y)]
      rw [e]
      exact q H2 s2
    | non => exact q H1 (Sub.refl _)
    | bl b => exact q H1 (Sub.refl _)
    | int b => exact q H1 (Sub.refl _)
    | lst _ _ => exact q H1 (Sub.refl _)
    | tup _ _ => exact q H1 (Sub.refl _)
  · exact ⟨_, hv, _, rfl, .inr ⟨c, kvs, rfl, s _ _ e, _, rfl, q H1 (Sub.refl _)⟩⟩
end
end KZ

namespace KZ
open PySem PySem.Spec PyProof.Rows L2 LamX
abbrev lamQ : Str := (("_law_is_named" : Str) ++ (".<locals>." : Str)) ++ ("<lambda>" : Str)
def spIsN (K : PySem.W.Frag) (P : Addr) : Sp := fun vs H Q _ => ∃ (b l : Addr) (vh v : V) (h : Hou), vs = [vh, v] ∧ Bag b l H ∧ Tabs [(P, lamQ)] H ∧ HouF K [b] H vh h ∧ HouOk h ∧ OddV K [b] H v ∧ ∀ H', Wk b l [(P, lamQ)] H H' → Q (.bl true) H'
section
variable {P : Program} {w : World} {K : PySem.W.Frag} {mg : Str → Option Value} {base : Heap}
abbrev sIs : Stmt := topS 32
abbrev NI : List Str := ["house", "name", "kinds", "sorts", "due", "k"]
theorem scIs : FnScope NI ["house", "name"] (defScope sIs) := ⟨rfl, rfl, rfl, by decide +kernel, rfl, by decide +kernel, by decide +kernel⟩
theorem ok_isN {f c P0 CK CS CT CM CF CL iK iS iT iM iL fA fR gK gS : Addr} {fd fdA fdR dK dS : FuncData} (F : Fun K "_law_is_named" "_law_is_named" sIs f fd) (hcv : fd.code = .ref c) (T : Txt mg) (Ti : mg "isinstance" = none) (Ts : mg "str" = none)
    (CA : CalG P w K mg base "_law_alike" 1 ["found", "due"] (spAlikeX K) fA fdA) (R : Refs K mg CK CS CT CM CF CL iK iS iT iM iL) (FR : Fun K "_law_refused" "_law_refused" sRef fR fdR) (gR : mg "_law_refused" = some (.ref fR)) (bR : L2.Binds K fdR ["act"] [])
    (oK : FnOk P w K mg base (L2.CX P w) 3 gK dK ["house", "name"] (spNm K CK kdN)) (mK : mg "kind_named" = some (.ref gK)) (kK : PySem.W.keepIn K (.ref gK) = true) (bK : L2.Binds K dK ["house", "name"] [])
    (oS : FnOk P w K mg base (L2.CX P w) 3 gS dS ["house", "name"] (spNm K CS fun h => h.ss)) (mS : mg "sort_named" = some (.ref gS)) (kS : PySem.W.keepIn K (.ref gS) = true) (bS : L2.Binds K dS ["house", "name"] [])
    (TB : TabB base mg c P0) : FnG P w K mg base 6 f fd ["house", "name"] (spIsN K P0) := by
  refine fun_okGd hcv F scIs (fun vs H Q E h => ?_) (fun A outer s H vs Q E gs hr h => ?_)
  · obtain ⟨_, _, _, _, _, rfl, _⟩ := h
    rfl
  obtain ⟨b, l, vh, v, h, rfl, bag, hT, hF, ok, ov, q⟩ := h
  have hr1 : Room 1 _ := hr.mono (by decide)
  have hr5 : Room 5 _ := hr
  refine ⟨_, pss_cons (ps_setLc (i := 2) (own := [("k", 5)]) (g := gName 5) (tt := tAnd (tB (tCB (rIsStr K) (tCons (tVar 1) (tCons (tC (.ty "str")) tNil)))) (tTest (tOp rEq (tOp (rIxT K) (tOp (rIxT K) (tOp (rIxT K) (tVar 0) (tC (.int 0))) (tVar 5)) (tC (.int 0))) (tVar 1)))) (te := tVar 5) rfl scIs.nd rfl rfl rfl (pi_range1 rfl T.range (pa_cons (pe_callB call_len_seq (by rfl) T.len PySem.boot_len (pa_cons (pe_ix ix_tup (pv 0) pe_int (fun _ _ => rfl)) pa_nil)) pa_nil)) (blkOk_by (N := NI) (sc := defScope sIs) (by decide +kernel)) (fun _ _ _ _ _ => pg_name (i := 5) scIs.nd rfl (Or.inl rfl))
      (fun _ _ _ _ _ => pts_one (PW.pt (pw_and (pt_val (pe_callB (show CallR _ (.builtin "isinstance") (rIsStr K) from call_isStr) (by rfl) Ti PyProof.Rows.boot_isinstance (pa_cons (pv 1) (pa_cons (pe_bltn (v := .ty "str") (by rfl) Ts bootStr rfl) pa_nil)))) (pw_and1 (pt_cmpR op_eq (pe_ix ix_tup (pe_ix ix_tup (pe_ix ix_tup (pv 0) pe_int (fun _ _ => rfl)) (pv 5) (fun _ _ => rfl)) pe_int (fun _ _ => rfl)) (pv 1) (nomark _)))))) (fun _ _ _ _ _ => pv 5))
    (pss_cons (ps_setLc (i := 3) (own := [("k", 5)]) (g := gName 5) (tt := tAnd (tB (tCB (rIsStr K) (tCons (tVar 1) (tCons (tC (.ty "str")) tNil)))) (tTest (tOp rEq (tOp (rIxT K) (tOp (rIxT K) (tVar 0) (tC (.int 1))) (tVar 5)) (tVar 1)))) (te := tVar 5) rfl scIs.nd rfl rfl rfl (pi_range1 rfl T.range (pa_cons (pe_callB call_len_seq (by rfl) T.len PySem.boot_len (pa_cons (pe_ix ix_tup (pv 0) pe_int (fun _ _ => rfl)) pa_nil)) pa_nil)) (blkOk_by (N := NI) (sc := defScope sIs) (by decide +kernel)) (fun _ _ _ _ _ => pg_name (i := 5) scIs.nd rfl (Or.inl rfl))
      (fun _ _ _ _ _ => pts_one (PW.pt (pw_and (pt_val (pe_callB (show CallR _ (.builtin "isinstance") (rIsStr K) from call_isStr) (by rfl) Ti PyProof.Rows.boot_isinstance (pa_cons (pv 1) (pa_cons (pe_bltn (v := .ty "str") (by rfl) Ts bootStr rfl) pa_nil)))) (pw_and1 (pt_cmpR op_eq (pe_ix ix_tup (pe_ix ix_tup (pv 0) pe_int (fun _ _ => rfl)) (pv 5) (fun _ _ => rfl)) (pv 1) (nomark _)))))) (fun _ _ _ _ _ => pv 5))
    (pss_cons (ps_set (i := 4) scIs.nd rfl (Or.inl rfl) (pe_ifExp (pt_cmpR (op_neD hr.units) (pv 2) (pe_lst pa_nil) (nomark _)) (pe_tup (pa_cons pe_str (pa_cons (pe_ix ix_list (pv 2) pe_int (fun _ _ => rfl)) pa_nil))) (pe_tup (pa_cons pe_str (pa_cons (pv 1) pa_nil)))))
    (pss_cons (ps_if (pt_not (pt_val (pclG CA gs hr1 (pa_cons (pe_ref R FR gR bR oK mK kK bK TB rfl rfl hr5 (lamS_by (show lamSB (defScope sIs) _ = true by decide +kernel)) rfl (fun _ _ _ _ _ => rfl) rfl (fun _ _ _ _ _ _ _ => rfl) (fun _ _ _ _ _ _ _ => pa_cons (pv 0) (pa_cons (pv 1) pa_nil)) (fun _ => rfl) (fun _ => rfl)) (pa_cons (pv 4) pa_nil))))) (pss_one (ps_ret pe_bl)) pss_nil)
    (pss_cons (ps_set (i := 4) scIs.nd rfl (Or.inl rfl) (pe_ifExp (pt_cmpR (op_neD hr.units) (pv 3) (pe_lst pa_nil) (nomark _)) (pe_tup (pa_cons pe_str (pa_cons (pe_ix ix_list (pv 3) pe_int (fun _ _ => rfl)) pa_nil))) (pe_tup (pa_cons pe_str (pa_cons (pv 1) pa_nil)))))
    (pss_one (ps_ret (pclG CA gs hr1 (pa_cons (pe_ref R FR gR bR oS mS kS bS TB rfl rfl hr5 (lamS_by (show lamSB (defScope sIs) _ = true by decide +kernel)) rfl (fun _ _ _ _ _ => rfl) rfl (fun _ _ _ _ _ _ _ => rfl) (fun _ _ _ _ _ _ _ => pa_cons (pv 0) (pa_cons (pv 1) pa_nil)) (fun _ => rfl) (fun _ => rfl)) (pa_cons (pv 4) pa_nil))))))))), ?_⟩
  have k1 := ok.k1
  have s1' := ok.s1
  have cb := Bag.cb1 bag
  have kn := cb.kn
  have at_ := bag.at
  have eh {H' : Hp} {x2 x3 x4 x5 : Option V} (k : HouF K [b] H' vh h) : EvD K [b] (tVar 0) ([some vh, some v, x2, x3, x4, x5] : L2.St) H' (.tuple [.tuple (h.ks.map kdD), .tuple (h.ss.map PyData.str), judD h.j]) := evd_var rfl k.dm
  have l0 := evd_lenE (evd_ixT (i := 0) (d := .tuple (h.ks.map kdD)) (eh (x2 := none) (x3 := none) (x4 := none) (x5 := none) hF) evd_int (by decide) rfl)
  rw [List.length_map] at l0
  have c0 : EvNL K [b] _ ([some vh, some v, none, none, none, none] : L2.St) H (((List.range ((h.ks.length : Int)).toNat).filter (isAt (kdN h) v)).map fun k : Nat => PyData.int (k : Int)) :=
    evd_lcRF (tb := tVar 5) (tt := tAnd (tB (tCB (rIsStr K) (tCons (tVar 1) (tCons (tC (.ty "str")) tNil)))) (tTest (tOp rEq (tOp (rIxT K) (tOp (rIxT K) (tOp (rIxT K) (tVar 0) (tC (.int 0))) (tVar 5)) (tC (.int 0))) (tVar 1)))) (vs := [5]) (j := 5) (m := (h.ks.length : Int)) (isAt (kdN h) v) (fun k => .int (k : Int)) kn (evds_cons l0 evds_nil) (by omega) (by omega) (by intro z; rfl) (by
      intro Dl hDl i H2 s2 n2 hi
      have hi' : i < h.ks.length := by omega
      have ek : h.ks[i]? = some (h.ks[i]) := List.getElem?_eq_getElem hi'
      have e0 : EvD K (Dl :: [b]) (tVar 0) ([some vh, some v, none, none, none, some (.int (i : Int))] : L2.St) H2 (.tuple [.tuple (h.ks.map kdD), .tuple (h.ss.map PyData.str), judD h.j]) := evd_var rfl (Dm.s (Dm.more hF.dm hDl) s2)
      have e5 : EvD K (Dl :: [b]) (tVar 5) ([some vh, some v, none, none, none, some (.int (i : Int))] : L2.St) H2 (.int (i : Int)) := evd_var rfl (.int _)
      have p1 := evd_ixT (d := kdD h.ks[i]) (evd_ixT e0 (evd_int (i := 0)) (by decide) rfl) e5 (Int.natCast_nonneg _) (by rw [Int.toNat_natCast, List.getElem?_map, ek]; rfl)
      have p2 := evb_at (K := K) (i := 1) (v := v) (a := (h.ks[i]).1) (M := [b]) (σ := [some vh, some v, none, none, none, some (.int (i : Int))]) rfl (ov.nm.s s2) (evd_ixT p1 (evd_int (i := 0)) (by decide) rfl)
      rw [same_is (ns := kdN h) (show (h.ks.map (·.1))[i]? = some (h.ks[i]).1 by rw [List.getElem?_map, ek]; rfl) v] at p2
      exact p2) (by
      intro Dl hDl i H2 s2 n2 hi
      exact evd_var (i := 5) rfl (.int _))
  rw [Int.toNat_natCast, show h.ks.length = (kdN h).length from (List.length_map _).symm] at c0
  have kl : (kdN h).length < 10 := by
    show (h.ks.map (·.1)).length < 10
    rw [List.length_map]
    exact k1
  refine sset_of (c0 H (Sub.refl _) _ fun pl xl H1 s1 hpl hpl1 hxl => ?_)
  have w1 : Wk b l [(P0, lamQ)] H H1 := Wk.sub bag hT s1
  have hl1 : Dm K [b] H1 (.ref pl) (.list (((List.range (kdN h).length).filter (isAt (kdN h) v)).map fun k : Nat => PyData.int (k : Int))) := Dm.lstOf (kn.out hpl) hpl1 hxl
  have hF1 := hF.w w1
  have ov1 := ov.w w1
  have kn1 := (Bag.cb1 w1.bag).kn
  have l1 := evd_lenE (evd_ixT (i := 1) (d := .tuple (h.ss.map PyData.str)) (eh (x2 := some (.ref pl)) (x3 := none) (x4 := none) (x5 := none) hF1) evd_int (by decide) rfl)
  rw [List.length_map] at l1
  have c1 : EvNL K [b] _ ([some vh, some v, some (.ref pl), none, none, none] : L2.St) H1 (((List.range ((h.ss.length : Int)).toNat).filter (isAt h.ss v)).map fun k : Nat => PyData.int (k : Int)) :=
    evd_lcRF (tb := tVar 5) (tt := tAnd (tB (tCB (rIsStr K) (tCons (tVar 1) (tCons (tC (.ty "str")) tNil)))) (tTest (tOp rEq (tOp (rIxT K) (tOp (rIxT K) (tVar 0) (tC (.int 1))) (tVar 5)) (tVar 1)))) (vs := [5]) (j := 5) (m := (h.ss.length : Int)) (isAt h.ss v) (fun k => .int (k : Int)) kn1 (evds_cons l1 evds_nil) (by omega) (by omega) (by intro z; rfl) (by
      intro Dl hDl i H2 s2 n2 hi
      have hi' : i < h.ss.length := by omega
      have ek : h.ss[i]? = some (h.ss[i]) := List.getElem?_eq_getElem hi'
      have e0 : EvD K (Dl :: [b]) (tVar 0) ([some vh, some v, some (.ref pl), none, none, some (.int (i : Int))] : L2.St) H2 (.tuple [.tuple (h.ks.map kdD), .tuple (h.ss.map PyData.str), judD h.j]) := evd_var rfl (Dm.s (Dm.more hF1.dm hDl) s2)
      have e5 : EvD K (Dl :: [b]) (tVar 5) ([some vh, some v, some (.ref pl), none, none, some (.int (i : Int))] : L2.St) H2 (.int (i : Int)) := evd_var rfl (.int _)
      have p1 := evd_ixT (d := .str h.ss[i]) (evd_ixT e0 (evd_int (i := 1)) (by decide) rfl) e5 (Int.natCast_nonneg _) (by rw [Int.toNat_natCast, List.getElem?_map, ek]; rfl)
      have p2 := evb_at (K := K) (i := 1) (v := v) (a := h.ss[i]) (M := [b]) (σ := [some vh, some v, some (.ref pl), none, none, some (.int (i : Int))]) rfl (ov1.nm.s s2) p1
      rw [same_is (ns := h.ss) ek v] at p2
      exact p2) (by
      intro Dl hDl i H2 s2 n2 hi
      exact evd_var (i := 5) rfl (.int _))
  rw [Int.toNat_natCast] at c1
  refine sset_of (c1 H1 (Sub.refl _) _ fun ps xs H2 s2 hps hps1 hxs => ?_)
  have w2 := w1.trans (Wk.sub w1.bag w1.tabs s2)
  have kn2 := (Bag.cb1 w2.bag).kn
  have hl2 := Dm.s hl1 s2
  have hs2 : Dm K [b] H2 (.ref ps) (.list (((List.range h.ss.length).filter (isAt h.ss v)).map fun k : Nat => PyData.int (k : Int))) := Dm.lstOf (kn1.out hps) hps1 hxs
  refine sset_of (due_rd (K := K) (b := b) (i := 2) (ns := kdN h) (v := v) (tag := "kind") w2.bag.at kn2 kl rfl (evd_var rfl hl2) fun y3 H3 s3 d3 => ?_)
  have w3 := w2.trans (Wk.sub w2.bag w2.tabs s3)
  refine sifs ?_
  refine ref_rd (K := K) (b := b) (l := l) (tag := "kind") (h := h) (vh := vh) (v := v) w3.tabs w3.bag (.inl ⟨rfl, rfl⟩) rfl rfl (hF.w w3) ok (ov.w w3) fun y4 H4 w34 d4 => ?_
  have w4 := w3.trans w34
  refine ⟨y3, rfl, alike_x (K := K) (b := b) (tag := "kind") (v := v) d4 (d3.w w34) (ov.w w4) (.inl rfl) (fun i z => by have := posN_lt z; omega) ⟨true, rfl, ?_⟩⟩
  show if (!true) = true then _ else _
  rw [if_neg (show ¬ (!true) = true by decide)]
  unfold tNext
  dsimp only
  have kn4 := (Bag.cb1 w4.bag).kn
  refine sset_of (due_rd (K := K) (b := b) (i := 3) (ns := h.ss) (v := v) (tag := "sort") w4.bag.at kn4 s1' rfl (evd_var rfl (Dm.w (Dm.s hs2 s3) w34)) fun y5 H5 s5 d5 => ?_)
  have w5 := w4.trans (Wk.sub w4.bag w4.tabs s5)
  refine ret_of (ref_rd (K := K) (b := b) (l := l) (tag := "sort") (h := h) (vh := vh) (v := v) w5.tabs w5.bag (.inr ⟨rfl, rfl⟩) rfl rfl (hF.w w5) ok (ov.w w5) fun y6 H6 w56 d6 => ?_)
  have w6 := w5.trans w56
  exact ⟨y5, rfl, alike_x (K := K) (b := b) (tag := "sort") (v := v) d6 (d5.w w56) (ov.w w6) (.inr rfl) (fun i z => by have := posN_lt z; omega) (q H6 w6)⟩
end
end KZ

namespace KZ
open PySem PySem.Spec PyProof.Rows L2 LamX
section
variable {M : List Addr} {b l : Addr} {σ : L2.St} {H : Hp} {K : PySem.W.Frag} {tr : TA} {te : TE}
/-- [te for j in range(m)], te beside the bag, its things told by R -/
theorem lcV_bag {vs : List Nat} {j : Nat} {m : Int} (R : List Addr → Hp → V → Prop) (stab : ∀ {M H H' v}, R M H v → Kp M H H' → R M H' v) (lessR : ∀ {p M H v}, R (p :: M) H v → R M H v) (cb : Cb M b l H) (h : EvDs K M tr σ H [.int m]) (h0 : 0 ≤ m) (hz : m < 100000) (hw : ∀ x, wipe ((wipe σ vs).set j (some x)) vs = wipe σ vs)
    (he : ∀ (Dl : Addr), H Dl = none → ∀ (i : Nat) (H1 : Hp), Fr b l H H1 → Cb (Dl :: M) b l H1 → (i : Int) < m → ∀ Q : VK, (∀ y H2, Fr b l H1 H2 → R (Dl :: M) H2 y → Q y H2) → te ((wipe σ vs).set j (some (.int (i : Int)))) H1 Q)
    (Q : VK) (q : ∀ p xs H', Fr b l H H' → H p = none → H' p = some (.lst xs) → xs.length = m.toNat → (∀ v ∈ xs, R M H' v) → Q (.ref p) H') : tLc (iRng1 tr) (gName j) tYes te vs σ H Q :=
  h H (Sub.refl _) _ fun us H2 s2 hv => by
    cases hv with
    | cons hv1 hv2 =>
    cases hv2
    cases hv1
    have f2 : Fr b l H H2 := Fr.sub cb.bag s2
    refine ⟨m, rfl, by omega, by omega, fun Dl hD => ?_⟩
    have h0D : H Dl = none := s2.free hD
    have pb := ne_new cb.bag.at h0D
    refine lc_range (lo := 0) (n := m.toNat) (fun i H' => Fr b l H H' ∧ ∃ acc, H' Dl = some (.lst acc) ∧ acc.length = i ∧ ∀ v ∈ acc, R (Dl :: M) H' v)
      ⟨f2.mut cb.bag h0D, [], upd_same, rfl, by simp⟩ (fun i H' hi p => ?_) (fun H' p => ?_)
    · obtain ⟨fp, acc, p1, p3, p4⟩ := p
      have c3 : Cb (Dl :: M) b l H' := (cb.fr fp).more ⟨_, p1⟩
      rw [show (0 : Int) + (i : Nat) = (i : Int) by omega]
      refine ⟨hw _, ?_⟩
      unfold tYes
      dsimp only
      rw [if_pos rfl]
      refine he Dl h0D i H' fp c3 (by omega) _ fun y H3 f3 hy => ⟨acc, f3.k Dl _ (by simp [pb]) p1, szl (by omega), ?_⟩
      have km : Kp (Dl :: M) H3 (upd H3 Dl (.lst (acc ++ [y]))) := Kp.mut List.mem_cons_self
      refine ⟨(fp.trans f3).mut cb.bag h0D, _, upd_same, by rw [List.length_append, p3] <;> rfl, fun v hv => ?_⟩
      rcases List.mem_append.mp hv with z | z
      · exact stab (stab (p4 v z) (f3.kp c3.mem)) km
      · rw [List.mem_singleton.mp z]
        exact stab hy km
    · obtain ⟨fp, acc, p1, p3, p4⟩ := p
      exact q Dl acc H' fp h0D p1 p3 fun v hv => lessR (p4 v hv)
end
/-! alike: lists, texts -/
section
variable {X : Cx}
def rReprL (K : PySem.W.Frag) : List V → Hp → VK → Prop := fun xs H Q => ∃ (v : V) (d : PyData) (n k : Nat), xs = [v] ∧ Dp K H v d ∧ (∃ a, v = .ref a) ∧ Good d n k ∧ n < 1000000 ∧ k ≤ 60 ∧ Q (.str (PyData.shown d)) H
theorem call_reprL (hg : X.A.guards = some []) (hu : X.A.units + 64 < cLine) : CallR X (.builtin "repr") (rReprL X.K) := by
  intro pins s σ H xs us Q I r q
  obtain ⟨v, d, n, k, rfl, hd, ⟨a, rfl⟩, g, hn, hk, q⟩ := q
  obtain ⟨u, rfl, rx⟩ := vals1 r
  obtain ⟨as, rr⟩ := Dp.reads I _ _ u hd rx
  cases rx
  have := g.dp
  exact repr_of_reads' rr g.sh (PyData.noDict_hsm g.nd) hg (by omega) (fun _ _ e => e) (fun h' u tk hk' => ⟨.str _, H, I.kept (t' := tk) hk', ⟨_, rfl⟩, q⟩) (Nat.le_of_lt (szl (Nat.lt_of_le_of_lt g.len hn)))
theorem call_reprS : CallR X (.builtin "repr") (fun xs H Q => ∃ x : Str, xs = [.str x] ∧ (reprText x).length ≤ 20 ∧ Q (.str (reprText x)) H) := by
  intro pins s σ H xs us Q I r h
  obtain ⟨x, rfl, hz, q⟩ := h
  obtain ⟨u, rfl, t, rfl⟩ := vals1 r
  exact PySem.P.repr_of_str ⟨.str _, H, I.tok _, ⟨_, rfl⟩, q⟩ (Nat.le_trans hz (by decide))
end
def spAlikeL (K : PySem.W.Frag) : Sp := fun vs H Q _ => ∃ (v u : V) (d : PyData) (n k : Nat), vs = [v, u] ∧ Dp K H v d ∧ Dp K H u d ∧ (∃ a, v = .ref a) ∧ (∃ a, u = .ref a) ∧ Good d n k ∧ n < 1000000 ∧ k ≤ 60 ∧ Q (.bl true) H
def spAlikeS : Sp := fun vs H Q _ => ∃ x : Str, vs = [.str x, .str x] ∧ (reprText x).length ≤ 20 ∧ Q (.bl true) H
def spAlikeW (K : PySem.W.Frag) : Sp := fun vs H Q E => spAlikeL K vs H Q E ∨ spAlikeS vs H Q E
section
variable {P : Program} {w : World} {K : PySem.W.Frag} {mg : Str → Option Value} {base : Heap}
theorem ok_alikeL {f : Addr} {fd : FuncData} (F : Fun K "_law_alike" "_law_alike" sAlike f fd) (T : Txt mg) : FnG P w K mg base 1 f fd ["found", "due"] (spAlikeL K) := by
  refine fun_okG F scAlike (fun vs H Q E h => ?_) (fun cdv A outer s H vs Q E gs hr h => ?_)
  · obtain ⟨v, u, d, n, k, rfl, _⟩ := h
    rfl
  · obtain ⟨v, u, d, n, k, rfl, hv, hu, ra, rb, g, hn, hk, q⟩ := h
    refine ⟨_, pss_one (ps_ret (pe_and (pe_cmpR (op_eqD hr.units) (pv 0) (pv 1) (nomark _)) (pe_one (pe_cmpR op_eq (pe_callB (call_reprL gs hr.units) (by rfl) T.repr PyProof.Rows.boot_repr (pa_cons (pv 0) pa_nil)) (pe_callB (call_reprL gs hr.units) (by rfl) T.repr PyProof.Rows.boot_repr (pa_cons (pv 1) pa_nil)) (nomark _))))), ?_⟩
    have sh := good_shaped g hk
    refine ⟨_, rfl, _, rfl, _, _, hv, hu, sh, sh, _, rfl, ?_⟩
    rw [SeqAt.eqv_refl _ g.lay]
    refine iteT ?_
    refine ⟨_, rfl, v, d, n, k, rfl, hv, ra, g, hn, hk, _, rfl, u, d, n, k, rfl, hu, rb, g, hn, hk, rfl, ?_⟩
    rw [decide_eq_true rfl]
    exact q
theorem ok_alikeS {f : Addr} {fd : FuncData} (F : Fun K "_law_alike" "_law_alike" sAlike f fd) (T : Txt mg) : FnG P w K mg base 1 f fd ["found", "due"] spAlikeS := by
  refine fun_okG F scAlike (fun vs H Q E h => ?_) (fun cdv A outer s H vs Q E gs hr h => ?_)
  · obtain ⟨x, rfl, _⟩ := h
    rfl
  · obtain ⟨x, rfl, hz, q⟩ := h
    refine ⟨_, pss_one (ps_ret (pe_and (pe_cmpR op_eq (pv 0) (pv 1) (nomark _)) (pe_one (pe_cmpR op_eq (pe_callB call_reprS (by rfl) T.repr PyProof.Rows.boot_repr (pa_cons (pv 0) pa_nil)) (pe_callB call_reprS (by rfl) T.repr PyProof.Rows.boot_repr (pa_cons (pv 1) pa_nil)) (nomark _))))), ?_⟩
    refine ⟨_, rfl, _, rfl, rfl, _, rfl, ?_⟩
    rw [decide_eq_true rfl]
    refine iteT ?_
    refine ⟨_, rfl, x, rfl, hz, _, rfl, x, rfl, hz, rfl, ?_⟩
    rw [decide_eq_true rfl]
    exact q
end
end KZ

namespace KZ
open PySem PySem.Spec PyProof.Rows L2 LamX
/-! the law's own last steps -/
def spNamedL (K : PySem.W.Frag) : Sp := fun vs H Q _ => ∃ (M : List Addr) (b l : Addr) (m : Int), vs = [.ref b, .int m] ∧ Cb M b l H ∧ 0 ≤ m ∧ m ≤ 15 ∧
  ∀ (p : Addr) (ns : List Str) (H' : Hp), Fr b l H H' → ns.length = m.toNat → (∀ n ∈ ns, n ∈ Names) → H' p = some (.lst (ns.map V.str)) → Q (.ref p) H'
section
variable {P : Program} {w : World} {K : PySem.W.Frag} {mg : Str → Option Value} {base : Heap}
theorem ok_namedL {f fM : Addr} {fd fdM : FuncData} (F : Fun K "_law_named" "_law_named" sNamed f fd) (CM : Cal P w K mg base "_law_mixed" 2 ["bag", "things"] (spMixed K) fM fdM) : FnOk P w K mg base CX0 3 f fd ["bag", "many"] (spNamedL K) := by
  refine F.ok scNamed (fun vs H Q E h => ?_) (fun cdv A outer s H vs Q E hr h => ?_)
  · obtain ⟨M, b, l, m, rfl, _⟩ := h
    rfl
  · obtain ⟨M, b, l, m, rfl, cb, h0, h1, k⟩ := h
    refine ⟨_, pss_cons (ps_set (i := 2) scNamed.nd rfl (Or.inl rfl) (pe_lst (pa_cons pe_str (pa_cons pe_str (pa_cons pe_str (pa_cons pe_str (pa_cons pe_str (pa_cons pe_str (pa_cons pe_str (pa_cons pe_str (pa_cons pe_str (pa_cons pe_str
        (pa_cons pe_str (pa_cons pe_str (pa_cons pe_str (pa_cons pe_str (pa_cons pe_str pa_nil)))))))))))))))))
      (pss_one (ps_ret (pe_slice sl_list (pcl CM hr (pa_cons (pv 0) (pa_cons (pv 2) pa_nil))) po_none (po_some (pv 1))))), ?_⟩
    refine ⟨by show 15 ≤ sizeLine; decide, fun p hp => ?_⟩
    have f0 : Fr b l H (upd H p (.lst (Names.map V.str))) := Fr.new cb.bag hp
    have d0 : Dm K M (upd H p (.lst (Names.map V.str))) (.ref p) (.list (Names.map PyData.str)) := Dm.lstNew cb.kn hp (dps_strs Names)
    refine ⟨_, rfl, _, rfl, M, b, l, _, _, rfl, cb.fr f0, d0, by show 15 < 100000; decide, fun y es H' f1 hpm hy => ?_⟩
    obtain ⟨ns, rfl, hns⟩ := perm_str hpm
    have hlen : ns.length = 15 := hns.length_eq
    obtain ⟨a, xs, rfl, hs, ha⟩ := hy.lstAt
    cases strs_dps ha
    refine ⟨_, rfl, _, rfl, a, _, rfl, hs, fun q hq => ?_⟩
    rw [cutV_to h0 (by rw [List.length_map]; omega), ← List.map_take]
    exact k q (ns.take m.toNat) _ ((f0.trans f1).trans (Fr.new f1.bag hq)) (by rw [List.length_take]; omega) (fun n hn => hns.mem_iff.mp (List.mem_of_mem_take hn)) upd_same
end
theorem HouF.less {K : PySem.W.Frag} {M : List Addr} {p : Addr} {H : Hp} {y : V} {h : Hou} (x : HouF K (p :: M) H y h) : HouF K M H y h := by
  obtain ⟨a, v0, s, v2, rfl, hs, h0, h1, h2, ob, u, e, c⟩ := x
  have sub : Sub (er (p :: M) H) (er M H) := er_less H fun a m => List.mem_cons_of_mem _ m
  exact ⟨a, v0, s, v2, rfl, sub.sqT hs, h0.less fun a m => List.mem_cons_of_mem _ m, h1.less fun a m => List.mem_cons_of_mem _ m, h2.less fun a m => List.mem_cons_of_mem _ m, ob, u, sub _ _ e, c⟩
theorem mem_cutV {xs : List V} {lo hi : Option Int} {v : V} (h : v ∈ cutV xs lo hi) : v ∈ xs := List.mem_of_mem_drop (List.mem_of_mem_take h)
section
variable {K : PySem.W.Frag} {b l : Addr} {T : List (Addr × Str)} {H0 H H' : Hp} {σ : L2.St}
theorem Wk.mut {p : Addr} {o : HO} {xs : List V} (g : Bag b l H0) (w : Wk b l T H0 H) (hp : H0 p = none) (he : H p = some (.lst xs)) : Wk b l T H0 (upd H p o) := by
  have pb : p ≠ b := ne_new g.at hp
  have pl : p ≠ l := ne_new g.atl hp
  refine ⟨fun a u e n => ?_, w.bag.put pb pl, fun x hx => ?_⟩
  · have q := w.x a u e n
    have na : a ≠ p := fun z => by
      unfold er at e
      by_cases c : a ∈ [b]
      · rw [if_pos c] at e
        cases e
      · rw [if_neg c, z, hp] at e
        cases e
    unfold er at q ⊢
    by_cases c : a ∈ [b]
    · rw [if_pos c] at q
      cases q
    · rw [if_neg c] at q ⊢
      rw [upd_ne na]
      exact q
  · obtain ⟨ps, h1, h2, h3⟩ := w.tabs x hx
    refine ⟨ps, by rw [upd_ne (fun z => by rw [z, he] at h1; cases h1)]; exact h1, h2, fun pos cv hc => ?_⟩
    obtain ⟨c, e1, e2⟩ := h3 pos cv hc
    exact ⟨c, e1, by rw [upd_ne (fun z => by rw [z, he] at e2; cases e2)]; exact e2⟩
theorem pl_dps : ∀ {ps : List Addr} {ls : List Pl}, PlAt H H' ps ls → DpAll K H' (ps.map V.ref) (ls.map plD)
  | _, _, .nil => .nil
  | _, _, .cons h t => .cons (.tup (SqT.of h.2) (.cons (.int _) (.cons (.int _) (.cons (.int _) (.cons (.int _) .nil))))) (pl_dps t)
theorem pl_dms {M : List Addr} (kn : Kn M H) : ∀ {ps : List Addr} {ls : List Pl}, PlAt H H' ps ls → Dms K M H' (ps.map V.ref) (ls.map plD)
  | _, _, .nil => .nil
  | _, _, .cons h t => .cons (plD_at kn h.1 h.2) (pl_dms kn t)
end
theorem wordAt_in {n m : Nat} {j : Jud} {p : Pl} (ok : JudOk n m j) (hp : PlIn n m p) : wordAt j p ∈ Words := by
  obtain ⟨e1, e2, e3⟩ := judAt ok hp
  have t := ok.2 _ (List.mem_of_getElem? e1)
  have r := t.2 _ (List.mem_of_getElem? e2)
  have c := r.2 _ (List.mem_of_getElem? e3)
  unfold wordAt side
  split
  · exact c.1
  · exact c.2
theorem good_pl {n m : Nat} {p : Pl} (h : PlIn n m p) (hn : n < 10) (hm : m < 10) : Good (plD p) 100 1 := by
  obtain ⟨h1, h2, h3, h4⟩ := h
  refine Good.mono (good_tup (n := 20) (k := 0) fun d hd => ?_) (by show 4 * 22 + 4 ≤ 100; decide) (Nat.le_refl _)
  simp only [List.mem_cons, List.not_mem_nil, or_false] at hd
  rcases hd with hd | hd | hd | hd <;> rw [hd] <;> exact good_int (by omega) (by omega)
theorem good_pls {n m : Nat} (hn : n ≤ 5) (hm : m ≤ 3) : Good (.list ((plL n m).map plD)) 20000 2 := by
  refine Good.mono (good_lst (n := 100) (k := 1) fun d hd => ?_) ?_ (Nat.le_refl _)
  · obtain ⟨p, hp, rfl⟩ := List.mem_map.mp hd
    exact good_pl (mem_plL hp) (by omega) (by omega)
  · rw [List.length_map, len0]
    have := Nat.mul_le_mul hm (Nat.mul_le_mul hn (Nat.mul_le_mul hn (Nat.le_refl 2)))
    omega
theorem odd_a : ∀ x ∈ Names, PyData.strOk (x ++ ("a" : Str)) = true ∧ (reprText (x ++ ("a" : Str))).length ≤ 20 := by
  unfold Names
  decide +kernel
theorem odd_up : ∀ x ∈ Names, PyData.strOk (Txt.upper x) = true ∧ (reprText (Txt.upper x)).length ≤ 20 := by
  unfold Names
  decide +kernel
theorem op_of {r : R2} {ta tb : TE} {σ : L2.St} {H : Hp} {Q : VK} (h : ta σ H fun x H1 => tb σ H1 fun y H2 => r x y H2 Q) : tOp r ta tb σ H Q := h
theorem Kn.more' {M : List Addr} {H : Hp} {p : Addr} (n : Kn M H) (hp : H p = none) : Kn M H := n
theorem names_len : ∀ x ∈ Names, x.length ≤ 8 := by
  unfold Names
  decide +kernel
theorem odd_name {K : PySem.W.Frag} {M : List Addr} {H : Hp} {x : Str} (h : x ∈ Names) : OddV K M H (.str x) := .inl ⟨.str x, .str x, odd_one (good_str names_ok h)⟩
end KZ

namespace KZ
open PySem PySem.Spec PyProof.Rows L2 LamX
theorem bootList : bootBuiltins "list" = some (.type "list") := by decide +kernel
def spLaw (K : PySem.W.Frag) (P : Addr) : Sp := fun vs H Q _ => ∃ (a : Addr) (ns : List Int), vs = [.ref a] ∧ SqL K H a (ns.map V.int) ∧ ns.length ≤ 63 ∧ H P = some (.tbl #[]) ∧ ∀ H', Q (.bl true) H'
def rAddS : R2 := fun x y H Q => ∃ i j : Str, x = .str i ∧ y = .str j ∧ i.length + j.length ≤ sizeLine ∧ Q (.str (i ++ j)) H
def rUp : V → List V → Hp → VK → Prop := fun x xs H Q => ∃ a : Str, x = .str a ∧ xs = [] ∧ a.length ≤ 5592405 ∧ Q (.str (Txt.upper a)) H
section
variable {P : Program} {w : World} {K : PySem.W.Frag} {mg : Str → Option Value} {base : Heap}
abbrev sLaw : Stmt := topS 33
abbrev NL : List Str := ["script", "bag", "houses", "house", "said", "names", "name", "told", "k", "kind", "one"]
theorem scLaw : FnScope NL ["script"] (defScope sLaw) := ⟨rfl, rfl, rfl, by decide +kernel, rfl, by decide +kernel, by decide +kernel⟩
theorem ok_law {f P0 fB fH fN fO fI fA fPo fPl fWP fWa : Addr} {fd fdB fdH fdN fdO fdI fdA fdPo fdPl fdWP fdWa : FuncData} (F : Fun K "law" "law" sLaw f fd) (T : Txt mg)
    (CB : Cal P w K mg base "_law_bag" 1 ["script"] (spBag K) fB fdB) (CH : Cal P w K mg base "_law_house" 7 ["bag", "kinds"] (spHouse K) fH fdH) (CN : Cal P w K mg base "_law_named" 3 ["bag", "many"] (spNamedL K) fN fdN) (CO : Cal P w K mg base "_law_odd" 3 ["bag"] (spOdd K) fO fdO)
    (CI : CalG P w K mg base "_law_is_named" 6 ["house", "name"] (spIsN K P0) fI fdI) (CW : CalG P w K mg base "_law_alike" 1 ["found", "due"] (spAlikeW K) fA fdA) (CPo : Cal P w K mg base "places_of" 1 ["house"] (spPof K) fPo fdPo) (CPl : Cal P w K mg base "_law_places" 1 ["house"] (spPlaces K) fPl fdPl)
    (CWP : Cal P w K mg base "word_at" 1 ["house", "place"] (spPure K rWatP) fWP fdWP) (CWa : Cal P w K mg base "_law_word_at" 1 ["house", "place"] (spWat K) fWa fdWa) : FnG P w K mg base 8 f fd ["script"] (spLaw K P0) := by
  refine fun_okG F scLaw (fun vs H Q E h => ?_) (fun cdv A outer s H vs Q E gs hr h => ?_)
  · obtain ⟨a, ns, rfl, _⟩ := h
    rfl
  obtain ⟨a, ns, rfl, hS, hl, hP, k⟩ := h
  have hr1 : Room 1 _ := hr.mono (by decide)
  have hr3 : Room 3 _ := hr.mono (by decide)
  have hr6 : Room 6 _ := hr.mono (by decide)
  refine ⟨_, pss_cons (ps_set (i := 1) scLaw.nd rfl (Or.inr rfl) (pcl CB hr1 (pa_cons (pv 0) pa_nil)))
    (pss_cons (ps_setLc (i := 2) (own := [("k", 8)]) (g := gName 8) (tt := tYes) (te := tCall (spHouse K) [] E0 (tCons (tVar 1) (tCons (tC (.int 5)) tNil))) rfl scLaw.nd rfl rfl rfl (pi_range1 rfl T.range (pa_cons pe_int pa_nil)) (blkOk_by (N := NL) (sc := defScope sLaw) (by decide +kernel)) (fun _ _ _ _ _ => pg_name (i := 8) scLaw.nd rfl (Or.inl rfl)) (fun _ _ _ _ _ => pts_nil) (fun _ _ _ _ _ => pcl CH hr (pa_cons (pv 1) (pa_cons pe_int pa_nil))))
    (pss_cons (ps_for PassesOwn.never rfl (pi_list (pe_op op_cat (pv 2) (pe_slice sl_list (pv 2) po_none (po_some pe_int)))) (pg_name (i := 3) scLaw.nd rfl (Or.inr rfl))
      (pss_cons (ps_set (i := 4) scLaw.nd rfl (Or.inl rfl) (pe_callB (call_repr gs hr.units) (by rfl) T.repr PyProof.Rows.boot_repr (pa_cons (pv 3) pa_nil)))
      (pss_cons (ps_set (i := 5) scLaw.nd rfl (Or.inl rfl) (pe_op op_cat (pe_op op_cat (pe_op op_cat
          (pe_lc (own := [("kind", 9)]) (g := gName 9) (tt := tYes) (te := tOp (rIxT K) (tVar 9) (tC (.int 0))) rfl scLaw.nd (pi_tup (pe_ix ix_tup (pv 3) pe_int (fun _ _ => rfl))) (blkOk_by (N := NL) (sc := defScope sLaw) (by decide +kernel)) (fun _ _ _ _ _ => pg_name (i := 9) scLaw.nd rfl (Or.inl rfl)) (fun _ _ _ _ _ => pts_nil) (fun _ _ _ _ _ => pe_ix ix_tup (pv 9) pe_int (fun _ _ => rfl)))
          (pe_callTy call_list_of (by rfl) T.list bootList (pa_cons (pe_ix ix_tup (pv 3) pe_int (fun _ _ => rfl)) pa_nil))) (pcl CN hr3 (pa_cons (pv 1) (pa_cons pe_int pa_nil))))
          (pe_lc (own := [("k", 8)]) (g := gName 8) (tt := tYes) (te := tCall (spOdd K) [] E0 (tCons (tVar 1) tNil)) rfl scLaw.nd (pi_range1 rfl T.range (pa_cons pe_int pa_nil)) (blkOk_by (N := NL) (sc := defScope sLaw) (by decide +kernel)) (fun _ _ _ _ _ => pg_name (i := 8) scLaw.nd rfl (Or.inl rfl)) (fun _ _ _ _ _ => pts_nil) (fun _ _ _ _ _ => pcl CO hr3 (pa_cons (pv 1) pa_nil)))))
      (pss_cons (ps_for PassesOwn.never rfl (pi_list (pe_op op_cat (pv 5) (pe_lst (pa_cons (pe_op (show OpR _ (binaryOp .Add) rAddS from op_add_str) (pe_ix ix_list (pv 5) pe_int (fun _ _ => rfl)) pe_str) (pa_cons (show PE _ _ (tM0 rUp _) from pe_upper (pe_ix ix_list (pv 5) pe_int (fun _ _ => rfl))) (pa_cons (pe_lst (pa_cons (pe_ix ix_list (pv 5) pe_int (fun _ _ => rfl)) pa_nil)) (pa_cons (pe_tup (pa_cons (pe_ix ix_list (pv 5) pe_int (fun _ _ => rfl)) pa_nil)) (pa_cons pe_str pa_nil)))))))) (pg_name (i := 6) scLaw.nd rfl (Or.inl rfl))
        (pss_one (ps_if (pt_not (pt_val (pclG CI gs hr6 (pa_cons (pv 3) (pa_cons (pv 6) pa_nil))))) (pss_one (ps_ret pe_bl)) pss_nil)))
      (pss_cons (ps_set (i := 7) scLaw.nd rfl (Or.inl rfl) (pcl CPo hr1 (pa_cons (pv 3) pa_nil)))
      (pss_cons (ps_if (pt_not (pt_val (pclG CW gs hr1 (pa_cons (pv 7) (pa_cons (pcl CPl hr1 (pa_cons (pv 3) pa_nil)) pa_nil))))) (pss_one (ps_ret pe_bl)) pss_nil)
      (pss_cons (ps_expr (pe_bm0 PySem.F.plainAttrs_list PySem.F.slot_list_reverse PySem.F.type_list_reverse mt_reverse (pv 7)))
      (pss_cons (ps_expr (pe_bm PySem.F.plainAttrs_list PySem.F.slot_list_append PySem.F.type_list_append mt_append (pv 7) (pa_cons pe_non pa_nil)))
      (pss_cons (ps_if (pt_cmpR (op_neD hr.units) (pe_lc (own := [("one", 10)]) (g := gName 10) (tt := tNot (tB (tCall (spAlikeW K) [] E0 (tCons (tCall (spPure K rWatP) [] E0 (tCons (tVar 3) (tCons (tVar 10) tNil))) (tCons (tCall (spWat K) [] E0 (tCons (tVar 3) (tCons (tVar 10) tNil))) tNil))))) (te := tVar 10) rfl scLaw.nd (pi_list (pcl CPl hr1 (pa_cons (pv 3) pa_nil))) (blkOk_by (N := NL) (sc := defScope sLaw) (by decide +kernel)) (fun _ _ _ _ _ => pg_name (i := 10) scLaw.nd rfl (Or.inl rfl))
          (fun _ _ _ _ _ => pts_one (pt_not (pt_val (pclG CW gs hr1 (pa_cons (pcl CWP hr1 (pa_cons (pv 3) (pa_cons (pv 10) pa_nil))) (pa_cons (pcl CWa hr1 (pa_cons (pv 3) (pa_cons (pv 10) pa_nil))) pa_nil)))))) (fun _ _ _ _ _ => pv 10)) (pe_lst pa_nil) (nomark _)) (pss_one (ps_ret pe_bl)) pss_nil)
      (pss_one (ps_if (pt_cmpR op_ne (pe_callB (call_repr gs hr.units) (by rfl) T.repr PyProof.Rows.boot_repr (pa_cons (pv 3) pa_nil)) (pv 4) (nomark _)) (pss_one (ps_ret pe_bl)) pss_nil)))))))))))
    (pss_one (ps_ret pe_bl)))), ?_⟩
  refine sset_of ⟨_, rfl, a, ns, rfl, hS, hl, fun b l H1 s1 bag1 => ?_⟩
  have T1 : Tabs [(P0, lamQ)] H1 := fun p hp => by
    rw [List.mem_singleton.mp hp]
    exact TabS.nil (s1 _ _ hP)
  have mb : b ∈ [b] := List.mem_cons_self
  have cb1 := Bag.cb1 bag1
  refine sset_of (lcV_bag (K := K) (M := [b]) (b := b) (l := l) (σ := [some (.ref a), some (.ref b), none, none, none, none, none, none, none, none, none]) (vs := [8]) (j := 8) (m := 3) (fun M H v => ∃ h, HouF K M H v h ∧ HouOk h ∧ h.ks.length ≤ 5 ∧ h.ss.length ≤ 3) (fun ⟨h, x, r⟩ k => ⟨h, x.k k, r⟩) (fun ⟨h, x, r⟩ => ⟨h, x.less, r⟩) cb1 (evds_cons evd_int evds_nil) (by decide) (by decide) (by intro z; rfl) ?_ _ ?_)
  · intro Dl hDl i H2 f2 c2 hi Q2 q2
    exact ⟨_, rfl, Dl :: [b], b, l, 5, rfl, c2, by decide, by decide, fun y h H3 f3 ok hk hs hy => q2 y H3 f3 ⟨h, hy, ok, hk, hs⟩⟩
  intro ph xh H2 f2 hph0 hph hlen hall
  have bag2 := f2.bag
  have T2 : Tabs [(P0, lamQ)] H2 := fun p hp => by
    rw [List.mem_singleton.mp hp]
    have nP : P0 ≠ b := fun z => by
      obtain ⟨_, _, _, _, e, _⟩ := bag1
      have := s1 _ _ hP
      rw [z, e] at this
      cases this
    exact TabS.nil (f2.k P0 _ (by simp [nP]) (s1 _ _ hP))
  have nph : ph ≠ b := ne_new bag1.at hph0
  refine sfor ⟨_, rfl, _, rfl, 1, rfl, _, xh, rfl, SqL.of hph, fun p2 hp2 => ⟨ph, p2, xh, cutV xh none (some 1), rfl, rfl, Sub.new hp2 _ _ hph, upd_same, Nat.le_of_lt (szl (by have := cutV_length xh none (some 1); rw [hlen] at this ⊢; show _ < _; have e3 : (3 : Int).toNat = 3 := rfl; omega)), fun r hr => ?_⟩⟩
  have s24 : Sub H2 (upd (upd H2 p2 (.lst (cutV xh none (some 1)))) r (.lst (xh ++ cutV xh none (some 1)))) := (Sub.new hp2).trans (Sub.new hr)
  have e4 : upd (upd H2 p2 (.lst (cutV xh none (some 1)))) r (.lst (xh ++ cutV xh none (some 1))) r = some (.lst (xh ++ cutV xh none (some 1))) := upd_same
  have nr : r ≠ b := ne_new (bag2.kp (Sub.new hp2)).at hr
  have all4 : ∀ v ∈ xh ++ cutV xh none (some 1), ∃ h, HouF K [b] (upd (upd H2 p2 (.lst (cutV xh none (some 1)))) r (.lst (xh ++ cutV xh none (some 1)))) v h ∧ HouOk h ∧ h.ks.length ≤ 5 ∧ h.ss.length ≤ 3 := fun v hv => by
    have m : v ∈ xh := by
      rcases List.mem_append.mp hv with z | z
      · exact z
      · exact mem_cutV z
    obtain ⟨h, x, r'⟩ := hall v m
    exact ⟨h, x.k fun a o _ e => s24 a o e, r'⟩
  generalize upd (upd H2 p2 (.lst (cutV xh none (some 1)))) r (.lst (xh ++ cutV xh none (some 1))) = H4 at s24 e4 all4 ⊢
  generalize xh ++ cutV xh none (some 1) = xl at e4 all4
  have bag4 := bag2.kp s24
  have T4 : Tabs [(P0, lamQ)] H4 := T2.ext s24
  refine ⟨r, rfl, ⟨_, SqL.of e4⟩, for_list (K := K) (a := r) (xs := xl) (fun i' σ H' => ∃ (u3 u4 u5 u6 u7 u8 u9 u10 : Option V), σ = [some (.ref a), some (.ref b), some (.ref ph), u3, u4, u5, u6, u7, u8, u9, u10] ∧ Wk b l [(P0, lamQ)] H4 H')
    ⟨none, none, none, none, none, none, none, none, rfl, Wk.refl bag4 T4⟩ (fun i' σ H' _ ⟨_, _, _, _, _, _, _, _, _, w'⟩ => SqL.of (wk_at w' e4 nr (fun _ z => nomatch z))) ?_ ?_⟩
  · rintro i5 v σ H5 hv ⟨u3, u4, u5, u6, u7, u8, u9, u10, rfl, w5⟩
    obtain ⟨h, hF4, ok, k5, s3'⟩ := all4 v (List.mem_of_getElem? hv)
    have hF5 := hF4.w w5
    have bag5 := w5.bag
    have T5 := w5.tabs
    have cb5 := Bag.cb1 bag5
    have k0 := ok.k0
    have hgood : Good (houD h) 200000 5 := good_hou (fun k hk => by
      obtain ⟨i, hi⟩ := List.getElem?_of_mem hk
      have rr := ok.ks.rise i k hi
      have := ok.k1
      exact ⟨ok.ks.name k hk, by omega, by omega⟩) ok.k1 ok.sn ok.s1 (by omega) (by omega) ok.j
    refine gname_of (sset_of (cb_args ⟨_, rfl, v, [.tuple (h.ks.map kdD), .tuple (h.ss.map PyData.str), judD h.j], 200000, 5, rfl, hF5.dm.all, hgood, by decide, by decide, ?_⟩))
--TAIL
    have es0 {H' : Hp} {x4 x5 x6 x7 x8 x9 x10 : Option V} (x : HouF K [b] H' v h) : EvD K [b] (tVar 3) ([some (.ref a), some (.ref b), some (.ref ph), some v, x4, x5, x6, x7, x8, x9, x10] : L2.St) H' (.tuple [.tuple (h.ks.map kdD), .tuple (h.ss.map PyData.str), judD h.j]) := evd_var rfl x.dm
    have ec := evd_lcT (K := K) (M := [b]) (H := H5) (σ := [some (.ref a), some (.ref b), some (.ref ph), some v, some (.str (PyData.shown (houD h))), u5, u6, u7, u8, u9, u10]) (te := tOp (rIxT K) (tVar 3) (tC (.int 0))) (tb := tOp (rIxT K) (tVar 9) (tC (.int 0))) (vs := [9]) (j := 9) (ds := h.ks.map kdD) fstD cb5.kn (evd_ixT (es0 hF5) (evd_int (i := 0)) (by decide) rfl) (by rw [List.length_map]; omega) (by intro z; rfl) (by
      intro Dl hDl d x H6 s6 n6 hd hx
      obtain ⟨k1, hk1, rfl⟩ := List.mem_map.mp hd
      exact evd_ixT (ds := [.str k1.1, .bool k1.2.1, .int k1.2.2]) (evd_var rfl hx) (evd_int (i := 0)) (by decide) rfl)
    rw [fst_map] at ec
    refine sset_of (op_of (op_of (op_of (ec H5 (Sub.refl _) _ fun p1 x1 H6 s6 hp1 hp16 hx1 => ?_))))
    cases strs_dps (l := kdN h) hx1
    have kl : (kdN h).length = h.ks.length := List.length_map _
    have es1 : EvD K [b] (tOp (rIxT K) (tVar 3) (tC (.int 1))) ([some (.ref a), some (.ref b), some (.ref ph), some v, some (.str (PyData.shown (houD h))), u5, u6, u7, u8, u9, u10] : L2.St) H6 (.tuple (h.ss.map PyData.str)) := evd_ixT (es0 (hF5.k fun a o _ e => s6 a o e)) (evd_int (i := 1)) (by decide) rfl
    refine cb_args (es1 H6 (Sub.refl _) _ fun vs H7 s7 hvs => ?_)
    obtain ⟨as, xs, rfl, hsq, hxs⟩ := hvs.tupAt
    cases strs_dps hxs
    have small' : ∀ {n : Nat}, n < 1000 → n < sizeLine := fun {n} h => Nat.lt_of_lt_of_le h (by decide)
    have small : ∀ {n : Nat}, n < 1000 → n ≤ sizeLine := fun {n} h => Nat.le_trans (Nat.le_of_lt h) (by decide)
    refine ⟨as, _, rfl, .inr hsq, fun l2 hl2 => ⟨p1, l2, _, _, rfl, rfl, Sub.new hl2 _ _ (s7 _ _ hp16), upd_same, small (by simp only [List.length_append, List.length_map]; omega), fun r1 hr1 => ?_⟩⟩
    have s58 : Sub H5 (upd (upd H7 l2 (.lst (h.ss.map V.str))) r1 (.lst ((kdN h).map V.str ++ h.ss.map V.str))) := ((s6.trans s7).trans (Sub.new hl2)).trans (Sub.new hr1)
    have e8 : upd (upd H7 l2 (.lst (h.ss.map V.str))) r1 (.lst ((kdN h).map V.str ++ h.ss.map V.str)) r1 = some (.lst ((kdN h).map V.str ++ h.ss.map V.str)) := upd_same
    have nr1 : r1 ≠ b := ne_new (((bag5.kp s6).kp s7).kp (Sub.new hl2)).at hr1
    generalize upd (upd H7 l2 (.lst (h.ss.map V.str))) r1 (.lst ((kdN h).map V.str ++ h.ss.map V.str)) = H8 at s58 e8 ⊢
    have f8 : Fr b l H5 H8 := Fr.sub bag5 s58
    have cb8 := cb5.fr f8
    refine ⟨_, rfl, [b], b, l, 3, rfl, cb8, by decide, by decide, fun pn nn H9 f9 ln hin hpn => ?_⟩
    have ln3 : nn.length = 3 := ln
    refine ⟨r1, pn, _, _, rfl, rfl, f9.k r1 _ (by simp [nr1]) e8, hpn, small (by simp only [List.length_append, List.length_map]; omega), fun r2 hr2 => ?_⟩
    have f10 : Fr b l H5 (upd H9 r2 (.lst ((kdN h).map V.str ++ h.ss.map V.str ++ nn.map V.str))) := (f8.trans f9).trans (Fr.new f9.bag hr2)
    have e10 : upd H9 r2 (.lst ((kdN h).map V.str ++ h.ss.map V.str ++ nn.map V.str)) r2 = some (.lst ((kdN h).map V.str ++ h.ss.map V.str ++ nn.map V.str)) := upd_same
    have nr2 : r2 ≠ b := ne_new f9.bag.at hr2
    generalize upd H9 r2 (.lst ((kdN h).map V.str ++ h.ss.map V.str ++ nn.map V.str)) = H10 at f10 e10 ⊢
    have cb10 := cb5.fr f10
    refine lcV_bag (K := K) (M := [b]) (b := b) (l := l) (σ := [some (.ref a), some (.ref b), some (.ref ph), some v, some (.str (PyData.shown (houD h))), u5, u6, u7, u8, u9, u10]) (vs := [8]) (j := 8) (m := 3) (fun M H v => OddV K M H v) (fun x k => x.k k) (fun x => x.less) cb10 (evds_cons evd_int evds_nil) (by decide) (by decide) (by intro z; rfl) ?_ _ ?_
    · intro Dl hDl i H f c hi Q2 q2
      exact ⟨_, rfl, Dl :: [b], b, l, rfl, c, fun y H3 f3 hy => q2 y H3 f3 hy⟩
    intro po xo H11 f11 hpo0 hpo hlo hallo
    have lo3 : xo.length = 3 := hlo
    refine ⟨r2, po, _, _, rfl, rfl, f11.k r2 _ (by simp [nr2]) e10, hpo, small (by simp only [List.length_append, List.length_map]; omega), fun r3 hr3 => ?_⟩
    have f12 : Fr b l H5 (upd H11 r3 (.lst ((kdN h).map V.str ++ h.ss.map V.str ++ nn.map V.str ++ xo))) := (f10.trans f11).trans (Fr.new f11.bag hr3)
    have e12 : upd H11 r3 (.lst ((kdN h).map V.str ++ h.ss.map V.str ++ nn.map V.str ++ xo)) r3 = some (.lst ((kdN h).map V.str ++ h.ss.map V.str ++ nn.map V.str ++ xo)) := upd_same
    have nr3 : r3 ≠ b := ne_new f11.bag.at hr3
    have all12 : ∀ y ∈ (kdN h).map V.str ++ h.ss.map V.str ++ nn.map V.str ++ xo, OddV K [b] (upd H11 r3 (.lst ((kdN h).map V.str ++ h.ss.map V.str ++ nn.map V.str ++ xo))) y := fun y hy => by
      rcases List.mem_append.mp hy with hy | hy
      · rcases List.mem_append.mp hy with hy | hy
        · rcases List.mem_append.mp hy with hy | hy
          · obtain ⟨x, hx, rfl⟩ := List.mem_map.mp hy
            obtain ⟨k1, hk1, rfl⟩ := List.mem_map.mp hx
            exact odd_name (ok.ks.name k1 hk1)
          · obtain ⟨x, hx, rfl⟩ := List.mem_map.mp hy
            exact odd_name (ok.sn x hx)
        · obtain ⟨x, hx, rfl⟩ := List.mem_map.mp hy
          exact odd_name (hin x hx)
      · exact (hallo y hy).s (Sub.new hr3)
    have few12 : ((kdN h).map V.str ++ h.ss.map V.str ++ nn.map V.str ++ xo).length < 50 := by
      simp only [List.length_append, List.length_map]
      omega
    obtain ⟨x0, X', eX, hx0⟩ : ∃ x0 X', (kdN h).map V.str ++ h.ss.map V.str ++ nn.map V.str ++ xo = V.str x0 :: X' ∧ x0 ∈ Names := by
      cases hk : h.ks with
      | nil =>
        rw [hk] at k0
        exact absurd k0 (Nat.lt_irrefl 0)
      | cons k1 r =>
        exact ⟨k1.1, _, by unfold kdN; rw [hk]; rfl, ok.ks.name k1 (by rw [hk]; exact List.mem_cons_self)⟩
    generalize upd H11 r3 (.lst ((kdN h).map V.str ++ h.ss.map V.str ++ nn.map V.str ++ xo)) = H12 at f12 e12 all12 ⊢
    generalize (kdN h).map V.str ++ h.ss.map V.str ++ nn.map V.str ++ xo = X at e12 all12 few12 eX
    subst eX
    have w12 : Wk b l [(P0, lamQ)] H4 H12 := w5.trans (Wk.fr bag5 T5 f12)
    have bag12 := w12.bag
    have kn12 := (Bag.cb1 bag12).kn
    have e0 : EvD K [b] (tOp (rIxL K) (tVar 5) (tC (.int 0))) ([some (.ref a), some (.ref b), some (.ref ph), some v, some (.str (PyData.shown (houD h))), some (.ref r3), u6, u7, u8, u9, u10] : L2.St) H12 (.str x0) := fun H1 s Q q => ⟨_, rfl, r3, _, 0, .str x0, rfl, rfl, SqL.of (s _ _ e12), atI_nat (j := 0) rfl, q _ H1 (Sub.refl _) (.str _)⟩
    have lx0 : x0.length ≤ 8 := names_len x0 hx0
    have ev : EvOds K [b] (tCons (tOp rAddS (tOp (rIxL K) (tVar 5) (tC (.int 0))) (tC (.str "a"))) (tCons (tM0 rUp (tOp (rIxL K) (tVar 5) (tC (.int 0)))) (tCons (tLst (tCons (tOp (rIxL K) (tVar 5) (tC (.int 0))) tNil)) (tCons (tTup (tCons (tOp (rIxL K) (tVar 5) (tC (.int 0))) tNil)) (tCons (tC (.str "")) tNil))))) ([some (.ref a), some (.ref b), some (.ref ph), some v, some (.str (PyData.shown (houD h))), some (.ref r3), u6, u7, u8, u9, u10] : L2.St) H12 5 :=
      evo_cons (evo_dat (d := .str (x0 ++ ("a" : Str))) (fun H1 s Q q => e0 H1 s _ fun y H2 s2 hy => by
        cases hy.strAt
        exact ⟨x0, "a", rfl, rfl, Nat.le_trans (show x0.length + 1 ≤ 9 by omega) (by decide), q _ H2 s2 (.str _)⟩) (odd_one (good_str (l := [x0 ++ ("a" : Str)]) (fun x hx => by rw [List.mem_singleton.mp hx]; exact odd_a x0 hx0) (by simp))))
      (evo_cons (evo_dat (d := .str (Txt.upper x0)) (fun H1 s Q q => e0 H1 s _ fun y H2 s2 hy => by
        cases hy.strAt
        exact ⟨⟨x0, rfl⟩, x0, rfl, rfl, Nat.le_trans lx0 (by decide), q _ H2 s2 (.str _)⟩) (odd_one (good_str (l := [Txt.upper x0]) (fun x hx => by rw [List.mem_singleton.mp hx]; exact odd_up x0 hx0) (by simp))))
      (evo_cons (evo_dat (evd_lst kn12 (evds_cons e0 evds_nil) lt1) (odd_lst (one_of (good_str names_ok hx0)) (by show 1 ≤ 3; decide)))
      (evo_cons (evo_dat (evd_tup kn12 (evds_cons e0 evds_nil) lt1) (odd_tup (one_of (good_str names_ok hx0)) (by show 1 ≤ 3; decide)))
      (evo_cons (evo_dat evd_str (odd_one (good_str oddS_ok (x := "") (by simp)))) evo_nil))))
    refine sfor ⟨_, rfl, lst_of (ev H12 (Sub.refl _) _ fun ws H13 s13 lw hw => ⟨small (by omega), fun p13 hp13 => ⟨r3, p13, _, ws, rfl, rfl, Sub.new hp13 _ _ (s13 _ _ e12), upd_same, small (by omega), fun r4 hr4 => ?_⟩⟩)⟩
    have s14 : Sub H12 (upd (upd H13 p13 (.lst ws)) r4 (.lst (V.str x0 :: X' ++ ws))) := (s13.trans (Sub.new hp13)).trans (Sub.new hr4)
    have e14 : upd (upd H13 p13 (.lst ws)) r4 (.lst (V.str x0 :: X' ++ ws)) r4 = some (.lst (V.str x0 :: X' ++ ws)) := upd_same
    have nr4 : r4 ≠ b := ne_new ((bag12.kp s13).kp (Sub.new hp13)).at hr4
    have all14 : ∀ y ∈ V.str x0 :: X' ++ ws, OddV K [b] (upd (upd H13 p13 (.lst ws)) r4 (.lst (V.str x0 :: X' ++ ws))) y := fun y hy => by
      rcases List.mem_append.mp hy with z | z
      · exact (all12 y z).s s14
      · exact (hw y z).s ((Sub.new hp13).trans (Sub.new hr4))
    generalize upd (upd H13 p13 (.lst ws)) r4 (.lst (V.str x0 :: X' ++ ws)) = H14 at s14 e14 all14 ⊢
    generalize V.str x0 :: X' ++ ws = Y at e14 all14
    have w14 : Wk b l [(P0, lamQ)] H4 H14 := w12.trans (Wk.sub w12.bag w12.tabs s14)
    refine ⟨r4, rfl, ⟨_, SqL.of e14⟩, for_list (K := K) (a := r4) (xs := Y) (fun i' σ H' => ∃ (u6 : Option V), σ = [some (.ref a), some (.ref b), some (.ref ph), some v, some (.str (PyData.shown (houD h))), some (.ref r3), u6, u7, u8, u9, u10] ∧ Wk b l [(P0, lamQ)] H14 H')
      ⟨u6, rfl, Wk.refl w14.bag w14.tabs⟩ (fun i' σ H' _ ⟨_, _, w'⟩ => SqL.of (wk_at w' e14 nr4 (fun _ z => nomatch z))) ?_ ?_⟩
    · rintro i6 y σ H15 hy ⟨u6, rfl, w15⟩
      have w415 := w14.trans w15
      refine gname_of ⟨v, rfl, y, rfl, b, l, v, y, h, rfl, w15.bag, w15.tabs, hF4.w w415, ok, (all14 y (List.mem_of_getElem? hy)).w w15, fun H16 w16 => ⟨true, rfl, ?_⟩⟩
      show if (!true) = true then _ else _
      rw [if_neg (show ¬ (!true) = true by decide)]
      exact ⟨_, rfl, w15.trans w16⟩
    · rintro σ H15 ⟨u6, rfl, w15⟩
      dsimp only
      have w415 := w14.trans w15
      have hF15 := hF4.w w415
      have kn15 := (Bag.cb1 w15.bag).kn
      have n1 : (h.ks.map kdD).length = h.ks.length := List.length_map _
      have n2 : (h.ss.map PyData.str).length = h.ss.length := List.length_map _
      refine sset_of ⟨v, rfl, [b], v, h.ks.map kdD, h.ss.map PyData.str, judD h.j, rfl, kn15, hF15.dm, by omega, by omega, fun D acc H16 s16 hD hD1 hds => ?_⟩
      rw [n1, n2] at hds
      have w16 : Wk b l [(P0, lamQ)] H15 H16 := Wk.sub w15.bag w15.tabs s16
      have kn16 := (Bag.cb1 w16.bag).kn
      have nD : D ≠ b := ne_new w15.bag.at hD
      have hF16 := hF15.w w16
      have pls : ∀ {H' : Hp} {x4 x5 x6 x7 x8 x9 x10 : Option V}, HouF K [b] H' v h → Kn [b] H' → EvD K [b] (tCall (spPlaces K) [] E0 (tCons (tVar 3) tNil)) ([some (.ref a), some (.ref b), some (.ref ph), some v, x4, x5, x6, x7, x8, x9, x10] : L2.St) H' (.list ((plL h.ks.length h.ss.length).map plD)) := fun {H' x4 x5 x6 x7 x8 x9 x10} hF kn H1 s Q q => by
        have hF1 := hF.k fun a o _ e => s a o e
        refine ⟨v, rfl, [b], v, h.ks.map kdD, h.ss.map PyData.str, judD h.j, rfl, kn.sub s, hF1.dm, by omega, by omega, fun p ps H2 s2 hp hp2 pa => ?_⟩
        rw [n1, n2] at pa
        exact q _ H2 s2 (.lst (SqL.of (by rw [er_in ((kn.sub s).out hp)]; exact hp2)) (pl_dms (kn.sub s) pa))
      refine sifs ⟨_, rfl, cons_of (pls hF16 kn16 H16 (Sub.refl _) _ fun y2 H17 s17 hy2 => nil_of (.inl ?_))⟩
      have hdD : Dm K [b] H16 (.ref D) (.list ((plL h.ks.length h.ss.length).map plD)) := Dm.lstOf (kn15.out hD) hD1 hds
      obtain ⟨c2, xs2, rfl, _, _⟩ := hy2.lstAt
      refine ⟨.ref D, .ref c2, .list ((plL h.ks.length h.ss.length).map plD), 20000, 2, rfl, (Dm.s hdD s17).all, hy2.all, ⟨_, rfl⟩, ⟨_, rfl⟩, good_pls k5 s3', by decide, by decide, ⟨true, rfl, ?_⟩⟩
      show if (!true) = true then _ else _
      rw [if_neg (show ¬ (!true) = true by decide)]
      unfold tNext
      dsimp only
      have w17 : Wk b l [(P0, lamQ)] H15 H17 := w16.trans (Wk.sub w16.bag w16.tabs s17)
      have e17 := s17 _ _ hD1
      have acl : acc.length < 1000 := by
        have q1 := hds.len
        rw [List.length_map, len0] at q1
        have := Nat.mul_le_mul (show h.ss.length ≤ 3 from s3') (Nat.mul_le_mul (show h.ks.length ≤ 5 from k5) (Nat.mul_le_mul (show h.ks.length ≤ 5 from k5) (Nat.le_refl 2)))
        omega
      refine ⟨_, rfl, .inl ⟨rfl, _, SqL.of e17⟩, D, acc, rfl, rfl, e17, ?_⟩
      have w18 : Wk b l [(P0, lamQ)] H15 (upd H17 D (.lst acc.reverse)) := w17.mut w15.bag hD e17
      have e18 : upd H17 D (.lst acc.reverse) D = some (.lst acc.reverse) := upd_same
      generalize upd H17 D (.lst acc.reverse) = H18 at w18 e18 ⊢
      refine ⟨_, rfl, .inl ⟨rfl, _, SqL.of e18⟩, D, acc.reverse, .non, rfl, rfl, e18, small' (by rw [List.length_reverse]; omega), ?_⟩
      have w19 : Wk b l [(P0, lamQ)] H15 (upd H18 D (.lst (acc.reverse ++ [.non]))) := w18.mut w15.bag hD e18
      generalize upd H18 D (.lst (acc.reverse ++ [V.non])) = H19 at w19 ⊢
      have hF19 := hF15.w w19
      have kn19 := (Bag.cb1 w19.bag).kn
      have few : ((plL h.ks.length h.ss.length).map plD).length < 100000 := by
        rw [List.length_map, len0]
        have := Nat.mul_le_mul (show h.ss.length ≤ 3 from s3') (Nat.mul_le_mul (show h.ks.length ≤ 5 from k5) (Nat.mul_le_mul (show h.ks.length ≤ 5 from k5) (Nat.le_refl 2)))
        omega
      have ecl : EvNL K [b] _ ([some (.ref a), some (.ref b), some (.ref ph), some v, some (.str (PyData.shown (houD h))), some (.ref r3), u6, some (.ref D), u8, u9, u10] : L2.St) H19 _ :=
        evd_lcF (K := K) (M := [b]) (te := tCall (spPlaces K) [] E0 (tCons (tVar 3) tNil)) (tb := tVar 10) (tt := tNot (tB (tCall (spAlikeW K) [] E0 (tCons (tCall (spPure K rWatP) [] E0 (tCons (tVar 3) (tCons (tVar 10) tNil))) (tCons (tCall (spWat K) [] E0 (tCons (tVar 3) (tCons (tVar 10) tNil))) tNil))))) (vs := [10]) (j := 10) (fun _ => false) (fun d => d) kn19 (pls hF19 kn19) few (by intro z; rfl)
          (by
            intro Dl hDl d x H20 s20 n20 hd hx H21 s21 Q2 q2
            obtain ⟨p, hp, rfl⟩ := List.mem_map.mp hd
            have inp := mem_plL hp
            have s2021 := s20.trans s21
            have hh : Dm K (Dl :: [b]) H21 v (.tuple [.tuple (h.ks.map kdD), .tuple (h.ss.map PyData.str), judD h.j]) := Dm.s (Dm.more hF19.dm hDl) s2021
            have e3 : EvD K (Dl :: [b]) (tVar 3) ([some (.ref a), some (.ref b), some (.ref ph), some v, some (.str (PyData.shown (houD h))), some (.ref r3), u6, some (.ref D), u8, u9, some x] : L2.St) H21 (.tuple [.tuple (h.ks.map kdD), .tuple (h.ss.map PyData.str), judD h.j]) := evd_var rfl hh
            have e10 : EvD K (Dl :: [b]) (tVar 10) ([some (.ref a), some (.ref b), some (.ref ph), some v, some (.str (PyData.shown (houD h))), some (.ref r3), u6, some (.ref D), u8, u9, some x] : L2.St) H21 (plD p) := evd_var rfl (Dm.s hx s21)
            refine evd_pure (rel := rWatP) (E := E0) (n20.sub s21) (evds_cons e3 (evds_cons e10 evds_nil)) ⟨_, _, h.j, _, _, p, rfl, ok.j, inp, rfl⟩ H21 (Sub.refl _) _ fun y H22 s22 hy => ?_
            cases hy.strAt
            refine ⟨v, rfl, x, rfl, Dl :: [b], _, _, h.j, _, _, p, v, x, rfl, (n20.sub s21).sub s22, Dm.s hh s22, Dm.s (Dm.s hx s21) s22, ok.j, inp, fun H23 s23 => .inr ⟨wordAt h.j p, rfl, (words_ok _ (wordAt_in ok.j inp)).2, true, rfl, ?_⟩⟩
            exact q2 H23 (s22.trans s23))
          (by
            intro Dl hDl d x H20 s20 n20 hd ht hx
            exact evd_var (i := 10) rfl hx)
      have nil : List.map (fun d : PyData => d) (List.filter (fun _ : PyData => false) ((plL h.ks.length h.ss.length).map plD)) = [] := by simp
      rw [nil] at ecl
      dsimp only
      refine sifs ?_
      refine evb_test (evd_neNil (EvNL.toD kn19 ecl) (evd_lst kn19 evds_nil (by show 0 < 1000000; decide)) (good_lst (n := 0) (k := 0) (by simp)) (by decide)) H19 (Sub.refl _) _ fun H20 s20 => ?_
      show if (!true) = true then _ else _
      rw [if_neg (show ¬ (!true) = true by decide)]
      dsimp only
      have w20 : Wk b l [(P0, lamQ)] H15 H20 := w19.trans (Wk.sub w19.bag w19.tabs s20)
      refine ⟨_, rfl, v, [.tuple (h.ks.map kdD), .tuple (h.ss.map PyData.str), judD h.j], 200000, 5, rfl, (hF15.w w20).dm.all, hgood, by decide, by decide, _, rfl, rfl, _, rfl, ite2 (fun e => ?_) (fun e => ?_)⟩
      · exact absurd e (by
          rw [decide_eq_true (by rfl)]
          decide)
      · exact ⟨_, _, _, _, _, _, _, _, rfl, w415.trans w20⟩
--LIAT
  · rintro σ H5 ⟨u3, u4, u5, u6, u7, u8, u9, u10, rfl, w5⟩
    exact k H5
end
end KZ

namespace KZ
open PySem PySem.Spec PyProof.Rows L2 LamX
/-! the law, called from outside: no repr is under way there, and one table of code objects is empty -/
theorem tell_script {P : Program} {w : World} {K : PySem.W.Frag} {t : Shared} {a : Addr} {us : List Value} {ns : List Int} (kin : K.In t.heap) (here : t.heap.get? a = some { cls := .type "list", data := .seq us.toArray })
    (iu : IntsAre us ns) (lu : ns.length ≤ sizeLine) : ∃ H : Hp, (∀ b u, H b = some u → b = a ∧ K.lookup b = none ∧ ∃ o, u = .frz o (.lst (ns.map V.int))) ∧ SqL K H a (ns.map V.int) ∧ ∀ G : Hp, (∀ b u, H b = some u → ObjOk P w G t.heap b u) := by
  have ru := vals_ints iu
  have len := iu.length
  cases e : K.lookup a with
  | some o =>
    have g := kin a o e
    rw [here] at g
    cases g
    exact ⟨fun _ => none, fun _ _ z => (nomatch z), .inr ⟨_, us.toArray, _, e, rfl, rfl, rfl, by rw [List.size_toArray, len]; exact lu, ru⟩, fun _ _ _ z => (nomatch z)⟩
  | none =>
    refine ⟨fun b => if b = a then some (.frz { cls := .type "list", data := .seq us.toArray } (.lst (ns.map V.int))) else none, fun b u z => ?_, .inl (.inr ⟨_, if_pos rfl⟩), fun G b u z => ?_⟩
    · by_cases y : b = a
      · dsimp only at z
        rw [if_pos y] at z
        exact ⟨y, by rw [y]; exact e, _, (Option.some.inj z).symm⟩
      · dsimp only at z
        rw [if_neg y] at z
        cases z
    · by_cases y : b = a
      · dsimp only at z
        rw [if_pos y] at z
        cases Option.some.inj z
        rw [y]
        exact ⟨here, by rw [List.length_map]; exact lu, us, _, ru, here⟩
      · dsimp only at z
        rw [if_neg y] at z
        cases z
theorem lawT {P : Program} {w : World} {K : PySem.W.Frag} {mg mb : Str → Option Value} {k : Nat} {fa a c p : Addr} {fd : FuncData} {sp : Sp} {t : Shared} {us : List Value} {ns : List Int}
    (kin : K.In t.heap) (nm : t.heap.Ns mainGlobals mg) (nb : t.heap.Ns builtinsNs mb) (eb : ∀ x : Str, x ≠ "__name__" → mb x = bootBuiltins x) (nl : t.heap.NoLimit) (ng : t.gens = #[])
    (tab : t.heap.get? p = some { cls := .none, data := .fields #[] }) (ntab : K.lookup p = none) (code : PySem.W.CodeHd t.heap c p)
    (mod : ∃ (bm : Addr) (ob : Obj), mg "__builtins__" = some (.ref bm) ∧ bm ≠ builtinsNs ∧ t.heap.get? bm = some ob ∧ ob.cls = .type "module" ∧ ob.dict = some builtinsNs ∧ ob.data = .plain)
    (here : t.heap.get? a = some { cls := .type "list", data := .seq us.toArray }) (iu : IntsAre us ns) (lu : ns.length ≤ sizeLine) (room : Room k callerA)
    (F : ∀ base : Heap, K.In base → base.Ns mainGlobals mg → TabB base mg c p → FnG P w K mg base k fa fd ["script"] sp) (bind : ∀ (s : Shared) (u : Value), BindsTo s fd ⟨[u], []⟩ [("script", u)])
    (prom : ∀ H : Hp, H p = some (.tbl #[]) → SqL K H a (ns.map V.int) → sp [.ref a] H (fun v _ => v = .bl true) fun _ _ _ => False) :
    codeAny (model P w) callerA (.call (.ref fa) ⟨[.ref a], []⟩) (fun r s' => r = .ok (.ret (.bool true)) ∧ OldK t.heap s'.heap ∧ s'.os = t.os ∧ AllBare s'.gens) t := by
  obtain ⟨H0, only0, seq0, good0⟩ := tell_script (P := P) (w := w) kin here iu lu
  have pa : p ≠ a := fun z => by
    rw [z, here] at tab
    cases (show Data.seq us.toArray _ = Data.fields #[] from congrArg Obj.data (Option.some.inj tab))
  have h0p : H0 p = none := by
    cases e : H0 p with
    | none => rfl
    | some u => exact absurd (only0 p u e).1 pa
  obtain ⟨H, hH⟩ : ∃ H : Hp, H = upd H0 p (.tbl #[]) := ⟨_, rfl⟩
  have hp : H p = some (.tbl #[]) := by
    rw [hH]
    exact upd_same
  have only : ∀ b u, H b = some u → (b = p ∧ u = .tbl #[]) ∨ (b = a ∧ K.lookup b = none ∧ ∃ o, u = .frz o (.lst (ns.map V.int))) := fun b u e => by
    by_cases z : b = p
    · rw [z, hp] at e
      exact .inl ⟨z, (Option.some.inj e).symm⟩
    · rw [hH, upd_ne z] at e
      exact .inr (only0 b u e)
  have seq : SqL K H a (ns.map V.int) := Sub.sqL (fun b o e => by
    rw [hH, upd_ne (ne_of_none e h0p)]
    exact e) seq0
  have good : HOk P w H t.heap := fun b u e => by
    by_cases z : b = p
    · rw [z, hp] at e
      cases Option.some.inj e
      rw [z]
      exact tab
    · rw [hH, upd_ne z] at e
      rw [hH]
      exact good0 _ b u e
  have free : ∀ {b : Addr} {o : Obj}, t.heap.get? b = some o → (∀ u, H b = some u → False) → (hidT t.heap H).get? b = some o := fun {b o} g no => hidT_get g (by
    cases y : H b with
    | none => rfl
    | some u => exact (no u y).elim)
  have other : ∀ {b : Addr} {o : Obj}, t.heap.get? b = some o → o.cls ≠ .none ∨ (∀ fs, o.data ≠ .fields fs) → o.cls ≠ .type "list" ∨ (∀ xs m, o.data ≠ .seq xs m) → ∀ u, H b = some u → False := fun {b o} g n1 n2 u y => by
    rcases only b u y with ⟨z, _⟩ | ⟨z, _⟩
    · rw [z, tab] at g
      cases Option.some.inj g
      rcases n1 with n1 | n1
      · exact n1 rfl
      · exact n1 _ rfl
    · rw [z, here] at g
      cases Option.some.inj g
      rcases n2 with n2 | n2
      · exact n2 rfl
      · exact n2 _ _ rfl
  have kin' : K.In (hidT t.heap H) := fun b o g => free (kin b o g) fun u y => by
    rcases only b u y with ⟨z, _⟩ | ⟨_, h2, _⟩
    · rw [z, ntab] at g
      cases g
    · rw [g] at h2
      cases h2
  have space : ∀ {b : Addr} {m : Str → Option Value}, t.heap.Ns b m → (hidT t.heap H).Ns b m := fun {b m} ⟨o, es, ep, g, d, r⟩ => ⟨o, es, ep, free g (other g (.inr fun fs z => by
    rw [d] at z
    cases z) (.inr fun xs m z => by
    rw [d] at z
    cases z)), d, r⟩
  have pg : mainGlobals ≠ p := fun z => by
    obtain ⟨o, es, ep, g, d, _⟩ := nm
    rw [z, tab] at g
    cases Option.some.inj g
    cases d
  have TB : TabB (hidT t.heap H) mg c p := by
    refine ⟨?_, ?_, pg⟩
    · obtain ⟨o, vs, file, tf, flags, tg, inF, text, tt, g, r1, r2, rest⟩ := code
      exact ⟨o, vs, file, tf, flags, tg, inF, text, tt, free g (other g (.inl fun z => by
        rw [r1] at z
        cases z) (.inl fun z => by
        rw [r1] at z
        injection z with z
        exact absurd z (by decide))), r1, r2, rest⟩
    · obtain ⟨bm, ob, b1, b2, g, b4, b5, b6⟩ := mod
      have q1 : bm ≠ mainGlobals := fun z => by
        obtain ⟨o, es, ep, g', d, _⟩ := nm
        rw [z, g'] at g
        cases Option.some.inj g
        rw [d] at b6
        cases b6
      have q2 : bm ≠ p := fun z => by
        rw [z, tab] at g
        cases Option.some.inj g
        cases b6
      exact ⟨bm, ob, b1, b2, q1, q2, free g (other g (.inr fun fs z => by
        rw [b6] at z
        cases z) (.inr fun xs m z => by
        rw [b6] at z
        cases z)), b4, b5, b6⟩
  obtain ⟨mc, l1, l2⟩ := nl
  have env : Env0 P w K mg (hidT t.heap H) callerA [] t H :=
    { frames := rfl, mod := ⟨kin', space nm, ⟨mb, space nb, eb⟩, ⟨mc, space l1, l2⟩⟩, bs := fun b o g => of_hidT g, bsz := Nat.le_of_eq (hidT_size _ _), funs := trivial, frf := fun b m => (nomatch (show b ∈ ([] : List Addr) from m)), hok := good, bare := .of_eq ng }
  refine codeAny_mono ((F _ kin' (space nm) TB).go callerA [] t H ⟨[.ref a], []⟩ [.ref a] [.ref a] _ _ rfl room env (bind t (.ref a)) (.cons rfl .nil) (prom H hp seq)) fun r s' z => ?_
  cases r with
  | error _ => exact False.elim z
  | ok fl =>
    cases fl with
    | next => exact False.elim z
    | brk => exact False.elim z
    | cont => exact False.elim z
    | ret u =>
      obtain ⟨v, H', z1, z2, un, good', rel, z3⟩ := z
      cases (show v = V.bl true from z3)
      cases (show u = Value.bool true from rel)
      obtain ⟨more, gm⟩ := un.tbls p #[] hp
      have gp : s'.heap.get? p = some { cls := .none, data := .fields (#[] ++ more) } := good' p _ gm
      have keep : ∀ b o, b ≠ p → t.heap.get? b = some o → s'.heap.get? b = some o := fun b o n g => by
        cases y : H b with
        | none => exact un.keep b o g y (fun m => nomatch (show b ∈ ([] : List Addr) from m)) (fun m => nomatch m)
        | some x =>
          rcases only b x y with ⟨z, _⟩ | ⟨_, _, ob, rfl⟩
          · exact absurd z n
          · have g1 := (good b _ y).1
            have g2 := (good' b _ (un.frzs b ob _ y)).1
            rw [g] at g1
            cases Option.some.inj g1
            exact g2
      refine ⟨rfl, ⟨fun b o g => ?_, fun b o g => ?_⟩, z1, z2⟩
      · by_cases n : b = p
        · rw [n] at g ⊢
          rw [tab] at g
          cases Option.some.inj g
          rw [Array.empty_append] at gp
          exact Or.inr (Or.inl ⟨(code.tab tab).isCodeTable, rfl, #[], more, rfl, by
            rw [Array.empty_append]
            exact gp⟩)
        · exact Or.inl (keep b o n g)
      · by_cases n : b = p
        · rw [n]
          exact ⟨_, gp⟩
        · exact ⟨o, keep b o n g⟩
/-- where the law's code object and its table stand -/
structure TabIs (K : PySem.W.Frag) (x : Str) (c p : Addr) : Prop where
  t : PySem.W.tabIn K x = some (c, p)
  n : K.lookup p = none
theorem tab_mk {K : PySem.W.Frag} {x : Str} {f c p : Addr} {oc oc2 : Value} {od od2 : Option Addr} {fd : FuncData} {vs : Array Value} {sl sl2 : Array (Option Value)} (a : PySem.W.nsIn K mainGlobals x = some (some (.ref f))) (l : K.lookup f = some ⟨oc, od, .func fd, sl⟩) (hc : fd.code = .ref c)
    (lc : K.lookup c = some ⟨oc2, od2, .fields vs, sl2⟩) (hv : (vs[11]? : Option Value) = some (.ref p)) : PySem.W.tabIn K x = some (c, p) := by
  unfold PySem.W.tabIn
  rw [a]
  dsimp only
  rw [l]
  dsimp only
  rw [hc]
  dsimp only
  rw [lc]
  dsimp only
  rw [hv]
theorem walkT {l : PySem.W.OpenLaw} {n k : Nat} {q : Program} {loose : List Str} {XP : (Str → Option Value) → Heap → Prop} {YP : World → Heap → Prop} {d d2 : DefRec} {x : Str} {K : Params → PySem.W.Frag} {sp : PySem.W.Frag → Addr → Sp}
    (many : l.most = some n) (few : n ≤ sizeLine) (plain : d.params.defaults = []) (room : Room k callerA) (has : ∀ (w : World) (h : Heap), YP w h → (K w.params).In h) (rec : (recsOf q).find? (fun e => e.name == x) = some d2)
    (F : ∀ (w : World) (mg : Str → Option Value) (fa : Addr) (h : Heap), (K w.params).In h → h.Ns mainGlobals mg → mg d.name = some (.ref fa) →
      ∃ (fd : FuncData) (c p : Addr), TabIs (K w.params) x c p ∧ (∀ (s : Shared) (u : Value), BindsTo s fd ⟨[u], []⟩ [("script", u)]) ∧ ∀ base : Heap, (K w.params).In base → base.Ns mainGlobals mg → TabB base mg c p → FnG l.prog w (K w.params) mg base k fa fd ["script"] (sp (K w.params) p))
    (prom : ∀ (K : PySem.W.Frag) (p : Addr) (H : Hp) (a : Addr) (ns : List Int), ns.length ≤ n → H p = some (.tbl #[]) → SqL K H a (ns.map V.int) → sp K p [.ref a] H (fun v _ => v = .bl true) fun _ _ _ => False) :
    PySem.W.WalkO q loose XP YP l.row.toRowW d [] (fun f vs => PySem.call f vs) := by
  refine Att.attach_call many plain fun w s0 t mg mb fa o pm cd doc a us ns G Y _ _ _ law here iu short bare => ?_
  have kin := has w _ Y
  obtain ⟨fd, c, p, tb, bind, F'⟩ := F w mg fa _ kin G.T.g law
  obtain ⟨code, tab⟩ := PySem.W.tab_of G.T kin rec tb.t
  exact lawT kin G.T.g G.T.b G.T.builtins G.T.nolimit bare tab tb.n code G.T.bmain here iu (Nat.le_trans short few) room F' bind fun H hp seq => prom _ p H a ns short hp seq
end KZ

namespace KZ
open PySem PySem.Spec PyProof.Rows L2 LamX
/-! where each def, each error stands in what the top has written -/
structure At (K : PySem.W.Frag) (x : Str) (st : Stmt) (f : Addr) (fd : FuncData) : Prop where
  a : PySem.W.nsIn K mainGlobals x = some (some (.ref f))
  fn : Fun K x x st f fd
theorem At.cal {P : Program} {w : World} {K : PySem.W.Frag} {h : Heap} {mg : Str → Option Value} {base : Heap} {x : Str} {st : Stmt} {f : Addr} {fd : FuncData} {k : Nat} {ps : List Str} {sp : Sp} (A : At K x st f fd) (X : K.In h) (G : h.Ns mainGlobals mg) (ok : FnOk P w K mg base CX0 k f fd ps sp) (b : Binds K fd ps []) :
    Cal P w K mg base x k ps sp f fd := ⟨ok, PySem.W.mg_of X G A.a, A.fn.kp, b⟩
/-- an own error with one field, as it stands -/
structure ErrF (K : PySem.W.Frag) (x f : Str) (C fI : Addr) : Prop where
  a : PySem.W.nsIn K mainGlobals x = some (some (.ref C))
  o : OexC K C
  i : PySem.W.findIn K (.ref C) "__init__" = some (some (.ref fI))
  t : PySem.W.typeIn K (.ref fI) = some (.type "function")
  no : PySem.W.findIn K (.ref C) f = some none
  ga : PySem.W.findIn K (.ref C) "__getattribute__" = some (some (.builtin "BaseException.__getattribute__"))
  gg : PySem.W.findIn K (.ref C) "__getattr__" = some none
  hd : PySem.W.hasDictIn K C = true
  ic : PySem.W.isClsIn K C = true
theorem ErrF.oer {K : PySem.W.Frag} {h : Heap} {mg : Str → Option Value} {x f : Str} {C fI : Addr} (A : ErrF K x f C fI) (X : K.In h) (G : h.Ns mainGlobals mg) : Oer K mg x f C fI := ⟨A.o, PySem.W.mg_of X G A.a, A.i, A.t, A.no, A.ga, A.gg, A.hd⟩
theorem err_mk {K : PySem.W.Frag} {x f : Str} {C fI : Addr} {nm q : Str} {N : Addr} {bs bm : List Value} {sn : List Str} {sub : List Value} {ab : Bool} {col : Option Bool} {dd : Option Addr} {k0 k1 k2 k3 k5 : Option Value}
    (a : PySem.W.nsIn K mainGlobals x = some (some (.ref C))) (l : K.lookup C = some (excClassObj nm q C N bs bm true sn sub ab col dd k0 k1 k2 k3 k5 "ValueError.__new__")) (re : PySem.HandSPX.refsVE bm = true) (sa : PySem.W.findIn K (.ref C) "__setattr__" = some (some (.builtin "object.__setattr__")))
    (eC : PySem.W.subIn K (.ref C) (.type "BaseException") = some true) (tC : PySem.W.typeIn K (.ref C) = some (.type "type")) (kC : PySem.W.keepIn K (.ref C) = true) (i : PySem.W.findIn K (.ref C) "__init__" = some (some (.ref fI))) (t : PySem.W.typeIn K (.ref fI) = some (.type "function"))
    (no : PySem.W.findIn K (.ref C) f = some none) (ga : PySem.W.findIn K (.ref C) "__getattribute__" = some (some (.builtin "BaseException.__getattribute__"))) (gg : PySem.W.findIn K (.ref C) "__getattr__" = some none) (hd : PySem.W.hasDictIn K C = true) (ic : PySem.W.isClsIn K C = true) : ErrF K x f C fI :=
  ⟨a, ⟨⟨nm, q, N, bs, bm, sn, sub, ab, col, dd, k0, k1, k2, k3, k5, l, re⟩, sa, eC, tC, kC⟩, i, t, no, ga, gg, hd, ic⟩
structure ErrZ (K : PySem.W.Frag) (x : Str) (C : Addr) : Prop where
  a : PySem.W.nsIn K mainGlobals x = some (some (.ref C))
  q : PySem.W.excIn K C [.type "ValueError", .type "Exception", .type "BaseException", .type "object"] "ValueError.__new__" = true
  kC : PySem.W.keepIn K (.ref C) = true
  exC : PySem.W.subIn K (.ref C) (.type "BaseException") = some true
  tyC : PySem.W.typeIn K (.ref C) = some (.type "type")
  ic : PySem.W.isClsIn K C = true
theorem ErrZ.oer {K : PySem.W.Frag} {h : Heap} {mg : Str → Option Value} {x : Str} {C : Addr} (A : ErrZ K x C) (X : K.In h) (G : h.Ns mainGlobals mg) : Oer0 K mg x C := ⟨PySem.W.mg_of X G A.a, A.q, A.kC, A.exC, A.tyC⟩
/-- what «except S» names -/
theorem exm_by {K : PySem.W.Frag} {C S : Addr} {b : Bool} (h1 : PySem.W.subIn K (.ref S) (.type "BaseException") = some true) (h2 : PySem.W.isClsIn K S = true) (h3 : PySem.W.typeIn K (.ref S) = some (.type "type")) (h4 : PySem.W.subIn K (.ref C) (.ref S) = some b) :
    PySem.W.exmOne K (.ref C) (.ref S) = some b := by
  have e1 : (PySem.W.subIn K (.ref S) (.type "BaseException") == some true) = true := by rw [h1] <;> rfl
  have e2 : ((PySem.W.clsIn K S).isSome && PySem.W.typeIn K (.ref S) == some (.type "type")) = true := by
    have h2' : (PySem.W.clsIn K S).isSome = true := h2
    rw [h2', h3] <;> rfl
  show (if (PySem.W.subIn K (.ref S) (.type "BaseException") == some true) = true then (if ((PySem.W.clsIn K S).isSome && PySem.W.typeIn K (.ref S) == some (.type "type")) = true then PySem.W.subIn K (.ref C) (.ref S) else none) else none) = some b
  rw [if_pos e1, if_pos e2]
  exact h4
/-- a method, by what the top tells of it -/
structure IniAt (K : PySem.W.Frag) (qual : Str) (st : Stmt) (f : Addr) (fd : FuncData) : Prop where
  fn : Fun K "__init__" qual st f fd
theorem ini_mk {K : PySem.W.Frag} {qual : Str} {st : Stmt} {f : Addr} {oc : Value} {od an : Option Addr} {osl : Array (Option Value)} {kV doc pm cdv ct : Value}
    (l : K.lookup f = some ⟨oc, od, .func (PySem.W.fnOf "__init__" qual (defArgs st) (defBody st) (defScope st) .none kV doc pm an cdv ct), osl⟩) (c : PySem.W.codeIn K cdv qual = true) (k : PySem.W.keepIn K (.ref f) = true) : ∃ fd, IniAt K qual st f fd :=
  ⟨_, ⟨fun_mk l c k⟩⟩
structure Errs (K : PySem.W.Frag) (CK iK CS iS CT iT CM iM CL iL CF : Addr) : Prop where
  eK : ErrF K "NoKind" "name" CK iK
  eS : ErrF K "NoSort" "name" CS iS
  eT : ErrF K "Taken" "name" CT iT
  eM : ErrF K "TooMany" "most" CM iM
  eL : ErrF K "NotLater" "kind" CL iL
  eF : ErrZ K "TooFew" CF
  mK : ∃ fd, IniAt K "NoKind.__init__" sIniK iK fd
  mS : ∃ fd, IniAt K "NoSort.__init__" sIniS iS fd
  sKK : PySem.W.subIn K (.ref CK) (.ref CK) = some true
  sSK : PySem.W.subIn K (.ref CS) (.ref CK) = some false
  sSS : PySem.W.subIn K (.ref CS) (.ref CS) = some true
structure Defs (K : PySem.W.Frag) : Prop where
  d0 : ∃ f fd, At K "kind_named" sKn f fd
  d1 : ∃ f fd, At K "sort_named" sSn f fd
  d2 : ∃ f fd, At K "places_of" sPof f fd
  d3 : ∃ f fd, At K "word_at" sWatP f fd
  d4 : ∃ f fd, At K "_kind_names" sNames f fd
  d5 : ∃ f fd, At K "_law_bag" sBag f fd
  d6 : ∃ f fd, At K "_law_take" sTake f fd
  d7 : ∃ f fd, At K "_law_some" sSome f fd
  d8 : ∃ f fd, At K "_law_alike" sAlike f fd
  d9 : ∃ f fd, At K "_law_mixed" sMixed f fd
  d10 : ∃ f fd, At K "_law_named" sNamed f fd
  d11 : ∃ f fd, At K "_law_kinds" sKinds f fd
  d12 : ∃ f fd, At K "_law_menu" sMenu f fd
  d13 : ∃ f fd, At K "_law_judge" sJudge f fd
  d14 : ∃ f fd, At K "_law_put" sPut f fd
  d15 : ∃ f fd, At K "_law_spoilt_house" sSpoilt f fd
  d16 : ∃ f fd, At K "_law_house_of" sHo f fd
  d17 : ∃ f fd, At K "_law_house" sHouse f fd
  d18 : ∃ f fd, At K "_law_odd" sOdd f fd
  d19 : ∃ f fd, At K "_law_places" sPlaces f fd
  d20 : ∃ f fd, At K "_law_word_at" sWat f fd
  d21 : ∃ f fd, At K "_law_refused" sRef f fd
  d22 : ∃ f fd, At K "_law_is_named" sIs f fd
  d23 : ∃ f fd, At K "law" sLaw f fd
  er : ∃ CK iK CS iS CT iT CM iM CL iL CF, Errs K CK iK CS iS CT iT CM iM CL iL CF
  tb : ∃ c p, TabIs K "_law_is_named" c p
structure Free (K : PySem.W.Frag) : Prop where
  int : PySem.W.nsIn K mainGlobals "int" = some none
  len : PySem.W.nsIn K mainGlobals "len" = some none
  abs : PySem.W.nsIn K mainGlobals "abs" = some none
  range : PySem.W.nsIn K mainGlobals "range" = some none
  tuple : PySem.W.nsIn K mainGlobals "tuple" = some none
  list : PySem.W.nsIn K mainGlobals "list" = some none
  dict : PySem.W.nsIn K mainGlobals "dict" = some none
  repr : PySem.W.nsIn K mainGlobals "repr" = some none
  enumerate : PySem.W.nsIn K mainGlobals "enumerate" = some none
  isinstance : PySem.W.nsIn K mainGlobals "isinstance" = some none
  str : PySem.W.nsIn K mainGlobals "str" = some none
theorem Free.txt {K : PySem.W.Frag} {h : Heap} {mg : Str → Option Value} (Z : Free K) (X : K.In h) (G : h.Ns mainGlobals mg) : Txt mg where
  int := PySem.W.mg_none_of X G Z.int
  len := PySem.W.mg_none_of X G Z.len
  abs := PySem.W.mg_none_of X G Z.abs
  range := PySem.W.mg_none_of X G Z.range
  tuple := PySem.W.mg_none_of X G Z.tuple
  list := PySem.W.mg_none_of X G Z.list
  dict := PySem.W.mg_none_of X G Z.dict
  repr := PySem.W.mg_none_of X G Z.repr
  enumerate := PySem.W.mg_none_of X G Z.enumerate
theorem all_mk {l : PySem.W.OpenLaw} {w : World} {K : PySem.W.Frag} {h : Heap} {mg : Str → Option Value} {fa : Addr} (X : K.In h) (G : h.Ns mainGlobals mg) (hfa : mg "law" = some (.ref fa)) (D : Defs K) (Z : Free K) :
    ∃ (fd : FuncData) (c p : Addr), TabIs K "_law_is_named" c p ∧ (∀ (s : Shared) (v : Value), BindsTo s fd ⟨[v], []⟩ [("script", v)]) ∧ ∀ base : Heap, K.In base → base.Ns mainGlobals mg → TabB base mg c p → FnG l.prog w K mg base 8 fa fd ["script"] (spLaw K p) := by
  have T := Z.txt X G
  obtain ⟨CK, iK, CS, iS, CT, iT, CM, iM, CL, iL, CF, E⟩ := D.er
  obtain ⟨c, p, tb⟩ := D.tb
  obtain ⟨dK, mK⟩ := E.mK
  obtain ⟨dS, mS⟩ := E.mS
  have bK := mK.fn.binds (ps := ["self", "name"]) fun _ _ _ _ _ _ us hl => match us, hl with | [_, _], _ => rfl
  have bS := mS.fn.binds (ps := ["self", "name"]) fun _ _ _ _ _ _ us hl => match us, hl with | [_, _], _ => rfl
  obtain ⟨f0, fd0, A0⟩ := D.d0
  obtain ⟨f1, fd1, A1⟩ := D.d1
  obtain ⟨f2, fd2, A2⟩ := D.d2
  obtain ⟨f3, fd3, A3⟩ := D.d3
  obtain ⟨f4, fd4, A4⟩ := D.d4
  obtain ⟨f5, fd5, A5⟩ := D.d5
  obtain ⟨f6, fd6, A6⟩ := D.d6
  obtain ⟨f7, fd7, A7⟩ := D.d7
  obtain ⟨f8, fd8, A8⟩ := D.d8
  obtain ⟨f9, fd9, A9⟩ := D.d9
  obtain ⟨f10, fd10, A10⟩ := D.d10
  obtain ⟨f11, fd11, A11⟩ := D.d11
  obtain ⟨f12, fd12, A12⟩ := D.d12
  obtain ⟨f13, fd13, A13⟩ := D.d13
  obtain ⟨f14, fd14, A14⟩ := D.d14
  obtain ⟨f15, fd15, A15⟩ := D.d15
  obtain ⟨f16, fd16, A16⟩ := D.d16
  obtain ⟨f17, fd17, A17⟩ := D.d17
  obtain ⟨f18, fd18, A18⟩ := D.d18
  obtain ⟨f19, fd19, A19⟩ := D.d19
  obtain ⟨f20, fd20, A20⟩ := D.d20
  obtain ⟨f21, fd21, A21⟩ := D.d21
  obtain ⟨f22, fd22, A22⟩ := D.d22
  obtain ⟨f23, fd23, A23⟩ := D.d23
  have b0 := A0.fn.binds (ps := ["house", "name"]) fun _ _ _ _ _ _ us hl => match us, hl with | [_, _], _ => rfl
  have b1 := A1.fn.binds (ps := ["house", "name"]) fun _ _ _ _ _ _ us hl => match us, hl with | [_, _], _ => rfl
  have b2 := A2.fn.binds (ps := ["house"]) fun _ _ _ _ _ _ us hl => match us, hl with | [_], _ => rfl
  have b3 := A3.fn.binds (ps := ["house", "place"]) fun _ _ _ _ _ _ us hl => match us, hl with | [_, _], _ => rfl
  have b4 := A4.fn.binds (ps := ["house"]) fun _ _ _ _ _ _ us hl => match us, hl with | [_], _ => rfl
  have b5 := A5.fn.binds (ps := ["script"]) fun _ _ _ _ _ _ us hl => match us, hl with | [_], _ => rfl
  have b6 := A6.fn.binds (ps := ["bag", "upto"]) fun _ _ _ _ _ _ us hl => match us, hl with | [_, _], _ => rfl
  have b7 := A7.fn.binds (ps := ["bag", "things"]) fun _ _ _ _ _ _ us hl => match us, hl with | [_, _], _ => rfl
  have b8 := A8.fn.binds (ps := ["found", "due"]) fun _ _ _ _ _ _ us hl => match us, hl with | [_, _], _ => rfl
  have b9 := A9.fn.binds (ps := ["bag", "things"]) fun _ _ _ _ _ _ us hl => match us, hl with | [_, _], _ => rfl
  have b10 := A10.fn.binds (ps := ["bag", "many"]) fun _ _ _ _ _ _ us hl => match us, hl with | [_, _], _ => rfl
  have b11 := A11.fn.binds (ps := ["bag", "many", "keeps"]) fun _ _ _ _ _ _ us hl => match us, hl with | [_, _, _], _ => rfl
  have b12 := A12.fn.binds (ps := ["bag", "style"]) fun _ _ _ _ _ _ us hl => match us, hl with | [_, _], _ => rfl
  have b13 := A13.fn.binds (ps := ["bag", "kinds", "sorts", "style"]) fun _ _ _ _ _ _ us hl => match us, hl with | [_, _, _, _], _ => rfl
  have b14 := A14.fn.binds (ps := ["judge", "sort", "asker", "holder", "couple"]) fun _ _ _ _ _ _ us hl => match us, hl with | [_, _, _, _, _], _ => rfl
  have b15 := A15.fn.binds (ps := ["bag", "house"]) fun _ _ _ _ _ _ us hl => match us, hl with | [_, _], _ => rfl
  have b16 := A16.fn.binds (ps := ["bag", "kinds", "sorts", "style"]) fun _ _ _ _ _ _ us hl => match us, hl with | [_, _, _, _], _ => rfl
  have b17 := A17.fn.binds (ps := ["bag", "kinds"]) fun _ _ _ _ _ _ us hl => match us, hl with | [_, _], _ => rfl
  have b18 := A18.fn.binds (ps := ["bag"]) fun _ _ _ _ _ _ us hl => match us, hl with | [_], _ => rfl
  have b19 := A19.fn.binds (ps := ["house"]) fun _ _ _ _ _ _ us hl => match us, hl with | [_], _ => rfl
  have b20 := A20.fn.binds (ps := ["house", "place"]) fun _ _ _ _ _ _ us hl => match us, hl with | [_, _], _ => rfl
  have b21 := A21.fn.binds (ps := ["act"]) fun _ _ _ _ _ _ us hl => match us, hl with | [_], _ => rfl
  have b22 := A22.fn.binds (ps := ["house", "name"]) fun _ _ _ _ _ _ us hl => match us, hl with | [_, _], _ => rfl
  cases hfa.symm.trans (PySem.W.mg_of X G A23.a)
  have hcv : fd22.code = .ref c := by
    obtain ⟨oc, od, kV, doc, pm, an, cdv, ct, osl, e, lk, hcd⟩ := A22.fn.ex
    exact PySem.W.law_code X G tb.t (PySem.W.mg_of X G A22.a) (X _ _ lk) rfl
  refine ⟨fd23, c, p, tb, fun s v => ?_, fun base _ _ TB => ?_⟩
  · obtain ⟨oc, od, kV, doc, pm, an, cdv, ct, osl, e, _⟩ := A23.fn.ex
    rw [e]
    exact .of_eq rfl
  have EK : Mer l.prog w K mg base "NoKind" "name" CK iK := ⟨E.eK.oer X G, dK, ok_iniK mK.fn, bK⟩
  have ES : Mer l.prog w K mg base "NoSort" "name" CS iS := ⟨E.eS.oer X G, dS, ok_iniS mS.fn, bS⟩
  have Ti : mg "isinstance" = none := PySem.W.mg_none_of X G Z.isinstance
  have Ts : mg "str" = none := PySem.W.mg_none_of X G Z.str
  have EF := E.eF.oer X G
  have R : Refs K mg CK CS CT CM CF CL iK iS iT iM iL := {
    nk := E.eK.oer X G, ns := E.eS.oer X G, tk := E.eT.oer X G, tm := E.eM.oer X G, tf := EF, nl := E.eL.oer X G,
    k1 := exm_by E.eK.o.exC E.eK.ic E.eK.o.tyC E.sKK, s1 := exm_by E.eK.o.exC E.eK.ic E.eK.o.tyC E.sSK, s2 := exm_by E.eS.o.exC E.eS.ic E.eS.o.tyC E.sSS }
  have c1 := A6.cal X G (ok_take (P := l.prog) (w := w) (base := base) A6.fn T) b6
  have c2 := A7.cal X G (ok_some A7.fn T c1) b7
  have c3 := A9.cal X G (ok_mixed A9.fn T c1) b9
  have c4 := A10.cal X G (ok_named A10.fn c3) b10
  have c4L := A10.cal X G (ok_namedL A10.fn c3) b10
  have c5 := A11.cal X G (ok_kinds A11.fn T c1 c2 c4) b11
  have c6 := A12.cal X G (ok_menu A12.fn T c2) b12
  have c7 := A13.cal X G (ok_judge A13.fn T c2 c6) b13
  have c8 := A14.cal X G (ok_put (P := l.prog) (w := w) (base := base) (mg := mg) A14.fn) b14
  have c9 := A15.cal X G (ok_spoilt A15.fn T c1 c2 c8) b15
  have c10 := A16.cal X G (ok_ho A16.fn T c1 c2 c5 c4 c7 c9 (PySem.W.mg_of X G A16.a) b16) b16
  have c11 := A5.cal X G (ok_bag (P := l.prog) (w := w) (base := base) A5.fn T) b5
  have c12 := A17.cal X G (ok_house A17.fn c1 c2 c10) b17
  have c13 := A7.cal X G (ok_someV A7.fn T c1) b7
  have c14 := A18.cal X G (ok_odd A18.fn c13) b18
  have c15 := A2.cal X G (ok_pof (P := l.prog) (w := w) (base := base) A2.fn T) b2
  have c16 := A19.cal X G (ok_places (P := l.prog) (w := w) (base := base) A19.fn T) b19
  have c17 := A3.cal X G (ok_watP (P := l.prog) (w := w) (base := base) (mg := mg) A3.fn) b3
  have c18 := A20.cal X G (ok_wat (P := l.prog) (w := w) (base := base) (mg := mg) A20.fn) b20
  have c19 := A4.cal X G (ok_names (P := l.prog) (w := w) (base := base) (mg := mg) A4.fn) b4
  have c20 : CalG l.prog w K mg base "_law_alike" 1 ["found", "due"] (spAlikeX K) f8 fd8 := ⟨FnG.or (ok_alike A8.fn T) (ok_alikeD A8.fn T), PySem.W.mg_of X G A8.a, A8.fn.kp, b8⟩
  have c21 : CalG l.prog w K mg base "_law_alike" 1 ["found", "due"] (spAlikeW K) f8 fd8 := ⟨FnG.or (ok_alikeL A8.fn T) (ok_alikeS A8.fn T), PySem.W.mg_of X G A8.a, A8.fn.kp, b8⟩
  have c22 : CalG l.prog w K mg base "_law_is_named" 6 ["house", "name"] (spIsN K p) f22 fd22 := ⟨ok_isN A22.fn hcv T Ti Ts c20 R A21.fn (PySem.W.mg_of X G A21.a) b21
    (ok_kn A0.fn Ti Ts EK c19) (PySem.W.mg_of X G A0.a) A0.fn.kp b0
    (ok_sn A1.fn Ti Ts ES) (PySem.W.mg_of X G A1.a) A1.fn.kp b1 TB, PySem.W.mg_of X G A22.a, A22.fn.kp, b22⟩
  exact ok_law A23.fn T c11 c12 c4L c14 c22 c21 c15 c16 c17 c18
/-- one def, by what the top tells of it -/
theorem at_mk {K : PySem.W.Frag} {x : Str} {st : Stmt} {f : Addr} {oc : Value} {od an : Option Addr} {osl : Array (Option Value)} {kV doc pm cdv ct : Value} (a : PySem.W.nsIn K mainGlobals x = some (some (.ref f)))
    (l : K.lookup f = some ⟨oc, od, .func (PySem.W.fnOf x x (defArgs st) (defBody st) (defScope st) .none kV doc pm an cdv ct), osl⟩) (c : PySem.W.codeIn K cdv x = true) (k : PySem.W.keepIn K (.ref f) = true) : ∃ f fd, At K x st f fd :=
  ⟨f, _, a, fun_mk l c k⟩
theorem glob_mk {K : PySem.W.Frag} {x : Str} {i : Int} {t : Tok} (h : PySem.W.nsIn K mainGlobals x = some (some (.int i t))) : ∃ t, PySem.W.nsIn K mainGlobals x = some (some (.int i t)) := ⟨t, h⟩
theorem tab_ex {K : PySem.W.Frag} {x : Str} {f c p : Addr} {oc oc2 : Value} {od od2 : Option Addr} {fd : FuncData} {vs : Array Value} {sl sl2 : Array (Option Value)} (a : PySem.W.nsIn K mainGlobals x = some (some (.ref f))) (l : K.lookup f = some ⟨oc, od, .func fd, sl⟩) (hc : fd.code = .ref c)
    (lc : K.lookup c = some ⟨oc2, od2, .fields vs, sl2⟩) (hv : (vs[11]? : Option Value) = some (.ref p)) (n : K.lookup p = none) : ∃ c p, TabIs K x c p := ⟨c, p, tab_mk a l hc lc hv, n⟩
theorem errs_mk {K : PySem.W.Frag} {CK iK CS iS CT iT CM iM CL iL CF : Addr} (eK : ErrF K "NoKind" "name" CK iK) (eS : ErrF K "NoSort" "name" CS iS) (eT : ErrF K "Taken" "name" CT iT) (eM : ErrF K "TooMany" "most" CM iM) (eL : ErrF K "NotLater" "kind" CL iL) (eF : ErrZ K "TooFew" CF) (mK : ∃ fd, IniAt K "NoKind.__init__" sIniK iK fd) (mS : ∃ fd, IniAt K "NoSort.__init__" sIniS iS fd) (sKK : PySem.W.subIn K (.ref CK) (.ref CK) = some true) (sSK : PySem.W.subIn K (.ref CS) (.ref CK) = some false) (sSS : PySem.W.subIn K (.ref CS) (.ref CS) = some true) : ∃ CK iK CS iS CT iT CM iM CL iL CF, Errs K CK iK CS iS CT iT CM iM CL iL CF := ⟨CK, iK, CS, iS, CT, iT, CM, iM, CL, iL, CF, ⟨eK, eS, eT, eM, eL, eF, mK, mS, sKK, sSK, sSS⟩⟩
theorem walk {l : PySem.W.OpenLaw} {q : Program} {loose : List Str} {XP : (Str → Option Value) → Heap → Prop} {YP : World → Heap → Prop} {d d2 : DefRec} {K : Params → PySem.W.Frag} (many : l.most = some 63) (plain : d.params.defaults = []) (has : ∀ (w : World) (h : Heap), YP w h → (K w.params).In h)
    (rec : (recsOf q).find? (fun e => e.name == ("_law_is_named" : Str)) = some d2)
    (F : ∀ (w : World) (mg : Str → Option Value) (fa : Addr) (h : Heap), (K w.params).In h → h.Ns mainGlobals mg → mg d.name = some (.ref fa) →
      ∃ (fd : FuncData) (c p : Addr), TabIs (K w.params) "_law_is_named" c p ∧ (∀ (s : Shared) (u : Value), BindsTo s fd ⟨[u], []⟩ [("script", u)]) ∧ ∀ base : Heap, (K w.params).In base → base.Ns mainGlobals mg → TabB base mg c p → FnG l.prog w (K w.params) mg base 8 fa fd ["script"] (spLaw (K w.params) p)) :
    PySem.W.WalkO q loose XP YP l.row.toRowW d [] (fun f vs => PySem.call f vs) :=
  walkT (n := 63) (k := 8) (sp := spLaw) many (by decide) plain ⟨rfl, by decide, by decide⟩ has rec F fun K p H a ns few hp seq => ⟨a, ns, rfl, seq, few, hp, fun _ => rfl⟩
end KZ

open PySem PySem.W PyProof.Rows in
set_option maxRecDepth 100000 in
set_option maxHeartbeats 0 in
theorem PySem.Challenge.cw_comesthrough_k13_names_places_and_words_holds : PySem.Challenge.rw_comesthrough_k13_names_places_and_words.Holds := by
  w_on; o_law; k_head; (case hw => w_witness2)
  k_fill
  refine KZ.walk (l := PySem.Challenge.rw_comesthrough_k13_names_places_and_words) rfl rfl (fun w h Y => PySem.W.km_in_of Y) rfl ?F
  case F =>
    intro w mg fa h KX G hmg
    refine' KZ.all_mk KX G hmg ⟨?d0, ?d1, ?d2, ?d3, ?d4, ?d5, ?d6, ?d7, ?d8, ?d9, ?d10, ?d11, ?d12, ?d13, ?d14, ?d15, ?d16, ?d17, ?d18, ?d19, ?d20, ?d21, ?d22, ?d23, ?er, ?tb⟩ ⟨?z0, ?z1, ?z2, ?z3, ?z4, ?z5, ?z6, ?z7, ?z8, ?z9, ?z10⟩
    (case d0 => refine' KZ.at_mk ?a ?l ?c ?k; (case a => k_is); (case l => k_is); (case c => k_is); (case k => k_is))
    (case d1 => refine' KZ.at_mk ?a ?l ?c ?k; (case a => k_is); (case l => k_is); (case c => k_is); (case k => k_is))
    (case d2 => refine' KZ.at_mk ?a ?l ?c ?k; (case a => k_is); (case l => k_is); (case c => k_is); (case k => k_is))
    (case d3 => refine' KZ.at_mk ?a ?l ?c ?k; (case a => k_is); (case l => k_is); (case c => k_is); (case k => k_is))
    (case d4 => refine' KZ.at_mk ?a ?l ?c ?k; (case a => k_is); (case l => k_is); (case c => k_is); (case k => k_is))
    (case d5 => refine' KZ.at_mk ?a ?l ?c ?k; (case a => k_is); (case l => k_is); (case c => k_is); (case k => k_is))
    (case d6 => refine' KZ.at_mk ?a ?l ?c ?k; (case a => k_is); (case l => k_is); (case c => k_is); (case k => k_is))
    (case d7 => refine' KZ.at_mk ?a ?l ?c ?k; (case a => k_is); (case l => k_is); (case c => k_is); (case k => k_is))
    (case d8 => refine' KZ.at_mk ?a ?l ?c ?k; (case a => k_is); (case l => k_is); (case c => k_is); (case k => k_is))
    (case d9 => refine' KZ.at_mk ?a ?l ?c ?k; (case a => k_is); (case l => k_is); (case c => k_is); (case k => k_is))
    (case d10 => refine' KZ.at_mk ?a ?l ?c ?k; (case a => k_is); (case l => k_is); (case c => k_is); (case k => k_is))
    (case d11 => refine' KZ.at_mk ?a ?l ?c ?k; (case a => k_is); (case l => k_is); (case c => k_is); (case k => k_is))
    (case d12 => refine' KZ.at_mk ?a ?l ?c ?k; (case a => k_is); (case l => k_is); (case c => k_is); (case k => k_is))
    (case d13 => refine' KZ.at_mk ?a ?l ?c ?k; (case a => k_is); (case l => k_is); (case c => k_is); (case k => k_is))
    (case d14 => refine' KZ.at_mk ?a ?l ?c ?k; (case a => k_is); (case l => k_is); (case c => k_is); (case k => k_is))
    (case d15 => refine' KZ.at_mk ?a ?l ?c ?k; (case a => k_is); (case l => k_is); (case c => k_is); (case k => k_is))
    (case d16 => refine' KZ.at_mk ?a ?l ?c ?k; (case a => k_is); (case l => k_is); (case c => k_is); (case k => k_is))
    (case d17 => refine' KZ.at_mk ?a ?l ?c ?k; (case a => k_is); (case l => k_is); (case c => k_is); (case k => k_is))
    (case d18 => refine' KZ.at_mk ?a ?l ?c ?k; (case a => k_is); (case l => k_is); (case c => k_is); (case k => k_is))
    (case d19 => refine' KZ.at_mk ?a ?l ?c ?k; (case a => k_is); (case l => k_is); (case c => k_is); (case k => k_is))
    (case d20 => refine' KZ.at_mk ?a ?l ?c ?k; (case a => k_is); (case l => k_is); (case c => k_is); (case k => k_is))
    (case d21 => refine' KZ.at_mk ?a ?l ?c ?k; (case a => k_is); (case l => k_is); (case c => k_is); (case k => k_is))
    (case d22 => refine' KZ.at_mk ?a ?l ?c ?k; (case a => k_is); (case l => k_is); (case c => k_is); (case k => k_is))
    (case d23 => refine' KZ.at_mk ?a ?l ?c ?k; (case a => k_is); (case l => k_is); (case c => k_is); (case k => k_is))
    (case tb => refine' KZ.tab_ex ?tb_a ?tb_l ?tb_hc ?tb_lc ?tb_hv ?tb_n; (case tb_a => k_is); (case tb_l => k_is); (case tb_hc => rfl); (case tb_lc => k_is); (case tb_hv => rfl); (case tb_n => kernel_rfl))
    (case er =>
      refine' KZ.errs_mk (KZ.err_mk ?K_a ?K_l ?K_re ?K_sa ?K_eC ?K_tC ?K_kC ?K_i ?K_t ?K_no ?K_ga ?K_gg ?K_hd ?K_ic) (KZ.err_mk ?S_a ?S_l ?S_re ?S_sa ?S_eC ?S_tC ?S_kC ?S_i ?S_t ?S_no ?S_ga ?S_gg ?S_hd ?S_ic) (KZ.err_mk ?T_a ?T_l ?T_re ?T_sa ?T_eC ?T_tC ?T_kC ?T_i ?T_t ?T_no ?T_ga ?T_gg ?T_hd ?T_ic) (KZ.err_mk ?M_a ?M_l ?M_re ?M_sa ?M_eC ?M_tC ?M_kC ?M_i ?M_t ?M_no ?M_ga ?M_gg ?M_hd ?M_ic) (KZ.err_mk ?L_a ?L_l ?L_re ?L_sa ?L_eC ?L_tC ?L_kC ?L_i ?L_t ?L_no ?L_ga ?L_gg ?L_hd ?L_ic) ⟨?F_a, ?F_q, ?F_kC, ?F_exC, ?F_tyC, ?F_ic⟩ (KZ.ini_mk ?K_l1 ?K_c1 ?K_k1) (KZ.ini_mk ?S_l1 ?S_c1 ?S_k1) ?s_KK ?s_SK ?s_SS
      (case K_a => k_is)
      (case K_l => k_is)
      (case K_re => rfl)
      (case K_sa => k_is)
      (case K_eC => k_is)
      (case K_tC => k_is)
      (case K_kC => k_is)
      (case K_i => k_is)
      (case K_t => k_is)
      (case K_no => k_is)
      (case K_ga => k_is)
      (case K_gg => k_is)
      (case K_hd => k_is)
      (case K_ic => k_is)
      (case S_a => k_is)
      (case S_l => k_is)
      (case S_re => rfl)
      (case S_sa => k_is)
      (case S_eC => k_is)
      (case S_tC => k_is)
      (case S_kC => k_is)
      (case S_i => k_is)
      (case S_t => k_is)
      (case S_no => k_is)
      (case S_ga => k_is)
      (case S_gg => k_is)
      (case S_hd => k_is)
      (case S_ic => k_is)
      (case T_a => k_is)
      (case T_l => k_is)
      (case T_re => rfl)
      (case T_sa => k_is)
      (case T_eC => k_is)
      (case T_tC => k_is)
      (case T_kC => k_is)
      (case T_i => k_is)
      (case T_t => k_is)
      (case T_no => k_is)
      (case T_ga => k_is)
      (case T_gg => k_is)
      (case T_hd => k_is)
      (case T_ic => k_is)
      (case M_a => k_is)
      (case M_l => k_is)
      (case M_re => rfl)
      (case M_sa => k_is)
      (case M_eC => k_is)
      (case M_tC => k_is)
      (case M_kC => k_is)
      (case M_i => k_is)
      (case M_t => k_is)
      (case M_no => k_is)
      (case M_ga => k_is)
      (case M_gg => k_is)
      (case M_hd => k_is)
      (case M_ic => k_is)
      (case L_a => k_is)
      (case L_l => k_is)
      (case L_re => rfl)
      (case L_sa => k_is)
      (case L_eC => k_is)
      (case L_tC => k_is)
      (case L_kC => k_is)
      (case L_i => k_is)
      (case L_t => k_is)
      (case L_no => k_is)
      (case L_ga => k_is)
      (case L_gg => k_is)
      (case L_hd => k_is)
      (case L_ic => k_is)
      (case F_a => k_is)
      (case F_q => kernel_rfl)
      (case F_kC => k_is)
      (case F_exC => k_is)
      (case F_tyC => k_is)
      (case F_ic => k_is)
      (case K_l1 => k_is)
      (case K_c1 => k_is)
      (case K_k1 => k_is)
      (case S_l1 => k_is)
      (case S_c1 => k_is)
      (case S_k1 => k_is)
      (case s_KK => first | k_is | rfl)
      (case s_SK => first | k_is | rfl)
      (case s_SS => first | k_is | rfl))
    (case z0 => k_is)
    (case z1 => k_is)
    (case z2 => k_is)
    (case z3 => k_is)
    (case z4 => k_is)
    (case z5 => k_is)
    (case z6 => k_is)
    (case z7 => k_is)
    (case z8 => k_is)
    (case z9 => k_is)
    (case z10 => k_is)
#print axioms PySem.Challenge.cw_comesthrough_k13_names_places_and_words_holds
