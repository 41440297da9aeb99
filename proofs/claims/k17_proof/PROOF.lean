import PyProof.Rows.All
import Wide.All
import OpenK.AllK
import Wide.FinOn
import HandS.ForMost
import HandS.TupAny
import HandS.More
import HandS.Conv
import HandS.Comp
import HandS.Exc
import HandS.TryMany
import HandS.DictTup
import HandS.Evl
import HandS.Flow
import HandS.WordsExc
import HandS.ExcInit
import HandS.ExcOwn
import HandS.Lambda
import HandS.EndTab
import HandS.Strs
import HandS.ListItems
import KE.KDictZip
import HandS.Zip0
import HandS.Style
import PySem.Challenge.RW_comesthrough_k17_kinds_reordered_and_nam
set_option Elab.async false
set_option linter.all false
set_option maxRecDepth 100000
set_option maxHeartbeats 8000000
namespace KZ
open PySem PySem.Spec PyProof.Rows L2
/-! a comprehension with as many clauses as one likes -/
/-- what a turn of clause k - 1 does behind its tests, and then c -/
def behind {α : Type} (elt : Expr) (gens : List Comprehension) (scope : Scope) (pos : Pos) (k : Nat) (acc : Value) (env : Env) (c : Sem α) : Sem α :=
  match gens[k]? with
  | some g => do
    let v ← eval g.iter env
    standAt g.iter.pos
    let v ← if g.is_async != 0 then foldedIterable g.iter v else foldedSetIterable g.iter env v
    let _ ← runOwn (.compStart (.ListComp elt gens scope pos) k (← holding [v] (if g.is_async != 0 then asyncIter v else pyIter v)) acc env) env
    c
  | none => do
    (do let _ ← call (.builtin "list.append") [acc, ← eval elt env])
    c
section
variable {elt tg iter : Expr} {ifs : List Expr} {gens : List Comprehension} {scope : Scope} {pos : Pos} {k : Nat} {it acc : Value} {env : Env}
theorem turnN (hk : gens[k]? = some ⟨tg, iter, ifs, 0⟩) (hn : ∀ c, gens[k + 1]? = some c → c.is_async = 0) : compTurn (.ListComp elt gens scope pos) k it acc env = (do
    standAt iter.pos
    match ← pyNext it with
    | none => pure (.done .next)
    | some x =>
      letOwnedTupleGo tg it x
      assign tg env x
      let mut yes := true
      for c in ifs do
        if yes then yes ← isTrue c env (eval c env)
      if yes then behind elt gens scope pos (k + 1) acc env (again (.compLoop (.ListComp elt gens scope pos) k it acc env))
      else again (.compLoop (.ListComp elt gens scope pos) k it acc env)) := by
  unfold compTurn behind
  dsimp only
  rw [hk]
  dsimp only
  cases e : gens[k + 1]? with
  | none => rfl
  | some c =>
    obtain ⟨t1, i1, f1, a1⟩ := c
    cases (show a1 = 0 from hn _ e)
    rfl
theorem behind_some {α : Type} {c : Sem α} (hk : gens[k]? = some ⟨tg, iter, ifs, 0⟩) : behind elt gens scope pos k acc env c = (do
    let v ← eval iter env
    standAt iter.pos
    let v ← foldedSetIterable iter env v
    let _ ← runOwn (.compStart (.ListComp elt gens scope pos) k (← holding [v] (pyIter v)) acc env) env
    c) := by
  unfold behind
  rw [hk]
  rfl
theorem behind_none {α : Type} {c : Sem α} (hk : gens[k]? = none) : behind elt gens scope pos k acc env c = (do
    (do let _ ← call (.builtin "list.append") [acc, ← eval elt env])
    c) := by
  unfold behind
  rw [hk]
end
section
variable {P : Program} {w : World} {A : Around} {R : Result → Shared → Prop} {s : Shared} {elt tg iter : Expr} {ifs : List Expr} {gens : List Comprehension} {scope : Scope} {pos : Pos} {k : Nat} {it acc : Value} {env : Env}
/-- the errors of a block's loop -/
abbrev LE (P : Program) (w : World) (A : Around) (env : Env) (R : Result → Shared → Prop) : Value → Shared → Prop := notedBy (model P w) A env fun e t => R (.error e) t
theorem loopN (hk : gens[k]? = some ⟨tg, iter, ifs, 0⟩) (hn : ∀ c, gens[k + 1]? = some c → c.is_async = 0) (J : Nat → Shared → Prop)
    (turn : ∀ n t, J n t → wpAny (model P w) A (pyNext it) (fun r t1 => match r with
      | none => R (.ok .next) t1
      | some x => wpAny (model P w) A (letOwnedTupleGo tg it x) (fun _ t2 => wpAny (model P w) A (assign tg env x) (fun _ t3 =>
          wpAny (model P w) A (forIn ifs true fun c r => if r = true then do let ok ← isTrue c env (eval c env); pure (ForInStep.yield ok) else pure (ForInStep.yield r))
            (fun yes t4 => if yes = true then (∀ (c : Sem Fin) (Q : Fin → Shared → Prop), (∀ t5, (∃ m, m < n ∧ J m t5) → wpAny (model P w) (A.under (.compLoop (.ListComp elt gens scope pos) k it acc env)) c Q (LE P w A env R) t5) → wpAny (model P w) (A.under (.compLoop (.ListComp elt gens scope pos) k it acc env)) (behind elt gens scope pos (k + 1) acc env c) Q (LE P w A env R) t4) else ∃ m, m < n ∧ J m t4) (LE P w A env R) t3) (LE P w A env R) t2) (LE P w A env R) t1)
      (LE P w A env R) t)
    (n : Nat) (h : J n s) : codeAny (model P w) A (.compLoop (.ListComp elt gens scope pos) k it acc env) R s := by
  refine codeAny_loop rfl J (fun n t hJ => ?_) n h
  show wpAny _ A ((compTurn (.ListComp elt gens scope pos) k it acc env).onRaise (fun x => do noteFrame x env; theTreesLotGoes x)) _ _ t
  refine wpAny_noted ?_
  rw [turnN hk hn]
  refine wpAny_bind (wpAny_standAt (wpAny_bind (wpAny_mono (turn n t hJ) (fun r t1 h1 => ?_) fun _ _ z => z)))
  match r with
  | none => exact wpAny_pure h1
  | some x =>
    refine wpAny_bind (wpAny_mono h1 (fun _ t2 h2 => ?_) fun _ _ z => z)
    refine wpAny_bind (wpAny_mono h2 (fun _ t3 h3 => ?_) fun _ _ z => z)
    refine wpAny_bind (wpAny_mono h3 (fun yes t4 h4 => ?_) fun _ _ z => z)
    match yes with
    | false => exact wpAny_pure ⟨rfl, h4⟩
    | true => exact h4 _ _ fun t5 h5 => wpAny_pure ⟨rfl, h5⟩
theorem startN (hk : gens[k]? = some ⟨tg, iter, ifs, 0⟩) (h0 : codeAny (model P w) A (.compLoop (.ListComp elt gens scope pos) k it acc env) R s)
    (h : wpAny (model P w) A (pyIter it) (fun it' t => codeAny (model P w) A (.compLoop (.ListComp elt gens scope pos) k it' acc env) R t) (LE P w A env R) s) :
    codeAny (model P w) A (.compStart (.ListComp elt gens scope pos) k it acc env) R s := by
  refine codeAny_of_tree ?_
  show wpAny _ _ ((compStart (.ListComp elt gens scope pos) k it acc env).onRaise (fun x => do noteFrame x env; standAt theWindowsPlace)) _ _ s
  refine wpAny_notedAt ?_
  unfold compStart
  have e : (clausesOf (.ListComp elt gens scope pos))[k]? = some ⟨tg, iter, ifs, 0⟩ := hk
  rw [e]
  show wpAny _ _ (ask >>= _) _ _ s
  refine wpAny_bind (wpAny_askSetting (wpAny_ite ?_))
  split
  · first
      | exact wpAny_bind (wpAny_pure (wpAny_pure ⟨rfl, h0⟩))
      | exact wpAny_pure ⟨rfl, h0⟩
  · refine wpAny_bind (wpAny_rule ?_)
    show wpAny _ _ (standAt iter.pos >>= _) _ _ s
    exact wpAny_bind (wpAny_standAt (wpAny_bind (wpAny_mono h (fun it' t z => wpAny_pure ⟨rfl, z⟩) fun _ _ z => z)))
end
abbrev TIn := L2.St → Hp → (Hp → Prop) → Prop
/-- what stands behind the tests of clause k - 1, in a block's context -/
structure PIn (Y : Cx) (elt : Expr) (gens : List Comprehension) (scope : Scope) (pos : Pos) (k : Nat) (D : Addr) (vs : List Nat) (t : TIn) : Prop where
  go : ∀ (pins : List (Addr × Obj)) (s : Shared) (σ : L2.St) (H : Hp) (Nx : Hp → Prop) (α : Type) (c : Sem α) (Q : α → Shared → Prop) (E : Value → Shared → Prop), L2.Inv Y pins σ H s → t σ H Nx →
    (∀ σ' H' s', L2.Inv Y pins σ' H' s' → σ.length = σ'.length → (∀ (j : Nat) v, (wipe σ vs)[j]? = some (some v) → σ'[j]? = some (some v)) → Nx H' → wpAny (model Y.prog Y.w) Y.A c Q E s') →
    wpAny (model Y.prog Y.w) Y.A (behind elt gens scope pos k (.ref D) Y.env c) Q E s
def tLeaf (te : TE) (D : Addr) : TIn := fun σ H Nx => te σ H fun y H1 => ∃ acc, H1 D = some (.lst acc) ∧ acc.length < sizeLine ∧ Nx (upd H1 D (.lst (acc ++ [y])))
/-- the turns over what has come -/
def tRun (J : It) (g : TG) (tt : TT) (t : TIn) (vs : List Nat) : TIn := fun σ H1 Nx => ∃ W : Nat → Nat → Hp → Prop, (∃ m, W 0 m H1) ∧ ∀ i m H2, W i m H2 →
  (J.stop i H2 ∧ Nx H2) ∨ (J.go i H2 ∧ ∃ N1 : Hp → Prop, (∀ H', N1 H' → ∃ m', m' < m ∧ W (i + 1) m' H') ∧ ∀ x H3, J.yld i H2 x H3 → g x (wipe σ vs) H3 fun σ2 H4 => wipe σ2 vs = wipe σ vs ∧ tt σ2 H4 fun b H5 => if b = true then t σ2 H5 N1 else N1 H5)
def tCl (wi : TI) (g : TG) (tt : TT) (t : TIn) (vs : List Nat) : TIn := fun σ H Nx => wi σ H fun J H1 => tRun J g tt t vs σ H1 Nx
section
variable {Y : Cx} {elt tg iter : Expr} {ifs : List Expr} {gens : List Comprehension} {scope : Scope} {pos : Pos} {k : Nat} {D : Addr} {te : TE} {wi : TI} {g : TG} {tt : TT} {t : TIn} {vs vs' : List Nat}
theorem no_xe {α : Type} {m : Sem α} {Q : α → Shared → Prop} {s : Shared} (hx : ∀ e t, Y.xe e t → False) (h : wpAny (model Y.prog Y.w) Y.A m Q Y.xe s) : wpAny (model Y.prog Y.w) Y.A m Q (fun _ _ => False) s := wpAny_mono h (fun _ _ q => q) hx
theorem pin_leaf (hx : ∀ e t, Y.xe e t → False) (hk : gens[k]? = none) (he : PE Y elt te) : PIn Y elt gens scope pos k D [] (tLeaf te D) := by
  refine ⟨fun pins s σ H Nx α c Q E I h q => ?_⟩
  rw [behind_none hk]
  refine wpAny_bind (wpAny_bind (thnF (no_xe hx (he.run pins s σ H _ I h)) fun z s1 ⟨y, H1, I1, r1, acc, hD, hz, nx⟩ => ?_))
  refine wpAny_bind (app_ok (X := Y) I1 hD hz r1 fun s2 I2 => wpAny_pure ?_)
  exact q σ _ s2 I2 rfl (fun j v e => (wipe_some e).1) nx
theorem loop_run {pins : List (Addr × Obj)} {s2 : Shared} {σ : L2.St} {H2 : Hp} {Nx : Hp → Prop} {it : Addr} {fp : List Addr} {tn : Nat → Heap → Prop} {J : It} (hx : ∀ e t, Y.xe e t → False) (hc : Y.calm = true) (hk : gens[k]? = some ⟨tg, iter, ifs, 0⟩) (hn : ∀ c, gens[k + 1]? = some c → c.is_async = 0)
    (hg : PG Y tg g) (ht : PTs Y ifs tt) (hb : PIn Y elt gens scope pos (k + 1) D vs' t) (sub : ∀ i ∈ vs', i ∈ vs) (I2 : L2.Inv Y pins (wipe σ vs) H2 s2) (T : Turn Y.prog Y.w Y.K tg J fp it tn) (st2 : tn 0 s2.heap) (f2 : ∀ b ∈ fp, FpOk Y pins H2 b) (h : tRun J g tt t vs σ H2 Nx) :
    codeAny (model Y.prog Y.w) Y.A (.compLoop (.ListComp elt gens scope pos) k (.ref it) (.ref D) Y.env)
      (fun r s' => match r with
        | .ok f => f = .next ∧ ∃ H', L2.Inv Y pins (wipe σ vs) H' s' ∧ Nx H'
        | .error _ => False) s2 := by
  obtain ⟨W, ⟨m0, w0⟩, turn⟩ := h
  have still : ∀ {H' : Hp}, (∀ b ∈ fp, H' b = none) → ∀ b ∈ fp, FpOk Y pins H' b := fun hn b hb => ⟨hn b hb, (f2 b hb).2⟩
  refine loopN hk hn (fun n t => ∃ i H', L2.Inv Y pins (wipe σ vs) H' t ∧ tn i t.heap ∧ (∀ b ∈ fp, H' b = none) ∧ W i n H') ?_ m0 ⟨0, H2, I2, st2, fun b hb => (f2 b hb).1, w0⟩
  rintro n s3 ⟨i, H3, I3, st3, n3, w3⟩
  rcases turn i n H3 w3 with ⟨stop, nx⟩ | ⟨go, N1, hN, step⟩
  · refine thnF (T.done Y rfl rfl rfl hc i pins s3 (wipe σ vs) H3 (fun _ _ => False) I3 (still n3) st3 stop) fun r s4 ⟨hr, I4⟩ => ?_
    subst hr
    exact ⟨rfl, H3, I4, nx⟩
  · refine thnF (T.item Y rfl rfl rfl hc i pins s3 (wipe σ vs) H3 (fun _ _ => False) I3 (still n3) st3 go) fun r s4 ⟨u, hr, h4⟩ => ?_
    subst hr
    refine thnF h4 fun _ s5 ⟨y, H5, I5, r5, y5, st5, n5⟩ => ?_
    have I5' := I5.pinned (still n5) (T.obj _ _ st5)
    refine thnF (no_xe hx (hg.run _ s5 (wipe σ vs) H5 y u _ I5' r5 (step y H5 y5))) fun _ s6 ⟨σ6, H6, I6, hw6, q6⟩ => ?_
    refine thnF (no_xe hx (ht.run _ s6 σ6 H6 _ I6 q6)) fun b s7 ⟨H7, I7, q7⟩ => ?_
    have fin : ∀ {σ9 : L2.St} {s9 : Shared} {H9 : Hp}, L2.Inv Y (pins ++ pinsAt fp s5.heap) σ9 H9 s9 → (wipe σ vs).length = σ9.length → (∀ (j : Nat) v, (wipe σ vs)[j]? = some (some v) → σ9[j]? = some (some v)) → N1 H9 →
        ∃ m, m < n ∧ ∃ i H', L2.Inv Y pins (wipe σ vs) H' s9 ∧ tn i s9.heap ∧ (∀ b ∈ fp, H' b = none) ∧ W i m H' := fun {σ9 s9 H9} I9 l9 k9 nx => by
      obtain ⟨m', hm, w9⟩ := hN H9 nx
      have pin : ∀ b ∈ fp, ∀ o, s5.heap.get? b = some o → s9.heap.get? b = some o ∧ H9 b = none := fun b hb o e =>
        let z := I9.pin (b, o) (List.mem_append_right _ (List.mem_append_right _ (mem_pinsAt hb e)))
        ⟨z.1, z.2.1⟩
      refine ⟨m', hm, i + 1, H9, I9.unpinned.weak l9 k9, T.keep _ _ _ st5 fun b hb o e => (pin b hb o e).1, fun b hb => ?_, w9⟩
      obtain ⟨o, e, _⟩ := T.obj _ _ st5 b hb
      exact (pin b hb o e).2
    have l6 : (wipe σ vs).length = σ6.length := by rw [← hw6, wipe_length]
    have k6 : ∀ (j : Nat) v, (wipe σ vs)[j]? = some (some v) → σ6[j]? = some (some v) := fun j v e => by
      rw [← hw6] at e
      exact (wipe_some e).1
    match b with
    | false => exact fin I7 l6 k6 q7
    | true =>
      intro c1 Q1 next
      refine hb.go _ s7 σ6 H7 N1 _ c1 Q1 _ I7 q7 fun σ8 H8 s8 I8 l8 k8 nx => next s8 ?_
      refine fin I8 (l6.trans l8) (fun j v e => k8 j v ?_) nx
      rw [← hw6] at e
      obtain ⟨e1, e2⟩ := wipe_some e
      rw [wipe_out fun z => e2 (sub j z)]
      exact e1
theorem pin_clause (hx : ∀ e t, Y.xe e t → False) (hc : Y.calm = true) (hk : gens[k]? = some ⟨tg, iter, ifs, 0⟩) (hn : ∀ c, gens[k + 1]? = some c → c.is_async = 0) (hi : PI Y tg iter wi) (hg : PG Y tg g) (ht : PTs Y ifs tt) (hb : PIn Y elt gens scope pos (k + 1) D vs' t) (sub : ∀ i ∈ vs', i ∈ vs)
    (hs : ∀ x, foldedSetIterable iter Y.env x = pure x) : PIn Y elt gens scope pos k D vs (tCl wi g tt t vs) := by
  refine ⟨fun pins s σ H Nx α c Q E I h q => ?_⟩
  rw [behind_some hk]
  refine wpAny_bind (thnF (no_xe hx (hi.run pins s σ H _ I h)) fun x s1 hx1 => ?_)
  refine wpAny_bind (wpAny_standAt (wpAny_bind (wpAny_of_eq (hs x) ?_)))
  refine wpAny_bind (wpAny_holding (thnF (no_xe hx hx1) fun itv s2 h2 => ?_))
  obtain ⟨it, fp, tn, J, H2, rfl, I2, T, st2, f2, h⟩ := h2
  refine wpAny_bind (wpAny_runOwn ?_)
  rw [Around.mark_none]
  have loop := loop_run (σ := σ) hx hc hk hn hg ht hb sub (I2.weak (wipe_length _ _) (fun j v e => (wipe_some e).1)) T st2 f2 h
  refine codeAny_mono (startN hk loop (T.self Y.A 0 _ _ _ st2 loop)) fun r s' z => ?_
  match r with
  | .ok f =>
    obtain ⟨_, H', I', nx⟩ := z
    exact q (wipe σ vs) H' s' I' (wipe_length σ vs).symm (fun j v e => e) nx
  | .error e => exact z.elim
end
/-- [elt for .. for ..]: D the new list -/
def tLcN (wi : TI) (g : TG) (tt : TT) (t : Addr → TIn) (vs : List Nat) : TE := fun σ H Q => wi σ H fun J H1 => ∀ D, H1 D = none → tRun J g tt (t D) vs σ (upd H1 D (.lst [])) fun H' => Q (.ref D) H'
section
variable {X : Cx}
theorem lcN_core {pins : List (Addr × Obj)} {s : Shared} {σ : L2.St} {H : Hp} {Q : VK} {elt tg iter : Expr} {ifs : List Expr} {rest : List Comprehension} {scope : Scope} {own : List (Str × Nat)} {pos pos' : Pos} {wi : TI} {g : TG} {tt : TT} {t : Addr → TIn} {vs' : List Nat} {use : Option (Value → Sem Unit)}
    {Qf : Value → Shared → Prop} (hc : X.calm = true) (hN : X.N.Nodup) (I : L2.Inv X pins σ H s) (hi : PI X tg iter wi) (ok : BlkOk X.N X.env.scope scope own)
    (hg : ∀ (s : Shared) (H : Hp) (C : Addr) (cl : List (Str × Addr)) (fp : List Addr), PG (X.blk s H scope (compEnvC scope cl C X.env) fp) tg g)
    (ht : ∀ (s : Shared) (H : Hp) (C : Addr) (cl : List (Str × Addr)) (fp : List Addr), PTs (X.blk s H scope (compEnvC scope cl C X.env) fp) ifs tt)
    (hb : ∀ (s : Shared) (H : Hp) (C : Addr) (cl : List (Str × Addr)) (fp : List Addr) (D : Addr), PIn (X.blk s H scope (compEnvC scope cl C X.env) fp) elt (⟨tg, iter, ifs, 0⟩ :: rest) scope pos 1 D vs' (t D)) (sub : ∀ i ∈ vs', i ∈ own.map (·.2))
    (hn : ∀ c, rest[0]? = some c → c.is_async = 0) (hs : ∀ x, foldedSetIterable iter X.env x = pure x) (h : tLcN wi g tt t (own.map (·.2)) σ H Q)
    (last : ∀ D C s' m H', L2.Inv X pins σ H' s' → Q (.ref D) H' → s'.heap.Ns C m → FpOk X pins H' C → compPost (model X.prog X.w) X.A X.xe use Qf (.ref D) C (.ok .next) s') :
    wpAny (model X.prog X.w) X.A (comprehension (.ListComp elt (⟨tg, iter, ifs, 0⟩ :: rest) scope pos) scope X.env pos' (newList []) false (eval iter X.env) use) Qf X.xe s := by
  have free : ∀ y ∈ scope.names, y.2 = .free → ∃ c, X.env.cells.lookup y.1 = some c := fun y hy e => (ok.free y hy e).elim (fun z => I.ok.has _ (.inl z)) fun z => I.ok.has _ (.inr z)
  refine wpAny_comprehension_free (use := use) rfl hs (closure_ok free) ok.kind (fun y hy e => by rw [ok.uniq y hy, e]) (thn (hi.run pins s σ H _ I h) fun xv s1 hx1 => thn hx1 fun itv s2 h2 => ?_)
  obtain ⟨it, fp, tn, J, H2, rfl, I2, T, st2, f2, q⟩ := h2
  refine wpAny_newObj_type (newEnv_comp ?_) (by show 0 ≤ sizeLine; decide)
  have dn : H2 s2.heap.objs.size = none := I2.hok.fresh (Nat.le_refl _)
  have run := q _ dn
  obtain ⟨s3, e3⟩ : ∃ s3 : Shared, s3 = { s2 with heap := s2.heap.push { cls := .type "list", data := .seq ([] : List Value).toArray } } := ⟨_, rfl⟩
  rw [← e3]
  have heap3 : s3.heap = s2.heap.push { cls := .type "list", data := .seq ([] : List Value).toArray } := by rw [e3]
  have I3 : L2.Inv X pins σ (upd H2 s2.heap.objs.size (.lst [])) s3 := by
    rw [e3]
    exact I2.laid (t' := s2.toks) (fun b o e => Heap.get?_push_of_some _ e) (Nat.le_refl _) ⟨Nat.zero_le _, [], 0, .nil, Heap.get?_push_size _ rfl⟩
  have st3 : tn 0 s3.heap := T.keep _ _ _ st2 fun b _ o e => by
    rw [heap3]
    exact Heap.get?_push_of_some _ e
  have low : ∀ b ∈ fp, b ≠ s2.heap.objs.size ∧ b < s3.heap.objs.size := fun b hb => by
    obtain ⟨o, e, _⟩ := T.obj _ _ st2 b hb
    have lt := Heap.lt_size e
    exact ⟨Nat.ne_of_lt lt, by rw [heap3, Heap.size_push]; exact Nat.lt_succ_of_lt lt⟩
  generalize s2.heap.objs.size = D at run I3 heap3 dn low ⊢
  have f3 : ∀ b ∈ fp, FpOk X pins (upd H2 D (.lst [])) b ∧ b < s3.heap.objs.size := fun b hb => ⟨⟨by rw [upd_ne (low b hb).1]; exact (f2 b hb).1, (f2 b hb).2⟩, (low b hb).2⟩
  have I4 := block_start I3 ok hN f3
  have bg := hg s3 (upd H2 D (.lst [])) s3.heap.objs.size (cellsFrom (s3.heap.objs.size + 1) scope.names (cloFrom X.env.cells scope.names [])) fp
  have bt := ht s3 (upd H2 D (.lst [])) s3.heap.objs.size (cellsFrom (s3.heap.objs.size + 1) scope.names (cloFrom X.env.cells scope.names [])) fp
  have bb := hb s3 (upd H2 D (.lst [])) s3.heap.objs.size (cellsFrom (s3.heap.objs.size + 1) scope.names (cloFrom X.env.cells scope.names [])) fp D
  show codeAny (model X.prog X.w) X.A (.compStart _ 0 (.ref it) (.ref D) (compEnvC scope (cellsFrom (s3.heap.objs.size + 1) scope.names (cloFrom X.env.cells scope.names [])) s3.heap.objs.size X.env)) _ { s3 with heap := pushCells (s3.heap.push { cls := .type "dict", data := .dict #[] }) scope.names }
  have none3 : ∀ b ∈ fp, upd H2 D (.lst []) b = none := fun b hb => (f3 b hb).1.1
  obtain ⟨ce, ece⟩ : ∃ ce, ce = compEnvC scope (cellsFrom (s3.heap.objs.size + 1) scope.names (cloFrom X.env.cells scope.names [])) s3.heap.objs.size X.env := ⟨_, rfl⟩
  rw [← ece] at I4 bg bt bb ⊢
  have here : ce.locals = s3.heap.objs.size := by
    rw [ece]
    rfl
  obtain ⟨s4, e4⟩ : ∃ s4 : Shared, s4 = { s3 with heap := pushCells (s3.heap.push { cls := .type "dict", data := .dict #[] }) scope.names } := ⟨_, rfl⟩
  rw [← e4] at I4 ⊢
  have st4 : tn 0 s4.heap := T.keep _ _ _ st3 fun b _ o e => by
    rw [e4]
    exact pushCells_keeps _ _ _ _ (Heap.get?_push_of_some _ e)
  have in4 : ∀ b ∈ fp, FpOk (X.blk s3 (upd H2 D (.lst [])) scope ce fp) [] (upd H2 D (.lst [])) b := fun b hb => ⟨none3 b hb, (I4.ok.exf b hb).1, I4.ok.exfs b hb, .inl hb, fun x c e => (I4.ok.exf b hb).2 x c e, fun p hp => (nomatch (show p ∈ ([] : List (Addr × Obj)) ++ [] from hp))⟩
  have loop := loop_run (Y := X.blk s3 (upd H2 D (.lst [])) scope ce fp) (fun _ _ z => z) hc (rfl : ((⟨tg, iter, ifs, 0⟩ :: rest : List Comprehension))[0]? = some ⟨tg, iter, ifs, 0⟩) hn bg bt bb sub I4 T st4 in4 run
  have loop' : codeAny (model X.prog X.w) X.A (.compLoop (.ListComp elt (⟨tg, iter, ifs, 0⟩ :: rest) scope pos) 0 (.ref it) (.ref D) ce) (compPost (model X.prog X.w) X.A X.xe use Qf (.ref D) s3.heap.objs.size) s4 := by
    refine codeAny_mono loop fun r s' z => ?_
    match r with
    | .error e => exact z.elim
    | .ok f =>
      obtain ⟨rfl, H', I6, qq⟩ := z
      have I7 : L2.Inv X pins σ H' s' := I3.call' (ch := fp) I6.os I6.base I6.hok I6.bare fun b hb => by
        obtain ⟨_, z1, z2, z3, z4⟩ := (f3 b hb).1
        exact ⟨z3, z1, z4.1, z4.2⟩
      have gone : H' s3.heap.objs.size = none := by
        have z : H' ce.locals = none := I6.free
        rw [here] at z
        exact z
      obtain ⟨m, nm, _⟩ := I6.loc
      have nm : s'.heap.Ns ce.locals m := nm
      rw [here] at nm
      exact last D s3.heap.objs.size s' m H' I7 qq nm (I3.fpOk (Nat.le_refl _) gone)
  exact codeAny_compStart_list loop' (T.self X.A 0 _ _ _ st4 loop')
/-- as a value -/
theorem pe_lcN {elt tg iter : Expr} {ifs : List Expr} {rest : List Comprehension} {scope : Scope} {own : List (Str × Nat)} {pos : Pos} {wi : TI} {g : TG} {tt : TT} {t : Addr → TIn} {vs' : List Nat} (hc : X.calm = true) (hN : X.N.Nodup) (hi : PI X tg iter wi) (ok : BlkOk X.N X.env.scope scope own)
    (hg : ∀ (s : Shared) (H : Hp) (C : Addr) (cl : List (Str × Addr)) (fp : List Addr), PG (X.blk s H scope (compEnvC scope cl C X.env) fp) tg g)
    (ht : ∀ (s : Shared) (H : Hp) (C : Addr) (cl : List (Str × Addr)) (fp : List Addr), PTs (X.blk s H scope (compEnvC scope cl C X.env) fp) ifs tt)
    (hb : ∀ (s : Shared) (H : Hp) (C : Addr) (cl : List (Str × Addr)) (fp : List Addr) (D : Addr), PIn (X.blk s H scope (compEnvC scope cl C X.env) fp) elt (⟨tg, iter, ifs, 0⟩ :: rest) scope pos 1 D vs' (t D)) (sub : ∀ i ∈ vs', i ∈ own.map (·.2))
    (hn : ∀ c, rest[0]? = some c → c.is_async = 0) (hs : ∀ x, foldedSetIterable iter X.env x = pure x := by intro _; rfl) : PE X (.ListComp elt (⟨tg, iter, ifs, 0⟩ :: rest) scope pos) (tLcN wi g tt t (own.map (·.2))) := by
  refine ⟨fun pins s σ H Q I h => ?_⟩
  rw [eval_ListComp]
  refine lcN_core hc hN I hi ok hg ht hb sub hn hs h fun D C s' m H' I' q nm f => ⟨m, nm, fun h'' sb => ?_⟩
  obtain ⟨f0, f1, _, f3, f4, f5⟩ := f
  exact ⟨.ref D, H', I'.turned (t' := s'.toks) (fun b o ne e => (sb.2 b ne).trans e) f0 f1 f3 f4 f5, rfl, q⟩
end
end KZ

namespace KZ
open PySem PySem.Spec PyProof.Rows L2
/-! range(n) as a value, walked -/
def rRg1 : List V → Hp → VK → Prop := fun vs H Q => ∃ j : Int, vs = [.int j] ∧ ∀ p, H p = none → Q (.ref p) (upd H p (.rng 0 j))
theorem call_rg1 {X : Cx} : CallR X (.type "range") rRg1 := by
  intro pins s σ H vs us Q I r h
  obtain ⟨j, rfl, q⟩ := h
  obtain ⟨u1, rfl, rj⟩ := vals1 r
  obtain ⟨t, rfl⟩ := rj
  refine call_range_1 ⟨.ref s.heap.objs.size, upd H s.heap.objs.size (.rng 0 j), I.laid (t' := s.toks + 1 + 1) (fun b o e => Heap.get?_push_of_some _ e) (Nat.le_refl _) ?_, rfl, q _ (I.hok.fresh (Nat.le_refl _))⟩
  exact ⟨_, _, _, Heap.get?_push_size _ rfl⟩
def iRgV (tl : TE) : TI := fun σ H R => tl σ H fun x H1 => ∃ (a : Addr) (lo hi : Int), x = .ref a ∧ H1 a = some (.rng lo hi) ∧ (-(2 ^ 62) ≤ lo ∧ lo < 2 ^ 62 ∧ -(2 ^ 62) ≤ hi ∧ hi < 2 ^ 62) ∧ R (Itr lo (hi - lo).toNat) H1
theorem pi_rgV {X : Cx} {tg l : Expr} {tl : TE} (hl : PE X l tl) : PI X tg l (iRgV tl) := by
  refine ⟨fun pins s σ H R I h => ?_⟩
  refine thn (hl.run pins s σ H _ I h) fun v s1 ⟨x, H1, I1, r1, a, lo, hi, ex, ha, ⟨b1, b2, b3, b4⟩, q⟩ => ?_
  subst ex
  cases r1
  obtain ⟨t, u, w, hg⟩ := I1.hok a _ ha
  refine wpAny_pyIter_range (t := t) (u := u) (v := w) hg (small_one b1 b2 b3 b4) ?_
  have I2 : L2.Inv X pins σ H1 { s1 with heap := s1.heap.push { cls := .type "range_iterator", data := .fields #[rawInt lo, rawInt (Builtin.Range.rangeSize lo hi 1), rawInt 1] } } := I1.kept (t' := s1.toks) fun b o e => Heap.get?_push_of_some _ e
  refine ⟨s1.heap.objs.size, [s1.heap.objs.size], _, _, H1, rfl, I2, turn_range _ lo (hi - lo).toNat, ?_, fun b hb => ?_, q⟩
  · have e1 : lo + ((0 : Nat) : Int) * 1 = lo := by simp
    have e2 : (((hi - lo).toNat : Nat) : Int) - ((0 : Nat) : Int) = Builtin.Range.rangeSize lo hi 1 := by
      rw [rangeSize_one]
      split <;> omega
    show IsRangeIter _ _ (lo + ((0 : Nat) : Int) * 1) ((((hi - lo).toNat : Nat) : Int) - ((0 : Nat) : Int)) 1
    rw [e1, e2]
    exact Heap.get?_push_size _ rfl
  · rw [List.mem_singleton.mp hb]
    exact I1.fpOk (Nat.le_refl _) (I1.hok.fresh (Nat.le_refl _))
/-! the turns of a clause, by what is true ahead of each -/
theorem run_range {lo : Int} {n : Nat} {g : TG} {tt : TT} {t : TIn} {vs : List Nat} {σ : L2.St} {H : Hp} {Nx : Hp → Prop} (Pv : Nat → Hp → Prop) (h0 : Pv 0 H)
    (hs : ∀ i H, i < n → Pv i H → g (.int (lo + i)) (wipe σ vs) H fun σ2 H2 => wipe σ2 vs = wipe σ vs ∧ tt σ2 H2 fun b H3 => if b = true then t σ2 H3 (Pv (i + 1)) else Pv (i + 1) H3) (hd : ∀ H, Pv n H → Nx H) : tRun (Itr lo n) g tt t vs σ H Nx := by
  refine ⟨fun i m H => m = n - i ∧ i ≤ n ∧ Pv i H, ⟨n, by simp, Nat.zero_le _, h0⟩, ?_⟩
  rintro i m H2 ⟨rfl, hi, p⟩
  by_cases lt : i < n
  · refine Or.inr ⟨lt, Pv (i + 1), fun H' p' => ⟨n - (i + 1), by omega, rfl, lt, p'⟩, fun x H' y => ?_⟩
    obtain ⟨rfl, rfl⟩ := y
    exact hs i _ lt p
  · have e : i = n := by omega
    subst e
    exact Or.inl ⟨Nat.le_refl _, hd H2 p⟩
theorem run_tup {K : PySem.W.Frag} {a : Addr} {xs : List V} {g : TG} {tt : TT} {t : TIn} {vs : List Nat} {σ : L2.St} {H : Hp} {Nx : Hp → Prop} (Pv : Nat → Hp → Prop) (h0 : Pv 0 H) (hl : ∀ i H, i ≤ xs.length → Pv i H → SqT K H a xs)
    (hs : ∀ i x H, xs[i]? = some x → Pv i H → g x (wipe σ vs) H fun σ2 H2 => wipe σ2 vs = wipe σ vs ∧ tt σ2 H2 fun b H3 => if b = true then t σ2 H3 (Pv (i + 1)) else Pv (i + 1) H3) (hd : ∀ H, Pv xs.length H → Nx H) : tRun (Itt K a) g tt t vs σ H Nx := by
  refine ⟨fun i m H => m = xs.length - i ∧ i ≤ xs.length ∧ Pv i H, ⟨xs.length, by simp, Nat.zero_le _, h0⟩, ?_⟩
  rintro i m H2 ⟨rfl, hi, p⟩
  have sq := hl i H2 hi p
  by_cases lt : i < xs.length
  · refine Or.inr ⟨⟨xs, xs[i], sq, by simp [lt]⟩, Pv (i + 1), fun H' p' => ⟨xs.length - (i + 1), by omega, rfl, lt, p'⟩, fun x H' y => ?_⟩
    obtain ⟨rfl, y⟩ := y
    exact hs i x _ (y xs sq) p
  · have e : i = xs.length := by omega
    subst e
    exact Or.inl ⟨⟨xs, sq, Nat.le_refl _⟩, hd H2 p⟩
end KZ

namespace KZ
open PySem PySem.Spec PyProof.Rows L2
/-! several except clauses, some of them with a name -/
/-- a clause: the class, the slot of its name if it has one, its suite -/
structure Clause where
  c : Value
  slot : Option Nat
  ts : Addr → Value → Option Addr → TS
def unnamed (i : Nat) (D : Ends) : Ends := { nx := fun σ H => D.nx (σ.set i none) H, rt := D.rt, bk := fun σ H => D.bk (σ.set i none) H, ct := fun σ H => D.ct (σ.set i none) H }
def Clause.run (q : Clause) (a : Addr) (cls : Value) (d : Option Addr) (D : Ends) (σ : L2.St) (H : Hp) : Prop := match q.slot with
  | none => q.ts a cls d D σ H
  | some i => i < σ.length → q.ts a cls d (unnamed i D) (σ.set i (some (.ref a))) H
def wClauses (K : PySem.W.Frag) (Wout : WX) (D : Ends) : List Clause → WX
  | [] => Wout
  | q :: r => fun cls d σ H => ∃ b, PySem.W.exmOne K cls q.c = some b ∧ (b = true → ∀ a, H a = none → q.run a cls d D σ H) ∧ (b = false → wClauses K Wout D r cls d σ H)
inductive Clauses (X : Cx) : List ExceptHandler → List Clause → Prop
  | nil : Clauses X [] []
  | bare {x : Str} {c : Value} {ts : Addr → Value → Option Addr → TS} {b0 : Stmt} {bs : List Stmt} {np p : Pos} {hds : List ExceptHandler} {l : List Clause} (known : Names X x c)
      (suite : ∀ (a : Addr) (oe : Obj) (cls : Value) (d : Option Addr) (pn : List (Addr × Obj)), Zc cls d oe → (∃ vs, oe.data = .fields vs) → PSs (X.suite a ((a, oe) :: pn)) (b0 :: bs) (ts a cls d)) (r : Clauses X hds l) :
      Clauses X (.ExceptHandler (some (.Name x np)) none (b0 :: bs) p :: hds) (⟨c, none, ts⟩ :: l)
  | named {x n : Str} {i : Nat} {c : Value} {ts : Addr → Value → Option Addr → TS} {b0 : Stmt} {bs : List Stmt} {np p : Pos} {hds : List ExceptHandler} {l : List Clause} (known : Names X x c) (at_ : X.N[i]? = some n) (loc : X.env.kindOf n = some .local)
      (suite : ∀ (a : Addr) (oe : Obj) (cls : Value) (d : Option Addr) (pn : List (Addr × Obj)), Zc cls d oe → (∃ vs, oe.data = .fields vs) → PSs (X.suite a ((a, oe) :: pn)) (b0 :: bs) (ts a cls d)) (r : Clauses X hds l) :
      Clauses X (.ExceptHandler (some (.Name x np)) (some n) (b0 :: bs) p :: hds) (⟨c, some i, ts⟩ :: l)
section
variable {X : Cx} {body : List Stmt} {h0 : ExceptHandler} {hds : List ExceptHandler} {l : List Clause} {pos : Pos} {tb : WX → TS} {Wout : WX}
theorem ps_try_named (hs : X.stack = X.env :: X.outer) (hf : X.env.frame = some X.env.locals) (nd : X.N.Nodup) (tk : Takes X Wout)
    (hb : ∀ (W : WX) (pn : List (Addr × Obj)) (xe : Value → Shared → Prop), Takes (X.tr pn xe) W → PassesOwn (model X.prog X.w) X.A X.env xe → PSs (X.tr pn xe) body (tb W)) (hh : Clauses X (h0 :: hds) l) :
    PS X (.Try body (h0 :: hds) [] [] pos) (fun D σ H => tb (wClauses X.K Wout D l) D σ H) := by
  refine ⟨fun pins s σ H D I wish => ?_⟩
  have inn := I.ok
  have frames : X.A.frames = some (X.env :: X.outer) := by rw [inn.frames, hs]
  refine wpAny_Try_except ?_
  let look : Value → Shared → Prop := fun e t1 => wpAny (model X.prog X.w) X.A (noteFrame e X.env) (fun _ t2 => wpAny (model X.prog X.w) X.A (setFlight e none) (fun _ t3 => wpAny (model X.prog X.w) X.A (handleBy e X.env (h0 :: hds)) (SP X pins D) X.xe t3) X.xe t2) X.xe t1
  refine wpAny_mono ((hb (wClauses X.K Wout D l) (X.pn ++ pins) look (fun u t came => ?_) PassesOwn.looking).run [] s σ H D (I.toTry _) wish) (fun fl t out => ?_) (fun e t z => z)
  · obtain ⟨a, B, sI, pins', σ1, H1, cls, d, rfl, Jt, nb, up, sky, na, os, ag, wants⟩ := came
    have J : L2.Inv X pins σ1 H1 sI := Jt.ofTry inn
    have skyX : Sky B (X.env :: X.outer) a (Zc cls d) X.env.locals t.heap := by
      rw [← hs]
      exact sky
    show wpAny (model X.prog X.w) X.A (noteFrame (.ref a) X.env) _ _ _
    refine Sky.land Zc.steady frames hf skyX fun g1 land1 up1 => ?_
    have K1 : L2.Inv X pins σ1 H1 { t with heap := g1 } := J.landed nb land1.1 (up.trans up1) os ag
    obtain ⟨ob, fv, eb, zb, db⟩ := land1.there
    have notIn : a ∉ frs (X.env :: X.outer) := fun hm => by
      obtain ⟨_, o', e', other⟩ := land1.2.2.1.mem hm
      rw [eb] at e'
      cases e'
      exact other _ db
    have notL : a ≠ X.env.locals := fun z => notIn (List.mem_filterMap.mpr ⟨X.env, List.mem_cons_self, by rw [hf, z]⟩)
    have notF : a ∉ X.fs := fun hm => by
      obtain ⟨e, he, q⟩ := List.mem_filterMap.mp hm
      exact notIn (List.mem_filterMap.mpr ⟨e, List.mem_cons_of_mem _ he, q⟩)
    have L1 := K1.suite eb db na notL notF
    -- the test of one clause
    have asked : ∀ {x : Str} {c : Value} {np : Pos} {Q : Value → Shared → Prop} {E : Value → Shared → Prop}, Names X x c → Q c { t with heap := g1 } → wpAny (model X.prog X.w) (X.A.mark (some (.ref a))) (eval (.Name x np) X.env) Q E { t with heap := g1 } := fun {x c np Q E} known q => by
      obtain ⟨k1, k2, k3 | ⟨k3, k4, k5⟩⟩ := known
      · exact ld_glob (X := X.suite a ((a, ob) :: (X.pn ++ pins))) L1 k1 k3 q k2
      · exact ld_blt (X := X.suite a ((a, ob) :: (X.pn ++ pins))) L1 k1 k3 k4 q k5 k2
    have looks : PySem.W.Looks (model X.prog X.w) g1 (typeOf (.ref a)) cls := fun A Q E s k q => wpAny_typeOf_ref (k _ _ eb) (by
      rw [zb.1]
      exact q)
    have every : ∀ {hs' : List ExceptHandler} {l' : List Clause}, Clauses X hs' l' → wClauses X.K Wout D l' cls d σ1 H1 → wpAny (model X.prog X.w) X.A (handleBy (.ref a) X.env hs') (SP X pins D) X.xe { t with heap := g1 } := by
      intro hs' l' cl
      induction cl with
      | nil =>
        intro want
        refine wpAny_handleBy_nil ?_
        obtain ⟨_, _, _, oe, vs, T1, oT, ts', e1, e2, e3, e4, _⟩ := id land1
        unfold PySem.passOn
        refine wpAny_bind (wpAny_field e1 e3 e4 ?_)
        rw [if_neg (show ¬ ((Value.ref T1 == Value.none) = true) from by simp)]
        have away : wpAny (model X.prog X.w) X.A (setFlight (.ref a) X.env.frame) (fun _ t4 => wpAny (model X.prog X.w) X.A (throw (.ref a) : Sem Flow) (SP X pins D) X.xe t4) X.xe { t with heap := g1 } := by
          rw [hf]
          refine HandSPX.setFlight_upZ land1 fun g2 here2 up2 => wpAny_throw (tk _ _ ?_)
          exact ⟨a, B, sI, pins, σ1, H1, cls, d, rfl, J, nb, (up.trans up1).trans up2, .inr (.inr (by rw [hs]; exact here2)), na, os, ag, want⟩
        first
          | exact wpAny_bind (wpAny_pure (wpAny_bind away))
          | exact wpAny_bind away
      | @bare x c ts b0 bs np p hds2 l2 known suite r ih =>
        intro want
        obtain ⟨b, eq, yes, no⟩ := want
        refine wpAny_handleBy_cons (codeAny_handlers_test ?_) (by intro q; cases q)
        refine asked known ((PySem.W.exm_one (M := model X.prog X.w) K1.kIn looks eq).here ?_)
        match b with
        | true =>
          refine codeAny_handlers_suite ?_
          refine HandSPX.lands_againZ land1 fun g2 land2 up2 => ?_
          have K2 : L2.Inv X pins σ1 H1 { t with heap := g2 } := J.landed nb land2.1 ((up.trans up1).trans up2) os ag
          obtain ⟨oc, fc, ec, zc, dc⟩ := land2.there
          refine wpAny_mono ((suite a oc cls d (X.pn ++ pins) zc ⟨_, dc⟩).run [] _ _ H1 _ (K2.suite ec dc na notL notF) (yes rfl a na)) (fun fl t6 out => ?_) (fun _ _ z => False.elim z)
          match fl with
          | .next =>
            obtain ⟨σ6, H6, S6, q6⟩ := out
            exact ⟨_, _, S6.unsuite inn, q6⟩
          | .brk =>
            obtain ⟨σ6, H6, S6, q6⟩ := out
            exact ⟨_, _, S6.unsuite inn, q6⟩
          | .cont =>
            obtain ⟨σ6, H6, S6, q6⟩ := out
            exact ⟨_, _, S6.unsuite inn, q6⟩
          | .ret u =>
            obtain ⟨v6, σ6, H6, S6, r6, q6⟩ := out
            exact ⟨_, _, _, S6.unsuite inn, r6, q6⟩
        | false =>
          show wpAny _ X.A (handleBy (.ref a) X.env hds2) _ _ _
          exact ih (no rfl)
      | @named x n i c ts b0 bs np p hds2 l2 known at_ loc suite r ih =>
        intro want
        obtain ⟨b, eq, yes, no⟩ := want
        refine wpAny_handleBy_cons (codeAny_handlers_test ?_) (by intro q; cases q)
        refine asked known ((PySem.W.exm_one (M := model X.prog X.w) K1.kIn looks eq).here ?_)
        match b with
        | true =>
          refine codeAny_handlers_suite_as ?_
          refine HandSPX.lands_againZ land1 fun g2 land2 up2 => ?_
          have K2 : L2.Inv X pins σ1 H1 { t with heap := g2 } := J.landed nb land2.1 ((up.trans up1).trans up2) os ag
          obtain ⟨oc, fc, ec, zc, dc⟩ := land2.there
          refine store_ok (X := X.suite a ((a, oc) :: (X.pn ++ pins))) (v := .ref a) (K2.suite ec dc na notL notF) nd at_ (.inl loc) rfl (fun t5 S5 => ?_) (.inr loc)
          refine wpAny_mono ((suite a oc cls d (X.pn ++ pins) zc ⟨_, dc⟩).run [] t5 _ H1 _ S5 (yes rfl a na (by rw [J.len]; exact (List.getElem?_eq_some_iff.mp at_).1))) (fun fl t6 out => ?_) (fun _ _ z => False.elim z)
          have leave : ∀ {σ6 : L2.St} {H6 : Hp} {Q : Shared → Prop}, L2.Inv (X.suite a ((a, oc) :: (X.pn ++ pins))) [] σ6 H6 t6 → (∀ t7, L2.Inv X pins (σ6.set i none) H6 t7 → Q t7) →
              wpAny (model X.prog X.w) X.A (do bindName X.env n .none; unbindBehindTheSuite X.env n p) (fun _ t7 => Q t7) X.xe t6 := fun S6 q => gone_ok (S6.unsuite inn) nd at_ loc q
          match fl with
          | .next =>
            obtain ⟨σ6, H6, S6, q6⟩ := out
            exact leave S6 fun t7 J7 => ⟨_, _, J7, q6⟩
          | .brk =>
            obtain ⟨σ6, H6, S6, q6⟩ := out
            exact leave S6 fun t7 J7 => ⟨_, _, J7, q6⟩
          | .cont =>
            obtain ⟨σ6, H6, S6, q6⟩ := out
            exact leave S6 fun t7 J7 => ⟨_, _, J7, q6⟩
          | .ret u =>
            obtain ⟨v6, σ6, H6, S6, r6, q6⟩ := out
            exact leave S6 fun t7 J7 => ⟨_, _, _, J7, r6, q6⟩
        | false =>
          show wpAny _ X.A (handleBy (.ref a) X.env hds2) _ _ _
          exact ih (no rfl)
    exact every hh wants
  · match fl with
    | .next =>
      obtain ⟨σ', H', J', q⟩ := out
      exact wpAny_execs_nil ⟨σ', H', J'.ofTry inn, q⟩
    | .brk =>
      obtain ⟨σ', H', J', q⟩ := out
      exact ⟨σ', H', J'.ofTry inn, q⟩
    | .cont =>
      obtain ⟨σ', H', J', q⟩ := out
      exact ⟨σ', H', J'.ofTry inn, q⟩
    | .ret u =>
      obtain ⟨v, σ', H', J', r, q⟩ := out
      exact ⟨v, σ', H', J'.ofTry inn, r, q⟩
end
end KZ

namespace KZ
open PySem PySem.Spec PyProof.Rows L2

/-! data under a heap that tells more -/
def Sub (H H' : Hp) : Prop := ∀ a o, H a = some o → H' a = some o
theorem Sub.refl (H : Hp) : Sub H H := fun _ _ h => h
theorem Sub.trans {A B C : Hp} (x : Sub A B) (y : Sub B C) : Sub A C := fun a o h => y a o (x a o h)
theorem Sub.rd {H H' : Hp} (k : Sub H H') {a : Addr} {u : HO} (h : Rd H a u) : Rd H' a u :=
  h.elim (fun h => Or.inl (k _ _ h)) fun ⟨o, h⟩ => Or.inr ⟨o, k _ _ h⟩
theorem Sub.sqL {K : PySem.W.Frag} {H H' : Hp} (k : Sub H H') {a : Addr} {xs : List V} (h : SqL K H a xs) : SqL K H' a xs :=
  h.elim (fun h => Or.inl (k.rd h)) Or.inr
theorem Sub.sqT {K : PySem.W.Frag} {H H' : Hp} (k : Sub H H') {a : Addr} {xs : List V} (h : SqT K H a xs) : SqT K H' a xs :=
  h.elim (fun h => Or.inl (k.rd h)) Or.inr
mutual
theorem Sub.dp {K : PySem.W.Frag} {H H' : Hp} (k : Sub H H') : ∀ (d : PyData) (v : V), Dp K H v d → Dp K H' v d
  | .none, _, h => by
    cases h
    exact .non
  | .bool b, _, h => by
    cases h
    exact .bl b
  | .int i, _, h => by
    cases h
    exact .int i
  | .str x, _, h => by
    cases h
    exact .str x
  | .list ds, _, h => by
    cases h with
    | lst hs ha => exact .lst (k.sqL hs) (Sub.dps k ds _ ha)
  | .tuple ds, _, h => by
    cases h with
    | tup hs ha => exact .tup (k.sqT hs) (Sub.dps k ds _ ha)
  | .dict _, _, h => by cases h
theorem Sub.dps {K : PySem.W.Frag} {H H' : Hp} (k : Sub H H') : ∀ (ds : List PyData) (vs : List V), DpAll K H vs ds → DpAll K H' vs ds
  | [], _, h => by
    cases h
    exact .nil
  | d :: ds, _, h => by
    cases h with
    | cons h1 h2 => exact .cons (Sub.dp k d _ h1) (Sub.dps k ds _ h2)
end
end KZ
namespace L2
open PySem PySem.Spec PyProof.Rows
theorem DpAll.len {K : PySem.W.Frag} {H : Hp} : ∀ {ds : List PyData} {vs : List V}, DpAll K H vs ds → vs.length = ds.length
  | [], _, h => by
    cases h
    rfl
  | d :: ds, _, h => by
    cases h with
    | cons h1 h2 => rw [List.length_cons, List.length_cons, DpAll.len h2]
theorem DpAll.get {K : PySem.W.Frag} {H : Hp} : ∀ {ds : List PyData} {vs : List V} {i : Nat} {d : PyData}, DpAll K H vs ds → ds[i]? = some d → ∃ v, vs[i]? = some v ∧ Dp K H v d
  | [], _, _, _, _, e => by simp at e
  | d :: ds, _, 0, _, h, e => by
    cases h with
    | cons h1 h2 => exact ⟨_, rfl, by rw [← Option.some.inj e]; exact h1⟩
  | d :: ds, _, i + 1, _, h, e => by
    cases h with
    | cons h1 h2 => exact DpAll.get (i := i) h2 e
theorem DpAll.get' {K : PySem.W.Frag} {H : Hp} {ds : List PyData} {vs : List V} {i : Nat} {v : V} (h : DpAll K H vs ds) (e : vs[i]? = some v) : ∃ d, ds[i]? = some d ∧ Dp K H v d := by
  have hi : i < ds.length := by rw [← h.len]; exact (List.getElem?_eq_some_iff.mp e).1
  obtain ⟨w, hw, q⟩ := h.get (List.getElem?_eq_getElem hi)
  rw [e] at hw
  cases hw
  exact ⟨_, List.getElem?_eq_getElem hi, q⟩
theorem DpAll.app {K : PySem.W.Frag} {H : Hp} : ∀ {ds : List PyData} {vs ws : List V} {es : List PyData}, DpAll K H vs ds → DpAll K H ws es → DpAll K H (vs ++ ws) (ds ++ es)
  | [], _, _, _, h, g => by
    cases h
    exact g
  | d :: ds, _, _, _, h, g => by
    cases h with
    | cons h1 h2 => exact .cons h1 (DpAll.app h2 g)
theorem DpAll.one {K : PySem.W.Frag} {H : Hp} {v : V} {d : PyData} (h : Dp K H v d) : DpAll K H [v] [d] := .cons h .nil
theorem DpAll.drop {K : PySem.W.Frag} {H : Hp} : ∀ (n : Nat) {ds : List PyData} {vs : List V}, DpAll K H vs ds → DpAll K H (vs.drop n) (ds.drop n)
  | 0, _, _, h => h
  | n + 1, [], _, h => by
    cases h
    exact .nil
  | n + 1, d :: ds, _, h => by
    cases h with
    | cons h1 h2 => exact DpAll.drop n h2
theorem DpAll.take {K : PySem.W.Frag} {H : Hp} : ∀ (n : Nat) {ds : List PyData} {vs : List V}, DpAll K H vs ds → DpAll K H (vs.take n) (ds.take n)
  | 0, _, _, h => .nil
  | n + 1, [], _, h => by
    cases h
    exact .nil
  | n + 1, d :: ds, _, h => by
    cases h with
    | cons h1 h2 => exact .cons h1 (DpAll.take n h2)

end L2
namespace KZ
open PySem PySem.Spec PyProof.Rows L2
/-! data outside of some places -/
def er (M : List Addr) (H : Hp) : Hp := fun a => if a ∈ M then none else H a
theorem er_in {M : List Addr} {H : Hp} {a : Addr} (h : a ∉ M) : er M H a = H a := if_neg h
theorem er_sub (M : List Addr) (H : Hp) : Sub (er M H) H := fun a o h => by
  unfold er at h
  by_cases z : a ∈ M
  · rw [if_pos z] at h
    cases h
  · rw [if_neg z] at h
    exact h
/-- what stood outside of M stands -/
def Kp (M : List Addr) (H H' : Hp) : Prop := ∀ a o, a ∉ M → H a = some o → H' a = some o
theorem Kp.refl (M : List Addr) (H : Hp) : Kp M H H := fun _ _ _ h => h
theorem Kp.trans {M : List Addr} {A B C : Hp} (x : Kp M A B) (y : Kp M B C) : Kp M A C := fun a o m h => y a o m (x a o m h)
theorem Kp.less {M M' : List Addr} {H H' : Hp} (k : Kp M H H') (m : ∀ a ∈ M, a ∈ M') : Kp M' H H' := fun a o n h => k a o (fun z => n (m a z)) h
theorem Kp.er {M : List Addr} {H H' : Hp} (k : Kp M H H') : Sub (er M H) (er M H') := fun a o h => by
  by_cases z : a ∈ M
  · unfold KZ.er at h
    rw [if_pos z] at h
    cases h
  · rw [er_in z] at h ⊢
    exact k a o z h
theorem er_less {M M' : List Addr} (H : Hp) (m : ∀ a ∈ M, a ∈ M') : Sub (er M' H) (er M H) := fun a o h => by
  by_cases z : a ∈ M'
  · unfold KZ.er at h
    rw [if_pos z] at h
    cases h
  · rw [er_in z] at h
    rw [er_in fun y => z (m a y)]
    exact h
theorem Kp.new {M : List Addr} {H : Hp} {p : Addr} {o : HO} (h : H p = none) : Kp M H (upd H p o) := fun a u _ e => by
  rw [upd_ne (ne_of_none e h)]
  exact e
theorem Kp.mut {M : List Addr} {H : Hp} {p : Addr} {o : HO} (h : p ∈ M) : Kp M H (upd H p o) := fun a u n e => by
  rw [upd_ne fun z => n (by rw [z]; exact h)]
  exact e
/-- the places of M are known -/
def Kn (M : List Addr) (H : Hp) : Prop := ∀ a ∈ M, ∃ o, H a = some o
theorem Kn.new {M : List Addr} {H : Hp} (k : Kn M H) {p : Addr} {o : HO} : Kn M (upd H p o) := fun a m => by
  by_cases z : a = p
  · exact ⟨o, by rw [z]; exact upd_same⟩
  · rw [upd_ne z]
    exact k a m
theorem Kn.out {M : List Addr} {H : Hp} (k : Kn M H) {p : Addr} (h : H p = none) : p ∉ M := fun m => by
  obtain ⟨o, e⟩ := k p m
  rw [h] at e
  cases e
abbrev Dm (K : PySem.W.Frag) (M : List Addr) (H : Hp) (v : V) (d : PyData) : Prop := Dp K (er M H) v d
abbrev Dms (K : PySem.W.Frag) (M : List Addr) (H : Hp) (vs : List V) (ds : List PyData) : Prop := DpAll K (er M H) vs ds
section
variable {K : PySem.W.Frag} {M M' : List Addr} {H H' : Hp} {v : V} {d : PyData} {vs : List V} {ds : List PyData}
theorem Dm.k (h : Dm K M H v d) (k : Kp M H H') : Dm K M H' v d := Sub.dp k.er _ _ h
theorem Dms.k (h : Dms K M H vs ds) (k : Kp M H H') : Dms K M H' vs ds := Sub.dps k.er _ _ h
theorem Dm.less (h : Dm K M' H v d) (m : ∀ a ∈ M, a ∈ M') : Dm K M H v d := Sub.dp (er_less H m) _ _ h
theorem Dms.less (h : Dms K M' H vs ds) (m : ∀ a ∈ M, a ∈ M') : Dms K M H vs ds := Sub.dps (er_less H m) _ _ h
theorem Dm.all (h : Dm K M H v d) : Dp K H v d := Sub.dp (er_sub M H) _ _ h
theorem Dms.all (h : Dms K M H vs ds) : DpAll K H vs ds := Sub.dps (er_sub M H) _ _ h
/-- a fresh place may be set aside -/
theorem er_more {p : Addr} (h : H p = none) : er (p :: M) H = er M H := by
  funext a
  unfold er
  by_cases z : a = p
  · by_cases y : a ∈ M
    · rw [if_pos (List.mem_cons_of_mem _ y), if_pos y]
    · rw [if_pos (by rw [z]; exact List.mem_cons_self), if_neg y, z, h]
  · by_cases y : a ∈ M
    · rw [if_pos (List.mem_cons_of_mem _ y), if_pos y]
    · rw [if_neg (by intro q; rcases List.mem_cons.mp q with q | q; exact z q; exact y q), if_neg y]
theorem Dm.more {p : Addr} (h : Dm K M H v d) (hp : H p = none) : Dm K (p :: M) H v d := by
  show Dp K (er (p :: M) H) v d
  rw [er_more hp]
  exact h
theorem Dms.more {p : Addr} (h : Dms K M H vs ds) (hp : H p = none) : Dms K (p :: M) H vs ds := by
  show DpAll K (er (p :: M) H) vs ds
  rw [er_more hp]
  exact h
theorem Dm.tupNew {p : Addr} (n : Kn M H) (hp : H p = none) (h : Dms K M H vs ds) : Dm K M (upd H p (.tup vs)) (.ref p) (.tuple ds) :=
  .tup (SqT.of (by rw [er_in (n.out hp)]; exact upd_same)) (Dms.k h (Kp.new hp))
theorem Dm.lstNew {p : Addr} (n : Kn M H) (hp : H p = none) (h : Dms K M H vs ds) : Dm K M (upd H p (.lst vs)) (.ref p) (.list ds) :=
  .lst (SqL.of (by rw [er_in (n.out hp)]; exact upd_same)) (Dms.k h (Kp.new hp))
/-- a list that stands apart is data at last -/
theorem Dm.lstOf {p : Addr} (hp : p ∉ M) (e : H p = some (.lst vs)) (h : Dms K (p :: M) H vs ds) : Dm K M H (.ref p) (.list ds) :=
  .lst (SqL.of (by rw [er_in hp]; exact e)) (Dms.less h fun a m => List.mem_cons_of_mem _ m)
theorem Dm.tupAt (h : Dm K M H v (.tuple ds)) : ∃ a xs, v = .ref a ∧ SqT K H a xs ∧ Dms K M H xs ds := by
  cases h with
  | tup hs ha => exact ⟨_, _, rfl, (er_sub M H).sqT hs, ha⟩
theorem Dm.lstAt (h : Dm K M H v (.list ds)) : ∃ a xs, v = .ref a ∧ SqL K H a xs ∧ Dms K M H xs ds := by
  cases h with
  | lst hs ha => exact ⟨_, _, rfl, (er_sub M H).sqL hs, ha⟩
theorem Dm.lstAtE (h : Dm K M H v (.list ds)) : ∃ a xs, v = .ref a ∧ SqL K (er M H) a xs ∧ Dms K M H xs ds := by
  cases h with
  | lst hs ha => exact ⟨_, _, rfl, hs, ha⟩
theorem Dm.tupAtE (h : Dm K M H v (.tuple ds)) : ∃ a xs, v = .ref a ∧ SqT K (er M H) a xs ∧ Dms K M H xs ds := by
  cases h with
  | tup hs ha => exact ⟨_, _, rfl, hs, ha⟩
theorem Dm.intAt {i : Int} (h : Dm K M H v (.int i)) : v = .int i := by
  cases h
  rfl
theorem Dm.strAt {i : Str} (h : Dm K M H v (.str i)) : v = .str i := by
  cases h
  rfl
theorem Dm.blAt {i : Bool} (h : Dm K M H v (.bool i)) : v = .bl i := by
  cases h
  rfl
end

/-! the bag: a list of three ints and a list of ints -/
def Bag (b l : Addr) (H : Hp) : Prop := ∃ (x y i : Int) (cs : List Int), H b = some (.lst [.int x, .int y, .int i, .ref l]) ∧ l ≠ b ∧ H l = some (.lst (cs.map V.int)) ∧ 0 ≤ x ∧ 0 ≤ y ∧ y < 2147483647 ∧ 0 ≤ i ∧ cs.length ≤ 1000 ∧ ∀ c ∈ cs, 0 ≤ c
/-- a step beside the bag -/
structure Fr (b l : Addr) (H H' : Hp) : Prop where
  k : Kp [b] H H'
  bag : Bag b l H'
section
variable {b l p : Addr} {H H' A B C H0 : Hp} {o : HO} {M : List Addr}
theorem Bag.kp (g : Bag b l H) (k : Sub H H') : Bag b l H' := by
  obtain ⟨x, y, i, cs, h1, h2, h3, h4⟩ := g
  exact ⟨x, y, i, cs, k _ _ h1, h2, k _ _ h3, h4⟩
theorem Bag.at (g : Bag b l H) : ∃ o, H b = some o := by
  obtain ⟨x, y, i, cs, h1, _⟩ := g
  exact ⟨_, h1⟩
theorem Bag.atl (g : Bag b l H) : ∃ o, H l = some o := by
  obtain ⟨x, y, i, cs, _, _, h1, _⟩ := g
  exact ⟨_, h1⟩
theorem ne_new {a : Addr} (h : ∃ o, H a = some o) (hp : H p = none) : p ≠ a := fun z => by
  obtain ⟨o, e⟩ := h
  rw [← z, hp] at e
  cases e
theorem Fr.refl (g : Bag b l H) : Fr b l H H := ⟨Kp.refl _ _, g⟩
theorem Fr.trans (x : Fr b l A B) (y : Fr b l B C) : Fr b l A C := ⟨x.k.trans y.k, y.bag⟩
theorem Fr.sub (g : Bag b l H) (k : Sub H H') : Fr b l H H' := ⟨fun a o _ h => k a o h, g.kp k⟩
theorem Sub.new (h : H p = none) : Sub H (upd H p o) := fun a u e => by
  rw [upd_ne (ne_of_none e h)]
  exact e
theorem Fr.new (g : Bag b l H) (h : H p = none) : Fr b l H (upd H p o) := Fr.sub g (Sub.new h)
theorem Bag.put (g : Bag b l H) (hb : p ≠ b) (hl : p ≠ l) : Bag b l (upd H p o) := by
  obtain ⟨x, y, i, cs, h1, h2, h3, h4⟩ := g
  exact ⟨x, y, i, cs, by rw [upd_ne hb.symm]; exact h1, h2, by rw [upd_ne hl.symm]; exact h3, h4⟩
/-- a list of one's own, that the beginning does not know, is written -/
theorem Fr.mut (f : Fr b l H0 H) (g0 : Bag b l H0) (h0 : H0 p = none) : Fr b l H0 (upd H p o) :=
  ⟨fun a u n e => by
    rw [upd_ne (ne_of_none e h0)]
    exact f.k a u n e, f.bag.put (ne_new g0.at h0) (ne_new g0.atl h0)⟩
theorem Sub.mut (f : Sub H0 H) (h0 : H0 p = none) : Sub H0 (upd H p o) := fun a u e => by
  rw [upd_ne (ne_of_none e h0)]
  exact f a u e
/-- what is fresh behind is fresh ahead -/
theorem Fr.free (f : Fr b l H H') (g : Bag b l H) (h : H' p = none) : H p = none := by
  cases e : H p with
  | none => rfl
  | some o =>
    by_cases z : p = b
    · obtain ⟨o, e⟩ := f.bag.at
      rw [← z, h] at e
      cases e
    · rw [f.k p o (by simp [z]) e] at h
      cases h
theorem Sub.free (f : Sub H H') (h : H' p = none) : H p = none := by
  cases e : H p with
  | none => rfl
  | some o =>
    rw [f p o e] at h
    cases h
structure Cb (M : List Addr) (b l : Addr) (H : Hp) : Prop where
  bag : Bag b l H
  mem : b ∈ M
  kn : Kn M H
theorem Kn.fr (c : Kn M H) (f : Fr b l H H') : Kn M H' := fun a m => by
  by_cases z : a = b
  · rw [z]
    exact f.bag.at
  · obtain ⟨o, e⟩ := c a m
    exact ⟨o, f.k a o (by simp [z]) e⟩
theorem Kn.sub (c : Kn M H) (f : Sub H H') : Kn M H' := fun a m => by
  obtain ⟨o, e⟩ := c a m
  exact ⟨o, f a o e⟩
theorem Kn.more (c : Kn M H) (h : ∃ o, H p = some o) : Kn (p :: M) H := fun a m => by
  rcases List.mem_cons.mp m with z | z
  · rw [z]
    exact h
  · exact c a z
theorem Cb.fr (c : Cb M b l H) (f : Fr b l H H') : Cb M b l H' := ⟨f.bag, c.mem, c.kn.fr f⟩
theorem Cb.more (c : Cb M b l H) (h : ∃ o, H p = some o) : Cb (p :: M) b l H := ⟨c.bag, List.mem_cons_of_mem _ c.mem, c.kn.more h⟩
theorem Fr.kp (f : Fr b l H H') (m : b ∈ M) : Kp M H H' := f.k.less fun a h => by
  rw [List.mem_singleton.mp h]
  exact m
end
section
variable {K : PySem.W.Frag} {M : List Addr} {b l : Addr} {H H' : Hp} {v : V} {d : PyData} {vs : List V} {ds : List PyData}
theorem Dm.f (h : Dm K M H v d) (f : Fr b l H H') (m : b ∈ M) : Dm K M H' v d := h.k (f.kp m)
theorem Dms.f (h : Dms K M H vs ds) (f : Fr b l H H') (m : b ∈ M) : Dms K M H' vs ds := h.k (f.kp m)
theorem Dm.s (h : Dm K M H v d) (f : Sub H H') : Dm K M H' v d := h.k fun a o _ e => f a o e
theorem Dms.s (h : Dms K M H vs ds) (f : Sub H H') : Dms K M H' vs ds := h.k fun a o _ e => f a o e
end
end KZ

namespace KZ
open PySem PySem.Spec PyProof.Rows L2

def topS (i : Nat) : Stmt := PySem.Challenge.pw_comesthrough_k17_kinds_reordered_and_nam.main.body.getD i (.Pass ⟨0, 0, 0, 0⟩)
/-- xs[i] ahead of a store to it -/
def rGetL (K : PySem.W.Frag) : V → V → Hp → VK → Prop := fun o i H Q => ∃ (p : Addr) (xs : List V) (k : Nat) (v : V), o = .ref p ∧ i = .int (k : Int) ∧ SqL K H p xs ∧ k < 1000 ∧ xs[k]? = some v ∧ Q v H
theorem get_listZ {X : Cx} : PGet X (rGetL X.K) := by
  intro pins s σ H o i ov iv Q I ro ri h
  obtain ⟨p, xs, k, v, rfl, rfl, hq, hk, hx, q⟩ := h
  cases ro
  obtain ⟨t, rfl⟩ := ri
  obtain ⟨its, r, pl, hz⟩ := I.list hq
  obtain ⟨u, eu, ru⟩ := r.get hx
  refine wpAny_getItem_list pl.isList (by omega) (by omega) ?_ ⟨v, H, I, ru, q⟩
  simpa using eu

structure BagAt (b l : Addr) (x y i : Int) (cs : List Int) (H : Hp) : Prop where
  hb : H b = some (.lst [.int x, .int y, .int i, .ref l])
  ne : l ≠ b
  hl : H l = some (.lst (cs.map V.int))
theorem BagAt.sub {b l : Addr} {x y i : Int} {cs : List Int} {H H' : Hp} (g : BagAt b l x y i cs H) (k : Sub H H') : BagAt b l x y i cs H' := ⟨k _ _ g.hb, g.ne, k _ _ g.hl⟩
theorem BagAt.put {b l : Addr} {x y i x' y' i' : Int} {cs : List Int} {H : Hp} (g : BagAt b l x y i cs H) : BagAt b l x' y' i' cs (upd H b (.lst [.int x', .int y', .int i', .ref l])) :=
  ⟨upd_same, g.ne, by rw [upd_ne g.ne]; exact g.hl⟩
theorem head_cut (cs : List Int) (hc : ∀ c ∈ cs, 0 ≤ c) (i : Int) (hi : 0 ≤ i) : ∃ c : Int, 0 ≤ c ∧ atI (cutV (cs.map V.int) (some i) none ++ [V.int 0]) 0 = some (.int c) := by
  have hall : ∀ v ∈ cutV (cs.map V.int) (some i) none, ∃ c : Int, 0 ≤ c ∧ v = .int c := fun v hv => by
    unfold cutV at hv
    have h1 := List.mem_of_mem_drop (List.mem_of_mem_take hv)
    obtain ⟨c, h2, h3⟩ := List.mem_map.mp h1
    exact ⟨c, hc c h2, h3.symm⟩
  cases e : cutV (cs.map V.int) (some i) none with
  | nil => exact ⟨0, Int.le_refl _, atI_nat (j := 0) rfl⟩
  | cons v r =>
    obtain ⟨c, h1, h2⟩ := hall v (by rw [e]; exact List.mem_cons_self)
    exact ⟨c, h1, atI_nat (j := 0) (by rw [h2] <;> rfl)⟩
theorem small1000' {n : Nat} (h : n ≤ 1001) : n < sizeLine := Nat.lt_of_le_of_lt h (by decide)
theorem bootInt : bootBuiltins "int" = some (.type "int") := by decide +kernel
/-- what the defs ask of the module's names -/
structure Txt (mg : Str → Option Value) : Prop where
  int : mg "int" = none
  len : mg "len" = none
  abs : mg "abs" = none
  range : mg "range" = none
  tuple : mg "tuple" = none
  list : mg "list" = none
  dict : mg "dict" = none
  repr : mg "repr" = none
  enumerate : mg "enumerate" = none

def spTake : Sp := fun vs H Q _ => ∃ (b l : Addr) (n : Int), vs = [.ref b, .int n] ∧ Bag b l H ∧ 0 < n ∧ n < 1073741824 ∧ ∀ (i : Int) (H' : Hp), Fr b l H H' → 0 ≤ i → i < n → Q (.int i) H'
section
variable {P : Program} {w : World} {K : PySem.W.Frag} {mg : Str → Option Value} {base : Heap}
abbrev sTake : Stmt := topS 14
theorem scTake : FnScope ["bag", "upto", "cell", "stirred", "value", "begin", "second"] ["bag", "upto"] (defScope sTake) := ⟨rfl, rfl, rfl, by decide +kernel, rfl, by decide +kernel, by decide +kernel⟩
theorem mod_lo {a n : Int} (h : 0 < n) : 0 ≤ a % n ∧ a % n < n := ⟨Int.emod_nonneg _ (by omega), Int.emod_lt_of_pos _ h⟩
/-- the end of a draw, by the state behind the stirring -/
theorem take_tail {b l : Addr} {H0 H : Hp} {x y i : Int} {cs : List Int} (kp : Kp [b] H0 H) (g : BagAt b l x y i cs H) (hx : 0 ≤ x) (hy : 0 ≤ y ∧ y < 2147483647) (hi : 0 ≤ i) (hz : cs.length ≤ 1000) (hc : ∀ c ∈ cs, 0 ≤ c) : Fr b l H0 H :=
  ⟨kp, x, y, i, cs, g.hb, g.ne, g.hl, hx, hy.1, hy.2, hi, hz, hc⟩
theorem ok_take {f : Addr} {fd : FuncData} (F : Fun K "_law_take" "_law_take" sTake f fd) (T : Txt mg) : FnOk P w K mg base CX0 1 f fd ["bag", "upto"] spTake := by
  refine F.ok scTake (fun vs H Q E h => ?_) (fun cdv A outer s H vs Q E hr h => ?_)
  · obtain ⟨b, l, n, rfl, _⟩ := h
    rfl
  · obtain ⟨b, l, n, rfl, ⟨x, y, i, cs, hb, hne, hl, hx, hy0, hy1, hi, hz, hc⟩, hn0, hn1, k⟩ := h
    have g : BagAt b l x y i cs H := ⟨hb, hne, hl⟩
    refine ⟨_, Evl.pss_cut (ps_if (pt_cmpR op_eq (pe_ix ix_list (pv 0) pe_int (fun _ _ => rfl)) pe_int (nomark _))
        (pss_cons (ps_set (i := 2) scTake.nd rfl (Or.inl rfl) (pe_ix ix_list (pe_op op_cat (pe_slice sl_list (pe_ix ix_list (pv 0) pe_int (fun _ _ => rfl)) (po_some (pe_ix ix_list (pv 0) pe_int (fun _ _ => rfl))) po_none) (pe_lst (pa_cons pe_int pa_nil))) pe_int (fun _ _ => rfl)))
        (pss_cons (ps_augS (pv 0) pe_int get_listZ pe_int ip_add set_list)
        (Evl.pss_cut (ps_if (pt_cmpR op_ge (pv 2) (pe_op op_pow pe_int pe_int) (nomark _)) (pss_one (ps_asg (pv 2) (pg_sub (pv 0) pe_int set_list))) pss_nil)
        (pss_cons (ps_set (i := 3) scTake.nd rfl (Or.inl rfl) (pe_op op_add (pe_op op_add (pe_op op_mul (pe_ix ix_list (pv 0) pe_int (fun _ _ => rfl)) pe_int) (pe_op op_mod (pe_callTy call_int1 (by rfl) T.int bootInt (pa_cons (pv 2) pa_nil)) pe_int)) (pe_op op_mul pe_int (pe_ix ix_list (pv 0) pe_int (fun _ _ => rfl)))))
        (pss_one (ps_asg (pe_op op_mod (pe_callTy call_int1 (by rfl) T.int bootInt (pa_cons (pv 3) pa_nil)) pe_int) (pg_sub (pv 0) pe_int set_list))))))) pss_nil)
      (pss_cons (ps_if (pt_cmpR op_gt (pe_ix ix_list (pv 0) pe_int (fun _ _ => rfl)) pe_int (nomark _))
        (pss_cons (ps_set (i := 4) scTake.nd rfl (Or.inl rfl) (pe_op op_mod (pe_callTy call_int1 (by rfl) T.int bootInt (pa_cons (pe_ix ix_list (pv 0) pe_int (fun _ _ => rfl)) pa_nil)) (pv 1)))
        (pss_cons (ps_asg (pe_op op_fdiv (pe_callTy call_int1 (by rfl) T.int bootInt (pa_cons (pe_ix ix_list (pv 0) pe_int (fun _ _ => rfl)) pa_nil)) (pv 1)) (pg_sub (pv 0) pe_int set_list))
        (pss_one (ps_ret (pv 4))))) pss_nil)
      (pss_cons (ps_set (i := 5) scTake.nd rfl (Or.inl rfl) (pe_op op_mod (pe_callTy call_int1 (by rfl) T.int bootInt (pa_cons (pe_op op_mul (pe_op op_add (pe_ix ix_list (pv 0) pe_int (fun _ _ => rfl)) pe_int) pe_int) pa_nil)) pe_int))
      (pss_cons (ps_set (i := 6) scTake.nd rfl (Or.inl rfl) (pe_op op_mod (pe_callTy call_int1 (by rfl) T.int bootInt (pa_cons (pe_op op_mul (pe_op op_mod (pe_callTy call_int1 (by rfl) T.int bootInt (pa_cons (pe_op op_mul (pv 5) (pv 5)) pa_nil)) pe_int) pe_int) pa_nil)) pe_int))
      (pss_one (ps_ret (pe_op op_mod (pe_callTy call_int1 (by rfl) T.int bootInt (pa_cons (pe_op op_fdiv (pv 6) pe_int) pa_nil)) (pv 1)))))))
      , ?_⟩
    refine ⟨fun σ' H' => ∃ (x y i : Int) (c st : Option V), σ' = [some (.ref b), some (.int n), c, st, none, none, none] ∧ Kp [b] H H' ∧ BagAt b l x y i cs H' ∧ 0 ≤ x ∧ 0 ≤ y ∧ y < 2147483647 ∧ 0 ≤ i, ?_, ?_⟩
    · refine ⟨_, rfl, b, _, 0, _, rfl, rfl, SqL.of hb, atI_nat (j := 0) rfl, rfl, _, rfl, ite2 (fun e => ?_) (fun e => ?_)⟩
      · -- cell
        refine ⟨_, rfl, b, _, 3, _, rfl, rfl, SqL.of hb, atI_nat (j := 3) rfl, ?_⟩
        refine ⟨_, rfl, b, _, 2, _, rfl, rfl, SqL.of hb, atI_nat (j := 2) rfl, _, rfl, l, _, rfl, SqL.of hl, fun p1 hp1 => ?_⟩
        refine ⟨by show 1 ≤ sizeLine; decide, fun p2 hp2 => ?_⟩
        have n12 : p1 ≠ p2 := ne_of_none upd_same hp2
        refine ⟨p1, p2, _, _, rfl, rfl, Eq.trans (upd_ne n12) upd_same, upd_same, ?_, fun p3 hp3 => ?_⟩
        · have := cutV_length (cs.map V.int) (some i) none
          rw [List.length_map] at this
          exact Nat.le_of_lt (small1000' (by show _ + 1 ≤ 1001; omega))
        obtain ⟨c, hc0, hc1⟩ := head_cut cs hc i hi
        refine ⟨p3, _, 0, _, rfl, rfl, SqL.of upd_same, hc1, ?_⟩
        have k1 : Sub H (upd (upd (upd H p1 (HO.lst (cutV (cs.map V.int) (some i) none))) p2 (HO.lst [V.int 0])) p3 (HO.lst (cutV (cs.map V.int) (some i) none ++ [V.int 0]))) := ((Sub.new hp1).trans (Sub.new hp2)).trans (Sub.new hp3)
        have g1 := g.sub k1
        have q1 : Kp [b] H _ := fun a o _ h => k1 a o h
        -- bag[2] += 1
        refine ⟨_, rfl, b, _, 2, _, rfl, rfl, SqL.of g1.hb, by decide, rfl, _, _, rfl, rfl, b, _, 2, 2, rfl, rfl, g1.hb, rfl, ?_⟩
        have g2 : BagAt b l x y (i + 1) cs _ := g1.put
        have q2 : Kp [b] H _ := q1.trans (Kp.mut (o := HO.lst [V.int x, V.int y, V.int (i + 1), V.ref l]) List.mem_cons_self)
        refine ⟨fun σ' H' => ∃ (x' : Int), σ' = [some (.ref b), some (.int n), some (.int c), none, none, none, none] ∧ Kp [b] H H' ∧ BagAt b l x' y (i + 1) cs H' ∧ 0 ≤ x', ?_, ?_⟩
        · refine ⟨_, rfl, _, _, rfl, rfl, ⟨by decide, by decide, by decide⟩, _, _, rfl, rfl, _, rfl, ite2 (fun e2 => ?_) (fun e2 => ?_)⟩
          · exact ⟨_, rfl, _, rfl, b, _, 0, 0, rfl, rfl, g2.hb, rfl, c, rfl, q2.trans (Kp.mut List.mem_cons_self), g2.put, hc0⟩
          · exact ⟨x, rfl, q2, g2, hx⟩
        rintro σ' H3 ⟨x', rfl, q3, g3, hx'⟩
        refine ⟨_, rfl, b, _, 1, _, rfl, rfl, SqL.of g3.hb, atI_nat (j := 1) rfl, _, _, rfl, rfl, .inr ⟨by decide, by decide⟩, _, rfl, .inl ⟨_, rfl, _, _, rfl, rfl, (by show (0 : Int) < 2147483647; decide), ?_⟩⟩
        refine ⟨_, _, rfl, rfl, _, rfl, b, _, 2, _, rfl, rfl, SqL.of g3.hb, atI_nat (j := 2) rfl, _, _, rfl, rfl, .inl ⟨by decide, by decide⟩, _, _, rfl, rfl, ?_⟩
        refine ⟨_, rfl, .inl ⟨_, rfl, _, _, rfl, rfl, (by show (0 : Int) < 2147483647; decide), ?_⟩⟩
        refine ⟨_, rfl, b, _, 1, 1, rfl, rfl, g3.hb, rfl, ?_⟩
        have z := mod_lo (a := y * 48271 + c % 2147483647 + 7919 * (i + 1)) (n := 2147483647) (by decide)
        exact ⟨x', _, i + 1, _, _, rfl, q3.trans (Kp.mut List.mem_cons_self), g3.put, hx', z.1, z.2, by omega⟩
      · exact ⟨x, y, i, none, none, rfl, Kp.refl _ _, g, hx, hy0, hy1, hi⟩
    · rintro σ' H1 ⟨x, y, i, c, st, rfl, kp, g, hx, hy0, hy1, hi⟩
      refine ⟨_, rfl, b, _, 0, _, rfl, rfl, SqL.of g.hb, atI_nat (j := 0) rfl, _, _, rfl, rfl, _, rfl, ite2 (fun e => ?_) (fun e => ?_)⟩
      · refine ⟨_, rfl, b, _, 0, _, rfl, rfl, SqL.of g.hb, atI_nat (j := 0) rfl, .inl ⟨_, rfl, _, rfl, _, _, rfl, rfl, hn0, ?_⟩⟩
        refine ⟨_, rfl, b, _, 0, _, rfl, rfl, SqL.of g.hb, atI_nat (j := 0) rfl, .inl ⟨_, rfl, _, rfl, _, _, rfl, rfl, ⟨hn0, hn1⟩, ?_⟩⟩
        refine ⟨_, rfl, b, _, 0, 0, rfl, rfl, g.hb, rfl, ?_⟩
        refine ⟨_, rfl, ?_⟩
        have z := mod_lo (a := x) hn0
        exact k _ _ (take_tail (kp.trans (Kp.mut List.mem_cons_self)) g.put (Int.ediv_nonneg hx (by omega)) ⟨hy0, hy1⟩ hi hz hc) z.1 z.2
      · refine ⟨_, rfl, b, _, 1, _, rfl, rfl, SqL.of g.hb, atI_nat (j := 1) rfl, _, _, rfl, rfl, _, _, rfl, rfl, .inr ⟨by decide, by decide⟩, .inl ⟨_, rfl, _, _, rfl, rfl, (by show (0 : Int) < 1000000007; decide), ?_⟩⟩
        have z1 := mod_lo (a := (y + 1) * 39373) (n := 1000000007) (by decide)
        refine ⟨_, rfl, _, rfl, _, _, rfl, rfl, .inl ⟨by omega, by omega⟩, .inl ⟨_, rfl, _, _, rfl, rfl, (by show (0 : Int) < 998244353; decide), ?_⟩⟩
        refine ⟨_, _, rfl, rfl, .inr ⟨by decide, by decide⟩, .inl ⟨_, rfl, _, _, rfl, rfl, (by show (0 : Int) < 998244353; decide), ?_⟩⟩
        refine ⟨_, rfl, _, _, rfl, rfl, ⟨by decide, by decide⟩, .inl ⟨_, rfl, _, rfl, _, _, rfl, rfl, hn0, ?_⟩⟩
        have z := mod_lo (a := ((y + 1) * 39373 % 1000000007 * ((y + 1) * 39373 % 1000000007) % 998244353 * 30011 % 998244353) / 7) hn0
        exact k _ _ (take_tail kp g hx ⟨hy0, hy1⟩ hi hz hc) z.1 z.2
end
end KZ

namespace KZ
open PySem PySem.Spec PyProof.Rows L2

theorem szl {n : Nat} (h : n < 1000000) : n < sizeLine := Nat.lt_of_lt_of_le h (by decide)
/-- a def that may be called: its promise, where it stands -/
structure Cal (P : Program) (w : World) (K : PySem.W.Frag) (mg : Str → Option Value) (base : Heap) (x : Str) (k : Nat) (ps : List Str) (sp : Sp) (f : Addr) (fd : FuncData) : Prop where
  ok : FnOk P w K mg base CX0 k f fd ps sp
  g : mg x = some (.ref f)
  kp : PySem.W.keepIn K (.ref f) = true
  b : Binds K fd ps []
section
variable {X : Cx} {x : Str} {k : Nat} {ps : List Str} {sp : Sp} {f : Addr} {fd : FuncData} {e : Expr} {es : List Expr} {t : TA} {p pos : Pos}
theorem pcl (C : Cal X.prog X.w X.K X.mg X.base x k ps sp f fd) (hr : Room k X.A) (ha : PA X (e :: es) t) (hg : Gl X x := by rfl) (hdb : (x == ("__debug__" : Str)) = false := by decide) (he : starEach (e :: es) X.env = (false, eval e X.env) :: starEach es X.env := by rfl)
    (hpl : (backTo pos (starEach es X.env)).any (·.1) = false := by rfl) : PE X (.Call (.Name x p) (e :: es) [] pos) (tCall sp [] E0 t) := pe_call C.ok hr hg C.g C.kp C.b .nil pass0 ha hdb he hpl
end
theorem atI_mem {α : Type} {xs : List α} {i : Int} (h0 : 0 ≤ i) (h1 : i < xs.length) : ∃ v, v ∈ xs ∧ xs[i.toNat]? = some v ∧ atI xs i = some v := by
  have hj : i.toNat < xs.length := by omega
  refine ⟨xs[i.toNat], List.getElem_mem hj, List.getElem?_eq_getElem hj, ?_⟩
  have e : ((i.toNat : Nat) : Int) = i := by omega
  have g := atI_nat (List.getElem?_eq_getElem hj)
  rw [e] at g
  exact g

/-- the items of a list or a tuple -/
def Its (K : PySem.W.Frag) (M : List Addr) (H : Hp) (v : V) (ds : List PyData) : Prop := Dm K M H v (.list ds) ∨ Dm K M H v (.tuple ds)
theorem Its.at {K : PySem.W.Frag} {M : List Addr} {H : Hp} {v : V} {ds : List PyData} (h : Its K M H v ds) : ∃ a xs, v = .ref a ∧ (SqL K H a xs ∨ SqT K H a xs) ∧ Dms K M H xs ds := by
  rcases h with h | h
  · obtain ⟨a, xs, h1, h2, h3⟩ := h.lstAt
    exact ⟨a, xs, h1, .inl h2, h3⟩
  · obtain ⟨a, xs, h1, h2, h3⟩ := h.tupAt
    exact ⟨a, xs, h1, .inr h2, h3⟩
theorem Its.f {K : PySem.W.Frag} {M : List Addr} {b l : Addr} {H H' : Hp} {v : V} {ds : List PyData} (h : Its K M H v ds) (f : Fr b l H H') (m : b ∈ M) : Its K M H' v ds := h.elim (fun h => .inl (Dm.f h f m)) fun h => .inr (Dm.f h f m)
def spSome (K : PySem.W.Frag) : Sp := fun vs H Q _ => ∃ (M : List Addr) (b l : Addr) (v : V) (ds : List PyData), vs = [.ref b, v] ∧ Cb M b l H ∧ Its K M H v ds ∧ 0 < ds.length ∧ ds.length < 1000000 ∧
  ∀ (y : V) (d : PyData) (H' : Hp), Fr b l H H' → d ∈ ds → Dm K M H' y d → Q y H'
def spMixed (K : PySem.W.Frag) : Sp := fun vs H Q _ => ∃ (M : List Addr) (b l : Addr) (v : V) (ds : List PyData), vs = [.ref b, v] ∧ Cb M b l H ∧ Dm K M H v (.list ds) ∧ ds.length < 100000 ∧
  ∀ (y : V) (es : List PyData) (H' : Hp), Fr b l H H' → es.Perm ds → Dm K M H' y (.list es) → Q y H'
section
variable {P : Program} {w : World} {K : PySem.W.Frag} {mg : Str → Option Value} {base : Heap}
abbrev sSome : Stmt := topS 15
theorem scSome : FnScope ["bag", "things"] ["bag", "things"] (defScope sSome) := ⟨rfl, rfl, rfl, by decide +kernel, rfl, by decide +kernel, by decide +kernel⟩
theorem ok_some {f fT : Addr} {fd fdT : FuncData} (F : Fun K "_law_some" "_law_some" sSome f fd) (T : Txt mg) (CT : Cal P w K mg base "_law_take" 1 ["bag", "upto"] spTake fT fdT) : FnOk P w K mg base CX0 2 f fd ["bag", "things"] (spSome K) := by
  refine F.ok scSome (fun vs H Q E h => ?_) (fun cdv A outer s H vs Q E hr h => ?_)
  · obtain ⟨M, b, l, v, ds, rfl, _⟩ := h
    rfl
  · obtain ⟨M, b, l, v, ds, rfl, cb, hv, h0, h1, k⟩ := h
    refine ⟨_, pss_one (ps_ret (pe_ix (ix_list.or ix_tup) (pv 1) (pcl CT hr (pa_cons (pv 0) (pa_cons (pe_callB call_len_seq (by rfl) T.len PySem.boot_len (pa_cons (pv 1) pa_nil)) pa_nil))) (fun _ _ => rfl))), ?_⟩
    obtain ⟨a, xs, rfl, hs, ha⟩ := hv.at
    have hl := ha.len
    refine ⟨_, rfl, _, rfl, _, rfl, a, xs, rfl, hs, ?_⟩
    refine ⟨b, l, _, rfl, cb.bag, by omega, by omega, fun i H' f' i0 i1 => ?_⟩
    obtain ⟨a2, xs2, e2, hs2, ha2⟩ := (hv.f f' cb.mem).at
    cases e2
    have hl2 := ha2.len
    obtain ⟨y, _, hy, hat⟩ := atI_mem (xs := xs2) i0 (by omega)
    obtain ⟨d, hd, hyd⟩ := ha2.get' hy
    have fin : Q y H' := k y d H' f' (List.mem_of_getElem? hd) hyd
    exact hs2.elim (fun q => .inl ⟨a, xs2, i, y, rfl, rfl, q, hat, fin⟩) fun q => .inr ⟨a, xs2, i, y, rfl, rfl, q, hat, fin⟩
abbrev sMixed : Stmt := topS 17
theorem scMixed : FnScope ["bag", "things", "found", "thing"] ["bag", "things"] (defScope sMixed) := ⟨rfl, rfl, rfl, by decide +kernel, rfl, by decide +kernel, by decide +kernel⟩
theorem ins_perm {α : Type} (xs : List α) (n : Nat) (d : α) : (xs.take n ++ [d] ++ xs.drop n).Perm (d :: xs) := by
  have h : (xs.take n ++ [d] ++ xs.drop n).Perm (d :: (xs.take n ++ xs.drop n)) := by
    rw [List.append_assoc]
    exact List.perm_middle
  rw [List.take_append_drop] at h
  exact h
theorem take_snoc {α : Type} {xs : List α} {i : Nat} {d : α} (h : xs[i]? = some d) : xs.take (i + 1) = xs.take i ++ [d] := by
  rw [List.take_succ, h]
  rfl
theorem ok_mixed {f fT : Addr} {fd fdT : FuncData} (F : Fun K "_law_mixed" "_law_mixed" sMixed f fd) (T : Txt mg) (CT : Cal P w K mg base "_law_take" 1 ["bag", "upto"] spTake fT fdT) : FnOk P w K mg base CX0 2 f fd ["bag", "things"] (spMixed K) := by
  refine F.ok scMixed (fun vs H Q E h => ?_) (fun cdv A outer s H vs Q E hr h => ?_)
  · obtain ⟨M, b, l, v, ds, rfl, _⟩ := h
    rfl
  · obtain ⟨M, b, l, v, ds, rfl, cb, hv, h1, k⟩ := h
    refine ⟨_, pss_cons (ps_set (i := 2) scMixed.nd rfl (Or.inl rfl) (pe_lst pa_nil))
      (pss_cons (ps_for PassesOwn.never rfl (pi_list (pv 1)) (pg_name (i := 3) scMixed.nd rfl (Or.inl rfl))
        (pss_one (ps_expr (pe_bm PySem.F.plainAttrs_list PySem.F.slot_list_insert PySem.F.type_list_insert mt_insert (pv 2)
          (pa_cons (pcl CT hr (pa_cons (pv 0) (pa_cons (pe_op op_add (pe_callB call_len_seq (by rfl) T.len PySem.boot_len (pa_cons (pv 2) pa_nil)) pe_int) pa_nil))) (pa_cons (pv 3) pa_nil))))))
      (pss_one (ps_ret (pv 2)))), ?_⟩
    refine ⟨Nat.zero_le _, fun p hp => ?_⟩
    obtain ⟨a, xs, rfl, hse, ha⟩ := hv.lstAtE
    have hs := (er_sub M H).sqL hse
    have hl := ha.len
    have f0 : Fr b l H (upd H p (.lst [])) := Fr.new cb.bag hp
    have pb := ne_new cb.bag.at hp
    refine ⟨_, rfl, a, rfl, ⟨_, (Sub.new hp).sqL hs⟩, for_list (K := K) (a := a) (xs := xs) (fun i σ H' => ∃ (u : Option V) (vs : List V) (es : List PyData), σ = [some (.ref b), some (.ref a), some (.ref p), u] ∧ Fr b l H H' ∧ H' p = some (.lst vs) ∧ Dms K (p :: M) H' vs es ∧ es.Perm (ds.take i) ∧ SqL K (er (p :: M) H') a xs ∧ Dms K (p :: M) H' xs ds)
      ⟨none, [], [], rfl, f0, upd_same, .nil, List.Perm.refl _, Sub.sqL (Kp.er (Kp.mut List.mem_cons_self)) (by rw [er_more hp]; exact hse), (ha.more hp).k (Kp.mut List.mem_cons_self)⟩ (fun i σ H' _ ⟨_, _, _, _, _, _, _, _, q, _⟩ => (er_sub _ _).sqL q) ?_ ?_⟩
    · rintro i y σ H' hi ⟨u, vs, es, rfl, f1, h1p, hds, hpm, hsx, hdx⟩
      have hlv : vs.length = i := by
        rw [hds.len, hpm.length_eq, List.length_take, ← hl]
        have := (List.getElem?_eq_some_iff.mp hi).1
        omega
      have hix := (List.getElem?_eq_some_iff.mp hi).1
      refine ⟨_, rfl, .inl ⟨rfl, _, SqL.of h1p⟩, _, rfl, _, rfl, p, _, rfl, .inl (SqL.of h1p), _, _, rfl, rfl, ?_⟩
      refine ⟨b, l, _, rfl, f1.bag, by omega, by omega, fun j H2 f2 j0 j1 => ?_⟩
      have c1 : Cb (p :: M) b l H' := (cb.fr f1).more ⟨_, h1p⟩
      have h2p : H2 p = some (.lst vs) := f2.k p _ (by simp [pb]) h1p
      refine ⟨_, rfl, p, vs, j, y, rfl, rfl, h2p, szl (by omega), j0, by omega, ?_⟩
      obtain ⟨d, hd, hyd⟩ := hdx.get' hi
      have f3 := (f1.trans f2).mut cb.bag hp (o := .lst (vs.take j.toNat ++ [y] ++ vs.drop j.toNat))
      have km : Kp (p :: M) H2 (upd H2 p (.lst (vs.take j.toNat ++ [y] ++ vs.drop j.toNat))) := Kp.mut List.mem_cons_self
      have hds2 := hds.f f2 c1.mem
      refine ⟨_, _, es.take j.toNat ++ [d] ++ es.drop j.toNat, rfl, f3, upd_same, Dms.k (((hds2.take _).app (DpAll.one (Dm.f hyd f2 c1.mem))).app (hds2.drop _)) km, ?_, ?_, ?_⟩
      · rw [take_snoc hd]
        exact (ins_perm _ _ _).trans ((List.Perm.cons _ hpm).trans (List.perm_append_singleton _ _).symm)
      · exact Sub.sqL ((f2.kp c1.mem).trans km).er hsx
      · exact (hdx.f f2 c1.mem).k km
    · rintro σ H' ⟨u, vs, es, rfl, f1, h1p, hds, hpm, hsx, hdx⟩
      refine ⟨_, rfl, ?_⟩
      rw [hl, List.take_length] at hpm
      exact k _ es H' f1 hpm (Dm.lstOf (cb.kn.out hp) h1p hds)
end
end KZ

namespace KZ
open PySem PySem.Spec PyProof.Rows L2

def Names : List Str := ["a", "b", "c", "ab", "ba", "zz", "wait", "yield", "oust", "elder", "work", "kind", "abcdefgh", "z", "sort"]
def unS : PyData → Str
  | .str x => x
  | _ => ""
theorem perm_str {es : List PyData} {l : List Str} (h : es.Perm (l.map PyData.str)) : ∃ ns : List Str, es = ns.map PyData.str ∧ ns.Perm l := by
  refine ⟨es.map unS, ?_, ?_⟩
  · rw [List.map_map]
    have : ∀ e ∈ es, (PyData.str ∘ unS) e = e := fun e he => by
      obtain ⟨x, _, rfl⟩ := List.mem_map.mp (h.mem_iff.mp he)
      rfl
    exact (List.map_id es).symm.trans (List.map_congr_left fun e he => (this e he).symm)
  · have q := h.map unS
    rw [List.map_map] at q
    have e : l.map (unS ∘ PyData.str) = l := List.map_id l
    rw [e] at q
    exact q
theorem cutV_to {xs : List V} {m : Int} (h0 : 0 ≤ m) (h1 : m ≤ xs.length) : cutV xs none (some m) = xs.take m.toNat := by
  have e : ((m.toNat : Nat) : Int) = m := by omega
  unfold cutV
  rw [← e, HT.sIx_none, HT.sIx_nat, e, List.drop_zero, Nat.sub_zero, Nat.min_eq_left (by omega)]
theorem cutV_from {xs : List V} {m : Int} (h0 : 0 ≤ m) (h1 : m ≤ xs.length) : cutV xs (some m) none = xs.drop m.toNat := by
  have e : ((m.toNat : Nat) : Int) = m := by omega
  unfold cutV
  rw [← e, HT.sIx_none, HT.sIx_nat, e, Nat.min_eq_left (by omega)]
  exact List.take_of_length_le (by rw [List.length_drop]; omega)
def spNamed (K : PySem.W.Frag) : Sp := fun vs H Q _ => ∃ (M : List Addr) (b l : Addr) (m : Int), vs = [.ref b, .int m] ∧ Cb M b l H ∧ 0 ≤ m ∧ m ≤ 15 ∧
  ∀ (y : V) (ns : List Str) (H' : Hp), Fr b l H H' → ns.length = m.toNat → (∀ n ∈ ns, n ∈ Names) → ns.Nodup → Dm K M H' y (.list (ns.map PyData.str)) → Q y H'
theorem names_nd : Names.Nodup := by decide +kernel
theorem dps_strs {K : PySem.W.Frag} {H : Hp} : ∀ l : List Str, DpAll K H (l.map V.str) (l.map PyData.str)
  | [] => .nil
  | x :: l => .cons (.str x) (dps_strs l)
section
variable {P : Program} {w : World} {K : PySem.W.Frag} {mg : Str → Option Value} {base : Heap}
abbrev sNamed : Stmt := topS 18
theorem scNamed : FnScope ["bag", "many", "names"] ["bag", "many"] (defScope sNamed) := ⟨rfl, rfl, rfl, by decide +kernel, rfl, by decide +kernel, by decide +kernel⟩
theorem ok_named {f fM : Addr} {fd fdM : FuncData} (F : Fun K "_law_named" "_law_named" sNamed f fd) (CM : Cal P w K mg base "_law_mixed" 2 ["bag", "things"] (spMixed K) fM fdM) : FnOk P w K mg base CX0 3 f fd ["bag", "many"] (spNamed K) := by
  refine F.ok scNamed (fun vs H Q E h => ?_) (fun cdv A outer s H vs Q E hr h => ?_)
  · obtain ⟨M, b, l, m, rfl, _⟩ := h
    rfl
  · obtain ⟨M, b, l, m, rfl, cb, h0, h1, k⟩ := h
    refine ⟨_, pss_cons (ps_set (i := 2) scNamed.nd rfl (Or.inl rfl) (pe_lst (pa_cons pe_str (pa_cons pe_str (pa_cons pe_str (pa_cons pe_str (pa_cons pe_str (pa_cons pe_str (pa_cons pe_str (pa_cons pe_str (pa_cons pe_str (pa_cons pe_str
        (pa_cons pe_str (pa_cons pe_str (pa_cons pe_str (pa_cons pe_str (pa_cons pe_str pa_nil)))))))))))))))))
      (pss_one (ps_ret (pe_slice sl_list (pcl CM hr (pa_cons (pv 0) (pa_cons (pv 2) pa_nil))) po_none (po_some (pv 1))))), ?_⟩
    refine ⟨by show 15 ≤ sizeLine; decide, fun p hp => ?_⟩
    have f0 : Fr b l H (upd H p (.lst (Names.map V.str))) := Fr.new cb.bag hp
    have d0 : Dm K M (upd H p (.lst (Names.map V.str))) (.ref p) (.list (Names.map PyData.str)) := Dm.lstNew cb.kn hp (dps_strs Names)
    refine ⟨_, rfl, _, rfl, M, b, l, _, _, rfl, cb.fr f0, d0, by show 15 < 100000; decide, fun y es H' f1 hpm hy => ?_⟩
    obtain ⟨ns, rfl, hns⟩ := perm_str hpm
    have hlen : ns.length = 15 := hns.length_eq
    obtain ⟨a, xs, rfl, hs, ha⟩ := hy.lstAt
    have hl := ha.len
    rw [List.length_map, hlen] at hl
    refine ⟨_, rfl, _, rfl, a, xs, rfl, hs, fun q hq => ?_⟩
    rw [cutV_to h0 (by omega)]
    have f2 := (f0.trans f1).trans (Fr.new f1.bag hq (o := .lst (xs.take m.toNat)))
    refine k _ (ns.take m.toNat) _ f2 (by rw [List.length_take]; omega) (fun n hn => hns.mem_iff.mp (List.mem_of_mem_take hn)) ((hns.nodup_iff.mpr names_nd).sublist (List.take_sublist _ _)) ?_
    rw [List.map_take]
    exact Dm.lstNew ((cb.fr f0).fr f1).kn hq (ha.take _)
end

/-! kinds -/
abbrev Kd := Str × Bool × Int
def kdD (k : Kd) : PyData := .tuple [.str k.1, .bool k.2.1, .int k.2.2]
structure KdsOk (ks : List Kd) : Prop where
  name : ∀ k ∈ ks, k.1 ∈ Names
  nd : (ks.map (·.1)).Nodup
  rise : ∀ (i : Nat) (k : Kd), ks[i]? = some k → (i : Int) ≤ k.2.2 ∧ k.2.2 < ks.length
def spKinds (K : PySem.W.Frag) : Sp := fun vs H Q _ => ∃ (M : List Addr) (b l : Addr) (m : Int) (v : V) (bs : List Bool), vs = [.ref b, .int m, v] ∧ Cb M b l H ∧ 0 ≤ m ∧ m ≤ 15 ∧ Dm K M H v (.list (bs.map PyData.bool)) ∧ 0 < bs.length ∧ bs.length < 1000 ∧
  ∀ (y : V) (ks : List Kd) (H' : Hp), Fr b l H H' → ks.length = m.toNat → KdsOk ks → Dm K M H' y (.tuple (ks.map kdD)) → Q y H'
section
variable {P : Program} {w : World} {K : PySem.W.Frag} {mg : Str → Option Value} {base : Heap}
abbrev sKinds : Stmt := topS 19
theorem scKinds : FnScope ["bag", "many", "keeps", "names", "found", "k", "rise"] ["bag", "many", "keeps"] (defScope sKinds) := ⟨rfl, rfl, rfl, by decide +kernel, rfl, by decide +kernel, by decide +kernel⟩
theorem bootTuple : bootBuiltins "tuple" = some (.type "tuple") := by decide +kernel
theorem dm_get {K : PySem.W.Frag} {M : List Addr} {H : Hp} {v : V} {ds : List PyData} {i : Int} {d : PyData} (h : Dm K M H v (.list ds)) (h0 : 0 ≤ i) (e : ds[i.toNat]? = some d) : ∃ a xs y, v = .ref a ∧ SqL K H a xs ∧ atI xs i = some y ∧ Dm K M H y d := by
  obtain ⟨a, xs, rfl, hs, ha⟩ := h.lstAt
  obtain ⟨y, hy, hd⟩ := ha.get e
  have q := atI_nat hy
  rw [show ((i.toNat : Nat) : Int) = i by omega] at q
  exact ⟨a, xs, y, rfl, hs, q, hd⟩
theorem dm_getT {K : PySem.W.Frag} {M : List Addr} {H : Hp} {v : V} {ds : List PyData} {i : Int} {d : PyData} (h : Dm K M H v (.tuple ds)) (h0 : 0 ≤ i) (e : ds[i.toNat]? = some d) : ∃ a xs y, v = .ref a ∧ SqT K H a xs ∧ atI xs i = some y ∧ Dm K M H y d := by
  obtain ⟨a, xs, rfl, hs, ha⟩ := h.tupAt
  obtain ⟨y, hy, hd⟩ := ha.get e
  have q := atI_nat hy
  rw [show ((i.toNat : Nat) : Int) = i by omega] at q
  exact ⟨a, xs, y, rfl, hs, q, hd⟩
theorem ok_kinds {f fT fS fN : Addr} {fd fdT fdS fdN : FuncData} (F : Fun K "_law_kinds" "_law_kinds" sKinds f fd) (T : Txt mg) (CT : Cal P w K mg base "_law_take" 1 ["bag", "upto"] spTake fT fdT)
    (CS : Cal P w K mg base "_law_some" 2 ["bag", "things"] (spSome K) fS fdS) (CN : Cal P w K mg base "_law_named" 3 ["bag", "many"] (spNamed K) fN fdN) : FnOk P w K mg base CX0 4 f fd ["bag", "many", "keeps"] (spKinds K) := by
  refine F.ok scKinds (fun vs H Q E h => ?_) (fun cdv A outer s H vs Q E hr h => ?_)
  · obtain ⟨M, b, l, m, v, bs, rfl, _⟩ := h
    rfl
  · obtain ⟨M, b, l, m, v, bs, rfl, cb, h0, h1, hv, b0, b1, k⟩ := h
    have hr1 : Room 1 _ := hr.mono (by decide)
    have hr2 : Room 2 _ := hr.mono (by decide)
    refine ⟨_, pss_cons (ps_par (i := 3) (j := 4) rfl scKinds.nd rfl rfl (by decide) rfl rfl (pa_cons (pcl CN hr (pa_cons (pv 0) (pa_cons (pv 1) pa_nil))) (pa_cons (pe_lst pa_nil) pa_nil)) rfl)
      (pss_cons (ps_for PassesOwn.never rfl (pi_range1 rfl T.range (pa_cons (pv 1) pa_nil)) (pg_name (i := 5) scKinds.nd rfl (Or.inl rfl))
        (Evl.pss_cut (ps_set (i := 6) scKinds.nd rfl (Or.inl rfl) (pe_ifExp (pt_cmpR op_eq (pcl CT hr1 (pa_cons (pv 0) (pa_cons pe_int pa_nil))) pe_int (nomark _)) (pe_op op_add (pv 5) (pcl CT hr1 (pa_cons (pv 0) (pa_cons (pe_op op_sub (pv 1) (pv 5)) pa_nil)))) (pv 5)))
        (pss_one (ps_expr (pe_bm PySem.F.plainAttrs_list PySem.F.slot_list_append PySem.F.type_list_append mt_append (pv 4)
          (pa_cons (pe_tup (pa_cons (pe_ix ix_list (pv 3) (pv 5) (fun _ _ => rfl)) (pa_cons (pcl CS hr2 (pa_cons (pv 0) (pa_cons (pv 2) pa_nil))) (pa_cons (pv 6) pa_nil)))) pa_nil))))))
      (pss_one (ps_ret (pe_callTy call_tuple_of (by rfl) T.tuple bootTuple (pa_cons (pv 4) pa_nil))))), ?_⟩
    refine ⟨_, rfl, _, rfl, M, b, l, m, rfl, cb, h0, h1, fun yn ns H1 f1 hnl hnN hnd hyn => ?_⟩
    refine ⟨Nat.zero_le _, fun p hp => ?_⟩
    have c1 := cb.fr f1
    have hp0 : H p = none := f1.free cb.bag hp
    refine ⟨_, _, rfl, ?_⟩
    have km {o : HO} : Kp (p :: M) H1 (upd H1 p o) := Kp.mut List.mem_cons_self
    have f2 : Fr b l H (upd H1 p (.lst [])) := f1.mut cb.bag hp0
    refine ⟨_, rfl, m, rfl, by omega, by omega, for_range (lo := 0) (n := m.toNat) (fun i σ H' => ∃ (u1 u2 : Option V) (vs : List V) (ks : List Kd), σ = [some (.ref b), some (.int m), some v, some yn, some (.ref p), u1, u2] ∧ Fr b l H H' ∧ H' p = some (.lst vs) ∧ Dms K (p :: M) H' vs (ks.map kdD) ∧
        ks.length = i ∧ ks.map (·.1) = ns.take i ∧ (∀ (j : Nat) (k : Kd), ks[j]? = some k → (j : Int) ≤ k.2.2 ∧ k.2.2 < m) ∧ Dm K (p :: M) H' yn (.list (ns.map PyData.str)) ∧ Dm K (p :: M) H' v (.list (bs.map PyData.bool)))
      ⟨none, none, [], [], rfl, f2, upd_same, .nil, rfl, rfl, fun j k e => by simp at e, (hyn.more hp).k km, ((hv.f f1 cb.mem).more hp).k km⟩ ?_ ?_⟩
    · rintro i σ H' hi ⟨u1, u2, vs, ks, rfl, f3, h3p, hds, hkl, hkn, hkr, hdn, hdv⟩
      have c3 : Cb (p :: M) b l H' := (cb.fr f3).more ⟨_, h3p⟩
      have pb := ne_new cb.bag.at hp0
      have hi' : (i : Int) < m := by omega
      refine ⟨fun σ' H4 => ∃ r : Int, σ' = [some (.ref b), some (.int m), some v, some yn, some (.ref p), some (.int ((0 : Int) + (i : Nat))), some (.int r)] ∧ Fr b l H' H4 ∧ (i : Int) ≤ r ∧ r < m, ?_, ?_⟩
      · refine ⟨_, rfl, b, l, _, rfl, f3.bag, by decide, by decide, fun j H4 f4 j0 j1 => ⟨rfl, _, rfl, ite2 (fun e => ?_) (fun e => ?_)⟩⟩
        · exact ⟨_, rfl, _, rfl, _, rfl, _, rfl, _, _, rfl, rfl, b, l, _, rfl, f4.bag, by omega, by omega, fun j2 H5 f5 j20 j21 => ⟨_, _, rfl, rfl, _, rfl, f4.trans f5, by omega, by omega⟩⟩
        · exact ⟨_, rfl, _, by simp [List.set], f4, Int.le_refl _, hi'⟩
      rintro σ4 H4 ⟨r, rfl, f4, r0, r1⟩
      have h4p : H4 p = some (.lst vs) := f4.k p _ (by simp [pb]) h3p
      have hdn4 := Dm.f hdn f4 c3.mem
      have hni : (ns.map PyData.str)[((0 : Int) + (i : Nat)).toNat]? = some (.str (ns[i]'(by omega))) := by
        rw [show ((0 : Int) + (i : Nat)).toNat = i by omega, List.getElem?_map, List.getElem?_eq_getElem (by omega)]
        rfl
      obtain ⟨a, xs, y, rfl, hsx, hat, hdy⟩ := dm_get hdn4 (by omega) hni
      have hy := hdy.strAt
      refine ⟨_, rfl, .inl ⟨rfl, _, SqL.of h4p⟩, _, rfl, _, rfl, a, xs, _, y, rfl, rfl, hsx, hat, ?_⟩
      refine ⟨_, rfl, _, rfl, p :: M, b, l, v, _, rfl, c3.fr f4, .inl (Dm.f hdv f4 c3.mem), by rw [List.length_map]; exact b0, by rw [List.length_map]; omega, fun z d H5 f5 hd hz => ?_⟩
      obtain ⟨bb, _, rfl⟩ := List.mem_map.mp hd
      refine ⟨_, rfl, by show 3 ≤ sizeLine; decide, fun q hq => ?_⟩
      have h5p : H5 p = some (.lst vs) := f5.k p _ (by simp [pb]) h4p
      have c5 := (c3.fr f4).fr f5
      have f6 := f5.trans (Fr.new f5.bag hq (o := .tup [y, z, .int r]))
      have h6p : upd H5 q (.tup [y, z, .int r]) p = some (.lst vs) := by
        rw [upd_ne (ne_of_none h5p hq)]
        exact h5p
      have hdq : Dm K (p :: M) (upd H5 q (.tup [y, z, .int r])) (.ref q) (kdD (ns[i]'(by omega), bb, r)) := Dm.tupNew c5.kn hq (.cons (Dm.f hdy f5 c5.mem) (.cons hz (.cons (.int r) .nil)))
      refine ⟨p, vs, _, rfl, rfl, h6p, szl (by have := hds.len; rw [List.length_map] at this; omega), ?_⟩
      have km2 {o : HO} : Kp (p :: M) (upd H5 q (.tup [y, z, .int r])) (upd (upd H5 q (.tup [y, z, .int r])) p o) := Kp.mut List.mem_cons_self
      have f7 := f4.trans f6
      refine ⟨_, _, _, ks ++ [(ns[i]'(by omega), bb, r)], rfl, (f3.trans f7).mut cb.bag hp0, upd_same, ?_, by rw [List.length_append, hkl]; rfl, ?_, ?_, (Dm.f hdn f7 c3.mem).k km2, (Dm.f hdv f7 c3.mem).k km2⟩
      · rw [List.map_append]
        exact Dms.k ((hds.f f7 c3.mem).app (DpAll.one hdq)) km2
      · rw [List.map_append, hkn]
        exact (take_snoc (List.getElem?_eq_getElem (by omega))).symm
      · intro j k e
        rcases Nat.lt_or_ge j ks.length with q | q
        · rw [List.getElem?_append_left q] at e
          exact hkr j k e
        · rw [List.getElem?_append_right q] at e
          have ej : j - ks.length = 0 := by
            by_cases z : j - ks.length = 0
            · exact z
            · rw [List.getElem?_eq_none (by simp; omega)] at e
              cases e
          rw [ej] at e
          cases Option.some.inj e
          exact ⟨by show (j : Int) ≤ r; omega, r1⟩
    · rintro σ H' ⟨u1, u2, vs, ks, rfl, f3, h3p, hds, hkl, hkn, hkr, hdn, hdv⟩
      refine ⟨_, rfl, p, vs, rfl, .inl ⟨SqL.of h3p, fun q hq => ?_⟩⟩
      rw [List.take_of_length_le (by omega)] at hkn
      have f4 := f3.trans (Fr.new f3.bag hq (o := .tup vs))
      refine k _ ks _ f4 hkl ⟨fun k hk => hnN _ (by rw [← hkn]; exact List.mem_map_of_mem hk), by rw [hkn]; exact hnd, fun j k e => ⟨(hkr j k e).1, by have := (hkr j k e).2; omega⟩⟩ ?_
      exact Dm.tupNew (cb.fr f3).kn hq (hds.less fun a h => List.mem_cons_of_mem _ h)
end
end KZ

namespace KZ
open PySem PySem.Spec PyProof.Rows L2

/-! what an expression without a bag comes to, as data -/
def EvD (K : PySem.W.Frag) (M : List Addr) (te : TE) (σ : L2.St) (H : Hp) (d : PyData) : Prop := ∀ H1, Sub H H1 → ∀ Q : VK, (∀ v H', Sub H1 H' → Dm K M H' v d → Q v H') → te σ H1 Q
def EvDs (K : PySem.W.Frag) (M : List Addr) (ta : TA) (σ : L2.St) (H : Hp) (ds : List PyData) : Prop := ∀ H1, Sub H H1 → ∀ Q : List V → Hp → Prop, (∀ vs H', Sub H1 H' → Dms K M H' vs ds → Q vs H') → ta σ H1 Q
def EvO (to : TO) (σ : L2.St) (H : Hp) (o : Option Int) : Prop := ∀ H1, Sub H H1 → ∀ Q : Option Int → Hp → Prop, (∀ H', Sub H1 H' → Q o H') → to σ H1 Q
section
variable {K : PySem.W.Frag} {M : List Addr} {σ : L2.St} {H H' : Hp} {ta tb te : TE} {tr : TA} {tl th : TO} {d e : PyData} {ds es : List PyData} {v : V}
theorem EvD.sub (h : EvD K M te σ H d) (s : Sub H H') : EvD K M te σ H' d := fun H1 s1 => h H1 (s.trans s1)
theorem evd_var {i : Nat} (h : σ[i]? = some (some v)) (hd : Dm K M H v d) : EvD K M (tVar i) σ H d := fun H1 s Q q => ⟨v, h, q v H1 (Sub.refl _) (Dm.s hd s)⟩
theorem evd_int {i : Int} : EvD K M (tC (.int i)) σ H (.int i) := fun H1 s Q q => q _ H1 (Sub.refl _) (.int i)
theorem evd_str {x : Str} : EvD K M (tC (.str x)) σ H (.str x) := fun H1 s Q q => q _ H1 (Sub.refl _) (.str x)
theorem evd_bl {b : Bool} : EvD K M (tC (.bl b)) σ H (.bool b) := fun H1 s Q q => q _ H1 (Sub.refl _) (.bl b)
theorem evds_nil : EvDs K M tNil σ H [] := fun H1 s Q q => q [] H1 (Sub.refl _) .nil
theorem evds_cons (h : EvD K M ta σ H d) (hr : EvDs K M tr σ H ds) : EvDs K M (tCons ta tr) σ H (d :: ds) := fun H1 s Q q =>
  h H1 s _ fun v H2 s2 hd => hr H2 (s.trans s2) _ fun vs H3 s3 hds => q _ H3 (s2.trans s3) (.cons (Dm.s hd s3) hds)
theorem evd_tup (n : Kn M H) (h : EvDs K M tr σ H ds) (hl : ds.length < 1000000) : EvD K M (tTup tr) σ H (.tuple ds) := fun H1 s Q q =>
  h H1 s _ fun vs H2 s2 hds => ⟨Nat.le_of_lt (szl (by rw [hds.len]; exact hl)), fun p hp => q _ _ (s2.trans (Sub.new hp)) (Dm.tupNew (n.sub (s.trans s2)) hp hds)⟩
theorem evd_lst (n : Kn M H) (h : EvDs K M tr σ H ds) (hl : ds.length < 1000000) : EvD K M (tLst tr) σ H (.list ds) := fun H1 s Q q =>
  h H1 s _ fun vs H2 s2 hds => ⟨Nat.le_of_lt (szl (by rw [hds.len]; exact hl)), fun p hp => q _ _ (s2.trans (Sub.new hp)) (Dm.lstNew (n.sub (s.trans s2)) hp hds)⟩
theorem evd_ixT {i : Int} (h : EvD K M ta σ H (.tuple ds)) (hi : EvD K M tb σ H (.int i)) (h0 : 0 ≤ i) (hd : ds[i.toNat]? = some d) : EvD K M (tOp (rIxT K) ta tb) σ H d := fun H1 s Q q =>
  h H1 s _ fun v H2 s2 hv => hi H2 (s.trans s2) _ fun u H3 s3 hu => by
    obtain ⟨a, xs, y, rfl, hs, hat, hy⟩ := dm_getT (Dm.s hv s3) h0 hd
    cases hu.intAt
    exact ⟨a, xs, i, y, rfl, rfl, hs, hat, q y H3 (s2.trans s3) hy⟩
theorem evd_ixL {i : Int} (h : EvD K M ta σ H (.list ds)) (hi : EvD K M tb σ H (.int i)) (h0 : 0 ≤ i) (hd : ds[i.toNat]? = some d) : EvD K M (tOp (rIxL K) ta tb) σ H d := fun H1 s Q q =>
  h H1 s _ fun v H2 s2 hv => hi H2 (s.trans s2) _ fun u H3 s3 hu => by
    obtain ⟨a, xs, y, rfl, hs, hat, hy⟩ := dm_get (Dm.s hv s3) h0 hd
    cases hu.intAt
    exact ⟨a, xs, i, y, rfl, rfl, hs, hat, q y H3 (s2.trans s3) hy⟩
theorem evo_none : EvO tNoPart σ H none := fun H1 _ Q q => q H1 (Sub.refl _)
theorem evo_some {i : Int} (h : EvD K M te σ H (.int i)) : EvO (tPart te) σ H (some i) := fun H1 s Q q => h H1 s _ fun v H2 s2 hv => by
  cases hv.intAt
  exact ⟨i, rfl, q H2 s2⟩
def cutD (ds : List PyData) (lo hi : Option Int) : List PyData := (ds.drop (HT.sIx ds.length 0 lo)).take (HT.sIx ds.length ds.length hi - HT.sIx ds.length 0 lo)
theorem dps_cut {vs : List V} (h : DpAll K H vs ds) (lo hi : Option Int) : DpAll K H (cutV vs lo hi) (cutD ds lo hi) := by
  unfold cutV cutD
  rw [h.len]
  exact (h.drop _).take _
theorem cutD_to {m : Int} (h0 : 0 ≤ m) (h1 : m ≤ ds.length) : cutD ds none (some m) = ds.take m.toNat := by
  have e : ((m.toNat : Nat) : Int) = m := by omega
  unfold cutD
  rw [← e, HT.sIx_none, HT.sIx_nat, e, List.drop_zero, Nat.sub_zero, Nat.min_eq_left (by omega)]
theorem cutD_from {m : Int} (h0 : 0 ≤ m) (h1 : m ≤ ds.length) : cutD ds (some m) none = ds.drop m.toNat := by
  have e : ((m.toNat : Nat) : Int) = m := by omega
  unfold cutD
  rw [← e, HT.sIx_none, HT.sIx_nat, e, Nat.min_eq_left (by omega)]
  exact List.take_of_length_le (by rw [List.length_drop]; omega)
theorem evd_slT {lo hi : Option Int} (n : Kn M H) (h : EvD K M te σ H (.tuple ds)) (h1 : EvO tl σ H lo) (h2 : EvO th σ H hi) : EvD K M (tSl (rSlA K) te tl th) σ H (.tuple (cutD ds lo hi)) := fun H1 s Q q =>
  h H1 s _ fun v H2 s2 hv => h1 H2 (s.trans s2) _ fun H3 s3 => h2 H3 ((s.trans s2).trans s3) _ fun H4 s4 => by
    have hv4 := Dm.s (Dm.s hv s3) s4
    obtain ⟨a, xs, rfl, hs, ha⟩ := hv4.tupAt
    refine ⟨a, xs, rfl, hs, fun w => q _ H4 ((s2.trans s3).trans s4) ?_, fun _ p hp => q _ _ (((s2.trans s3).trans s4).trans (Sub.new hp)) (Dm.tupNew (n.sub (((s.trans s2).trans s3).trans s4)) hp (dps_cut ha lo hi))⟩
    have e : cutD ds lo hi = ds := by
      unfold cutD
      rw [ha.len] at w
      rw [w.1, w.2, List.drop_zero, Nat.sub_zero, List.take_length]
    rw [e]
    exact hv4
theorem evd_slL {lo hi : Option Int} (n : Kn M H) (h : EvD K M te σ H (.list ds)) (h1 : EvO tl σ H lo) (h2 : EvO th σ H hi) : EvD K M (tSl (rSlL K) te tl th) σ H (.list (cutD ds lo hi)) := fun H1 s Q q =>
  h H1 s _ fun v H2 s2 hv => h1 H2 (s.trans s2) _ fun H3 s3 => h2 H3 ((s.trans s2).trans s3) _ fun H4 s4 => by
    have hv4 := Dm.s (Dm.s hv s3) s4
    obtain ⟨a, xs, rfl, hs, ha⟩ := hv4.lstAt
    exact ⟨a, xs, rfl, hs, fun p hp => q _ _ (((s2.trans s3).trans s4).trans (Sub.new hp)) (Dm.lstNew (n.sub (((s.trans s2).trans s3).trans s4)) hp (dps_cut ha lo hi))⟩
theorem evd_catT (n : Kn M H) (h : EvD K M ta σ H (.tuple ds)) (h2 : EvD K M tb σ H (.tuple es)) (hl : ds.length + es.length < 1000000) : EvD K M (tOp (rCatA K) ta tb) σ H (.tuple (ds ++ es)) := fun H1 s Q q =>
  h H1 s _ fun v H2 s2 hv => h2 H2 (s.trans s2) _ fun u H3 s3 hu => by
    have hv3 := Dm.s hv s3
    obtain ⟨a, xs, rfl, hs, ha⟩ := hv3.tupAt
    obtain ⟨b, ys, rfl, hs', hb⟩ := hu.tupAt
    have l1 := ha.len
    have l2 := hb.len
    refine ⟨a, b, xs, ys, rfl, rfl, hs, hs', Nat.le_of_lt (szl (by omega)), fun z => ?_, fun _ z => ?_, fun _ _ p hp => ?_⟩
    · have e : ds = [] := List.eq_nil_of_length_eq_zero (by rw [← l1, z]; rfl)
      rw [e, List.nil_append] at q
      exact q _ H3 (s2.trans s3) hu
    · have e : es = [] := List.eq_nil_of_length_eq_zero (by rw [← l2, z]; rfl)
      rw [e, List.append_nil] at q
      exact q _ H3 (s2.trans s3) hv3
    · exact q _ _ ((s2.trans s3).trans (Sub.new hp)) (Dm.tupNew (n.sub ((s.trans s2).trans s3)) hp (ha.app hb))
/-- a list that is new -/
def EvNL (K : PySem.W.Frag) (M : List Addr) (te : TE) (σ : L2.St) (H : Hp) (ds : List PyData) : Prop := ∀ H1, Sub H H1 → ∀ Q : VK, (∀ p xs H', Sub H1 H' → H1 p = none → H' p = some (.lst xs) → Dms K (p :: M) H' xs ds → Q (.ref p) H') → te σ H1 Q
theorem EvNL.toD (n : Kn M H) (h : EvNL K M te σ H ds) : EvD K M te σ H (.list ds) := fun H1 s Q q => h H1 s Q fun p xs H' s2 hp e hx => q _ H' s2 (Dm.lstOf ((n.sub s).out hp) e hx)
theorem evn_lst (h : EvDs K M tr σ H ds) (hl : ds.length < 1000000) : EvNL K M (tLst tr) σ H ds := fun H1 s Q q =>
  h H1 s _ fun vs H2 s2 hds => ⟨Nat.le_of_lt (szl (by rw [hds.len]; exact hl)), fun p hp => q p vs _ (s2.trans (Sub.new hp)) (s2.free hp) upd_same (Dms.k (hds.more hp) (Kp.mut List.mem_cons_self))⟩
theorem evd_lc {vs : List Nat} {j : Nat} (g : PyData → PyData) (n : Kn M H) (h : EvD K M te σ H (.list ds)) (hz : ds.length < 100000) (hw : ∀ x, wipe ((wipe σ vs).set j (some x)) vs = wipe σ vs)
    (he : ∀ (Dl : Addr), H Dl = none → ∀ (d : PyData) (x : V) (H1 : Hp), Sub H H1 → Kn (Dl :: M) H1 → d ∈ ds → Dm K (Dl :: M) H1 x d → EvD K (Dl :: M) tb ((wipe σ vs).set j (some x)) H1 (g d)) : EvNL K M (tLc (iList K te) (gName j) tYes tb vs) σ H (ds.map g) := fun H1 s Q q =>
  h H1 s _ fun v H2 s2 hv => by
    obtain ⟨a, xs, rfl, hs, ha⟩ := hv.lstAtE
    have s02 := s.trans s2
    have hl := ha.len
    refine ⟨a, rfl, ⟨xs, (er_sub _ _).sqL hs⟩, fun Dl hD => ?_⟩
    have h0D : H Dl = none := s02.free hD
    refine lc_list (K := K) (a := a) (xs := xs) (fun i H' => Sub H2 H' ∧ ∃ acc, H' Dl = some (.lst acc) ∧ Dms K (Dl :: M) H' acc ((ds.take i).map g) ∧ SqL K (er (Dl :: M) H') a xs ∧ Dms K (Dl :: M) H' xs ds)
      ⟨Sub.new hD, [], upd_same, .nil, Sub.sqL (Kp.er (Kp.mut List.mem_cons_self)) (by rw [er_more hD]; exact hs), (ha.more hD).k (Kp.mut List.mem_cons_self)⟩ (fun i H' _ p => ?_) (fun i x H' hi p => ?_) (fun H' p => ?_)
    · obtain ⟨_, acc, _, _, p3, _⟩ := p
      exact (er_sub _ _).sqL p3
    · obtain ⟨sp, acc, p1, p2, p3, p4⟩ := p
      obtain ⟨d, hd, hx⟩ := p4.get' hi
      refine ⟨hw x, ?_⟩
      unfold tYes
      dsimp only
      rw [if_pos rfl]
      refine he Dl h0D d x H' (s02.trans sp) ((n.sub (s02.trans sp)).more ⟨_, p1⟩) (List.mem_of_getElem? hd) hx H' (Sub.refl _) _ fun y H3 s3 hy => ⟨acc, s3 _ _ p1, ?_, ?_⟩
      · have q1 := p2.len
        rw [List.length_map, List.length_take] at q1
        exact szl (by omega)
      · have km : Kp (Dl :: M) H3 (upd H3 Dl (.lst (acc ++ [y]))) := Kp.mut List.mem_cons_self
        refine ⟨(sp.trans s3).mut hD, _, upd_same, ?_, Sub.sqL km.er (Sub.sqL (Kp.er fun a o _ e => s3 a o e) p3), (Dms.s p4 s3).k km⟩
        rw [take_snoc hd, List.map_append]
        exact Dms.k ((Dms.s p2 s3).app (DpAll.one hy)) km
    · obtain ⟨sp, acc, p1, p2, p3, p4⟩ := p
      rw [hl, List.take_length] at p2
      exact q Dl acc H' (s2.trans sp) (s2.free hD) p1 p2
theorem evd_lcR {vs : List Nat} {j : Nat} {m : Int} (g : Nat → PyData) (n : Kn M H) (h : EvDs K M tr σ H [.int m]) (h0 : 0 ≤ m) (hz : m < 100000) (hw : ∀ x, wipe ((wipe σ vs).set j (some x)) vs = wipe σ vs)
    (he : ∀ (Dl : Addr), H Dl = none → ∀ (i : Nat) (H1 : Hp), Sub H H1 → Kn (Dl :: M) H1 → (i : Int) < m → EvD K (Dl :: M) tb ((wipe σ vs).set j (some (.int (i : Int)))) H1 (g i)) : EvNL K M (tLc (iRng1 tr) (gName j) tYes tb vs) σ H ((List.range m.toNat).map g) := fun H1 s Q q =>
  h H1 s _ fun us H2 s2 hv => by
    cases hv with
    | cons hv1 hv2 =>
    cases hv2
    cases hv1
    have s02 := s.trans s2
    refine ⟨m, rfl, by omega, by omega, fun Dl hD => ?_⟩
    have h0D : H Dl = none := s02.free hD
    refine lc_range (lo := 0) (n := m.toNat) (fun i H' => Sub H2 H' ∧ ∃ acc, H' Dl = some (.lst acc) ∧ Dms K (Dl :: M) H' acc ((List.range i).map g))
      ⟨Sub.new hD, [], upd_same, .nil⟩ (fun i H' hi p => ?_) (fun H' p => ?_)
    · obtain ⟨sp, acc, p1, p2⟩ := p
      rw [show (0 : Int) + (i : Nat) = (i : Int) by omega]
      refine ⟨hw _, ?_⟩
      unfold tYes
      dsimp only
      rw [if_pos rfl]
      refine he Dl h0D i H' (s02.trans sp) ((n.sub (s02.trans sp)).more ⟨_, p1⟩) (by omega) H' (Sub.refl _) _ fun y H3 s3 hy => ⟨acc, s3 _ _ p1, ?_, ?_⟩
      · have q1 := p2.len
        rw [List.length_map, List.length_range] at q1
        exact szl (by omega)
      · have km : Kp (Dl :: M) H3 (upd H3 Dl (.lst (acc ++ [y]))) := Kp.mut List.mem_cons_self
        refine ⟨(sp.trans s3).mut hD, _, upd_same, ?_⟩
        rw [List.range_succ, List.map_append]
        exact Dms.k ((Dms.s p2 s3).app (DpAll.one hy)) km
    · obtain ⟨sp, acc, p1, p2⟩ := p
      exact q Dl acc H' (s2.trans sp) (s2.free hD) p1 p2
end

theorem lt1 {α : Type} {a : α} : [a].length < 1000000 := by
  show 1 < 1000000
  decide
theorem lt2 {α : Type} {a b : α} : [a, b].length < 1000000 := by
  show 2 < 1000000
  decide
theorem lt3 {α : Type} {a b c : α} : [a, b, c].length < 1000000 := by
  show 3 < 1000000
  decide
theorem lt4 {α : Type} {a b c d : α} : [a, b, c, d].length < 1000000 := by
  show 4 < 1000000
  decide
section
variable {K : PySem.W.Frag} {M : List Addr} {σ : L2.St} {H H' : Hp} {te : TE} {tr : TA} {d : PyData} {ds : List PyData} {D : Ends} {u : TS} {i : Nat} {sp : Sp} {E : XK} {Q : VK} {y : V}
theorem ret_of (h : te σ H D.rt) : tRet te D σ H := h
theorem set_of (h : te σ H fun x H1 => D.nx (σ.set i (some x)) H1) : tAsg te (gName i) D σ H := h
theorem sset_of (h : te σ H fun x H1 => u D (σ.set i (some x)) H1) : tSeq (tAsg te (gName i)) u D σ H := h
theorem evd_set (h : EvD K M te σ H d) (k : ∀ v H1, Sub H H1 → Dm K M H1 v d → D.nx (σ.set i (some v)) H1) : tAsg te (gName i) D σ H := h H (Sub.refl _) _ fun v H1 s hd => k v H1 s hd
theorem evd_sset (h : EvD K M te σ H d) (k : ∀ v H1, Sub H H1 → Dm K M H1 v d → u D (σ.set i (some v)) H1) : tSeq (tAsg te (gName i)) u D σ H := h H (Sub.refl _) _ fun v H1 s hd => k v H1 s hd
theorem evd_ret (h : EvD K M te σ H d) (k : ∀ v H1, Sub H H1 → Dm K M H1 v d → D.rt v H1) : tRet te D σ H := h H (Sub.refl _) _ fun v H1 s hd => k v H1 s hd
theorem evb_call (hb : σ[i]? = some (some y)) (h : EvDs K M tr σ H ds) (k : ∀ vs H1, Sub H H1 → Dms K M H1 vs ds → sp (y :: vs) H1 Q E) : tCall sp [] E (tCons (tVar i) tr) σ H Q :=
  ⟨y, hb, h H (Sub.refl _) _ fun vs H1 s hd => by
    dsimp only
    rw [List.append_nil]
    exact k vs H1 s hd⟩
theorem evd_callQ (h : EvDs K M tr σ H ds) (k : ∀ vs H1, Sub H H1 → Dms K M H1 vs ds → sp vs H1 Q E) : tCall sp [] E tr σ H Q :=
  h H (Sub.refl _) _ fun vs H1 s hd => by
    rw [List.append_nil]
    exact k vs H1 s hd
theorem Dms.one_at {vs : List V} (h : Dms K M H vs [d]) : ∃ v, vs = [v] ∧ Dm K M H v d := by
  cases h with
  | cons h1 h2 =>
    cases h2
    exact ⟨_, rfl, h1⟩
theorem Dms.two_at {vs : List V} {e : PyData} (h : Dms K M H vs [d, e]) : ∃ v w, vs = [v, w] ∧ Dm K M H v d ∧ Dm K M H w e := by
  cases h with
  | cons h1 h2 =>
    obtain ⟨w, rfl, h3⟩ := Dms.one_at h2
    exact ⟨_, _, rfl, h1, h3⟩
theorem Dms.three_at {vs : List V} {e f : PyData} (h : Dms K M H vs [d, e, f]) : ∃ v w x, vs = [v, w, x] ∧ Dm K M H v d ∧ Dm K M H w e ∧ Dm K M H x f := by
  cases h with
  | cons h1 h2 =>
    obtain ⟨w, x, rfl, h3, h4⟩ := Dms.two_at h2
    exact ⟨_, _, _, rfl, h1, h3, h4⟩
end

/-! the words that a couple may have -/
def Words : List Str := ["wait", "yield", "oust"]
abbrev Cp := Str × Str
def cpD (c : Cp) : PyData := .tuple [.str c.1, .str c.2]
def CpOk (c : Cp) : Prop := c.1 ∈ Words ∧ c.2 ∈ Words
def spMenu (K : PySem.W.Frag) : Sp := fun vs H Q _ => ∃ (M : List Addr) (b l : Addr) (x : Str), vs = [.ref b, .str x] ∧ Cb M b l H ∧
  ∀ (y : V) (cs : List Cp) (H' : Hp), Fr b l H H' → 0 < cs.length → cs.length < 10 → (∀ c ∈ cs, CpOk c) → Dm K M H' y (.list (cs.map cpD)) → Q y H'
section
variable {P : Program} {w : World} {K : PySem.W.Frag} {mg : Str → Option Value} {base : Heap}
abbrev sMenu : Stmt := topS 20
theorem scMenu : FnScope ["bag", "style", "words", "found", "word", "other"] ["bag", "style"] (defScope sMenu) := ⟨rfl, rfl, rfl, by decide +kernel, rfl, by decide +kernel, by decide +kernel⟩
def eldM : List (List Cp) := [[("oust", "wait"), ("oust", "yield")], [("wait", "yield")], [("oust", "wait")]]
def youM : List (List Cp) := [[("wait", "oust")], [("yield", "wait"), ("yield", "oust")], [("yield", "oust")]]
def lcD (cs : List Cp) : PyData := .list (cs.map cpD)
theorem eld_ok : ∀ cs ∈ eldM, (∀ c ∈ cs, CpOk c) ∧ 0 < cs.length ∧ cs.length < 10 := by
  unfold eldM CpOk
  decide +kernel
theorem you_ok : ∀ cs ∈ youM, (∀ c ∈ cs, CpOk c) ∧ 0 < cs.length ∧ cs.length < 10 := by
  unfold youM CpOk
  decide +kernel
theorem ok_menu {f fS : Addr} {fd fdS : FuncData} (F : Fun K "_law_menu" "_law_menu" sMenu f fd) (T : Txt mg) 
    (CS : Cal P w K mg base "_law_some" 2 ["bag", "things"] (spSome K) fS fdS) : FnOk P w K mg base CX0 3 f fd ["bag", "style"] (spMenu K) := by
  refine F.ok scMenu (fun vs H Q E h => ?_) (fun cdv A outer s H vs Q E hr h => ?_)
  · obtain ⟨M, b, l, x, rfl, _⟩ := h
    rfl
  · obtain ⟨M, b, l, x, rfl, cb, k⟩ := h
    refine ⟨_, pss_cons (ps_set (i := 2) scMenu.nd rfl (Or.inl rfl) (pe_lst (pa_cons pe_str (pa_cons pe_str (pa_cons pe_str pa_nil)))))
      (pss_cons (ps_if (pt_cmpR op_eq (pv 1) pe_str (nomark _)) (pss_one (ps_ret (pcl CS hr (pa_cons (pv 0) (pa_cons
          (pe_lst (pa_cons (pe_lst (pa_cons (pe_tup (pa_cons pe_str (pa_cons pe_str pa_nil))) (pa_cons (pe_tup (pa_cons pe_str (pa_cons pe_str pa_nil))) pa_nil))) (pa_cons (pe_lst (pa_cons (pe_tup (pa_cons pe_str (pa_cons pe_str pa_nil))) pa_nil)) (pa_cons (pe_lst (pa_cons (pe_tup (pa_cons pe_str (pa_cons pe_str pa_nil))) pa_nil)) pa_nil)))) pa_nil))))) pss_nil)
      (pss_cons (ps_if (pt_cmpR op_eq (pv 1) pe_str (nomark _)) (pss_one (ps_ret (pcl CS hr (pa_cons (pv 0) (pa_cons
          (pe_lst (pa_cons (pe_lst (pa_cons (pe_tup (pa_cons pe_str (pa_cons pe_str pa_nil))) pa_nil)) (pa_cons (pe_lst (pa_cons (pe_tup (pa_cons pe_str (pa_cons pe_str pa_nil))) (pa_cons (pe_tup (pa_cons pe_str (pa_cons pe_str pa_nil))) pa_nil))) (pa_cons (pe_lst (pa_cons (pe_tup (pa_cons pe_str (pa_cons pe_str pa_nil))) pa_nil)) pa_nil)))) pa_nil))))) pss_nil)
      (Evl.pss_cut (ps_if (pt_cmpR op_eq (pv 1) pe_str (nomark _)) (pss_one (ps_set (i := 2) scMenu.nd rfl (Or.inl rfl) (pe_lst (pa_cons pe_str (pa_cons pe_str pa_nil))))) pss_nil)
      (pss_cons (ps_set (i := 3) scMenu.nd rfl (Or.inl rfl) (pe_lst pa_nil))
      (pss_cons (ps_for PassesOwn.never rfl (pi_list (pv 2)) (pg_name (i := 4) scMenu.nd rfl (Or.inr rfl))
        (pss_one (ps_expr (pe_bm PySem.F.plainAttrs_list PySem.F.slot_list_extend PySem.F.type_list_extend mt_extend (pv 3)
          (pa_cons (pe_lc (own := [("other", 5)]) (g := gName 5) (tt := tYes) rfl scMenu.nd (pi_list (pv 2)) (blkOk_by (N := ["bag", "style", "words", "found", "word", "other"]) (sc := defScope sMenu) (by decide +kernel)) (fun _ _ _ _ _ => pg_name (i := 5) scMenu.nd rfl (Or.inl rfl)) (fun _ _ _ _ _ => pts_nil)
            (fun _ _ _ _ _ => pe_tup (pa_cons (pv 4) (pa_cons (pv 5) pa_nil)))) pa_nil)))))
      (pss_one (ps_ret (pv 3)))))))), ?_⟩
    refine evd_sset (M := M) (K := K) (evd_lst cb.kn (evds_cons evd_str (evds_cons evd_str (evds_cons evd_str evds_nil))) lt3) fun vw H1 s1 hw => ?_
    have f1 : Fr b l H H1 := Fr.sub cb.bag s1
    have c1 := cb.fr f1
    have pr {y z : Str} {te te2 : TE} {σ : L2.St} {H : Hp} (n : Kn M H) (h1 : EvD K M te σ H (.str y)) (h2 : EvD K M te2 σ H (.str z)) : EvD K M (tTup (tCons te (tCons te2 tNil))) σ H (cpD (y, z)) := evd_tup n (evds_cons h1 (evds_cons h2 evds_nil)) lt2
    refine ⟨_, rfl, rfl, _, rfl, ite2 (fun e => ?_) (fun e => ?_)⟩
    · refine ret_of (evb_call (K := K) (M := M) rfl (evds_cons (evd_lst c1.kn (evds_cons (evd_lst c1.kn (evds_cons (pr c1.kn evd_str evd_str) (evds_cons (pr c1.kn evd_str evd_str) evds_nil)) lt2) (evds_cons (evd_lst c1.kn (evds_cons (pr c1.kn evd_str evd_str) evds_nil) lt1)
        (evds_cons (evd_lst c1.kn (evds_cons (pr c1.kn evd_str evd_str) evds_nil) lt1) evds_nil))) lt3) evds_nil) fun vs2 H2 s2 h2 => ?_)
      obtain ⟨v2, rfl, h2'⟩ := Dms.one_at h2
      have f2 := f1.trans (Fr.sub c1.bag s2)
      refine ⟨M, b, l, v2, eldM.map lcD, rfl, cb.fr f2, .inl h2', by decide, by decide, fun y d H3 f3 hd hy => ?_⟩
      obtain ⟨cs, hcs, rfl⟩ := List.mem_map.mp hd
      obtain ⟨o1, o2, o3⟩ := eld_ok cs hcs
      exact k y cs H3 (f2.trans f3) o2 o3 o1 hy
    refine ⟨_, rfl, rfl, _, rfl, ite2 (fun e => ?_) (fun e => ?_)⟩
    · refine ret_of (evb_call (K := K) (M := M) rfl (evds_cons (evd_lst c1.kn (evds_cons (evd_lst c1.kn (evds_cons (pr c1.kn evd_str evd_str) evds_nil) lt1) (evds_cons (evd_lst c1.kn (evds_cons (pr c1.kn evd_str evd_str) (evds_cons (pr c1.kn evd_str evd_str) evds_nil)) lt2)
        (evds_cons (evd_lst c1.kn (evds_cons (pr c1.kn evd_str evd_str) evds_nil) lt1) evds_nil))) lt3) evds_nil) fun vs2 H2 s2 h2 => ?_)
      obtain ⟨v2, rfl, h2'⟩ := Dms.one_at h2
      have f2 := f1.trans (Fr.sub c1.bag s2)
      refine ⟨M, b, l, v2, youM.map lcD, rfl, cb.fr f2, .inl h2', by decide, by decide, fun y d H3 f3 hd hy => ?_⟩
      obtain ⟨cs, hcs, rfl⟩ := List.mem_map.mp hd
      obtain ⟨o1, o2, o3⟩ := you_ok cs hcs
      exact k y cs H3 (f2.trans f3) o2 o3 o1 hy
    refine ⟨fun σ' H' => ∃ (vw : V) (ws : List Str), σ' = [some (.ref b), some (.str x), some vw, none, none, none] ∧ Fr b l H H' ∧ (∀ z ∈ ws, z ∈ Words) ∧ 0 < ws.length ∧ ws.length < 4 ∧ Dm K M H' vw (.list (ws.map PyData.str)), ?_, ?_⟩
    · refine ⟨_, rfl, rfl, _, rfl, ite2 (fun e => ?_) (fun e => ?_)⟩
      · refine evd_set (M := M) (K := K) (evd_lst c1.kn (evds_cons evd_str (evds_cons evd_str evds_nil)) lt2) fun vw2 H2 s2 hw2 => ?_
        exact ⟨vw2, ["wait", "yield"], rfl, f1.trans (Fr.sub c1.bag s2), by unfold Words; decide +kernel, by decide, by decide, hw2⟩
      · exact ⟨vw, Words, rfl, f1, fun z hz => hz, by decide, by decide, hw⟩
    rintro σ2 H2 ⟨vw, ws, rfl, f2, wOk, w0, w1, hw⟩
    refine ⟨Nat.zero_le _, fun p hp => ?_⟩
    have c2 := cb.fr f2
    have hp0 : H p = none := f2.free cb.bag hp
    have pb := ne_new cb.bag.at hp0
    obtain ⟨a, xs, rfl, hse, ha⟩ := hw.lstAtE
    have hl := ha.len
    rw [List.length_map] at hl
    have km0 {o : HO} : Kp (p :: M) H2 (upd H2 p o) := Kp.mut List.mem_cons_self
    refine ⟨_, rfl, a, rfl, ⟨_, (Sub.new hp).sqL ((er_sub _ _).sqL hse)⟩, for_list (K := K) (a := a) (xs := xs) (fun i σ H' => ∃ (u : Option V) (vs : List V) (cs : List Cp), σ = [some (.ref b), some (.str x), some (.ref a), some (.ref p), u, none] ∧ Fr b l H H' ∧ H' p = some (.lst vs) ∧ Dms K (p :: M) H' vs (cs.map cpD) ∧ cs.length = i * ws.length ∧ (∀ c ∈ cs, CpOk c) ∧
        SqL K (er (p :: M) H') a xs ∧ Dms K (p :: M) H' xs (ws.map PyData.str))
      ⟨none, [], [], rfl, f2.mut cb.bag hp0, upd_same, .nil, by simp, by simp, Sub.sqL (Kp.er km0) (by rw [er_more hp]; exact hse), (ha.more hp).k km0⟩ (fun i σ H' _ ⟨_, _, _, _, _, _, _, _, _, q, _⟩ => (er_sub _ _).sqL q) ?_ ?_⟩
    · rintro i y σ H' hi ⟨u, vs, cs, rfl, f3, h3p, hds, hcl, hco, hsx, hdx⟩
      have c3 : Cb (p :: M) b l H' := (cb.fr f3).more ⟨_, h3p⟩
      obtain ⟨d, hd, hy⟩ := hdx.get' hi
      rw [List.getElem?_map] at hd
      obtain ⟨z, hz, rfl⟩ := Option.map_eq_some_iff.mp hd
      cases Dm.strAt hy
      refine ⟨_, rfl, .inl ⟨rfl, _, SqL.of h3p⟩, ?_⟩
      have e1 : EvD K (p :: M) (tVar 2) ([some (V.ref b), some (V.str x), some (V.ref a), some (V.ref p), some (V.str z), none] : L2.St) H' (.list (ws.map PyData.str)) := evd_var rfl (.lst hsx hdx)
      refine (evd_lc (g := fun d => cpD (z, unS d)) c3.kn e1 (by rw [List.length_map]; omega) (fun _ => rfl) ?_) H' (Sub.refl _) _ fun q xs4 H4 s4 hq h4q h4 => ?_
      · intro Dl hD d x H5 s5 n5 hd5 hx5
        obtain ⟨z5, _, rfl⟩ := List.mem_map.mp hd5
        cases Dm.strAt hx5
        exact evd_tup n5 (evds_cons (evd_var rfl (.str z)) (evds_cons (evd_var rfl (.str z5)) evds_nil)) lt2
      have f4 : Fr b l H' H4 := Fr.sub c3.bag s4
      have h4p := s4 _ _ h3p
      have c4 := c3.fr f4
      rw [List.map_map] at h4
      have l1 := hds.len
      have l2 := h4.len
      rw [List.length_map] at l1 l2
      have hi4 := (List.getElem?_eq_some_iff.mp hi).1
      have hcl' : cs.length < 100 := by
        rw [hcl]
        have := Nat.mul_le_mul (show i ≤ 3 by omega) (show ws.length ≤ 3 by omega)
        omega
      refine ⟨p, q, vs, xs4, rfl, rfl, h4p, h4q, Nat.le_of_lt (szl (by omega)), ?_⟩
      have km {o : HO} : Kp (p :: M) H4 (upd H4 p o) := Kp.mut List.mem_cons_self
      have h4' : Dms K (p :: M) H4 xs4 ((ws.map fun z5 => (z, z5)).map cpD) := by
        rw [List.map_map]
        exact h4.less fun a h => List.mem_cons_of_mem _ h
      refine ⟨_, _, cs ++ ws.map (fun z5 => (z, z5)), rfl, (f3.trans f4).mut cb.bag hp0, upd_same, ?_, ?_, ?_, Sub.sqL ((Kp.trans (f4.kp c3.mem) km).er) hsx, ((hdx.f f4 c3.mem).k km)⟩
      · rw [List.map_append]
        exact Dms.k ((hds.f f4 c3.mem).app h4') km
      · rw [List.length_append, hcl, List.length_map, Nat.succ_mul]
      · intro c hc
        rcases List.mem_append.mp hc with hc | hc
        · exact hco c hc
        · obtain ⟨z5, hz5, rfl⟩ := List.mem_map.mp hc
          exact ⟨wOk z (List.mem_of_getElem? hz), wOk z5 hz5⟩
    · rintro σ H' ⟨u, vs, cs, rfl, f3, h3p, hds, hcl, hco, hsx, hdx⟩
      refine ⟨_, rfl, ?_⟩
      refine k _ cs H' f3 ?_ ?_ hco (Dm.lstOf (cb.kn.out hp0) h3p hds)
      · rw [hcl]
        exact Nat.mul_pos (by omega) w0
      · rw [hcl]
        have := Nat.mul_le_mul (show xs.length ≤ 3 by omega) (show ws.length ≤ 3 by omega)
        omega
end
end KZ

namespace KZ
open PySem PySem.Spec PyProof.Rows L2
section
variable {K : PySem.W.Frag} {M : List Addr} {σ : L2.St} {H H' : Hp} {te : TE} {tr : TA} {b l : Addr}
theorem lcR_bag {vs : List Nat} {j : Nat} {m : Int} (P : PyData → Prop) (cb : Cb M b l H) (h : EvDs K M tr σ H [.int m]) (h0 : 0 ≤ m) (hz : m < 100000) (hw : ∀ x, wipe ((wipe σ vs).set j (some x)) vs = wipe σ vs)
    (he : ∀ (Dl : Addr), H Dl = none → ∀ (i : Nat) (H1 : Hp), Fr b l H H1 → Cb (Dl :: M) b l H1 → (i : Int) < m → ∀ Q : VK, (∀ y d H2, Fr b l H1 H2 → P d → Dm K (Dl :: M) H2 y d → Q y H2) → te ((wipe σ vs).set j (some (.int (i : Int)))) H1 Q)
    (Q : VK) (q : ∀ p xs ds H', Fr b l H H' → H p = none → H' p = some (.lst xs) → Dms K (p :: M) H' xs ds → ds.length = m.toNat → (∀ d ∈ ds, P d) → Q (.ref p) H') : tLc (iRng1 tr) (gName j) tYes te vs σ H Q :=
  h H (Sub.refl _) _ fun us H2 s2 hv => by
    cases hv with
    | cons hv1 hv2 =>
    cases hv2
    cases hv1
    have f2 : Fr b l H H2 := Fr.sub cb.bag s2
    refine ⟨m, rfl, by omega, by omega, fun Dl hD => ?_⟩
    have h0D : H Dl = none := s2.free hD
    have pb := ne_new cb.bag.at h0D
    refine lc_range (lo := 0) (n := m.toNat) (fun i H' => Fr b l H H' ∧ ∃ acc ds, H' Dl = some (.lst acc) ∧ Dms K (Dl :: M) H' acc ds ∧ ds.length = i ∧ ∀ d ∈ ds, P d)
      ⟨f2.mut cb.bag h0D, [], [], upd_same, .nil, rfl, by simp⟩ (fun i H' hi p => ?_) (fun H' p => ?_)
    · obtain ⟨fp, acc, ds, p1, p2, p3, p4⟩ := p
      have c3 : Cb (Dl :: M) b l H' := (cb.fr fp).more ⟨_, p1⟩
      rw [show (0 : Int) + (i : Nat) = (i : Int) by omega]
      refine ⟨hw _, ?_⟩
      unfold tYes
      dsimp only
      rw [if_pos rfl]
      refine he Dl h0D i H' fp c3 (by omega) _ fun y d H3 f3 pd hy => ⟨acc, f3.k Dl _ (by simp [pb]) p1, ?_, ?_⟩
      · have q1 := p2.len
        exact szl (by omega)
      · have km : Kp (Dl :: M) H3 (upd H3 Dl (.lst (acc ++ [y]))) := Kp.mut List.mem_cons_self
        refine ⟨(fp.trans f3).mut cb.bag h0D, _, ds ++ [d], upd_same, Dms.k ((p2.f f3 c3.mem).app (DpAll.one hy)) km, by rw [List.length_append, p3] <;> rfl, ?_⟩
        intro e he
        rcases List.mem_append.mp he with he | he
        · exact p4 e he
        · rw [List.mem_singleton.mp he]
          exact pd
    · obtain ⟨fp, acc, ds, p1, p2, p3, p4⟩ := p
      exact q Dl acc ds H' fp h0D p1 p2 p3 p4
end
theorem args1 {te : TE} {σ : L2.St} {H : Hp} {Q : List V → Hp → Prop} (h : te σ H fun v H1 => Q [v] H1) : tCons te tNil σ H Q := h
theorem cb_args {r : List V → Hp → VK → Prop} {te : TE} {σ : L2.St} {H : Hp} {Q : VK} (h : te σ H fun v H1 => r [v] H1 Q) : tCB r (tCons te tNil) σ H Q := h
abbrev Row := List Cp
abbrev Tab := List Row
abbrev Jud := List Tab
def rowD (r : Row) : PyData := .tuple (r.map cpD)
def tabD (t : Tab) : PyData := .tuple (t.map rowD)
def judD (j : Jud) : PyData := .tuple (j.map tabD)
def RowOk (n : Nat) (r : Row) : Prop := r.length = n ∧ ∀ c ∈ r, CpOk c
def TabOk (n : Nat) (t : Tab) : Prop := t.length = n ∧ ∀ r ∈ t, RowOk n r
def JudOk (n m : Nat) (j : Jud) : Prop := j.length = m ∧ ∀ t ∈ j, TabOk n t
theorem cps_of {ds : List PyData} (h : ∀ d ∈ ds, ∃ c, CpOk c ∧ d = cpD c) : ∃ r : Row, ds = r.map cpD ∧ ∀ c ∈ r, CpOk c := by
  induction ds with
  | nil => exact ⟨[], rfl, by simp⟩
  | cons d ds ih =>
    obtain ⟨r, e, o⟩ := ih fun x hx => h x (List.mem_cons_of_mem _ hx)
    obtain ⟨c, oc, rfl⟩ := h d List.mem_cons_self
    exact ⟨c :: r, by rw [e] <;> rfl, fun x hx => (List.mem_cons.mp hx).elim (fun z => by rw [z]; exact oc) (o x)⟩
def spJudge (K : PySem.W.Frag) : Sp := fun vs H Q _ => ∃ (M : List Addr) (b l : Addr) (n m : Int) (x : Str), vs = [.ref b, .int n, .int m, .str x] ∧ Cb M b l H ∧ 0 ≤ n ∧ n < 1000 ∧ 0 ≤ m ∧ m < 1000 ∧
  ∀ (y : V) (j : Jud) (H' : Hp), Fr b l H H' → JudOk n.toNat m.toNat j → Dm K M H' y (judD j) → Q y H'
section
variable {P : Program} {w : World} {K : PySem.W.Frag} {mg : Str → Option Value} {base : Heap}
abbrev sJudge : Stmt := topS 21
theorem scJudge : FnScope ["bag", "kinds", "sorts", "style", "menu", "found", "sort", "rows", "asker", "holder"] ["bag", "kinds", "sorts", "style"] (defScope sJudge) := ⟨rfl, rfl, rfl, by decide +kernel, rfl, by decide +kernel, by decide +kernel⟩
theorem ok_judge {f fS fM : Addr} {fd fdS fdM : FuncData} (F : Fun K "_law_judge" "_law_judge" sJudge f fd) (T : Txt mg) 
    (CS : Cal P w K mg base "_law_some" 2 ["bag", "things"] (spSome K) fS fdS) (CM : Cal P w K mg base "_law_menu" 3 ["bag", "style"] (spMenu K) fM fdM) : FnOk P w K mg base CX0 4 f fd ["bag", "kinds", "sorts", "style"] (spJudge K) := by
  refine F.ok scJudge (fun vs H Q E h => ?_) (fun cdv A outer s H vs Q E hr h => ?_)
  · obtain ⟨M, b, l, n, m, x, rfl, _⟩ := h
    rfl
  · obtain ⟨M, b, l, n, m, x, rfl, cb, n0, n1, m0, m1, k⟩ := h
    have hr2 : Room 2 _ := hr.mono (by decide)
    refine ⟨_, pss_cons (ps_asg (pe_tup (pa_cons (pcl CM hr (pa_cons (pv 0) (pa_cons (pv 3) pa_nil))) (pa_cons (pe_lst pa_nil) pa_nil))) (pg_tup rfl (pgs_cons (pg_name (i := 4) scJudge.nd rfl (Or.inr rfl)) (pgs_cons (pg_name (i := 5) scJudge.nd rfl (Or.inl rfl)) pgs_nil))))
      (pss_cons (ps_for PassesOwn.never rfl (pi_range1 rfl T.range (pa_cons (pv 2) pa_nil)) (pg_name (i := 6) scJudge.nd rfl (Or.inl rfl))
        (pss_cons (ps_set (i := 7) scJudge.nd rfl (Or.inl rfl) (pe_lst pa_nil))
        (pss_cons (ps_for PassesOwn.never rfl (pi_range1 rfl T.range (pa_cons (pv 1) pa_nil)) (pg_name (i := 8) scJudge.nd rfl (Or.inl rfl))
          (pss_one (ps_expr (pe_bm PySem.F.plainAttrs_list PySem.F.slot_list_append PySem.F.type_list_append mt_append (pv 7)
            (pa_cons (pe_callTy call_tuple_of (by rfl) T.tuple bootTuple (pa_cons
              (pe_lc (own := [("holder", 9)]) (g := gName 9) (tt := tYes) rfl scJudge.nd (pi_range1 rfl T.range (pa_cons (pv 1) pa_nil)) (blkOk_by (N := ["bag", "kinds", "sorts", "style", "menu", "found", "sort", "rows", "asker", "holder"]) (sc := defScope sJudge) (by decide +kernel)) (fun _ _ _ _ _ => pg_name (i := 9) scJudge.nd rfl (Or.inl rfl)) (fun _ _ _ _ _ => pts_nil)
                (fun _ _ _ _ _ => pcl CS hr2 (pa_cons (pv 0) (pa_cons (pv 4) pa_nil)))) pa_nil)) pa_nil)))))
        (pss_one (ps_expr (pe_bm PySem.F.plainAttrs_list PySem.F.slot_list_append PySem.F.type_list_append mt_append (pv 5)
            (pa_cons (pe_callTy call_tuple_of (by rfl) T.tuple bootTuple (pa_cons (pv 7) pa_nil)) pa_nil)))))))
      (pss_one (ps_ret (pe_callTy call_tuple_of (by rfl) T.tuple bootTuple (pa_cons (pv 5) pa_nil))))), ?_⟩
    refine ⟨_, rfl, _, rfl, M, b, l, x, rfl, cb, fun vm cs H1 f1 c0 c1 cok hm => ⟨Nat.zero_le _, fun p hp => ⟨by show 2 ≤ sizeLine; decide, fun q hq => ?_⟩⟩⟩
    have hp0 : H p = none := f1.free cb.bag hp
    have pb := ne_new cb.bag.at hp0
    have npq : p ≠ q := ne_of_none upd_same hq
    have km1 {o : HO} : Kp (p :: M) H1 (upd H1 p o) := Kp.mut List.mem_cons_self
    refine ⟨q, _, rfl, SqT.of upd_same, rfl, _, _, rfl, _, _, rfl, rfl, ?_⟩
    have f2 : Fr b l H (upd (upd H1 p (.lst [])) q (.tup [vm, .ref p])) := (f1.mut cb.bag hp0).trans (Fr.new (f1.mut cb.bag hp0).bag hq)
    have hm2 : Dm K (p :: M) (upd (upd H1 p (.lst [])) q (.tup [vm, .ref p])) vm (.list (cs.map cpD)) := ((hm.more hp).k km1).s (Sub.new hq)
    refine ⟨_, rfl, m, rfl, by omega, by omega, for_range (lo := 0) (n := m.toNat) (fun i σ H' => ∃ (u6 u7 u8 : Option V) (vs : List V) (ts : Jud), σ = [some (.ref b), some (.int n), some (.int m), some (.str x), some vm, some (.ref p), u6, u7, u8, none] ∧ Fr b l H H' ∧ H' p = some (.lst vs) ∧ Dms K (p :: M) H' vs (ts.map tabD) ∧
        ts.length = i ∧ (∀ t ∈ ts, TabOk n.toNat t) ∧ Dm K (p :: M) H' vm (.list (cs.map cpD)))
      ⟨none, none, none, [], [], rfl, f2, by rw [upd_ne npq]; exact upd_same, .nil, rfl, by simp, hm2⟩ ?_ ?_⟩
    · rintro i σ H' hi ⟨u6, u7, u8, vs, ts, rfl, f3, h3p, hds, htl, hto, hm3⟩
      have c3 : Cb (p :: M) b l H' := (cb.fr f3).more ⟨_, h3p⟩
      -- rows = []
      refine ⟨Nat.zero_le _, fun r hr3 => ?_⟩
      have hr0 : H r = none := f3.free cb.bag hr3
      have rb := ne_new cb.bag.at hr0
      have nrp : p ≠ r := ne_of_none h3p hr3
      have km3 {o : HO} : Kp (r :: p :: M) H' (upd H' r o) := Kp.mut List.mem_cons_self
      refine ⟨_, rfl, n, rfl, by omega, by omega, for_range (lo := 0) (n := n.toNat) (fun i2 σ H4 => ∃ (u8 : Option V) (ws : List V) (rs : Tab), σ = [some (.ref b), some (.int n), some (.int m), some (.str x), some vm, some (.ref p), some (.int ((0 : Int) + (i : Nat))), some (.ref r), u8, none] ∧ Fr b l H' H4 ∧ H4 r = some (.lst ws) ∧ Dms K (r :: p :: M) H4 ws (rs.map rowD) ∧
          rs.length = i2 ∧ (∀ r ∈ rs, RowOk n.toNat r) ∧ H4 p = some (.lst vs) ∧ Dms K (r :: p :: M) H4 vs (ts.map tabD) ∧ Dm K (r :: p :: M) H4 vm (.list (cs.map cpD)))
        ⟨u8, [], [], rfl, Fr.new c3.bag hr3, upd_same, .nil, rfl, by simp, by rw [upd_ne nrp]; exact h3p, (hds.more hr3).k km3, (hm3.more hr3).k km3⟩ ?_ ?_⟩
      · rintro i2 σ H4 hi2 ⟨u8, ws, rs, rfl, f4, h4r, hws, hrl, hro, h4p, hds4, hm4⟩
        have c4 : Cb (r :: p :: M) b l H4 := (c3.fr f4).more ⟨_, h4r⟩
        refine ⟨_, rfl, .inl ⟨rfl, _, SqL.of h4r⟩, ?_⟩
        refine args1 (cb_args ?_)
        refine lcR_bag (K := K) (fun d => ∃ c, CpOk c ∧ d = cpD c) c4 (evds_cons (evd_var rfl (.int n)) evds_nil) n0 (by omega) (by intro z; rfl) ?_ _ ?_
        · intro Dl hD i3 H5 f5 c5 hi3 Q5 q5
          refine ⟨_, rfl, _, rfl, Dl :: r :: p :: M, b, l, vm, _, rfl, c5, .inl (((hm4.more hD)).f f5 c5.mem), by rw [List.length_map]; exact c0, by rw [List.length_map]; omega, fun y d H6 f6 hd hy => ?_⟩
          obtain ⟨c, hc, rfl⟩ := List.mem_map.mp hd
          exact q5 y _ H6 f6 ⟨c, cok c hc, rfl⟩ hy
        · intro t xs ds H5 f5 ht h5t hxs hdl hdo
          obtain ⟨row, rfl, hrok⟩ := cps_of hdo
          rw [List.length_map] at hdl
          refine ⟨t, xs, rfl, .inl ⟨SqL.of h5t, fun z hz => ?_⟩⟩
          have c5 := c4.fr f5
          have f6 : Fr b l H4 (upd H5 z (.tup xs)) := f5.trans (Fr.new f5.bag hz)
          have ht4 : H4 r = some (.lst ws) := h4r
          have h6r : upd H5 z (.tup xs) r = some (.lst ws) := f6.k r _ (by simp [rb]) h4r
          have h6p : upd H5 z (.tup xs) p = some (.lst vs) := f6.k p _ (by simp [pb]) h4p
          have hz6 : Dm K (r :: p :: M) (upd H5 z (.tup xs)) (.ref z) (rowD row) := Dm.tupNew c5.kn hz (hxs.less fun a h => List.mem_cons_of_mem _ h)
          have km6 {o : HO} : Kp (r :: p :: M) (upd H5 z (.tup xs)) (upd (upd H5 z (.tup xs)) r o) := Kp.mut List.mem_cons_self
          have hwl := hws.len
          rw [List.length_map] at hwl
          refine ⟨r, ws, _, rfl, rfl, h6r, szl (by omega), ?_⟩
          refine ⟨_, _, rs ++ [row], rfl, (f4.trans f6).mut c3.bag hr3, upd_same, ?_, by rw [List.length_append, hrl] <;> rfl, ?_, by rw [upd_ne nrp]; exact h6p, ((hds4.f f6 c4.mem).k km6), ((hm4.f f6 c4.mem).k km6)⟩
          · rw [List.map_append]
            exact Dms.k ((hws.f f6 c4.mem).app (DpAll.one hz6)) km6
          · intro e he
            rcases List.mem_append.mp he with he | he
            · exact hro e he
            · rw [List.mem_singleton.mp he]
              exact ⟨hdl, hrok⟩
      · rintro σ H4 ⟨u8, ws, rs, rfl, f4, h4r, hws, hrl, hro, h4p, hds4, hm4⟩
        have c4 : Cb (r :: p :: M) b l H4 := (c3.fr f4).more ⟨_, h4r⟩
        refine ⟨_, rfl, .inl ⟨rfl, _, SqL.of h4p⟩, _, rfl, r, ws, rfl, .inl ⟨SqL.of h4r, fun z hz => ?_⟩⟩
        have f5 : Fr b l H' (upd H4 z (.tup ws)) := f4.trans (Fr.new f4.bag hz)
        have h5p : upd H4 z (.tup ws) p = some (.lst vs) := f5.k p _ (by simp [pb]) h3p
        have c4' := c3.fr f4
        have hz5 : Dm K (p :: M) (upd H4 z (.tup ws)) (.ref z) (tabD rs) := Dm.tupNew c4'.kn hz (hws.less fun a h => List.mem_cons_of_mem _ h)
        have km5 {o : HO} : Kp (p :: M) (upd H4 z (.tup ws)) (upd (upd H4 z (.tup ws)) p o) := Kp.mut List.mem_cons_self
        have hvl := hds.len
        rw [List.length_map] at hvl
        refine ⟨p, vs, _, rfl, rfl, h5p, szl (by omega), ?_⟩
        refine ⟨_, _, _, _, ts ++ [rs], rfl, (f3.trans f5).mut cb.bag hp0, upd_same, ?_, by rw [List.length_append, htl] <;> rfl, ?_, ((hm3.f f5 c3.mem).k km5)⟩
        · rw [List.map_append]
          exact Dms.k ((hds.f f5 c3.mem).app (DpAll.one hz5)) km5
        · intro e he
          rcases List.mem_append.mp he with he | he
          · exact hto e he
          · rw [List.mem_singleton.mp he]
            exact ⟨hrl, hro⟩
    · rintro σ H' ⟨u6, u7, u8, vs, ts, rfl, f3, h3p, hds, htl, hto, hm3⟩
      refine ⟨_, rfl, p, vs, rfl, .inl ⟨SqL.of h3p, fun z hz => ?_⟩⟩
      exact k _ ts _ (f3.trans (Fr.new f3.bag hz)) ⟨htl, hto⟩ (Dm.tupNew (cb.fr f3).kn hz (hds.less fun a h => List.mem_cons_of_mem _ h))
end
end KZ

namespace KZ
open PySem PySem.Spec PyProof.Rows L2
theorem set_eq {α : Type} (d : α) : ∀ (ds : List α) (i : Nat), i < ds.length → ds.take i ++ [d] ++ ds.drop (i + 1) = ds.set i d
  | [], _, h => by simp at h
  | x :: xs, 0, _ => rfl
  | x :: xs, i + 1, h => by
    have q := set_eq d xs i (by simpa using h)
    show x :: (xs.take i ++ [d] ++ xs.drop (i + 1)) = x :: xs.set i d
    rw [q]
section
variable {K : PySem.W.Frag} {M : List Addr} {σ : L2.St} {H H' : Hp} {ta tb tx ti tj te : TE} {tr : TA} {d : PyData} {ds : List PyData} {i : Int}
theorem evd_put (n : Kn M H) (ha : EvD K M ta σ H (.tuple ds)) (hi : EvD K M ti σ H (.int i)) (hx : EvD K M tx σ H d) (hb : EvD K M tb σ H (.tuple ds)) (hj : EvD K M tj σ H (.int (i + 1))) (h0 : 0 ≤ i) (h1 : i < ds.length) (hz : ds.length < 100000) :
    EvD K M (tOp (rCatA K) (tOp (rCatA K) (tSl (rSlA K) ta tNoPart (tPart ti)) (tTup (tCons tx tNil))) (tSl (rSlA K) tb (tPart tj) tNoPart)) σ H (.tuple (ds.set i.toNat d)) := by
  have e1 := evd_slT n ha evo_none (evo_some hi)
  have e2 := evd_slT n hb (evo_some hj) evo_none
  rw [cutD_to h0 (by omega)] at e1
  rw [cutD_from (by omega) (by omega)] at e2
  have e3 := evd_catT n (evd_catT n e1 (evd_tup n (evds_cons hx evds_nil) lt1) (by rw [List.length_take]; simp; omega)) e2 (by rw [List.length_append, List.length_take, List.length_drop]; simp; omega)
  rw [show (i + 1).toNat = i.toNat + 1 by omega, set_eq d ds i.toNat (by omega)] at e3
  exact e3
theorem evd_add {j : Int} (ha : EvD K M ta σ H (.int i)) (hb : EvD K M tb σ H (.int j)) : EvD K M (tOp (rI0 fun i j => .int (i + j)) ta tb) σ H (.int (i + j)) := fun H1 s Q q =>
  ha H1 s _ fun v H2 s2 hv => hb H2 (s.trans s2) _ fun u H3 s3 hu => by
    cases hv.intAt
    cases hu.intAt
    exact ⟨i, j, rfl, rfl, q _ H3 (s2.trans s3) (.int _)⟩
/-- a call of a def without a bag, by the data of its arguments -/
def SpD (K : PySem.W.Frag) (M : List Addr) (sp : Sp) (H : Hp) (ds : List PyData) (d : PyData) : Prop := ∀ (vs : List V) (H1 : Hp) (Q : VK) (E : XK), Sub H H1 → Dms K M H1 vs ds → (∀ v H', Sub H1 H' → Dm K M H' v d → Q v H') → sp vs H1 Q E
theorem evd_call {sp : Sp} {E : XK} (h : EvDs K M tr σ H ds) (hs : SpD K M sp H ds d) : EvD K M (tCall sp [] E tr) σ H d := fun H1 s Q q =>
  h H1 s _ fun vs H2 s2 hd => by
    rw [List.append_nil]
    exact hs vs H2 Q E (s.trans s2) hd fun v H' s3 hv => q v H' (s2.trans s3) hv
end

theorem Dm.threeT {K : PySem.W.Frag} {M : List Addr} {H : Hp} {v : V} {d e f : PyData} (h : Dm K M H v (.tuple [d, e, f])) : ∃ a v1 v2 v3, v = .ref a ∧ SqT K H a [v1, v2, v3] ∧ Dm K M H v1 d ∧ Dm K M H v2 e ∧ Dm K M H v3 f := by
  obtain ⟨a, xs, rfl, hs, ha⟩ := h.tupAt
  obtain ⟨v1, v2, v3, rfl, h1, h2, h3⟩ := Dms.three_at ha
  exact ⟨a, v1, v2, v3, rfl, hs, h1, h2, h3⟩
end KZ

namespace KZ
open PySem PySem.Spec PyProof.Rows L2
structure Hou where
  ks : List Kd
  ss : List Str
  j : Jud
def houD (h : Hou) : PyData := .tuple [.tuple (h.ks.map kdD), .tuple (h.ss.map PyData.str), judD h.j]
structure HouOk (h : Hou) : Prop where
  k0 : 0 < h.ks.length
  k1 : h.ks.length < 10
  ks : KdsOk h.ks
  s0 : 0 < h.ss.length
  s1 : h.ss.length < 10
  sn : ∀ n ∈ h.ss, n ∈ Names
  sd : h.ss.Nodup
  j : JudOk h.ks.length h.ss.length h.j
theorem mem_set {α : Type} {l : List α} {i : Nat} {x y : α} (h : y ∈ l.set i x) : y ∈ l ∨ y = x := by
  rcases List.mem_or_eq_of_mem_set h with h | h
  · exact .inl h
  · exact .inr h
theorem jud_put {n m : Nat} {j : Jud} {s a h : Nat} {c : Cp} {t : Tab} {r : Row} (ok : JudOk n m j) (et : j[s]? = some t) (er : t[a]? = some r) (oc : CpOk c) : JudOk n m (j.set s (t.set a (r.set h c))) := by
  have ot := ok.2 t (List.mem_of_getElem? et)
  have or_ := ot.2 r (List.mem_of_getElem? er)
  refine ⟨by rw [List.length_set]; exact ok.1, fun t' ht' => ?_⟩
  rcases mem_set ht' with q | q
  · exact ok.2 t' q
  · rw [q]
    refine ⟨by rw [List.length_set]; exact ot.1, fun r' hr' => ?_⟩
    rcases mem_set hr' with q | q
    · exact ot.2 r' q
    · rw [q]
      refine ⟨by rw [List.length_set]; exact or_.1, fun c' hc' => ?_⟩
      rcases mem_set hc' with q | q
      · exact or_.2 c' q
      · rw [q]
        exact oc
def spPut (K : PySem.W.Frag) : Sp := fun vs H Q _ => ∃ (M : List Addr) (n m : Nat) (j : Jud) (s a h : Int) (c : Cp) (vj vc : V), vs = [vj, .int s, .int a, .int h, vc] ∧ Kn M H ∧ Dm K M H vj (judD j) ∧ JudOk n m j ∧ (0 ≤ s ∧ s < m) ∧ (0 ≤ a ∧ a < n) ∧ (0 ≤ h ∧ h < n) ∧ n < 1000 ∧ m < 1000 ∧ Dm K M H vc (cpD c) ∧ CpOk c ∧
  ∀ (y : V) (j' : Jud) (H' : Hp), Sub H H' → JudOk n m j' → Dm K M H' y (judD j') → Q y H'
section
variable {P : Program} {w : World} {K : PySem.W.Frag} {mg : Str → Option Value} {base : Heap}
abbrev sPut : Stmt := topS 22
theorem scPut : FnScope ["judge", "sort", "asker", "holder", "couple", "rows", "row"] ["judge", "sort", "asker", "holder", "couple"] (defScope sPut) := ⟨rfl, rfl, rfl, by decide +kernel, rfl, by decide +kernel, by decide +kernel⟩
theorem ok_put {f : Addr} {fd : FuncData} (F : Fun K "_law_put" "_law_put" sPut f fd) : FnOk P w K mg base CX0 1 f fd ["judge", "sort", "asker", "holder", "couple"] (spPut K) := by
  refine F.ok scPut (fun vs H Q E h => ?_) (fun cdv A outer s H vs Q E hr h => ?_)
  · obtain ⟨M, n, m, j, s, a, h, c, vj, vc, rfl, _⟩ := h
    rfl
  · obtain ⟨M, n, m, j, s, a, h, c, vj, vc, rfl, kn, hj, ok, ⟨s0, s1⟩, ⟨a0, a1⟩, ⟨h0, h1⟩, nz, mz, hc, oc, k⟩ := h
    refine ⟨_, pss_cons (ps_set (i := 5) scPut.nd rfl (Or.inl rfl) (pe_ix ix_tup (pv 0) (pv 1) (fun _ _ => rfl)))
      (pss_cons (ps_set (i := 6) scPut.nd rfl (Or.inl rfl) (pe_op op_catA (pe_op op_catA (pe_slice sl_tupA (pe_ix ix_tup (pv 5) (pv 2) (fun _ _ => rfl)) po_none (po_some (pv 3))) (pe_tup (pa_cons (pv 4) pa_nil)))
        (pe_slice sl_tupA (pe_ix ix_tup (pv 5) (pv 2) (fun _ _ => rfl)) (po_some (pe_op op_add (pv 3) pe_int)) po_none)))
      (pss_one (ps_ret (pe_op op_catA (pe_op op_catA (pe_slice sl_tupA (pv 0) po_none (po_some (pv 1)))
        (pe_tup (pa_cons (pe_op op_catA (pe_op op_catA (pe_slice sl_tupA (pv 5) po_none (po_some (pv 2))) (pe_tup (pa_cons (pv 6) pa_nil))) (pe_slice sl_tupA (pv 5) (po_some (pe_op op_add (pv 2) pe_int)) po_none)) pa_nil)))
        (pe_slice sl_tupA (pv 0) (po_some (pe_op op_add (pv 1) pe_int)) po_none))))), ?_⟩
    have hjl := ok.1
    have et : j[s.toNat]? = some (j[s.toNat]'(by omega)) := List.getElem?_eq_getElem _
    generalize ht : j[s.toNat]'(by omega) = t at et
    have ot := ok.2 t (List.mem_of_getElem? et)
    have htl := ot.1
    have er : t[a.toNat]? = some (t[a.toNat]'(by omega)) := List.getElem?_eq_getElem _
    generalize hr' : t[a.toNat]'(by omega) = r at er
    have hrl := (ot.2 r (List.mem_of_getElem? er)).1
    have i1 {σ : L2.St} {H : Hp} (g : σ[1]? = some (some (V.int s))) : EvD K M (tVar 1) σ H (.int s) := evd_var g (.int s)
    have i2 {σ : L2.St} {H : Hp} (g : σ[2]? = some (some (V.int a))) : EvD K M (tVar 2) σ H (.int a) := evd_var g (.int a)
    have i3 {σ : L2.St} {H : Hp} (g : σ[3]? = some (some (V.int h))) : EvD K M (tVar 3) σ H (.int h) := evd_var g (.int h)
    refine evd_sset (K := K) (M := M) (d := tabD t) (evd_ixT (evd_var rfl hj) (i1 rfl) s0 (by rw [List.getElem?_map, et] <;> rfl)) fun v5 H1 s1' h5 => ?_
    have hj1 := Dm.s hj s1'
    have hc1 := Dm.s hc s1'
    have n1 := kn.sub s1'
    have erow {σ : L2.St} (g : σ[5]? = some (some v5)) (g2 : σ[2]? = some (some (V.int a))) : EvD K M (tOp (rIxT K) (tVar 5) (tVar 2)) σ H1 (.tuple (r.map cpD)) := evd_ixT (evd_var g h5) (i2 g2) a0 (by rw [List.getElem?_map, er] <;> rfl)
    refine evd_sset (K := K) (M := M) (d := rowD (r.set h.toNat c)) ?_ fun v6 H2 s2 h6 => ?_
    · have q := evd_put n1 (erow rfl rfl) (i3 rfl) (evd_var (i := 4) rfl hc1) (erow rfl rfl) (evd_add (i3 rfl) evd_int) h0 (by rw [List.length_map]; omega) (by rw [List.length_map]; omega) (σ := [some vj, some (V.int s), some (V.int a), some (V.int h), some vc, some v5, none])
      rw [← List.map_set] at q
      exact q
    have n2 := n1.sub s2
    have hj2 := Dm.s hj1 s2
    have h52 := Dm.s h5 s2
    refine evd_ret (K := K) (M := M) (d := judD (j.set s.toNat (t.set a.toNat (r.set h.toNat c)))) ?_ fun y H3 s3 hy => k y _ H3 ((s1'.trans s2).trans s3) (jud_put ok et er oc) hy
    have q1 := evd_put n2 (evd_var (i := 5) rfl h52) (i2 rfl) (evd_var (i := 6) rfl h6) (evd_var (i := 5) rfl h52) (evd_add (i2 rfl) evd_int) a0 (by rw [List.length_map]; omega) (by rw [List.length_map]; omega) (σ := [some vj, some (V.int s), some (V.int a), some (V.int h), some vc, some v5, some v6])
    rw [← List.map_set] at q1
    have q2 := evd_put n2 (evd_var (i := 0) rfl hj2) (i1 rfl) q1 (evd_var (i := 0) rfl hj2) (evd_add (i1 rfl) evd_int) s0 (by rw [List.length_map]; omega) (by rw [List.length_map]; omega)
    rw [show PyData.tuple (List.map rowD (t.set a.toNat (r.set h.toNat c))) = tabD (t.set a.toNat (r.set h.toNat c)) from rfl, ← List.map_set] at q2
    exact q2
end
end KZ

namespace KZ
open PySem PySem.Spec PyProof.Rows L2
theorem kds_flip {ks : List Kd} (ok : KdsOk ks) {i : Nat} {k : Kd} (e : ks[i]? = some k) (b : Bool) : KdsOk (ks.set i (k.1, b, k.2.2)) := by
  have em : (ks.set i (k.1, b, k.2.2)).map (·.1) = ks.map (·.1) := by
    rw [List.map_set]
    have e2 : (ks.map (·.1))[i]? = some k.1 := by rw [List.getElem?_map, e] <;> rfl
    refine List.ext_getElem? fun j => ?_
    rw [List.getElem?_set]
    by_cases z : i = j
    · subst z
      have hi : i < (ks.map (·.1)).length := (List.getElem?_eq_some_iff.mp e2).1
      rw [if_pos rfl, if_pos hi, e2]
    · rw [if_neg z]
  refine ⟨fun k' hk' => ?_, by rw [em]; exact ok.nd, fun j k' ej => ?_⟩
  · rcases mem_set hk' with q | q
    · exact ok.name k' q
    · rw [q]
      exact ok.name k (List.mem_of_getElem? e)
  · rw [List.length_set]
    rw [List.getElem?_set] at ej
    by_cases z : i = j
    · rw [if_pos z] at ej
      split at ej
      · cases Option.some.inj ej
        subst z
        exact ok.rise i k e
      · cases ej
    · rw [if_neg z] at ej
      exact ok.rise j k' ej
def spSpoilt (K : PySem.W.Frag) : Sp := fun vs H Q _ => ∃ (M : List Addr) (b l : Addr) (v : V) (h : Hou), vs = [.ref b, v] ∧ Cb M b l H ∧ Dm K M H v (houD h) ∧ HouOk h ∧
  ∀ (y : V) (h' : Hou) (H' : Hp), Fr b l H H' → HouOk h' → h'.ks.length = h.ks.length → h'.ss.length = h.ss.length → Dm K M H' y (houD h') → Q y H'
section
variable {P : Program} {w : World} {K : PySem.W.Frag} {mg : Str → Option Value} {base : Heap}
abbrev sSpoilt : Stmt := topS 23
theorem scSpoilt : FnScope ["bag", "house", "kinds", "sorts", "judge", "turn", "couple", "places", "k"] ["bag", "house"] (defScope sSpoilt) := ⟨rfl, rfl, rfl, by decide +kernel, rfl, by decide +kernel, by decide +kernel⟩
theorem wordsD {d : PyData} (h : d ∈ [PyData.str "wait", PyData.str "yield", PyData.str "oust"]) : ∃ x, x ∈ Words ∧ d = .str x := by
  simp only [List.mem_cons, List.not_mem_nil, or_false] at h
  unfold Words
  rcases h with h | h | h
  · exact ⟨_, by simp, h⟩
  · exact ⟨_, by simp, h⟩
  · exact ⟨_, by simp, h⟩
theorem tup_of {tr : TA} {σ : L2.St} {H : Hp} {Q : VK} (h : tr σ H fun xs H1 => xs.length ≤ sizeLine ∧ ∀ p, H1 p = none → Q (.ref p) (upd H1 p (.tup xs))) : tTup tr σ H Q := h
theorem cons_of {te : TE} {tr : TA} {σ : L2.St} {H : Hp} {Q : List V → Hp → Prop} (h : te σ H fun x H1 => tr σ H1 fun xs H2 => Q (x :: xs) H2) : tCons te tr σ H Q := h
section
variable {M : List Addr} {b l : Addr} {σ : L2.St} {H : Hp} {Q : VK} {E : XK}
theorem some_words (cb : Cb M b l H) (h0 : σ[0]? = some (some (.ref b))) (q : ∀ y x H', Fr b l H H' → x ∈ Words → Dm K M H' y (.str x) → Q y H') :
    tCall (spSome K) [] E (tCons (tVar 0) (tCons (tLst (tCons (tC (.str "wait")) (tCons (tC (.str "yield")) (tCons (tC (.str "oust")) tNil)))) tNil)) σ H Q := by
  refine evb_call (K := K) (M := M) h0 (evds_cons (evd_lst cb.kn (evds_cons evd_str (evds_cons evd_str (evds_cons evd_str evds_nil))) lt3) evds_nil) fun vs H1 s1 h1 => ?_
  obtain ⟨v, rfl, h1'⟩ := Dms.one_at h1
  have f1 : Fr b l H H1 := Fr.sub cb.bag s1
  refine ⟨M, b, l, v, _, rfl, cb.fr f1, .inl h1', by decide, by decide, fun y d H' f2 hd hy => ?_⟩
  obtain ⟨x, hx, rfl⟩ := wordsD hd
  exact q y x H' (f1.trans f2) hx hy
theorem take_lit {n : Int} (cb : Cb M b l H) (h0 : σ[0]? = some (some (.ref b))) (hn : 0 < n) (hz : n < 1000000) (q : ∀ (j : Int) (H' : Hp), Fr b l H H' → 0 ≤ j → j < n → Q (.int j) H') : tCall spTake [] E (tCons (tVar 0) (tCons (tC (.int n)) tNil)) σ H Q :=
  ⟨_, h0, b, l, n, rfl, cb.bag, hn, by omega, fun j H' f j0 j1 => q j H' f j0 j1⟩
theorem take_len {i : Nat} {v : V} {ds : List PyData} (cb : Cb M b l H) (h0 : σ[0]? = some (some (.ref b))) (hi : σ[i]? = some (some v)) (hv : Its K M H v ds) (d0 : 0 < ds.length) (d1 : ds.length < 1000000)
    (q : ∀ (j : Int) (H' : Hp), Fr b l H H' → 0 ≤ j → j < ds.length → Q (.int j) H') :
    tCall spTake [] E (tCons (tVar 0) (tCons (tCB (fun xs H Q => ∃ p ys, xs = [.ref p] ∧ (SqL K H p ys ∨ SqT K H p ys) ∧ Q (.int ys.length) H) (tCons (tVar i) tNil)) tNil)) σ H Q := by
  obtain ⟨a, xs, rfl, hs, ha⟩ := hv.at
  have hl := ha.len
  exact ⟨_, h0, _, hi, a, xs, rfl, hs, b, l, _, rfl, cb.bag, by omega, by omega, fun j H' f j0 j1 => q j H' f j0 (by omega)⟩
theorem evd_not {b : Bool} {te : TE} (h : EvD K M te σ H (.bool b)) : EvD K M (tNotV te) σ H (.bool (!b)) := fun H1 s Q q => h H1 s _ fun v H2 s2 hv => by
  cases hv.blAt
  exact ⟨b, rfl, q _ H2 s2 (.bl _)⟩
end
theorem ok_spoilt {f fT fS fP : Addr} {fd fdT fdS fdP : FuncData} (F : Fun K "_law_spoilt_house" "_law_spoilt_house" sSpoilt f fd) (T : Txt mg) (CT : Cal P w K mg base "_law_take" 1 ["bag", "upto"] spTake fT fdT)
    (CS : Cal P w K mg base "_law_some" 2 ["bag", "things"] (spSome K) fS fdS) (CP : Cal P w K mg base "_law_put" 1 ["judge", "sort", "asker", "holder", "couple"] (spPut K) fP fdP) : FnOk P w K mg base CX0 3 f fd ["bag", "house"] (spSpoilt K) := by
  refine F.ok scSpoilt (fun vs H Q E h => ?_) (fun cdv A outer s H vs Q E hr h => ?_)
  · obtain ⟨M, b, l, v, h, rfl, _⟩ := h
    rfl
  · obtain ⟨M, b, l, v, ho, rfl, cb, hv, ok, k⟩ := h
    have hr1 : Room 1 _ := hr.mono (by decide)
    refine ⟨_, pss_cons (ps_asg (pv 1) (pg_tup rfl (pgs_cons (pg_name (i := 2) scSpoilt.nd rfl (Or.inl rfl)) (pgs_cons (pg_name (i := 3) scSpoilt.nd rfl (Or.inl rfl)) (pgs_cons (pg_name (i := 4) scSpoilt.nd rfl (Or.inl rfl)) pgs_nil)))))
      (pss_cons (ps_for PassesOwn.never rfl (pi_range1 rfl T.range (pa_cons (pe_op op_add pe_int (pcl CT hr1 (pa_cons (pv 0) (pa_cons pe_int pa_nil)))) pa_nil)) (pg_name (i := 5) scSpoilt.nd rfl (Or.inl rfl))
        (pss_cons (ps_set (i := 6) scSpoilt.nd rfl (Or.inl rfl) (pe_tup (pa_cons (pcl CS hr (pa_cons (pv 0) (pa_cons (pe_lst (pa_cons pe_str (pa_cons pe_str (pa_cons pe_str pa_nil)))) pa_nil))) (pa_cons (pcl CS hr (pa_cons (pv 0) (pa_cons (pe_lst (pa_cons pe_str (pa_cons pe_str (pa_cons pe_str pa_nil)))) pa_nil))) pa_nil))))
        (pss_cons (ps_set (i := 7) scSpoilt.nd rfl (Or.inl rfl) (pe_tup (pa_cons (pcl CT hr1 (pa_cons (pv 0) (pa_cons (pe_callB call_len_seq (by rfl) T.len PySem.boot_len (pa_cons (pv 3) pa_nil)) pa_nil))) (pa_cons (pcl CT hr1 (pa_cons (pv 0) (pa_cons (pe_callB call_len_seq (by rfl) T.len PySem.boot_len (pa_cons (pv 2) pa_nil)) pa_nil)))
          (pa_cons (pcl CT hr1 (pa_cons (pv 0) (pa_cons (pe_callB call_len_seq (by rfl) T.len PySem.boot_len (pa_cons (pv 2) pa_nil)) pa_nil))) pa_nil)))))
        (pss_one (ps_set (i := 4) scSpoilt.nd rfl (Or.inl rfl) (pcl CP hr1 (pa_cons (pv 4) (pa_cons (pe_ix ix_tup (pv 7) pe_int (fun _ _ => rfl)) (pa_cons (pe_ix ix_tup (pv 7) pe_int (fun _ _ => rfl)) (pa_cons (pe_ix ix_tup (pv 7) pe_int (fun _ _ => rfl)) (pa_cons (pv 6) pa_nil)))))))))))
      (pss_cons (ps_set (i := 8) scSpoilt.nd rfl (Or.inl rfl) (pcl CT hr1 (pa_cons (pv 0) (pa_cons (pe_callB call_len_seq (by rfl) T.len PySem.boot_len (pa_cons (pv 2) pa_nil)) pa_nil))))
      (Evl.pss_cut (ps_if (pt_cmpR op_eq (pcl CT hr1 (pa_cons (pv 0) (pa_cons pe_int pa_nil))) pe_int (nomark _)) (pss_one (ps_set (i := 2) scSpoilt.nd rfl (Or.inl rfl)
        (pe_op op_catA (pe_op op_catA (pe_slice sl_tupA (pv 2) po_none (po_some (pv 8))) (pe_tup (pa_cons (pe_tup (pa_cons (pe_ix ix_tup (pe_ix ix_tup (pv 2) (pv 8) (fun _ _ => rfl)) pe_int (fun _ _ => rfl))
          (pa_cons (pe_not (pe_ix ix_tup (pe_ix ix_tup (pv 2) (pv 8) (fun _ _ => rfl)) pe_int (fun _ _ => rfl))) (pa_cons (pe_ix ix_tup (pe_ix ix_tup (pv 2) (pv 8) (fun _ _ => rfl)) pe_int (fun _ _ => rfl)) pa_nil)))) pa_nil))) (pe_slice sl_tupA (pv 2) (po_some (pe_op op_add (pv 8) pe_int)) po_none)))) pss_nil)
      (pss_one (ps_ret (pe_tup (pa_cons (pv 2) (pa_cons (pv 3) (pa_cons (pv 4) pa_nil))))))))), ?_⟩
    obtain ⟨a, v0, v1, v2, rfl, hs, h0, h1, h2⟩ := hv.threeT
    refine ⟨_, rfl, a, _, rfl, hs, rfl, _, _, rfl, _, _, rfl, _, _, rfl, rfl, ?_⟩
    have kl : (ho.ks.map kdD).length = ho.ks.length := List.length_map _
    have sl : (ho.ss.map PyData.str).length = ho.ss.length := List.length_map _
    have ok0 := ok.k0
    have ok1 := ok.k1
    have os0 := ok.s0
    have os1 := ok.s1
    refine ⟨_, rfl, b, l, _, rfl, cb.bag, by decide, by decide, fun i H1 f1 i0 i1 => ⟨_, _, rfl, rfl, _, rfl, by omega, by omega, for_range (lo := 0) (n := (1 + i).toNat) (fun _ σ H' => ∃ (u5 u6 u7 : Option V) (vj : V) (j : Jud), σ = [some (.ref b), some (.ref a), some v0, some v1, some vj, u5, u6, u7, none] ∧ Fr b l H H' ∧ Dm K M H' vj (judD j) ∧ JudOk ho.ks.length ho.ss.length j)
      ⟨none, none, none, v2, ho.j, rfl, f1, Dm.f h2 f1 cb.mem, ok.j⟩ ?_ ?_⟩⟩
    · rintro i' σ H' hi ⟨u5, u6, u7, vj, j, rfl, f2, hj, oj⟩
      have c2 := cb.fr f2
      refine sset_of (tup_of (cons_of (some_words c2 rfl fun y x H3 f3 hx hy => cons_of (some_words (c2.fr f3) rfl fun y2 x2 H4 f4 hx2 hy2 => ⟨by show 2 ≤ sizeLine; decide, fun p hp => ?_⟩))))
      have c4 := (c2.fr f3).fr f4
      have f5 : Fr b l H' (upd H4 p (.tup [y, y2])) := (f3.trans f4).trans (Fr.new c4.bag hp)
      have hc5 : Dm K M (upd H4 p (.tup [y, y2])) (.ref p) (cpD (x, x2)) := Dm.tupNew c4.kn hp (.cons (Dm.f hy f4 cb.mem) (.cons hy2 .nil))
      have f25 := f2.trans f5
      have c5 := c2.fr f5
      refine sset_of (tup_of (cons_of (take_len c5 rfl (i := 3) rfl (.inr (Dm.f h1 f25 cb.mem)) (by omega) (by omega) fun s6 H6 f6 s60 s61 => cons_of (take_len (c5.fr f6) rfl (i := 2) rfl (.inr (Dm.f (Dm.f h0 f25 cb.mem) f6 cb.mem)) (by omega) (by omega) fun a7 H7 f7 a70 a71 =>
        cons_of (take_len ((c5.fr f6).fr f7) rfl (i := 2) rfl (.inr (Dm.f (Dm.f (Dm.f h0 f25 cb.mem) f6 cb.mem) f7 cb.mem)) (by omega) (by omega) fun h8 H8 f8 h80 h81 => ⟨by show 3 ≤ sizeLine; decide, fun q hq => ?_⟩)))))
      have f68 := (f6.trans f7).trans f8
      have c8 := c5.fr f68
      have f9 : Fr b l (upd H4 p (.tup [y, y2])) (upd H8 q (.tup [.int s6, .int a7, .int h8])) := f68.trans (Fr.new c8.bag hq)
      have hq9 : Dm K M (upd H8 q (.tup [.int s6, .int a7, .int h8])) (.ref q) (.tuple [.int s6, .int a7, .int h8]) := Dm.tupNew c8.kn hq (.cons (.int _) (.cons (.int _) (.cons (.int _) .nil)))
      have c9 := c5.fr f9
      have hj9 := Dm.f (Dm.f hj f5 cb.mem) f9 cb.mem
      have hc9 := Dm.f hc5 f9 cb.mem
      refine set_of (evd_callQ (K := K) (M := M) (evds_cons (evd_var (i := 4) rfl hj9) (evds_cons (evd_ixT (evd_var (i := 7) rfl hq9) (evd_int (i := 0)) (by decide) rfl) (evds_cons (evd_ixT (evd_var (i := 7) rfl hq9) (evd_int (i := 1)) (by decide) rfl)
        (evds_cons (evd_ixT (evd_var (i := 7) rfl hq9) (evd_int (i := 2)) (by decide) rfl) (evds_cons (evd_var (i := 6) rfl hc9) evds_nil))))) fun vs H10 s10 h10 => ?_)
      cases h10 with
      | cons g1 g2 =>
      cases g2 with
      | cons g2 g3 =>
      cases g3 with
      | cons g3 g4 =>
      obtain ⟨w4, w5, rfl, g4, g5⟩ := Dms.two_at g4
      cases Dm.intAt g2
      cases Dm.intAt g3
      cases Dm.intAt g4
      refine ⟨M, ho.ks.length, ho.ss.length, j, s6, a7, h8, (x, x2), _, _, rfl, c9.kn.sub s10, g1, oj, ⟨s60, by omega⟩, ⟨a70, by omega⟩, ⟨h80, by omega⟩, by omega, by omega, g5, ⟨hx, hx2⟩, fun y' j' H11 s11 oj' hy' => ?_⟩
      exact ⟨_, _, _, y', j', rfl, (f2.trans (f5.trans f9)).trans (Fr.sub c9.bag (s10.trans s11)), hy', oj'⟩
    · rintro σ H' ⟨u5, u6, u7, vj, j, rfl, f2, hj, oj⟩
      have c2 := cb.fr f2
      have h02 := Dm.f h0 f2 cb.mem
      have h12 := Dm.f h1 f2 cb.mem
      refine sset_of (take_len c2 rfl (i := 2) rfl (.inr h02) (by omega) (by omega) fun k3 H3 f3 k30 k31 => ?_)
      have c3 := c2.fr f3
      have h03 := Dm.f h02 f3 cb.mem
      refine ⟨fun σ' H4 => ∃ (ks' : List Kd) (vk : V), σ' = [some (.ref b), some (.ref a), some vk, some v1, some vj, u5, u6, u7, some (.int k3)] ∧ Fr b l H3 H4 ∧ KdsOk ks' ∧ ks'.length = ho.ks.length ∧ Dm K M H4 vk (.tuple (ks'.map kdD)), ?_, ?_⟩
      · refine ⟨_, rfl, b, l, _, rfl, c3.bag, by decide, by decide, fun j4 H4 f4 j40 j41 => ⟨rfl, _, rfl, ite2 (fun e => ?_) (fun e => ?_)⟩⟩
        · have c4 := c3.fr f4
          have h04 := Dm.f h03 f4 cb.mem
          have ek : ho.ks[k3.toNat]? = some (ho.ks[k3.toNat]'(by omega)) := List.getElem?_eq_getElem _
          generalize hkd : ho.ks[k3.toNat]'(by omega) = kd at ek
          have σ0 : EvD K M (tVar 2) ([some (.ref b), some (.ref a), some v0, some v1, some vj, u5, u6, u7, some (.int k3)] : L2.St) H4 (.tuple (ho.ks.map kdD)) := evd_var rfl h04
          have σk : EvD K M (tVar 8) ([some (.ref b), some (.ref a), some v0, some v1, some vj, u5, u6, u7, some (.int k3)] : L2.St) H4 (.int k3) := evd_var rfl (.int k3)
          have σkd : EvD K M _ ([some (.ref b), some (.ref a), some v0, some v1, some vj, u5, u6, u7, some (.int k3)] : L2.St) H4 (kdD kd) := evd_ixT σ0 σk k30 (by rw [List.getElem?_map, ek] <;> rfl)
          have q := evd_put c4.kn σ0 σk (evd_tup c4.kn (evds_cons (evd_ixT σkd (evd_int (i := 0)) (by decide) rfl) (evds_cons (evd_not (evd_ixT σkd (evd_int (i := 1)) (by decide) rfl)) (evds_cons (evd_ixT σkd (evd_int (i := 2)) (by decide) rfl) evds_nil))) lt3) σ0 (evd_add σk evd_int) k30 (by omega) (by omega)
          rw [show PyData.tuple [PyData.str kd.1, PyData.bool !kd.2.1, PyData.int kd.2.2] = kdD (kd.1, !kd.2.1, kd.2.2) from rfl, ← List.map_set] at q
          refine evd_set q fun vk H5 s5 h5 => ?_
          exact ⟨_, vk, rfl, f4.trans (Fr.sub c4.bag s5), kds_flip ok.ks ek _, List.length_set, h5⟩
        · exact ⟨ho.ks, v0, rfl, f4, ok.ks, rfl, Dm.f h03 f4 cb.mem⟩
      rintro σ4 H4 ⟨ks', vk, rfl, f4, oks, hkl, hvk⟩
      have f34 := f3.trans f4
      have c4 := c2.fr f34
      refine evd_ret (K := K) (M := M) (d := houD ⟨ks', ho.ss, j⟩) (evd_tup c4.kn (evds_cons (evd_var (i := 2) rfl hvk) (evds_cons (evd_var (i := 3) rfl (Dm.f h12 f34 cb.mem)) (evds_cons (evd_var (i := 4) rfl (Dm.f hj f34 cb.mem)) evds_nil))) lt3) fun y H5 s5 hy => ?_
      exact k y ⟨ks', ho.ss, j⟩ H5 ((f2.trans f34).trans (Fr.sub c4.bag s5)) ⟨by show 0 < ks'.length; omega, by show ks'.length < 10; omega, oks, ok.s0, ok.s1, ok.sn, ok.sd, by show JudOk ks'.length _ _; rw [hkl]; exact oj⟩ hkl rfl hy
end
end KZ

namespace KZ
open PySem PySem.Spec PyProof.Rows L2
def spHo (K : PySem.W.Frag) (sp : Bool) : Sp := fun vs H Q _ => ∃ (M : List Addr) (b l : Addr) (n m : Int) (x : Str), vs = [.ref b, .int n, .int m, .str x] ∧ Cb M b l H ∧ 0 < n ∧ n < 10 ∧ 0 < m ∧ m < 10 ∧ (sp = false → x ≠ "spoilt") ∧
  ∀ (y : V) (h : Hou) (H' : Hp), Fr b l H H' → HouOk h → h.ks.length = n.toNat → h.ss.length = m.toNat → Dm K M H' y (houD h) → Q y H'
section
variable {K : PySem.W.Frag} {M : List Addr} {b l : Addr} {σ : L2.St} {H : Hp} {Q : VK} {E : XK}
def rTupOf (K : PySem.W.Frag) : List V → Hp → VK → Prop := fun xs H Q => ∃ p ys, xs = [.ref p] ∧ ((SqL K H p ys ∧ ∀ l, H l = none → Q (.ref l) (upd H l (.tup ys))) ∨ (SqT K H p ys ∧ Q (.ref p) H))
theorem nil_of {Q : List V → Hp → Prop} (h : Q [] H) : tNil σ H Q := h
/-- tuple(..) of a list that is told -/
theorem tuple_of {v : V} {ds : List PyData} (n : Kn M H) (hv : Dm K M H v (.list ds)) (q : ∀ y H', Sub H H' → Dm K M H' y (.tuple ds) → Q y H') : rTupOf K [v] H Q := by
  obtain ⟨a, xs, rfl, hs, ha⟩ := hv.lstAt
  exact ⟨a, xs, rfl, .inl ⟨hs, fun z hz => q _ _ (Sub.new hz) (Dm.tupNew n hz ha)⟩⟩
/-- what follows the first if -/
theorem ho_rest {n m : Int} {x : Str} {D : Ends} (cb : Cb M b l H) (n0 : 0 < n) (n1 : n < 10) (m0 : 0 < m) (m1 : m < 10)
    (k : ∀ (y : V) (h : Hou) (H' : Hp), Fr b l H H' → HouOk h → h.ks.length = n.toNat → h.ss.length = m.toNat → Dm K M H' y (houD h) → D.rt y H') :
    Evl.tCut (tAsg (tIf (tTest (tOp (rIn K false) (tVar 3) (tTup (tCons (tC (.str "elder")) (tCons (tC (.str "younger")) tNil))))) (tLst (tCons (tC (.bl true)) (tCons (tC (.bl true)) (tCons (tC (.bl true)) (tCons (tC (.bl false)) tNil))))) (tLst (tCons (tC (.bl true)) (tCons (tC (.bl false)) tNil)))) (gName 4))
      (tSeq (tAsg (tCall (spKinds K) [] E0 (tCons (tVar 0) (tCons (tVar 1) (tCons (tIf (tAnd (tTest (tOp rEq (tVar 3) (tC (.str "meek")))) (tTest (tOp rEq (tCall spTake [] E0 (tCons (tVar 0) (tCons (tC (.int 2)) tNil))) (tC (.int 0))))) (tLst (tCons (tC (.bl true)) tNil)) (tVar 4)) tNil)))) (gName 5))
      (tRet (tTup (tCons (tVar 5) (tCons (tCB (rTupOf K) (tCons (tCall (spNamed K) [] E0 (tCons (tVar 0) (tCons (tVar 2) tNil))) tNil)) (tCons (tCall (spJudge K) [] E0 (tCons (tVar 0) (tCons (tVar 1) (tCons (tVar 2) (tCons (tVar 3) tNil))))) tNil))))))
      D [some (.ref b), some (.int n), some (.int m), some (.str x), none, none] H := by
  refine ⟨fun σ' H' => ∃ (vk : V) (bs : List Bool), σ' = [some (.ref b), some (.int n), some (.int m), some (.str x), some vk, none] ∧ Fr b l H H' ∧ 0 < bs.length ∧ bs.length < 1000 ∧ Dm K M H' vk (.list (bs.map PyData.bool)), ?_, ?_⟩
  · refine ⟨_, rfl, by show 2 ≤ sizeLine; decide, fun p hp => ⟨p, _, rfl, .inr (SqT.of upd_same), rfl, rfl, _, rfl, ?_⟩⟩
    have f1 : Fr b l H (upd H p (.tup [.str "elder", .str "younger"])) := Fr.new cb.bag hp
    have c1 := cb.fr f1
    refine ite2 (fun e => ?_) (fun e => ?_)
    · refine evd_lst (K := K) (M := M) c1.kn (evds_cons evd_bl (evds_cons evd_bl (evds_cons evd_bl (evds_cons evd_bl evds_nil)))) lt4 _ (Sub.refl _) _ fun v H2 s2 h2 => ?_
      exact ⟨v, [true, true, true, false], rfl, f1.trans (Fr.sub c1.bag s2), by decide, by decide, h2⟩
    · refine evd_lst (K := K) (M := M) c1.kn (evds_cons evd_bl (evds_cons evd_bl evds_nil)) lt2 _ (Sub.refl _) _ fun v H2 s2 h2 => ?_
      exact ⟨v, [true, false], rfl, f1.trans (Fr.sub c1.bag s2), by decide, by decide, h2⟩
  rintro σ1 H1 ⟨vk, bs, rfl, f1, b0, b1, hk⟩
  have c1 := cb.fr f1
  -- from any list of truths
  have made : ∀ (v : V) (bs : List Bool) (H2 : Hp), Fr b l H1 H2 → 0 < bs.length → bs.length < 1000 → Dm K M H2 v (.list (bs.map PyData.bool)) →
      spKinds K [.ref b, .int n, v] H2 (fun y H3 => tRet (tTup (tCons (tVar 5) (tCons (tCB (rTupOf K) (tCons (tCall (spNamed K) [] E0 (tCons (tVar 0) (tCons (tVar 2) tNil))) tNil)) (tCons (tCall (spJudge K) [] E0 (tCons (tVar 0) (tCons (tVar 1) (tCons (tVar 2) (tCons (tVar 3) tNil))))) tNil)))) D [some (.ref b), some (.int n), some (.int m), some (.str x), some vk, some y] H3) E0 := by
    intro v bs H2 f2 b0 b1 hb
    have c2 := c1.fr f2
    refine ⟨M, b, l, n, v, bs, rfl, c2, by omega, by omega, hb, b0, b1, fun y ks H3 f3 hkl oks hy => ?_⟩
    have c3 := c2.fr f3
    refine ret_of (tup_of (cons_of ⟨y, rfl, cons_of ?_⟩))
    refine ⟨_, rfl, _, rfl, M, b, l, m, rfl, c3, by omega, by omega, fun y2 ns H4 f4 hnl hnN hnd hy2 => ?_⟩
    have c4 := c3.fr f4
    refine nil_of ?_
    show rTupOf K [y2] H4 _
    refine tuple_of c4.kn hy2 fun y3 H5 s5 hy3 => ?_
    refine cons_of ?_
    have f5 : Fr b l H4 H5 := Fr.sub c4.bag s5
    have c5 := c4.fr f5
    refine ⟨_, rfl, _, rfl, _, rfl, _, rfl, M, b, l, n, m, x, rfl, c5, by omega, by omega, by omega, by omega, fun y4 j H6 f6 oj hy4 => ?_⟩
    refine ⟨by show 3 ≤ sizeLine; decide, fun z hz => ?_⟩
    have c6 := c5.fr f6
    have f46 := (f4.trans f5).trans f6
    refine k _ ⟨ks, ns, j⟩ _ (((f1.trans f2).trans (f3.trans f46)).trans (Fr.new c6.bag hz)) ⟨by show 0 < ks.length; omega, by show ks.length < 10; omega, oks, by show 0 < ns.length; omega, by show ns.length < 10; omega, hnN, hnd, by show JudOk ks.length ns.length j; rw [hkl, hnl]; exact oj⟩ hkl hnl ?_
    exact Dm.tupNew c6.kn hz (.cons (Dm.f hy f46 cb.mem) (.cons (Dm.f hy3 f6 cb.mem) (.cons hy4 .nil)))
  refine ⟨_, rfl, _, rfl, ?_⟩
  refine ⟨_, rfl, rfl, _, rfl, ite2 (fun e => ?_) (fun e => ?_)⟩
  · refine ⟨_, rfl, b, l, _, rfl, c1.bag, by decide, by decide, fun j H2 f2 j0 j1 => ⟨rfl, _, rfl, ite2 (fun e => ?_) (fun e => ?_)⟩⟩
    · have c2 := c1.fr f2
      refine evd_lst (K := K) (M := M) c2.kn (evds_cons evd_bl evds_nil) lt1 _ (Sub.refl _) _ fun v H3 s3 h3 => ?_
      exact made v [true] H3 (f2.trans (Fr.sub c2.bag s3)) (by decide) (by decide) h3
    · exact ⟨_, rfl, made vk bs H2 f2 b0 b1 (Dm.f hk f2 cb.mem)⟩
  · exact ⟨_, rfl, made vk bs H1 (Fr.refl c1.bag) b0 b1 hk⟩
end
section
variable {P : Program} {w : World} {K : PySem.W.Frag} {mg : Str → Option Value} {base : Heap}
abbrev sHo : Stmt := topS 24
theorem scHo : FnScope ["bag", "kinds", "sorts", "style", "keeps", "made"] ["bag", "kinds", "sorts", "style"] (defScope sHo) := ⟨rfl, rfl, rfl, by decide +kernel, rfl, by decide +kernel, by decide +kernel⟩
theorem ok_ho0 {f fT fK fN fJ : Addr} {fd fdT fdK fdN fdJ : FuncData} (F : Fun K "_law_house_of" "_law_house_of" sHo f fd) (T : Txt mg) (CT : Cal P w K mg base "_law_take" 1 ["bag", "upto"] spTake fT fdT)
    (CK : Cal P w K mg base "_law_kinds" 4 ["bag", "many", "keeps"] (spKinds K) fK fdK) (CN : Cal P w K mg base "_law_named" 3 ["bag", "many"] (spNamed K) fN fdN) (CJ : Cal P w K mg base "_law_judge" 4 ["bag", "kinds", "sorts", "style"] (spJudge K) fJ fdJ) :
    FnOk P w K mg base CX0 5 f fd ["bag", "kinds", "sorts", "style"] (spHo K false) := by
  refine F.ok scHo (fun vs H Q E h => ?_) (fun cdv A outer s H vs Q E hr h => ?_)
  · obtain ⟨M, b, l, n, m, x, rfl, _⟩ := h
    rfl
  · obtain ⟨M, b, l, n, m, x, rfl, cb, n0, n1, m0, m1, hx, k⟩ := h
    have hr4 : Room 4 _ := hr
    have hr3 : Room 3 _ := hr.mono (by decide)
    have hr1 : Room 1 _ := hr.mono (by decide)
    refine ⟨_, pss_cons (ps_if (pt_cmpR op_eq (pv 3) pe_str (nomark _)) pss_never pss_nil)
      (Evl.pss_cut (ps_set (i := 4) scHo.nd rfl (Or.inl rfl) (pe_ifExp (pt_cmpR op_in_seq (pv 3) (pe_tup (pa_cons pe_str (pa_cons pe_str pa_nil))) (by rfl)) (pe_lst (pa_cons pe_bl (pa_cons pe_bl (pa_cons pe_bl (pa_cons pe_bl pa_nil))))) (pe_lst (pa_cons pe_bl (pa_cons pe_bl pa_nil)))))
      (pss_cons (ps_set (i := 5) scHo.nd rfl (Or.inl rfl) (pcl CK hr4 (pa_cons (pv 0) (pa_cons (pv 1) (pa_cons (pe_ifExp (PW.pt (pw_and (pt_cmpR op_eq (pv 3) pe_str (nomark _)) (pw_and1 (pt_cmpR op_eq (pcl CT hr1 (pa_cons (pv 0) (pa_cons pe_int pa_nil))) pe_int (nomark _))))) (pe_lst (pa_cons pe_bl pa_nil)) (pv 4)) pa_nil)))))
      (pss_one (ps_ret (pe_tup (pa_cons (pv 5) (pa_cons (pe_callTy call_tuple_of (by rfl) T.tuple bootTuple (pa_cons (pcl CN hr3 (pa_cons (pv 0) (pa_cons (pv 2) pa_nil))) pa_nil)) (pa_cons (pcl CJ hr4 (pa_cons (pv 0) (pa_cons (pv 1) (pa_cons (pv 2) (pa_cons (pv 3) pa_nil))))) pa_nil)))))))), ?_⟩
    refine ⟨_, rfl, rfl, _, rfl, ite2 (fun e => ?_) (fun e => ?_)⟩
    · exact absurd (of_decide_eq_true e) (fun z => hx rfl (V.str.inj z))
    · exact ho_rest cb n0 n1 m0 m1 k
theorem ok_ho {f fT fS fK fN fJ fQ : Addr} {fd fdT fdS fdK fdN fdJ fdQ : FuncData} (F : Fun K "_law_house_of" "_law_house_of" sHo f fd) (T : Txt mg) (CT : Cal P w K mg base "_law_take" 1 ["bag", "upto"] spTake fT fdT) (CS : Cal P w K mg base "_law_some" 2 ["bag", "things"] (spSome K) fS fdS)
    (CK : Cal P w K mg base "_law_kinds" 4 ["bag", "many", "keeps"] (spKinds K) fK fdK) (CN : Cal P w K mg base "_law_named" 3 ["bag", "many"] (spNamed K) fN fdN) (CJ : Cal P w K mg base "_law_judge" 4 ["bag", "kinds", "sorts", "style"] (spJudge K) fJ fdJ)
    (CQ : Cal P w K mg base "_law_spoilt_house" 3 ["bag", "house"] (spSpoilt K) fQ fdQ) (g : mg "_law_house_of" = some (.ref f)) (bb : Binds K fd ["bag", "kinds", "sorts", "style"] []) :
    FnOk P w K mg base CX0 6 f fd ["bag", "kinds", "sorts", "style"] (spHo K true) := by
  have C0 : Cal P w K mg base "_law_house_of" 5 ["bag", "kinds", "sorts", "style"] (spHo K false) f fd := ⟨ok_ho0 F T CT CK CN CJ, g, F.kp, bb⟩
  refine F.ok scHo (fun vs H Q E h => ?_) (fun cdv A outer s H vs Q E hr h => ?_)
  · obtain ⟨M, b, l, n, m, x, rfl, _⟩ := h
    rfl
  · obtain ⟨M, b, l, n, m, x, rfl, cb, n0, n1, m0, m1, hx, k⟩ := h
    have hr4 : Room 4 _ := hr.mono (by decide)
    have hr3 : Room 3 _ := hr.mono (by decide)
    have hr2 : Room 2 _ := hr.mono (by decide)
    have hr1 : Room 1 _ := hr.mono (by decide)
    refine ⟨_, pss_cons (ps_if (pt_cmpR op_eq (pv 3) pe_str (nomark _)) (pss_one (ps_ret (pcl CQ hr3 (pa_cons (pv 0) (pa_cons (pcl C0 hr (pa_cons (pv 0) (pa_cons (pv 1) (pa_cons (pv 2) (pa_cons (pcl CS hr2 (pa_cons (pv 0) (pa_cons (pe_lst (pa_cons pe_str (pa_cons pe_str pa_nil))) pa_nil))) pa_nil))))) pa_nil))))) pss_nil)
      (Evl.pss_cut (ps_set (i := 4) scHo.nd rfl (Or.inl rfl) (pe_ifExp (pt_cmpR op_in_seq (pv 3) (pe_tup (pa_cons pe_str (pa_cons pe_str pa_nil))) (by rfl)) (pe_lst (pa_cons pe_bl (pa_cons pe_bl (pa_cons pe_bl (pa_cons pe_bl pa_nil))))) (pe_lst (pa_cons pe_bl (pa_cons pe_bl pa_nil)))))
      (pss_cons (ps_set (i := 5) scHo.nd rfl (Or.inl rfl) (pcl CK hr4 (pa_cons (pv 0) (pa_cons (pv 1) (pa_cons (pe_ifExp (PW.pt (pw_and (pt_cmpR op_eq (pv 3) pe_str (nomark _)) (pw_and1 (pt_cmpR op_eq (pcl CT hr1 (pa_cons (pv 0) (pa_cons pe_int pa_nil))) pe_int (nomark _))))) (pe_lst (pa_cons pe_bl pa_nil)) (pv 4)) pa_nil)))))
      (pss_one (ps_ret (pe_tup (pa_cons (pv 5) (pa_cons (pe_callTy call_tuple_of (by rfl) T.tuple bootTuple (pa_cons (pcl CN hr3 (pa_cons (pv 0) (pa_cons (pv 2) pa_nil))) pa_nil)) (pa_cons (pcl CJ hr4 (pa_cons (pv 0) (pa_cons (pv 1) (pa_cons (pv 2) (pa_cons (pv 3) pa_nil))))) pa_nil)))))))), ?_⟩
    refine ⟨_, rfl, rfl, _, rfl, ite2 (fun e => ?_) (fun e => ?_)⟩
    · refine ret_of ⟨_, rfl, _, rfl, _, rfl, _, rfl, ?_⟩
      refine evb_call (K := K) (M := M) rfl (evds_cons (evd_lst cb.kn (evds_cons evd_str (evds_cons evd_str evds_nil)) lt2) evds_nil) fun vs H1 s1 h1 => ?_
      obtain ⟨v1, rfl, h1'⟩ := Dms.one_at h1
      have f1 : Fr b l H H1 := Fr.sub cb.bag s1
      refine ⟨M, b, l, v1, _, rfl, cb.fr f1, .inl h1', by decide, by decide, fun y d H2 f2 hd hy => ?_⟩
      have c2 := (cb.fr f1).fr f2
      have hst : ∃ z : Str, d = .str z ∧ z ≠ "spoilt" := by
        simp only [List.mem_cons, List.not_mem_nil, or_false] at hd
        rcases hd with hd | hd
        · exact ⟨_, hd, by decide +kernel⟩
        · exact ⟨_, hd, by decide +kernel⟩
      obtain ⟨z, rfl, hz⟩ := hst
      cases Dm.strAt hy
      refine ⟨M, b, l, n, m, z, rfl, c2, n0, n1, m0, m1, fun _ => hz, fun y3 h3 H3 f3 ok3 hk3 hs3 hy3 => ?_⟩
      exact ⟨M, b, l, y3, h3, rfl, c2.fr f3, hy3, ok3, fun y4 h4 H4 f4 ok4 hk4 hs4 hy4 => k y4 h4 H4 (((f1.trans f2).trans f3).trans f4) ok4 (hk4.trans hk3) (hs4.trans hs3) hy4⟩
    · exact ho_rest cb n0 n1 m0 m1 k
end
end KZ

namespace KZ
open PySem PySem.Spec PyProof.Rows L2
/-- the same items, in another order: told by the objects themselves -/
def spMixedV (K : PySem.W.Frag) : Sp := fun vs H Q _ => ∃ (b l a : Addr) (xs : List V), vs = [.ref b, .ref a] ∧ Bag b l H ∧ SqL K (er [b] H) a xs ∧ xs.length < 100000 ∧
  ∀ (p : Addr) (ys : List V) (H' : Hp), Fr b l H H' → H p = none → H' p = some (.lst ys) → ys.Perm xs → Q (.ref p) H'
def spBag (K : PySem.W.Frag) : Sp := fun vs H Q _ => ∃ (a : Addr) (ns : List Int), vs = [.ref a] ∧ SqL K H a (ns.map V.int) ∧ ns.length ≤ 63 ∧ ∀ (b l : Addr) (H' : Hp), Sub H H' → Bag b l H' → Q (.ref b) H'
def spHouse (K : PySem.W.Frag) : Sp := fun vs H Q _ => ∃ (M : List Addr) (b l : Addr) (n : Int), vs = [.ref b, .int n] ∧ Cb M b l H ∧ 0 < n ∧ n < 10 ∧
  ∀ (y : V) (h : Hou) (H' : Hp), Fr b l H H' → HouOk h → h.ks.length ≤ n.toNat → h.ss.length ≤ 3 → Dm K M H' y (houD h) → Q y H'
theorem er_nil (H : Hp) : er [] H = H := by
  funext a
  unfold er
  exact if_neg (by simp)
theorem dps_ints {K : PySem.W.Frag} {H : Hp} : ∀ l : List Int, DpAll K H (l.map V.int) (l.map PyData.int)
  | [] => .nil
  | x :: l => .cons (.int x) (dps_ints l)
theorem ints_dps {K : PySem.W.Frag} {H : Hp} : ∀ {l : List Int} {vs : List V}, DpAll K H vs (l.map PyData.int) → vs = l.map V.int
  | [], _, h => by
    cases h
    rfl
  | x :: l, _, h => by
    cases h with
    | cons h1 h2 =>
      cases h1
      rw [ints_dps h2]
      rfl
theorem c_of {v : V} {σ : L2.St} {H : Hp} {Q : VK} (h : Q v H) : tC v σ H Q := h
theorem lst_of {tr : TA} {σ : L2.St} {H : Hp} {Q : VK} (h : tr σ H fun xs H1 => xs.length ≤ sizeLine ∧ ∀ p, H1 p = none → Q (.ref p) (upd H1 p (.lst xs))) : tLst tr σ H Q := h
def absD : PyData → Int
  | .int i => if i < 0 then -i else i
  | _ => 0
section
variable {P : Program} {w : World} {K : PySem.W.Frag} {mg : Str → Option Value} {base : Heap}
theorem ok_mixedV {f fT : Addr} {fd fdT : FuncData} (F : Fun K "_law_mixed" "_law_mixed" sMixed f fd) (T : Txt mg) (CT : Cal P w K mg base "_law_take" 1 ["bag", "upto"] spTake fT fdT) : FnOk P w K mg base CX0 2 f fd ["bag", "things"] (spMixedV K) := by
  refine F.ok scMixed (fun vs H Q E h => ?_) (fun cdv A outer s H vs Q E hr h => ?_)
  · obtain ⟨b, l, a, xs, rfl, _⟩ := h
    rfl
  · obtain ⟨b, l, a, xs, rfl, bag, hse, hz, k⟩ := h
    refine ⟨_, pss_cons (ps_set (i := 2) scMixed.nd rfl (Or.inl rfl) (pe_lst pa_nil))
      (pss_cons (ps_for PassesOwn.never rfl (pi_list (pv 1)) (pg_name (i := 3) scMixed.nd rfl (Or.inl rfl))
        (pss_one (ps_expr (pe_bm PySem.F.plainAttrs_list PySem.F.slot_list_insert PySem.F.type_list_insert mt_insert (pv 2)
          (pa_cons (pcl CT hr (pa_cons (pv 0) (pa_cons (pe_op op_add (pe_callB call_len_seq (by rfl) T.len PySem.boot_len (pa_cons (pv 2) pa_nil)) pe_int) pa_nil))) (pa_cons (pv 3) pa_nil))))))
      (pss_one (ps_ret (pv 2)))), ?_⟩
    refine ⟨Nat.zero_le _, fun p hp => ?_⟩
    have seq : ∀ {H' : Hp}, Fr b l H H' → SqL K H' a xs := fun f => (er_sub _ _).sqL (Sub.sqL f.k.er hse)
    have f0 : Fr b l H (upd H p (.lst [])) := Fr.new bag hp
    have pb := ne_new bag.at hp
    refine ⟨_, rfl, a, rfl, ⟨_, seq f0⟩, for_list (K := K) (a := a) (xs := xs) (fun i σ H' => ∃ (u : Option V) (vs : List V), σ = [some (.ref b), some (.ref a), some (.ref p), u] ∧ Fr b l H H' ∧ H' p = some (.lst vs) ∧ vs.Perm (xs.take i))
      ⟨none, [], rfl, f0, upd_same, List.Perm.refl _⟩ (fun i σ H' _ ⟨_, _, _, q, _⟩ => seq q) ?_ ?_⟩
    · rintro i y σ H' hi ⟨u, vs, rfl, f1, h1p, hpm⟩
      have hix := (List.getElem?_eq_some_iff.mp hi).1
      have hlv : vs.length = i := by
        rw [hpm.length_eq, List.length_take]
        omega
      refine ⟨_, rfl, .inl ⟨rfl, _, SqL.of h1p⟩, _, rfl, _, rfl, p, _, rfl, .inl (SqL.of h1p), _, _, rfl, rfl, ?_⟩
      refine ⟨b, l, _, rfl, f1.bag, by omega, by omega, fun j H2 f2 j0 j1 => ?_⟩
      have h2p : H2 p = some (.lst vs) := f2.k p _ (by simp [pb]) h1p
      refine ⟨_, rfl, p, vs, j, y, rfl, rfl, h2p, szl (by omega), j0, by omega, ?_⟩
      refine ⟨_, _, rfl, (f1.trans f2).mut bag hp, upd_same, ?_⟩
      rw [take_snoc hi]
      exact (ins_perm _ _ _).trans ((List.Perm.cons _ hpm).trans (List.perm_append_singleton _ _).symm)
    · rintro σ H' ⟨u, vs, rfl, f1, h1p, hpm⟩
      rw [List.take_length] at hpm
      exact ⟨_, rfl, k p vs H' f1 hp h1p hpm⟩
abbrev sBag : Stmt := topS 13
theorem scBag : FnScope ["script", "cell"] ["script"] (defScope sBag) := ⟨rfl, rfl, rfl, by decide +kernel, rfl, by decide +kernel, by decide +kernel⟩
theorem ok_bag {f : Addr} {fd : FuncData} (F : Fun K "_law_bag" "_law_bag" sBag f fd) (T : Txt mg) : FnOk P w K mg base CX0 1 f fd ["script"] (spBag K) := by
  refine F.ok scBag (fun vs H Q E h => ?_) (fun cdv A outer s H vs Q E hr h => ?_)
  · obtain ⟨a, ns, rfl, _⟩ := h
    rfl
  · obtain ⟨a, ns, rfl, hs, hl, k⟩ := h
    refine ⟨_, pss_one (ps_ret (pe_lst (pa_cons pe_int (pa_cons pe_int (pa_cons pe_int (pa_cons
      (pe_lc (own := [("cell", 1)]) (g := gName 1) (tt := tYes) rfl scBag.nd (pi_list (pe_slice sl_list (pv 0) po_none (po_some pe_int))) (blkOk_by (N := ["script", "cell"]) (sc := defScope sBag) (by decide +kernel)) (fun _ _ _ _ _ => pg_name (i := 1) scBag.nd rfl (Or.inl rfl)) (fun _ _ _ _ _ => pts_nil)
        (fun _ _ _ _ _ => pe_callB call_abs (by rfl) T.abs PyProof.Rows.boot_abs (pa_cons (pv 1) pa_nil))) pa_nil)))))), ?_⟩
    have hd : Dm K [] H (.ref a) (.list (ns.map PyData.int)) := .lst (by rw [er_nil]; exact hs) (dps_ints ns)
    have kn : Kn [] H := fun a m => nomatch m
    refine ret_of (lst_of (cons_of (c_of (cons_of (c_of (cons_of (c_of (cons_of ?_))))))))
    have e0 : EvD K [] (tVar 0) ([some (.ref a), none] : L2.St) H (.list (ns.map PyData.int)) := evd_var rfl hd
    have e1 : EvD K [] (tSl (rSlL K) (tVar 0) tNoPart (tPart (tC (.int 63)))) ([some (.ref a), none] : L2.St) H (.list (ns.map PyData.int)) := by
      have q := evd_slL kn e0 evo_none (evo_some (evd_int (K := K) (M := []) (i := 63)))
      have z : cutD (ns.map PyData.int) none (some 63) = ns.map PyData.int := by
        unfold cutD
        have e : HT.sIx (ns.map PyData.int).length (ns.map PyData.int).length (some 63) = (ns.map PyData.int).length := by
          rw [show (63 : Int) = ((63 : Nat) : Int) from rfl, HT.sIx_nat, List.length_map]
          exact Nat.min_eq_right hl
        rw [e, HT.sIx_none, List.drop_zero, Nat.sub_zero, List.take_length]
      rw [z] at q
      exact q
    refine evd_lc (g := fun d => .int (absD d)) kn e1 (by rw [List.length_map]; omega) (by intro z; rfl) ?_ H (Sub.refl _) _ fun p xs H1 s1 hp h1p hxs => ?_
    · intro Dl hD d x H1 s1 n1 hd1 hx1
      obtain ⟨i, _, rfl⟩ := List.mem_map.mp hd1
      cases Dm.intAt hx1
      intro H2 s2 Q2 q2
      exact ⟨_, rfl, i, rfl, q2 _ H2 (Sub.refl _) (.int _)⟩
    · rw [List.map_map, show ((fun d => PyData.int (absD d)) ∘ PyData.int) = PyData.int ∘ (fun i : Int => if i < 0 then -i else i) from rfl, ← List.map_map] at hxs
      have ex := ints_dps hxs
      refine ⟨by show 4 ≤ sizeLine; decide, fun q hq => ?_⟩
      refine k q p _ (s1.trans (Sub.new hq)) ⟨0, 1234567891, 0, ns.map fun i : Int => if i < 0 then -i else i, upd_same, ne_of_none h1p hq, ?_, by decide, by decide, by decide, by decide, by rw [List.length_map]; omega, ?_⟩
      · rw [upd_ne (ne_of_none h1p hq), h1p, ex]
      · intro c hc
        obtain ⟨i, _, rfl⟩ := List.mem_map.mp hc
        split <;> omega
end
end KZ

namespace KZ
open PySem PySem.Spec PyProof.Rows L2
/-! data that can be shown -/
structure Good (d : PyData) (n k : Nat) : Prop where
  lay : d.canLay0 = true
  sh : d.showable = true
  nd : d.hasDict = false
  dp : d.depth ≤ k
  len : d.shown.length ≤ n
theorem Good.mono {d : PyData} {n k n' k' : Nat} (g : Good d n k) (h : n ≤ n') (h' : k ≤ k') : Good d n' k' := ⟨g.lay, g.sh, g.nd, Nat.le_trans g.dp h', Nat.le_trans g.len h⟩
theorem good_all {n k : Nat} : ∀ {ds : List PyData}, (∀ d ∈ ds, Good d n k) → PyData.canLayAll0 ds = true ∧ PyData.showableAll ds = true ∧ PyData.hasDictAll ds = false ∧ PyData.depthAll ds ≤ k ∧ piled (PyData.shownAll ds) ≤ ds.length * (n + 2)
  | [], _ => ⟨by simp only [PyData.canLayAll0], by simp only [PyData.showableAll], by simp only [PyData.hasDictAll], by simp only [PyData.depthAll]; exact Nat.zero_le _, by simp only [PyData.shownAll]; exact Nat.zero_le _⟩
  | d :: ds, h => by
    obtain ⟨h1, h2, h3, h4, h5⟩ := good_all fun x hx => h x (List.mem_cons_of_mem _ hx)
    have g := h d List.mem_cons_self
    refine ⟨by simp only [PyData.canLayAll0, g.lay, h1, Bool.and_self], by simp only [PyData.showableAll, g.sh, h2, Bool.and_self], by simp only [PyData.hasDictAll, g.nd, h3, Bool.or_self], by simp only [PyData.depthAll]; exact Nat.max_le.mpr ⟨g.dp, h4⟩, ?_⟩
    simp only [PyData.shownAll, piled_cons]
    have := g.len
    rw [List.length_cons, Nat.succ_mul]
    omega
theorem txt_len (ts : List Str) : (tupleText ts).length ≤ piled ts + 4 := by
  have e1 : (((if ts.length == 1 then ",)" else ")" : String) : Str)).length ≤ 2 := by
    split <;> decide +kernel
  have e2 : ((("(" : String) : Str)).length = 1 := rfl
  unfold tupleText
  rw [strLen_append, strLen_append, e2]
  by_cases z : ts = []
  · subst z
    decide +kernel
  · have := join_length_add ts z
    omega
theorem good_tup {ds : List PyData} {n k : Nat} (h : ∀ d ∈ ds, Good d n k) : Good (.tuple ds) (ds.length * (n + 2) + 4) (k + 1) := by
  obtain ⟨h1, h2, h3, h4, h5⟩ := good_all h
  refine ⟨by simp only [PyData.canLay0, h1], by simp only [PyData.showable, h2], by simp only [PyData.hasDict, h3], by simp only [PyData.depth]; omega, ?_⟩
  simp only [PyData.shown]
  have := txt_len (PyData.shownAll ds)
  omega
theorem good_str {l : List Str} (h : ∀ x ∈ l, PyData.strOk x = true ∧ (reprText x).length ≤ 20) {x : Str} (hx : x ∈ l) : Good (.str x) 20 0 :=
  ⟨by simp only [PyData.canLay0, (h x hx).1], by simp only [PyData.showable], by simp only [PyData.hasDict], by simp only [PyData.depth]; exact Nat.le_refl _, by simp only [PyData.shown]; exact (h x hx).2⟩
theorem names_ok : ∀ x ∈ Names, PyData.strOk x = true ∧ (reprText x).length ≤ 20 := by
  unfold Names
  decide +kernel
theorem words_ok : ∀ x ∈ Words, PyData.strOk x = true ∧ (reprText x).length ≤ 20 := by
  unfold Words
  decide +kernel
theorem good_bl (b : Bool) : Good (.bool b) 20 0 := by
  refine ⟨by simp only [PyData.canLay0], by simp only [PyData.showable], by simp only [PyData.hasDict], by simp only [PyData.depth]; exact Nat.le_refl _, ?_⟩
  simp only [PyData.shown]
  cases b <;> decide +kernel
theorem int_len : ∀ n : Nat, n < 16 → ((toString (n : Int) : String) : Str).length ≤ 20 := by decide +kernel
theorem good_int {i : Int} (h0 : 0 ≤ i) (h1 : i < 16) : Good (.int i) 20 0 := by
  have e : ((i.toNat : Nat) : Int) = i := by omega
  refine ⟨by simp only [PyData.canLay0], ?_, by simp only [PyData.hasDict], by simp only [PyData.depth]; exact Nat.le_refl _, ?_⟩
  · simp only [PyData.showable]
    refine decide_eq_true ?_
    have a : i.natAbs < 16 := by omega
    exact Nat.lt_of_le_of_lt (Nat.log2_le_self _) (by omega)
  · simp only [PyData.shown]
    have q := int_len i.toNat (by omega)
    rw [e] at q
    exact q
theorem good_kd {k : Kd} (hn : k.1 ∈ Names) (h0 : 0 ≤ k.2.2) (h1 : k.2.2 < 16) : Good (kdD k) 70 1 := by
  refine Good.mono (good_tup (n := 20) (k := 0) fun d hd => ?_) (by show 3 * (20 + 2) + 4 ≤ 70; decide) (Nat.le_refl _)
  simp only [List.mem_cons, List.not_mem_nil, or_false] at hd
  rcases hd with hd | hd | hd
  · rw [hd]
    exact good_str names_ok hn
  · rw [hd]
    exact good_bl _
  · rw [hd]
    exact good_int h0 h1
theorem good_cp {c : Cp} (h : CpOk c) : Good (cpD c) 48 1 := by
  refine Good.mono (good_tup (n := 20) (k := 0) fun d hd => ?_) (by show 2 * (20 + 2) + 4 ≤ 48; decide) (Nat.le_refl _)
  simp only [List.mem_cons, List.not_mem_nil, or_false] at hd
  rcases hd with hd | hd
  · rw [hd]
    exact good_str words_ok h.1
  · rw [hd]
    exact good_str words_ok h.2
theorem good_jud {n m : Nat} {j : Jud} (hn : n < 10) (hm : m < 10) (ok : JudOk n m j) : Good (judD j) 60000 4 := by
  have row : ∀ r, RowOk n r → Good (rowD r) 600 2 := fun r h => by
    refine Good.mono (good_tup (n := 48) (k := 1) fun d hd => ?_) ?_ (Nat.le_refl _)
    · obtain ⟨c, hc, rfl⟩ := List.mem_map.mp hd
      exact good_cp (h.2 c hc)
    · rw [List.length_map, h.1]
      have := Nat.mul_le_mul (show n ≤ 9 by omega) (Nat.le_refl 50)
      omega
  have tab : ∀ t, TabOk n t → Good (tabD t) 6000 3 := fun t h => by
    refine Good.mono (good_tup (n := 600) (k := 2) fun d hd => ?_) ?_ (Nat.le_refl _)
    · obtain ⟨r, hr, rfl⟩ := List.mem_map.mp hd
      exact row r (h.2 r hr)
    · rw [List.length_map, h.1]
      have := Nat.mul_le_mul (show n ≤ 9 by omega) (Nat.le_refl 602)
      omega
  refine Good.mono (good_tup (n := 6000) (k := 3) fun d hd => ?_) ?_ (Nat.le_refl _)
  · obtain ⟨t, ht, rfl⟩ := List.mem_map.mp hd
    exact tab t (ok.2 t ht)
  · rw [List.length_map, ok.1]
    have := Nat.mul_le_mul (show m ≤ 9 by omega) (Nat.le_refl 6002)
    omega
/-- what a house is shown to be, its kinds with any rises -/
theorem good_hou {ks : List Kd} {ss : List Str} {j : Jud} {n m : Nat} (hk : ∀ k ∈ ks, k.1 ∈ Names ∧ 0 ≤ k.2.2 ∧ k.2.2 < 16) (kl : ks.length < 10) (hs : ∀ x ∈ ss, x ∈ Names) (sl : ss.length < 10) (hn : n < 10) (hm : m < 10) (ok : JudOk n m j) : Good (houD ⟨ks, ss, j⟩) 200000 5 := by
  refine Good.mono (good_tup (n := 60000) (k := 4) fun d hd => ?_) (by show 3 * 60002 + 4 ≤ 200000; decide) (Nat.le_refl _)
  simp only [List.mem_cons, List.not_mem_nil, or_false] at hd
  rcases hd with hd | hd | hd
  · rw [hd]
    refine Good.mono (good_tup (n := 70) (k := 1) fun d hd => ?_) ?_ (by decide)
    · obtain ⟨k, hk', rfl⟩ := List.mem_map.mp hd
      obtain ⟨a, b, c⟩ := hk k hk'
      exact good_kd a b c
    · rw [List.length_map]
      have := Nat.mul_le_mul (show ks.length ≤ 9 by omega) (Nat.le_refl 72)
      omega
  · rw [hd]
    refine Good.mono (good_tup (n := 20) (k := 0) fun d hd => ?_) ?_ (by decide)
    · obtain ⟨x, hx, rfl⟩ := List.mem_map.mp hd
      exact good_str names_ok (hs x hx)
    · rw [List.length_map]
      have := Nat.mul_le_mul (show ss.length ≤ 9 by omega) (Nat.le_refl 22)
      omega
  · rw [hd]
    exact good_jud hn hm ok
/-! repr -/
section
variable {X : Cx}
def rRepr (K : PySem.W.Frag) : List V → Hp → VK → Prop := fun xs H Q => ∃ (v : V) (ds : List PyData) (n k : Nat), xs = [v] ∧ Dp K H v (.tuple ds) ∧ Good (.tuple ds) n k ∧ n < 1000000 ∧ k ≤ 60 ∧ Q (.str (PyData.shown (.tuple ds))) H
theorem call_repr (hg : X.A.guards = some []) (hu : X.A.units + 64 < cLine) : CallR X (.builtin "repr") (rRepr X.K) := by
  intro pins s σ H xs us Q I r q
  obtain ⟨v, ds, n, k, rfl, hd, g, hn, hk, q⟩ := q
  obtain ⟨u, rfl, rx⟩ := vals1 r
  obtain ⟨as, rr⟩ := Dp.reads I _ v u hd rx
  cases hd with
  | tup _ _ =>
  cases rx
  have := g.dp
  exact repr_of_reads' rr g.sh (PyData.noDict_hsm g.nd) hg (by omega) (fun _ _ e => e) (fun h' u tk hk' => ⟨.str _, H, I.kept (t' := tk) hk', ⟨_, rfl⟩, q⟩) (Nat.le_of_lt (szl (Nat.lt_of_le_of_lt g.len hn)))
end
end KZ

namespace KZ
open PySem PySem.Spec PyProof.Rows L2
/-- a promise that is kept where no repr is under way -/
structure FnG (P : Program) (w : World) (K : PySem.W.Frag) (mg : Str → Option Value) (base : Heap) (k : Nat) (f : Addr) (fd : FuncData) (ps : List Str) (sp : Sp) : Prop where
  len : ∀ vs H Q E, sp vs H Q E → vs.length = ps.length
  go : ∀ (A : Around) (up : List Env) (t : Shared) (H : Hp) (ar : Args) (us : List Value) (vs : List V) (Q : VK) (E : XK), A.guards = some [] → Room k A → Env0 P w K mg base A up t H → BindsTo t fd ar (ps.zip us) → Vals vs us → sp vs H Q E →
    codeAny (model P w) A (.call (.ref f) ar) (CR CX0 up P w H t Q E) t
section
variable {P : Program} {w : World} {K : PySem.W.Frag} {mg : Str → Option Value} {base : Heap}
/-- a def by its body, where no repr is under way -/
theorem fun_okG {x qual : Str} {st : Stmt} {f : Addr} {fd : FuncData} {N ps : List Str} {k : Nat} {sp : Sp} (F : Fun K x qual st f fd) (S : FnScope N ps (defScope st)) (hlen : ∀ vs H Q E, sp vs H Q E → vs.length = ps.length)
    (body : ∀ (cdv : Value) (A : Around) (up : List Env) (t : Shared) (H : Hp) (vs : List V) (Q : VK) (E : XK), A.guards = some [] → Room k (A.deeper (envOfC qual (defScope st) t.heap.objs.size f cdv)) → sp vs H Q E →
      ∃ τ, PSs (cxOf CX0 P w K mg base N qual (defScope st) f cdv A up t H E).nox (defBody st) τ ∧ τ { nx := fun _ H' => Q .non H', rt := Q } (start N vs) H) : FnG P w K mg base (k + 1) f fd ps sp := by
  obtain ⟨c0, d0, k0, doc, pm, an, cdv, ct, sl, rfl, found, code⟩ := F.ex
  refine ⟨hlen, ?_⟩
  intro A up t H ar us vs Q E gs room here binds rel wish
  have many := hlen _ _ _ _ wish
  have lim : t.heap.NoLimit := Heap.NoLimit.keeps here.mod.nolimit (fun b o e => (here.bs b o e).1)
  have inK : K.In t.heap := PySem.W.Frag.In.keeps here.mod.kin (fun b o e => (here.bs b o e).1)
  have kinds : ∀ z ∈ ps.zip us, (defScope st).names.lookup z.1 = some .local ∨
      ((defScope st).names.lookup z.1 = some .cell ∧ ((cellsFrom (t.heap.objs.size + 1) (defScope st).names []).lookup z.1).isSome = true) := by
    intro z hz
    have h1 : z.1 ∈ ps := (List.of_mem_zip (show (z.1, z.2) ∈ ps.zip us from hz)).1
    cases S.par _ h1 with
    | inl l => exact Or.inl l
    | inr l => exact Or.inr ⟨l, PySem.W.cellsFrom_some _ _ _ (Or.inl l)⟩
  refine codeAny_call_function room.depth (inK _ _ found) rfl S.co S.gen rfl (PySem.W.codeRec_of inK code) ?_
  refine binds _ _ _ _ ?_
  refine wpAny_newFunctionEnv_cells S.kind kinds ?_
  intro env he t1 inside
  subst he
  refine ⟨Heap.NoLimit.keeps lim inside.toInCall.keep, ?_⟩
  refine codeAny_func ?_
  obtain ⟨τ, runs, reads⟩ := body cdv A up t H vs Q E gs (Room.deeper room _) wish
  have J : L2.Inv (cxOf CX0 P w K mg base N qual (defScope st) f cdv A up t H E) [] (start N vs) H t1 := inv_start S room.hd here many rel inside
  refine wpAny_mono (runs.nox.run [] t1 (start N vs) H _ J reads) ?_ (fun _ _ z => z)
  intro fl t' out
  cases fl with
  | ret u =>
    obtain ⟨v, σ', H', I', rv, q⟩ := out
    exact ⟨v, H', I'.os, I'.bare, I'.base, I'.hok, rv, q⟩
  | next =>
    obtain ⟨σ', H', I', q⟩ := out
    exact ⟨V.non, H', I'.os, I'.bare, I'.base, I'.hok, rfl, q⟩
  | brk =>
    obtain ⟨_, _, _, q⟩ := out
    cases q
  | cont =>
    obtain ⟨_, _, _, q⟩ := out
    cases q
end
/-- a def that may be called where no repr is under way -/
structure CalG (P : Program) (w : World) (K : PySem.W.Frag) (mg : Str → Option Value) (base : Heap) (x : Str) (k : Nat) (ps : List Str) (sp : Sp) (f : Addr) (fd : FuncData) : Prop where
  ok : FnG P w K mg base k f fd ps sp
  g : mg x = some (.ref f)
  kp : PySem.W.keepIn K (.ref f) = true
  b : Binds K fd ps []
section
variable {X : Cx} {x : Str} {k : Nat} {ps : List Str} {sp : Sp} {f : Addr} {fd : FuncData} {e : Expr} {es : List Expr} {t : TA} {p pos : Pos}
theorem pclG (C : CalG X.prog X.w X.K X.mg X.base x k ps sp f fd) (gs : X.A.guards = some []) (hr : Room k X.A) (ha : PA X (e :: es) t) (hg : Gl X x := by rfl) (hdb : (x == ("__debug__" : Str)) = false := by decide) (he : starEach (e :: es) X.env = (false, eval e X.env) :: starEach es X.env := by rfl)
    (hpl : (backTo pos (starEach es X.env)).any (·.1) = false := by rfl) : PE X (.Call (.Name x p) (e :: es) [] pos) (tCall sp [] E0 t) := by
  refine ⟨fun pins s σ H Q I h => ?_⟩
  refine wpAny_Call_Name_kw (ld_glob I hg C.g ?_ hdb)
  refine PySem.W.callWith_K (h₀ := X.base) I.ok.mod.kin C.kp (thn (ha.run pos pins s σ H _ I h) ?_) he hpl
  intro us t1 got
  obtain ⟨vs, H1, J, rel, q⟩ := got
  refine ⟨J.kIn, ?_⟩
  rw [List.append_nil] at q
  have many : us.length = ps.length := by rw [← Vals.length rel]; exact C.ok.len _ _ _ _ q
  have bd := C.b t1 us J.kIn (by rw [List.append_nil]; exact many)
  rw [List.append_nil] at bd
  show wpAny (model X.prog X.w) X.A (call (.ref f) us) _ _ t1
  refine wpAny_call (codeAny_mono (C.ok.go X.A X.stack t1 H1 ⟨us, []⟩ us vs Q E0 gs hr J.env0 bd rel q) ?_)
  intro r t2 hq
  cases r with
  | error z => exact False.elim hq
  | ok fl =>
    cases fl with
    | ret u => exact J.after hq
    | next => exact False.elim hq
    | brk => exact False.elim hq
    | cont => exact False.elim hq
end
/-! two that are alike -/
def spAlike (K : PySem.W.Frag) : Sp := fun vs H Q _ => ∃ (v u : V) (ds : List PyData) (n k : Nat), vs = [v, u] ∧ Dp K H v (.tuple ds) ∧ Dp K H u (.tuple ds) ∧ Good (.tuple ds) n k ∧ n < 1000000 ∧ k ≤ 60 ∧ Q (.bl true) H
section
variable {P : Program} {w : World} {K : PySem.W.Frag} {mg : Str → Option Value} {base : Heap}
abbrev sAlike : Stmt := topS 16
theorem scAlike : FnScope ["found", "due"] ["found", "due"] (defScope sAlike) := ⟨rfl, rfl, rfl, by decide +kernel, rfl, by decide +kernel, by decide +kernel⟩
theorem ok_alike {f : Addr} {fd : FuncData} (F : Fun K "_law_alike" "_law_alike" sAlike f fd) (T : Txt mg) : FnG P w K mg base 1 f fd ["found", "due"] (spAlike K) := by
  refine fun_okG F scAlike (fun vs H Q E h => ?_) (fun cdv A outer s H vs Q E gs hr h => ?_)
  · obtain ⟨v, u, ds, n, k, rfl, _⟩ := h
    rfl
  · obtain ⟨v, u, ds, n, k, rfl, hv, hu, g, hn, hk, q⟩ := h
    refine ⟨_, pss_one (ps_ret (pe_and (pe_cmpR (op_eqD hr.units) (pv 0) (pv 1) (nomark _)) (pe_one (pe_cmpR op_eq (pe_callB (call_repr gs hr.units) (by rfl) T.repr PyProof.Rows.boot_repr (pa_cons (pv 0) pa_nil)) (pe_callB (call_repr gs hr.units) (by rfl) T.repr PyProof.Rows.boot_repr (pa_cons (pv 1) pa_nil)) (nomark _))))), ?_⟩
    have sh : SeqAt.shaped (.tuple ds) = true := by
      have := g.dp
      unfold SeqAt.shaped
      rw [g.lay, decide_eq_true (by omega)]
      rfl
    refine ⟨_, rfl, _, rfl, _, _, hv, hu, sh, sh, _, rfl, ?_⟩
    rw [SeqAt.eqv_refl _ g.lay]
    refine iteT ?_
    refine ⟨_, rfl, v, ds, n, k, rfl, hv, g, hn, hk, _, rfl, u, ds, n, k, rfl, hu, g, hn, hk, rfl, ?_⟩
    rw [decide_eq_true rfl]
    exact q
end
end KZ

namespace KZ
open PySem PySem.Spec PyProof.Rows L2
/-! a test without a bag -/
def EvB (tt : TT) (σ : L2.St) (H : Hp) (b : Bool) : Prop := ∀ H1, Sub H H1 → ∀ Q : Bool → Hp → Prop, (∀ H', Sub H1 H' → Q b H') → tt σ H1 Q
section
variable {K : PySem.W.Frag} {M : List Addr} {σ : L2.St} {H H' : Hp} {ta tb te tx : TE} {tr : TA} {t u : TT} {d e : PyData} {ds es : List PyData} {b c : Bool}
theorem EvB.sub (h : EvB t σ H b) (s : Sub H H') : EvB t σ H' b := fun H1 s1 => h H1 (s.trans s1)
theorem evd_eqI {i j : Int} (ha : EvD K M ta σ H (.int i)) (hb : EvD K M tb σ H (.int j)) : EvD K M (tOp rEq ta tb) σ H (.bool (decide (i = j))) := fun H1 s Q q =>
  ha H1 s _ fun v H2 s2 hv => hb H2 (s.trans s2) _ fun u H3 s3 hu => by
    cases hv.intAt
    cases hu.intAt
    refine ⟨rfl, q _ H3 (s2.trans s3) ?_⟩
    have e : decide (V.int i = V.int j) = decide (i = j) := by
      by_cases z : i = j
      · rw [decide_eq_true z, decide_eq_true (by rw [z])]
      · rw [decide_eq_false z, decide_eq_false fun y => z (by cases y; rfl)]
    rw [e]
    exact .bl _
theorem evd_neI {i j : Int} (ha : EvD K M ta σ H (.int i)) (hb : EvD K M tb σ H (.int j)) : EvD K M (tOp rNe ta tb) σ H (.bool (!decide (i = j))) := fun H1 s Q q =>
  ha H1 s _ fun v H2 s2 hv => hb H2 (s.trans s2) _ fun u H3 s3 hu => by
    cases hv.intAt
    cases hu.intAt
    refine ⟨rfl, q _ H3 (s2.trans s3) ?_⟩
    have e : decide (V.int i = V.int j) = decide (i = j) := by
      by_cases z : i = j
      · rw [decide_eq_true z, decide_eq_true (by rw [z])]
      · rw [decide_eq_false z, decide_eq_false fun y => z (by cases y; rfl)]
    rw [e]
    exact .bl _
theorem evd_eqS {i j : Str} (ha : EvD K M ta σ H (.str i)) (hb : EvD K M tb σ H (.str j)) : EvD K M (tOp rEq ta tb) σ H (.bool (decide (i = j))) := fun H1 s Q q =>
  ha H1 s _ fun v H2 s2 hv => hb H2 (s.trans s2) _ fun u H3 s3 hu => by
    cases hv.strAt
    cases hu.strAt
    refine ⟨rfl, q _ H3 (s2.trans s3) ?_⟩
    have e : decide (V.str i = V.str j) = decide (i = j) := by
      by_cases z : i = j
      · rw [decide_eq_true z, decide_eq_true (by rw [z])]
      · rw [decide_eq_false z, decide_eq_false fun y => z (by cases y; rfl)]
    rw [e]
    exact .bl _
theorem evb_test (h : EvD K M te σ H (.bool b)) : EvB (tTest te) σ H b := fun H1 s Q q => h H1 s _ fun v H2 s2 hv => by
  cases hv.blAt
  exact ⟨b, rfl, q H2 s2⟩
theorem evb_val (h : EvD K M te σ H (.bool b)) : EvB (tB te) σ H b := fun H1 s Q q => h H1 s _ fun v H2 s2 hv => by
  cases hv.blAt
  exact ⟨b, rfl, q H2 s2⟩
theorem evb_not (h : EvB t σ H b) : EvB (tNot t) σ H (!b) := fun H1 s Q q => h H1 s _ fun H2 s2 => q H2 s2
theorem evb_and (h : EvB t σ H b) (g : b = true → EvB u σ H c) : EvB (tAnd t u) σ H (b && c) := fun H1 s Q q => h H1 s _ fun H2 s2 => by
  cases b with
  | true => exact g rfl H2 (s.trans s2) _ fun H3 s3 => q H3 (s2.trans s3)
  | false => exact q H2 s2
theorem evb_or (h : EvB t σ H b) (g : b = false → EvB u σ H c) : EvB (tOr t u) σ H (b || c) := fun H1 s Q q => h H1 s _ fun H2 s2 => by
  cases b with
  | true => exact q H2 s2
  | false => exact g rfl H2 (s.trans s2) _ fun H3 s3 => q H3 (s2.trans s3)
theorem evd_and (h : EvD K M ta σ H (.bool b)) (g : b = true → EvD K M tb σ H (.bool c)) : EvD K M (tAndV ta tb) σ H (.bool (b && c)) := fun H1 s Q q => h H1 s _ fun v H2 s2 hv => by
  cases hv.blAt
  refine ⟨b, rfl, ?_⟩
  cases b with
  | true => exact g rfl H2 (s.trans s2) _ fun w H3 s3 hw => q w H3 (s2.trans s3) hw
  | false => exact q _ H2 s2 (.bl _)
theorem truL (h : Dm K M H v (.list ds)) : TruV K v H (!ds.isEmpty) := by
  obtain ⟨a, xs, rfl, hs, ha⟩ := Dm.lstAt h
  refine .inl ⟨xs, hs, ?_⟩
  have l := ha.len
  cases xs <;> cases ds <;> first | rfl | simp at l
theorem evd_notL (h : EvD K M te σ H (.list ds)) : EvD K M (tNotT K te) σ H (.bool ds.isEmpty) := fun H1 s Q q => h H1 s _ fun v H2 s2 hv => by
  refine ⟨_, truL hv, ?_⟩
  rw [Bool.not_not]
  exact q _ H2 s2 (.bl _)
/-- [g(x) for x in a list if c(x)] -/
theorem evd_lcF {tt : TT} {vs : List Nat} {j : Nat} (f : PyData → Bool) (g : PyData → PyData) (n : Kn M H) (h : EvD K M te σ H (.list ds)) (hz : ds.length < 100000) (hw : ∀ x, wipe ((wipe σ vs).set j (some x)) vs = wipe σ vs)
    (ht : ∀ (Dl : Addr), H Dl = none → ∀ (d : PyData) (x : V) (H1 : Hp), Sub H H1 → Kn (Dl :: M) H1 → d ∈ ds → Dm K (Dl :: M) H1 x d → EvB tt ((wipe σ vs).set j (some x)) H1 (f d))
    (he : ∀ (Dl : Addr), H Dl = none → ∀ (d : PyData) (x : V) (H1 : Hp), Sub H H1 → Kn (Dl :: M) H1 → d ∈ ds → f d = true → Dm K (Dl :: M) H1 x d → EvD K (Dl :: M) tb ((wipe σ vs).set j (some x)) H1 (g d)) : EvNL K M (tLc (iList K te) (gName j) tt tb vs) σ H ((ds.filter f).map g) := fun H1 s Q q =>
  h H1 s _ fun v H2 s2 hv => by
    obtain ⟨a, xs, rfl, hs, ha⟩ := hv.lstAtE
    have s02 := s.trans s2
    have hl := ha.len
    refine ⟨a, rfl, ⟨xs, (er_sub _ _).sqL hs⟩, fun Dl hD => ?_⟩
    have h0D : H Dl = none := s02.free hD
    refine lc_list (K := K) (a := a) (xs := xs) (fun i H' => Sub H2 H' ∧ ∃ acc, H' Dl = some (.lst acc) ∧ Dms K (Dl :: M) H' acc (((ds.take i).filter f).map g) ∧ SqL K (er (Dl :: M) H') a xs ∧ Dms K (Dl :: M) H' xs ds)
      ⟨Sub.new hD, [], upd_same, .nil, Sub.sqL (Kp.er (Kp.mut List.mem_cons_self)) (by rw [er_more hD]; exact hs), (ha.more hD).k (Kp.mut List.mem_cons_self)⟩ (fun i H' _ p => ?_) (fun i x H' hi p => ?_) (fun H' p => ?_)
    · obtain ⟨_, acc, _, _, p3, _⟩ := p
      exact (er_sub _ _).sqL p3
    · obtain ⟨sp, acc, p1, p2, p3, p4⟩ := p
      obtain ⟨d, hd, hx⟩ := p4.get' hi
      refine ⟨hw x, ?_⟩
      refine ht Dl h0D d x H' (s02.trans sp) ((n.sub (s02.trans sp)).more ⟨_, p1⟩) (List.mem_of_getElem? hd) hx H' (Sub.refl _) _ fun H3 s3 => ?_
      have p13 := s3 _ _ p1
      by_cases ef : f d = true
      · rw [if_pos ef]
        refine he Dl h0D d x H3 (s02.trans (sp.trans s3)) ((n.sub (s02.trans (sp.trans s3))).more ⟨_, p13⟩) (List.mem_of_getElem? hd) ef (Dm.s hx s3) H3 (Sub.refl _) _ fun y H4 s4 hy => ⟨acc, s4 _ _ p13, ?_, ?_⟩
        · have q1 := p2.len
          have q2 := List.length_filter_le f (ds.take i)
          rw [List.length_map] at q1
          rw [List.length_take] at q2
          exact szl (by omega)
        · have km : Kp (Dl :: M) H4 (upd H4 Dl (.lst (acc ++ [y]))) := Kp.mut List.mem_cons_self
          refine ⟨((sp.trans s3).trans s4).mut hD, _, upd_same, ?_, Sub.sqL km.er (Sub.sqL (Kp.er fun a o _ e => (s3.trans s4) a o e) p3), (Dms.s p4 (s3.trans s4)).k km⟩
          rw [take_snoc hd, List.filter_append, List.map_append]
          have e1 : [d].filter f = [d] := by rw [List.filter_cons, if_pos ef]; rfl
          rw [e1]
          exact Dms.k ((Dms.s p2 (s3.trans s4)).app (DpAll.one hy)) km
      · rw [if_neg ef]
        refine ⟨sp.trans s3, acc, p13, ?_, Sub.sqL (Kp.er fun a o _ e => s3 a o e) p3, Dms.s p4 s3⟩
        rw [take_snoc hd, List.filter_append]
        have e1 : [d].filter f = [] := by rw [List.filter_cons, if_neg ef]; rfl
        rw [e1, List.append_nil]
        exact Dms.s p2 s3
    · obtain ⟨sp, acc, p1, p2, p3, p4⟩ := p
      rw [hl, List.take_length] at p2
      exact q Dl acc H' (s2.trans sp) (s2.free hD) p1 p2
/-- [g(x) for x in a tuple if c(x)] -/
theorem evd_lcFT {tt : TT} {vs : List Nat} {j : Nat} (f : PyData → Bool) (g : PyData → PyData) (n : Kn M H) (h : EvD K M te σ H (.tuple ds)) (hz : ds.length < 100000) (hw : ∀ x, wipe ((wipe σ vs).set j (some x)) vs = wipe σ vs)
    (ht : ∀ (Dl : Addr), H Dl = none → ∀ (d : PyData) (x : V) (H1 : Hp), Sub H H1 → Kn (Dl :: M) H1 → d ∈ ds → Dm K (Dl :: M) H1 x d → EvB tt ((wipe σ vs).set j (some x)) H1 (f d))
    (he : ∀ (Dl : Addr), H Dl = none → ∀ (d : PyData) (x : V) (H1 : Hp), Sub H H1 → Kn (Dl :: M) H1 → d ∈ ds → f d = true → Dm K (Dl :: M) H1 x d → EvD K (Dl :: M) tb ((wipe σ vs).set j (some x)) H1 (g d)) : EvNL K M (tLc (iTup K te) (gName j) tt tb vs) σ H ((ds.filter f).map g) := fun H1 s Q q =>
  h H1 s _ fun v H2 s2 hv => by
    obtain ⟨a, xs, rfl, hs, ha⟩ := hv.tupAtE
    have s02 := s.trans s2
    have hl := ha.len
    refine ⟨a, rfl, ⟨xs, (er_sub _ _).sqT hs⟩, fun Dl hD => ?_⟩
    have h0D : H Dl = none := s02.free hD
    refine lc_tup (K := K) (a := a) (xs := xs) (fun i H' => Sub H2 H' ∧ ∃ acc, H' Dl = some (.lst acc) ∧ Dms K (Dl :: M) H' acc (((ds.take i).filter f).map g) ∧ SqT K (er (Dl :: M) H') a xs ∧ Dms K (Dl :: M) H' xs ds)
      ⟨Sub.new hD, [], upd_same, .nil, Sub.sqT (Kp.er (Kp.mut List.mem_cons_self)) (by rw [er_more hD]; exact hs), (ha.more hD).k (Kp.mut List.mem_cons_self)⟩ (fun i H' _ p => ?_) (fun i x H' hi p => ?_) (fun H' p => ?_)
    · obtain ⟨_, acc, _, _, p3, _⟩ := p
      exact (er_sub _ _).sqT p3
    · obtain ⟨sp, acc, p1, p2, p3, p4⟩ := p
      obtain ⟨d, hd, hx⟩ := p4.get' hi
      refine ⟨hw x, ?_⟩
      refine ht Dl h0D d x H' (s02.trans sp) ((n.sub (s02.trans sp)).more ⟨_, p1⟩) (List.mem_of_getElem? hd) hx H' (Sub.refl _) _ fun H3 s3 => ?_
      have p13 := s3 _ _ p1
      by_cases ef : f d = true
      · rw [if_pos ef]
        refine he Dl h0D d x H3 (s02.trans (sp.trans s3)) ((n.sub (s02.trans (sp.trans s3))).more ⟨_, p13⟩) (List.mem_of_getElem? hd) ef (Dm.s hx s3) H3 (Sub.refl _) _ fun y H4 s4 hy => ⟨acc, s4 _ _ p13, ?_, ?_⟩
        · have q1 := p2.len
          have q2 := List.length_filter_le f (ds.take i)
          rw [List.length_map] at q1
          rw [List.length_take] at q2
          exact szl (by omega)
        · have km : Kp (Dl :: M) H4 (upd H4 Dl (.lst (acc ++ [y]))) := Kp.mut List.mem_cons_self
          refine ⟨((sp.trans s3).trans s4).mut hD, _, upd_same, ?_, Sub.sqT km.er (Sub.sqT (Kp.er fun a o _ e => (s3.trans s4) a o e) p3), (Dms.s p4 (s3.trans s4)).k km⟩
          rw [take_snoc hd, List.filter_append, List.map_append]
          have e1 : [d].filter f = [d] := by rw [List.filter_cons, if_pos ef]; rfl
          rw [e1]
          exact Dms.k ((Dms.s p2 (s3.trans s4)).app (DpAll.one hy)) km
      · rw [if_neg ef]
        refine ⟨sp.trans s3, acc, p13, ?_, Sub.sqT (Kp.er fun a o _ e => s3 a o e) p3, Dms.s p4 s3⟩
        rw [take_snoc hd, List.filter_append]
        have e1 : [d].filter f = [] := by rw [List.filter_cons, if_neg ef]; rfl
        rw [e1, List.append_nil]
        exact Dms.s p2 s3
    · obtain ⟨sp, acc, p1, p2, p3, p4⟩ := p
      rw [hl, List.take_length] at p2
      exact q Dl acc H' (s2.trans sp) (s2.free hD) p1 p2
theorem evb_yes : EvB tYes σ H true := fun H1 s Q q => q H1 (Sub.refl _)
theorem filter_yes {α : Type} (l : List α) : l.filter (fun _ => true) = l := by
  induction l with
  | nil => rfl
  | cons a l ih => rw [List.filter_cons, if_pos rfl, ih]
theorem bls_dps {H : Hp} : ∀ {l : List Bool} {vs : List V}, DpAll K H vs (l.map PyData.bool) → vs = l.map V.bl
  | [], _, h => by
    cases h
    rfl
  | x :: l, _, h => by
    cases h with
    | cons h1 h2 =>
      cases h1
      rw [bls_dps h2]
      rfl
/-- all of a list of truths -/
theorem evd_all {bs : List Bool} (h : EvD K M te σ H (.list (bs.map PyData.bool))) : EvD K M (tCB (rAll K) (tCons te tNil)) σ H (.bool (bs.all id)) := fun H1 s Q q => h H1 s _ fun v H2 s2 hv => by
  obtain ⟨a, xs, rfl, hs, ha⟩ := hv.lstAt
  have e : xs = bs.map V.bl := bls_dps ha
  subst e
  exact ⟨a, bs, rfl, hs, q _ H2 s2 (.bl _)⟩
end
end KZ

namespace KZ
open PySem PySem.Spec PyProof.Rows L2
section
variable {P : Program} {w : World} {K : PySem.W.Frag} {mg : Str → Option Value} {base : Heap}
abbrev sPicked : Stmt := topS 11
abbrev NP : List Str := ["judge", "kinds", "table", "asker", "holder"]
theorem scPicked : FnScope NP ["judge", "kinds"] (defScope sPicked) := ⟨rfl, rfl, rfl, by decide +kernel, rfl, by decide +kernel, by decide +kernel⟩
abbrev scA : Scope := { kind := ScopeKind.function, names := [(Str.ofString ".0", NameKind.local), (Str.ofString "table", NameKind.cell), (Str.ofString "tuple", NameKind.globalImplicit), (Str.ofString "kinds", NameKind.cell)], isGenerator := false, isCoroutine := false }
abbrev scB : Scope := { kind := ScopeKind.function, names := [(Str.ofString ".0", NameKind.local), (Str.ofString "asker", NameKind.cell), (Str.ofString "tuple", NameKind.globalImplicit), (Str.ofString "kinds", NameKind.cell), (Str.ofString "table", NameKind.cell)], isGenerator := false, isCoroutine := false }
def tcP (K : PySem.W.Frag) (te : TE) : TE := tCB (fun xs H Q => ∃ p ys, xs = [V.ref p] ∧ ((SqL K H p ys ∧ ∀ l, H l = none → Q (.ref l) (upd H l (.tup ys))) ∨ (SqT K H p ys ∧ Q (.ref p) H))) (tCons te tNil)
/-- the rows of a table in another order, as data -/
def itD : PyData → Nat → PyData
  | .tuple cs, h => cs.getD h .none
  | _, _ => .none
def unN : PyData → Nat
  | .int i => i.toNat
  | _ => 0
def rowG (o : List Nat) (t : PyData) (a : Nat) : PyData := .tuple (o.map fun h => itD (itD t a) h)
def tabG (o : List Nat) (t : PyData) : PyData := .tuple (o.map fun a => rowG o t a)
def natD (o : List Nat) : List PyData := o.map fun k : Nat => PyData.int (k : Int)
def rPicked (ds : List PyData) (d : PyData) : Prop := ∃ (j : Jud) (n m : Nat) (o : List Nat), ds = [judD j, .list (natD o)] ∧ JudOk n m j ∧ (∀ a ∈ o, a < n) ∧ o.length < 100 ∧ m < 100 ∧ n < 100 ∧ d = .tuple ((j.map tabD).map (tabG o))
theorem natD_map (o : List Nat) (g : Nat → PyData) : (natD o).map (fun e => g (unN e)) = o.map g := by
  unfold natD
  rw [List.map_map]
  rfl
theorem nat_in {o : List Nat} {d : PyData} (h : d ∈ natD o) : ∃ a ∈ o, d = .int (a : Int) := by
  obtain ⟨a, ha, e⟩ := List.mem_map.mp h
  exact ⟨a, ha, e.symm⟩
/-- a def without a bag, from data to data -/
def spPure (K : PySem.W.Frag) (rel : List PyData → PyData → Prop) : Sp := fun vs H Q _ => ∃ (M : List Addr) (ds : List PyData) (d : PyData), Kn M H ∧ Dms K M H vs ds ∧ rel ds d ∧ ∀ y H', Sub H H' → Dm K M H' y d → Q y H'
theorem pure_len {vs : List V} {H : Hp} {Q : VK} {E : XK} {n : Nat} {rel : List PyData → PyData → Prop} (hr : ∀ ds d, rel ds d → ds.length = n) (h : spPure K rel vs H Q E) : vs.length = n := by
  obtain ⟨M, ds, d, _, hd, r, _⟩ := h
  rw [hd.len]
  exact hr ds d r
theorem evd_tcP {M : List Addr} {σ : L2.St} {H : Hp} {te : TE} {ds : List PyData} (n : Kn M H) (he : EvD K M te σ H (.list ds)) : EvD K M (tcP K te) σ H (.tuple ds) := fun H1 s Q q =>
  he H1 s _ fun v H2 s2 hv => by
    obtain ⟨a, xs, rfl, hs, ha⟩ := hv.lstAt
    exact ⟨a, xs, rfl, .inl ⟨hs, fun z hz => q _ _ (s2.trans (Sub.new hz)) (Dm.tupNew (n.sub (s.trans s2)) hz ha)⟩⟩
theorem itD_at {cs : List PyData} {h : Nat} {d : PyData} (e : cs[h]? = some d) : itD (.tuple cs) h = d := by
  show cs.getD h .none = d
  rw [List.getD_eq_getElem?_getD, e]
  rfl
theorem ok_picked {f : Addr} {fd : FuncData} (F : Fun K "_picked" "_picked" sPicked f fd) (T : Txt mg) : FnOk P w K mg base CX0 1 f fd ["judge", "kinds"] (spPure K rPicked) := by
  refine F.ok scPicked (fun vs H Q E h => pure_len (fun ds d r => ?_) h) (fun cdv A outer s H vs Q E hr h => ?_)
  · obtain ⟨_, _, _, _, rfl, _⟩ := r
    rfl
  obtain ⟨M, ds, d, kn, hd, ⟨j, n, m, o, rfl, ok, hin, ol, ml, nl, rfl⟩, q⟩ := h
  obtain ⟨vj, vo, rfl, hj, ho⟩ := Dms.two_at hd
  refine ⟨_, pss_one (ps_ret (pe_callTy call_tuple_of (by rfl) T.tuple bootTuple (pa_cons
    (pe_lc (own := [("table", 2)]) (g := gName 2) (tt := tYes) (te := tcP K (tLc (iList K (tVar 1)) (gName 3) tYes (tcP K (tLc (iList K (tVar 1)) (gName 4) tYes (tOp (rIxT K) (tOp (rIxT K) (tVar 2) (tVar 3)) (tVar 4)) [4])) [3])) rfl scPicked.nd (pi_tup (pv 0)) (blkOk_by (N := NP) (sc := defScope sPicked) (by decide +kernel)) (fun _ _ _ _ _ => pg_name (i := 2) scPicked.nd rfl (Or.inr rfl)) (fun _ _ _ _ _ => pts_nil)
      (fun _ _ _ _ _ => pe_callTy call_tuple_of (by rfl) T.tuple bootTuple (pa_cons
        (pe_lc (own := [("asker", 3)]) (g := gName 3) (tt := tYes) rfl scPicked.nd (pi_list (pv 1)) (blkOk_by (N := NP) (sc := scA) (by decide +kernel)) (fun _ _ _ _ _ => pg_name (i := 3) scPicked.nd rfl (Or.inr rfl)) (fun _ _ _ _ _ => pts_nil)
          (fun _ _ _ _ _ => pe_callTy call_tuple_of (by rfl) T.tuple bootTuple (pa_cons
            (pe_lc (own := [("holder", 4)]) (g := gName 4) (tt := tYes) rfl scPicked.nd (pi_list (pv 1)) (blkOk_by (N := NP) (sc := scB) (by decide +kernel)) (fun _ _ _ _ _ => pg_name (i := 4) scPicked.nd rfl (Or.inl rfl)) (fun _ _ _ _ _ => pts_nil)
              (fun _ _ _ _ _ => pe_ix ix_tup (pe_ix ix_tup (pv 2) (pv 3) (fun _ _ => rfl)) (pv 4) (fun _ _ => rfl))) pa_nil))) pa_nil))) pa_nil))), ?_⟩
  have jl := ok.1
  refine evd_ret (K := K) (M := M) (d := .tuple ((j.map tabD).map (tabG o))) (evd_tcP kn (EvNL.toD kn ?_)) fun y H1 s1 hy => q y H1 s1 hy
  rw [← filter_yes (j.map tabD)]
  refine evd_lcFT (fun _ => true) (tabG o) kn (evd_var (i := 0) rfl hj) (by rw [List.length_map]; omega) (by intro z; rfl) (fun _ _ _ _ _ _ _ _ _ => evb_yes) ?_
  intro D1 hD1 dt xt H1 s1 n1 hdt _ hxt
  obtain ⟨t, ht, rfl⟩ := List.mem_map.mp hdt
  have tok := ok.2 t ht
  have ho1 : Dm K (D1 :: M) H1 vo (.list (natD o)) := Dm.s (Dm.more ho hD1) s1
  have ol1 : (natD o).length < 100000 := by
    unfold natD
    rw [List.length_map]
    omega
  refine evd_tcP n1 (EvNL.toD n1 ?_)
  rw [← natD_map o (fun a => rowG o (tabD t) a)]
  refine evd_lc (fun e => rowG o (tabD t) (unN e)) n1 (evd_var (i := 1) rfl ho1) ol1 (by intro z; rfl) ?_
  intro D2 hD2 da xa H2 s2 n2 hda hxa
  obtain ⟨a, ha, rfl⟩ := nat_in hda
  have ho2 : Dm K (D2 :: D1 :: M) H2 vo (.list (natD o)) := Dm.s (Dm.more ho1 hD2) s2
  have ht2 : Dm K (D2 :: D1 :: M) H2 xt (tabD t) := Dm.s (Dm.more hxt hD2) s2
  have al := hin a ha
  have er : t[a]? = some (t.getD a []) := by
    rw [List.getD_eq_getElem?_getD, List.getElem?_eq_getElem (by rw [tok.1]; exact al)]
    rfl
  have rok := tok.2 _ (List.mem_of_getElem? er)
  refine evd_tcP n2 (EvNL.toD n2 ?_)
  rw [← natD_map o (fun h => itD (itD (tabD t) (unN (.int (a : Int)))) h)]
  refine evd_lc (fun e => itD (itD (tabD t) (unN (.int (a : Int)))) (unN e)) n2 (evd_var (i := 1) rfl ho2) ol1 (by intro z; rfl) ?_
  intro D3 hD3 dh xh H3 s3 n3 hdh hxh
  obtain ⟨b, hb, rfl⟩ := nat_in hdh
  have ht3 : Dm K (D3 :: D2 :: D1 :: M) H3 xt (tabD t) := Dm.s (Dm.more ht2 hD3) s3
  have ha3 : Dm K (D3 :: D2 :: D1 :: M) H3 xa (.int (a : Int)) := Dm.s (Dm.more hxa hD3) s3
  have bl := hin b hb
  have ec : (t.getD a [])[b]? = some ((t.getD a []).getD b ("", "")) := by
    have hb : b < (t.getD a []).length := by
      rw [rok.1]
      exact bl
    generalize t.getD a [] = row at hb
    rw [List.getD_eq_getElem?_getD, List.getElem?_eq_getElem hb]
    rfl
  have e1 : itD (tabD t) (unN (.int (a : Int))) = rowD (t.getD a []) := itD_at (h := ((a : Int)).toNat) (by rw [Int.toNat_natCast, List.getElem?_map, er]; rfl)
  have e2 : itD (rowD (t.getD a [])) (unN (.int (b : Int))) = cpD ((t.getD a []).getD b ("", "")) := itD_at (h := ((b : Int)).toNat) (by rw [Int.toNat_natCast, List.getElem?_map, ec]; rfl)
  show EvD K _ _ _ _ (itD (itD (tabD t) (unN (.int (a : Int)))) (unN (.int (b : Int))))
  rw [e1, e2]
  exact evd_ixT (evd_ixT (evd_var (i := 2) rfl ht3) (evd_var (i := 3) rfl ha3) (Int.natCast_nonneg _) (by rw [Int.toNat_natCast, List.getElem?_map, er]; rfl)) (evd_var (i := 4) rfl hxh) (Int.natCast_nonneg _) (by rw [Int.toNat_natCast, List.getElem?_map, ec]; rfl)
end
end KZ

namespace KZ
open PySem PySem.Spec PyProof.Rows L2
theorem gname_of {i : Nat} {x : V} {σ : L2.St} {H : Hp} {k : L2.St → Hp → Prop} (h : k (σ.set i (some x)) H) : gName i x σ H k := h
theorem sfor {wi : TI} {g : TG} {tb u : TS} {D : Ends} {σ : L2.St} {H : Hp} (h : tFor wi g tb { D with nx := u D } σ H) : tSeq (tFor wi g tb) u D σ H := h
theorem for1 {wi : TI} {g : TG} {tb : TS} {D : Ends} {σ : L2.St} {H : Hp} (h : tFor wi g tb D σ H) : tFor wi g tb D σ H := h
/-- the rows of one table, told by any two slots: from comprehensions within one another -/
theorem evd_rows {K : PySem.W.Frag} {M : List Addr} {σ : L2.St} {H : Hp} {io it_ ia ih : Nat} {vo xt : V} {n : Nat} {t : Tab} {o : List Nat} (kn : Kn M H) (so : σ[io]? = some (some vo)) (st : σ[it_]? = some (some xt)) (ho : Dm K M H vo (.list (natD o))) (ht : Dm K M H xt (tabD t)) (tok : TabOk n t) (hin : ∀ a ∈ o, a < n) (ol : o.length < 100)
    (w1 : ∀ x, wipe ((wipe σ [ia]).set ia (some x)) [ia] = wipe σ [ia])
    (w2 : ∀ x y, wipe ((wipe ((wipe σ [ia]).set ia (some x)) [ih]).set ih (some y)) [ih] = wipe ((wipe σ [ia]).set ia (some x)) [ih])
    (o1 : (wipe σ [ia])[io]? = some (some vo))
    (o2 : ∀ x, ((wipe σ [ia]).set ia (some x))[io]? = some (some vo))
    (g : ∀ x y, ((wipe ((wipe σ [ia]).set ia (some x)) [ih]).set ih (some y))[it_]? = some (some xt) ∧ ((wipe ((wipe σ [ia]).set ia (some x)) [ih]).set ih (some y))[ia]? = some (some x) ∧ ((wipe ((wipe σ [ia]).set ia (some x)) [ih]).set ih (some y))[ih]? = some (some y)) :
    EvD K M (tcP K (tLc (iList K (tVar io)) (gName ia) tYes (tcP K (tLc (iList K (tVar io)) (gName ih) tYes (tOp (rIxT K) (tOp (rIxT K) (tVar it_) (tVar ia)) (tVar ih)) [ih])) [ia])) σ H (tabG o (tabD t)) := by
  have ol1 : (natD o).length < 100000 := by
    unfold natD
    rw [List.length_map]
    omega
  refine evd_tcP kn (EvNL.toD kn ?_)
  rw [← natD_map o (fun a => rowG o (tabD t) a)]
  refine evd_lc (fun e => rowG o (tabD t) (unN e)) kn (evd_var so ho) ol1 w1 ?_
  intro D2 hD2 da xa H2 s2 n2 hda hxa
  obtain ⟨a, ha, rfl⟩ := nat_in hda
  have ho2 : Dm K (D2 :: M) H2 vo (.list (natD o)) := Dm.s (Dm.more ho hD2) s2
  have ht2 : Dm K (D2 :: M) H2 xt (tabD t) := Dm.s (Dm.more ht hD2) s2
  have al := hin a ha
  have er : t[a]? = some (t.getD a []) := by
    rw [List.getD_eq_getElem?_getD, List.getElem?_eq_getElem (by rw [tok.1]; exact al)]
    rfl
  have rok := tok.2 _ (List.mem_of_getElem? er)
  refine evd_tcP n2 (EvNL.toD n2 ?_)
  rw [← natD_map o (fun h => itD (itD (tabD t) (unN (.int (a : Int)))) h)]
  refine evd_lc (fun e => itD (itD (tabD t) (unN (.int (a : Int)))) (unN e)) n2 (evd_var (o2 xa) ho2) ol1 (fun y => w2 xa y) ?_
  intro D3 hD3 dh xh H3 s3 n3 hdh hxh
  obtain ⟨b, hb, rfl⟩ := nat_in hdh
  have ht3 : Dm K (D3 :: D2 :: M) H3 xt (tabD t) := Dm.s (Dm.more ht2 hD3) s3
  have ha3 : Dm K (D3 :: D2 :: M) H3 xa (.int (a : Int)) := Dm.s (Dm.more hxa hD3) s3
  have bl := hin b hb
  have ec : (t.getD a [])[b]? = some ((t.getD a []).getD b ("", "")) := by
    have hb : b < (t.getD a []).length := by
      rw [rok.1]
      exact bl
    generalize t.getD a [] = row at hb
    rw [List.getD_eq_getElem?_getD, List.getElem?_eq_getElem hb]
    rfl
  have e1 : itD (tabD t) (unN (.int (a : Int))) = rowD (t.getD a []) := itD_at (h := ((a : Int)).toNat) (by rw [Int.toNat_natCast, List.getElem?_map, er]; rfl)
  have e2 : itD (rowD (t.getD a [])) (unN (.int (b : Int))) = cpD ((t.getD a []).getD b ("", "")) := itD_at (h := ((b : Int)).toNat) (by rw [Int.toNat_natCast, List.getElem?_map, ec]; rfl)
  show EvD K _ _ _ _ (itD (itD (tabD t) (unN (.int (a : Int)))) (unN (.int (b : Int))))
  rw [e1, e2]
  obtain ⟨g1, g2, g3⟩ := g xa xh
  exact evd_ixT (evd_ixT (evd_var g1 ht3) (evd_var g2 ha3) (Int.natCast_nonneg _) (by rw [Int.toNat_natCast, List.getElem?_map, er]; rfl)) (evd_var g3 hxh) (Int.natCast_nonneg _) (by rw [Int.toNat_natCast, List.getElem?_map, ec]; rfl)
section
variable {P : Program} {w : World} {K : PySem.W.Frag} {mg : Str → Option Value} {base : Heap}
abbrev sLPicked : Stmt := topS 25
abbrev NQ : List Str := ["house", "order", "judge", "part", "asker", "holder"]
theorem scLPicked : FnScope NQ ["house", "order"] (defScope sLPicked) := ⟨rfl, rfl, rfl, by decide +kernel, rfl, by decide +kernel, by decide +kernel⟩
abbrev scC : Scope := { kind := ScopeKind.function, names := [(Str.ofString ".0", NameKind.local), (Str.ofString "asker", NameKind.cell), (Str.ofString "tuple", NameKind.globalImplicit), (Str.ofString "order", NameKind.cell), (Str.ofString "part", NameKind.cell)], isGenerator := false, isCoroutine := false }
def rLPicked (ds : List PyData) (d : PyData) : Prop := ∃ (d0 d1 : PyData) (j : Jud) (n m : Nat) (o : List Nat), ds = [.tuple [d0, d1, judD j], .list (natD o)] ∧ JudOk n m j ∧ (∀ a ∈ o, a < n) ∧ o.length < 100 ∧ m < 100 ∧ n < 100 ∧ d = .tuple ((j.map tabD).map (tabG o))
theorem ok_lPicked {f : Addr} {fd : FuncData} (F : Fun K "_law_picked" "_law_picked" sLPicked f fd) (T : Txt mg) : FnOk P w K mg base CX0 1 f fd ["house", "order"] (spPure K rLPicked) := by
  refine F.ok scLPicked (fun vs H Q E h => pure_len (fun ds d r => ?_) h) (fun cdv A outer s H vs Q E hr h => ?_)
  · obtain ⟨_, _, _, _, _, _, rfl, _⟩ := r
    rfl
  obtain ⟨M, ds, d, kn, hd, ⟨d0, d1, j, n, m, o, rfl, ok, hin, ol, ml, nl, rfl⟩, q⟩ := h
  obtain ⟨vj, vo, rfl, hj, ho⟩ := Dms.two_at hd
  refine ⟨_, pss_cons (ps_set (i := 2) scLPicked.nd rfl (Or.inl rfl) (pe_lst pa_nil))
    (pss_cons (ps_for PassesOwn.never rfl (pi_tup (pe_ix ix_tup (pv 0) pe_int (fun _ _ => rfl))) (pg_name (i := 3) scLPicked.nd rfl (Or.inr rfl))
      (pss_one (ps_expr (pe_bm PySem.F.plainAttrs_list PySem.F.slot_list_append PySem.F.type_list_append mt_append (pv 2) (pa_cons
        (pe_callTy call_tuple_of (by rfl) T.tuple bootTuple (pa_cons
          (pe_lc (own := [("asker", 4)]) (g := gName 4) (tt := tYes) (te := tcP K (tLc (iList K (tVar 1)) (gName 5) tYes (tOp (rIxT K) (tOp (rIxT K) (tVar 3) (tVar 4)) (tVar 5)) [5])) rfl scLPicked.nd (pi_list (pv 1)) (blkOk_by (N := NQ) (sc := defScope sLPicked) (by decide +kernel)) (fun _ _ _ _ _ => pg_name (i := 4) scLPicked.nd rfl (Or.inr rfl)) (fun _ _ _ _ _ => pts_nil)
            (fun _ _ _ _ _ => pe_callTy call_tuple_of (by rfl) T.tuple bootTuple (pa_cons
              (pe_lc (own := [("holder", 5)]) (g := gName 5) (tt := tYes) rfl scLPicked.nd (pi_list (pv 1)) (blkOk_by (N := NQ) (sc := scC) (by decide +kernel)) (fun _ _ _ _ _ => pg_name (i := 5) scLPicked.nd rfl (Or.inl rfl)) (fun _ _ _ _ _ => pts_nil)
                (fun _ _ _ _ _ => pe_ix ix_tup (pe_ix ix_tup (pv 3) (pv 4) (fun _ _ => rfl)) (pv 5) (fun _ _ => rfl))) pa_nil))) pa_nil)) pa_nil)))))
    (pss_one (ps_ret (pe_callTy call_tuple_of (by rfl) T.tuple bootTuple (pa_cons (pv 2) pa_nil))))), ?_⟩
  refine sset_of (lst_of (nil_of ⟨Nat.zero_le _, fun p hp => ?_⟩))
  have s0 : Sub H (upd H p (.lst [])) := Sub.new hp
  have km0 {o : HO} : Kp (p :: M) H (upd H p o) := Kp.mut List.mem_cons_self
  have hj1 : Dm K (p :: M) (upd H p (.lst [])) vj (.tuple [d0, d1, judD j]) := Dm.k (Dm.more hj hp) km0
  have ho1 : Dm K (p :: M) (upd H p (.lst [])) vo (.list (natD o)) := Dm.k (Dm.more ho hp) km0
  obtain ⟨a, xs, y, rfl, hs, hat, hy⟩ := dm_getT (i := 2) hj1 (by decide) rfl
  obtain ⟨a0, xs0, rfl, hs0, ha0⟩ := (show Dm K (p :: M) _ y (.tuple (j.map tabD)) from hy).tupAtE
  have hl0 := ha0.len
  rw [List.length_map] at hl0
  have jl := ok.1
  refine sfor ⟨_, rfl, a, xs, 2, _, rfl, rfl, hs, hat, a0, rfl, ⟨_, (er_sub _ _).sqT hs0⟩, for_tup (K := K) (a := a0) (xs := xs0) (fun i σ H' => ∃ (u : Option V) (vs : List V), σ = [some (.ref a), some vo, some (.ref p), u, none, none] ∧ Sub H H' ∧ H' p = some (.lst vs) ∧ Dms K (p :: M) H' vs (((j.map tabD).take i).map (tabG o)) ∧ SqT K (er (p :: M) H') a0 xs0 ∧ Dms K (p :: M) H' xs0 (j.map tabD) ∧ Dm K (p :: M) H' vo (.list (natD o)))
    ⟨none, [], rfl, s0, upd_same, .nil, hs0, ha0, ho1⟩ (fun i σ H' _ ⟨_, _, _, _, _, _, q, _⟩ => (er_sub _ _).sqT q) ?_ ?_⟩
  · rintro i x σ H1 hi ⟨u, vs, rfl, s1, h1p, hds, hsq, hdx, hov⟩
    obtain ⟨dt, hdt, hx⟩ := hdx.get' hi
    have hdt' := hdt
    rw [List.getElem?_map] at hdt'
    obtain ⟨t, ht, rfl⟩ := Option.map_eq_some_iff.mp hdt'
    have n1 : Kn (p :: M) H1 := (kn.sub s1).more ⟨_, h1p⟩
    refine gname_of ⟨_, rfl, .inl ⟨rfl, _, SqL.of h1p⟩, args1 ?_⟩
    refine evd_rows (σ := [some (.ref a), some vo, some (.ref p), some x, none, none]) (io := 1) (it_ := 3) (ia := 4) (ih := 5) n1 rfl rfl hov hx (ok.2 t (List.mem_of_getElem? ht)) hin ol (fun _ => rfl) (fun _ _ => rfl) rfl (fun _ => rfl) (fun _ _ => ⟨rfl, rfl, rfl⟩) H1 (Sub.refl _) _ fun v2 H2 s2 h2 => ?_
    have h2p := s2 _ _ h1p
    have vl := hds.len
    rw [List.length_map, List.length_take, List.length_map] at vl
    refine ⟨p, vs, _, rfl, rfl, h2p, szl (by omega), ?_⟩
    have km : Kp (p :: M) H2 (upd H2 p (.lst (vs ++ [v2]))) := Kp.mut List.mem_cons_self
    have sk : Kp (p :: M) H1 H2 := fun a o _ e => s2 a o e
    refine ⟨_, _, rfl, (s1.trans s2).mut hp, upd_same, ?_, Sub.sqT (sk.trans km).er hsq, (hdx.k sk).k km, (Dm.k hov sk).k km⟩
    rw [take_snoc hdt, List.map_append]
    exact Dms.k ((Dms.s hds s2).app (DpAll.one h2)) km
  · rintro σ H1 ⟨u, vs, rfl, s1, h1p, hds, hsq, hdx, hov⟩
    rw [hl0, List.take_of_length_le (by rw [List.length_map]; omega)] at hds
    dsimp only
    refine ret_of (cb_args ⟨_, rfl, p, _, rfl, .inl ⟨SqL.of h1p, fun z hz => ?_⟩⟩)
    exact q _ _ (s1.trans (Sub.new hz)) (Dm.tupNew (kn.sub s1) hz (hds.less fun a m => List.mem_cons_of_mem _ m))
end
end KZ

namespace KZ
open PySem PySem.Spec PyProof.Rows L2
theorem getD_of {α : Type} {l : List α} {i : Nat} (h : i < l.length) (d : α) : l[i]? = some (l.getD i d) := by
  rw [List.getD_eq_getElem?_getD, List.getElem?_eq_getElem h]
  rfl
def kdAt (ks : List Kd) (k : Nat) : Kd := ks.getD k ("", true, 0)
theorem kd_at {ks : List Kd} {k : Nat} (h : k < ks.length) : ks[k]? = some (kdAt ks k) := getD_of h _
section
variable {K : PySem.W.Frag} {M : List Addr} {σ : L2.St} {H : Hp}
/-- len(x[i]), x in any slot -/
theorem evd_lenI {k : Nat} {i : Int} {ds rs : List PyData} {v : V} (hv : σ[k]? = some (some v)) (hd : Dm K M H v (.tuple ds)) (i0 : 0 ≤ i) (hi : ds[i.toNat]? = some (.tuple rs)) :
    EvD K M (tCB (fun xs H Q => ∃ p ys, xs = [V.ref p] ∧ (SqL K H p ys ∨ SqT K H p ys) ∧ Q (.int ys.length) H) (tCons (tOp (rIxT K) (tVar k) (tC (.int i))) tNil)) σ H (.int rs.length) := fun H1 s Q q => by
  obtain ⟨a, xs, y, rfl, hs, hat, hy⟩ := dm_getT (Dm.s hd s) i0 hi
  obtain ⟨b, ys, rfl, hs2, ha2⟩ := hy.tupAt
  refine ⟨_, hv, a, xs, i, _, rfl, rfl, hs, hat, b, ys, rfl, .inr hs2, ?_⟩
  rw [ha2.len]
  exact q _ H1 (Sub.refl _) (.int _)
theorem strs_dps {H : Hp} : ∀ {l : List Str} {vs : List V}, DpAll K H vs (l.map PyData.str) → vs = l.map V.str
  | [], _, h => by
    cases h
    rfl
  | x :: l, _, h => by
    cases h with
    | cons h1 h2 =>
      cases h1
      rw [strs_dps h2]
      rfl
theorem inV_str (x : Str) : ∀ l : List Str, inV (.str x) (l.map V.str) = decide (x ∈ l)
  | [] => by simp [inV]
  | a :: l => by
    have ih := inV_str x l
    unfold inV at ih ⊢
    rw [List.map_cons, List.any_cons, ih]
    have e : eqV (V.str a) (V.str x) = decide (x = a) := by
      show (a == x) = _
      by_cases z : x = a
      · subst z
        simp
      · rw [decide_eq_false z]
        simpa using fun y => z y.symm
    rw [e]
    by_cases z : x = a
    · simp [z]
    · simp [z]
theorem flat_str : ∀ l : List Str, (l.map V.str).all flatV = true
  | [] => rfl
  | a :: l => by
    rw [List.map_cons, List.all_cons]
    exact flat_str l
/-- x in a list, a tuple of texts -/
theorem evb_inS {te tl : TE} {x : Str} {l : List Str} (hx : EvD K M te σ H (.str x)) (hl : EvD K M tl σ H (.list (l.map PyData.str)) ∨ EvD K M tl σ H (.tuple (l.map PyData.str))) : EvB (tTest (tOp (rIn K false) te tl)) σ H (decide (x ∈ l)) := fun H1 s Q q =>
  hx H1 s _ fun v H2 s2 hv => by
    cases hv.strAt
    have fin : ∀ (u : V) (H3 : Hp), Sub H2 H3 → (Dm K M H3 u (.list (l.map PyData.str)) ∨ Dm K M H3 u (.tuple (l.map PyData.str))) → rIn K false (.str x) u H3 fun y H' => ∃ k, y = .bl k ∧ Q k H' := fun u H3 s3 hu => by
      have go : ∀ (a : Addr) (xs : List V), u = .ref a → (SqL K H3 a xs ∨ SqT K H3 a xs) → xs = l.map V.str → rIn K false (.str x) u H3 fun y H' => ∃ k, y = .bl k ∧ Q k H' := fun a xs e hs ex => by
        subst ex
        refine ⟨a, _, e, hs, rfl, flat_str l, _, rfl, ?_⟩
        rw [inV_str]
        exact q H3 (s2.trans s3)
      rcases hu with hu | hu
      · obtain ⟨a, xs, e, hs, ha⟩ := hu.lstAt
        exact go a xs e (.inl hs) (strs_dps ha)
      · obtain ⟨a, xs, e, hs, ha⟩ := hu.tupAt
        exact go a xs e (.inr hs) (strs_dps ha)
    rcases hl with hl | hl
    · exact hl H2 (s.trans s2) _ fun u H3 s3 hu => fin u H3 s3 (.inl hu)
    · exact hl H2 (s.trans s2) _ fun u H3 s3 hu => fin u H3 s3 (.inr hu)
end
/-- a house, as data -/
abbrev hD (ks : List Kd) (ss : List Str) (j : Jud) : PyData := .tuple [.tuple (ks.map kdD), .tuple (ss.map PyData.str), judD j]
def nxt (ks : List Kd) (k : Nat) : Nat := (kdAt ks k).2.2.toNat
theorem nxt_ok {ks : List Kd} (ok : KdsOk ks) {k : Nat} (h : k < ks.length) : k ≤ nxt ks k ∧ nxt ks k < ks.length ∧ (kdAt ks k).2.2 = ((nxt ks k : Nat) : Int) := by
  have r := ok.rise k _ (kd_at h)
  unfold nxt
  omega
theorem evd_pure {K : PySem.W.Frag} {M : List Addr} {σ : L2.St} {H : Hp} {tr : TA} {ds : List PyData} {d : PyData} {rel : List PyData → PyData → Prop} {E : XK} (n : Kn M H) (h : EvDs K M tr σ H ds) (r : rel ds d) : EvD K M (tCall (spPure K rel) [] E tr) σ H d :=
  evd_call h fun vs H1 Q E s hd q => ⟨M, ds, d, n.sub s, hd, r, q⟩
section
variable {K : PySem.W.Frag} {M : List Addr}
theorem evd_riseK {σ : L2.St} {H : Hp} {ks : List Kd} {ss : List Str} {j : Jud} {te tk : TE} {k : Nat} (eh : EvD K M te σ H (hD ks ss j)) (ek : EvD K M tk σ H (.int (k : Int))) (ok : KdsOk ks) (hk : k < ks.length) :
    EvD K M (tOp (rIxT K) (tOp (rIxT K) (tOp (rIxT K) te (tC (.int 0))) tk) (tC (.int 2))) σ H (.int ((nxt ks k : Nat) : Int)) := by
  have q0 : EvD K M _ σ H (.tuple (ks.map kdD)) := evd_ixT eh (evd_int (i := 0)) (by decide) rfl
  have q1 : EvD K M _ σ H (kdD (kdAt ks k)) := evd_ixT q0 ek (Int.natCast_nonneg _) (by rw [Int.toNat_natCast, List.getElem?_map, kd_at hk]; rfl)
  have q2 := evd_ixT q1 (evd_int (i := 2)) (by decide) rfl
  rw [(nxt_ok ok hk).2.2] at q2
  exact q2
end
def idxN : List Nat → Nat → Nat
  | [], _ => 0
  | a :: l, x => if a = x then 0 else idxN l x + 1
theorem idx_at {x : Nat} : ∀ {o : List Nat}, x ∈ o → o[idxN o x]? = some x
  | [], h => nomatch h
  | a :: l, h => by
    unfold idxN
    by_cases e : a = x
    · rw [if_pos e, e]
      rfl
    · rw [if_neg e]
      exact idx_at ((List.mem_cons.mp h).resolve_left fun z => e z.symm)
theorem idx_lo {x z : Nat} : ∀ {o : List Nat} {m : Nat}, m < idxN o x → o[m]? = some z → z ≠ x
  | [], m, _, e => by simp at e
  | a :: l, m, h, e => by
    unfold idxN at h
    by_cases c : a = x
    · rw [if_pos c] at h
      omega
    · rw [if_neg c] at h
      cases m with
      | zero =>
        cases Option.some.inj e
        exact c
      | succ m => exact idx_lo (o := l) (by omega) e
theorem nats_dps {K : PySem.W.Frag} {H : Hp} : ∀ {l : List Nat} {vs : List V}, DpAll K H vs (natD l) → vs = l.map fun k : Nat => V.int (k : Int)
  | [], _, h => by
    cases h
    rfl
  | x :: l, _, h => by
    cases h with
    | cons h1 h2 =>
      cases h1
      rw [nats_dps h2]
      rfl
theorem flat_nat : ∀ l : List Nat, (l.map fun k : Nat => V.int (k : Int)).all flatV = true
  | [] => rfl
  | a :: l => by
    rw [List.map_cons, List.all_cons]
    exact flat_nat l
section
variable {K : PySem.W.Frag} {M : List Addr} {σ : L2.St} {H : Hp}
theorem evd_index {to te : TE} {o : List Nat} {x : Nat} (ho : EvD K M to σ H (.list (natD o))) (hx : EvD K M te σ H (.int (x : Int))) (m : x ∈ o) : EvD K M (tBM K "list" (rIndex K) to (tCons te tNil)) σ H (.int ((idxN o x : Nat) : Int)) := fun H1 s Q q =>
  ho H1 s _ fun v H2 s2 hv => by
    obtain ⟨a, xs, rfl, hs, ha⟩ := hv.lstAt
    refine ⟨.inl ⟨rfl, _, hs⟩, args1 ?_⟩
    refine hx H2 (s.trans s2) _ fun u H3 s3 hu => ?_
    cases hu.intAt
    obtain ⟨a', xs', e', hs', ha'⟩ := (Dm.s hv s3).lstAt
    cases e'
    have ex := nats_dps ha'
    subst ex
    refine ⟨a, _, _, idxN o x, .int (x : Int), rfl, rfl, hs', rfl, flat_nat o, ?_, ?_, fun k z' hk e => ?_, q _ H3 (s2.trans s3) (.int _)⟩
    · rw [List.getElem?_map, idx_at m]
      rfl
    · show ((x : Int) == (x : Int)) = true
      simp
    · rw [List.getElem?_map] at e
      obtain ⟨z, ez, rfl⟩ := Option.map_eq_some_iff.mp e
      have := idx_lo hk ez
      show ((z : Int) == (x : Int)) = false
      simp
      omega
theorem evd_if {t : TT} {ta tb : TE} {b : Bool} {d : PyData} (hb : EvB t σ H b) (h1 : b = true → EvD K M ta σ H d) (h2 : b = false → EvD K M tb σ H d) : EvD K M (tIf t ta tb) σ H d := fun H1 s Q q =>
  hb H1 s _ fun H2 s2 => by
    cases b with
    | true => exact h1 rfl H2 (s.trans s2) _ fun v H3 s3 hv => q v H3 (s2.trans s3) hv
    | false => exact h2 rfl H2 (s.trans s2) _ fun v H3 s3 hv => q v H3 (s2.trans s3) hv
/-- [one for one in range(m) if c(one)] -/
theorem evd_lcRF {tr : TA} {tb : TE} {tt : TT} {vs : List Nat} {j : Nat} {m : Int} (f : Nat → Bool) (g : Nat → PyData) (n : Kn M H) (h : EvDs K M tr σ H [.int m]) (h0 : 0 ≤ m) (hz : m < 100000) (hw : ∀ x, wipe ((wipe σ vs).set j (some x)) vs = wipe σ vs)
    (ht : ∀ (Dl : Addr), H Dl = none → ∀ (i : Nat) (H1 : Hp), Sub H H1 → Kn (Dl :: M) H1 → (i : Int) < m → EvB tt ((wipe σ vs).set j (some (.int (i : Int)))) H1 (f i))
    (he : ∀ (Dl : Addr), H Dl = none → ∀ (i : Nat) (H1 : Hp), Sub H H1 → Kn (Dl :: M) H1 → (i : Int) < m → EvD K (Dl :: M) tb ((wipe σ vs).set j (some (.int (i : Int)))) H1 (g i)) : EvNL K M (tLc (iRng1 tr) (gName j) tt tb vs) σ H (((List.range m.toNat).filter f).map g) := fun H1 s Q q =>
  h H1 s _ fun us H2 s2 hv => by
    cases hv with
    | cons hv1 hv2 =>
    cases hv2
    cases hv1
    have s02 := s.trans s2
    refine ⟨m, rfl, by omega, by omega, fun Dl hD => ?_⟩
    have h0D : H Dl = none := s02.free hD
    refine lc_range (lo := 0) (n := m.toNat) (fun i H' => Sub H2 H' ∧ ∃ acc, H' Dl = some (.lst acc) ∧ Dms K (Dl :: M) H' acc (((List.range i).filter f).map g))
      ⟨Sub.new hD, [], upd_same, .nil⟩ (fun i H' hi p => ?_) (fun H' p => ?_)
    · obtain ⟨sp, acc, p1, p2⟩ := p
      rw [show (0 : Int) + (i : Nat) = (i : Int) by omega]
      refine ⟨hw _, ?_⟩
      refine ht Dl h0D i H' (s02.trans sp) ((n.sub (s02.trans sp)).more ⟨_, p1⟩) (by omega) H' (Sub.refl _) _ fun H3 s3 => ?_
      have p13 := s3 _ _ p1
      rw [List.range_succ, List.filter_append, List.map_append, List.filter_cons]
      by_cases ef : f i = true
      · rw [if_pos ef, if_pos ef]
        refine he Dl h0D i H3 (s02.trans (sp.trans s3)) ((n.sub (s02.trans (sp.trans s3))).more ⟨_, p13⟩) (by omega) H3 (Sub.refl _) _ fun y H4 s4 hy => ⟨acc, s4 _ _ p13, ?_, ?_⟩
        · have q1 := p2.len
          have q2 := List.length_filter_le f (List.range i)
          rw [List.length_map] at q1
          rw [List.length_range] at q2
          exact szl (by omega)
        · have km : Kp (Dl :: M) H4 (upd H4 Dl (.lst (acc ++ [y]))) := Kp.mut List.mem_cons_self
          exact ⟨((sp.trans s3).trans s4).mut hD, _, upd_same, Dms.k ((Dms.s p2 (s3.trans s4)).app (DpAll.one hy)) km⟩
      · rw [if_neg ef, if_neg ef]
        exact ⟨sp.trans s3, acc, p13, by rw [List.filter_nil, List.map_nil, List.append_nil]; exact Dms.s p2 s3⟩
    · obtain ⟨sp, acc, p1, p2⟩ := p
      exact q Dl acc H' (s2.trans sp) (s2.free hD) p1 p2
end
section
variable {K : PySem.W.Frag} {M : List Addr} {σ : L2.St} {H : Hp} {ta tb te : TE} {rs : List PyData}
theorem evd_lenE (h : EvD K M te σ H (.tuple rs)) : EvD K M (tCB (fun xs H Q => ∃ p ys, xs = [V.ref p] ∧ (SqL K H p ys ∨ SqT K H p ys) ∧ Q (.int ys.length) H) (tCons te tNil)) σ H (.int rs.length) := fun H1 s Q q =>
  h H1 s _ fun v H2 s2 hv => by
    obtain ⟨a, xs, rfl, hs, ha⟩ := hv.tupAt
    refine ⟨a, xs, rfl, .inr hs, ?_⟩
    rw [ha.len]
    exact q _ H2 s2 (.int _)
end
theorem nat_dps {K : PySem.W.Frag} {H : Hp} : ∀ o : List Nat, DpAll K H (o.map fun k : Nat => V.int (k : Int)) (natD o)
  | [] => .nil
  | a :: o => .cons (.int _) (nat_dps o)
theorem rgV_nat (n : Nat) : rgV 0 (n : Int) = (List.range n).map fun k : Nat => V.int (k : Int) := by
  unfold rgV
  rw [show ((n : Int) - 0).toNat = n by omega]
  exact List.map_congr_left fun i _ => congrArg V.int (Int.zero_add _)
end KZ

namespace KZ
open PySem PySem.Spec PyProof.Rows L2
/-! own errors with one field, own errors with none -/
structure Oer (K : PySem.W.Frag) (mg : Str → Option Value) (x f : Str) (C fI : Addr) : Prop where
  o : OexC K C
  g : mg x = some (.ref C)
  i : PySem.W.findIn K (.ref C) "__init__" = some (some (.ref fI))
  t : PySem.W.typeIn K (.ref fI) = some (.type "function")
  no : PySem.W.findIn K (.ref C) f = some none
  ga : PySem.W.findIn K (.ref C) "__getattribute__" = some (some (.builtin "BaseException.__getattribute__"))
  gg : PySem.W.findIn K (.ref C) "__getattr__" = some none
  hd : PySem.W.hasDictIn K C = true
structure Oer0 (K : PySem.W.Frag) (mg : Str → Option Value) (x : Str) (C : Addr) : Prop where
  g : mg x = some (.ref C)
  q : PySem.W.excIn K C [.type "ValueError", .type "Exception", .type "BaseException", .type "object"] "ValueError.__new__" = true
  kC : PySem.W.keepIn K (.ref C) = true
  exC : PySem.W.subIn K (.ref C) (.type "BaseException") = some true
  tyC : PySem.W.typeIn K (.ref C) = some (.type "type")
def spIni (K : PySem.W.Frag) (f : Str) : Sp := fun vs H Q _ => ∃ (a C : Addr) (v : V), vs = [.ref a, v] ∧ OexC K C ∧ PySem.W.findIn K (.ref C) f = some none ∧ H a = some (exo a C none) ∧
  ∀ dx, H dx = none → dx ≠ a → Q .non (upd (upd H dx (exd dx [(f, v)])) a (exo a C (some dx)))
section
variable {P : Program} {w : World} {K : PySem.W.Frag} {mg : Str → Option Value} {base : Heap}
abbrev sIniL : Stmt := inClass (topS 4) 0
theorem scIniL : FnScope ["self", "kind"] ["self", "kind"] (defScope sIniL) := ⟨rfl, rfl, rfl, by decide +kernel, rfl, by decide +kernel, by decide +kernel⟩
theorem ok_iniL {f : Addr} {fd : FuncData} (F : Fun K "__init__" "NotLater.__init__" sIniL f fd) : FnOk P w K mg base CX0 1 f fd ["self", "kind"] (spIni K "kind") := by
  refine F.ok scIniL (fun vs H Q E h => ?_) (fun cdv A outer s H vs Q E hr h => ?_)
  · obtain ⟨_, _, _, rfl, _⟩ := h
    rfl
  · obtain ⟨a, C, v, rfl, T, no, hH, q⟩ := h
    exact ⟨_, pss_one (ps_ost (pv 0) (pv 1)), v, rfl, .ref a, rfl, a, C, rfl, T, no, .inl ⟨hH, fun dx h1 h2 => q dx h1 h2⟩⟩
end
/-- an own error with one field, that can be made -/
structure Mer (P : Program) (w : World) (K : PySem.W.Frag) (mg : Str → Option Value) (base : Heap) (x f : Str) (C fI : Addr) : Prop where
  r : Oer K mg x f C fI
  fn : ∃ fd, FnOk P w K mg base CX0 1 fI fd ["self", f] (spIni K f) ∧ Binds K fd ["self", f] []
/-- X(v) has been made: what is wished of it -/
def Made1 (K : PySem.W.Frag) (C : Addr) (f : Str) (v : V) (H1 : Hp) (Q : XK) : Prop := ([v] : List V).length ≤ 1000 ∧ ∀ a, H1 a = none → spIni K f (.ref a :: ([v] ++ [])) (upd H1 a (exo a C none))
  (fun u H2 => u = .non ∧ ∃ (d : Addr) (fs : List (Str × V)), H2 a = some (exo a C (some d)) ∧ H2 d = some (exd d fs) ∧ H1 d = none ∧ Q (.ref C) (some d) (upd (del H2 a) d (.xd fs))) (fun _ _ _ => False)
theorem made1_of {K : PySem.W.Frag} {mg : Str → Option Value} {x : Str} {C fI : Addr} {f : Str} {v : V} {H1 : Hp} {Q : XK} (T : Oer K mg x f C fI) (h : ∀ (d : Addr) (H2 : Hp), Sub H1 H2 → H2 d = some (.xd [(f, v)]) → Q (.ref C) (some d) H2) : Made1 K C f v H1 Q := by
  refine ⟨by show 1 ≤ 1000; decide, fun a ha => ⟨a, C, v, rfl, T.o, T.no, upd_same, fun dx h1 h2 => ⟨rfl, dx, _, upd_same, ?_, ?_, h dx _ ?_ upd_same⟩⟩⟩
  · rw [upd_ne h2, upd_same]
  · rw [upd_ne h2] at h1
    exact h1
  · intro b o e
    have hb : b ≠ a := ne_of_none e ha
    rw [upd_ne h2] at h1
    have hd : b ≠ dx := ne_of_none e h1
    rw [upd_ne hd, del_ne hb, upd_ne hb, upd_ne hd, upd_ne hb]
    exact e
section
variable {X : Cx}
/-- raise X(e) -/
theorem ps_raise1 {x f : Str} {C fI : Addr} {e : Expr} {te : TE} {W : WX} {p pos pos2 : Pos} (hc : X.calm = true) (T : Mer X.prog X.w X.K X.mg X.base x f C fI) (hr : Room 2 X.A) (tk : Takes X W) (he : PE X e te) (hg : Gl X x := by rfl)
    (hdb : (x == ("__debug__" : Str)) = false := by decide) (hs : starEach [e] X.env = (false, eval e X.env) :: starEach [] X.env := by rfl) (hpl : (backTo pos (starEach [] X.env)).any (·.1) = false := by rfl) :
    PS X (.Raise (some (.Call (.Name x p) [e] [] pos)) none pos2) (fun D σ H => te σ H fun v H1 => Made1 X.K C f v H1 fun cls d H2 => W cls d σ H2) := by
  obtain ⟨fd, F, hb⟩ := T.fn
  refine ⟨fun pins s σ H D I h => (ps_raise (pos := pos2) hc tk (pmk_oex (pos := pos) (p := p) T.r.o T.r.i T.r.t F hr hb (.nil : Vals [] []) pass0 hg T.r.g (pa_cons he pa_nil hs) hdb hs hpl)).run pins s σ H D I ?_⟩
  exact args1 h
/-- X() -/
theorem pmk_own0 {x : Str} {C : Addr} {p pos : Pos} (T : Oer0 X.K X.mg x C) (hg : Gl X x) (hdb : (x == ("__debug__" : Str)) = false := by decide) : PMk X (.Call (.Name x p) [] [] pos) (fun _ H Q => Q (.ref C) none H) := by
  intro pins s σ H Q I h
  refine wpAny_Call_Name_kw (ld_glob I hg T.g ?_ hdb)
  refine PySem.W.callWith_K0 I.kIn T.kC ?_
  show wpAny _ _ (call (.ref C) []) _ _ _
  obtain ⟨bm, N, nm, qn, bs, hdct, sn, sub, ab, col, dd, k0, k1, k2, k3, k5, mN, hC, hN, hni, tl⟩ := exc_obj I.kIn T.q
  refine wpAny_call_exc_subT F.excBase_ValueError tl hC hN hni (fun h' e hm => ?_) (Nat.zero_le _)
  exact mk_of I hm (raises_own T.exC T.tyC) h (I.hok.gone hm.new)
theorem ps_raise0 {x : Str} {C : Addr} {W : WX} {p pos pos2 : Pos} (hc : X.calm = true) (T : Oer0 X.K X.mg x C) (tk : Takes X W) (hg : Gl X x := by rfl) (hdb : (x == ("__debug__" : Str)) = false := by decide) :
    PS X (.Raise (some (.Call (.Name x p) [] [] pos)) none pos2) (fun _ σ H => W (.ref C) none σ H) := ps_raise hc tk (pmk_own0 T hg hdb)
/-- e.f, e the exception that the suite holds (at a; its class cls, its dict d) -/
def tByF (f : Str) (C : Addr) (a : Addr) (cls : Value) (d : Option Addr) (te : TE) : TE := fun σ H Q => te σ H fun x H1 => x = .ref a ∧ cls = .ref C ∧ ∃ (dd : Addr) (v : V), d = some dd ∧ H1 dd = some (.xd [(f, v)]) ∧ Q v H1
theorem pe_byF {x f : Str} {C fI : Addr} {a : Addr} {oe : Obj} {cls : Value} {d : Option Addr} {pn : List (Addr × Obj)} {e : Expr} {te : TE} {pos : Pos} (T : Oer X.K X.mg x f C fI) (hz : Zc cls d oe) (hf : ∃ vs, oe.data = .fields vs) (he : PE (X.suite a ((a, oe) :: pn)) e te)
    (hb : attributeBase e f X.env (eval e X.env) = eval e X.env := by rfl) : PE (X.suite a ((a, oe) :: pn)) (.Attribute e f pos) (tByF f C a cls d te) := by
  refine ⟨fun pins s σ H Q I h => ?_⟩
  refine attr_of hb (thn (he.run pins s σ H _ I h) fun u s1 hh => ?_)
  obtain ⟨x, H1, I1, rx, ex, ec, dd, v, ed, ea, q⟩ := hh
  subst ex
  obtain rfl : u = Value.ref a := rx
  subst ec
  subst ed
  obtain ⟨ha, _⟩ := I1.pin (a, oe) (List.mem_append_left _ List.mem_cons_self)
  obtain ⟨vs, hd⟩ := hf
  have hx : ObjOk X.prog X.w H1 s1.heap dd (.xd [(f, v)]) := I1.hok dd _ ea
  obtain ⟨mA, hns, hr⟩ := hx
  obtain ⟨od, ho, hl⟩ := lookIn_ns hns
  have l : List.lookup f [(f, v)] = some v := by simp [List.lookup]
  obtain ⟨u, hu, ru⟩ := RelO.some_of (v := v) (o := mA f) (by rw [← l]; exact hr f)
  have J : PySem.W.InstAt s1.heap a oe C (some od) := ⟨ha, hz.1, by unfold PySem.W.notCls; rw [hd] <;> rfl, by rw [hz.2]; exact ho⟩
  exact HandSPX.exc_get I1.kIn J T.ga T.gg T.o.exC (PySem.W.findObj_own T.hd T.no rfl (by rw [hl, hu])) (handed_of ru) ⟨v, H1, I1.tok _, ru, q⟩
end
/-! a def from data to data, or to an own error -/
inductive Res
  | told (d : PyData)
  | one (C : Addr) (f : Str) (d : PyData)
  | few (C : Addr)
def spR (K : PySem.W.Frag) (rel : List PyData → Res → Prop) : Sp := fun vs H Q E => ∃ (M : List Addr) (ds : List PyData) (r : Res), Kn M H ∧ Dms K M H vs ds ∧ rel ds r ∧
  match r with
  | .told d => ∀ y H', Sub H H' → Dm K M H' y d → Q y H'
  | .one C f d => ∀ a v H', Sub H H' → Dm K M H' v d → H' a = some (.xd [(f, v)]) → E (.ref C) (some a) H'
  | .few C => ∀ H', Sub H H' → E (.ref C) none H'
theorem spR_len {K : PySem.W.Frag} {rel : List PyData → Res → Prop} {vs : List V} {H : Hp} {Q : VK} {E : XK} {n : Nat} (hr : ∀ ds r, rel ds r → ds.length = n) (h : spR K rel vs H Q E) : vs.length = n := by
  obtain ⟨M, ds, r, _, hd, q, _⟩ := h
  rw [hd.len]
  exact hr ds r q
end KZ

namespace KZ
open PySem PySem.Spec PyProof.Rows L2
/-! a tuple of numbers: where a number stands in it -/
def rIndexT (K : PySem.W.Frag) : V → List V → Hp → VK → Prop := fun x xs H Q => ∃ (a : Addr) (o : List Nat) (k i : Nat), x = .ref a ∧ xs = [.int (k : Int)] ∧ SqT K H a (o.map fun k : Nat => V.int (k : Int)) ∧ o[i]? = some k ∧ (∀ m, m < i → o[m]? ≠ some k) ∧ Q (.int (i : Nat)) H
theorem mt_indexT {X : Cx} : MtR X "tuple.index" (rIndexT X.K) := by
  intro pins s σ H x xs v us Q J r1 r2 wish
  obtain ⟨a, o, k, i, rfl, rfl, sq, here, ahead, fin⟩ := wish
  cases r1
  obtain ⟨u, rfl, tk, rfl⟩ := vals1 r2
  obtain ⟨its, vals, ⟨⟨cl, dc, da, so⟩, get, hcl, m0, hda⟩, size⟩ := J.tuple sq
  simp only at hcl hda
  subst hcl
  subst hda
  have many : its.toArray.size = o.length := by rw [List.size_toArray, ← vals.length, List.length_map]
  have low : i < its.toArray.size := by
    rw [many]
    exact (List.getElem?_eq_some_iff.mp here).1
  have item : ∀ (m : Nat) (h : m < its.toArray.size), ∃ (y : Nat) (t : Tok), o[m]? = some y ∧ its.toArray[m] = Value.int (y : Int) t := fun m h => by
    have h' : m < o.length := by rw [← many]; exact h
    obtain ⟨w, hw, t, ew⟩ := vals.get (i := m) (x := .int ((o[m] : Nat) : Int)) (by simp [h'])
    refine ⟨o[m], t, List.getElem?_eq_getElem h', ?_⟩
    rw [← ew, ← (List.getElem?_eq_some_iff.mp hw).2]
    simp
  refine call_meets PySem.F.slot_tuple_index ⟨_, get, rfl⟩ PySem.F.entry_tuple_index (PySem.F.args_tuple_index_2 _ _)
    (TI.tuple_indexAt a its.toArray m0 dc so (.int (k : Int) tk) (eqU (.int (k : Int))) i low ?_ ?_) ⟨get, fun w hw => mem_eqAt (x := .int (k : Int)) ⟨tk, rfl⟩ rfl vals (by
      rw [List.all_map]
      exact List.all_eq_true.mpr fun _ _ => rfl) w (by simpa using hw), ⟨.int (i : Nat), H, J.tok _, ⟨_, rfl⟩, fin⟩⟩
  · obtain ⟨y, t, e1, e2⟩ := item i low
    rw [here] at e1
    cases e1
    rw [e2]
    show ((k : Int) == (k : Int)) = true
    exact beq_self_eq_true _
  · intro m hm lt
    obtain ⟨y, t, e1, e2⟩ := item m hm
    rw [e2]
    show ((y : Int) == (k : Int)) = false
    refine beq_eq_false_iff_ne.mpr fun e => ahead m lt ?_
    rw [e1, show y = k by omega]
/-- a tuple that is told with its very object: its methods can be called -/
def tyT (x : V) (H : Hp) : Prop := ∃ (a : Addr) (ob : Obj) (u : HO), x = .ref a ∧ H a = some (.frz ob u) ∧ ob.cls = .type "tuple" ∧ ob.dict = none
section
variable {X : Cx}
theorem call_tupleF : CallR X (.type "tuple") (fun xs H Q => ∃ p ys, xs = [.ref p] ∧ SqL X.K H p ys ∧ ∀ (l : Addr) (ob : Obj), ob.cls = .type "tuple" → ob.dict = none → H l = none → Q (.ref l) (upd H l (.frz ob (.tup ys)))) := by
  intro pins s σ H xs us Q J r wish
  obtain ⟨p, ys, rfl, sq, fin⟩ := wish
  obtain ⟨u, rfl, ru⟩ := vals1 r
  cases ru
  obtain ⟨its, vals, plain, size⟩ := J.list sq
  have many := vals.length
  refine call_tuple_list plain.isList (fun g more => ?_) (by simp only [List.size_toArray] <;> omega)
  have J1 : L2.Inv X pins σ H { s with heap := g } := J.kept (t' := s.toks) more
  have J2 : L2.Inv X pins σ (upd H g.objs.size (.frz { cls := .type "tuple", data := .seq its.toArray } (.tup ys))) { s with heap := g.push { cls := .type "tuple", data := .seq its.toArray } } :=
    J1.laid (t' := s.toks) (fun b o e => Heap.get?_push_of_some _ e) (Nat.le_refl _) (show ObjOk X.prog X.w _ _ _ (.frz _ (.tup ys)) from ⟨Heap.get?_push_size _ rfl, size, its, vals, IsTup.new _ _⟩)
  exact ⟨.ref g.objs.size, _, J2, rfl, fin _ _ rfl rfl (J1.hok.fresh (Nat.le_refl _))⟩
def tBT (r : V → List V → Hp → VK → Prop) (to : TE) (t : TA) : TE := fun σ H Q => to σ H fun x H1 => tyT x H1 ∧ t σ H1 fun xs H2 => r x xs H2 Q
/-- o.m(e, ..), o such a tuple -/
theorem pe_bt {o e : Expr} {es : List Expr} {to : TE} {t : TA} {name : Str} {apos cpos : Pos} {id : String} {r : V → List V → Hp → VK → Prop} (slot : Slot "tuple" name id) (hty : typeOf (.builtin id) = pure (.type "method_descriptor")) (hm : MtR X id r) (ho : PE X o to) (ha : PA X (e :: es) t)
    (hbase : attributeBase o name X.env (eval o X.env) = eval o X.env := by rfl)
    (few : ((backTo cpos (starEach (e :: es) X.env)).all (fun x => !x.1) && (backToKw cpos (keywordEach [] X.env)).all (fun x => x.1.isSome) && decide ((e :: es).length + ([] : List Keyword).length + (if ([] : List Keyword).isEmpty then 0 else 1) < 30)) = true := by rfl)
    (line : (apos.endLine == cpos.line) = true := by rfl) (star : starEach (e :: es) X.env = (false, eval e X.env) :: starEach es X.env := by rfl) (plain : (backTo cpos (starEach es X.env)).any (·.1) = false := by rfl) :
    PE X (.Call (.Attribute o name apos) (e :: es) [] cpos) (tBT r to t) := by
  refine ⟨fun pins s σ H Q J wish => ?_⟩
  refine wpAny_Call_method_late hbase few line rfl (thn (ho.run pins s σ H _ J wish) fun v s1 ⟨x, H1, J1, r1, ty, q1⟩ => ?_)
  obtain ⟨a, ob, u, rfl, ha1, hc, hd⟩ := ty
  obtain rfl : v = Value.ref a := r1
  have get : s1.heap.get? a = some ob := (J1.hok a _ ha1).1
  refine ⟨"tuple", id, PySem.F.plainAttrs_tuple, slot, hty, ⟨ob, get, hc⟩, (fun b e => by
    cases e
    exact ⟨ob, get, hd⟩), ?_⟩
  have args := ha.run cpos pins s1 σ H1 _ J1 q1
  rw [star] at args ⊢
  refine Calls.callWith_builtin (by show (false || (backTo cpos (starEach es X.env)).any (·.1)) = false; rw [plain] <;> rfl) (Calls.evalArgs_plain ?_)
  exact thn args fun us s2 ⟨vs, H2, J2, r2, q2⟩ => hm pins s2 σ H2 (.ref a) vs (.ref a) us Q J2 rfl r2 q2
end
section
variable {K : PySem.W.Frag} {M : List Addr} {σ : L2.St} {H : Hp} {ta tb to te : TE} {o : List Nat} {x : Nat} {i : Nat} {a : Addr} {ob : Obj} {u : HO}
theorem evd_indexT (ho : σ[i]? = some (some (.ref a))) (hf : H a = some (.frz ob u)) (hc : ob.cls = .type "tuple") (hd : ob.dict = none) (hv : Dm K M H (.ref a) (.tuple (natD o))) (hx : EvD K M te σ H (.int (x : Int))) (m : x ∈ o) : EvD K M (tBT (rIndexT K) (tVar i) (tCons te tNil)) σ H (.int ((idxN o x : Nat) : Int)) := fun H1 s Q q => by
  refine ⟨.ref a, ho, ⟨a, ob, u, rfl, s _ _ hf, hc, hd⟩, args1 ?_⟩
  refine hx H1 s _ fun y H3 s3 hy => ?_
  cases hy.intAt
  obtain ⟨a', xs', e', hs', ha'⟩ := (Dm.s hv (s.trans s3)).tupAt
  cases e'
  cases nats_dps ha'
  exact ⟨a, o, x, idxN o x, rfl, rfl, hs', idx_at m, fun k' hk e => idx_lo hk e rfl, q _ H3 s3 (.int _)⟩
theorem evd_ltI {i j : Int} (ha : EvD K M ta σ H (.int i)) (hb : EvD K M tb σ H (.int j)) : EvD K M (tOp (rI0 fun i j => .bl (decide (i < j))) ta tb) σ H (.bool (decide (i < j))) := fun H1 s Q q =>
  ha H1 s _ fun v H2 s2 hv => hb H2 (s.trans s2) _ fun u H3 s3 hu => by
    cases hv.intAt
    cases hu.intAt
    exact ⟨_, _, rfl, rfl, q _ H3 (s2.trans s3) (.bl _)⟩
end
end KZ

namespace KZ
open PySem PySem.Spec PyProof.Rows L2
def rPickedT (ds : List PyData) (d : PyData) : Prop := ∃ (j : Jud) (n m : Nat) (o : List Nat), ds = [judD j, .tuple (natD o)] ∧ JudOk n m j ∧ (∀ a ∈ o, a < n) ∧ o.length < 100 ∧ m < 100 ∧ n < 100 ∧ d = .tuple ((j.map tabD).map (tabG o))
section
variable {K : PySem.W.Frag} {M : List Addr} {σ : L2.St} {H : Hp} {te tb : TE} {ds : List PyData}
theorem evd_lcT {vs : List Nat} {j : Nat} (g : PyData → PyData) (n : Kn M H) (h : EvD K M te σ H (.tuple ds)) (hz : ds.length < 100000) (hw : ∀ x, wipe ((wipe σ vs).set j (some x)) vs = wipe σ vs)
    (he : ∀ (Dl : Addr), H Dl = none → ∀ (d : PyData) (x : V) (H1 : Hp), Sub H H1 → Kn (Dl :: M) H1 → d ∈ ds → Dm K (Dl :: M) H1 x d → EvD K (Dl :: M) tb ((wipe σ vs).set j (some x)) H1 (g d)) : EvNL K M (tLc (iTup K te) (gName j) tYes tb vs) σ H (ds.map g) := by
  have z := evd_lcFT (K := K) (M := M) (σ := σ) (H := H) (te := te) (tb := tb) (tt := tYes) (vs := vs) (j := j) (fun _ => true) g n h hz hw (fun _ _ _ _ _ _ _ _ _ => evb_yes) (fun Dl hD d x H1 s1 n1 hd _ hx => he Dl hD d x H1 s1 n1 hd hx)
  rw [filter_yes] at z
  exact z
end
section
variable {P : Program} {w : World} {K : PySem.W.Frag} {mg : Str → Option Value} {base : Heap}
theorem ok_pickedT {f : Addr} {fd : FuncData} (F : Fun K "_picked" "_picked" sPicked f fd) (T : Txt mg) : FnOk P w K mg base CX0 1 f fd ["judge", "kinds"] (spPure K rPickedT) := by
  refine F.ok scPicked (fun vs H Q E h => pure_len (fun ds d r => ?_) h) (fun cdv A outer s H vs Q E hr h => ?_)
  · obtain ⟨_, _, _, _, rfl, _⟩ := r
    rfl
  obtain ⟨M, ds, d, kn, hd, ⟨j, n, m, o, rfl, ok, hin, ol, ml, nl, rfl⟩, q⟩ := h
  obtain ⟨vj, vo, rfl, hj, ho⟩ := Dms.two_at hd
  refine ⟨_, pss_one (ps_ret (pe_callTy call_tuple_of (by rfl) T.tuple bootTuple (pa_cons
    (pe_lc (own := [("table", 2)]) (g := gName 2) (tt := tYes) (te := tcP K (tLc (iTup K (tVar 1)) (gName 3) tYes (tcP K (tLc (iTup K (tVar 1)) (gName 4) tYes (tOp (rIxT K) (tOp (rIxT K) (tVar 2) (tVar 3)) (tVar 4)) [4])) [3])) rfl scPicked.nd (pi_tup (pv 0)) (blkOk_by (N := NP) (sc := defScope sPicked) (by decide +kernel)) (fun _ _ _ _ _ => pg_name (i := 2) scPicked.nd rfl (Or.inr rfl)) (fun _ _ _ _ _ => pts_nil)
      (fun _ _ _ _ _ => pe_callTy call_tuple_of (by rfl) T.tuple bootTuple (pa_cons
        (pe_lc (own := [("asker", 3)]) (g := gName 3) (tt := tYes) rfl scPicked.nd (pi_tup (pv 1)) (blkOk_by (N := NP) (sc := scA) (by decide +kernel)) (fun _ _ _ _ _ => pg_name (i := 3) scPicked.nd rfl (Or.inr rfl)) (fun _ _ _ _ _ => pts_nil)
          (fun _ _ _ _ _ => pe_callTy call_tuple_of (by rfl) T.tuple bootTuple (pa_cons
            (pe_lc (own := [("holder", 4)]) (g := gName 4) (tt := tYes) rfl scPicked.nd (pi_tup (pv 1)) (blkOk_by (N := NP) (sc := scB) (by decide +kernel)) (fun _ _ _ _ _ => pg_name (i := 4) scPicked.nd rfl (Or.inl rfl)) (fun _ _ _ _ _ => pts_nil)
              (fun _ _ _ _ _ => pe_ix ix_tup (pe_ix ix_tup (pv 2) (pv 3) (fun _ _ => rfl)) (pv 4) (fun _ _ => rfl))) pa_nil))) pa_nil))) pa_nil))), ?_⟩
  have jl := ok.1
  refine evd_ret (K := K) (M := M) (d := .tuple ((j.map tabD).map (tabG o))) (evd_tcP kn (EvNL.toD kn ?_)) fun y H1 s1 hy => q y H1 s1 hy
  rw [← filter_yes (j.map tabD)]
  refine evd_lcFT (fun _ => true) (tabG o) kn (evd_var (i := 0) rfl hj) (by rw [List.length_map]; omega) (by intro z; rfl) (fun _ _ _ _ _ _ _ _ _ => evb_yes) ?_
  intro D1 hD1 dt xt H1 s1 n1 hdt _ hxt
  obtain ⟨t, ht, rfl⟩ := List.mem_map.mp hdt
  have tok := ok.2 t ht
  have ho1 : Dm K (D1 :: M) H1 vo (.tuple (natD o)) := Dm.s (Dm.more ho hD1) s1
  have ol1 : (natD o).length < 100000 := by
    unfold natD
    rw [List.length_map]
    omega
  refine evd_tcP n1 (EvNL.toD n1 ?_)
  rw [← natD_map o (fun a => rowG o (tabD t) a)]
  refine evd_lcT (fun e => rowG o (tabD t) (unN e)) n1 (evd_var (i := 1) rfl ho1) ol1 (by intro z; rfl) ?_
  intro D2 hD2 da xa H2 s2 n2 hda hxa
  obtain ⟨a, ha, rfl⟩ := nat_in hda
  have ho2 : Dm K (D2 :: D1 :: M) H2 vo (.tuple (natD o)) := Dm.s (Dm.more ho1 hD2) s2
  have ht2 : Dm K (D2 :: D1 :: M) H2 xt (tabD t) := Dm.s (Dm.more hxt hD2) s2
  have al := hin a ha
  have er : t[a]? = some (t.getD a []) := by
    rw [List.getD_eq_getElem?_getD, List.getElem?_eq_getElem (by rw [tok.1]; exact al)]
    rfl
  have rok := tok.2 _ (List.mem_of_getElem? er)
  refine evd_tcP n2 (EvNL.toD n2 ?_)
  rw [← natD_map o (fun h => itD (itD (tabD t) (unN (.int (a : Int)))) h)]
  refine evd_lcT (fun e => itD (itD (tabD t) (unN (.int (a : Int)))) (unN e)) n2 (evd_var (i := 1) rfl ho2) ol1 (by intro z; rfl) ?_
  intro D3 hD3 dh xh H3 s3 n3 hdh hxh
  obtain ⟨b, hb, rfl⟩ := nat_in hdh
  have ht3 : Dm K (D3 :: D2 :: D1 :: M) H3 xt (tabD t) := Dm.s (Dm.more ht2 hD3) s3
  have ha3 : Dm K (D3 :: D2 :: D1 :: M) H3 xa (.int (a : Int)) := Dm.s (Dm.more hxa hD3) s3
  have bl := hin b hb
  have ec : (t.getD a [])[b]? = some ((t.getD a []).getD b ("", "")) := by
    have hb : b < (t.getD a []).length := by
      rw [rok.1]
      exact bl
    generalize t.getD a [] = row at hb
    rw [List.getD_eq_getElem?_getD, List.getElem?_eq_getElem hb]
    rfl
  have e1 : itD (tabD t) (unN (.int (a : Int))) = rowD (t.getD a []) := itD_at (h := ((a : Int)).toNat) (by rw [Int.toNat_natCast, List.getElem?_map, er]; rfl)
  have e2 : itD (rowD (t.getD a [])) (unN (.int (b : Int))) = cpD ((t.getD a []).getD b ("", "")) := itD_at (h := ((b : Int)).toNat) (by rw [Int.toNat_natCast, List.getElem?_map, ec]; rfl)
  show EvD K _ _ _ _ (itD (itD (tabD t) (unN (.int (a : Int)))) (unN (.int (b : Int))))
  rw [e1, e2]
  exact evd_ixT (evd_ixT (evd_var (i := 2) rfl ht3) (evd_var (i := 3) rfl ha3) (Int.natCast_nonneg _) (by rw [Int.toNat_natCast, List.getElem?_map, er]; rfl)) (evd_var (i := 4) rfl hxh) (Int.natCast_nonneg _) (by rw [Int.toNat_natCast, List.getElem?_map, ec]; rfl)
end
end KZ

namespace KZ
open PySem PySem.Spec PyProof.Rows L2
section
variable {K : PySem.W.Frag} {M : List Addr} {σ : L2.St} {H : Hp} {te t1 t2 : TE} {g : TG} {ta tb u : TS} {D : Ends} {ds : List PyData}
/-- for .. in range(n) -/
theorem for_len {n : Nat} (h : EvD K M te σ H (.int (n : Int))) (hn : n < 100000) (Pv : Nat → L2.St → Hp → Prop) (h0 : ∀ H1, Sub H H1 → Pv 0 σ H1) (hs : ∀ (i : Nat) σ H, i < n → Pv i σ H → g (.int (i : Int)) σ H fun σ2 H2 => tb { D with nx := Pv (i + 1), ct := Pv (i + 1), bk := D.nx } σ2 H2)
    (hd : ∀ σ H, Pv n σ H → D.nx σ H) : tFor (iRng1 (tCons te tNil)) g tb D σ H :=
  h H (Sub.refl _) _ fun v H1 s1 hv => by
    cases hv.intAt
    refine ⟨(n : Int), rfl, by omega, by omega, for_range (lo := 0) (n := ((n : Int)).toNat) Pv (h0 H1 s1) (fun i σ2 H2 hi p => ?_) (fun σ2 H2 p => ?_)⟩
    · rw [Int.zero_add]
      exact hs i σ2 H2 (by omega) p
    · rw [Int.toNat_natCast] at p
      exact hd σ2 H2 p
theorem sifs {c : TT} {t u w : TS} {D : Ends} {σ : L2.St} {H : Hp} (h : tIfS c t u { D with nx := w D } σ H) : tSeq (tIfS c t u) w D σ H := h
end
/-! kinds in another order -/
/-- a kind would rise to one that is ahead of it -/
def lateP (ks : List Kd) (o : List Nat) (k : Nat) : Bool := decide (((idxN o (nxt ks k) : Nat) : Int) < ((idxN o k : Nat) : Int))
def ordKd (ks : List Kd) (o : List Nat) (k : Nat) : Kd := ((kdAt ks k).1, (kdAt ks k).2.1, ((idxN o (nxt ks k) : Nat) : Int))
def ordR (CL : Addr) (ks : List Kd) (ss : List Str) (j : Jud) (o : List Nat) : Res :=
  match (List.range ks.length).find? (lateP ks o) with
  | some k => .one CL "kind" (.int (k : Int))
  | none => .told (.tuple [.tuple ((o.map (ordKd ks o)).map kdD), .tuple (ss.map PyData.str), .tuple ((j.map tabD).map (tabG o))])
structure OrdOk (n : Nat) (o : List Nat) : Prop where
  all : ∀ k, k < n → k ∈ o
  low : ∀ k ∈ o, k < n
  few : o.length < 100
def ResQ (K : PySem.W.Frag) (M : List Addr) (r : Res) (H : Hp) (Q : VK) (E : XK) : Prop := match r with
  | .told d => ∀ y H', Sub H H' → Dm K M H' y d → Q y H'
  | .one C f d => ∀ a v H', Sub H H' → Dm K M H' v d → H' a = some (.xd [(f, v)]) → E (.ref C) (some a) H'
  | .few C => ∀ H', Sub H H' → E (.ref C) none H'
def spOrd (K : PySem.W.Frag) (CL : Addr) : Sp := fun vs H Q E => ∃ (M : List Addr) (vh : V) (a : Addr) (ob : Obj) (u : HO) (ks : List Kd) (ss : List Str) (j : Jud) (o : List Nat), vs = [vh, .ref a] ∧ Kn M H ∧ Dm K M H vh (hD ks ss j) ∧ Dm K M H (.ref a) (.tuple (natD o)) ∧
  H a = some (.frz ob u) ∧ ob.cls = .type "tuple" ∧ ob.dict = none ∧ KdsOk ks ∧ JudOk ks.length ss.length j ∧ ks.length < 10 ∧ ss.length < 10 ∧ OrdOk ks.length o ∧ ResQ K M (ordR CL ks ss j o) H Q E
/-- from a number as data to a kind as data -/
def ordG (ks : List Kd) (o : List Nat) : PyData → PyData
  | .int i => kdD (ordKd ks o i.toNat)
  | _ => .none
theorem ordG_map (ks : List Kd) (o : List Nat) : ∀ l : List Nat, (natD l).map (ordG ks o) = (l.map (ordKd ks o)).map kdD
  | [] => rfl
  | a :: l => by
    have e : ordG ks o (.int (a : Int)) = kdD (ordKd ks o a) := by
      show kdD (ordKd ks o ((a : Int)).toNat) = _
      rw [Int.toNat_natCast]
    show ordG ks o (.int (a : Int)) :: (natD l).map (ordG ks o) = _
    rw [e, ordG_map ks o l]
    rfl
section
variable {P : Program} {w : World} {K : PySem.W.Frag} {mg : Str → Option Value} {base : Heap}
abbrev sOrd : Stmt := topS 9
abbrev NOr : List Str := ["house", "order", "kinds", "sorts", "judge", "kind", "fresh", "one"]
theorem scOrd : FnScope NOr ["house", "order"] (defScope sOrd) := ⟨rfl, rfl, rfl, by decide +kernel, rfl, by decide +kernel, by decide +kernel⟩
theorem ok_Ord {f CL iL fP : Addr} {fd fdP : FuncData} (F : Fun K "reordered" "reordered" sOrd f fd) (T : Txt mg) (EL : Mer P w K mg base "NotLater" "kind" CL iL) (CP : Cal P w K mg base "_picked" 1 ["judge", "kinds"] (spPure K rPickedT) fP fdP) : FnOk P w K mg base (L2.CX P w) 3 f fd ["house", "order"] (spOrd K CL) := by
  refine F.okX scOrd (fun vs H Q E h => ?_) (fun cdv A outer s H vs Q E hr h => ?_)
  · obtain ⟨_, _, _, _, _, _, _, _, _, rfl, _⟩ := h
    rfl
  obtain ⟨M, vh, a, ob, u, ks, ss, j, o, rfl, kn, hh, ho, hf, hc, hd, kok, ok, kl, sl, oo, q⟩ := h
  have hr1 : Room 1 _ := hr.mono (by decide)
  refine ⟨_, pss_cons (ps_asg (pv 0) (pg_tup rfl (pgs_cons (pg_name (i := 2) scOrd.nd rfl (Or.inr rfl)) (pgs_cons (pg_name (i := 3) scOrd.nd rfl (Or.inl rfl)) (pgs_cons (pg_name (i := 4) scOrd.nd rfl (Or.inl rfl)) pgs_nil)))))
    (pss_cons (ps_for (passes_of rfl) rfl (pi_range1 rfl T.range (pa_cons (pe_callB call_len_seq (by rfl) T.len PySem.boot_len (pa_cons (pv 2) pa_nil)) pa_nil)) (pg_name (i := 5) scOrd.nd rfl (Or.inl rfl))
      (pss_one (ps_if (pt_cmpR op_lt (pe_bt PySem.F.slot_tuple_index PySem.F.type_tuple_index mt_indexT (pv 1) (pa_cons (pe_ix ix_tup (pe_ix ix_tup (pv 2) (pv 5) (fun _ _ => rfl)) pe_int (fun _ _ => rfl)) pa_nil)) (pe_bt PySem.F.slot_tuple_index PySem.F.type_tuple_index mt_indexT (pv 1) (pa_cons (pv 5) pa_nil)) (nomark _))
        (pss_one (ps_raise1 (W := fun cls d _ H => E cls d H) rfl EL hr (takes_of rfl rfl rfl rfl) (pv 5))) pss_nil)))
    (pss_cons (ps_setLc (i := 6) (own := [("one", 7)]) (g := gName 7) (tt := tYes) (te := tTup (tCons (tOp (rIxT K) (tOp (rIxT K) (tVar 2) (tVar 7)) (tC (.int 0))) (tCons (tOp (rIxT K) (tOp (rIxT K) (tVar 2) (tVar 7)) (tC (.int 1))) (tCons (tBT (rIndexT K) (tVar 1) (tCons (tOp (rIxT K) (tOp (rIxT K) (tVar 2) (tVar 7)) (tC (.int 2))) tNil)) tNil)))) rfl scOrd.nd rfl rfl rfl (pi_tup (pv 1)) (blkOk_by (N := NOr) (sc := defScope sOrd) (by decide +kernel)) (fun _ _ _ _ _ => pg_name (i := 7) scOrd.nd rfl (Or.inl rfl)) (fun _ _ _ _ _ => pts_nil)
        (fun _ _ _ _ _ => pe_tup (pa_cons (pe_ix ix_tup (pe_ix ix_tup (pv 2) (pv 7) (fun _ _ => rfl)) pe_int (fun _ _ => rfl)) (pa_cons (pe_ix ix_tup (pe_ix ix_tup (pv 2) (pv 7) (fun _ _ => rfl)) pe_int (fun _ _ => rfl))
          (pa_cons (pe_bt PySem.F.slot_tuple_index PySem.F.type_tuple_index mt_indexT (pv 1) (pa_cons (pe_ix ix_tup (pe_ix ix_tup (pv 2) (pv 7) (fun _ _ => rfl)) pe_int (fun _ _ => rfl)) pa_nil)) pa_nil)))))
    (pss_one (ps_ret (pe_tup (pa_cons (pe_callTy call_tuple_of (by rfl) T.tuple bootTuple (pa_cons (pv 6) pa_nil)) (pa_cons (pv 3) (pa_cons (pcl CP hr1 (pa_cons (pv 4) (pa_cons (pv 1) pa_nil))) pa_nil)))))))), ?_⟩
  obtain ⟨ah, v0, v1, v2, rfl, hs, h0, h1, h2⟩ := hh.threeT
  refine ⟨_, rfl, ah, _, rfl, hs, rfl, _, _, rfl, _, _, rfl, _, _, rfl, rfl, ?_⟩
  have nx : ∀ k, k < ks.length → nxt ks k ∈ o := fun k hk => oo.all _ (nxt_ok kok hk).2.1
  have ekd : ∀ k, k < ks.length → (ks.map kdD)[((k : Int)).toNat]? = some (kdD (kdAt ks k)) := fun k hk => by
    rw [Int.toNat_natCast, List.getElem?_map, kd_at hk]
    rfl
  refine sfor (for_len (K := K) (M := M) (σ := [some (.ref ah), some (.ref a), some v0, some v1, some v2, none, none, none]) (n := ks.length) (by
      have t := evd_lenE (K := K) (M := M) (te := tVar 2) (σ := [some (.ref ah), some (.ref a), some v0, some v1, some v2, none, none, none]) (H := H) (rs := ks.map kdD) (evd_var rfl h0)
      rw [List.length_map] at t
      exact t) (by omega)
    (fun i σ H' => ∃ (u5 : Option V), σ = [some (.ref ah), some (.ref a), some v0, some v1, some v2, u5, none, none] ∧ Sub H H' ∧ ∀ k, k < i → lateP ks o k = false)
    (fun H' s' => ⟨none, rfl, s', fun k hk => absurd hk (Nat.not_lt_zero k)⟩) ?_ ?_)
  · rintro i σ H1 hi ⟨u5, rfl, s1, none_⟩
    refine gname_of ?_
    have e5 {H' : Hp} : EvD K M (tVar 5) ([some (.ref ah), some (.ref a), some v0, some v1, some v2, some (.int (i : Int)), none, none] : L2.St) H' (.int (i : Int)) := evd_var rfl (.int _)
    have e2 : EvD K M (tVar 2) ([some (.ref ah), some (.ref a), some v0, some v1, some v2, some (.int (i : Int)), none, none] : L2.St) H1 (.tuple (ks.map kdD)) := evd_var rfl (Dm.s h0 s1)
    have er : EvD K M (tOp (rIxT K) (tOp (rIxT K) (tVar 2) (tVar 5)) (tC (.int 2))) ([some (.ref ah), some (.ref a), some v0, some v1, some v2, some (.int (i : Int)), none, none] : L2.St) H1 (.int ((nxt ks i : Nat) : Int)) := by
      have z := evd_ixT (evd_ixT e2 e5 (Int.natCast_nonneg _) (ekd i hi)) (evd_int (i := 2)) (by decide) rfl
      rw [(nxt_ok kok hi).2.2] at z
      exact z
    refine evb_test (evd_ltI (evd_indexT (i := 1) (a := a) (o := o) rfl (s1 _ _ hf) hc hd (Dm.s ho s1) er (nx i hi)) (evd_indexT (i := 1) (a := a) (o := o) rfl (s1 _ _ hf) hc hd (Dm.s ho s1) e5 (oo.all i hi))) H1 (Sub.refl _) _ fun H2 s2 => ?_
    by_cases c : lateP ks o i = true
    · rw [if_pos (show decide (((idxN o (nxt ks i) : Nat) : Int) < ((idxN o i : Nat) : Int)) = true from c)]
      have el : (List.range ks.length).find? (lateP ks o) = some i := List.find?_range_eq_some.mpr ⟨c, List.mem_range.mpr hi, fun k hk => by rw [none_ k hk]; rfl⟩
      unfold ordR at q
      rw [el] at q
      exact e5 H2 (Sub.refl _) _ fun v H3 s3 hv => made1_of EL.r fun d H4 s4 e => q d v H4 (((s1.trans s2).trans s3).trans s4) (Dm.s hv s4) e
    · have c' : lateP ks o i = false := by
        cases z : lateP ks o i with
        | true => exact absurd z c
        | false => rfl
      rw [if_neg (show ¬ decide (((idxN o (nxt ks i) : Nat) : Int) < ((idxN o i : Nat) : Int)) = true from c)]
      refine ⟨_, rfl, s1.trans s2, fun k hk => ?_⟩
      rcases Nat.lt_succ_iff_lt_or_eq.mp hk with z | z
      · exact none_ k z
      · rw [z]
        exact c'
  · rintro σ H1 ⟨u5, rfl, s1, none_⟩
    dsimp only
    have el : (List.range ks.length).find? (lateP ks o) = none := List.find?_range_eq_none.mpr fun k hk => by rw [none_ k hk]; rfl
    unfold ordR at q
    rw [el] at q
    have n1 := kn.sub s1
    have efr := evd_lcT (K := K) (M := M) (H := H1) (σ := [some (.ref ah), some (.ref a), some v0, some v1, some v2, u5, none, none]) (te := tVar 1) (tb := tTup (tCons (tOp (rIxT K) (tOp (rIxT K) (tVar 2) (tVar 7)) (tC (.int 0))) (tCons (tOp (rIxT K) (tOp (rIxT K) (tVar 2) (tVar 7)) (tC (.int 1))) (tCons (tBT (rIndexT K) (tVar 1) (tCons (tOp (rIxT K) (tOp (rIxT K) (tVar 2) (tVar 7)) (tC (.int 2))) tNil)) tNil))))
      (vs := [7]) (j := 7) (ordG ks o) n1 (evd_var (i := 1) rfl (Dm.s ho s1)) (by have := oo.few; show (o.map _).length < _; rw [List.length_map]; omega) (by intro z; rfl) (by
        intro Dl hD d x H3 s3 n3 hd3 hx
        obtain ⟨one, hone, rfl⟩ := List.mem_map.mp (show d ∈ o.map fun k : Nat => PyData.int (k : Int) from hd3)
        cases hx.intAt
        have lo := oo.low one hone
        have s13 := s1.trans s3
        have up : ∀ {v : V} {d : PyData}, Dm K M H1 v d → Dm K (Dl :: M) H3 v d := fun hv => Dm.s (Dm.more hv hD) s3
        have e2 : EvD K (Dl :: M) (tVar 2) ([some (.ref ah), some (.ref a), some v0, some v1, some v2, u5, none, some (V.int (one : Int))] : L2.St) H3 (.tuple (ks.map kdD)) := evd_var rfl (up (Dm.s h0 s1))
        have e7 : EvD K (Dl :: M) (tVar 7) ([some (.ref ah), some (.ref a), some v0, some v1, some v2, u5, none, some (V.int (one : Int))] : L2.St) H3 (.int (one : Int)) := evd_var rfl (.int _)
        have er : EvD K (Dl :: M) (tOp (rIxT K) (tOp (rIxT K) (tVar 2) (tVar 7)) (tC (.int 2))) ([some (.ref ah), some (.ref a), some v0, some v1, some v2, u5, none, some (V.int (one : Int))] : L2.St) H3 (.int ((nxt ks one : Nat) : Int)) := by
          have z := evd_ixT (evd_ixT e2 e7 (Int.natCast_nonneg _) (ekd one lo)) (evd_int (i := 2)) (by decide) rfl
          rw [(nxt_ok kok lo).2.2] at z
          exact z
        have eg : ordG ks o (.int (one : Int)) = .tuple [.str (kdAt ks one).1, .bool (kdAt ks one).2.1, .int ((idxN o (nxt ks one) : Nat) : Int)] := by
          show kdD (ordKd ks o ((one : Int)).toNat) = _
          rw [Int.toNat_natCast]
          rfl
        rw [eg]
        exact evd_tup n3 (evds_cons (evd_ixT (evd_ixT e2 e7 (Int.natCast_nonneg _) (ekd one lo)) (evd_int (i := 0)) (by decide) rfl) (evds_cons (evd_ixT (evd_ixT e2 e7 (Int.natCast_nonneg _) (ekd one lo)) (evd_int (i := 1)) (by decide) rfl) (evds_cons (evd_indexT (i := 1) (a := a) (o := o) rfl (s13 _ _ hf) hc hd (up (Dm.s ho s1)) er (nx one lo)) evds_nil))) lt3)
    rw [ordG_map] at efr
    refine sset_of ?_
    refine efr H1 (Sub.refl _) _ fun pf xf H3 s3 hpf hpf3 hxf => ?_
    have s13 := s1.trans s3
    have n3 := kn.sub s13
    have hf3 : Dm K M H3 (.ref pf) (.list ((o.map (ordKd ks o)).map kdD)) := Dm.lstOf (n1.out hpf) hpf3 hxf
    have ef : EvD K M (tVar 6) ([some (.ref ah), some (.ref a), some v0, some v1, some v2, u5, some (.ref pf), none] : L2.St) H3 (.list ((o.map (ordKd ks o)).map kdD)) := evd_var rfl hf3
    have es : EvD K M (tVar 3) ([some (.ref ah), some (.ref a), some v0, some v1, some v2, u5, some (.ref pf), none] : L2.St) H3 (.tuple (ss.map PyData.str)) := evd_var rfl (Dm.s h1 s13)
    have ej : EvD K M (tVar 4) ([some (.ref ah), some (.ref a), some v0, some v1, some v2, u5, some (.ref pf), none] : L2.St) H3 (.tuple (j.map tabD)) := evd_var rfl (Dm.s h2 s13)
    have eo : EvD K M (tVar 1) ([some (.ref ah), some (.ref a), some v0, some v1, some v2, u5, some (.ref pf), none] : L2.St) H3 (.tuple (natD o)) := evd_var rfl (Dm.s ho s13)
    have ep : EvD K M _ ([some (.ref ah), some (.ref a), some v0, some v1, some v2, u5, some (.ref pf), none] : L2.St) H3 (.tuple ((j.map tabD).map (tabG o))) :=
      evd_pure (rel := rPickedT) (E := E0) n3 (evds_cons ej (evds_cons eo evds_nil)) ⟨j, ks.length, ss.length, o, rfl, ok, oo.low, oo.few, by omega, by omega, rfl⟩
    exact evd_ret (K := K) (M := M) (evd_tup n3 (evds_cons (evd_tcP n3 ef) (evds_cons es (evds_cons ep evds_nil))) lt3) fun y H7 s7 hy => q y H7 (s13.trans s7) hy
end
end KZ

namespace KZ
open PySem PySem.Spec PyProof.Rows L2 LamX
/-! where tables grow: data stays -/
theorem xn_rd {H H' : Hp} (k : ExtN H H') {a : Addr} {u : HO} (hu : ∀ ps, u ≠ .tbl ps) (h : Rd H a u) : Rd H' a u :=
  h.elim (fun h => Or.inl (k _ _ h hu)) fun ⟨o, h⟩ => Or.inr ⟨o, k _ _ h fun ps z => (nomatch z)⟩
theorem xn_sqL {K : PySem.W.Frag} {H H' : Hp} (k : ExtN H H') {a : Addr} {xs : List V} (h : SqL K H a xs) : SqL K H' a xs :=
  h.elim (fun h => Or.inl (xn_rd k (fun ps z => (nomatch z)) h)) Or.inr
theorem xn_sqT {K : PySem.W.Frag} {H H' : Hp} (k : ExtN H H') {a : Addr} {xs : List V} (h : SqT K H a xs) : SqT K H' a xs :=
  h.elim (fun h => Or.inl (xn_rd k (fun ps z => (nomatch z)) h)) Or.inr
mutual
theorem xn_dp {K : PySem.W.Frag} {H H' : Hp} (k : ExtN H H') : ∀ (d : PyData) (v : V), Dp K H v d → Dp K H' v d
  | .none, _, h => by
    cases h
    exact .non
  | .bool b, _, h => by
    cases h
    exact .bl b
  | .int i, _, h => by
    cases h
    exact .int i
  | .str x, _, h => by
    cases h
    exact .str x
  | .list ds, _, h => by
    cases h with
    | lst hs ha => exact .lst (xn_sqL k hs) (xn_dps k ds _ ha)
  | .tuple ds, _, h => by
    cases h with
    | tup hs ha => exact .tup (xn_sqT k hs) (xn_dps k ds _ ha)
  | .dict _, _, h => by cases h
theorem xn_dps {K : PySem.W.Frag} {H H' : Hp} (k : ExtN H H') : ∀ (ds : List PyData) (vs : List V), DpAll K H vs ds → DpAll K H' vs ds
  | [], _, h => by
    cases h
    exact .nil
  | d :: ds, _, h => by
    cases h with
    | cons h1 h2 => exact .cons (xn_dp k d _ h1) (xn_dps k ds _ h2)
end
theorem xn_er {M : List Addr} {H H' : Hp} (k : ExtN H H') : ExtN (er M H) (er M H') := fun a o h n => by
  by_cases z : a ∈ M
  · unfold er at h
    rw [if_pos z] at h
    cases h
  · rw [er_in z] at h ⊢
    exact k a o h n
/-- a step beside the bag and the tables -/
structure Wk (b l : Addr) (T : List (Addr × Str)) (H H' : Hp) : Prop where
  x : ExtN (er [b] H) (er [b] H')
  bag : Bag b l H'
  tabs : Tabs T H'
theorem Wk.trans {b l : Addr} {T : List (Addr × Str)} {A B C : Hp} (p : Wk b l T A B) (q : Wk b l T B C) : Wk b l T A C := ⟨p.x.trans q.x, q.bag, q.tabs⟩
theorem Wk.refl {b l : Addr} {T : List (Addr × Str)} {H : Hp} (g : Bag b l H) (t : Tabs T H) : Wk b l T H H := ⟨ExtN.refl _, g, t⟩
theorem Wk.sub {b l : Addr} {T : List (Addr × Str)} {H H' : Hp} (g : Bag b l H) (t : Tabs T H) (s : Sub H H') : Wk b l T H H' := ⟨xn_er (ExtN.of s), g.kp s, t.ext s⟩
theorem Wk.fr {b l : Addr} {T : List (Addr × Str)} {H H' : Hp} (g : Bag b l H) (t : Tabs T H) (f : Fr b l H H') : Wk b l T H H' := ⟨ExtN.of f.k.er, f.bag, fun p hp => by
  obtain ⟨ps, h1, h2, h3⟩ := t p hp
  have nb : ∀ {a : Addr} {o : HO}, H a = some o → (∀ xs, o ≠ .lst xs) → a ∉ [b] := fun {a o} e n z => by
    obtain ⟨x, y, i, cs, hb, _⟩ := g
    rw [List.mem_singleton.mp z, hb] at e
    exact n _ (Option.some.inj e).symm
  refine ⟨ps, f.k _ _ (nb h1 fun xs z => (nomatch z)) h1, h2, fun pos cv hc => ?_⟩
  obtain ⟨c, e1, e2⟩ := h3 pos cv hc
  exact ⟨c, e1, f.k _ _ (nb e2 fun xs z => (nomatch z)) e2⟩⟩
theorem bag_xn {b l : Addr} {H H' : Hp} (g : Bag b l H) (k : ExtN H H') : Bag b l H' := by
  obtain ⟨x, y, i, cs, h1, h2, h3, h4⟩ := g
  exact ⟨x, y, i, cs, k _ _ h1 (fun ps z => (nomatch z)), h2, k _ _ h3 (fun ps z => (nomatch z)), h4⟩
theorem Wk.xn {b l : Addr} {T : List (Addr × Str)} {H H' : Hp} (g : Bag b l H) (k : ExtN H H') (t : Tabs T H') : Wk b l T H H' := ⟨xn_er k, bag_xn g k, t⟩
theorem Dm.w {K : PySem.W.Frag} {b l : Addr} {T : List (Addr × Str)} {H H' : Hp} {v : V} {d : PyData} (h : Dm K [b] H v d) (w : Wk b l T H H') : Dm K [b] H' v d := xn_dp w.x _ _ h
theorem Dms.w {K : PySem.W.Frag} {b l : Addr} {T : List (Addr × Str)} {H H' : Hp} {v : List V} {d : List PyData} (h : Dms K [b] H v d) (w : Wk b l T H H') : Dms K [b] H' v d := xn_dps w.x _ _ h
theorem Bag.cb {b l : Addr} {H : Hp} (g : Bag b l H) : Cb [b] b l H := ⟨g, List.mem_cons_self, fun a m => by
  rw [List.mem_singleton.mp m]
  exact g.at⟩
/-- what an own error that is caught is told as -/
def refD : Res → PyData
  | .told d => .tuple [.str "told", d]
  | .one _ f d => .tuple [.str "later", d]
  | .few _ => .tuple [.str "few"]
/-! _law_refused -/
structure Refs (K : PySem.W.Frag) (mg : Str → Option Value) (CK CS CT CM CF CL iK iS iT iM iL : Addr) : Prop where
  nk : Oer K mg "NoKind" "name" CK iK
  ns : Oer K mg "NoSort" "name" CS iS
  tk : Oer K mg "Taken" "name" CT iT
  tm : Oer K mg "TooMany" "most" CM iM
  tf : Oer0 K mg "TooFew" CF
  nl : Oer K mg "NotLater" "kind" CL iL
  l1 : PySem.W.exmOne K (.ref CL) (.ref CK) = some false
  l2 : PySem.W.exmOne K (.ref CL) (.ref CS) = some false
  l3 : PySem.W.exmOne K (.ref CL) (.ref CT) = some false
  l4 : PySem.W.exmOne K (.ref CL) (.ref CM) = some false
  l5 : PySem.W.exmOne K (.ref CL) (.ref CF) = some false
  l6 : PySem.W.exmOne K (.ref CL) (.ref CL) = some true
def TupQ (xs : List V) (H : Hp) (Q : VK) : Prop := xs.length ≤ sizeLine ∧ ∀ p, H p = none → Q (.ref p) (upd H p (.tup xs))
def CaughtR (CL : Addr) (Q : VK) : XK := fun cls d H => cls = .ref CL ∧ ∃ (dd : Addr) (v : V), d = some dd ∧ H dd = some (.xd [(("kind" : Str), v)]) ∧ TupQ [.str "later", v] H Q
def TRef (CL : Addr) : (XK → Hp → VK → Prop) → Hp → VK → Prop := fun tl H Q => tl (CaughtR CL Q) H fun v H' => TupQ [.str "told", v] H' Q
theorem miss {K : PySem.W.Frag} {Wout : WX} {D : Ends} {q : Clause} {r : List Clause} {cls : Value} {d : Option Addr} {σ : L2.St} {H : Hp} (e : PySem.W.exmOne K cls q.c = some false) (h : wClauses K Wout D r cls d σ H) : wClauses K Wout D (q :: r) cls d σ H :=
  Exists.intro false (And.intro e (And.intro (fun z => Bool.noConfusion z) fun _ => h))
theorem hits {K : PySem.W.Frag} {Wout : WX} {D : Ends} {q : Clause} {r : List Clause} {cls : Value} {d : Option Addr} {σ : L2.St} {H : Hp} (e : PySem.W.exmOne K cls q.c = some true) (h : ∀ a, H a = none → q.run a cls d D σ H) : wClauses K Wout D (q :: r) cls d σ H :=
  Exists.intro true (And.intro e (And.intro (fun _ => h) fun z => Bool.noConfusion z))
abbrev sRef : Stmt := topS 26
theorem scRef : FnScope ["act", "e"] ["act"] (defScope sRef) := ⟨rfl, rfl, rfl, by decide +kernel, rfl, by decide +kernel, by decide +kernel⟩
theorem ref_gives {X : Cx} {CK CS CT CM CF CL iK iS iT iM iL g : Addr} {cdg : Value} {q : Str} (R : Refs X.K X.mg CK CS CT CM CF CL iK iS iT iM iL) : GivesTo X ["act", "e"] "_law_refused" (defScope sRef) g cdg (defBody sRef) "act" q (TRef CL) := by
  intro f c' s H Q tl act hc h
  refine ⟨_, pss_one (ps_try_named (X := (cxOf C8.CX0 X.prog X.w X.K X.mg X.base ["act", "e"] "_law_refused" (defScope sRef) g cdg X.A X.stack s H C8.E0).nox)
      (tb := fun W D σ H => ∃ Ech : XK, (∀ cls d σ' H', Ech cls d H' → W cls d σ' H') ∧ tRet (tTup (tCons (tC (.str "told")) (tCons (fun σZ HZ Q => σZ[0]? = some (some (.ref f)) ∧ HZ c' = some (CodeO c' q) ∧ tl Ech HZ Q) tNil))) D σ H)
      (Wout := fun _ _ _ _ => False) rfl rfl scRef.nd LamX.takes0 (fun W pn xe tk _ => ?_)
      (.named (i := 1) ⟨rfl, by decide, .inl R.nk.g⟩ rfl rfl (fun a oe cls d pn hz hf => pss_one (ps_ret (pe_tup (pa_cons pe_str (pa_cons (pe_byF R.nk hz hf (pv 1)) pa_nil)))))
      (.named (i := 1) ⟨rfl, by decide, .inl R.ns.g⟩ rfl rfl (fun a oe cls d pn hz hf => pss_one (ps_ret (pe_tup (pa_cons pe_str (pa_cons (pe_byF R.ns hz hf (pv 1)) pa_nil)))))
      (.named (i := 1) ⟨rfl, by decide, .inl R.tk.g⟩ rfl rfl (fun a oe cls d pn hz hf => pss_one (ps_ret (pe_tup (pa_cons pe_str (pa_cons (pe_byF R.tk hz hf (pv 1)) pa_nil)))))
      (.named (i := 1) ⟨rfl, by decide, .inl R.tm.g⟩ rfl rfl (fun a oe cls d pn hz hf => pss_one (ps_ret (pe_tup (pa_cons pe_str (pa_cons (pe_byF R.tm hz hf (pv 1)) pa_nil)))))
      (.bare ⟨rfl, by decide, .inl R.tf.g⟩ (fun a oe cls d pn hz hf => pss_one (ps_ret (pe_tup (pa_cons pe_str pa_nil))))
      (.named (i := 1) ⟨rfl, by decide, .inl R.nl.g⟩ rfl rfl (fun a oe cls d pn hz hf => pss_one (ps_ret (pe_tup (pa_cons pe_str (pa_cons (pe_byF R.nl hz hf (pv 1)) pa_nil)))))
      .nil))))))), ?_⟩
  · refine ⟨fun pins s' σ H' D I h' => ?_⟩
    obtain ⟨Ech, hW, h1⟩ := h'
    exact (pss_one (ps_ret (pe_tup (pa_cons pe_str (pa_cons (act W pn xe Ech _ _ tk hW) pa_nil))))).run pins s' σ H' D I h1
  · refine ⟨CaughtR CL Q, fun cls d σ' H' hE => ?_, rfl, hc, h⟩
    have at1 : ∀ {a : Addr}, 1 < σ'.length → (σ'.set 1 (some (V.ref a)))[1]? = some (some (.ref a)) := fun {a} hl => by
      rw [List.getElem?_set_self hl]
    obtain ⟨rfl, dd, v, rfl, e, k⟩ := hE
    exact miss R.l1 (miss R.l2 (miss R.l3 (miss R.l4 (miss R.l5 (hits R.l6 fun a ha hl => ⟨.ref a, at1 hl, rfl, rfl, dd, v, rfl, e, k⟩)))))
end KZ

namespace KZ
open PySem PySem.Spec PyProof.Rows L2 LamX
/-! the law's own last steps -/
/-- _law_named, its list told as a list of its own -/
def spNamedL (K : PySem.W.Frag) : Sp := fun vs H Q _ => ∃ (M : List Addr) (b l : Addr) (m : Int), vs = [.ref b, .int m] ∧ Cb M b l H ∧ 0 ≤ m ∧ m ≤ 15 ∧
  ∀ (p : Addr) (ns : List Str) (H' : Hp), Fr b l H H' → ns.length = m.toNat → (∀ n ∈ ns, n ∈ Names) → H' p = some (.lst (ns.map V.str)) → Q (.ref p) H'
section
variable {P : Program} {w : World} {K : PySem.W.Frag} {mg : Str → Option Value} {base : Heap}
theorem ok_namedL {f fM : Addr} {fd fdM : FuncData} (F : Fun K "_law_named" "_law_named" sNamed f fd) (CM : Cal P w K mg base "_law_mixed" 2 ["bag", "things"] (spMixed K) fM fdM) : FnOk P w K mg base CX0 3 f fd ["bag", "many"] (spNamedL K) := by
  refine F.ok scNamed (fun vs H Q E h => ?_) (fun cdv A outer s H vs Q E hr h => ?_)
  · obtain ⟨M, b, l, m, rfl, _⟩ := h
    rfl
  · obtain ⟨M, b, l, m, rfl, cb, h0, h1, k⟩ := h
    refine ⟨_, pss_cons (ps_set (i := 2) scNamed.nd rfl (Or.inl rfl) (pe_lst (pa_cons pe_str (pa_cons pe_str (pa_cons pe_str (pa_cons pe_str (pa_cons pe_str (pa_cons pe_str (pa_cons pe_str (pa_cons pe_str (pa_cons pe_str (pa_cons pe_str
        (pa_cons pe_str (pa_cons pe_str (pa_cons pe_str (pa_cons pe_str (pa_cons pe_str pa_nil)))))))))))))))))
      (pss_one (ps_ret (pe_slice sl_list (pcl CM hr (pa_cons (pv 0) (pa_cons (pv 2) pa_nil))) po_none (po_some (pv 1))))), ?_⟩
    refine ⟨by show 15 ≤ sizeLine; decide, fun p hp => ?_⟩
    have f0 : Fr b l H (upd H p (.lst (Names.map V.str))) := Fr.new cb.bag hp
    have d0 : Dm K M (upd H p (.lst (Names.map V.str))) (.ref p) (.list (Names.map PyData.str)) := Dm.lstNew cb.kn hp (dps_strs Names)
    refine ⟨_, rfl, _, rfl, M, b, l, _, _, rfl, cb.fr f0, d0, by show 15 < 100000; decide, fun y es H' f1 hpm hy => ?_⟩
    obtain ⟨ns, rfl, hns⟩ := perm_str hpm
    have hlen : ns.length = 15 := hns.length_eq
    obtain ⟨a, xs, rfl, hs, ha⟩ := hy.lstAt
    cases strs_dps ha
    refine ⟨_, rfl, _, rfl, a, _, rfl, hs, fun q hq => ?_⟩
    rw [cutV_to h0 (by rw [List.length_map]; omega), ← List.map_take]
    exact k q (ns.take m.toNat) _ ((f0.trans f1).trans (Fr.new f1.bag hq)) (by rw [List.length_take]; omega) (fun n hn => hns.mem_iff.mp (List.mem_of_mem_take hn)) upd_same
end
/-! what is told is small -/
abbrev NamesX : List Str := "told" :: "later" :: Names
theorem namesX_ok : ∀ x ∈ NamesX, PyData.strOk x = true ∧ (reprText x).length ≤ 20 := by
  unfold NamesX Names
  decide +kernel
theorem in_namesX {x : Str} (h : x ∈ Names) : x ∈ NamesX := by
  unfold NamesX
  exact List.mem_cons_of_mem _ (List.mem_cons_of_mem _ h)
theorem good_strX {x : Str} (h : x ∈ NamesX) : Good (.str x) 20 0 := good_str namesX_ok h
theorem good_kdX {k : Kd} (hn : k.1 ∈ NamesX) (h0 : 0 ≤ k.2.2) (h1 : k.2.2 < 16) : Good (kdD k) 70 1 := by
  refine Good.mono (good_tup (n := 20) (k := 0) fun d hd => ?_) (by show 3 * (20 + 2) + 4 ≤ 70; decide) (Nat.le_refl _)
  simp only [List.mem_cons, List.not_mem_nil, or_false] at hd
  rcases hd with hd | hd | hd
  · rw [hd]
    exact good_strX hn
  · rw [hd]
    exact good_bl _
  · rw [hd]
    exact good_int h0 h1
theorem good_houX {ks : List Kd} {ss : List Str} {j : Jud} {n m : Nat} (hk : ∀ k ∈ ks, k.1 ∈ NamesX ∧ 0 ≤ k.2.2 ∧ k.2.2 < 16) (kl : ks.length < 10) (hs : ∀ x ∈ ss, x ∈ NamesX) (sl : ss.length < 10) (hn : n < 10) (hm : m < 10) (ok : JudOk n m j) : Good (hD ks ss j) 200000 5 := by
  refine Good.mono (good_tup (n := 60000) (k := 4) fun d hd => ?_) (by show 3 * 60002 + 4 ≤ 200000; decide) (Nat.le_refl _)
  simp only [List.mem_cons, List.not_mem_nil, or_false] at hd
  rcases hd with hd | hd | hd
  · rw [hd]
    refine Good.mono (good_tup (n := 70) (k := 1) fun d hd => ?_) ?_ (by decide)
    · obtain ⟨k, hk', rfl⟩ := List.mem_map.mp hd
      obtain ⟨a, b, c⟩ := hk k hk'
      exact good_kdX a b c
    · rw [List.length_map]
      have := Nat.mul_le_mul (show ks.length ≤ 9 by omega) (Nat.le_refl 72)
      show ks.length * 72 + 4 ≤ 60000
      omega
  · rw [hd]
    refine Good.mono (good_tup (n := 20) (k := 0) fun d hd => ?_) ?_ (by decide)
    · obtain ⟨x, hx, rfl⟩ := List.mem_map.mp hd
      exact good_strX (hs x hx)
    · rw [List.length_map]
      have := Nat.mul_le_mul (show ss.length ≤ 9 by omega) (Nat.le_refl 22)
      show ss.length * 22 + 4 ≤ 60000
      omega
  · rw [hd]
    exact good_jud hn hm ok
theorem good_tag {x : Str} {d : PyData} (hx : x ∈ NamesX) (g : Good d 200000 5) : Good (.tuple [.str x, d]) 500000 6 := by
  refine Good.mono (good_tup (n := 200000) (k := 5) fun e he => ?_) (by show 2 * 200002 + 4 ≤ 500000; decide) (Nat.le_refl _)
  simp only [List.mem_cons, List.not_mem_nil, or_false] at he
  rcases he with he | he
  · rw [he]
    exact Good.mono (good_strX hx) (by decide) (by decide)
  · rw [he]
    exact g
/-! the tables of fewer, more kinds are tables -/
def tabN (o : List Nat) (t : Tab) : Tab := o.map fun a => o.map fun h => (t.getD a []).getD h ("", "")
theorem tabN_D {n : Nat} {t : Tab} {o : List Nat} (ok : TabOk n t) (hin : ∀ a ∈ o, a < n) : tabG o (tabD t) = tabD (tabN o t) := by
  unfold tabG tabN
  show PyData.tuple _ = PyData.tuple _
  rw [List.map_map]
  refine congrArg PyData.tuple (List.map_congr_left fun a ha => ?_)
  have la : a < t.length := by rw [ok.1]; exact hin a ha
  have e1 : itD (tabD t) a = rowD (t.getD a []) := itD_at (by
    show (t.map rowD)[a]? = _
    rw [List.getElem?_map, getD_of la []]
    rfl)
  have rl : (t.getD a []).length = n := (ok.2 _ (by
    rw [List.getD_eq_getElem?_getD, List.getElem?_eq_getElem la]
    exact List.getElem_mem la)).1
  unfold rowG
  show PyData.tuple _ = PyData.tuple _
  rw [List.map_map]
  refine congrArg PyData.tuple (List.map_congr_left fun h hh => ?_)
  rw [e1]
  exact itD_at (by
    show ((t.getD a []).map cpD)[h]? = _
    have z : (t.getD a [])[h]? = some ((t.getD a []).getD h ("", "")) := getD_of (by rw [rl]; exact hin h hh) _
    rw [List.getElem?_map, z]
    rfl)
theorem tabN_ok {n : Nat} {t : Tab} {o : List Nat} (ok : TabOk n t) (hin : ∀ a ∈ o, a < n) : TabOk o.length (tabN o t) := by
  refine ⟨List.length_map _, fun r hr => ?_⟩
  obtain ⟨a, ha, rfl⟩ := List.mem_map.mp hr
  have la : a < t.length := by rw [ok.1]; exact hin a ha
  have ro := ok.2 (t.getD a []) (by
    rw [List.getD_eq_getElem?_getD, List.getElem?_eq_getElem la]
    exact List.getElem_mem la)
  refine ⟨List.length_map _, fun c hc => ?_⟩
  obtain ⟨h, hh, rfl⟩ := List.mem_map.mp hc
  have lh : h < (t.getD a []).length := by rw [ro.1]; exact hin h hh
  exact ro.2 _ (List.mem_of_getElem? (getD_of lh ("", "")))
theorem judN {n m : Nat} {j : Jud} {o : List Nat} (ok : JudOk n m j) (hin : ∀ a ∈ o, a < n) : (j.map tabD).map (tabG o) = (j.map (tabN o)).map tabD ∧ JudOk o.length m (j.map (tabN o)) := by
  refine ⟨?_, by rw [List.length_map]; exact ok.1, fun t ht => ?_⟩
  · rw [List.map_map, List.map_map]
    exact List.map_congr_left fun t ht => tabN_D (ok.2 t ht) hin
  · obtain ⟨u, hu, rfl⟩ := List.mem_map.mp ht
    exact tabN_ok (ok.2 u hu) hin
/-! a call through _law_refused -/
section
variable {K : PySem.W.Frag} {M : List Addr} {σ : L2.St} {H : Hp} {T : List (Addr × Str)} {CL : Addr} {tr : TA} {sp : Sp} {r : Res}
theorem ref_evd {Q : VK} (hT : Tabs T H) (kn : ∀ H1, ExtN H H1 → Kn M H1) (known : ∀ C f d, r = .one C f d → C = CL ∧ f = "kind") (some_ : ∀ C, r ≠ .few C)
    (call : ∀ H1, ExtN H H1 → ∀ (Q' : VK) (E' : XK), (∀ H2, Sub H1 H2 → ResQ K M r H2 Q' E') → tCallS sp (WE fun cls d _ H => E' cls d H) tr σ H1 Q') (q : ∀ y H', ExtN H H' → Tabs T H' → Dm K M H' y (refD r) → Q y H') :
    tLam T (TRef CL) (fun E => tCallS sp (WE fun cls d _ H => E cls d H) tr) σ H Q := by
  refine ⟨hT, fun H1 x1 T1 => ?_⟩
  refine call H1 x1 _ _ fun H2 s2 => ?_
  have fin : ∀ {xs : List V} {es : List PyData} {H3 : Hp}, Sub H2 H3 → Dms K M H3 xs es → es.length < 1000000 → (∀ y H', ExtN H H' → Tabs T H' → Dm K M H' y (.tuple es) → Q y H') → TupQ xs H3 Q := fun {xs es H3} s3 hx hl k => by
    refine ⟨Nat.le_of_lt (szl (by rw [hx.len]; exact hl)), fun p hp => ?_⟩
    have s23 : Sub H1 (upd H3 p (.tup xs)) := (s2.trans s3).trans (Sub.new hp)
    exact k _ _ (x1.trans (ExtN.of s23)) (T1.ext s23) (Dm.tupNew ((kn H1 x1).sub (s2.trans s3)) hp hx)
  cases r with
  | told d => exact fun y H3 s3 hy => fin s3 (.cons (.str _) (.cons hy .nil)) lt2 q
  | one C f d =>
    intro a v H3 s3 hv e
    obtain ⟨rfl, rfl⟩ := known C f d rfl
    exact ⟨rfl, a, v, rfl, e, fin s3 (.cons (.str _) (.cons hv .nil)) lt2 q⟩
  | few C => exact absurd rfl (some_ C)
end
section
variable {X : Cx}
/-- _law_refused(lambda: f(..)) -/
theorem pe_ref {CK CS CT CM CF CL iK iS iT iM iL c P fR f : Addr} {fdR fd : FuncData} {q : Str} {ps : List Str} {sp : Sp} {tr : TA} {params : Arguments} {e : Expr} {es : List Expr} {scope : Scope} {x : Str} {p lpos pos xp cpos : Pos}
    (R : Refs X.K X.mg CK CS CT CM CF CL iK iS iT iM iL) (FR : Fun X.K "_law_refused" "_law_refused" sRef fR fdR) (gR : X.mg "_law_refused" = some (.ref fR)) (bR : L2.Binds X.K fdR ["act"] [])
    (F : FnOk X.prog X.w X.K X.mg X.base (L2.CX X.prog X.w) 3 f fd ps sp) (gF : X.mg x = some (.ref f)) (kF : PySem.W.keepIn X.K (.ref f) = true) (bF : L2.Binds X.K fd ps [])
    (TB : TabB X.base X.mg c P) (hcode : X.env.code = .ref c) (hq : X.env.qual ++ "<lambda>" = q) (hr : Room 5 X.A) (L : LamS X.env.scope scope) (hdef : defaultsOf params X.env = ([], []))
    (hbind : ∀ (q : Str) (cl : List (Str × Addr)) (pm cv ctv : Value), bindArgs (PySem.W.kla_fn "<lambda>" q params (.Call (.Name x xp) (e :: es) [] cpos) scope cl pm cv ctv) ⟨[], []⟩ = pure [])
    (hg : Gl X "_law_refused") (hgl : ∀ (A : Around) (outer : List Env) (s : Shared) (H : Hp) (E : XK) (g c' : Addr), Gl (lamCx X A outer s H E scope g c') x)
    (ha : ∀ (A : Around) (outer : List Env) (s : Shared) (H : Hp) (E : XK) (g c' : Addr), PA (lamCx X A outer s H E scope g c') (e :: es) tr)
    (hs : ∀ env, starEach (e :: es) env = (false, eval e env) :: starEach es env) (hpl : ∀ env, (backTo cpos (starEach es env)).any (·.1) = false) (hdb : (x == ("__debug__" : Str)) = false := by decide) :
    PE X (.Call (.Name "_law_refused" p) [.Lambda params (.Call (.Name x xp) (e :: es) [] cpos) scope lpos] [] pos) (tLam [(P, q)] (TRef CL) fun E => tCallS sp (WE fun cls d _ H => E cls d H) tr) := by
  subst hq
  obtain ⟨oc, od, kV, doc, pm, an, cdR, ct, osl, rfl, lk, hcg⟩ := FR.ex
  exact pe_lamcall (T := [(P, X.env.qual ++ "<lambda>")]) (TT := TRef CL) (a := "act") (c := c) (P := P) (k := 3) (Ng := ["act", "e"]) hg gR FR.kp lk hcg bR scRef rfl (Or.inl rfl) (ref_gives R) TB hcode (List.mem_singleton.mpr rfl) (fun z hz _ => by rw [List.mem_singleton.mp hz]) hr L hdef hbind
    (fun A outer s H E g c' hr3 => pe_callS (X := lamCx X A outer s H E scope g c') F hr3 (hgl A outer s H E g c') gF kF bF (fun σ => passAt (takes_of (X := lamCx X A outer s H E scope g c') (E := E) rfl rfl rfl rfl) σ) (ha A outer s H E g c') hdb (hs _) (hpl _))
end
end KZ

namespace KZ
open PySem PySem.Spec PyProof.Rows L2 LamX
section
variable {K : PySem.W.Frag} {M : List Addr} {σ : L2.St} {H : Hp} {ta tb te : TE} {tl th : TO} {ds es : List PyData} {lo hi : Option Int}
theorem evn_slL (h : EvD K M te σ H (.list ds)) (h1 : EvO tl σ H lo) (h2 : EvO th σ H hi) : EvNL K M (tSl (rSlL K) te tl th) σ H (cutD ds lo hi) := fun H1 s Q q =>
  h H1 s _ fun v H2 s2 hv => h1 H2 (s.trans s2) _ fun H3 s3 => h2 H3 ((s.trans s2).trans s3) _ fun H4 s4 => by
    obtain ⟨a, xs, rfl, hs, ha⟩ := (Dm.s (Dm.s hv s3) s4).lstAt
    have s24 := (s2.trans s3).trans s4
    exact ⟨a, xs, rfl, hs, fun p hp => q p _ _ (s24.trans (Sub.new hp)) (s24.free hp) upd_same (Dms.k (Dms.more (dps_cut ha lo hi) hp) (Kp.mut List.mem_cons_self))⟩
theorem evn_catL (ha : EvNL K M ta σ H ds) (hb : EvNL K M tb σ H es) (hl : ds.length + es.length < 1000000) : EvNL K M (tOp rCat ta tb) σ H (ds ++ es) := fun H1 s Q q =>
  ha H1 s _ fun p xs H2 s2 hp hp2 hx => hb H2 (s.trans s2) _ fun r ys H3 s3 hr hr3 hy => by
    have hx3 : Dms K M H3 xs ds := Dms.s (hx.less fun a m => List.mem_cons_of_mem _ m) s3
    have hy3 : Dms K M H3 ys es := hy.less fun a m => List.mem_cons_of_mem _ m
    refine ⟨p, r, xs, ys, rfl, rfl, s3 _ _ hp2, hr3, Nat.le_of_lt (szl (by rw [hx3.len, hy3.len]; exact hl)), fun z hz => ?_⟩
    exact q z _ _ ((s2.trans s3).trans (Sub.new hz)) ((s2.trans s3).free hz) upd_same (Dms.k (Dms.more (hx3.app hy3) hz) (Kp.mut List.mem_cons_self))
theorem evn_lstRg {n : Nat} (h : EvD K M te σ H (.int (n : Int))) (hn : n < 100000) : EvNL K M (tLstRg (tRg1 te)) σ H (natD (List.range n)) := fun H1 s Q q =>
  h H1 s _ fun v H2 s2 hv => by
    cases hv.intAt
    refine ⟨_, rfl, RgOk.of_le (by decide) (by omega) (by decide) (by omega), fun p hp => ?_⟩
    have e : rgV 0 (n : Int) = (List.range n).map fun k : Nat => V.int (k : Int) := rgV_nat n
    rw [e]
    exact q p _ _ (s2.trans (Sub.new hp)) (s2.free hp) upd_same (nat_dps _)
theorem evd_lenL (h : EvD K M te σ H (.list ds)) : EvD K M (tCB (fun xs H Q => ∃ p ys, xs = [V.ref p] ∧ (SqL K H p ys ∨ SqT K H p ys) ∧ Q (.int ys.length) H) (tCons te tNil)) σ H (.int ds.length) := fun H1 s Q q =>
  h H1 s _ fun v H2 s2 hv => by
    obtain ⟨a, xs, rfl, hs, ha⟩ := hv.lstAt
    refine ⟨a, xs, rfl, .inl hs, ?_⟩
    rw [ha.len]
    exact q _ H2 s2 (.int _)
end
/-- a list of lists of numbers -/
def lnD (o : List Nat) : PyData := .list (natD o)
def insN (k : Nat) (o : List Nat) (i : Nat) : List Nat := o.take i ++ [k] ++ o.drop i
theorem ins_ok {k : Nat} {o : List Nat} (h : OrdOk k o) (hl : o.length = k) (i : Nat) (hk : k < 50) : OrdOk (k + 1) (insN k o i) ∧ (insN k o i).length = k + 1 := by
  have len : (insN k o i).length = k + 1 := by
    unfold insN
    rw [List.length_append, List.length_append, List.length_take, List.length_drop]
    show _ + 1 + _ = _
    omega
  refine ⟨⟨fun x hx => ?_, fun x hx => ?_, by omega⟩, len⟩
  · unfold insN
    rcases Nat.lt_succ_iff_lt_or_eq.mp hx with z | z
    · have m := h.all x z
      rw [← List.take_append_drop i o] at m
      rcases List.mem_append.mp m with m | m
      · exact List.mem_append_left _ (List.mem_append_left _ m)
      · exact List.mem_append_right _ m
    · rw [z]
      exact List.mem_append_left _ (List.mem_append_right _ List.mem_cons_self)
  · unfold insN at hx
    rcases List.mem_append.mp hx with m | m
    · rcases List.mem_append.mp m with m | m
      · have := h.low x (List.mem_of_mem_take m)
        omega
      · rw [List.mem_singleton.mp m]
        omega
    · have := h.low x (List.mem_of_mem_drop m)
      omega
theorem perm_ok {n : Nat} {o : List Nat} (h : o.Perm (List.range n)) (hn : n < 50) : OrdOk n o :=
  ⟨fun k hk => h.mem_iff.mpr (List.mem_range.mpr hk), fun k hk => List.mem_range.mp (h.mem_iff.mp hk), by rw [h.length_eq, List.length_range]; omega⟩
theorem perm_nat {es : List PyData} {l : List Nat} (h : es.Perm (natD l)) : ∃ o : List Nat, es = natD o ∧ o.Perm l := by
  refine ⟨es.map unN, ?_, ?_⟩
  · unfold natD
    rw [List.map_map]
    have z : ∀ e ∈ es, ((fun k : Nat => PyData.int (k : Int)) ∘ unN) e = e := fun e he => by
      obtain ⟨x, _, rfl⟩ := List.mem_map.mp (show e ∈ l.map fun k : Nat => PyData.int (k : Int) from h.mem_iff.mp he)
      rfl
    exact (List.map_id es).symm.trans (List.map_congr_left fun e he => (z e he).symm)
  · have q := h.map unN
    unfold natD at q
    rw [List.map_map] at q
    have e : l.map (unN ∘ fun k : Nat => PyData.int (k : Int)) = l := List.map_id l
    rw [e] at q
    exact q
theorem ords_of {P : List Nat → Prop} {ds : List PyData} (h : ∀ d ∈ ds, ∃ o, P o ∧ d = lnD o) : ∃ os : List (List Nat), ds = os.map lnD ∧ ∀ o ∈ os, P o := by
  induction ds with
  | nil => exact ⟨[], rfl, by simp⟩
  | cons d ds ih =>
    obtain ⟨os, e, k⟩ := ih fun d hd => h d (List.mem_cons_of_mem _ hd)
    obtain ⟨o, ko, ed⟩ := h d List.mem_cons_self
    refine ⟨o :: os, by rw [e, ed]; rfl, fun x hx => ?_⟩
    rcases List.mem_cons.mp hx with z | z
    · rw [z]
      exact ko
    · exact k x z
def spOrders (K : PySem.W.Frag) : Sp := fun vs H Q _ => ∃ (M : List Addr) (b l : Addr) (n : Nat), vs = [.ref b, .int (n : Int)] ∧ Cb M b l H ∧ n < 6 ∧
  ∀ (y : V) (os : List (List Nat)) (H' : Hp), Fr b l H H' → (∀ o ∈ os, OrdOk n o ∧ o.length = n) → os.length < 100 → Dm K M H' y (.list (os.map lnD)) → Q y H'
def capN (i : Nat) : Nat := if i ≤ 1 then 1 else if i = 2 then 2 else 6
section
variable {P : Program} {w : World} {K : PySem.W.Frag} {mg : Str → Option Value} {base : Heap}
abbrev sOrders : Stmt := topS 27
abbrev NOs : List Str := ["bag", "many", "found", "k", "longer", "order", "at"]
theorem scOrders : FnScope NOs ["bag", "many"] (defScope sOrders) := ⟨rfl, rfl, rfl, by decide +kernel, rfl, by decide +kernel, by decide +kernel⟩
theorem ok_Orders {f fM : Addr} {fd fdM : FuncData} (F : Fun K "_law_orders" "_law_orders" sOrders f fd) (T : Txt mg) (CM : Cal P w K mg base "_law_mixed" 2 ["bag", "things"] (spMixed K) fM fdM) : FnOk P w K mg base CX0 3 f fd ["bag", "many"] (spOrders K) := by
  refine F.ok scOrders (fun vs H Q E h => ?_) (fun cdv A outer s H vs Q E hr h => ?_)
  · obtain ⟨_, _, _, _, rfl, _⟩ := h
    rfl
  obtain ⟨M, b, l, n, rfl, cb, n6, q⟩ := h
  refine ⟨_, pss_cons (ps_set (i := 2) scOrders.nd rfl (Or.inl rfl) (pe_lst (pa_cons (pe_lst pa_nil) pa_nil)))
    (pss_cons (ps_for PassesOwn.never rfl (pi_range1 rfl T.range (pa_cons (pe_ifExp (pt_cmpR op_lt (pv 1) pe_int (nomark _)) (pv 1) pe_int) pa_nil)) (pg_name (i := 3) scOrders.nd rfl (Or.inr rfl))
      (pss_cons (ps_set (i := 4) scOrders.nd rfl (Or.inl rfl) (pe_lst pa_nil))
      (pss_cons (ps_for PassesOwn.never rfl (pi_list (pv 2)) (pg_name (i := 5) scOrders.nd rfl (Or.inr rfl))
        (pss_one (ps_expr (pe_bm PySem.F.plainAttrs_list PySem.F.slot_list_extend PySem.F.type_list_extend mt_extend (pv 4) (pa_cons
          (pe_lc (own := [("at", 6)]) (g := gName 6) (tt := tYes) (te := tOp rCat (tOp rCat (tSl (rSlL K) (tVar 5) tNoPart (tPart (tVar 6))) (tLst (tCons (tVar 3) tNil))) (tSl (rSlL K) (tVar 5) (tPart (tVar 6)) tNoPart)) rfl scOrders.nd (pi_range1 rfl T.range (pa_cons (pe_op op_add (pe_callB call_len_seq (by rfl) T.len PySem.boot_len (pa_cons (pv 5) pa_nil)) pe_int) pa_nil)) (blkOk_by (N := NOs) (sc := defScope sOrders) (by decide +kernel)) (fun _ _ _ _ _ => pg_name (i := 6) scOrders.nd rfl (Or.inl rfl)) (fun _ _ _ _ _ => pts_nil)
            (fun _ _ _ _ _ => pe_op op_cat (pe_op op_cat (pe_slice sl_list (pv 5) po_none (po_some (pv 6))) (pe_lst (pa_cons (pv 3) pa_nil))) (pe_slice sl_list (pv 5) (po_some (pv 6)) po_none))) pa_nil)))))
      (pss_one (ps_set (i := 2) scOrders.nd rfl (Or.inl rfl) (pv 4))))))
    (pss_one (ps_ret (pe_ifExp (pt_cmpR op_lt (pv 1) pe_int (nomark _)) (pv 2) (pe_op op_cat
      (pe_lc (own := [("k", 3)]) (g := gName 3) (tt := tYes) (te := tCall (spMixed K) [] E0 (tCons (tVar 0) (tCons (tLstRg (tRg1 (tVar 1))) tNil))) rfl scOrders.nd (pi_range1 rfl T.range (pa_cons pe_int pa_nil)) (blkOk_by (N := NOs) (sc := defScope sOrders) (by decide +kernel)) (fun _ _ _ _ _ => pg_name (i := 3) scOrders.nd rfl (Or.inl rfl)) (fun _ _ _ _ _ => pts_nil)
        (fun _ _ _ _ _ => pcl CM hr (pa_cons (pv 0) (pa_cons (pe_listRg rfl rfl T.list (prg_1 rfl T.range (pv 1))) pa_nil))))
      (pe_lst (pa_cons (pe_listRg rfl rfl T.list (prg_1 rfl T.range (pv 1))) pa_nil))))))), ?_⟩
  have kn := cb.kn
  have pick {x2 x3 x4 x5 x6 : Option V} {H' : Hp} : EvB (tTest (tOp (rI0 fun i j => .bl (decide (i < j))) (tVar 1) (tC (.int 4)))) ([some (.ref b), some (.int (n : Int)), x2, x3, x4, x5, x6] : L2.St) H' (decide ((n : Int) < 4)) := evb_test (evd_ltI (K := K) (M := M) (evd_var rfl (.int _)) evd_int)
  obtain ⟨m, hm⟩ : ∃ m : Nat, m = if n < 4 then n else 0 := ⟨_, rfl⟩
  have m4 : m < 4 := by
    rw [hm]
    split
    · omega
    · omega
  refine evd_sset (K := K) (M := M) (evd_lst kn (evds_cons (evd_lst kn evds_nil (by show 0 < 1000000; decide)) evds_nil) lt1) fun vf H1 s1 hf => ?_
  refine sfor (for_len (K := K) (M := M) (σ := [some (.ref b), some (.int (n : Int)), some vf, none, none, none, none]) (n := m) (by
      refine evd_if (pick) (fun c => ?_) (fun c => ?_)
      · have z : (n : Int) < 4 := of_decide_eq_true c
        rw [hm, if_pos (by omega)]
        exact evd_var rfl (.int _)
      · have z : ¬ (n : Int) < 4 := of_decide_eq_false c
        rw [hm, if_neg (by omega)]
        exact evd_int) (by omega)
    (fun i σ H' => ∃ (vf : V) (os : List (List Nat)) (u3 u4 u5 : Option V), σ = [some (.ref b), some (.int (n : Int)), some vf, u3, u4, u5, none] ∧ Sub H H' ∧ Dm K M H' vf (.list (os.map lnD)) ∧ (∀ o ∈ os, OrdOk i o ∧ o.length = i) ∧ os.length ≤ capN i)
    (fun H' s' => ⟨vf, [[]], none, none, none, rfl, s1.trans s', Dm.s hf s', fun o ho => by
      rw [List.mem_singleton.mp ho]
      exact ⟨⟨fun k hk => absurd hk (Nat.not_lt_zero k), fun k hk => absurd hk List.not_mem_nil, by decide⟩, rfl⟩, by show 1 ≤ 1; decide⟩) ?_ ?_)
  · rintro i σ H2 hi ⟨vf, os, u3, u4, u5, rfl, s2, hf2, oos, cap⟩
    refine gname_of ?_
    refine sset_of (lst_of (nil_of ⟨Nat.zero_le _, fun p hp => ?_⟩))
    obtain ⟨a, xs, rfl, hsa, hxa⟩ := hf2.lstAtE
    have km0 {o : HO} : Kp (p :: M) H2 (upd H2 p o) := Kp.mut List.mem_cons_self
    have hp0 : H p = none := s2.free hp
    have xl := hxa.len
    rw [List.length_map] at xl
    have c6 : capN i ≤ 6 := by
      unfold capN
      split
      · omega
      · split <;> omega
    refine sfor ⟨_, rfl, a, rfl, ⟨_, (er_sub _ _).sqL (Sub.sqL (Kp.er km0) (by rw [er_more hp]; exact hsa))⟩, for_list (K := K) (a := a) (xs := xs) (fun i2 σ H' => ∃ (u5 : Option V) (vs : List V) (os2 : List (List Nat)), σ = [some (.ref b), some (.int (n : Int)), some (.ref a), some (.int (i : Int)), some (.ref p), u5, none] ∧ Sub H2 H' ∧ H' p = some (.lst vs) ∧ Dms K (p :: M) H' vs (os2.map lnD) ∧ (∀ o ∈ os2, OrdOk (i + 1) o ∧ o.length = i + 1) ∧ os2.length = i2 * (i + 1) ∧
        SqL K (er (p :: M) H') a xs ∧ Dms K (p :: M) H' xs (os.map lnD))
      ⟨u5, [], [], rfl, Sub.new hp, upd_same, .nil, by simp, by simp, Sub.sqL (Kp.er km0) (by rw [er_more hp]; exact hsa), (hxa.more hp).k km0⟩ (fun i2 σ H' _ ⟨_, _, _, _, _, _, _, _, _, q, _⟩ => (er_sub _ _).sqL q) ?_ ?_⟩
    · rintro i2 y σ H3 hi2 ⟨u5, vs, os2, rfl, s3, h3p, hds, ok2, len2, hsq, hdx⟩
      obtain ⟨d, hd, hy⟩ := hdx.get' hi2
      rw [List.getElem?_map] at hd
      obtain ⟨o, ho, rfl⟩ := Option.map_eq_some_iff.mp hd
      obtain ⟨oo, ol⟩ := oos o (List.mem_of_getElem? ho)
      have i2l : i2 < os.length := (List.getElem?_eq_some_iff.mp ho).1
      have n3 : Kn (p :: M) H3 := (kn.sub (s2.trans s3)).more ⟨_, h3p⟩
      refine gname_of ⟨_, rfl, .inl ⟨rfl, _, SqL.of h3p⟩, args1 ?_⟩
      have zl : (natD o).length = i := by
        unfold natD
        rw [List.length_map, ol]
      have z5 := evd_lenL (K := K) (M := p :: M) (te := tVar 5) (σ := [some (.ref b), some (.int (n : Int)), some (.ref a), some (.int (i : Int)), some (.ref p), some y, none]) (H := H3) (ds := natD o) (evd_var rfl (show Dm K (p :: M) H3 y (.list (natD o)) from hy))
      rw [zl] at z5
      have el := evd_add z5 (evd_int (i := 1))
      have ec := evd_lcR (K := K) (M := p :: M) (σ := [some (.ref b), some (.int (n : Int)), some (.ref a), some (.int (i : Int)), some (.ref p), some y, none]) (H := H3) (tb := tOp rCat (tOp rCat (tSl (rSlL K) (tVar 5) tNoPart (tPart (tVar 6))) (tLst (tCons (tVar 3) tNil))) (tSl (rSlL K) (tVar 5) (tPart (tVar 6)) tNoPart)) (vs := [6]) (j := 6) (m := (i : Int) + 1) (fun at_ => lnD (insN i o at_)) n3 (evds_cons el evds_nil) (by omega) (by omega) (by intro z; rfl) (by
        intro Dl hD k4 H4 s4 n4 hk4
        have hy4 : Dm K (Dl :: p :: M) H4 y (.list (natD o)) := Dm.s (Dm.more hy hD) s4
        have e5 : EvD K (Dl :: p :: M) (tVar 5) ([some (.ref b), some (.int (n : Int)), some (.ref a), some (.int (i : Int)), some (.ref p), some y, some (.int (k4 : Int))] : L2.St) H4 (.list (natD o)) := evd_var rfl hy4
        have e6 : EvD K (Dl :: p :: M) (tVar 6) ([some (.ref b), some (.int (n : Int)), some (.ref a), some (.int (i : Int)), some (.ref p), some y, some (.int (k4 : Int))] : L2.St) H4 (.int (k4 : Int)) := evd_var rfl (.int _)
        have e3 : EvD K (Dl :: p :: M) (tVar 3) ([some (.ref b), some (.int (n : Int)), some (.ref a), some (.int (i : Int)), some (.ref p), some y, some (.int (k4 : Int))] : L2.St) H4 (.int (i : Int)) := evd_var rfl (.int _)
        have nl : (natD o).length = i := by
          unfold natD
          rw [List.length_map, ol]
        have p1 := evn_slL e5 evo_none (evo_some e6)
        rw [cutD_to (by omega) (by rw [nl]; omega), Int.toNat_natCast] at p1
        have p2 := evn_slL e5 (evo_some e6) evo_none
        rw [cutD_from (by omega) (by rw [nl]; omega), Int.toNat_natCast] at p2
        have p3 := evn_catL (evn_catL p1 (evn_lst (evds_cons e3 evds_nil) lt1) (by rw [List.length_take]; show _ + 1 < _; omega)) p2 (by rw [List.length_append, List.length_take, List.length_drop]; show _ + 1 + _ < _; omega)
        have en : (natD o).take k4 ++ [PyData.int (i : Int)] ++ (natD o).drop k4 = natD (insN i o k4) := by
          unfold insN natD
          rw [List.map_append, List.map_append, List.map_take, List.map_drop]
          rfl
        rw [en] at p3
        exact EvNL.toD n4 p3)
      refine ec H3 (Sub.refl _) _ fun q4 xs4 H4 s4 hq h4q h4 => ?_
      have h4p := s4 _ _ h3p
      have l1 := hds.len
      have l2 := h4.len
      rw [List.length_map] at l1
      rw [List.length_map, List.length_range] at l2
      have nr : (((i : Int) + 1).toNat : Nat) = i + 1 := by omega
      rw [nr] at l2 h4
      have small : i2 * (i + 1) ≤ 24 := by
        have := Nat.mul_le_mul (show i2 ≤ 6 by omega) (show i + 1 ≤ 4 by omega)
        omega
      refine ⟨p, q4, vs, xs4, rfl, rfl, h4p, h4q, Nat.le_of_lt (szl (by omega)), ?_⟩
      have km4 {o : HO} : Kp (p :: M) H4 (upd H4 p o) := Kp.mut List.mem_cons_self
      have sk : Kp (p :: M) H3 H4 := fun a o _ e => s4 a o e
      refine ⟨_, _, os2 ++ (List.range (i + 1)).map (insN i o), rfl, (s3.trans s4).mut hp, upd_same, ?_, fun z hz => ?_, ?_, Sub.sqL (sk.trans km4).er hsq, (Dms.s hdx s4).k km4⟩
      · rw [List.map_append, List.map_map]
        exact Dms.k ((Dms.s hds s4).app (h4.less fun a m => List.mem_cons_of_mem _ m)) km4
      · rcases List.mem_append.mp hz with z1 | z1
        · exact ok2 z z1
        · obtain ⟨k5, _, rfl⟩ := List.mem_map.mp z1
          exact ins_ok oo ol k5 (by omega)
      · rw [List.length_append, List.length_map, List.length_range, len2, Nat.succ_mul]
    · rintro σ H3 ⟨u5, vs, os2, rfl, s3, h3p, hds, ok2, len2, hsq, hdx⟩
      dsimp only
      refine ⟨_, rfl, .ref p, os2, _, _, _, rfl, s2.trans s3, Dm.lstOf (kn.out hp0) h3p hds, ok2, ?_⟩
      rw [len2, xl]
      have three : i = 0 ∨ i = 1 ∨ i = 2 := by omega
      unfold capN at cap ⊢
      rcases three with z | z | z
      · subst z
        simp at cap ⊢
        exact cap
      · subst z
        simp at cap ⊢
        omega
      · subst z
        simp at cap ⊢
        omega
  · rintro σ H2 ⟨vf, os, u3, u4, u5, rfl, s2, hf2, oos, cap⟩
    dsimp only
    have cb2 := cb.fr (Fr.sub cb.bag s2)
    refine ret_of (pick H2 (Sub.refl _) _ fun H3 s3 => ?_)
    have s23 := s2.trans s3
    have f3 : Fr b l H H3 := Fr.sub cb.bag s23
    have cb3 := cb.fr f3
    by_cases c : (n : Int) < 4
    · rw [if_pos (decide_eq_true c)]
      have e : m = n := by rw [hm, if_pos (by omega)]
      refine ⟨vf, rfl, q vf os H3 f3 (fun o ho => ?_) ?_ (Dm.s hf2 s3)⟩
      · rw [← e]
        exact oos o ho
      · unfold capN at cap
        split at cap
        · omega
        · split at cap <;> omega
    · rw [if_neg (by rw [decide_eq_false c]; decide)]
      refine lcR_bag (K := K) (M := M) (σ := [some (.ref b), some (.int (n : Int)), some vf, u3, u4, u5, none]) (j := 3) (vs := [3]) (m := 6) (te := tCall (spMixed K) [] E0 (tCons (tVar 0) (tCons (tLstRg (tRg1 (tVar 1))) tNil))) (fun d => ∃ o : List Nat, (OrdOk n o ∧ o.length = n) ∧ d = lnD o) cb3 (evds_cons evd_int evds_nil) (by decide) (by decide) (by intro z; rfl) ?_ _ ?_
      · intro Dl hD i4 H4 f4 c4 hi4 Q4 q4
        refine ⟨_, rfl, args1 ?_⟩
        refine evn_lstRg (K := K) (M := Dl :: M) (n := n) (te := tVar 1) (evd_var rfl (.int _)) (by omega) H4 (Sub.refl _) _ fun p xs H5 s5 hp hp5 hx => ?_
        have f5 : Fr b l H4 H5 := Fr.sub c4.bag s5
        have d5 : Dm K (Dl :: M) H5 (.ref p) (.list (natD (List.range n))) := Dm.lstOf (c4.kn.out hp) hp5 hx
        refine ⟨Dl :: M, b, l, _, _, rfl, c4.fr f5, d5, by unfold natD; rw [List.length_map, List.length_range]; omega, fun y es H6 f6 pm hy => ?_⟩
        obtain ⟨o, rfl, po⟩ := perm_nat pm
        exact q4 y (lnD o) H6 (f5.trans f6) ⟨o, ⟨perm_ok po (by omega), by rw [po.length_eq, List.length_range]⟩, rfl⟩ hy
      · intro t xs ds H5 f5 ht h5t hxs hdl hdo
        obtain ⟨os6, rfl, ok6⟩ := ords_of hdo
        have c5 := cb3.fr f5
        refine evn_lst (K := K) (M := M) (ds := [lnD (List.range n)]) (evds_cons (EvNL.toD c5.kn (evn_lstRg (n := n) (te := tVar 1) (σ := [some (.ref b), some (.int (n : Int)), some vf, u3, u4, u5, none]) (evd_var rfl (.int _)) (by omega))) evds_nil) lt1 H5 (Sub.refl _) _ fun q6 ys H6 s6 hq6 hq66 hys => ?_
        rw [List.length_map] at hdl
        have l1 := hxs.len
        have l2 := hys.len
        rw [List.length_map] at l1
        have hx6 : Dms K M H6 xs (os6.map lnD) := Dms.s (hxs.less fun a m => List.mem_cons_of_mem _ m) s6
        have hy6 : Dms K M H6 ys [lnD (List.range n)] := hys.less fun a m => List.mem_cons_of_mem _ m
        have six : ((6 : Int)).toNat = 6 := by decide
        rw [six] at hdl
        have l3 : ys.length = 1 := l2
        refine ⟨t, q6, xs, ys, rfl, rfl, s6 _ _ h5t, hq66, Nat.le_of_lt (szl (by omega)), fun z hz => ?_⟩
        have f6 : Fr b l H3 (upd H6 z (.lst (xs ++ ys))) := f5.trans ((Fr.sub c5.bag s6).trans (Fr.new (c5.bag.kp s6) hz))
        refine q (.ref z) (os6 ++ [List.range n]) _ (f3.trans f6) (fun o ho => ?_) (by rw [List.length_append]; show _ + 1 < 100; omega) ?_
        · rcases List.mem_append.mp ho with z1 | z1
          · exact ok6 o z1
          · rw [List.mem_singleton.mp z1]
            exact ⟨perm_ok (List.Perm.refl _) (by omega), List.length_range⟩
        · rw [List.map_append]
          exact Dm.lstNew (c5.kn.sub s6) hz (hx6.app hy6)
end
end KZ

namespace KZ
open PySem PySem.Spec PyProof.Rows L2 LamX
theorem piled_is : ∀ ts : List Str, piled ts = (ts.map (·.length)).sum + 2 * ts.length
  | [] => rfl
  | t :: ts => by
    rw [piled_cons, piled_is ts, List.map_cons, List.sum_cons, List.length_cons]
    omega
theorem good_lst {ds : List PyData} {n k : Nat} (h : ∀ d ∈ ds, Good d n k) : Good (.list ds) (ds.length * (n + 2) + 4) (k + 1) := by
  obtain ⟨h1, h2, h3, h4, h5⟩ := good_all h
  refine ⟨by simp only [PyData.canLay0, h1], by simp only [PyData.showable, h2], by simp only [PyData.hasDict, h3], by simp only [PyData.depth]; omega, ?_⟩
  simp only [PyData.shown]
  have a := listText_len_le (PyData.shownAll ds)
  have b := piled_is (PyData.shownAll ds)
  omega
theorem good_shaped {d : PyData} {n k : Nat} (g : Good d n k) (hk : k ≤ 60) : SeqAt.shaped d = true := by
  have := g.dp
  unfold SeqAt.shaped
  rw [g.lay, decide_eq_true (by omega)]
  rfl
section
variable {K : PySem.W.Frag} {M : List Addr} {σ : L2.St} {H : Hp} {t1 t2 : TE} {ds : List PyData}
theorem eqv_nil (ds : List PyData) : PyData.eqv (.list ds) (.list []) = ds.isEmpty := by
  cases ds <;> simp [PyData.eqv, PyData.eqvAll]
theorem evd_neNil {n k : Nat} (h1 : EvD K M t1 σ H (.list ds)) (h2 : EvD K M t2 σ H (.list [])) (g : Good (.list ds) n k) (hk : k ≤ 60) : EvD K M (tOp (rNeD K) t1 t2) σ H (.bool (!ds.isEmpty)) := fun H1 s Q q =>
  h1 H1 s _ fun v H2 s2 hv => h2 H2 (s.trans s2) _ fun u H3 s3 hu => by
    refine ⟨_, _, (Dm.s hv s3).all, hu.all, good_shaped g hk, by decide, ?_⟩
    rw [eqv_nil]
    exact q _ H3 (s2.trans s3) (.bl _)
end
def rInOrd (CL : Addr) (ds : List PyData) (d : PyData) : Prop := ∃ (ks : List Kd) (ss : List Str) (j : Jud) (o : List Nat), ds = [hD ks ss j, .list (natD o)] ∧ KdsOk ks ∧ JudOk ks.length ss.length j ∧ ks.length < 10 ∧ ss.length < 10 ∧ OrdOk ks.length o ∧ d = refD (ordR CL ks ss j o)
section
variable {P : Program} {w : World} {K : PySem.W.Frag} {mg : Str → Option Value} {base : Heap}
abbrev sInOrd : Stmt := topS 28
abbrev NIo : List Str := ["house", "order", "late", "kinds", "k"]
theorem scInOrd : FnScope NIo ["house", "order"] (defScope sInOrd) := ⟨rfl, rfl, rfl, by decide +kernel, rfl, by decide +kernel, by decide +kernel⟩
theorem ok_InOrd {CL f fP : Addr} {fd fdP : FuncData} (F : Fun K "_law_in_order" "_law_in_order" sInOrd f fd) (T : Txt mg) (CP : Cal P w K mg base "_law_picked" 1 ["house", "order"] (spPure K rLPicked) fP fdP) : FnOk P w K mg base CX0 2 f fd ["house", "order"] (spPure K (rInOrd CL)) := by
  refine F.ok scInOrd (fun vs H Q E h => pure_len (fun ds d r => ?_) h) (fun cdv A outer s H vs Q E hr h => ?_)
  · obtain ⟨_, _, _, _, rfl, _⟩ := r
    rfl
  obtain ⟨M, ds, d, kn, hd, ⟨ks, ss, j, o, rfl, kok, ok, kl, sl, oo, rfl⟩, q⟩ := h
  obtain ⟨vh, vo, rfl, hh, ho⟩ := Dms.two_at hd
  refine ⟨_, pss_cons (ps_setLc (i := 2) (own := [("k", 4)]) (g := gName 4) (tt := tTest (tOp (rI0 fun i j => .bl (decide (i < j))) (tBM K "list" (rIndex K) (tVar 1) (tCons (tOp (rIxT K) (tOp (rIxT K) (tOp (rIxT K) (tVar 0) (tC (.int 0))) (tVar 4)) (tC (.int 2))) tNil)) (tBM K "list" (rIndex K) (tVar 1) (tCons (tVar 4) tNil)))) (te := tVar 4) rfl scInOrd.nd rfl rfl rfl (pi_range1 rfl T.range (pa_cons (pe_callB call_len_seq (by rfl) T.len PySem.boot_len (pa_cons (pe_ix ix_tup (pv 0) pe_int (fun _ _ => rfl)) pa_nil)) pa_nil)) (blkOk_by (N := NIo) (sc := defScope sInOrd) (by decide +kernel)) (fun _ _ _ _ _ => pg_name (i := 4) scInOrd.nd rfl (Or.inl rfl))
      (fun _ _ _ _ _ => pts_one (pt_cmpR op_lt (pe_bm PySem.F.plainAttrs_list PySem.F.slot_list_index PySem.F.type_list_index mt_index (pv 1) (pa_cons (pe_ix ix_tup (pe_ix ix_tup (pe_ix ix_tup (pv 0) pe_int (fun _ _ => rfl)) (pv 4) (fun _ _ => rfl)) pe_int (fun _ _ => rfl)) pa_nil)) (pe_bm PySem.F.plainAttrs_list PySem.F.slot_list_index PySem.F.type_list_index mt_index (pv 1) (pa_cons (pv 4) pa_nil)) (nomark _))) (fun _ _ _ _ _ => pv 4))
    (pss_cons (ps_if (pt_cmpR (op_neD hr.units) (pv 2) (pe_lst pa_nil) (nomark _)) (pss_one (ps_ret (pe_tup (pa_cons pe_str (pa_cons (pe_ix ix_list (pv 2) pe_int (fun _ _ => rfl)) pa_nil))))) pss_nil)
    (pss_cons (ps_setLc (i := 3) (own := [("k", 4)]) (g := gName 4) (tt := tYes) (te := tOp (rCatA K) (tSl (rSlA K) (tOp (rIxT K) (tOp (rIxT K) (tVar 0) (tC (.int 0))) (tVar 4)) tNoPart (tPart (tC (.int 2)))) (tTup (tCons (tBM K "list" (rIndex K) (tVar 1) (tCons (tOp (rIxT K) (tOp (rIxT K) (tOp (rIxT K) (tVar 0) (tC (.int 0))) (tVar 4)) (tC (.int 2))) tNil)) tNil))) rfl scInOrd.nd rfl rfl rfl (pi_list (pv 1)) (blkOk_by (N := NIo) (sc := defScope sInOrd) (by decide +kernel)) (fun _ _ _ _ _ => pg_name (i := 4) scInOrd.nd rfl (Or.inl rfl)) (fun _ _ _ _ _ => pts_nil)
      (fun _ _ _ _ _ => pe_op op_catA (pe_slice sl_tupA (pe_ix ix_tup (pe_ix ix_tup (pv 0) pe_int (fun _ _ => rfl)) (pv 4) (fun _ _ => rfl)) po_none (po_some pe_int)) (pe_tup (pa_cons (pe_bm PySem.F.plainAttrs_list PySem.F.slot_list_index PySem.F.type_list_index mt_index (pv 1) (pa_cons (pe_ix ix_tup (pe_ix ix_tup (pe_ix ix_tup (pv 0) pe_int (fun _ _ => rfl)) (pv 4) (fun _ _ => rfl)) pe_int (fun _ _ => rfl)) pa_nil)) pa_nil))))
    (pss_one (ps_ret (pe_tup (pa_cons pe_str (pa_cons (pe_tup (pa_cons (pe_callTy call_tuple_of (by rfl) T.tuple bootTuple (pa_cons (pv 3) pa_nil)) (pa_cons (pe_ix ix_tup (pv 0) pe_int (fun _ _ => rfl)) (pa_cons (pcl CP hr (pa_cons (pv 0) (pa_cons (pv 1) pa_nil))) pa_nil)))) pa_nil))))))), ?_⟩
  have few := oo.few
  have nx : ∀ k, k < ks.length → nxt ks k ∈ o := fun k hk => oo.all _ (nxt_ok kok hk).2.1
  have ekd : ∀ k, k < ks.length → (ks.map kdD)[((k : Int)).toNat]? = some (kdD (kdAt ks k)) := fun k hk => by
    rw [Int.toNat_natCast, List.getElem?_map, kd_at hk]
    rfl
  have tl : EvD K M (tCB (fun xs H Q => ∃ p ys, xs = [V.ref p] ∧ (SqL K H p ys ∨ SqT K H p ys) ∧ Q (.int ys.length) H) (tCons (tOp (rIxT K) (tVar 0) (tC (.int 0))) tNil)) ([some vh, some vo, none, none, none] : L2.St) H (.int (ks.length : Int)) := by
    have z := evd_lenE (evd_ixT (i := 0) (d := .tuple (ks.map kdD)) (evd_var (K := K) (M := M) (σ := [some vh, some vo, none, none, none]) (H := H) (i := 0) rfl hh) evd_int (by decide) rfl)
    rw [List.length_map] at z
    exact z
  have el : EvNL K M _ ([some vh, some vo, none, none, none] : L2.St) H (((List.range ((ks.length : Int)).toNat).filter (lateP ks o)).map fun i : Nat => PyData.int (i : Int)) :=
    evd_lcRF (tb := tVar 4) (tt := tTest (tOp (rI0 fun i j => .bl (decide (i < j))) (tBM K "list" (rIndex K) (tVar 1) (tCons (tOp (rIxT K) (tOp (rIxT K) (tOp (rIxT K) (tVar 0) (tC (.int 0))) (tVar 4)) (tC (.int 2))) tNil)) (tBM K "list" (rIndex K) (tVar 1) (tCons (tVar 4) tNil)))) (vs := [4]) (j := 4) (m := (ks.length : Int)) (lateP ks o) (fun i => .int (i : Int)) kn (evds_cons tl evds_nil) (by omega) (by omega) (by intro z; rfl) (by
      intro Dl hDl i H2 s2 n2 hi
      have hi' : i < ks.length := by omega
      have e0 : EvD K (Dl :: M) (tVar 0) ([some vh, some vo, none, none, some (.int (i : Int))] : L2.St) H2 (hD ks ss j) := evd_var rfl (Dm.s (Dm.more hh hDl) s2)
      have e1 : EvD K (Dl :: M) (tVar 1) ([some vh, some vo, none, none, some (.int (i : Int))] : L2.St) H2 (.list (natD o)) := evd_var rfl (Dm.s (Dm.more ho hDl) s2)
      have e4 : EvD K (Dl :: M) (tVar 4) ([some vh, some vo, none, none, some (.int (i : Int))] : L2.St) H2 (.int (i : Int)) := evd_var rfl (.int _)
      exact evb_test (evd_ltI (evd_index e1 (evd_riseK e0 e4 kok hi') (nx i hi')) (evd_index e1 e4 (oo.all i hi')))) (by
      intro Dl hDl i H2 s2 n2 hi
      exact evd_var (i := 4) rfl (.int _))
  refine sset_of ?_
  refine el H (Sub.refl _) _ fun pl xl H1 s1 hpl hpl2 hxl => ?_
  rw [Int.toNat_natCast] at hxl
  have n1 := kn.sub s1
  have hl1 : Dm K M H1 (.ref pl) (.list (((List.range ks.length).filter (lateP ks o)).map fun i : Nat => PyData.int (i : Int))) := Dm.lstOf (kn.out hpl) hpl2 hxl
  have gl : Good (.list (((List.range ks.length).filter (lateP ks o)).map fun i : Nat => PyData.int (i : Int))) 1000 1 := by
    refine Good.mono (good_lst (n := 20) (k := 0) fun d hd => ?_) ?_ (Nat.le_refl _)
    · obtain ⟨k, hk, rfl⟩ := List.mem_map.mp hd
      have := List.mem_range.mp (List.mem_filter.mp hk).1
      exact good_int (by omega) (by omega)
    · have := List.length_filter_le (lateP ks o) (List.range ks.length)
      rw [List.length_range] at this
      rw [List.length_map]
      omega
  have e2 : EvD K M (tVar 2) ([some vh, some vo, some (.ref pl), none, none] : L2.St) H1 (.list (((List.range ks.length).filter (lateP ks o)).map fun i : Nat => PyData.int (i : Int))) := evd_var rfl hl1
  refine evb_test (evd_neNil e2 (evd_lst n1 evds_nil (by show 0 < 1000000; decide)) gl (by decide)) H1 (Sub.refl _) _ fun H2 s2 => ?_
  have s12 := s1.trans s2
  have n2 := kn.sub s12
  have hf := List.head?_filter (p := lateP ks o) (l := List.range ks.length)
  unfold ordR at q
  rw [← hf] at q
  cases hz : (List.range ks.length).filter (lateP ks o) with
  | cons k r =>
    rw [hz] at q hl1
    rw [if_pos (by rfl)]
    have e2' : EvD K M (tVar 2) ([some vh, some vo, some (.ref pl), none, none] : L2.St) H2 (.list ((k :: r).map fun i : Nat => PyData.int (i : Int))) := evd_var rfl (Dm.s hl1 s2)
    exact evd_ret (K := K) (M := M) (evd_tup n2 (evds_cons evd_str (evds_cons (evd_ixL e2' (evd_int (i := 0)) (by decide) rfl) evds_nil)) lt2) fun y H3 s3 hy => q y H3 (s12.trans s3) hy
  | nil =>
    rw [hz] at q
    rw [if_neg (by show ¬ (!true) = true; decide)]
    unfold tNext
    dsimp only
    have ec := evd_lc (K := K) (M := M) (H := H2) (σ := [some vh, some vo, some (.ref pl), none, none]) (te := tVar 1) (tb := tOp (rCatA K) (tSl (rSlA K) (tOp (rIxT K) (tOp (rIxT K) (tVar 0) (tC (.int 0))) (tVar 4)) tNoPart (tPart (tC (.int 2)))) (tTup (tCons (tBM K "list" (rIndex K) (tVar 1) (tCons (tOp (rIxT K) (tOp (rIxT K) (tOp (rIxT K) (tVar 0) (tC (.int 0))) (tVar 4)) (tC (.int 2))) tNil)) tNil)))
      (vs := [4]) (j := 4) (ordG ks o) n2 (evd_var (i := 1) rfl (Dm.s ho s12)) (by show (o.map _).length < _; rw [List.length_map]; omega) (by intro z; rfl) (by
        intro Dl hDl d x H3 s3 n3 hd3 hx
        obtain ⟨one, hone, rfl⟩ := List.mem_map.mp (show d ∈ o.map fun k : Nat => PyData.int (k : Int) from hd3)
        cases hx.intAt
        have lo := oo.low one hone
        have up : ∀ {v : V} {d : PyData}, Dm K M H2 v d → Dm K (Dl :: M) H3 v d := fun hv => Dm.s (Dm.more hv hDl) s3
        have e0 : EvD K (Dl :: M) (tVar 0) ([some vh, some vo, some (.ref pl), none, some (.int (one : Int))] : L2.St) H3 (hD ks ss j) := evd_var rfl (up (Dm.s hh s12))
        have e1 : EvD K (Dl :: M) (tVar 1) ([some vh, some vo, some (.ref pl), none, some (.int (one : Int))] : L2.St) H3 (.list (natD o)) := evd_var rfl (up (Dm.s ho s12))
        have e4 : EvD K (Dl :: M) (tVar 4) ([some vh, some vo, some (.ref pl), none, some (.int (one : Int))] : L2.St) H3 (.int (one : Int)) := evd_var rfl (.int _)
        have k0 : EvD K (Dl :: M) (tOp (rIxT K) (tVar 0) (tC (.int 0))) ([some vh, some vo, some (.ref pl), none, some (.int (one : Int))] : L2.St) H3 (.tuple (ks.map kdD)) := evd_ixT e0 (evd_int (i := 0)) (by decide) rfl
        have slx := evd_slT n3 (evd_ixT k0 e4 (Int.natCast_nonneg _) (ekd one lo)) evo_none (evo_some (evd_int (K := K) (M := Dl :: M) (i := 2)))
        rw [cutD_to (by decide) (by show (2 : Int) ≤ 3; decide)] at slx
        have eg : ordG ks o (.int (one : Int)) = .tuple ([PyData.str (kdAt ks one).1, .bool (kdAt ks one).2.1] ++ [.int ((idxN o (nxt ks one) : Nat) : Int)]) := by
          show kdD (ordKd ks o ((one : Int)).toNat) = _
          rw [Int.toNat_natCast]
          rfl
        rw [eg]
        exact evd_catT n3 slx (evd_tup n3 (evds_cons (evd_index e1 (evd_riseK e0 e4 kok lo) (nx one lo)) evds_nil) lt1) (by show 2 + 1 < 1000000; decide))
    rw [ordG_map] at ec
    refine sset_of ?_
    refine ec H2 (Sub.refl _) _ fun pf xf H3 s3 hpf hpf3 hxf => ?_
    have s13 := s12.trans s3
    have n3 := kn.sub s13
    have hf3 : Dm K M H3 (.ref pf) (.list ((o.map (ordKd ks o)).map kdD)) := Dm.lstOf (n2.out hpf) hpf3 hxf
    have e0 : EvD K M (tVar 0) ([some vh, some vo, some (.ref pl), some (.ref pf), none] : L2.St) H3 (hD ks ss j) := evd_var rfl (Dm.s hh s13)
    have e1 : EvD K M (tVar 1) ([some vh, some vo, some (.ref pl), some (.ref pf), none] : L2.St) H3 (.list (natD o)) := evd_var rfl (Dm.s ho s13)
    have ef : EvD K M (tVar 3) ([some vh, some vo, some (.ref pl), some (.ref pf), none] : L2.St) H3 (.list ((o.map (ordKd ks o)).map kdD)) := evd_var rfl hf3
    have ep : EvD K M _ ([some vh, some vo, some (.ref pl), some (.ref pf), none] : L2.St) H3 (.tuple ((j.map tabD).map (tabG o))) :=
      evd_pure (rel := rLPicked) (E := E0) n3 (evds_cons e0 (evds_cons e1 evds_nil)) ⟨_, _, j, ks.length, ss.length, o, rfl, ok, oo.low, few, by omega, by omega, rfl⟩
    exact evd_ret (K := K) (M := M) (evd_tup n3 (evds_cons evd_str (evds_cons (evd_tup n3 (evds_cons (evd_tcP n3 ef) (evds_cons (evd_ixT e0 (evd_int (i := 1)) (by decide) rfl) (evds_cons ep evds_nil))) lt3) evds_nil)) lt2) fun y H7 s7 hy => q y H7 (s13.trans s7) hy
end
end KZ

namespace KZ
open PySem PySem.Spec PyProof.Rows L2 LamX
/-! dicts from texts to texts -/
abbrev SS := List (Str × Str)
def dkL (ps : SS) : List (Key × V) := ps.map fun p => (.inr p.1, .str p.2)
def lkS (ps : SS) (x : Str) : Option Str := (ps.find? fun p => decide (p.1 = x)).map (·.2)
theorem inr_iff (a x : Str) : decide ((Sum.inr a : Key) = Sum.inr x) = decide (a = x) := by
  by_cases z : a = x
  · rw [decide_eq_true z, decide_eq_true (by rw [z])]
  · rw [decide_eq_false z, decide_eq_false fun y => z (Sum.inr.inj y)]
theorem val_dk (x : Str) : ∀ ps : SS, valV (dkL ps) (.inr x) = (lkS ps x).map V.str
  | [] => rfl
  | p :: ps => by
    have ih := val_dk x ps
    unfold valV lkS dkL at ih ⊢
    rw [List.map_cons, List.find?_cons, List.find?_cons]
    have e : decide (((Sum.inr p.1 : Key), V.str p.2).1 = Sum.inr x) = decide (p.1 = x) := inr_iff p.1 x
    rw [e]
    by_cases z : p.1 = x
    · rw [decide_eq_true z]
      rfl
    · rw [decide_eq_false z]
      exact ih
theorem lk_of_mem {x v : Str} : ∀ {ps : SS}, (ps.map (·.1)).Nodup → (x, v) ∈ ps → lkS ps x = some v
  | [], _, h => nomatch h
  | p :: ps, nd, h => by
    rw [List.map_cons, List.nodup_cons] at nd
    unfold lkS
    rw [List.find?_cons]
    rcases List.mem_cons.mp h with z | z
    · rw [← z, decide_eq_true rfl]
      rfl
    · have ne : p.1 ≠ x := fun e => nd.1 (by rw [e]; exact List.mem_map.mpr ⟨_, z, rfl⟩)
      rw [decide_eq_false ne]
      exact lk_of_mem nd.2 z
theorem mem_of_lk {x v : Str} : ∀ {ps : SS}, lkS ps x = some v → (x, v) ∈ ps
  | [], h => nomatch h
  | p :: ps, h => by
    unfold lkS at h
    rw [List.find?_cons] at h
    by_cases z : p.1 = x
    · rw [decide_eq_true z] at h
      have e : p.2 = v := Option.some.inj h
      rw [← z, ← e]
      exact List.mem_cons_self
    · rw [decide_eq_false z] at h
      exact List.mem_cons_of_mem _ (mem_of_lk h)
theorem lk_perm {ps qs : SS} (h : qs.Perm ps) (nd : (ps.map (·.1)).Nodup) (x : Str) : lkS qs x = lkS ps x := by
  have nd2 : (qs.map (·.1)).Nodup := (h.map (·.1)).nodup_iff.mpr nd
  cases e : lkS ps x with
  | some v => exact lk_of_mem nd2 (h.mem_iff.mpr (mem_of_lk e))
  | none =>
    cases e2 : lkS qs x with
    | none => rfl
    | some v =>
      rw [lk_of_mem nd (h.mem_iff.mp (mem_of_lk e2))] at e
      cases e
theorem put_new : ∀ (acc : SS) (p : Str × Str), p.1 ∉ acc.map (·.1) → putK (dkL acc) (.inr p.1) (.str p.2) = dkL (acc ++ [p]) := fun acc p h => by
  unfold putK
  rw [if_neg]
  · unfold dkL
    rw [List.map_append]
    rfl
  · intro z
    obtain ⟨kv, hk, e⟩ := List.any_eq_true.mp z
    obtain ⟨q, hq, rfl⟩ := List.mem_map.mp hk
    have e' : (Sum.inr q.1 : Key) = Sum.inr p.1 := of_decide_eq_true e
    exact h (List.mem_map.mpr ⟨q, hq, Sum.inr.inj e'⟩)
theorem merge_go : ∀ (ps acc : SS), ((acc ++ ps).map (·.1)).Nodup → mergeK (dkL acc) (dkL ps) = dkL (acc ++ ps)
  | [], acc, _ => by
    rw [List.append_nil]
    rfl
  | p :: ps, acc, nd => by
    have out : p.1 ∉ acc.map (·.1) := by
      rw [List.map_append, List.map_cons] at nd
      intro m
      exact (List.nodup_append.mp nd).2.2 _ m _ List.mem_cons_self rfl
    show mergeK (putK (dkL acc) (.inr p.1) (.str p.2)) (dkL ps) = _
    rw [put_new acc p out, merge_go ps (acc ++ [p]) (by rw [List.append_assoc]; exact nd), List.append_assoc]
    rfl
theorem merge_nd {ps : SS} (nd : (ps.map (·.1)).Nodup) : mergeK [] (dkL ps) = dkL ps := merge_go ps [] nd
section
variable {K : PySem.W.Frag} {M : List Addr} {σ : L2.St} {H : Hp} {te tb : TE} {ds : List PyData}
/-- d[x] -/
theorem evd_dget {i : Nat} {a : Addr} {ps : SS} {x v : Str} (hv : σ[i]? = some (some (.ref a))) (e : H a = some (.dK (dkL ps))) (hx : EvD K M te σ H (.str x)) (l : lkS ps x = some v) : EvD K M (tDGet (tVar i) te) σ H (.str v) := fun H1 s Q q =>
  ⟨.ref a, hv, hx H1 s _ fun y H2 s2 hy => by
    cases hy.strAt
    exact ⟨a, .str v, rfl, .inl ⟨dkL ps, .inr x, .inl (s2 _ _ (s _ _ e)), rfl, by rw [val_dk, l]; rfl⟩, q _ H2 s2 (.str _)⟩⟩
/-- [.. for x, y, z in a tuple of threes] -/
theorem evn_lc3 {vs : List Nat} {i1 i2 i3 : Nat} {g : TG} (f : PyData → PyData) (n : Kn M H) (h : EvD K M te σ H (.tuple ds)) (hz : ds.length < 100000) (three : ∀ d ∈ ds, ∃ a b c, d = .tuple [a, b, c])
    (hg : ∀ (a : Addr) (v1 v2 v3 : V) (H1 : Hp) (k : L2.St → Hp → Prop), SqT K H1 a [v1, v2, v3] → k ((((wipe σ vs).set i1 (some v1)).set i2 (some v2)).set i3 (some v3)) H1 → g (.ref a) (wipe σ vs) H1 k)
    (hw : ∀ v1 v2 v3, wipe ((((wipe σ vs).set i1 (some v1)).set i2 (some v2)).set i3 (some v3)) vs = wipe σ vs)
    (he : ∀ (Dl : Addr), H Dl = none → ∀ (a b c : PyData) (v1 v2 v3 : V) (H1 : Hp), Sub H H1 → Kn (Dl :: M) H1 → .tuple [a, b, c] ∈ ds → Dm K (Dl :: M) H1 v1 a → Dm K (Dl :: M) H1 v2 b → Dm K (Dl :: M) H1 v3 c →
      EvD K (Dl :: M) tb ((((wipe σ vs).set i1 (some v1)).set i2 (some v2)).set i3 (some v3)) H1 (f (.tuple [a, b, c]))) : EvNL K M (tLc (iTup K te) g tYes tb vs) σ H (ds.map f) := fun H1 s Q q =>
  h H1 s _ fun v H2 s2 hv => by
    obtain ⟨a, xs, rfl, hs, ha⟩ := hv.tupAtE
    have s02 := s.trans s2
    have hl := ha.len
    refine ⟨a, rfl, ⟨xs, (er_sub _ _).sqT hs⟩, fun Dl hDl => ?_⟩
    have h0D : H Dl = none := s02.free hDl
    refine lc_tup (K := K) (a := a) (xs := xs) (fun i H' => Sub H2 H' ∧ ∃ acc, H' Dl = some (.lst acc) ∧ Dms K (Dl :: M) H' acc ((ds.take i).map f) ∧ SqT K (er (Dl :: M) H') a xs ∧ Dms K (Dl :: M) H' xs ds)
      ⟨Sub.new hDl, [], upd_same, .nil, Sub.sqT (Kp.er (Kp.mut List.mem_cons_self)) (by rw [er_more hDl]; exact hs), (ha.more hDl).k (Kp.mut List.mem_cons_self)⟩ (fun i H' _ p => ?_) (fun i x H' hi p => ?_) (fun H' p => ?_)
    · obtain ⟨_, acc, _, _, p3, _⟩ := p
      exact (er_sub _ _).sqT p3
    · obtain ⟨sp, acc, p1, p2, p3, p4⟩ := p
      obtain ⟨d, hd, hx⟩ := p4.get' hi
      obtain ⟨d1, d2, d3, rfl⟩ := three d (List.mem_of_getElem? hd)
      obtain ⟨t, v1, v2, v3, rfl, hst, g1, g2, g3⟩ := Dm.threeT hx
      refine hg t v1 v2 v3 H' _ hst ⟨hw _ _ _, ?_⟩
      unfold tYes
      dsimp only
      rw [if_pos rfl]
      refine he Dl h0D d1 d2 d3 v1 v2 v3 H' (s02.trans sp) ((n.sub (s02.trans sp)).more ⟨_, p1⟩) (List.mem_of_getElem? hd) g1 g2 g3 H' (Sub.refl _) _ fun y H3 s3 hy => ⟨acc, s3 _ _ p1, ?_, ?_⟩
      · have q1 := p2.len
        rw [List.length_map, List.length_take] at q1
        exact szl (by omega)
      · have km : Kp (Dl :: M) H3 (upd H3 Dl (.lst (acc ++ [y]))) := Kp.mut List.mem_cons_self
        refine ⟨(sp.trans s3).mut hDl, _, upd_same, ?_, Sub.sqT km.er (Sub.sqT (Kp.er fun a o _ e => s3 a o e) p3), (Dms.s p4 s3).k km⟩
        rw [take_snoc hd, List.map_append]
        exact Dms.k ((Dms.s p2 s3).app (DpAll.one hy)) km
    · obtain ⟨sp, acc, p1, p2, p3, p4⟩ := p
      rw [hl, List.take_length] at p2
      exact q Dl acc H' (s2.trans sp) (s2.free hDl) p1 p2
end
def renS (sp : SS) (x : Str) : Str := (lkS sp x).getD ""
def renK (kp : SS) (k : Kd) : Kd := (renS kp k.1, k.2.1, k.2.2)
def renD (kp : SS) : PyData → PyData
  | .tuple (.str x :: r) => .tuple (.str (renS kp x) :: r)
  | d => d
theorem renD_map (kp : SS) (ks : List Kd) : (ks.map kdD).map (renD kp) = (ks.map (renK kp)).map kdD := by
  rw [List.map_map, List.map_map]
  rfl
def renT (sp : SS) : PyData → PyData
  | .str x => .str (renS sp x)
  | d => d
theorem renT_map (sp : SS) (ss : List Str) : (ss.map PyData.str).map (renT sp) = (ss.map (renS sp)).map PyData.str := by
  rw [List.map_map, List.map_map]
  rfl
theorem ren_some {sp : SS} {x : Str} (h : ∃ v, lkS sp x = some v) : lkS sp x = some (renS sp x) := by
  obtain ⟨v, e⟩ := h
  unfold renS
  rw [e]
  rfl
def houR (kp sp : SS) (ks : List Kd) (ss : List Str) (j : Jud) : PyData := .tuple [.tuple ((ks.map (renK kp)).map kdD), .tuple ((ss.map (renS sp)).map PyData.str), judD j]
def spRen (K : PySem.W.Frag) : Sp := fun vs H Q _ => ∃ (M : List Addr) (vh : V) (a b : Addr) (kp sp : SS) (ks : List Kd) (ss : List Str) (j : Jud), vs = [vh, .ref a, .ref b] ∧ Kn M H ∧ Dm K M H vh (hD ks ss j) ∧ H a = some (.dK (dkL kp)) ∧ H b = some (.dK (dkL sp)) ∧ ks.length < 100 ∧ ss.length < 100 ∧
  (∀ k ∈ ks, ∃ v, lkS kp k.1 = some v) ∧ (∀ x ∈ ss, ∃ v, lkS sp x = some v) ∧ ∀ y H', Sub H H' → Dm K M H' y (houR kp sp ks ss j) → Q y H'
section
variable {P : Program} {w : World} {K : PySem.W.Frag} {mg : Str → Option Value} {base : Heap}
abbrev sRen : Stmt := topS 10
abbrev NRe : List Str := ["house", "kinds", "sorts", "fresh", "name", "keeps", "rise"]
theorem scRen : FnScope NRe ["house", "kinds", "sorts"] (defScope sRen) := ⟨rfl, rfl, rfl, by decide +kernel, rfl, by decide +kernel, by decide +kernel⟩
theorem ok_Ren {f : Addr} {fd : FuncData} (F : Fun K "renamed_house" "renamed_house" sRen f fd) (T : Txt mg) : FnOk P w K mg base CX0 1 f fd ["house", "kinds", "sorts"] (spRen K) := by
  refine F.ok scRen (fun vs H Q E h => ?_) (fun cdv A outer s H vs Q E hr h => ?_)
  · obtain ⟨_, _, _, _, _, _, _, _, _, rfl, _⟩ := h
    rfl
  obtain ⟨M, vh, a, b, kp, sp, ks, ss, j, rfl, kn, hh, ha, hb, kl, sl, hk, hsr, q⟩ := h
  refine ⟨_, pss_cons (ps_setLc (i := 3) (own := [("name", 4), ("keeps", 5), ("rise", 6)]) (g := gTup K 3 (gCons (gName 4) (gCons (gName 5) (gCons (gName 6) gNil)))) (tt := tYes) (te := tTup (tCons (tDGet (tVar 1) (tVar 4)) (tCons (tVar 5) (tCons (tVar 6) tNil)))) rfl scRen.nd rfl rfl rfl (pi_tup (pe_ix ix_tup (pv 0) pe_int (fun _ _ => rfl))) (blkOk_by (N := NRe) (sc := defScope sRen) (by decide +kernel)) (fun _ _ _ _ _ => pg_tup rfl (pgs_cons (pg_name (i := 4) scRen.nd rfl (Or.inl rfl)) (pgs_cons (pg_name (i := 5) scRen.nd rfl (Or.inl rfl)) (pgs_cons (pg_name (i := 6) scRen.nd rfl (Or.inl rfl)) pgs_nil)))) (fun _ _ _ _ _ => pts_nil)
      (fun _ _ _ _ _ => pe_tup (pa_cons (pe_dget (hu_of hr) (pv 1) (pv 4) (fun _ _ => rfl)) (pa_cons (pv 5) (pa_cons (pv 6) pa_nil)))))
    (pss_one (ps_ret (pe_tup (pa_cons (pe_callTy call_tuple_of (by rfl) T.tuple bootTuple (pa_cons (pv 3) pa_nil)) (pa_cons (pe_callTy call_tuple_of (by rfl) T.tuple bootTuple (pa_cons
        (pe_lc (own := [("name", 4)]) (g := gName 4) (tt := tYes) (te := tDGet (tVar 2) (tVar 4)) rfl scRen.nd (pi_tup (pe_ix ix_tup (pv 0) pe_int (fun _ _ => rfl))) (blkOk_by (N := NRe) (sc := defScope sRen) (by decide +kernel)) (fun _ _ _ _ _ => pg_name (i := 4) scRen.nd rfl (Or.inl rfl)) (fun _ _ _ _ _ => pts_nil) (fun _ _ _ _ _ => pe_dget (hu_of hr) (pv 2) (pv 4) (fun _ _ => rfl))) pa_nil))
      (pa_cons (pe_ix ix_tup (pv 0) pe_int (fun _ _ => rfl)) pa_nil)))))), ?_⟩
  have e0 : EvD K M (tVar 0) ([some vh, some (.ref a), some (.ref b), none, none, none, none] : L2.St) H (hD ks ss j) := evd_var rfl hh
  have ec := evn_lc3 (K := K) (M := M) (H := H) (σ := [some vh, some (.ref a), some (.ref b), none, none, none, none]) (te := tOp (rIxT K) (tVar 0) (tC (.int 0))) (tb := tTup (tCons (tDGet (tVar 1) (tVar 4)) (tCons (tVar 5) (tCons (tVar 6) tNil)))) (vs := [4, 5, 6]) (i1 := 4) (i2 := 5) (i3 := 6) (renD kp) kn (evd_ixT e0 (evd_int (i := 0)) (by decide) rfl) (ds := ks.map kdD) (by rw [List.length_map]; omega) (fun d hd => by
      obtain ⟨k, _, rfl⟩ := List.mem_map.mp hd
      exact ⟨_, _, _, rfl⟩) (g := gTup K 3 (gCons (gName 4) (gCons (gName 5) (gCons (gName 6) gNil)))) (fun t v1 v2 v3 H1 k hs hk => ⟨t, _, rfl, hs, rfl, _, _, rfl, _, _, rfl, _, _, rfl, rfl, hk⟩) (by intro z1 z2 z3; rfl) (by
      intro Dl hDl d1 d2 d3 v1 v2 v3 H1 s1 n1 hd h1 h2 h3
      obtain ⟨k, hkm, e⟩ := List.mem_map.mp hd
      cases e
      cases h1.strAt
      exact evd_tup n1 (evds_cons (evd_dget (i := 1) (a := a) (ps := kp) rfl (s1 _ _ ha) (evd_var (i := 4) rfl (.str _)) (ren_some (hk k hkm))) (evds_cons (evd_var (i := 5) rfl h2) (evds_cons (evd_var (i := 6) rfl h3) evds_nil))) lt3)
  rw [renD_map] at ec
  refine sset_of ?_
  refine ec H (Sub.refl _) _ fun pf xf H1 s1 hpf hpf1 hxf => ?_
  have n1 := kn.sub s1
  have hf1 : Dm K M H1 (.ref pf) (.list ((ks.map (renK kp)).map kdD)) := Dm.lstOf (kn.out hpf) hpf1 hxf
  have e0' : EvD K M (tVar 0) ([some vh, some (.ref a), some (.ref b), some (.ref pf), none, none, none] : L2.St) H1 (hD ks ss j) := evd_var rfl (Dm.s hh s1)
  have es := evd_lcT (K := K) (M := M) (H := H1) (σ := [some vh, some (.ref a), some (.ref b), some (.ref pf), none, none, none]) (te := tOp (rIxT K) (tVar 0) (tC (.int 1))) (tb := tDGet (tVar 2) (tVar 4)) (vs := [4]) (j := 4) (ds := ss.map PyData.str) (renT sp) n1 (evd_ixT e0' (evd_int (i := 1)) (by decide) rfl) (by rw [List.length_map]; omega) (by intro z; rfl) (by
    intro Dl hDl d x H3 s3 n3 hd hx
    obtain ⟨z, hz, rfl⟩ := List.mem_map.mp hd
    cases hx.strAt
    exact evd_dget (i := 2) (a := b) (ps := sp) rfl (s3 _ _ (s1 _ _ hb)) (evd_var (i := 4) rfl (.str _)) (ren_some (hsr z hz)))
  rw [renT_map] at es
  exact evd_ret (K := K) (M := M) (evd_tup n1 (evds_cons (evd_tcP n1 (evd_var (i := 3) rfl hf1)) (evds_cons (evd_tcP n1 (EvNL.toD n1 es)) (evds_cons (evd_ixT e0' (evd_int (i := 2)) (by decide) rfl) evds_nil))) lt3) fun y H7 s7 hy => q y H7 (s1.trans s7) hy
end
end KZ

namespace KZ
open PySem PySem.Spec PyProof.Rows L2 LamX
/-! what two dicts are shown as -/
def ssD (ps : SS) : List (PyData × PyData) := ps.map fun p => (.str p.1, .str p.2)
def ddD (kp sp : SS) : PyData := .list [.dict (ssD kp), .dict (ssD sp)]
theorem read_dk {P : Program} {w : World} {h : Heap} : ∀ {ps : SS} {es : List DictEntry} {vs : List (Key × Value)}, Pairs (mixKind P w) es vs → KV (dkL ps) vs → ReadsAll h (es.map (·.key)) ((ssD ps).map (·.1)) [] ∧ ReadsAll h (es.map (·.val)) ((ssD ps).map (·.2)) []
  | [], es, vs, pr, kv => by
    unfold KV dkL at kv
    cases kv
    cases pr
    exact ⟨.nil, .nil⟩
  | p :: ps, es, vs, pr, kv => by
    unfold KV dkL at kv
    rw [List.map_cons] at kv
    cases kv with
    | @cons _ kv0 _ kvs0 h1 h2 =>
      cases pr with
      | @cons e0 _ es0 _ k1 k2 k3 =>
        obtain ⟨ek, rv⟩ := h1
        obtain ⟨r1, r2⟩ := read_dk (h := h) (ps := ps) k3 h2
        have kk : keyIs (.inr p.1) e0.key = true := by
          rw [show (Sum.inr p.1 : Key) = kv0.1 from ek]
          exact k1
        rcases keyIs_shape kk with ⟨i, t, z, _⟩ | ⟨x, t, z, e⟩
        · cases z
        · cases z
          obtain ⟨t2, e2⟩ := (show ∃ t, kv0.2 = Value.str p.2 t from rv)
          rw [List.map_cons, List.map_cons]
          refine ⟨?_, ?_⟩
          · rw [e]
            exact ReadsAll.cons (Reads.str _ _) r1
          · rw [k2, e2]
            exact ReadsAll.cons (Reads.str _ _) r2
theorem dict_len (ts : List Str) : (dictText ts).length ≤ piled ts + 2 := by
  unfold dictText
  rw [strLen_append, strLen_append]
  by_cases z : ts = []
  · rw [z]
    decide +kernel
  · have := join_length_add ts z
    have e1 : (("{" : Str)).length = 1 := rfl
    have e2 : (("}" : Str)).length = 1 := rfl
    omega
theorem kv_len : ∀ {ps : SS}, (∀ p ∈ ps, p.1 ∈ NamesX ∧ p.2 ∈ NamesX) → piled (PyData.shownKv (ssD ps)) ≤ ps.length * 50
  | [], _ => by
    show piled [] ≤ _
    simp [piled]
  | p :: ps, h => by
    have ih := kv_len fun q hq => h q (List.mem_cons_of_mem _ hq)
    obtain ⟨h1, h2⟩ := h p List.mem_cons_self
    have l1 := (namesX_ok _ h1).2
    have l2 := (namesX_ok _ h2).2
    show piled (PyData.shownKv ((.str p.1, .str p.2) :: ssD ps)) ≤ _
    simp only [PyData.shownKv, PyData.shown]
    rw [piled_cons, strLen_append, strLen_append, List.length_cons]
    have e : ((": " : Str)).length = 2 := rfl
    omega
theorem show_kv : ∀ ps : SS, PyData.showableKv (ssD ps) = true
  | [] => by
    show PyData.showableKv [] = true
    simp only [PyData.showableKv]
  | p :: ps => by
    show PyData.showableKv ((.str p.1, .str p.2) :: ssD ps) = true
    simp only [PyData.showableKv, PyData.showable, show_kv ps, Bool.and_self]
theorem dep_kv : ∀ ps : SS, PyData.depthKv (ssD ps) = 0
  | [] => by
    show PyData.depthKv [] = 0
    simp only [PyData.depthKv]
  | p :: ps => by
    show PyData.depthKv ((.str p.1, .str p.2) :: ssD ps) = 0
    simp only [PyData.depthKv, PyData.depth, dep_kv ps]
    rfl
def Small (ps : SS) : Prop := ps.length < 10 ∧ ∀ p ∈ ps, p.1 ∈ NamesX ∧ p.2 ∈ NamesX
section
variable {X : Cx} {pins : List (Addr × Obj)} {σ : L2.St} {H : Hp} {s : Shared}
theorem reads_dk {a : Addr} {ps : SS} (I : L2.Inv X pins σ H s) (e : H a = some (.dK (dkL ps))) : Reads s.heap (.ref a) (.dict (ssD ps)) [a] ∧ a ≠ sysModules := by
  obtain ⟨_, hd, vs, rel, o, es, ep, ho, ex, hda, _, pr, _⟩ := dk_of I.hok e
  obtain ⟨r1, r2⟩ := read_dk (h := s.heap) pr rel
  refine ⟨Reads.dict ho ex.1 hda r1 r2, fun z => ?_⟩
  rw [z] at hd
  exact absurd hd (by decide)
def rReprDD : List V → Hp → VK → Prop := fun xs H Q => ∃ (p a b : Addr) (kp sp : SS), xs = [.ref p] ∧ p ≠ sysModules ∧ H p = some (.lst [.ref a, .ref b]) ∧ H a = some (.dK (dkL kp)) ∧ H b = some (.dK (dkL sp)) ∧ Small kp ∧ Small sp ∧ Q (.str (PyData.shown (ddD kp sp))) H
theorem call_reprDD (hg : X.A.guards = some []) (hu : X.A.units + 64 < cLine) : CallR X (.builtin "repr") rReprDD := by
  intro pins s σ H xs us Q I r wish
  obtain ⟨p, a, b, kp, sp, rfl, np, hp, ha, hb, k1, k2, fin⟩ := wish
  obtain ⟨y, rfl, ry⟩ := vals1 r
  obtain rfl : y = Value.ref p := ry
  obtain ⟨its, rv, ⟨ob, n, get, hc, _, hda⟩, _⟩ := I.list (SqL.of hp)
  obtain ⟨x1, x2, rfl, ex1, ex2⟩ := Vals.two rv
  obtain rfl : x1 = Value.ref a := ex1
  obtain rfl : x2 = Value.ref b := ex2
  obtain ⟨ra, na⟩ := reads_dk I ha
  obtain ⟨rb, nb⟩ := reads_dk I hb
  have rr : Reads s.heap (.ref p) (ddD kp sp) (p :: ([a] ++ ([b] ++ []))) := Reads.list get hc hda (ReadsAll.cons ra (ReadsAll.cons rb ReadsAll.nil))
  have sh : PyData.showable (ddD kp sp) = true := by
    unfold ddD
    simp only [PyData.showable, PyData.showableAll, show_kv, Bool.and_self]
  have dp : PyData.depth (ddD kp sp) ≤ 2 := by
    unfold ddD
    simp only [PyData.depth, PyData.depthAll, dep_kv]
    decide
  have ln : (PyData.shown (ddD kp sp)).length < 1000000 := by
    have a1 := kv_len k1.2
    have a2 := kv_len k2.2
    have b1 := dict_len (PyData.shownKv (ssD kp))
    have b2 := dict_len (PyData.shownKv (ssD sp))
    unfold ddD
    simp only [PyData.shown, PyData.shownAll]
    have c := listText_len_le [dictText (PyData.shownKv (ssD kp)), dictText (PyData.shownKv (ssD sp))]
    simp only [List.map_cons, List.map_nil, List.sum_cons, List.sum_nil, List.length_cons, List.length_nil] at c
    have s1 := k1.1
    have s2 := k2.1
    omega
  exact repr_of_reads' rr sh (fun _ => by simp [np.symm, na.symm, nb.symm]) hg (by omega) (fun _ _ e => e) (fun h' u tk hk' => ⟨.str _, H, I.kept (t' := tk) hk', ⟨_, rfl⟩, fin⟩) (Nat.le_of_lt (szl ln))
/-- a list of written items, that stands elsewhere than the modules do -/
def tLstB (t : TA) : TE := fun σ H Q => t σ H fun xs H1 => xs.length ≤ sizeLine ∧ ∀ p, p ≠ sysModules → H1 p = none → Q (.ref p) (upd H1 p (.lst xs))
theorem pe_lstB {es : List Expr} {t : TA} {pos : Pos} (h : PA X es t) : PE X (.List es pos) (tLstB t) := by
  refine ⟨fun pins s σ H Q I hq => ?_⟩
  refine wpAny_List_spliced (thn (h.run pos pins s σ H _ I hq) fun us s1 ⟨xs, H1, I1, r, z, q⟩ => ⟨by rw [← r.length]; exact z, ?_⟩)
  refine ⟨.ref s1.heap.objs.size, upd H1 s1.heap.objs.size (.lst xs), I1.laid (t' := s1.toks) (fun b u e => Heap.get?_push_of_some _ e) (Nat.le_refl _) ⟨z, us, 0, r, Heap.get?_push_size _ rfl⟩, rfl, q _ (Nat.ne_of_gt I1.big) (I1.hok.fresh (Nat.le_refl _))⟩
theorem lstB_of {tr : TA} {σ : L2.St} {H : Hp} {Q : VK} (h : tr σ H fun xs H1 => xs.length ≤ sizeLine ∧ ∀ p, p ≠ sysModules → H1 p = none → Q (.ref p) (upd H1 p (.lst xs))) : tLstB tr σ H Q := h
end
end KZ

namespace KZ
open PySem PySem.Spec PyProof.Rows L2 LamX LiI
theorem paired_perm {α β : Type} {R : α → β → Prop} {xs xs' : List α} (h : xs'.Perm xs) : ∀ {ys : List β}, Paired R xs ys → ∃ ys', Paired R xs' ys' ∧ ys'.Perm ys := by
  induction h with
  | nil =>
    intro ys p
    cases p
    exact ⟨[], .nil, .nil⟩
  | @cons x l1 l2 _ ih =>
    intro ys p
    cases p with
    | cons h1 h2 =>
      obtain ⟨ys', p', q'⟩ := ih h2
      exact ⟨_ :: ys', .cons h1 p', q'.cons _⟩
  | @swap x y l =>
    intro ys p
    cases p with
    | cons h1 h2 =>
      cases h2 with
      | cons h2 h3 => exact ⟨_, .cons h2 (.cons h1 h3), .swap ..⟩
  | @trans l1 l2 l3 _ _ ih1 ih2 =>
    intro ys p
    obtain ⟨y1, p1, q1⟩ := ih2 p
    obtain ⟨y2, p2, q2⟩ := ih1 p1
    exact ⟨y2, p2, q2.trans q1⟩
def unR : V → Addr
  | .ref a => a
  | _ => 0
theorem perm_ref {ys : List V} {ts : List Addr} (h : ys.Perm (ts.map V.ref)) : ∃ us : List Addr, ys = us.map V.ref ∧ us.Perm ts := by
  refine ⟨ys.map unR, ?_, ?_⟩
  · rw [List.map_map]
    have z : ∀ e ∈ ys, (V.ref ∘ unR) e = e := fun e he => by
      obtain ⟨x, _, rfl⟩ := List.mem_map.mp (h.mem_iff.mp he)
      rfl
    exact (List.map_id ys).symm.trans (List.map_congr_left fun e he => (z e he).symm)
  · have q := h.map unR
    rw [List.map_map] at q
    have e : ts.map (unR ∘ V.ref) = ts := List.map_id ts
    rw [e] at q
    exact q
theorem perm_dk {kvs : List (Key × V)} {ps : SS} (h : kvs.Perm (dkL ps)) : ∃ qs : SS, kvs = dkL qs ∧ qs.Perm ps := by
  have un : ∃ f : Key × V → Str × Str, ∀ p : Str × Str, f (.inr p.1, .str p.2) = p := ⟨fun kv => match kv with
    | (.inr x, .str y) => (x, y)
    | _ => ("", ""), fun p => rfl⟩
  obtain ⟨f, hf⟩ := un
  refine ⟨kvs.map f, ?_, ?_⟩
  · unfold dkL
    rw [List.map_map]
    have z : ∀ e ∈ kvs, ((fun p : Str × Str => ((Sum.inr p.1 : Key), V.str p.2)) ∘ f) e = e := fun e he => by
      obtain ⟨x, _, rfl⟩ := List.mem_map.mp (h.mem_iff.mp he)
      show ((Sum.inr (f (.inr x.1, .str x.2)).1 : Key), V.str (f (.inr x.1, .str x.2)).2) = _
      rw [hf]
    exact (List.map_id kvs).symm.trans (List.map_congr_left fun e he => (z e he).symm)
  · have q := h.map f
    unfold dkL at q
    rw [List.map_map] at q
    have e : ps.map (f ∘ fun p => (.inr p.1, .str p.2)) = ps := (List.map_congr_left fun p _ => hf p).trans (List.map_id ps)
    rw [e] at q
    exact q
theorem paired_mono {α β : Type} {R S : α → β → Prop} {xs : List α} {ys : List β} (h : Paired R xs ys) (k : ∀ x ∈ xs, ∀ y, R x y → S x y) : Paired S xs ys := by
  induction h with
  | nil => exact .nil
  | cons h1 _ ih => exact .cons (k _ List.mem_cons_self _ h1) (ih fun x hx => k x (List.mem_cons_of_mem _ hx))
theorem paired_length {α β : Type} {R : α → β → Prop} {xs : List α} {ys : List β} (h : Paired R xs ys) : xs.length = ys.length := by
  induction h with
  | nil => rfl
  | cons _ _ ih => rw [List.length_cons, List.length_cons, ih]
/-- dict(a list of pairs) -/
def rDictP (K : PySem.W.Frag) : List V → Hp → VK → Prop := fun xs H Q => ∃ (a : Addr) (ps : List Addr) (kvs : List (Key × V)), xs = [.ref a] ∧ SqL K H a (ps.map V.ref) ∧ Paired (fun p kv => SqT K H p [kV kv.1, kv.2]) ps kvs ∧ ∀ p, H p = none → Q (.ref p) (upd H p (.dK (mergeK [] kvs)))
section
variable {K : PySem.W.Frag} {σ : L2.St} {H : Hp} {b l a : Addr} {ps : SS} {Q : VK} {i j : Nat}
/-- dict(_law_mixed(bag, list(d.items()))) -/
theorem dict_mixed (hb : σ[i]? = some (some (.ref b))) (hd : σ[j]? = some (some (.ref a))) (bag : Bag b l H) (e : H a = some (.dK (dkL ps))) (nd : (ps.map (·.1)).Nodup) (few : ps.length < 1000)
    (q : ∀ (p : Addr) (qs : SS) (H' : Hp), Fr b l H H' → H p = none → H' p = some (.dK (dkL qs)) → qs.Perm ps → Q (.ref p) H') :
    tCB (rDictP K) (tCons (tCall (spMixedV K) [] E0 (tCons (tVar i) (tCons (tListItems (tVar j)) tNil))) tNil) σ H Q := by
  refine cb_args ⟨_, hb, args1 ⟨_, hd, a, dkL ps, rfl, e, fun H1 p1 ts keep hp1 hts _ e1 pr => ?_⟩⟩
  have s1 : Sub H H1 := keep
  have bag1 := bag.kp s1
  have p1b : p1 ≠ b := ne_new bag.at hp1
  have many := paired_length pr
  have dl : (dkL ps).length = ps.length := List.length_map _
  refine ⟨b, l, p1, ts.map V.ref, rfl, bag1, SqL.of (by rw [er_in (by simp [p1b])]; exact e1), by rw [List.length_map]; omega, fun p2 ys H2 f2 hp2 e2 perm => ?_⟩
  obtain ⟨us, rfl, pu⟩ := perm_ref perm
  obtain ⟨kvs', pr', pk⟩ := paired_perm pu pr
  obtain ⟨qs, rfl, pq⟩ := perm_dk pk
  have nd' : (qs.map (·.1)).Nodup := (pq.map (·.1)).nodup_iff.mpr nd
  refine ⟨p2, us, dkL qs, rfl, SqL.of e2, paired_mono pr' fun t ht kv hk => ?_, fun p3 hp3 => ?_⟩
  · have tb : t ≠ b := ne_new bag.at (hts t (pu.mem_iff.mp ht))
    exact SqT.of (f2.k t _ (by simp [tb]) hk)
  · rw [merge_nd nd']
    have f3 : Fr b l H (upd H2 p3 (.dK (dkL qs))) := (Fr.sub bag s1).trans (f2.trans (Fr.new f2.bag hp3))
    exact q p3 qs _ f3 ((Fr.sub bag s1).trans f2 |>.free bag hp3) upd_same pq
end
/-- dict(zip(x, y)) -/
def tDZ (K : PySem.W.Frag) (ta : TA) : TE := fun σ H Q => ta σ H fun vs H1 => ∃ (a b : Addr) (xs ys : List Str), vs = [.ref a, .ref b] ∧ (SqL K H1 a (xs.map V.str) ∨ SqT K H1 a (xs.map V.str)) ∧ SqL K H1 b (ys.map V.str) ∧ xs.length = ys.length ∧ xs.length ≤ 1000 ∧
  ∀ p, H1 p = none → Q (.ref p) (upd H1 p (.dK (mergeK [] (dkL (xs.zip ys)))))
end KZ

/-! dict(zip(a, b)): a zip whose parts are told by what a next of them does, so that one can be a tuple and the other a list -/
namespace DZ
open PySem
open PySem.Sem (wp)
/-- an iterator at i over l, whose things are xs; St k: k of them were given -/
structure Nx (prog : Program) (w : World) (i l : Addr) (xs : Array Value) (St : Nat → Heap → Prop) : Prop where
  keep : ∀ {k : Nat} {h h' : Heap}, St k h → (∀ o, h.get? i = some o → h'.get? i = some o) → (∀ o, h.get? l = some o → h'.get? l = some o) → St k h'
  lt : ∀ {k : Nat} {h : Heap}, St k h → i < h.objs.size ∧ l < h.objs.size
  there : ∀ {k : Nat} {h : Heap}, St k h → (∃ o, h.get? i = some o) ∧ ∃ o, h.get? l = some o
  item : ∀ {A : Around} {E : Value → Shared → Prop} {s : Shared} {Q : Value → Shared → Prop} {k : Nat} {x : Value}, St k s.heap → xs[k]? = some x → (∀ h', St (k + 1) h' → Heap.SameBut i s.heap h' → Q x { s with heap := h' }) → wpAny (model prog w) A (Builtin.SmallTypes.nextOf (.ref i)) Q E s
  stop : ∀ {A : Around} {E : Value → Shared → Prop} {s : Shared} {Q : Value → Shared → Prop} {k : Nat}, A.handled = none → St k s.heap → xs[k]? = none → (∀ h' e, Heap.ExtBut i s.heap h' → (∃ o, h'.get? e = some o ∧ o.cls = .type "StopIteration") → E (.ref e) { s with heap := h' }) → wpAny (model prog w) A (Builtin.SmallTypes.nextOf (.ref i)) Q E s
theorem nxL {prog : Program} {w : World} {i l : Addr} {xs : Array Value} (ne : l ≠ i) : Nx prog w i l xs fun k h => h.IsListIter i l k ∧ h.IsList l xs where
  keep := fun st a b => ⟨st.1.at a, st.2.at b⟩
  lt := fun st => ⟨(by obtain ⟨_, e, _⟩ := st.1; exact Heap.lt_size e), (by obtain ⟨_, e, _⟩ := st.2; exact Heap.lt_size e)⟩
  there := fun st => ⟨(by obtain ⟨_, e, _⟩ := st.1; exact ⟨_, e⟩), (by obtain ⟨_, e, _⟩ := st.2; exact ⟨_, e⟩)⟩
  item := fun st hx q => wpAny_nextOf_list_item st.1 st.2 hx fun h' a b => q h' ⟨a, st.2.extBut b.extBut ne⟩ b
  stop := fun hh st hx q => wpAny_nextOf_list_end hh st.1 st.2 hx q
theorem nxT {prog : Program} {w : World} {i l : Addr} {xs : Array Value} (ne : l ≠ i) : Nx prog w i l xs fun k h => h.IsTupleIter i l k ∧ h.IsTuple l xs where
  keep := fun st a b => ⟨st.1.at a, st.2.at b⟩
  lt := fun st => ⟨(by obtain ⟨_, e, _⟩ := st.1; exact Heap.lt_size e), (by obtain ⟨_, e, _⟩ := st.2; exact Heap.lt_size e)⟩
  there := fun st => ⟨(by obtain ⟨_, e, _⟩ := st.1; exact ⟨_, e⟩), (by obtain ⟨_, e, _⟩ := st.2; exact ⟨_, e⟩)⟩
  item := fun st hx q => RZ.nextOf_tuple_item st.1 st.2 hx fun h' a b => q h' ⟨a, st.2.extBut b.extBut ne⟩ b
  stop := fun hh st hx q => RZ.nextOf_tuple_end hh st.1 st.2 hx q
section
variable {prog : Program} {w : World} {A : Around} {E : Value → Shared → Prop} {s : Shared} {z TI TO T i1 i2 l1 l2 : Addr} {k1 k2 : Nat} {xs ys : Array Value} {x y a b : Value} {S1 S2 : Nat → Heap → Prop}
theorem first_item {Q : Value → Shared → Prop} (D : ZipApart z TI TO i1 i2 l1 l2) (n1 : Nx prog w i1 l1 xs S1) (n2 : Nx prog w i2 l2 ys S2)
    (hz : IsZip s.heap z TI TO .none) (hTI : IsPair s.heap TI (.ref i1) (.ref i2)) (hTO : IsPair s.heap TO a b) (h1 : S1 k1 s.heap) (h2 : S2 k2 s.heap) (hx : xs[k1]? = some x) (hy : ys[k2]? = some y)
    (hQ : ∀ h', IsZip h' z TI TO (rawInt s.heap.objs.size) → S1 (k1 + 1) h' → S2 (k2 + 1) h' → IsPair h' s.heap.objs.size x y → (∀ c o, c ≠ z → c ≠ TO → c ≠ i1 → c ≠ i2 → s.heap.get? c = some o → h'.get? c = some o) → Q (.ref s.heap.objs.size) { s with heap := h' }) :
    wpAny (model prog w) A (Builtin.«zip.__next__» ⟨[.ref z], []⟩) (fun fin s' => ∃ v, fin = .done (.ret v) ∧ Q v s') E s := by
  show wpAny _ _ (field (.ref z) 2 >>= _) _ _ _
  refine wpAny_bind (wpAny_field hz rfl (x := .bool false) rfl ?_)
  show wpAny _ _ (field (.ref z) 3 >>= _) _ _ _
  refine wpAny_bind (wpAny_field hz rfl (x := .ref TI) rfl ?_)
  refine wpAny_bind (wpAny_seqItems hTI rfl ?_)
  show wpAny _ _ (Builtin.SmallTypes.ownedTupleIsFree (.ref z) >>= _) _ _ _
  refine wpAny_bind ?_
  unfold Builtin.SmallTypes.ownedTupleIsFree
  refine wpAny_bind (wpAny_field hz rfl (x := .none) rfl (wpAny_pure ?_))
  simp only [if_true]
  refine wpAny_bind (wpAny_rule ?_)
  refine wpAny_bind (wpAny_field hz rfl (x := .ref TO) rfl ?_)
  refine wpAny_bind (wpAny_setField_rec hz (by simp) fun g1 z1 b1 => ?_)
  replace z1 : IsZip g1 z TI TO .ellipsis := z1
  refine wpAny_bind ?_
  simp only [List.zipIdx_cons, List.zipIdx_nil, List.forIn_cons, List.forIn_nil]
  refine wpAny_bind (wpAny_bind (wpAny_onRaise ?_))
  show wpAny _ _ (Builtin.SmallTypes.nextOf (.ref i1) >>= _) _ _ _
  refine wpAny_bind (n1.item (s := { s with heap := g1 }) (n1.keep h1 (fun o => b1.extBut _ _ D.i1z) fun o => b1.extBut _ _ D.l1z) hx fun g2 p2 b2 => wpAny_pure ?_)
  have t2 : IsPair g2 TO a b := b2.extBut _ _ D.TOi1 (b1.extBut _ _ D.TOz hTO)
  refine wpAny_bind (wpAny_seqItems t2 rfl ?_)
  refine wpAny_bind (wpAny_updateSeq_pair t2 fun g3 t3 b3 => ?_)
  replace t3 : IsPair g3 TO x b := t3
  refine wpAny_bind (wpAny_letGo (wpAny_pure ?_))
  refine wpAny_bind (wpAny_bind (wpAny_onRaise ?_))
  show wpAny _ _ (Builtin.SmallTypes.nextOf (.ref i2) >>= _) _ _ _
  refine wpAny_bind (n2.item (s := { s with heap := g3 }) (n2.keep h2 (fun o e => b3.extBut _ _ D.TOi2.symm (b2.extBut _ _ D.i12.symm (b1.extBut _ _ D.i2z e))) fun o e => b3.extBut _ _ D.l2TO (b2.extBut _ _ D.l2i1 (b1.extBut _ _ D.l2z e))) hy fun g4 p4 b4 => wpAny_pure ?_)
  have t4 : IsPair g4 TO x b := b4.extBut _ _ D.TOi2 t3
  refine wpAny_bind (wpAny_seqItems t4 rfl ?_)
  refine wpAny_bind (wpAny_updateSeq_pair t4 fun g5 t5 b5 => ?_)
  replace t5 : IsPair g5 TO x y := t5
  refine wpAny_bind (wpAny_letGo (wpAny_pure (wpAny_pure ?_)))
  refine wpAny_bind (wpAny_seqItems t5 rfl ?_)
  refine wpAny_bind (wpAny_newTuple ?_)
  have hsz : g5.objs.size = s.heap.objs.size := by rw [b5.1, b4.1, b3.1, b2.1, b1.1]
  have k5 : ∀ c o, c ≠ TO → c ≠ i1 → c ≠ i2 → g1.get? c = some o → g5.get? c = some o := fun c o c2 c3 c4 e => b5.extBut _ _ c2 (b4.extBut _ _ c4 (b3.extBut _ _ c2 (b2.extBut _ _ c3 e)))
  have z5 : IsZip g5 z TI TO .ellipsis := k5 _ _ D.TOz.symm D.i1z.symm D.i2z.symm z1
  have p5 : S1 (k1 + 1) g5 := n1.keep p2 (fun o e => b5.extBut _ _ D.TOi1.symm (b4.extBut _ _ D.i12 (b3.extBut _ _ D.TOi1.symm e))) fun o e => b5.extBut _ _ D.l1TO (b4.extBut _ _ D.l1i2 (b3.extBut _ _ D.l1TO e))
  have q5 : S2 (k2 + 1) g5 := n2.keep p4 (fun o => b5.extBut _ _ D.TOi2.symm) fun o => b5.extBut _ _ D.l2TO
  have zl : z < g5.objs.size := Heap.lt_size z5
  show wpAny _ _ (Builtin.SmallTypes.ownedTupleHandOut (.ref z) (.ref g5.objs.size) >>= _) _ _ _
  refine wpAny_bind ?_
  unfold Builtin.SmallTypes.ownedTupleHandOut
  have z6 : IsZip (g5.push { cls := .type "tuple", data := .seq #[x, y] }) z TI TO .ellipsis := Heap.get?_push_of_some _ z5
  refine wpAny_bind (wpAny_setField_rec z6 (by simp) fun g7 z7 b7 => ?_)
  replace z7 : IsZip g7 z TI TO (rawInt g5.objs.size) := z7
  refine wpAny_setField_rec z7 (by simp) fun g8 z8 b8 => ?_
  replace z8 : IsZip g8 z TI TO (rawInt g5.objs.size) := z8
  have up : ∀ c o, c ≠ z → g5.get? c = some o → g8.get? c = some o := fun c o c1 e => b8.extBut _ _ c1 (b7.extBut _ _ c1 (Heap.get?_push_of_some _ e))
  have t8 : IsPair g8 g5.objs.size x y := b8.extBut _ _ (Nat.ne_of_gt zl) (b7.extBut _ _ (Nat.ne_of_gt zl) (Heap.get?_push_size _ rfl))
  rw [hsz] at z8 t8
  refine wpAny_pure ⟨_, rfl, ?_⟩
  show Q (.ref g5.objs.size) _
  rw [hsz]
  exact hQ g8 z8 (n1.keep p5 (fun o => up _ o D.i1z) fun o => up _ o D.l1z) (n2.keep q5 (fun o => up _ o D.i2z) fun o => up _ o D.l2z) t8 fun c o c1 c2 c3 c4 e => up c o c1 (k5 c o c2 c3 c4 (b1.extBut _ _ c1 e))
theorem later_item {f : Bool} {oT : Obj} {Q : Value → Shared → Prop} (D : ZipApart z TI TO i1 i2 l1 l2) (n1 : Nx prog w i1 l1 xs S1) (n2 : Nx prog w i2 l2 ys S2)
    (hz : IsZipHeld s.heap z TI TO T f) (hT : s.heap.get? T = some oT) (hTI : IsPair s.heap TI (.ref i1) (.ref i2)) (h1 : S1 k1 s.heap) (h2 : S2 k2 s.heap) (hx : xs[k1]? = some x) (hy : ys[k2]? = some y)
    (hQ : ∀ h', IsZipHeld h' z TI TO T true → S1 (k1 + 1) h' → S2 (k2 + 1) h' → IsPair h' s.heap.objs.size x y → (∀ c o, c ≠ z → c ≠ i1 → c ≠ i2 → s.heap.get? c = some o → h'.get? c = some o) → Q (.ref s.heap.objs.size) { s with heap := h' }) :
    wpAny (model prog w) A (Builtin.«zip.__next__» ⟨[.ref z], []⟩) (fun fin s' => ∃ v, fin = .done (.ret v) ∧ Q v s') E s := by
  show wpAny _ _ (field (.ref z) 2 >>= _) _ _ _
  refine wpAny_bind (wpAny_field hz rfl (x := .bool false) rfl ?_)
  show wpAny _ _ (field (.ref z) 3 >>= _) _ _ _
  refine wpAny_bind (wpAny_field hz rfl (x := .ref TI) rfl ?_)
  refine wpAny_bind (wpAny_seqItems hTI rfl ?_)
  show wpAny _ _ (Builtin.SmallTypes.ownedTupleIsFree (.ref z) >>= _) _ _ _
  refine wpAny_bind (wpAny_tupleHeld_zip hz hT fun g1 z1 b1 => ?_)
  simp only [Bool.false_eq_true, if_false]
  refine wpAny_bind ?_
  rw [← Array.forIn_toList]
  simp only [List.forIn_cons, List.forIn_nil]
  refine wpAny_bind (wpAny_bind (wpAny_holding ?_))
  show wpAny _ _ (Builtin.SmallTypes.nextOf (.ref i1) >>= _) _ _ _
  refine wpAny_bind (n1.item (s := { s with heap := g1 }) (n1.keep h1 (fun o => b1.extBut _ _ D.i1z) fun o => b1.extBut _ _ D.l1z) hx fun g2 p2 b2 => wpAny_pure ?_)
  refine wpAny_pure ?_
  refine wpAny_bind (wpAny_bind (wpAny_holding ?_))
  show wpAny _ _ (Builtin.SmallTypes.nextOf (.ref i2) >>= _) _ _ _
  refine wpAny_bind (n2.item (s := { s with heap := g2 }) (n2.keep h2 (fun o e => b2.extBut _ _ D.i12.symm (b1.extBut _ _ D.i2z e)) fun o e => b2.extBut _ _ D.l2i1 (b1.extBut _ _ D.l2z e)) hy fun g3 p3 b3 => wpAny_pure ?_)
  refine wpAny_pure (wpAny_pure ?_)
  show wpAny _ _ (newTuple [x, y] >>= _) _ _ _
  refine wpAny_bind (wpAny_newTuple ?_)
  have hsz : g3.objs.size = s.heap.objs.size := by rw [b3.1, b2.1, b1.1]
  have up : ∀ c o, c ≠ i1 → c ≠ i2 → g1.get? c = some o → (g3.push { cls := .type "tuple", data := .seq #[x, y] }).get? c = some o := fun c o c1 c2 e => Heap.get?_push_of_some _ (b3.extBut _ _ c2 (b2.extBut _ _ c1 e))
  have t4 : IsPair (g3.push { cls := .type "tuple", data := .seq #[x, y] }) g3.objs.size x y := Heap.get?_push_size _ rfl
  refine wpAny_pure ⟨_, rfl, ?_⟩
  show Q (.ref g3.objs.size) _
  rw [hsz] at t4 ⊢
  exact hQ _ (up _ _ D.i1z.symm D.i2z.symm z1) (n1.keep p2 (fun o e => Heap.get?_push_of_some _ (b3.extBut _ _ D.i12 e)) fun o e => Heap.get?_push_of_some _ (b3.extBut _ _ D.l1i2 e)) (n2.keep p3 (fun o e => Heap.get?_push_of_some _ e) fun o e => Heap.get?_push_of_some _ e) t4 fun c o c1 c2 c3 e => up c o c2 c3 (b1.extBut _ _ c1 e)
theorem later_end {f : Bool} {oT : Obj} {Q : Fin → Shared → Prop} (hh : A.handled = none) (D : ZipApart z TI TO i1 i2 l1 l2) (n1 : Nx prog w i1 l1 xs S1) (n2 : Nx prog w i2 l2 ys S2)
    (hz : IsZipHeld s.heap z TI TO T f) (hT : s.heap.get? T = some oT) (hTI : IsPair s.heap TI (.ref i1) (.ref i2)) (h1 : S1 k1 s.heap) (hend : xs[k1]? = none)
    (hE : ∀ h' e, (∀ c o, c ≠ z → c ≠ i1 → c ≠ i2 → s.heap.get? c = some o → h'.get? c = some o) → (∃ o, h'.get? e = some o ∧ o.cls = .type "StopIteration") → E (.ref e) { s with heap := h' }) :
    wpAny (model prog w) A (Builtin.«zip.__next__» ⟨[.ref z], []⟩) Q E s := by
  show wpAny _ _ (field (.ref z) 2 >>= _) _ _ _
  refine wpAny_bind (wpAny_field hz rfl (x := .bool false) rfl ?_)
  show wpAny _ _ (field (.ref z) 3 >>= _) _ _ _
  refine wpAny_bind (wpAny_field hz rfl (x := .ref TI) rfl ?_)
  refine wpAny_bind (wpAny_seqItems hTI rfl ?_)
  show wpAny _ _ (Builtin.SmallTypes.ownedTupleIsFree (.ref z) >>= _) _ _ _
  refine wpAny_bind (wpAny_tupleHeld_zip hz hT fun g1 z1 b1 => ?_)
  simp only [Bool.false_eq_true, if_false]
  refine wpAny_bind ?_
  rw [← Array.forIn_toList]
  simp only [List.forIn_cons, List.forIn_nil]
  refine wpAny_bind (wpAny_bind (wpAny_holding ?_))
  show wpAny _ _ (Builtin.SmallTypes.nextOf (.ref i1) >>= _) _ _ _
  exact wpAny_bind (n1.stop (s := { s with heap := g1 }) hh (n1.keep h1 (fun o => b1.extBut _ _ D.i1z) fun o => b1.extBut _ _ D.l1z) hend fun g2 e b2 he => hE g2 e (fun c o c1 c2 _ x => b2 _ _ c2 (b1.extBut _ _ c1 x)) he)
end
/-- a zip of things of one length, one at least, as dict's argument -/
theorem zipArg {prog : Program} {w : World} {z TI TO i1 i2 l1 l2 : Addr} {xs ys : Array Value} {S1 S2 : Nat → Heap → Prop} (D : ZipApart z TI TO i1 i2 l1 l2) (n1 : Nx prog w i1 l1 xs S1) (n2 : Nx prog w i2 l2 ys S2) (hn : xs.size = ys.size) (pos : 0 < xs.size) :
    PairArg prog w "zip" z [z, TI, TO, i1, i2, l1, l2] [z, TO, i1, i2] xs.size (fun i k v => xs[i]? = some k ∧ ys[i]? = some v)
      (fun h => IsZip h z TI TO .none ∧ IsPair h TI (.ref i1) (.ref i2) ∧ (∃ a b, IsPair h TO a b) ∧ S1 0 h ∧ S2 0 h) where
  type := fun s ok => ⟨_, ok.1, rfl⟩
  notDict := by decide
  keep := fun h h' ok hk => by
    obtain ⟨hz, hTI, ⟨a, b, hTO⟩, h1, h2⟩ := ok
    exact ⟨hk _ _ hz, hk _ _ hTI, ⟨a, b, hk _ _ hTO⟩, n1.keep h1 (fun o => hk _ o) fun o => hk _ o, n2.keep h2 (fun o => hk _ o) fun o => hk _ o⟩
  there := fun h ok b hb => by
    obtain ⟨hz, hTI, ⟨a, c, hTO⟩, h1, h2⟩ := ok
    obtain ⟨x1, y1⟩ := n1.there h1
    obtain ⟨x2, y2⟩ := n2.there h2
    simp only [List.mem_cons, List.not_mem_nil, or_false] at hb
    rcases hb with rfl | rfl | rfl | rfl | rfl | rfl | rfl
    · exact ⟨_, hz⟩
    · exact ⟨_, hTI⟩
    · exact ⟨_, hTO⟩
    · exact x1
    · exact x2
    · exact y1
    · exact y2
  sub := fun b hb => by simp at hb ⊢; rcases hb with rfl | rfl | rfl | rfl <;> simp
  noKeys := fun A s Q E hA ok h => getAttrOr_miss_zip ok.1 rfl rfl rfl zip_no_keys (by decide +kernel) hA h
  iter := fun A s d Q E hA ok hd hdf h => by
    obtain ⟨hz, hTI, ⟨a, b, hTO⟩, h1, h2⟩ := ok
    simp only [List.mem_cons, List.not_mem_nil, or_false, not_or] at hdf
    obtain ⟨dz, dTI, dTO, di1, di2, dl1, dl2⟩ := hdf
    refine wpAny_pyIter_zip hz (h z [z, TO, i1, i2] (fun i h => IsPair h TI (.ref i1) (.ref i2) ∧ S1 i h ∧ S2 i h ∧
      ((i = 0 ∧ IsZip h z TI TO .none ∧ ∃ a b, IsPair h TO a b) ∨ ∃ T f oT, IsZipHeld h z TI TO T f ∧ h.get? T = some oT ∧ T ≠ z ∧ T ≠ i1 ∧ T ≠ i2 ∧ T ≠ d)) s.heap s.toks ?_
      ⟨hTI, h1, h2, .inl ⟨rfl, hz, a, b, hTO⟩⟩ (fun _ _ e => e) fun b hb => .inl hb)
    exact {
      off := fun hm => by
        simp only [List.mem_cons, List.not_mem_nil, or_false] at hm
        rcases hm with e | e | e | e
        · exact dz e
        · exact dTO e
        · exact di1 e
        · exact di2 e
      frame := fun i h₁ h₂ st hk => by
        obtain ⟨hTI, h1, h2, hz⟩ := st
        refine ⟨hk _ _ (Ne.symm dTI) hTI, n1.keep h1 (fun o => hk _ o (Ne.symm di1)) fun o => hk _ o (Ne.symm dl1), n2.keep h2 (fun o => hk _ o (Ne.symm di2)) fun o => hk _ o (Ne.symm dl2), ?_⟩
        rcases hz with ⟨i0, hz, a, b, hTO⟩ | ⟨T, f, oT, hz, hT, r1, r2, r3, r4⟩
        · exact .inl ⟨i0, hk _ _ (Ne.symm dz) hz, a, b, hk _ _ (Ne.symm dTO) hTO⟩
        · exact .inr ⟨T, f, oT, hk _ _ (Ne.symm dz) hz, hk _ _ r4 hT, r1, r2, r3, r4⟩
      item := fun i s₁ Q₁ E₁ hi st hds hQ => by
        obtain ⟨hTI, h1, h2, hz⟩ := st
        have ex := Array.getElem?_eq_getElem hi
        have ey := Array.getElem?_eq_getElem (show i < ys.size by omega)
        have m1 : s₁.heap.objs.size ≠ i1 := Nat.ne_of_gt (n1.lt h1).1
        have m2 : s₁.heap.objs.size ≠ i2 := Nat.ne_of_gt (n2.lt h2).1
        have off : ∀ {h' : Heap}, (∀ c o, c ≠ z → c ≠ TO → c ≠ i1 → c ≠ i2 → s₁.heap.get? c = some o → h'.get? c = some o) → ∀ b o, b ∉ [z, TO, i1, i2] → s₁.heap.get? b = some o → h'.get? b = some o := fun hk c o hc e => by
          simp only [List.mem_cons, List.not_mem_nil, or_false, not_or] at hc
          exact hk c o hc.1 hc.2.1 hc.2.2.1 hc.2.2.2 e
        have hTy : s₁.TypeIs (.ref z) "zip" := by
          rcases hz with ⟨i0, hz, _⟩ | ⟨T, f, oT, hz, _⟩
          · exact ⟨_, hz, rfl⟩
          · exact ⟨_, hz, rfl⟩
        unfold pyNext
        refine wpAny_bind (wpAny_attempt (wpAny_callSpecial?_slot (name := Str.ofString "__next__") hTy F.slot_zip_next (wpAny_call_entry F.slot_zip_next hTy F.entry_zip_next ?_ (F.args_zip_next_1 _))))
        rcases hz with ⟨i0, hz, a, b, hTO⟩ | ⟨T, f, oT, hz, hT, r1, r2, r3, r4⟩
        · refine first_item D n1 n2 hz hTI hTO h1 h2 ex ey fun h' a1 a3 a4 a5 hk => wpAny_pure ?_
          exact hQ s₁.heap.objs.size _ _ h' s₁.toks ⟨ex, ey⟩ (.inl ⟨_, a5, rfl, _, rfl⟩)
            ⟨hk _ _ D.TIz D.TITO D.TIi1 D.TIi2 hTI, a3, a4, .inr ⟨s₁.heap.objs.size, false, _, a1, a5, Nat.ne_of_gt (Heap.lt_size hz), m1, m2, Nat.ne_of_gt hds⟩⟩ (off hk)
        · refine later_item D n1 n2 hz hT hTI h1 h2 ex ey fun h' a1 a3 a4 a5 hk => wpAny_pure ?_
          exact hQ s₁.heap.objs.size _ _ h' s₁.toks ⟨ex, ey⟩ (.inl ⟨_, a5, rfl, _, rfl⟩)
            ⟨hk _ _ D.TIz D.TIi1 D.TIi2 hTI, a3, a4, .inr ⟨T, true, oT, a1, hk _ _ r1 r2 r3 hT, r1, r2, r3, r4⟩⟩ (off fun c o c1 _ c3 c4 e => hk c o c1 c3 c4 e)
      done := fun s₁ Q₁ E₁ st hQ => by
        obtain ⟨hTI, h1, h2, hz⟩ := st
        rcases hz with ⟨i0, hz, a, b, hTO⟩ | ⟨T, f, oT, hz, hT, r1, r2, r3, r4⟩
        · omega
        · have hTy : s₁.TypeIs (.ref z) "zip" := ⟨_, hz, rfl⟩
          unfold pyNext
          refine wpAny_bind (wpAny_attempt (wpAny_callSpecial?_slot (name := Str.ofString "__next__") hTy F.slot_zip_next (wpAny_call_entry F.slot_zip_next hTy F.entry_zip_next
            (later_end hA D n1 n2 hz hT hTI h1 (Array.getElem?_eq_none (Nat.le_refl _)) fun h' e hk he => ?_) (F.args_zip_next_1 _))))
          obtain ⟨o, ho, hc⟩ := he
          refine wpAny_bind (wpAny_isInstance (T := "StopIteration") (b := true) ⟨o, ho, hc⟩ isSubtype_stop ?_)
          refine wpAny_pure (hQ h' s₁.toks fun c o hc e => ?_)
          simp only [List.mem_cons, List.not_mem_nil, or_false, not_or] at hc
          exact hk c o hc.1 hc.2.2.1 hc.2.2.2 e }
end DZ

namespace DZ
open PySem
open PySem.Sem (wp)
abbrev m1 (h : Heap) (l1 : Addr) : Heap := h.push { cls := .type "tuple_iterator", data := .fields #[.ref l1, .int 0 0] }
abbrev m2 (h : Heap) (l1 l2 : Addr) : Heap := (m1 h l1).push { cls := .type "list_iterator", data := .fields #[.ref l2, .int 0 0] }
abbrev m3 (h : Heap) (l1 l2 : Addr) : Heap := (m2 h l1 l2).push { cls := .type "tuple", data := .seq #[.ref h.objs.size, .ref (m1 h l1).objs.size] }
abbrev m4 (h : Heap) (l1 l2 : Addr) : Heap := (m3 h l1 l2).push { cls := .type "tuple", data := .seq #[.none, .none] }
abbrev m5 (h : Heap) (l1 l2 : Addr) : Heap := (m4 h l1 l2).push { cls := .type "zip", data := .fields #[.none, .bool false, .bool false, .ref (m2 h l1 l2).objs.size, .ref (m3 h l1 l2).objs.size] }
theorem meets_new (l1 l2 : Addr) (xs ys : Array Value) :
    Meets (Builtin.«zip.__new__» ⟨[.type "zip", .ref l1, .ref l2], []⟩) (fun _ R s => s.heap.IsTuple l1 xs ∧ s.heap.IsList l2 ys ∧
      R (.ok (.ret (.ref (m4 s.heap l1 l2).objs.size))) { s with heap := m5 s.heap l1 l2 }) :=
  .of_wp fun prog w A R s h => by
    obtain ⟨hp, g, d, tk, os⟩ := s
    obtain ⟨a1, a2, h⟩ := h
    have hsub := sub_zip
    have hL1 : Heap.IsTuple (Shared.heap ⟨hp, g, d, tk, os⟩) l1 xs := a1
    have hL2 : Heap.IsList (Shared.heap ⟨hp.push { cls := .type "tuple_iterator", data := .fields #[.ref l1, .int 0 0] }, g, d, tk, os⟩) l2 ys := Heap.IsList.push a2 _
    wp_walk using wpAny_pyIter_tuple hL1, wpAny_pyIter_list hL2
    exact ⟨_, rfl, h⟩
theorem call_zipTL {prog : Program} {w : World} {A : Around} {E : Value → Shared → Prop} {s : Shared} {l1 l2 : Addr} {xs ys : Array Value} {Q : Value → Shared → Prop} (a1 : s.heap.IsTuple l1 xs) (a2 : s.heap.IsList l2 ys)
    (h : ∀ h', IsZip h' (s.heap.objs.size + 4) (s.heap.objs.size + 2) (s.heap.objs.size + 3) .none → IsPair h' (s.heap.objs.size + 2) (.ref s.heap.objs.size) (.ref (s.heap.objs.size + 1)) →
      IsPair h' (s.heap.objs.size + 3) .none .none → h'.IsTupleIter s.heap.objs.size l1 0 → h'.IsListIter (s.heap.objs.size + 1) l2 0 → h'.objs.size = s.heap.objs.size + 5 →
      (∀ c o, s.heap.get? c = some o → h'.get? c = some o) → Q (.ref (s.heap.objs.size + 4)) { s with heap := h' }) :
    wpAny (model prog w) A (call (.type "zip") [.ref l1, .ref l2]) Q E s := by
  refine callType_new F.called_zip (by decide) (F.typeCall_zip_2 _ _) (F.newCall_zip_2 _ _) (fun obj => F.args_object_init_3 obj _ _) F.entry_zip_new (meets_new l1 l2 xs ys) ⟨a1, a2, ?_⟩
  have n0 : (m1 s.heap l1).objs.size = s.heap.objs.size + 1 := Heap.size_push ..
  have n2 : (m2 s.heap l1 l2).objs.size = s.heap.objs.size + 2 := by rw [Heap.size_push, n0]
  have n3 : (m3 s.heap l1 l2).objs.size = s.heap.objs.size + 3 := by rw [Heap.size_push, n2]
  have n4 : (m4 s.heap l1 l2).objs.size = s.heap.objs.size + 4 := by rw [Heap.size_push, n3]
  have n5 : (m5 s.heap l1 l2).objs.size = s.heap.objs.size + 5 := by rw [Heap.size_push, n4]
  have u4 : ∀ c o, (m4 s.heap l1 l2).get? c = some o → (m5 s.heap l1 l2).get? c = some o := fun c o => Heap.get?_push_of_some _
  have u3 : ∀ c o, (m3 s.heap l1 l2).get? c = some o → (m5 s.heap l1 l2).get? c = some o := fun c o e => u4 c o (Heap.get?_push_of_some _ e)
  have u2 : ∀ c o, (m2 s.heap l1 l2).get? c = some o → (m5 s.heap l1 l2).get? c = some o := fun c o e => u3 c o (Heap.get?_push_of_some _ e)
  have u1 : ∀ c o, (m1 s.heap l1).get? c = some o → (m5 s.heap l1 l2).get? c = some o := fun c o e => u2 c o (Heap.get?_push_of_some _ e)
  have g5 : (m5 s.heap l1 l2).get? (m4 s.heap l1 l2).objs.size = some _ := Heap.get?_push_size _ rfl
  have g4 := u4 _ _ (Heap.get?_push_size _ rfl)
  have g3 := u3 _ _ (Heap.get?_push_size _ rfl)
  have g2 := u2 _ _ (Heap.get?_push_size _ rfl)
  have g1 := u1 _ _ (Heap.get?_push_size _ rfl)
  show _ ∧ _
  rw [n2, n3, n4] at g5
  rw [n0, n2] at g3
  rw [n3] at g4
  rw [n0] at g2
  rw [n4]
  exact ⟨⟨_, g5, rfl⟩, h _ g5 g3 g4 ⟨_, g1, rfl, rfl⟩ ⟨_, g2, rfl, rfl⟩ n5 fun c o e => u1 _ _ (Heap.get?_push_of_some _ e)⟩
end DZ
namespace KZ
open PySem PySem.Spec PyProof.Rows L2 LamX LiI DZ
theorem prs_of {P : Program} {w : World} : ∀ {xs ys : List Str} {us vs : List Value}, Vals (xs.map V.str) us → Vals (ys.map V.str) vs → xs.length = ys.length →
    ∃ prs : List (Key × Value), KV (dkL (xs.zip ys)) prs ∧ prs.length = xs.length ∧ ∀ (i : Nat) (key v : Value), us[i]? = some key → vs[i]? = some v → ∃ k : Key, prs[i]? = some (k, v) ∧ keyIs k key = true
  | [], ys, us, vs, h1, h2, hl => by
    cases h1
    exact ⟨[], .nil, rfl, fun i key v e _ => by cases e⟩
  | x :: xs, [], us, vs, h1, h2, hl => by cases hl
  | x :: xs, y :: ys, us, vs, h1, h2, hl => by
    rw [List.map_cons] at h1 h2
    cases h1 with
    | @cons _ u _ us r1 t1 =>
      cases h2 with
      | @cons _ v _ vs r2 t2 =>
        obtain ⟨prs, kv, pl, pr⟩ := prs_of (P := P) (w := w) t1 t2 (Nat.succ.inj hl)
        have ku : keyIs (.inr x) u = true := kV_is (P := P) (w := w) (k := .inr x) r1
        refine ⟨(.inr x, v) :: prs, .cons ⟨rfl, r2⟩ kv, by rw [List.length_cons, List.length_cons, pl], fun i key w e1 e2 => ?_⟩
        cases i with
        | zero =>
          cases e1
          cases e2
          exact ⟨_, rfl, ku⟩
        | succ i => exact pr i key w e1 e2
section
variable {X : Cx}
theorem dz_end {pins : List (Addr × Obj)} {σ : L2.St} {H1 : Hp} {s1 : Shared} {h' : Heap} {Q : VK} {xs ys : List Str} {us vs : List Value} {z TI TO i1 i2 l1 l2 : Addr} {S1 S2 : Nat → Heap → Prop} {E : Value → Shared → Prop} (hc : X.calm = true) (I1 : Inv X pins σ H1 s1) (hk : ∀ c o, s1.heap.get? c = some o → h'.get? c = some o)
    (D : ZipApart z TI TO i1 i2 l1 l2) (n1 : Nx X.prog X.w i1 l1 us.toArray S1) (n2 : Nx X.prog X.w i2 l2 vs.toArray S2) (r1 : Vals (xs.map V.str) us) (r2 : Vals (ys.map V.str) vs) (hl : xs.length = ys.length) (pos : 0 < xs.length) (few : xs.length ≤ 1000)
    (ok : IsZip h' z TI TO .none ∧ IsPair h' TI (.ref i1) (.ref i2) ∧ (∃ a b, IsPair h' TO a b) ∧ S1 0 h' ∧ S2 0 h') (new : ∀ c ∈ [z, TO, i1, i2], s1.heap.objs.size ≤ c) (le : s1.heap.objs.size ≤ h'.objs.size)
    (q : ∀ p, H1 p = none → Q (.ref p) (upd H1 p (.dK (mergeK [] (dkL (xs.zip ys)))))) :
    wpAny (model X.prog X.w) X.A (call (.type "dict") [.ref z]) (fun v s2 => ∃ v' H2, Inv X pins σ H2 s2 ∧ RelV v' v ∧ Q v' H2) E { s1 with heap := h' } := by
  obtain ⟨prs, kv, pl, pr⟩ := prs_of (P := X.prog) (w := X.w) r1 r2 hl
  have e1 : us.length = xs.length := by rw [← r1.length, List.length_map]
  have e2 : vs.length = ys.length := by rw [← r2.length, List.length_map]
  have zs : us.toArray.size = us.length := by simp
  have zs2 : vs.toArray.size = vs.length := by simp
  have big : (1000 : Nat) ≤ sizeLine := by decide
  have P := zipArg D n1 n2 (by omega) (by omega)
  refine PySem.call_dict_pairs (knd := mixKind X.prog X.w) (kvs := prs) P (I1.ok.hd hc) ok ⟨by omega, fun i key v hr => pr i key v (by simpa using hr.1) (by simpa using hr.2)⟩ (by omega) fun h'' tk hd' k => ?_
  have hm : (h'.objs.size == sysModules) = false := beq_eq_false_iff_ne.mpr (Nat.ne_of_gt (Nat.lt_of_lt_of_le I1.big le))
  have zl : (xs.zip ys).length = xs.length := by rw [List.length_zip, ← hl, Nat.min_self]
  have dl : (dkL (xs.zip ys)).length = xs.length := by unfold dkL; rw [List.length_map, zl]
  have hlen : (mergeK [] (dkL (xs.zip ys))).length ≤ sizeLine := by
    have := length_mergeK (dkL (xs.zip ys)) []
    rw [List.length_nil, dl] at this
    omega
  have kk : ∀ c o, s1.heap.get? c = some o → h''.get? c = some o := fun c o e => k c o (fun m => absurd (Heap.lt_size e) (Nat.not_lt.mpr (new c m))) (hk c o e)
  exact ⟨.ref h'.objs.size, upd H1 h'.objs.size (.dK (mergeK [] (dkL (xs.zip ys)))), I1.laid (t' := tk) kk le (show ObjOk X.prog X.w _ _ _ (.dK (mergeK [] (dkL (xs.zip ys)))) from ⟨hlen, hm, merged [] prs, KV.merge kv .nil, hd'⟩), rfl, q _ (I1.hok.fresh le)⟩
end
end KZ

namespace KZ
open PySem PySem.Spec PyProof.Rows L2 LamX LiI DZ
/-- dict(zip(x, y)): a list or a tuple of texts, and a list of as many, one at least -/
def tDictZ (K : PySem.W.Frag) (ta : TA) : TE := fun σ H Q => ta σ H fun vs H1 => ∃ (a b : Addr) (xs ys : List Str), vs = [.ref a, .ref b] ∧ (SqL K H1 a (xs.map V.str) ∨ SqT K H1 a (xs.map V.str)) ∧ SqL K H1 b (ys.map V.str) ∧ xs.length = ys.length ∧ 0 < xs.length ∧ xs.length ≤ 1000 ∧
  ∀ p, H1 p = none → Q (.ref p) (upd H1 p (.dK (mergeK [] (dkL (xs.zip ys)))))
theorem pe_dictZip {X : Cx} {e e2 : Expr} {ta : TA} {p p2 pos2 pos : Pos} (hc : X.calm = true) (ha : PA X [e, e2] ta) (hg : Gl X "dict") (hm : X.mg "dict" = none) (hv : bootBuiltins "dict" = some (.type "dict")) (hg2 : Gl X "zip") (hm2 : X.mg "zip" = none)
    (hs2 : starEach [e, e2] X.env = (false, eval e X.env) :: starEach [e2] X.env := by rfl) (hpl : (backTo pos2 (starEach [e2] X.env)).any (·.1) = false := by rfl)
    (hs : starEach [.Call (.Name "zip" p2) [e, e2] [] pos2] X.env = (false, eval (.Call (.Name "zip" p2) [e, e2] [] pos2) X.env) :: starEach [] X.env := by rfl) :
    PE X (.Call (.Name "dict" p) [.Call (.Name "zip" p2) [e, e2] [] pos2] [] pos) (tDictZ X.K ta) := by
  refine ⟨fun pins s σ H Q I hq => ?_⟩
  refine wpAny_Call_Name_kw (ld_blt I hg hm hv ?_)
  refine PyProof.Rows.callWith_type1 ?_ hs rfl
  rw [hs]
  show wpAny _ _ (spliced ((false, eval (.Call (.Name "zip" p2) [e, e2] [] pos2) X.env) :: backTo pos (starEach [] X.env))) _ _ s
  refine Calls.spliced_cons ?_
  refine Call_ (ld_blt I hg2 hm2 PyProof.Rows.boot_zip (PyProof.Rows.callWith_type1 (thn (ha.run pos2 pins s σ H _ I hq) fun us s1 ⟨vs, H1, I1, r1, q1⟩ => ?_) hs2 hpl))
  obtain ⟨a, b, xs, ys, ex, sx, sy, hl, pos, few, q⟩ := q1
  subst ex
  cases r1 with
  | cons r rr =>
    cases rr with
    | cons r' rr =>
      cases rr
      cases r
      cases r'
      obtain ⟨its2, rv2, p2', _⟩ := I1.list sy
      have new : ∀ c ∈ [s1.heap.objs.size + 4, s1.heap.objs.size + 3, s1.heap.objs.size, s1.heap.objs.size + 1], s1.heap.objs.size ≤ c := fun c hcm => by
        simp only [List.mem_cons, List.not_mem_nil, or_false] at hcm
        omega
      rcases sx with sx | sx
      · obtain ⟨its, rv, p1, _⟩ := I1.list sx
        refine call_zip_2 p1.isList p2'.isList fun h' hz hTI hTO h1 h2 hsz hk => ?_
        have D := PySem.W.ktu_apart s1.heap.objs.size a b p1.lt p2'.lt
        refine Calls.spliced_nil ?_
        exact dz_end hc I1 hk D (nxL D.l1i1) (nxL D.l2i2) rv rv2 hl pos few ⟨hz, hTI, ⟨_, _, hTO⟩, ⟨h1, p1.isList.at fun o e => hk _ o e⟩, h2, p2'.isList.at fun o e => hk _ o e⟩ new (by omega) q
      · obtain ⟨its, rv, p1, _⟩ := I1.tuple sx
        obtain ⟨o1, ho1, _⟩ := id p1
        refine call_zipTL (show s1.heap.IsTuple a its.toArray from p1) p2'.isList fun h' hz hTI hTO h1 h2 hsz hk => ?_
        have D := PySem.W.ktu_apart s1.heap.objs.size a b (Heap.lt_size ho1) p2'.lt
        refine Calls.spliced_nil ?_
        exact dz_end hc I1 hk D (nxT D.l1i1) (nxL D.l2i2) rv rv2 hl pos few ⟨hz, hTI, ⟨_, _, hTO⟩, ⟨h1, (show s1.heap.IsTuple a its.toArray from p1).at fun o e => hk _ o e⟩, h2, p2'.isList.at fun o e => hk _ o e⟩ new (by omega) q
end KZ

namespace KZ
open PySem PySem.Spec PyProof.Rows L2 LamX
/-- a def by its body, where no repr is under way, its code object told -/
theorem fun_okGd {P : Program} {w : World} {K : PySem.W.Frag} {mg : Str → Option Value} {base : Heap} {x qual : Str} {st : Stmt} {f : Addr} {fd : FuncData} {N ps : List Str} {k : Nat} {sp : Sp} {cv : Value} (hcv : fd.code = cv) (F : Fun K x qual st f fd) (S : FnScope N ps (defScope st)) (hlen : ∀ vs H Q E, sp vs H Q E → vs.length = ps.length)
    (body : ∀ (A : Around) (up : List Env) (t : Shared) (H : Hp) (vs : List V) (Q : VK) (E : XK), A.guards = some [] → Room k (A.deeper (envOfC qual (defScope st) t.heap.objs.size f cv)) → sp vs H Q E →
      ∃ τ, PSs (cxOf CX0 P w K mg base N qual (defScope st) f cv A up t H E).nox (defBody st) τ ∧ τ { nx := fun _ H' => Q .non H', rt := Q } (start N vs) H) : FnG P w K mg base (k + 1) f fd ps sp := by
  have F' : Fun K x qual st f fd ∧ ∀ (oc : Value) (od : Option Addr) (kV doc pm : Value) (an : Option Addr) (cdv ct : Value), fd = PySem.W.fnOf x qual (defArgs st) (defBody st) (defScope st) .none kV doc pm an cdv ct → cdv = cv := ⟨F, fun oc od kV doc pm an cdv ct e => by
    rw [e] at hcv
    exact hcv⟩
  obtain ⟨c0, d0, k0, doc, pm, an, cdv, ct, sl, e, found, code⟩ := F.ex
  cases F'.2 c0 d0 k0 doc pm an cdv ct e
  subst e
  refine ⟨hlen, ?_⟩
  intro A up t H ar us vs Q E gs room here binds rel wish
  have many := hlen _ _ _ _ wish
  have lim : t.heap.NoLimit := Heap.NoLimit.keeps here.mod.nolimit (fun b o e => (here.bs b o e).1)
  have inK : K.In t.heap := PySem.W.Frag.In.keeps here.mod.kin (fun b o e => (here.bs b o e).1)
  have kinds : ∀ z ∈ ps.zip us, (defScope st).names.lookup z.1 = some .local ∨
      ((defScope st).names.lookup z.1 = some .cell ∧ ((cellsFrom (t.heap.objs.size + 1) (defScope st).names []).lookup z.1).isSome = true) := by
    intro z hz
    have h1 : z.1 ∈ ps := (List.of_mem_zip (show (z.1, z.2) ∈ ps.zip us from hz)).1
    cases S.par _ h1 with
    | inl l => exact Or.inl l
    | inr l => exact Or.inr ⟨l, PySem.W.cellsFrom_some _ _ _ (Or.inl l)⟩
  refine codeAny_call_function room.depth (inK _ _ found) rfl S.co S.gen rfl (PySem.W.codeRec_of inK code) ?_
  refine binds _ _ _ _ ?_
  refine wpAny_newFunctionEnv_cells S.kind kinds ?_
  intro env he t1 inside
  subst he
  refine ⟨Heap.NoLimit.keeps lim inside.toInCall.keep, ?_⟩
  refine codeAny_func ?_
  obtain ⟨τ, runs, reads⟩ := body A up t H vs Q E gs (Room.deeper room _) wish
  have J : L2.Inv (cxOf CX0 P w K mg base N qual (defScope st) f _ A up t H E) [] (start N vs) H t1 := inv_start S room.hd here many rel inside
  refine wpAny_mono (runs.nox.run [] t1 (start N vs) H _ J reads) ?_ (fun _ _ z => z)
  intro fl t' out
  cases fl with
  | ret u =>
    obtain ⟨v, σ', H', I', rv, q⟩ := out
    exact ⟨v, H', I'.os, I'.bare, I'.base, I'.hok, rv, q⟩
  | next =>
    obtain ⟨σ', H', I', q⟩ := out
    exact ⟨V.non, H', I'.os, I'.bare, I'.base, I'.hok, rfl, q⟩
  | brk =>
    obtain ⟨_, _, _, q⟩ := out
    cases q
  | cont =>
    obtain ⟨_, _, _, q⟩ := out
    cases q
section
variable {K : PySem.W.Frag} {M : List Addr} {σ : L2.St} {H : Hp} {te t1 t2 : TE} {g : TG} {ta tb u : TS} {D : Ends} {ds : List PyData}
/-- if not _law_alike(x, y): .., the two alike -/
theorem alike_if {n k : Nat} (h1 : EvD K M t1 σ H (.tuple ds)) (h2 : EvD K M t2 σ H (.tuple ds)) (g : Good (.tuple ds) n k) (hn : n < 1000000) (hk : k ≤ 60) (q : ∀ H', Sub H H' → tb D σ H') :
    tIfS (tNot (tB (tCall (spAlike K) [] E0 (tCons t1 (tCons t2 tNil))))) ta tb D σ H :=
  h1 H (Sub.refl _) _ fun v H1 s1 hv => h2 H1 s1 _ fun u H2 s2 hu => ⟨v, u, ds, n, k, rfl, (Dm.s hv s2).all, hu.all, g, hn, hk, true, rfl, q H2 (s1.trans s2)⟩
end
end KZ

namespace KZ
open PySem PySem.Spec PyProof.Rows L2 LamX LiI
theorem bootDict : bootBuiltins "dict" = some (.type "dict") := by decide +kernel
theorem bootList : bootBuiltins "list" = some (.type "list") := by decide +kernel
def spLaw (K : PySem.W.Frag) (P : Addr) : Sp := fun vs H Q _ => ∃ (a : Addr) (ns : List Int), vs = [.ref a] ∧ SqL K H a (ns.map V.int) ∧ ns.length ≤ 63 ∧ H P = some (.tbl #[]) ∧ ∀ H', Q (.bl true) H'
--PRE
section
variable {K : PySem.W.Frag} {M : List Addr} {σ : L2.St} {H H' : Hp}
theorem evd_lenH {g : Hou} {k : Nat} {v : V} (hv : σ[k]? = some (some v)) (hd : Dm K M H v (houD g)) : EvD K M (tCB (fun xs H Q => ∃ p ys, xs = [V.ref p] ∧ (SqL K H p ys ∨ SqT K H p ys) ∧ Q (.int ys.length) H) (tCons (tOp (rIxT K) (tVar k) (tC (.int 0))) tNil)) σ H (.int (g.ks.length : Int)) := by
  have t := evd_lenE (evd_ixT (i := 0) (d := .tuple (g.ks.map kdD)) (evd_var hv (show Dm K M H v (.tuple _) from hd)) evd_int (by decide) rfl)
  rw [List.length_map] at t
  exact t
theorem evd_lenS {g : Hou} {k : Nat} {v : V} (hv : σ[k]? = some (some v)) (hd : Dm K M H v (houD g)) : EvD K M (tCB (fun xs H Q => ∃ p ys, xs = [V.ref p] ∧ (SqL K H p ys ∨ SqT K H p ys) ∧ Q (.int ys.length) H) (tCons (tOp (rIxT K) (tVar k) (tC (.int 1))) tNil)) σ H (.int (g.ss.length : Int)) := by
  have t := evd_lenE (evd_ixT (i := 1) (d := .tuple (g.ss.map PyData.str)) (evd_var hv (show Dm K M H v (.tuple _) from hd)) evd_int (by decide) rfl)
  rw [List.length_map] at t
  exact t
theorem wk_at {b l p : Addr} {T : List (Addr × Str)} {o : HO} (w : Wk b l T H H') (e : H p = some o) (nb : p ≠ b) (nt : ∀ ps, o ≠ .tbl ps) : H' p = some o := by
  have q := w.x p o (by rw [er_in (by simp [nb])]; exact e) nt
  rw [er_in (by simp [nb])] at q
  exact q
theorem dm_frz {b t : Addr} {ob : Obj} {qs : List V} {ds : List PyData} (nb : t ≠ b) (e : H t = some (.frz ob (.tup qs))) (h : Dms K [b] H qs ds) : Dm K [b] H (.ref t) (.tuple ds) :=
  .tup (.inl (.inr ⟨ob, by rw [er_in (by simp [nb])]; exact e⟩)) h
theorem kd_inX {h : Hou} (ok : HouOk h) : ∀ k ∈ h.ks, k.1 ∈ NamesX ∧ 0 ≤ k.2.2 ∧ k.2.2 < 16 := fun k hk => by
  obtain ⟨i, hi⟩ := List.getElem?_of_mem hk
  have r := ok.ks.rise i k hi
  have := ok.k1
  exact ⟨in_namesX (ok.ks.name k hk), by omega, by omega⟩
theorem res_ord1 {CL : Addr} {ks : List Kd} {ss : List Str} {j : Jud} {o : List Nat} : ∀ C f d, ordR CL ks ss j o = .one C f d → C = CL ∧ f = "kind" := fun C f d e => by
  unfold ordR at e
  split at e
  · cases e
    exact ⟨rfl, rfl⟩
  · cases e
theorem res_ord2 {CL : Addr} {ks : List Kd} {ss : List Str} {j : Jud} {o : List Nat} : ∀ C, ordR CL ks ss j o ≠ .few C := fun C e => by
  unfold ordR at e
  split at e
  · cases e
  · cases e
theorem tup_Ord {CL : Addr} {h : Hou} {o : List Nat} (x : HouOk h) (oo : OrdOk h.ks.length o) (ol : o.length = h.ks.length) : ∃ es, refD (ordR CL h.ks h.ss h.j o) = .tuple es ∧ Good (.tuple es) 500000 6 := by
  have k1 := x.k1
  have s1 := x.s1
  unfold ordR
  split
  · rename_i k e
    have hk := List.mem_range.mp (List.mem_of_find?_eq_some e)
    exact ⟨_, rfl, good_tag (by unfold NamesX; simp) (Good.mono (good_int (by omega) (by omega)) (by decide) (by decide))⟩
  · refine ⟨_, rfl, good_tag (by unfold NamesX; simp) ?_⟩
    obtain ⟨e, oj⟩ := judN (o := o) x.j oo.low
    rw [e]
    refine good_houX (n := o.length) (m := h.ss.length) (fun z hz => ?_) (by rw [List.length_map]; omega) (fun n hn => in_namesX (x.sn n hn)) x.s1 (by omega) (by omega) oj
    obtain ⟨one, ho, rfl⟩ := List.mem_map.mp hz
    have lo := oo.low one ho
    have ir : idxN o (nxt h.ks one) < o.length := (List.getElem?_eq_some_iff.mp (idx_at (oo.all _ (nxt_ok x.ks lo).2.1))).1
    exact ⟨(kd_inX x _ (List.mem_of_getElem? (kd_at lo))).1, by show (0 : Int) ≤ ((_ : Nat) : Int); omega, by show ((_ : Nat) : Int) < 16; omega⟩
end
def fstD : PyData → PyData
  | .tuple (x :: _) => x
  | d => d
theorem fst_map (ks : List Kd) : (ks.map kdD).map fstD = (ks.map (·.1)).map PyData.str := by
  rw [List.map_map, List.map_map]
  rfl
theorem zip_fst {α β : Type} : ∀ {xs : List α} {ys : List β}, xs.length = ys.length → (xs.zip ys).map (·.1) = xs
  | [], ys, _ => by simp
  | x :: xs, [], h => by cases h
  | x :: xs, y :: ys, h => by
    rw [List.zip_cons_cons, List.map_cons, zip_fst (Nat.succ.inj h)]
theorem asg_of {te : TE} {g : TG} {u : TS} {D : Ends} {σ : L2.St} {H : Hp} (h : te σ H fun x H1 => g x σ H1 fun σ2 H2 => u D σ2 H2) : tSeq (tAsg te g) u D σ H := h
theorem bag_strs {b l p : Addr} {H : Hp} {ns : List Str} (g : Bag b l H) (e : H p = some (.lst (ns.map V.str))) : p ≠ b := fun z => by
  obtain ⟨x, y, i, cs, h1, _⟩ := g
  rw [z, h1] at e
  cases ns with
  | nil => cases e
  | cons n ns =>
    rw [List.map_cons] at e
    cases e
theorem dm_strs {K : PySem.W.Frag} {b p : Addr} {H : Hp} {ns : List Str} (e : H p = some (.lst (ns.map V.str))) (nb : p ≠ b) : Dm K [b] H (.ref p) (.list (ns.map PyData.str)) :=
  .lst (SqL.of (by rw [er_in (by simp [nb])]; exact e)) (dps_strs ns)
theorem lk_all {ps qs : SS} (h : qs.Perm ps) (nd : (ps.map (·.1)).Nodup) {x : Str} (m : x ∈ ps.map (·.1)) : ∃ v, lkS qs x = some v := by
  obtain ⟨p, hp, e⟩ := List.mem_map.mp m
  rw [lk_perm h nd x]
  exact ⟨p.2, lk_of_mem nd (by rw [← e]; exact hp)⟩
theorem zip_in {xs ys : List Str} (hx : ∀ x ∈ xs, x ∈ Names) (hy : ∀ y ∈ ys, y ∈ Names) : ∀ p ∈ xs.zip ys, p.1 ∈ NamesX ∧ p.2 ∈ NamesX := fun p hp =>
  ⟨in_namesX (hx _ (List.of_mem_zip (show (p.1, p.2) ∈ xs.zip ys from hp)).1), in_namesX (hy _ (List.of_mem_zip (show (p.1, p.2) ∈ xs.zip ys from hp)).2)⟩
theorem ren_in {ps qs : SS} (h : qs.Perm ps) (k : ∀ p ∈ ps, p.1 ∈ NamesX ∧ p.2 ∈ NamesX) {x : Str} (m : ∃ v, lkS qs x = some v) : renS qs x ∈ NamesX := by
  have q := mem_of_lk (ren_some m)
  exact (k _ (h.mem_iff.mp q)).2
--ERP
section
variable {P : Program} {w : World} {K : PySem.W.Frag} {mg : Str → Option Value} {base : Heap}
abbrev sLaw : Stmt := topS 29
abbrev NL : List Str := ["script", "bag", "turn", "said", "told", "kinds", "sorts", "kept", "fresh", "due", "house", "order", "kind", "one"]
theorem scLaw : FnScope NL ["script"] (defScope sLaw) := ⟨rfl, rfl, rfl, by decide +kernel, rfl, by decide +kernel, by decide +kernel⟩
def rTupF (K : PySem.W.Frag) : List V → Hp → VK → Prop := fun xs H Q => ∃ p ys, xs = [V.ref p] ∧ SqL K H p ys ∧ ∀ (l : Addr) (ob : Obj), ob.cls = .type "tuple" → ob.dict = none → H l = none → Q (.ref l) (upd H l (.frz ob (.tup ys)))
abbrev lamQ : Str := (("law" : Str) ++ (".<locals>." : Str)) ++ ("<lambda>" : Str)
theorem ok_law {f c P0 CK CS CT CM CF CL iK iS iT iM iL fB fS fH fN fO fM fI fA fR fE gO : Addr} {fd fdB fdS fdH fdN fdO fdM fdI fdA fdR fdE dO : FuncData} (F : Fun K "law" "law" sLaw f fd) (hcv : fd.code = .ref c) (T : Txt mg) (Tz : mg "zip" = none)
    (CB : Cal P w K mg base "_law_bag" 1 ["script"] (spBag K) fB fdB) (CSo : Cal P w K mg base "_law_some" 2 ["bag", "things"] (spSome K) fS fdS) (CH : Cal P w K mg base "_law_house_of" 6 ["bag", "kinds", "sorts", "style"] (spHo K true) fH fdH)
    (CN : Cal P w K mg base "_law_named" 3 ["bag", "many"] (spNamedL K) fN fdN) (CO : Cal P w K mg base "_law_orders" 3 ["bag", "many"] (spOrders K) fO fdO) (CMV : Cal P w K mg base "_law_mixed" 2 ["bag", "things"] (spMixedV K) fM fdM)
    (CI : Cal P w K mg base "_law_in_order" 2 ["house", "order"] (spPure K (rInOrd CL)) fI fdI) (CA : CalG P w K mg base "_law_alike" 1 ["found", "due"] (spAlike K) fA fdA) (CE : Cal P w K mg base "renamed_house" 1 ["house", "kinds", "sorts"] (spRen K) fE fdE)
    (R : Refs K mg CK CS CT CM CF CL iK iS iT iM iL) (FR : Fun K "_law_refused" "_law_refused" sRef fR fdR) (gR : mg "_law_refused" = some (.ref fR)) (bR : L2.Binds K fdR ["act"] [])
    (oO : FnOk P w K mg base (L2.CX P w) 3 gO dO ["house", "order"] (spOrd K CL)) (mO : mg "reordered" = some (.ref gO)) (kO : PySem.W.keepIn K (.ref gO) = true) (bO : L2.Binds K dO ["house", "order"] [])
    (TB : TabB base mg c P0) : FnG P w K mg base 8 f fd ["script"] (spLaw K P0) := by
  refine fun_okGd hcv F scLaw (fun vs H Q E h => ?_) (fun A outer s H vs Q E gs hr h => ?_)
  · obtain ⟨a, ns, rfl, _⟩ := h
    rfl
  obtain ⟨a, ns, rfl, hS, hl, hP, k⟩ := h
  have hr1 : Room 1 _ := hr.mono (by decide)
  have hr2 : Room 2 _ := hr.mono (by decide)
  have hr3 : Room 3 _ := hr.mono (by decide)
  have hr5 : Room 5 _ := hr.mono (by decide)
  have hr6 : Room 6 _ := hr.mono (by decide)
  refine ⟨_, pss_cons (ps_set (i := 1) scLaw.nd rfl (Or.inl rfl) (pcl CB hr1 (pa_cons (pv 0) pa_nil)))
    (pss_cons (ps_for PassesOwn.never rfl (pi_range1 rfl T.range (pa_cons pe_int pa_nil)) (pg_name (i := 2) scLaw.nd rfl (Or.inl rfl))
      (pss_cons (ps_set (i := 10) scLaw.nd rfl (Or.inr rfl) (pcl CH hr6 (pa_cons (pv 1) (pa_cons (pcl CSo hr2 (pa_cons (pv 1) (pa_cons (pe_lst (pa_cons pe_int (pa_cons pe_int (pa_cons pe_int (pa_cons pe_int (pa_cons pe_int pa_nil)))))) pa_nil))) (pa_cons (pcl CSo hr2 (pa_cons (pv 1) (pa_cons (pe_lst (pa_cons pe_int (pa_cons pe_int (pa_cons pe_int pa_nil)))) pa_nil))) (pa_cons pe_str pa_nil))))))
      (pss_cons (ps_set (i := 3) scLaw.nd rfl (Or.inl rfl) (pe_callB (call_repr gs hr.units) (by rfl) T.repr PyProof.Rows.boot_repr (pa_cons (pv 10) pa_nil)))
      (pss_cons (ps_for PassesOwn.never rfl (pi_list (pcl CO hr3 (pa_cons (pv 1) (pa_cons (pe_callB call_len_seq (by rfl) T.len PySem.boot_len (pa_cons (pe_ix ix_tup (pv 10) pe_int (fun _ _ => rfl)) pa_nil)) pa_nil)))) (pg_name (i := 11) scLaw.nd rfl (Or.inr rfl))
        (pss_cons (ps_set (i := 4) scLaw.nd rfl (Or.inl rfl) (pe_ref R FR gR bR oO mO kO bO TB rfl rfl hr5 (lamS_by (show lamSB (defScope sLaw) _ = true by decide +kernel)) rfl (fun _ _ _ _ _ => rfl) rfl (fun _ _ _ _ _ _ _ => rfl) (fun _ _ _ _ _ _ _ => pa_cons (pv 10) (pa_cons (pe_callTy (show CallR _ (.type "tuple") (rTupF K) from call_tupleF) (by rfl) T.tuple bootTuple (pa_cons (pv 11) pa_nil)) pa_nil)) (fun _ => rfl) (fun _ => rfl)))
        (pss_one (ps_if (pt_not (pt_val (pclG CA gs hr1 (pa_cons (pv 4) (pa_cons (pcl CI hr2 (pa_cons (pv 10) (pa_cons (pv 11) pa_nil))) pa_nil))))) (pss_one (ps_ret pe_bl)) pss_nil))))
      (pss_cons (ps_set (i := 5) scLaw.nd rfl (Or.inr rfl) (pe_dictZip rfl (pa_cons (pe_lc (own := [("kind", 12)]) (g := gName 12) (tt := tYes) (te := tOp (rIxT K) (tVar 12) (tC (.int 0))) rfl scLaw.nd (pi_tup (pe_ix ix_tup (pv 10) pe_int (fun _ _ => rfl))) (blkOk_by (N := NL) (sc := defScope sLaw) (by decide +kernel)) (fun _ _ _ _ _ => pg_name (i := 12) scLaw.nd rfl (Or.inl rfl)) (fun _ _ _ _ _ => pts_nil) (fun _ _ _ _ _ => pe_ix ix_tup (pv 12) pe_int (fun _ _ => rfl)))
          (pa_cons (pcl CN hr3 (pa_cons (pv 1) (pa_cons (pe_callB call_len_seq (by rfl) T.len PySem.boot_len (pa_cons (pe_ix ix_tup (pv 10) pe_int (fun _ _ => rfl)) pa_nil)) pa_nil))) pa_nil)) (by rfl) T.dict bootDict (by rfl) Tz))
      (pss_cons (ps_set (i := 6) scLaw.nd rfl (Or.inr rfl) (pe_dictZip rfl (pa_cons (pe_ix ix_tup (pv 10) pe_int (fun _ _ => rfl)) (pa_cons (pcl CSo hr2 (pa_cons (pv 1) (pa_cons (pe_lst (pa_cons (pcl CN hr3 (pa_cons (pv 1) (pa_cons (pe_callB call_len_seq (by rfl) T.len PySem.boot_len (pa_cons (pe_ix ix_tup (pv 10) pe_int (fun _ _ => rfl)) pa_nil)) pa_nil)))
          (pa_cons (pe_revL (pe_callTy call_list_of (by rfl) T.list bootList (pa_cons (pe_ix ix_tup (pv 10) pe_int (fun _ _ => rfl)) pa_nil))) pa_nil))) pa_nil))) pa_nil)) (by rfl) T.dict bootDict (by rfl) Tz))
      (pss_cons (ps_asg (pe_tup (pa_cons (pe_callTy (call_dictP rfl) (by rfl) T.dict bootDict (pa_cons (pcl CMV hr2 (pa_cons (pv 1) (pa_cons (pe_listItems rfl (pv 5) (by rfl) T.list bootList) pa_nil))) pa_nil)) (pa_cons (pe_callTy (call_dictP rfl) (by rfl) T.dict bootDict (pa_cons (pcl CMV hr2 (pa_cons (pv 1) (pa_cons (pe_listItems rfl (pv 6) (by rfl) T.list bootList) pa_nil))) pa_nil)) pa_nil)))
          (pg_tup rfl (pgs_cons (pg_name (i := 5) scLaw.nd rfl (Or.inr rfl)) (pgs_cons (pg_name (i := 6) scLaw.nd rfl (Or.inr rfl)) pgs_nil))))
      (pss_cons (ps_set (i := 7) scLaw.nd rfl (Or.inl rfl) (pe_callB (call_reprDD gs hr.units) (by rfl) T.repr PyProof.Rows.boot_repr (pa_cons (pe_lstB (pa_cons (pv 5) (pa_cons (pv 6) pa_nil))) pa_nil)))
      (pss_cons (ps_set (i := 8) scLaw.nd rfl (Or.inl rfl) (pe_callTy call_tuple_of (by rfl) T.tuple bootTuple (pa_cons
          (pe_lc (own := [("kind", 12)]) (g := gName 12) (tt := tYes) (te := tOp (rCatA K) (tTup (tCons (tDGet (tVar 5) (tOp (rIxT K) (tVar 12) (tC (.int 0)))) tNil)) (tSl (rSlA K) (tVar 12) (tPart (tC (.int 1))) tNoPart)) rfl scLaw.nd (pi_tup (pe_ix ix_tup (pv 10) pe_int (fun _ _ => rfl))) (blkOk_by (N := NL) (sc := defScope sLaw) (by decide +kernel)) (fun _ _ _ _ _ => pg_name (i := 12) scLaw.nd rfl (Or.inl rfl)) (fun _ _ _ _ _ => pts_nil)
            (fun _ _ _ _ _ => pe_op op_catA (pe_tup (pa_cons (pe_dget (hu_of hr) (pv 5) (pe_ix ix_tup (pv 12) pe_int (fun _ _ => rfl)) (fun _ _ => rfl)) pa_nil)) (pe_slice sl_tupA (pv 12) (po_some pe_int) po_none))) pa_nil)))
      (pss_cons (ps_set (i := 9) scLaw.nd rfl (Or.inl rfl) (pe_tup (pa_cons (pv 8) (pa_cons (pe_callTy call_tuple_of (by rfl) T.tuple bootTuple (pa_cons
          (pe_lc (own := [("one", 13)]) (g := gName 13) (tt := tYes) (te := tDGet (tVar 6) (tVar 13)) rfl scLaw.nd (pi_tup (pe_ix ix_tup (pv 10) pe_int (fun _ _ => rfl))) (blkOk_by (N := NL) (sc := defScope sLaw) (by decide +kernel)) (fun _ _ _ _ _ => pg_name (i := 13) scLaw.nd rfl (Or.inl rfl)) (fun _ _ _ _ _ => pts_nil) (fun _ _ _ _ _ => pe_dget (hu_of hr) (pv 6) (pv 13) (fun _ _ => rfl))) pa_nil))
          (pa_cons (pe_ix ix_tup (pv 10) pe_int (fun _ _ => rfl)) pa_nil)))))
      (pss_cons (ps_if (pt_not (pt_val (pclG CA gs hr1 (pa_cons (pcl CE hr1 (pa_cons (pv 10) (pa_cons (pv 5) (pa_cons (pv 6) pa_nil)))) (pa_cons (pv 9) pa_nil))))) (pss_one (ps_ret pe_bl)) pss_nil)
      (pss_one (ps_if (PW.pt (pw_or (pt_cmpR op_ne (pe_callB (call_reprDD gs hr.units) (by rfl) T.repr PyProof.Rows.boot_repr (pa_cons (pe_lstB (pa_cons (pv 5) (pa_cons (pv 6) pa_nil))) pa_nil)) (pv 7) (nomark _)) (pw_or1 (pt_cmpR op_ne (pe_callB (call_repr gs hr.units) (by rfl) T.repr PyProof.Rows.boot_repr (pa_cons (pv 10) pa_nil)) (pv 3) (nomark _))))) (pss_one (ps_ret pe_bl)) pss_nil)))))))))))))
    (pss_one (ps_ret pe_bl))), ?_⟩
  have mb {b : Addr} : b ∈ [b] := List.mem_cons_self
  refine sset_of ⟨_, rfl, a, ns, rfl, hS, hl, fun b l H1 s1 bag1 => ?_⟩
  have T1 : Tabs [(P0, lamQ)] H1 := fun p hp => by
    rw [List.mem_singleton.mp hp]
    exact TabS.nil (s1 _ _ hP)
  refine sfor ⟨4, rfl, by decide, by decide, for_range (lo := 0) (n := (4 : Int).toNat) (fun i σ H' => ∃ (u2 u3 u4 u5 u6 u7 u8 u9 u10 u11 u12 u13 : Option V), σ = [some (.ref a), some (.ref b), u2, u3, u4, u5, u6, u7, u8, u9, u10, u11, u12, u13] ∧ Bag b l H' ∧ Tabs [(P0, lamQ)] H')
    ⟨none, none, none, none, none, none, none, none, none, none, none, none, rfl, bag1, T1⟩ ?_ ?_⟩
  · rintro i σ H2 hi ⟨u2, u3, u4, u5, u6, u7, u8, u9, u10, u11, u12, u13, rfl, bag2, T2⟩
    have cb2 := bag2.cb
    refine gname_of (sset_of ⟨_, rfl, ?_⟩)
    refine cons_of (evb_call (K := K) (M := [b]) rfl (evds_cons (evd_lst cb2.kn (evds_cons evd_int (evds_cons evd_int (evds_cons evd_int (evds_cons evd_int (evds_cons evd_int evds_nil))))) (by show 5 < 1000000; decide)) evds_nil) fun vs H3 s3 h3 => ?_)
    obtain ⟨v1, rfl, h1'⟩ := Dms.one_at h3
    have f3 : Fr b l H2 H3 := Fr.sub bag2 s3
    refine ⟨[b], b, l, v1, _, rfl, cb2.fr f3, .inl h1', by show 0 < 5; decide, by show 5 < 1000000; decide, fun y d H4 f4 hd hy => ?_⟩
    obtain ⟨n, rfl, n0, n6⟩ : ∃ n : Int, d = .int n ∧ 0 < n ∧ n < 6 := by
      simp only [List.mem_cons, List.not_mem_nil, or_false] at hd
      rcases hd with hd | hd | hd | hd | hd <;> exact ⟨_, hd, by decide, by decide⟩
    cases Dm.intAt hy
    have cb4 := (cb2.fr f3).fr f4
    refine cons_of (evb_call (K := K) (M := [b]) rfl (evds_cons (evd_lst cb4.kn (evds_cons evd_int (evds_cons evd_int (evds_cons evd_int evds_nil))) lt3) evds_nil) fun vs H5 s5 h5 => ?_)
    obtain ⟨v2, rfl, h2'⟩ := Dms.one_at h5
    have f5 : Fr b l H4 H5 := Fr.sub cb4.bag s5
    refine ⟨[b], b, l, v2, _, rfl, cb4.fr f5, .inl h2', by show 0 < 3; decide, by show 3 < 1000000; decide, fun y d H6 f6 hd hy => ?_⟩
    obtain ⟨m, rfl, m0, m4⟩ : ∃ m : Int, d = .int m ∧ 0 < m ∧ m < 4 := by
      simp only [List.mem_cons, List.not_mem_nil, or_false] at hd
      rcases hd with hd | hd | hd <;> exact ⟨_, hd, by decide, by decide⟩
    cases Dm.intAt hy
    have cb6 := (cb4.fr f5).fr f6
    refine args1 (c_of ⟨[b], b, l, n, m, "free", rfl, cb6, n0, by omega, m0, by omega, fun e => (nomatch e), fun v g H7 f7 ok hk hs hv7 => ?_⟩)
    have k6 : g.ks.length < 6 := by omega
    have s4 : g.ss.length < 4 := by omega
    have k0 := ok.k0
    have ss0 := ok.s0
    have f27 : Fr b l H2 H7 := ((f3.trans f4).trans (f5.trans f6)).trans f7
    have w27 : Wk b l [(P0, lamQ)] H2 H7 := Wk.fr bag2 T2 f27
    have bag7 := w27.bag
    have T7 := w27.tabs
    have hgood : Good (houD g) 200000 5 := good_houX (kd_inX ok) ok.k1 (fun n hn => in_namesX (ok.sn n hn)) ok.s1 (by omega) (by omega) ok.j
    refine sset_of (cb_args ⟨_, rfl, v, [.tuple (g.ks.map kdD), .tuple (g.ss.map PyData.str), judD g.j], 200000, 5, rfl, hv7.all, hgood, by decide, by decide, ?_⟩)
    refine sfor ⟨_, rfl, args1 (evd_lenH (K := K) (M := [b]) (g := g) (v := v) (k := 10) rfl hv7 H7 (Sub.refl _) _ fun vl H8 s8 hvl => ?_)⟩
    cases hvl.intAt
    have f8 : Fr b l H7 H8 := Fr.sub bag7 s8
    refine ⟨[b], b, l, g.ks.length, rfl, (bag7.cb).fr f8, k6, fun y os H9 f9 hos osl hy => ?_⟩
    have w79 : Wk b l [(P0, lamQ)] H7 H9 := Wk.fr bag7 T7 (f8.trans f9)
    have hv9 := Dm.w hv7 w79
    have bag9 := w79.bag
    have T9 := w79.tabs
    obtain ⟨r, xs, rfl, hsq, hxs⟩ := hy.lstAtE
    refine ⟨r, rfl, ⟨_, (er_sub _ _).sqL hsq⟩, for_list (K := K) (a := r) (xs := xs) (fun i' σ H' => ∃ (u4 u11 : Option V), σ = [some (.ref a), some (.ref b), some (.int ((0 : Int) + (i : Nat))), some (.str (PyData.shown (houD g))), u4, u5, u6, u7, u8, u9, some v, u11, u12, u13] ∧ Wk b l [(P0, lamQ)] H9 H')
      ⟨u4, u11, rfl, Wk.refl bag9 T9⟩ (fun i' σ H' _ ⟨_, _, _, w'⟩ => (er_sub _ _).sqL (xn_sqL w'.x hsq)) ?_ ?_⟩
    · rintro i5 z σ H10 hz ⟨u4, u11, rfl, w10⟩
      obtain ⟨d, hd, hz'⟩ := hxs.get' hz
      rw [List.getElem?_map] at hd
      obtain ⟨o, ho, rfl⟩ := Option.map_eq_some_iff.mp hd
      obtain ⟨oo, ol⟩ := hos o (List.mem_of_getElem? ho)
      have hz10 : Dm K [b] H10 z (.list (natD o)) := Dm.w hz' w10
      obtain ⟨q0, qs, rfl, _, _⟩ := hz10.lstAt
      have hv10 := Dm.w hv9 w10
      obtain ⟨es, he, ge⟩ := tup_Ord (CL := CL) ok oo ol
      refine gname_of (sset_of (ref_evd (K := K) (M := [b]) (σ := [some (.ref a), some (.ref b), some (.int ((0 : Int) + (i : Nat))), some (.str (PyData.shown (houD g))), u4, u5, u6, u7, u8, u9, some v, some (.ref q0), u12, u13]) (r := ordR CL g.ks g.ss g.j o) w10.tabs (fun H' x' => (bag_xn w10.bag x').cb.kn) res_ord1 res_ord2 (fun H11 x11 Q' E' h => ?_) fun y H12 x12 T12 hy => ?_))
      · have hv11 : Dm K [b] H11 v (houD g) := xn_dp (xn_er x11) _ _ hv10
        have hz11 : Dm K [b] H11 (.ref q0) (.list (natD o)) := xn_dp (xn_er x11) _ _ hz10
        have cb11 := (bag_xn w10.bag x11).cb
        obtain ⟨q1, qs, e, hq, hqs⟩ := hz11.lstAt
        cases e
        refine ⟨v, rfl, args1 (cb_args ⟨.ref q0, rfl, q0, qs, rfl, hq, fun t ob h1 h2 ht => ?_⟩)⟩
        have nt : Sub H11 (upd H11 t (.frz ob (.tup qs))) := Sub.new ht
        exact ⟨[b], v, t, ob, .tup qs, g.ks, g.ss, g.j, o, rfl, cb11.kn.sub nt, Dm.s hv11 nt, dm_frz (ne_new cb11.bag.at ht) upd_same (Dms.s hqs nt), upd_same, h1, h2, ok.ks, ok.j, ok.k1, ok.s1, oo, h _ nt⟩
      · rw [he] at hy
        have w12 := w10.trans (Wk.xn w10.bag x12 T12)
        have hv12 := Dm.w hv9 w12
        have hz12 : Dm K [b] H12 (.ref q0) (.list (natD o)) := Dm.w hz' w12
        have ed : EvD K [b] (tCall (spPure K (rInOrd CL)) [] E0 (tCons (tVar 10) (tCons (tVar 11) tNil))) ([some (.ref a), some (.ref b), some (.int ((0 : Int) + (i : Nat))), some (.str (PyData.shown (houD g))), some y, u5, u6, u7, u8, u9, some v, some (.ref q0), u12, u13] : L2.St) H12 (refD (ordR CL g.ks g.ss g.j o)) :=
          evd_pure (rel := rInOrd CL) (E := E0) w12.bag.cb.kn (evds_cons (evd_var (i := 10) rfl hv12) (evds_cons (evd_var (i := 11) rfl hz12) evds_nil)) ⟨g.ks, g.ss, g.j, o, rfl, ok.ks, ok.j, ok.k1, ok.s1, oo, rfl⟩
        rw [he] at ed
        exact alike_if (K := K) (M := [b]) (evd_var (i := 4) rfl hy) ed ge (by decide) (by decide) fun H13 s13 => ⟨_, _, rfl, w12.trans (Wk.sub w12.bag w12.tabs s13)⟩
    · rintro σ H10 ⟨u4, u11, rfl, w10⟩
      dsimp only
--TAIL
      have bag10 := w10.bag
      have T10 := w10.tabs
      have cb10 := bag10.cb
      have hv10 := Dm.w hv9 w10
      have ec : EvNL K [b] (tLc (iTup K (tOp (rIxT K) (tVar 10) (tC (.int 0)))) (gName 12) tYes (tOp (rIxT K) (tVar 12) (tC (.int 0))) [12]) ([some (.ref a), some (.ref b), some (.int ((0 : Int) + (i : Nat))), some (.str (PyData.shown (houD g))), u4, u5, u6, u7, u8, u9, some v, u11, u12, u13] : L2.St) H10 ((g.ks.map kdD).map fstD) :=
        evd_lcT (vs := [12]) (j := 12) fstD cb10.kn (evd_ixT (i := 0) (d := .tuple (g.ks.map kdD)) (evd_var rfl (show Dm K [b] H10 v (.tuple _) from hv10)) evd_int (by decide) rfl) (by rw [List.length_map]; omega) (by intro z; rfl) (by
          intro Dl hDl d x H11 s11 n11 hd hx
          obtain ⟨k0, hk0, rfl⟩ := List.mem_map.mp hd
          exact evd_ixT (ds := [.str k0.1, .bool k0.2.1, .int k0.2.2]) (evd_var rfl hx) (evd_int (i := 0)) (by decide) rfl)
      rw [fst_map] at ec
      refine sset_of ?_
      refine cons_of (ec H10 (Sub.refl _) _ fun pn xn H11 s11 hpn0 hpn hxn => ?_)
      cases strs_dps (l := g.ks.map (·.1)) hxn
      refine args1 ⟨_, rfl, args1 (evd_lenH (K := K) (M := [b]) (g := g) (v := v) (k := 10) rfl (Dm.s hv10 s11) H11 (Sub.refl _) _ fun vl H12 s12 hvl => ?_)⟩
      cases hvl.intAt
      have f12 : Fr b l H10 H12 := Fr.sub bag10 (s11.trans s12)
      refine ⟨[b], b, l, (g.ks.length : Int), rfl, cb10.fr f12, by omega, by omega, fun pm ns2 H13 f13 ln2 hin2 hpm => ?_⟩
      have npn : pn ≠ b := ne_new bag10.at hpn0
      have hpn13 := f13.k pn _ (by simp [npn]) (s12 _ _ hpn)
      have lk0 : (g.ks.map (·.1)).length = ns2.length := by rw [List.length_map]; omega
      refine ⟨pn, pm, g.ks.map (·.1), ns2, rfl, .inl (SqL.of hpn13), SqL.of hpm, lk0, by rw [List.length_map]; omega, by rw [List.length_map]; omega, fun p5 hp5 => ?_⟩
      have zk := zip_fst lk0
      have kn0 := zip_in (xs := g.ks.map (·.1)) (ys := ns2) (fun x hx => by
        obtain ⟨k0, hk0, rfl⟩ := List.mem_map.mp hx
        exact ok.ks.name k0 hk0) hin2
      have kl0 : ((g.ks.map (·.1)).zip ns2).length = g.ks.length := by rw [List.length_zip, ← lk0, Nat.min_self, List.length_map]
      generalize (g.ks.map (·.1)).zip ns2 = kp0 at zk kn0 kl0 ⊢
      have ndk : (kp0.map (·.1)).Nodup := by
        rw [zk]
        exact ok.ks.nd
      rw [merge_nd ndk]
      have f14 : Fr b l H10 (upd H13 p5 (.dK (dkL kp0))) := (f12.trans f13).trans (Fr.new f13.bag hp5)
      have e14 : upd H13 p5 (.dK (dkL kp0)) p5 = some (.dK (dkL kp0)) := upd_same
      have np5 : p5 ≠ b := ne_new f13.bag.at hp5
      generalize upd H13 p5 (.dK (dkL kp0)) = H14 at f14 e14 ⊢
      have bag14 := f14.bag
      have cb14 := bag14.cb
      have hv14 := Dm.f hv10 f14 mb
      have es1 : EvD K [b] (tOp (rIxT K) (tVar 10) (tC (.int 1))) ([some (.ref a), some (.ref b), some (.int ((0 : Int) + (i : Nat))), some (.str (PyData.shown (houD g))), u4, some (.ref p5), u6, u7, u8, u9, some v, u11, u12, u13] : L2.St) H14 (.tuple (g.ss.map PyData.str)) := evd_ixT (i := 1) (evd_var rfl (show Dm K [b] H14 v (.tuple _) from hv14)) evd_int (by decide) rfl
      refine sset_of (cons_of (es1 H14 (Sub.refl _) _ fun v15 H15 s15 hs15 => ?_))
      refine args1 ⟨_, rfl, args1 (lst_of (cons_of ⟨_, rfl, args1 (evd_lenS (K := K) (M := [b]) (g := g) (v := v) (k := 10) rfl (Dm.s hv14 s15) H15 (Sub.refl _) _ fun vl H16 s16 hvl => ?_)⟩))⟩
      cases hvl.intAt
      have f16 : Fr b l H14 H16 := Fr.sub bag14 (s15.trans s16)
      refine ⟨[b], b, l, (g.ss.length : Int), rfl, cb14.fr f16, by omega, by omega, fun pm3 ns3 H17 f17 ln3 hin3 hpm3 => ?_⟩
      have f17' : Fr b l H14 H17 := f16.trans f17
      have es2 : EvD K [b] (tOp (rIxT K) (tVar 10) (tC (.int 1))) ([some (.ref a), some (.ref b), some (.int ((0 : Int) + (i : Nat))), some (.str (PyData.shown (houD g))), u4, some (.ref p5), u6, u7, u8, u9, some v, u11, u12, u13] : L2.St) H17 (.tuple (g.ss.map PyData.str)) := evd_ixT (i := 1) (evd_var rfl (show Dm K [b] H17 v (.tuple _) from Dm.f hv14 f17' mb)) evd_int (by decide) rfl
      refine args1 (cb_args (es2 H17 (Sub.refl _) _ fun v18 H18 s18 hs18 => ?_))
      obtain ⟨at_, xs18, rfl, hq18, hx18⟩ := hs18.tupAt
      cases strs_dps hx18
      refine ⟨at_, _, rfl, .inr hq18, fun l2 hl2 => ⟨l2, _, rfl, SqL.of upd_same, fun p6 hp6 => ⟨by show 2 ≤ sizeLine; decide, fun p7 hp7 => ?_⟩⟩⟩
      have s20 : Sub H17 (upd (upd H18 l2 (.lst (g.ss.map V.str))) p6 (.lst (g.ss.map V.str).reverse)) := s18.trans ((Sub.new hl2).trans (Sub.new hp6))
      have e20a := s20 _ _ hpm3
      have e20b : upd (upd H18 l2 (.lst (g.ss.map V.str))) p6 (.lst (g.ss.map V.str).reverse) p6 = some (.lst (g.ss.reverse.map V.str)) := by
        rw [upd_same, List.map_reverse]
      have f20 : Fr b l H17 _ := Fr.sub f17.bag s20
      have np6 := ne_new (f17.bag.kp (s18.trans (Sub.new hl2))).at hp6
      generalize upd (upd H18 l2 (.lst (g.ss.map V.str))) p6 (.lst (g.ss.map V.str).reverse) = H20 at hp7 e20a e20b f20 s20 ⊢
      have cb20 := f20.bag.cb
      refine ⟨[b], b, l, .ref p7, [.list (ns3.map PyData.str), .list (g.ss.reverse.map PyData.str)], rfl, cb20.fr (Fr.new f20.bag hp7), .inl (Dm.lstNew cb20.kn hp7 (.cons (dm_strs e20a (bag_strs f20.bag e20a)) (.cons (dm_strs e20b np6) .nil))), by show 0 < 2; decide, by show 2 < 1000000; decide, fun y d H22 f22 hd hy => ?_⟩
      obtain ⟨ys, rfl, yl, yin⟩ : ∃ ys : List Str, d = .list (ys.map PyData.str) ∧ ys.length = g.ss.length ∧ ∀ z ∈ ys, z ∈ Names := by
        simp only [List.mem_cons, List.not_mem_nil, or_false] at hd
        rcases hd with hd | hd
        · exact ⟨ns3, hd, by omega, hin3⟩
        · exact ⟨g.ss.reverse, hd, List.length_reverse, fun z hz => ok.sn z (List.mem_reverse.mp hz)⟩
      have f1722 : Fr b l H17 H22 := f20.trans ((Fr.new f20.bag hp7).trans f22)
      obtain ⟨a2, xs2, rfl, hq2, hx2⟩ := (Dm.f (Dm.s hs15 s16) (f17.trans f1722) mb).tupAt
      cases strs_dps hx2
      obtain ⟨b2, ys2, rfl, hq3, hx3⟩ := hy.lstAt
      cases strs_dps hx3
      refine ⟨a2, b2, g.ss, ys, rfl, .inr hq2, hq3, yl.symm, ss0, by omega, fun p8 hp8 => ?_⟩
      have zs := zip_fst yl.symm
      have sn0 := zip_in ok.sn yin
      have sl0 : (g.ss.zip ys).length = g.ss.length := by rw [List.length_zip, yl, Nat.min_self]
      generalize g.ss.zip ys = sp0 at zs sn0 sl0 ⊢
      have nds : (sp0.map (·.1)).Nodup := by
        rw [zs]
        exact ok.sd
      rw [merge_nd nds]
      have f23 : Fr b l H14 (upd H22 p8 (.dK (dkL sp0))) := (f17'.trans f1722).trans (Fr.new f1722.bag hp8)
      have e23 : upd H22 p8 (.dK (dkL sp0)) p8 = some (.dK (dkL sp0)) := upd_same
      have np8 : p8 ≠ b := ne_new f1722.bag.at hp8
      generalize upd H22 p8 (.dK (dkL sp0)) = H23 at f23 e23 ⊢
      have e23k := f23.k p5 _ (by simp [np5]) e14
      have bag23 := f23.bag
      refine asg_of (tup_of (cons_of (dict_mixed (K := K) (i := 1) (j := 5) (ps := kp0) rfl rfl bag23 e23k ndk (by omega) fun p9 kp H24 f24 hp9 e24 pk => ?_)))
      have e24s := f24.k p8 _ (by simp [np8]) e23
      refine args1 (dict_mixed (K := K) (i := 1) (j := 6) (ps := sp0) rfl rfl f24.bag e24s nds (by omega) fun p10 sp H25 f25 hp10 e25 ps => ?_)
      have np9 : p9 ≠ b := ne_new bag23.at hp9
      have np10 : p10 ≠ b := ne_new f24.bag.at hp10
      have e25k := f25.k p9 _ (by simp [np9]) e24
      refine ⟨by show 2 ≤ sizeLine; decide, fun p11 hp11 => ⟨p11, _, rfl, SqT.of upd_same, rfl, _, _, rfl, _, _, rfl, rfl, ?_⟩⟩
      have f26 : Fr b l H23 (upd H25 p11 (.tup [.ref p9, .ref p10])) := (f24.trans f25).trans (Fr.new f25.bag hp11)
      have e26k := Sub.new (o := .tup [.ref p9, .ref p10]) hp11 _ _ e25k
      have e26s := Sub.new (o := .tup [.ref p9, .ref p10]) hp11 _ _ e25
      generalize upd H25 p11 (.tup [V.ref p9, V.ref p10]) = H26 at f26 e26k e26s ⊢
      have w26 : Wk b l [(P0, lamQ)] H10 H26 := Wk.fr bag10 T10 ((f14.trans f23).trans f26)
      have smk : Small kp := ⟨by rw [pk.length_eq]; omega, fun p hp => kn0 p (pk.mem_iff.mp hp)⟩
      have sms : Small sp := ⟨by rw [ps.length_eq]; omega, fun p hp => sn0 p (ps.mem_iff.mp hp)⟩
      refine sset_of (cb_args (lstB_of (cons_of ⟨_, rfl, args1 ⟨_, rfl, by show 2 ≤ sizeLine; decide, fun p12 np12 hp12 => ⟨p12, p9, p10, kp, sp, rfl, np12, upd_same, Sub.new hp12 _ _ e26k, Sub.new hp12 _ _ e26s, smk, sms, ?_⟩⟩⟩)))
      have w27 : Wk b l [(P0, lamQ)] H10 (upd H26 p12 (.lst [.ref p9, .ref p10])) := w26.trans (Wk.sub w26.bag w26.tabs (Sub.new hp12))
      have e27k := Sub.new (o := .lst [.ref p9, .ref p10]) hp12 _ _ e26k
      have e27s := Sub.new (o := .lst [.ref p9, .ref p10]) hp12 _ _ e26s
      generalize upd H26 p12 (.lst [V.ref p9, V.ref p10]) = H27 at w27 e27k e27s ⊢
      have hv27 := Dm.w hv10 w27
      have kn27 := w27.bag.cb.kn
      have hkk : ∀ k ∈ g.ks, ∃ v, lkS kp k.1 = some v := fun k0 hk0 => lk_all pk ndk (by rw [zk]; exact List.mem_map.mpr ⟨k0, hk0, rfl⟩)
      have hss : ∀ x ∈ g.ss, ∃ v, lkS sp x = some v := fun x hx => lk_all ps nds (by rw [zs]; exact hx)
      have ef : EvNL K [b] (tLc (iTup K (tOp (rIxT K) (tVar 10) (tC (.int 0)))) (gName 12) tYes (tOp (rCatA K) (tTup (tCons (tDGet (tVar 5) (tOp (rIxT K) (tVar 12) (tC (.int 0)))) tNil)) (tSl (rSlA K) (tVar 12) (tPart (tC (.int 1))) tNoPart)) [12]) ([some (.ref a), some (.ref b), some (.int ((0 : Int) + (i : Nat))), some (.str (PyData.shown (houD g))), u4, some (.ref p9), some (.ref p10), some (.str (PyData.shown (ddD kp sp))), u8, u9, some v, u11, u12, u13] : L2.St) H27 ((g.ks.map kdD).map (renD kp)) :=
        evd_lcT (vs := [12]) (j := 12) (renD kp) kn27 (evd_ixT (i := 0) (d := .tuple (g.ks.map kdD)) (evd_var rfl (show Dm K [b] H27 v (.tuple _) from hv27)) evd_int (by decide) rfl) (by rw [List.length_map]; omega) (by intro z; rfl) (by
          intro Dl hDl d x H28 s28 n28 hd hx
          obtain ⟨k0, hk0, rfl⟩ := List.mem_map.mp hd
          have e12 : EvD K (Dl :: [b]) (tVar 12) ([some (.ref a), some (.ref b), some (.int ((0 : Int) + (i : Nat))), some (.str (PyData.shown (houD g))), u4, some (.ref p9), some (.ref p10), some (.str (PyData.shown (ddD kp sp))), u8, u9, some v, u11, some x, u13] : L2.St) H28 (.tuple [.str k0.1, .bool k0.2.1, .int k0.2.2]) := evd_var rfl hx
          have c := evd_catT n28 (evd_tup n28 (evds_cons (evd_dget (i := 5) (a := p9) (ps := kp) rfl (s28 _ _ e27k) (evd_ixT e12 (evd_int (i := 0)) (by decide) rfl) (ren_some (hkk k0 hk0))) evds_nil) lt1) (evd_slT n28 e12 (evo_some (evd_int (K := K) (M := Dl :: [b]) (i := 1))) evo_none) (by rw [cutD_from (by decide) (by show (1 : Int) ≤ 3; decide)]; show 1 + 2 < 1000000; decide)
          rw [cutD_from (by decide) (by show (1 : Int) ≤ 3; decide)] at c
          exact c)
      rw [renD_map] at ef
      refine evd_sset (K := K) (M := [b]) (evd_tcP kn27 (EvNL.toD kn27 ef)) fun vf H28 s28 hf => ?_
      have w28 := w27.trans (Wk.sub w27.bag w27.tabs s28)
      have hv28 := Dm.w hv10 w28
      have kn28 := w28.bag.cb.kn
      have e0 : EvD K [b] (tVar 10) ([some (.ref a), some (.ref b), some (.int ((0 : Int) + (i : Nat))), some (.str (PyData.shown (houD g))), u4, some (.ref p9), some (.ref p10), some (.str (PyData.shown (ddD kp sp))), some vf, u9, some v, u11, u12, u13] : L2.St) H28 (.tuple [.tuple (g.ks.map kdD), .tuple (g.ss.map PyData.str), judD g.j]) := evd_var rfl hv28
      have es3 := evd_lcT (K := K) (M := [b]) (H := H28) (σ := [some (.ref a), some (.ref b), some (.int ((0 : Int) + (i : Nat))), some (.str (PyData.shown (houD g))), u4, some (.ref p9), some (.ref p10), some (.str (PyData.shown (ddD kp sp))), some vf, u9, some v, u11, u12, u13]) (te := tOp (rIxT K) (tVar 10) (tC (.int 1))) (tb := tDGet (tVar 6) (tVar 13)) (vs := [13]) (j := 13) (ds := g.ss.map PyData.str) (renT sp) kn28 (evd_ixT e0 (evd_int (i := 1)) (by decide) rfl) (by rw [List.length_map]; omega) (by intro z; rfl) (by
          intro Dl hDl d x H29 s29 n29 hd hx
          obtain ⟨z, hz, rfl⟩ := List.mem_map.mp hd
          cases hx.strAt
          exact evd_dget (i := 6) (a := p10) (ps := sp) rfl (s29 _ _ (s28 _ _ e27s)) (evd_var (i := 13) rfl (.str _)) (ren_some (hss z hz)))
      rw [renT_map] at es3
      refine evd_sset (K := K) (M := [b]) (evd_tup kn28 (evds_cons (evd_var (i := 8) rfl hf) (evds_cons (evd_tcP kn28 (EvNL.toD kn28 es3)) (evds_cons (evd_ixT e0 (evd_int (i := 2)) (by decide) rfl) evds_nil))) lt3) fun vd H29 s29 hdue => ?_
      have w29 := w28.trans (Wk.sub w28.bag w28.tabs s29)
      have hv29 := Dm.w hv10 w29
      have kn29 := w29.bag.cb.kn
      have s279 := s28.trans s29
      have er : EvD K [b] (tCall (spRen K) [] E0 (tCons (tVar 10) (tCons (tVar 5) (tCons (tVar 6) tNil)))) ([some (.ref a), some (.ref b), some (.int ((0 : Int) + (i : Nat))), some (.str (PyData.shown (houD g))), u4, some (.ref p9), some (.ref p10), some (.str (PyData.shown (ddD kp sp))), some vf, some vd, some v, u11, u12, u13] : L2.St) H29 (houR kp sp g.ks g.ss g.j) := fun H30 s30 Q q =>
        ⟨v, rfl, .ref p9, rfl, .ref p10, rfl, [b], v, p9, p10, kp, sp, g.ks, g.ss, g.j, rfl, kn29.sub s30, Dm.s hv29 s30, s30 _ _ (s279 _ _ e27k), s30 _ _ (s279 _ _ e27s), by omega, by omega, hkk, hss, fun y H31 s31 hy => q y H31 s31 hy⟩
      have gd : Good (houR kp sp g.ks g.ss g.j) 200000 5 := good_houX (ks := g.ks.map (renK kp)) (ss := g.ss.map (renS sp)) (n := g.ks.length) (m := g.ss.length) (fun z hz => by
        obtain ⟨k0, hk0, rfl⟩ := List.mem_map.mp hz
        exact ⟨ren_in pk kn0 (hkk k0 hk0), (kd_inX ok k0 hk0).2⟩) (by rw [List.length_map]; omega) (fun z hz => by
        obtain ⟨x, hx, rfl⟩ := List.mem_map.mp hz
        exact ren_in ps sn0 (hss x hx)) (by rw [List.length_map]; omega) (by omega) (by omega) ok.j
      refine sifs (alike_if (K := K) (M := [b]) er (evd_var (i := 9) rfl hdue) gd (by decide) (by decide) fun H30 s30 => ?_)
      unfold tNext
      dsimp only
      have w30 := w29.trans (Wk.sub w29.bag w29.tabs s30)
      have hv30 := Dm.w hv10 w30
      have e30k := s30 _ _ (s279 _ _ e27k)
      have e30s := s30 _ _ (s279 _ _ e27s)
      refine cb_args (lstB_of (cons_of ⟨_, rfl, args1 ⟨_, rfl, by show 2 ≤ sizeLine; decide, fun p13 np13 hp13 => ⟨p13, p9, p10, kp, sp, rfl, np13, upd_same, Sub.new hp13 _ _ e30k, Sub.new hp13 _ _ e30s, smk, sms, ?_⟩⟩⟩))
      have w31 : Wk b l [(P0, lamQ)] H10 (upd H30 p13 (.lst [.ref p9, .ref p10])) := w30.trans (Wk.sub w30.bag w30.tabs (Sub.new hp13))
      generalize upd H30 p13 (.lst [V.ref p9, V.ref p10]) = H31 at w31 ⊢
      have hv31 := Dm.w hv10 w31
      refine ⟨_, rfl, rfl, _, rfl, ite2 (fun e => ?_) (fun e => ?_)⟩
      · exact absurd e (by
          rw [decide_eq_true (by rfl)]
          decide)
      · refine ⟨_, rfl, v, [.tuple (g.ks.map kdD), .tuple (g.ss.map PyData.str), judD g.j], 200000, 5, rfl, hv31.all, hgood, by decide, by decide, _, rfl, rfl, _, rfl, ite2 (fun e => ?_) (fun e => ?_)⟩
        · exact absurd e (by
            rw [decide_eq_true (by rfl)]
            decide)
        · exact ⟨_, _, _, _, _, _, _, _, _, _, _, _, rfl, w31.bag, w31.tabs⟩
--LIAT
  · rintro σ H2 ⟨u2, u3, u4, u5, u6, u7, u8, u9, u10, u11, u12, u13, rfl, bag2, T2⟩
    exact k H2
end
end KZ

namespace KZ
open PySem PySem.Spec PyProof.Rows L2 LamX
/-! the law, called from outside: no repr is under way there, and one table of code objects is empty -/
theorem tell_script {P : Program} {w : World} {K : PySem.W.Frag} {t : Shared} {a : Addr} {us : List Value} {ns : List Int} (kin : K.In t.heap) (here : t.heap.get? a = some { cls := .type "list", data := .seq us.toArray })
    (iu : IntsAre us ns) (lu : ns.length ≤ sizeLine) : ∃ H : Hp, (∀ b u, H b = some u → b = a ∧ K.lookup b = none ∧ ∃ o, u = .frz o (.lst (ns.map V.int))) ∧ SqL K H a (ns.map V.int) ∧ ∀ G : Hp, (∀ b u, H b = some u → ObjOk P w G t.heap b u) := by
  have ru := vals_ints iu
  have len := iu.length
  cases e : K.lookup a with
  | some o =>
    have g := kin a o e
    rw [here] at g
    cases g
    exact ⟨fun _ => none, fun _ _ z => (nomatch z), .inr ⟨_, us.toArray, _, e, rfl, rfl, rfl, by rw [List.size_toArray, len]; exact lu, ru⟩, fun _ _ _ z => (nomatch z)⟩
  | none =>
    refine ⟨fun b => if b = a then some (.frz { cls := .type "list", data := .seq us.toArray } (.lst (ns.map V.int))) else none, fun b u z => ?_, .inl (.inr ⟨_, if_pos rfl⟩), fun G b u z => ?_⟩
    · by_cases y : b = a
      · dsimp only at z
        rw [if_pos y] at z
        exact ⟨y, by rw [y]; exact e, _, (Option.some.inj z).symm⟩
      · dsimp only at z
        rw [if_neg y] at z
        cases z
    · by_cases y : b = a
      · dsimp only at z
        rw [if_pos y] at z
        cases Option.some.inj z
        rw [y]
        exact ⟨here, by rw [List.length_map]; exact lu, us, _, ru, here⟩
      · dsimp only at z
        rw [if_neg y] at z
        cases z
theorem lawT {P : Program} {w : World} {K : PySem.W.Frag} {mg mb : Str → Option Value} {k : Nat} {fa a c p : Addr} {fd : FuncData} {sp : Sp} {t : Shared} {us : List Value} {ns : List Int}
    (kin : K.In t.heap) (nm : t.heap.Ns mainGlobals mg) (nb : t.heap.Ns builtinsNs mb) (eb : ∀ x : Str, x ≠ "__name__" → mb x = bootBuiltins x) (nl : t.heap.NoLimit) (ng : t.gens = #[])
    (tab : t.heap.get? p = some { cls := .none, data := .fields #[] }) (ntab : K.lookup p = none) (code : PySem.W.CodeHd t.heap c p)
    (mod : ∃ (bm : Addr) (ob : Obj), mg "__builtins__" = some (.ref bm) ∧ bm ≠ builtinsNs ∧ t.heap.get? bm = some ob ∧ ob.cls = .type "module" ∧ ob.dict = some builtinsNs ∧ ob.data = .plain)
    (here : t.heap.get? a = some { cls := .type "list", data := .seq us.toArray }) (iu : IntsAre us ns) (lu : ns.length ≤ sizeLine) (room : Room k callerA)
    (F : ∀ base : Heap, K.In base → base.Ns mainGlobals mg → TabB base mg c p → FnG P w K mg base k fa fd ["script"] sp) (bind : ∀ (s : Shared) (u : Value), BindsTo s fd ⟨[u], []⟩ [("script", u)])
    (prom : ∀ H : Hp, H p = some (.tbl #[]) → SqL K H a (ns.map V.int) → sp [.ref a] H (fun v _ => v = .bl true) fun _ _ _ => False) :
    codeAny (model P w) callerA (.call (.ref fa) ⟨[.ref a], []⟩) (fun r s' => r = .ok (.ret (.bool true)) ∧ OldK t.heap s'.heap ∧ s'.os = t.os ∧ AllBare s'.gens) t := by
  obtain ⟨H0, only0, seq0, good0⟩ := tell_script (P := P) (w := w) kin here iu lu
  have pa : p ≠ a := fun z => by
    rw [z, here] at tab
    cases (show Data.seq us.toArray _ = Data.fields #[] from congrArg Obj.data (Option.some.inj tab))
  have h0p : H0 p = none := by
    cases e : H0 p with
    | none => rfl
    | some u => exact absurd (only0 p u e).1 pa
  obtain ⟨H, hH⟩ : ∃ H : Hp, H = upd H0 p (.tbl #[]) := ⟨_, rfl⟩
  have hp : H p = some (.tbl #[]) := by
    rw [hH]
    exact upd_same
  have only : ∀ b u, H b = some u → (b = p ∧ u = .tbl #[]) ∨ (b = a ∧ K.lookup b = none ∧ ∃ o, u = .frz o (.lst (ns.map V.int))) := fun b u e => by
    by_cases z : b = p
    · rw [z, hp] at e
      exact .inl ⟨z, (Option.some.inj e).symm⟩
    · rw [hH, upd_ne z] at e
      exact .inr (only0 b u e)
  have seq : SqL K H a (ns.map V.int) := Sub.sqL (fun b o e => by
    rw [hH, upd_ne (ne_of_none e h0p)]
    exact e) seq0
  have good : HOk P w H t.heap := fun b u e => by
    by_cases z : b = p
    · rw [z, hp] at e
      cases Option.some.inj e
      rw [z]
      exact tab
    · rw [hH, upd_ne z] at e
      rw [hH]
      exact good0 _ b u e
  have free : ∀ {b : Addr} {o : Obj}, t.heap.get? b = some o → (∀ u, H b = some u → False) → (hidT t.heap H).get? b = some o := fun {b o} g no => hidT_get g (by
    cases y : H b with
    | none => rfl
    | some u => exact (no u y).elim)
  have other : ∀ {b : Addr} {o : Obj}, t.heap.get? b = some o → o.cls ≠ .none ∨ (∀ fs, o.data ≠ .fields fs) → o.cls ≠ .type "list" ∨ (∀ xs m, o.data ≠ .seq xs m) → ∀ u, H b = some u → False := fun {b o} g n1 n2 u y => by
    rcases only b u y with ⟨z, _⟩ | ⟨z, _⟩
    · rw [z, tab] at g
      cases Option.some.inj g
      rcases n1 with n1 | n1
      · exact n1 rfl
      · exact n1 _ rfl
    · rw [z, here] at g
      cases Option.some.inj g
      rcases n2 with n2 | n2
      · exact n2 rfl
      · exact n2 _ _ rfl
  have kin' : K.In (hidT t.heap H) := fun b o g => free (kin b o g) fun u y => by
    rcases only b u y with ⟨z, _⟩ | ⟨_, h2, _⟩
    · rw [z, ntab] at g
      cases g
    · rw [g] at h2
      cases h2
  have space : ∀ {b : Addr} {m : Str → Option Value}, t.heap.Ns b m → (hidT t.heap H).Ns b m := fun {b m} ⟨o, es, ep, g, d, r⟩ => ⟨o, es, ep, free g (other g (.inr fun fs z => by
    rw [d] at z
    cases z) (.inr fun xs m z => by
    rw [d] at z
    cases z)), d, r⟩
  have pg : mainGlobals ≠ p := fun z => by
    obtain ⟨o, es, ep, g, d, _⟩ := nm
    rw [z, tab] at g
    cases Option.some.inj g
    cases d
  have TB : TabB (hidT t.heap H) mg c p := by
    refine ⟨?_, ?_, pg⟩
    · obtain ⟨o, vs, file, tf, flags, tg, inF, text, tt, g, r1, r2, rest⟩ := code
      exact ⟨o, vs, file, tf, flags, tg, inF, text, tt, free g (other g (.inl fun z => by
        rw [r1] at z
        cases z) (.inl fun z => by
        rw [r1] at z
        injection z with z
        exact absurd z (by decide))), r1, r2, rest⟩
    · obtain ⟨bm, ob, b1, b2, g, b4, b5, b6⟩ := mod
      have q1 : bm ≠ mainGlobals := fun z => by
        obtain ⟨o, es, ep, g', d, _⟩ := nm
        rw [z, g'] at g
        cases Option.some.inj g
        rw [d] at b6
        cases b6
      have q2 : bm ≠ p := fun z => by
        rw [z, tab] at g
        cases Option.some.inj g
        cases b6
      exact ⟨bm, ob, b1, b2, q1, q2, free g (other g (.inr fun fs z => by
        rw [b6] at z
        cases z) (.inr fun xs m z => by
        rw [b6] at z
        cases z)), b4, b5, b6⟩
  obtain ⟨mc, l1, l2⟩ := nl
  have env : Env0 P w K mg (hidT t.heap H) callerA [] t H :=
    { frames := rfl, mod := ⟨kin', space nm, ⟨mb, space nb, eb⟩, ⟨mc, space l1, l2⟩⟩, bs := fun b o g => of_hidT g, bsz := Nat.le_of_eq (hidT_size _ _), funs := trivial, frf := fun b m => (nomatch (show b ∈ ([] : List Addr) from m)), hok := good, bare := .of_eq ng }
  refine codeAny_mono ((F _ kin' (space nm) TB).go callerA [] t H ⟨[.ref a], []⟩ [.ref a] [.ref a] _ _ rfl room env (bind t (.ref a)) (.cons rfl .nil) (prom H hp seq)) fun r s' z => ?_
  cases r with
  | error _ => exact False.elim z
  | ok fl =>
    cases fl with
    | next => exact False.elim z
    | brk => exact False.elim z
    | cont => exact False.elim z
    | ret u =>
      obtain ⟨v, H', z1, z2, un, good', rel, z3⟩ := z
      cases (show v = V.bl true from z3)
      cases (show u = Value.bool true from rel)
      obtain ⟨more, gm⟩ := un.tbls p #[] hp
      have gp : s'.heap.get? p = some { cls := .none, data := .fields (#[] ++ more) } := good' p _ gm
      have keep : ∀ b o, b ≠ p → t.heap.get? b = some o → s'.heap.get? b = some o := fun b o n g => by
        cases y : H b with
        | none => exact un.keep b o g y (fun m => nomatch (show b ∈ ([] : List Addr) from m)) (fun m => nomatch m)
        | some x =>
          rcases only b x y with ⟨z, _⟩ | ⟨_, _, ob, rfl⟩
          · exact absurd z n
          · have g1 := (good b _ y).1
            have g2 := (good' b _ (un.frzs b ob _ y)).1
            rw [g] at g1
            cases Option.some.inj g1
            exact g2
      refine ⟨rfl, ⟨fun b o g => ?_, fun b o g => ?_⟩, z1, z2⟩
      · by_cases n : b = p
        · rw [n] at g ⊢
          rw [tab] at g
          cases Option.some.inj g
          rw [Array.empty_append] at gp
          exact Or.inr (Or.inl ⟨(code.tab tab).isCodeTable, rfl, #[], more, rfl, by
            rw [Array.empty_append]
            exact gp⟩)
        · exact Or.inl (keep b o n g)
      · by_cases n : b = p
        · rw [n]
          exact ⟨_, gp⟩
        · exact ⟨o, keep b o n g⟩
/-- where the law's code object and its table stand -/
structure TabIs (K : PySem.W.Frag) (x : Str) (c p : Addr) : Prop where
  t : PySem.W.tabIn K x = some (c, p)
  n : K.lookup p = none
theorem tab_mk {K : PySem.W.Frag} {x : Str} {f c p : Addr} {oc oc2 : Value} {od od2 : Option Addr} {fd : FuncData} {vs : Array Value} {sl sl2 : Array (Option Value)} (a : PySem.W.nsIn K mainGlobals x = some (some (.ref f))) (l : K.lookup f = some ⟨oc, od, .func fd, sl⟩) (hc : fd.code = .ref c)
    (lc : K.lookup c = some ⟨oc2, od2, .fields vs, sl2⟩) (hv : (vs[11]? : Option Value) = some (.ref p)) : PySem.W.tabIn K x = some (c, p) := by
  unfold PySem.W.tabIn
  rw [a]
  dsimp only
  rw [l]
  dsimp only
  rw [hc]
  dsimp only
  rw [lc]
  dsimp only
  rw [hv]
theorem walkT {l : PySem.W.OpenLaw} {n k : Nat} {q : Program} {loose : List Str} {XP : (Str → Option Value) → Heap → Prop} {YP : World → Heap → Prop} {d : DefRec} {K : Params → PySem.W.Frag} {sp : PySem.W.Frag → Addr → Sp}
    (many : l.most = some n) (few : n ≤ sizeLine) (plain : d.params.defaults = []) (room : Room k callerA) (has : ∀ (w : World) (h : Heap), YP w h → (K w.params).In h) (rec : (recsOf q).find? (fun e => e.name == d.name) = some d)
    (F : ∀ (w : World) (mg : Str → Option Value) (fa : Addr) (h : Heap), (K w.params).In h → h.Ns mainGlobals mg → mg d.name = some (.ref fa) →
      ∃ (fd : FuncData) (c p : Addr), TabIs (K w.params) d.name c p ∧ (∀ (s : Shared) (u : Value), BindsTo s fd ⟨[u], []⟩ [("script", u)]) ∧ ∀ base : Heap, (K w.params).In base → base.Ns mainGlobals mg → TabB base mg c p → FnG l.prog w (K w.params) mg base k fa fd ["script"] (sp (K w.params) p))
    (prom : ∀ (K : PySem.W.Frag) (p : Addr) (H : Hp) (a : Addr) (ns : List Int), ns.length ≤ n → H p = some (.tbl #[]) → SqL K H a (ns.map V.int) → sp K p [.ref a] H (fun v _ => v = .bl true) fun _ _ _ => False) :
    PySem.W.WalkO q loose XP YP l.row.toRowW d [] (fun f vs => PySem.call f vs) := by
  refine Att.attach_call many plain fun w s0 t mg mb fa o pm cd doc a us ns G Y _ _ _ law here iu short bare => ?_
  have kin := has w _ Y
  obtain ⟨fd, c, p, tb, bind, F'⟩ := F w mg fa _ kin G.T.g law
  obtain ⟨code, tab⟩ := PySem.W.tab_of G.T kin rec tb.t
  exact lawT kin G.T.g G.T.b G.T.builtins G.T.nolimit bare tab tb.n code G.T.bmain here iu (Nat.le_trans short few) room F' bind fun H hp seq => prom _ p H a ns short hp seq
end KZ

namespace KZ
open PySem PySem.Spec PyProof.Rows L2 LamX
/-! where each def, each error stands in what the top has written -/
structure At (K : PySem.W.Frag) (x : Str) (st : Stmt) (f : Addr) (fd : FuncData) : Prop where
  a : PySem.W.nsIn K mainGlobals x = some (some (.ref f))
  fn : Fun K x x st f fd
theorem At.cal {P : Program} {w : World} {K : PySem.W.Frag} {h : Heap} {mg : Str → Option Value} {base : Heap} {x : Str} {st : Stmt} {f : Addr} {fd : FuncData} {k : Nat} {ps : List Str} {sp : Sp} (A : At K x st f fd) (X : K.In h) (G : h.Ns mainGlobals mg) (ok : FnOk P w K mg base CX0 k f fd ps sp) (b : Binds K fd ps []) :
    Cal P w K mg base x k ps sp f fd := ⟨ok, PySem.W.mg_of X G A.a, A.fn.kp, b⟩
/-- an own error with one field, as it stands -/
structure ErrF (K : PySem.W.Frag) (x f : Str) (C fI : Addr) : Prop where
  a : PySem.W.nsIn K mainGlobals x = some (some (.ref C))
  o : OexC K C
  i : PySem.W.findIn K (.ref C) "__init__" = some (some (.ref fI))
  t : PySem.W.typeIn K (.ref fI) = some (.type "function")
  no : PySem.W.findIn K (.ref C) f = some none
  ga : PySem.W.findIn K (.ref C) "__getattribute__" = some (some (.builtin "BaseException.__getattribute__"))
  gg : PySem.W.findIn K (.ref C) "__getattr__" = some none
  hd : PySem.W.hasDictIn K C = true
  ic : PySem.W.isClsIn K C = true
theorem ErrF.oer {K : PySem.W.Frag} {h : Heap} {mg : Str → Option Value} {x f : Str} {C fI : Addr} (A : ErrF K x f C fI) (X : K.In h) (G : h.Ns mainGlobals mg) : Oer K mg x f C fI := ⟨A.o, PySem.W.mg_of X G A.a, A.i, A.t, A.no, A.ga, A.gg, A.hd⟩
theorem err_mk {K : PySem.W.Frag} {x f : Str} {C fI : Addr} {nm q : Str} {N : Addr} {bs bm : List Value} {sn : List Str} {sub : List Value} {ab : Bool} {col : Option Bool} {dd : Option Addr} {k0 k1 k2 k3 k5 : Option Value}
    (a : PySem.W.nsIn K mainGlobals x = some (some (.ref C))) (l : K.lookup C = some (excClassObj nm q C N bs bm true sn sub ab col dd k0 k1 k2 k3 k5 "ValueError.__new__")) (re : PySem.HandSPX.refsVE bm = true) (sa : PySem.W.findIn K (.ref C) "__setattr__" = some (some (.builtin "object.__setattr__")))
    (eC : PySem.W.subIn K (.ref C) (.type "BaseException") = some true) (tC : PySem.W.typeIn K (.ref C) = some (.type "type")) (kC : PySem.W.keepIn K (.ref C) = true) (i : PySem.W.findIn K (.ref C) "__init__" = some (some (.ref fI))) (t : PySem.W.typeIn K (.ref fI) = some (.type "function"))
    (no : PySem.W.findIn K (.ref C) f = some none) (ga : PySem.W.findIn K (.ref C) "__getattribute__" = some (some (.builtin "BaseException.__getattribute__"))) (gg : PySem.W.findIn K (.ref C) "__getattr__" = some none) (hd : PySem.W.hasDictIn K C = true) (ic : PySem.W.isClsIn K C = true) : ErrF K x f C fI :=
  ⟨a, ⟨⟨nm, q, N, bs, bm, sn, sub, ab, col, dd, k0, k1, k2, k3, k5, l, re⟩, sa, eC, tC, kC⟩, i, t, no, ga, gg, hd, ic⟩
structure ErrZ (K : PySem.W.Frag) (x : Str) (C : Addr) : Prop where
  a : PySem.W.nsIn K mainGlobals x = some (some (.ref C))
  q : PySem.W.excIn K C [.type "ValueError", .type "Exception", .type "BaseException", .type "object"] "ValueError.__new__" = true
  kC : PySem.W.keepIn K (.ref C) = true
  exC : PySem.W.subIn K (.ref C) (.type "BaseException") = some true
  tyC : PySem.W.typeIn K (.ref C) = some (.type "type")
  ic : PySem.W.isClsIn K C = true
theorem ErrZ.oer {K : PySem.W.Frag} {h : Heap} {mg : Str → Option Value} {x : Str} {C : Addr} (A : ErrZ K x C) (X : K.In h) (G : h.Ns mainGlobals mg) : Oer0 K mg x C := ⟨PySem.W.mg_of X G A.a, A.q, A.kC, A.exC, A.tyC⟩
/-- what «except S» names -/
theorem exm_by {K : PySem.W.Frag} {C S : Addr} {b : Bool} (h1 : PySem.W.subIn K (.ref S) (.type "BaseException") = some true) (h2 : PySem.W.isClsIn K S = true) (h3 : PySem.W.typeIn K (.ref S) = some (.type "type")) (h4 : PySem.W.subIn K (.ref C) (.ref S) = some b) :
    PySem.W.exmOne K (.ref C) (.ref S) = some b := by
  have e1 : (PySem.W.subIn K (.ref S) (.type "BaseException") == some true) = true := by rw [h1] <;> rfl
  have e2 : ((PySem.W.clsIn K S).isSome && PySem.W.typeIn K (.ref S) == some (.type "type")) = true := by
    have h2' : (PySem.W.clsIn K S).isSome = true := h2
    rw [h2', h3] <;> rfl
  show (if (PySem.W.subIn K (.ref S) (.type "BaseException") == some true) = true then (if ((PySem.W.clsIn K S).isSome && PySem.W.typeIn K (.ref S) == some (.type "type")) = true then PySem.W.subIn K (.ref C) (.ref S) else none) else none) = some b
  rw [if_pos e1, if_pos e2]
  exact h4
/-- a method, by what the top tells of it -/
structure IniAt (K : PySem.W.Frag) (qual : Str) (st : Stmt) (f : Addr) (fd : FuncData) : Prop where
  fn : Fun K "__init__" qual st f fd
theorem ini_mk {K : PySem.W.Frag} {qual : Str} {st : Stmt} {f : Addr} {oc : Value} {od an : Option Addr} {osl : Array (Option Value)} {kV doc pm cdv ct : Value}
    (l : K.lookup f = some ⟨oc, od, .func (PySem.W.fnOf "__init__" qual (defArgs st) (defBody st) (defScope st) .none kV doc pm an cdv ct), osl⟩) (c : PySem.W.codeIn K cdv qual = true) (k : PySem.W.keepIn K (.ref f) = true) : ∃ fd, IniAt K qual st f fd :=
  ⟨_, ⟨fun_mk l c k⟩⟩
structure Errs (K : PySem.W.Frag) (CK iK CS iS CT iT CM iM CL iL CF : Addr) : Prop where
  eK : ErrF K "NoKind" "name" CK iK
  eS : ErrF K "NoSort" "name" CS iS
  eT : ErrF K "Taken" "name" CT iT
  eM : ErrF K "TooMany" "most" CM iM
  eL : ErrF K "NotLater" "kind" CL iL
  eF : ErrZ K "TooFew" CF
  mL : ∃ fd, IniAt K "NotLater.__init__" sIniL iL fd
  sLK : PySem.W.subIn K (.ref CL) (.ref CK) = some false
  sLS : PySem.W.subIn K (.ref CL) (.ref CS) = some false
  sLT : PySem.W.subIn K (.ref CL) (.ref CT) = some false
  sLM : PySem.W.subIn K (.ref CL) (.ref CM) = some false
  sLF : PySem.W.subIn K (.ref CL) (.ref CF) = some false
  sLL : PySem.W.subIn K (.ref CL) (.ref CL) = some true
structure Defs (K : PySem.W.Frag) : Prop where
  d0 : ∃ f fd, At K "reordered" sOrd f fd
  d1 : ∃ f fd, At K "renamed_house" sRen f fd
  d2 : ∃ f fd, At K "_picked" sPicked f fd
  d3 : ∃ f fd, At K "_law_bag" sBag f fd
  d4 : ∃ f fd, At K "_law_take" sTake f fd
  d5 : ∃ f fd, At K "_law_some" sSome f fd
  d6 : ∃ f fd, At K "_law_alike" sAlike f fd
  d7 : ∃ f fd, At K "_law_mixed" sMixed f fd
  d8 : ∃ f fd, At K "_law_named" sNamed f fd
  d9 : ∃ f fd, At K "_law_kinds" sKinds f fd
  d10 : ∃ f fd, At K "_law_menu" sMenu f fd
  d11 : ∃ f fd, At K "_law_judge" sJudge f fd
  d12 : ∃ f fd, At K "_law_put" sPut f fd
  d13 : ∃ f fd, At K "_law_spoilt_house" sSpoilt f fd
  d14 : ∃ f fd, At K "_law_house_of" sHo f fd
  d15 : ∃ f fd, At K "_law_picked" sLPicked f fd
  d16 : ∃ f fd, At K "_law_refused" sRef f fd
  d17 : ∃ f fd, At K "_law_orders" sOrders f fd
  d18 : ∃ f fd, At K "_law_in_order" sInOrd f fd
  d19 : ∃ f fd, At K "law" sLaw f fd
  er : ∃ CK iK CS iS CT iT CM iM CL iL CF, Errs K CK iK CS iS CT iT CM iM CL iL CF
  tb : ∃ c p, TabIs K "law" c p
structure Free (K : PySem.W.Frag) : Prop where
  int : PySem.W.nsIn K mainGlobals "int" = some none
  len : PySem.W.nsIn K mainGlobals "len" = some none
  abs : PySem.W.nsIn K mainGlobals "abs" = some none
  range : PySem.W.nsIn K mainGlobals "range" = some none
  tuple : PySem.W.nsIn K mainGlobals "tuple" = some none
  list : PySem.W.nsIn K mainGlobals "list" = some none
  dict : PySem.W.nsIn K mainGlobals "dict" = some none
  repr : PySem.W.nsIn K mainGlobals "repr" = some none
  enumerate : PySem.W.nsIn K mainGlobals "enumerate" = some none
  zip : PySem.W.nsIn K mainGlobals "zip" = some none
theorem Free.txt {K : PySem.W.Frag} {h : Heap} {mg : Str → Option Value} (Z : Free K) (X : K.In h) (G : h.Ns mainGlobals mg) : Txt mg where
  int := PySem.W.mg_none_of X G Z.int
  len := PySem.W.mg_none_of X G Z.len
  abs := PySem.W.mg_none_of X G Z.abs
  range := PySem.W.mg_none_of X G Z.range
  tuple := PySem.W.mg_none_of X G Z.tuple
  list := PySem.W.mg_none_of X G Z.list
  dict := PySem.W.mg_none_of X G Z.dict
  repr := PySem.W.mg_none_of X G Z.repr
  enumerate := PySem.W.mg_none_of X G Z.enumerate
theorem all_mk {l : PySem.W.OpenLaw} {w : World} {K : PySem.W.Frag} {h : Heap} {mg : Str → Option Value} {fa : Addr} (X : K.In h) (G : h.Ns mainGlobals mg) (hfa : mg "law" = some (.ref fa)) (D : Defs K) (Z : Free K) :
    ∃ (fd : FuncData) (c p : Addr), TabIs K "law" c p ∧ (∀ (s : Shared) (v : Value), BindsTo s fd ⟨[v], []⟩ [("script", v)]) ∧ ∀ base : Heap, K.In base → base.Ns mainGlobals mg → TabB base mg c p → FnG l.prog w K mg base 8 fa fd ["script"] (spLaw K p) := by
  have T := Z.txt X G
  obtain ⟨CK, iK, CS, iS, CT, iT, CM, iM, CL, iL, CF, E⟩ := D.er
  obtain ⟨c, p, tb⟩ := D.tb
  obtain ⟨dL, mL⟩ := E.mL
  have bL := mL.fn.binds (ps := ["self", "kind"]) fun _ _ _ _ _ _ us hl => match us, hl with | [_, _], _ => rfl
  obtain ⟨f0, fd0, A0⟩ := D.d0
  obtain ⟨f1, fd1, A1⟩ := D.d1
  obtain ⟨f2, fd2, A2⟩ := D.d2
  obtain ⟨f3, fd3, A3⟩ := D.d3
  obtain ⟨f4, fd4, A4⟩ := D.d4
  obtain ⟨f5, fd5, A5⟩ := D.d5
  obtain ⟨f6, fd6, A6⟩ := D.d6
  obtain ⟨f7, fd7, A7⟩ := D.d7
  obtain ⟨f8, fd8, A8⟩ := D.d8
  obtain ⟨f9, fd9, A9⟩ := D.d9
  obtain ⟨f10, fd10, A10⟩ := D.d10
  obtain ⟨f11, fd11, A11⟩ := D.d11
  obtain ⟨f12, fd12, A12⟩ := D.d12
  obtain ⟨f13, fd13, A13⟩ := D.d13
  obtain ⟨f14, fd14, A14⟩ := D.d14
  obtain ⟨f15, fd15, A15⟩ := D.d15
  obtain ⟨f16, fd16, A16⟩ := D.d16
  obtain ⟨f17, fd17, A17⟩ := D.d17
  obtain ⟨f18, fd18, A18⟩ := D.d18
  obtain ⟨f19, fd19, A19⟩ := D.d19
  have b0 := A0.fn.binds (ps := ["house", "order"]) fun _ _ _ _ _ _ us hl => match us, hl with | [_, _], _ => rfl
  have b1 := A1.fn.binds (ps := ["house", "kinds", "sorts"]) fun _ _ _ _ _ _ us hl => match us, hl with | [_, _, _], _ => rfl
  have b2 := A2.fn.binds (ps := ["judge", "kinds"]) fun _ _ _ _ _ _ us hl => match us, hl with | [_, _], _ => rfl
  have b3 := A3.fn.binds (ps := ["script"]) fun _ _ _ _ _ _ us hl => match us, hl with | [_], _ => rfl
  have b4 := A4.fn.binds (ps := ["bag", "upto"]) fun _ _ _ _ _ _ us hl => match us, hl with | [_, _], _ => rfl
  have b5 := A5.fn.binds (ps := ["bag", "things"]) fun _ _ _ _ _ _ us hl => match us, hl with | [_, _], _ => rfl
  have b6 := A6.fn.binds (ps := ["found", "due"]) fun _ _ _ _ _ _ us hl => match us, hl with | [_, _], _ => rfl
  have b7 := A7.fn.binds (ps := ["bag", "things"]) fun _ _ _ _ _ _ us hl => match us, hl with | [_, _], _ => rfl
  have b8 := A8.fn.binds (ps := ["bag", "many"]) fun _ _ _ _ _ _ us hl => match us, hl with | [_, _], _ => rfl
  have b9 := A9.fn.binds (ps := ["bag", "many", "keeps"]) fun _ _ _ _ _ _ us hl => match us, hl with | [_, _, _], _ => rfl
  have b10 := A10.fn.binds (ps := ["bag", "style"]) fun _ _ _ _ _ _ us hl => match us, hl with | [_, _], _ => rfl
  have b11 := A11.fn.binds (ps := ["bag", "kinds", "sorts", "style"]) fun _ _ _ _ _ _ us hl => match us, hl with | [_, _, _, _], _ => rfl
  have b12 := A12.fn.binds (ps := ["judge", "sort", "asker", "holder", "couple"]) fun _ _ _ _ _ _ us hl => match us, hl with | [_, _, _, _, _], _ => rfl
  have b13 := A13.fn.binds (ps := ["bag", "house"]) fun _ _ _ _ _ _ us hl => match us, hl with | [_, _], _ => rfl
  have b14 := A14.fn.binds (ps := ["bag", "kinds", "sorts", "style"]) fun _ _ _ _ _ _ us hl => match us, hl with | [_, _, _, _], _ => rfl
  have b15 := A15.fn.binds (ps := ["house", "order"]) fun _ _ _ _ _ _ us hl => match us, hl with | [_, _], _ => rfl
  have b16 := A16.fn.binds (ps := ["act"]) fun _ _ _ _ _ _ us hl => match us, hl with | [_], _ => rfl
  have b17 := A17.fn.binds (ps := ["bag", "many"]) fun _ _ _ _ _ _ us hl => match us, hl with | [_, _], _ => rfl
  have b18 := A18.fn.binds (ps := ["house", "order"]) fun _ _ _ _ _ _ us hl => match us, hl with | [_, _], _ => rfl
  cases hfa.symm.trans (PySem.W.mg_of X G A19.a)
  have hcv : fd19.code = .ref c := by
    obtain ⟨oc, od, kV, doc, pm, an, cdv, ct, osl, e, lk, hcd⟩ := A19.fn.ex
    exact PySem.W.law_code X G tb.t hfa (X _ _ lk) rfl
  refine ⟨fd19, c, p, tb, fun s v => ?_, fun base _ _ TB => ?_⟩
  · obtain ⟨oc, od, kV, doc, pm, an, cdv, ct, osl, e, _⟩ := A19.fn.ex
    rw [e]
    exact .of_eq rfl
  have EL : Mer l.prog w K mg base "NotLater" "kind" CL iL := ⟨E.eL.oer X G, dL, ok_iniL mL.fn, bL⟩
  have EF := E.eF.oer X G
  have R : Refs K mg CK CS CT CM CF CL iK iS iT iM iL := {
    nk := E.eK.oer X G, ns := E.eS.oer X G, tk := E.eT.oer X G, tm := E.eM.oer X G, tf := EF, nl := E.eL.oer X G,
    l1 := exm_by E.eK.o.exC E.eK.ic E.eK.o.tyC E.sLK, l2 := exm_by E.eS.o.exC E.eS.ic E.eS.o.tyC E.sLS, l3 := exm_by E.eT.o.exC E.eT.ic E.eT.o.tyC E.sLT, l4 := exm_by E.eM.o.exC E.eM.ic E.eM.o.tyC E.sLM, l5 := exm_by E.eF.exC E.eF.ic E.eF.tyC E.sLF, l6 := exm_by E.eL.o.exC E.eL.ic E.eL.o.tyC E.sLL }
  have c1 := A4.cal X G (ok_take (P := l.prog) (w := w) (base := base) A4.fn T) b4
  have c2 := A5.cal X G (ok_some A5.fn T c1) b5
  have c3 := A7.cal X G (ok_mixed A7.fn T c1) b7
  have c4 := A8.cal X G (ok_named A8.fn c3) b8
  have c4L := A8.cal X G (ok_namedL A8.fn c3) b8
  have c5 := A9.cal X G (ok_kinds A9.fn T c1 c2 c4) b9
  have c6 := A10.cal X G (ok_menu A10.fn T c2) b10
  have c7 := A11.cal X G (ok_judge A11.fn T c2 c6) b11
  have c8 := A12.cal X G (ok_put (P := l.prog) (w := w) (base := base) (mg := mg) A12.fn) b12
  have c9 := A13.cal X G (ok_spoilt A13.fn T c1 c2 c8) b13
  have c10 := A14.cal X G (ok_ho A14.fn T c1 c2 c5 c4 c7 c9 (PySem.W.mg_of X G A14.a) b14) b14
  have c11 := A3.cal X G (ok_bag (P := l.prog) (w := w) (base := base) A3.fn T) b3
  have c12 := A15.cal X G (ok_lPicked (P := l.prog) (w := w) (base := base) A15.fn T) b15
  have c13 := A17.cal X G (ok_Orders A17.fn T c3) b17
  have c14 := A18.cal X G (ok_InOrd (CL := CL) A18.fn T c12) b18
  have c15 := A7.cal X G (ok_mixedV A7.fn T c1) b7
  have c16 := A2.cal X G (ok_pickedT (P := l.prog) (w := w) (base := base) A2.fn T) b2
  have c17 := A1.cal X G (ok_Ren (P := l.prog) (w := w) (base := base) A1.fn T) b1
  have c20 : CalG l.prog w K mg base "_law_alike" 1 ["found", "due"] (spAlike K) f6 fd6 := ⟨ok_alike A6.fn T, PySem.W.mg_of X G A6.a, A6.fn.kp, b6⟩
  exact ok_law A19.fn hcv T (PySem.W.mg_none_of X G Z.zip) c11 c2 c10 c4L c13 c15 c14 c20 c17 R A16.fn (PySem.W.mg_of X G A16.a) b16
    (ok_Ord A0.fn T EL c16) (PySem.W.mg_of X G A0.a) A0.fn.kp b0 TB
/-- one def, by what the top tells of it -/
theorem at_mk {K : PySem.W.Frag} {x : Str} {st : Stmt} {f : Addr} {oc : Value} {od an : Option Addr} {osl : Array (Option Value)} {kV doc pm cdv ct : Value} (a : PySem.W.nsIn K mainGlobals x = some (some (.ref f)))
    (l : K.lookup f = some ⟨oc, od, .func (PySem.W.fnOf x x (defArgs st) (defBody st) (defScope st) .none kV doc pm an cdv ct), osl⟩) (c : PySem.W.codeIn K cdv x = true) (k : PySem.W.keepIn K (.ref f) = true) : ∃ f fd, At K x st f fd :=
  ⟨f, _, a, fun_mk l c k⟩
theorem glob_mk {K : PySem.W.Frag} {x : Str} {i : Int} {t : Tok} (h : PySem.W.nsIn K mainGlobals x = some (some (.int i t))) : ∃ t, PySem.W.nsIn K mainGlobals x = some (some (.int i t)) := ⟨t, h⟩
theorem tab_ex {K : PySem.W.Frag} {x : Str} {f c p : Addr} {oc oc2 : Value} {od od2 : Option Addr} {fd : FuncData} {vs : Array Value} {sl sl2 : Array (Option Value)} (a : PySem.W.nsIn K mainGlobals x = some (some (.ref f))) (l : K.lookup f = some ⟨oc, od, .func fd, sl⟩) (hc : fd.code = .ref c)
    (lc : K.lookup c = some ⟨oc2, od2, .fields vs, sl2⟩) (hv : (vs[11]? : Option Value) = some (.ref p)) (n : K.lookup p = none) : ∃ c p, TabIs K x c p := ⟨c, p, tab_mk a l hc lc hv, n⟩
theorem errs_mk {K : PySem.W.Frag} {CK iK CS iS CT iT CM iM CL iL CF : Addr} (eK : ErrF K "NoKind" "name" CK iK) (eS : ErrF K "NoSort" "name" CS iS) (eT : ErrF K "Taken" "name" CT iT) (eM : ErrF K "TooMany" "most" CM iM) (eL : ErrF K "NotLater" "kind" CL iL) (eF : ErrZ K "TooFew" CF) (mL : ∃ fd, IniAt K "NotLater.__init__" sIniL iL fd) (sLK : PySem.W.subIn K (.ref CL) (.ref CK) = some false) (sLS : PySem.W.subIn K (.ref CL) (.ref CS) = some false) (sLT : PySem.W.subIn K (.ref CL) (.ref CT) = some false) (sLM : PySem.W.subIn K (.ref CL) (.ref CM) = some false) (sLF : PySem.W.subIn K (.ref CL) (.ref CF) = some false) (sLL : PySem.W.subIn K (.ref CL) (.ref CL) = some true) : ∃ CK iK CS iS CT iT CM iM CL iL CF, Errs K CK iK CS iS CT iT CM iM CL iL CF := ⟨CK, iK, CS, iS, CT, iT, CM, iM, CL, iL, CF, ⟨eK, eS, eT, eM, eL, eF, mL, sLK, sLS, sLT, sLM, sLF, sLL⟩⟩
theorem walk {l : PySem.W.OpenLaw} {q : Program} {loose : List Str} {XP : (Str → Option Value) → Heap → Prop} {YP : World → Heap → Prop} {d : DefRec} {K : Params → PySem.W.Frag} (many : l.most = some 63) (plain : d.params.defaults = []) (has : ∀ (w : World) (h : Heap), YP w h → (K w.params).In h)
    (rec : (recsOf q).find? (fun e => e.name == d.name) = some d)
    (F : ∀ (w : World) (mg : Str → Option Value) (fa : Addr) (h : Heap), (K w.params).In h → h.Ns mainGlobals mg → mg d.name = some (.ref fa) →
      ∃ (fd : FuncData) (c p : Addr), TabIs (K w.params) d.name c p ∧ (∀ (s : Shared) (u : Value), BindsTo s fd ⟨[u], []⟩ [("script", u)]) ∧ ∀ base : Heap, (K w.params).In base → base.Ns mainGlobals mg → TabB base mg c p → FnG l.prog w (K w.params) mg base 8 fa fd ["script"] (spLaw (K w.params) p)) :
    PySem.W.WalkO q loose XP YP l.row.toRowW d [] (fun f vs => PySem.call f vs) :=
  walkT (n := 63) (k := 8) (sp := spLaw) many (by decide) plain ⟨rfl, by decide, by decide⟩ has rec F fun K p H a ns few hp seq => ⟨a, ns, rfl, seq, few, hp, fun _ => rfl⟩
end KZ

open PySem PySem.W PyProof.Rows in
set_option maxRecDepth 100000 in
set_option maxHeartbeats 0 in
theorem PySem.Challenge.cw_comesthrough_k17_kinds_reordered_and_nam_holds : PySem.Challenge.rw_comesthrough_k17_kinds_reordered_and_nam.Holds := by
  w_on; o_law; k_head; (case hw => w_witness2)
  k_fill
  refine KZ.walk (l := PySem.Challenge.rw_comesthrough_k17_kinds_reordered_and_nam) rfl rfl (fun w h Y => PySem.W.km_in_of Y) rfl ?F
  case F =>
    intro w mg fa h KX G hmg
    refine' KZ.all_mk KX G hmg ⟨?d0, ?d1, ?d2, ?d3, ?d4, ?d5, ?d6, ?d7, ?d8, ?d9, ?d10, ?d11, ?d12, ?d13, ?d14, ?d15, ?d16, ?d17, ?d18, ?d19, ?er, ?tb⟩ ⟨?z0, ?z1, ?z2, ?z3, ?z4, ?z5, ?z6, ?z7, ?z8, ?z9⟩
    (case d0 => refine' KZ.at_mk ?a ?l ?c ?k; (case a => k_is); (case l => k_is); (case c => k_is); (case k => k_is))
    (case d1 => refine' KZ.at_mk ?a ?l ?c ?k; (case a => k_is); (case l => k_is); (case c => k_is); (case k => k_is))
    (case d2 => refine' KZ.at_mk ?a ?l ?c ?k; (case a => k_is); (case l => k_is); (case c => k_is); (case k => k_is))
    (case d3 => refine' KZ.at_mk ?a ?l ?c ?k; (case a => k_is); (case l => k_is); (case c => k_is); (case k => k_is))
    (case d4 => refine' KZ.at_mk ?a ?l ?c ?k; (case a => k_is); (case l => k_is); (case c => k_is); (case k => k_is))
    (case d5 => refine' KZ.at_mk ?a ?l ?c ?k; (case a => k_is); (case l => k_is); (case c => k_is); (case k => k_is))
    (case d6 => refine' KZ.at_mk ?a ?l ?c ?k; (case a => k_is); (case l => k_is); (case c => k_is); (case k => k_is))
    (case d7 => refine' KZ.at_mk ?a ?l ?c ?k; (case a => k_is); (case l => k_is); (case c => k_is); (case k => k_is))
    (case d8 => refine' KZ.at_mk ?a ?l ?c ?k; (case a => k_is); (case l => k_is); (case c => k_is); (case k => k_is))
    (case d9 => refine' KZ.at_mk ?a ?l ?c ?k; (case a => k_is); (case l => k_is); (case c => k_is); (case k => k_is))
    (case d10 => refine' KZ.at_mk ?a ?l ?c ?k; (case a => k_is); (case l => k_is); (case c => k_is); (case k => k_is))
    (case d11 => refine' KZ.at_mk ?a ?l ?c ?k; (case a => k_is); (case l => k_is); (case c => k_is); (case k => k_is))
    (case d12 => refine' KZ.at_mk ?a ?l ?c ?k; (case a => k_is); (case l => k_is); (case c => k_is); (case k => k_is))
    (case d13 => refine' KZ.at_mk ?a ?l ?c ?k; (case a => k_is); (case l => k_is); (case c => k_is); (case k => k_is))
    (case d14 => refine' KZ.at_mk ?a ?l ?c ?k; (case a => k_is); (case l => k_is); (case c => k_is); (case k => k_is))
    (case d15 => refine' KZ.at_mk ?a ?l ?c ?k; (case a => k_is); (case l => k_is); (case c => k_is); (case k => k_is))
    (case d16 => refine' KZ.at_mk ?a ?l ?c ?k; (case a => k_is); (case l => k_is); (case c => k_is); (case k => k_is))
    (case d17 => refine' KZ.at_mk ?a ?l ?c ?k; (case a => k_is); (case l => k_is); (case c => k_is); (case k => k_is))
    (case d18 => refine' KZ.at_mk ?a ?l ?c ?k; (case a => k_is); (case l => k_is); (case c => k_is); (case k => k_is))
    (case d19 => refine' KZ.at_mk ?a ?l ?c ?k; (case a => k_is); (case l => k_is); (case c => k_is); (case k => k_is))
    (case tb => refine' KZ.tab_ex ?tb_a ?tb_l ?tb_hc ?tb_lc ?tb_hv ?tb_n; (case tb_a => k_is); (case tb_l => k_is); (case tb_hc => rfl); (case tb_lc => k_is); (case tb_hv => rfl); (case tb_n => kernel_rfl))
    (case er =>
      refine' KZ.errs_mk (KZ.err_mk ?K_a ?K_l ?K_re ?K_sa ?K_eC ?K_tC ?K_kC ?K_i ?K_t ?K_no ?K_ga ?K_gg ?K_hd ?K_ic) (KZ.err_mk ?S_a ?S_l ?S_re ?S_sa ?S_eC ?S_tC ?S_kC ?S_i ?S_t ?S_no ?S_ga ?S_gg ?S_hd ?S_ic) (KZ.err_mk ?T_a ?T_l ?T_re ?T_sa ?T_eC ?T_tC ?T_kC ?T_i ?T_t ?T_no ?T_ga ?T_gg ?T_hd ?T_ic) (KZ.err_mk ?M_a ?M_l ?M_re ?M_sa ?M_eC ?M_tC ?M_kC ?M_i ?M_t ?M_no ?M_ga ?M_gg ?M_hd ?M_ic) (KZ.err_mk ?L_a ?L_l ?L_re ?L_sa ?L_eC ?L_tC ?L_kC ?L_i ?L_t ?L_no ?L_ga ?L_gg ?L_hd ?L_ic) ⟨?F_a, ?F_q, ?F_kC, ?F_exC, ?F_tyC, ?F_ic⟩ (KZ.ini_mk ?L_l1 ?L_c1 ?L_k1) ?s_LK ?s_LS ?s_LT ?s_LM ?s_LF ?s_LL
      (case K_a => k_is)
      (case K_l => k_is)
      (case K_re => rfl)
      (case K_sa => k_is)
      (case K_eC => k_is)
      (case K_tC => k_is)
      (case K_kC => k_is)
      (case K_i => k_is)
      (case K_t => k_is)
      (case K_no => k_is)
      (case K_ga => k_is)
      (case K_gg => k_is)
      (case K_hd => k_is)
      (case K_ic => k_is)
      (case S_a => k_is)
      (case S_l => k_is)
      (case S_re => rfl)
      (case S_sa => k_is)
      (case S_eC => k_is)
      (case S_tC => k_is)
      (case S_kC => k_is)
      (case S_i => k_is)
      (case S_t => k_is)
      (case S_no => k_is)
      (case S_ga => k_is)
      (case S_gg => k_is)
      (case S_hd => k_is)
      (case S_ic => k_is)
      (case T_a => k_is)
      (case T_l => k_is)
      (case T_re => rfl)
      (case T_sa => k_is)
      (case T_eC => k_is)
      (case T_tC => k_is)
      (case T_kC => k_is)
      (case T_i => k_is)
      (case T_t => k_is)
      (case T_no => k_is)
      (case T_ga => k_is)
      (case T_gg => k_is)
      (case T_hd => k_is)
      (case T_ic => k_is)
      (case M_a => k_is)
      (case M_l => k_is)
      (case M_re => rfl)
      (case M_sa => k_is)
      (case M_eC => k_is)
      (case M_tC => k_is)
      (case M_kC => k_is)
      (case M_i => k_is)
      (case M_t => k_is)
      (case M_no => k_is)
      (case M_ga => k_is)
      (case M_gg => k_is)
      (case M_hd => k_is)
      (case M_ic => k_is)
      (case L_a => k_is)
      (case L_l => k_is)
      (case L_re => rfl)
      (case L_sa => k_is)
      (case L_eC => k_is)
      (case L_tC => k_is)
      (case L_kC => k_is)
      (case L_i => k_is)
      (case L_t => k_is)
      (case L_no => k_is)
      (case L_ga => k_is)
      (case L_gg => k_is)
      (case L_hd => k_is)
      (case L_ic => k_is)
      (case F_a => k_is)
      (case F_q => kernel_rfl)
      (case F_kC => k_is)
      (case F_exC => k_is)
      (case F_tyC => k_is)
      (case F_ic => k_is)
      (case L_l1 => k_is)
      (case L_c1 => k_is)
      (case L_k1 => k_is)
      (case s_LK => first | k_is | rfl)
      (case s_LS => first | k_is | rfl)
      (case s_LT => first | k_is | rfl)
      (case s_LM => first | k_is | rfl)
      (case s_LF => first | k_is | rfl)
      (case s_LL => first | k_is | rfl))
    (case z0 => k_is)
    (case z1 => k_is)
    (case z2 => k_is)
    (case z3 => k_is)
    (case z4 => k_is)
    (case z5 => k_is)
    (case z6 => k_is)
    (case z7 => k_is)
    (case z8 => k_is)
    (case z9 => k_is)
#print axioms PySem.Challenge.cw_comesthrough_k17_kinds_reordered_and_nam_holds
