import PyProof.Rows.All
import Wide.All
import OpenK.AllK
import Wide.FinOn
import HandS.ForMost
import HandS.TupAny
import HandS.More
import HandS.Conv
import HandS.DictTup
import HandS.Evl
import KE.KDictPairs
import KE.KDictCopyH
import KE.KDictKeyed
import PyProof.EnumMake
import HandS.Iter
import HandS.Comp
import HandS.Flow
import PySem.Challenge.RW_comesthrough_k14_raises_meek_and_keeps
set_option Elab.async false
set_option linter.all false
set_option maxRecDepth 100000
set_option maxHeartbeats 4000000
namespace KZ
open PySem PySem.Spec PyProof.Rows L2

/-! data under a heap that tells more -/
def Sub (H H' : Hp) : Prop := ∀ a o, H a = some o → H' a = some o
theorem Sub.refl (H : Hp) : Sub H H := fun _ _ h => h
theorem Sub.trans {A B C : Hp} (x : Sub A B) (y : Sub B C) : Sub A C := fun a o h => y a o (x a o h)
theorem Sub.rd {H H' : Hp} (k : Sub H H') {a : Addr} {u : HO} (h : Rd H a u) : Rd H' a u :=
  h.elim (fun h => Or.inl (k _ _ h)) fun ⟨o, h⟩ => Or.inr ⟨o, k _ _ h⟩
theorem Sub.sqL {K : PySem.W.Frag} {H H' : Hp} (k : Sub H H') {a : Addr} {xs : List V} (h : SqL K H a xs) : SqL K H' a xs :=
  h.elim (fun h => Or.inl (k.rd h)) Or.inr
theorem Sub.sqT {K : PySem.W.Frag} {H H' : Hp} (k : Sub H H') {a : Addr} {xs : List V} (h : SqT K H a xs) : SqT K H' a xs :=
  h.elim (fun h => Or.inl (k.rd h)) Or.inr
mutual
theorem Sub.dp {K : PySem.W.Frag} {H H' : Hp} (k : Sub H H') : ∀ (d : PyData) (v : V), Dp K H v d → Dp K H' v d
  | .none, _, h => by
    cases h
    exact .non
  | .bool b, _, h => by
    cases h
    exact .bl b
  | .int i, _, h => by
    cases h
    exact .int i
  | .str x, _, h => by
    cases h
    exact .str x
  | .list ds, _, h => by
    cases h with
    | lst hs ha => exact .lst (k.sqL hs) (Sub.dps k ds _ ha)
  | .tuple ds, _, h => by
    cases h with
    | tup hs ha => exact .tup (k.sqT hs) (Sub.dps k ds _ ha)
  | .dict _, _, h => by cases h
theorem Sub.dps {K : PySem.W.Frag} {H H' : Hp} (k : Sub H H') : ∀ (ds : List PyData) (vs : List V), DpAll K H vs ds → DpAll K H' vs ds
  | [], _, h => by
    cases h
    exact .nil
  | d :: ds, _, h => by
    cases h with
    | cons h1 h2 => exact .cons (Sub.dp k d _ h1) (Sub.dps k ds _ h2)
end
end KZ
namespace L2
open PySem PySem.Spec PyProof.Rows
theorem DpAll.len {K : PySem.W.Frag} {H : Hp} : ∀ {ds : List PyData} {vs : List V}, DpAll K H vs ds → vs.length = ds.length
  | [], _, h => by
    cases h
    rfl
  | d :: ds, _, h => by
    cases h with
    | cons h1 h2 => rw [List.length_cons, List.length_cons, DpAll.len h2]
theorem DpAll.get {K : PySem.W.Frag} {H : Hp} : ∀ {ds : List PyData} {vs : List V} {i : Nat} {d : PyData}, DpAll K H vs ds → ds[i]? = some d → ∃ v, vs[i]? = some v ∧ Dp K H v d
  | [], _, _, _, _, e => by simp at e
  | d :: ds, _, 0, _, h, e => by
    cases h with
    | cons h1 h2 => exact ⟨_, rfl, by rw [← Option.some.inj e]; exact h1⟩
  | d :: ds, _, i + 1, _, h, e => by
    cases h with
    | cons h1 h2 => exact DpAll.get (i := i) h2 e
theorem DpAll.get' {K : PySem.W.Frag} {H : Hp} {ds : List PyData} {vs : List V} {i : Nat} {v : V} (h : DpAll K H vs ds) (e : vs[i]? = some v) : ∃ d, ds[i]? = some d ∧ Dp K H v d := by
  have hi : i < ds.length := by rw [← h.len]; exact (List.getElem?_eq_some_iff.mp e).1
  obtain ⟨w, hw, q⟩ := h.get (List.getElem?_eq_getElem hi)
  rw [e] at hw
  cases hw
  exact ⟨_, List.getElem?_eq_getElem hi, q⟩
theorem DpAll.app {K : PySem.W.Frag} {H : Hp} : ∀ {ds : List PyData} {vs ws : List V} {es : List PyData}, DpAll K H vs ds → DpAll K H ws es → DpAll K H (vs ++ ws) (ds ++ es)
  | [], _, _, _, h, g => by
    cases h
    exact g
  | d :: ds, _, _, _, h, g => by
    cases h with
    | cons h1 h2 => exact .cons h1 (DpAll.app h2 g)
theorem DpAll.one {K : PySem.W.Frag} {H : Hp} {v : V} {d : PyData} (h : Dp K H v d) : DpAll K H [v] [d] := .cons h .nil
theorem DpAll.drop {K : PySem.W.Frag} {H : Hp} : ∀ (n : Nat) {ds : List PyData} {vs : List V}, DpAll K H vs ds → DpAll K H (vs.drop n) (ds.drop n)
  | 0, _, _, h => h
  | n + 1, [], _, h => by
    cases h
    exact .nil
  | n + 1, d :: ds, _, h => by
    cases h with
    | cons h1 h2 => exact DpAll.drop n h2
theorem DpAll.take {K : PySem.W.Frag} {H : Hp} : ∀ (n : Nat) {ds : List PyData} {vs : List V}, DpAll K H vs ds → DpAll K H (vs.take n) (ds.take n)
  | 0, _, _, h => .nil
  | n + 1, [], _, h => by
    cases h
    exact .nil
  | n + 1, d :: ds, _, h => by
    cases h with
    | cons h1 h2 => exact .cons h1 (DpAll.take n h2)

end L2
namespace KZ
open PySem PySem.Spec PyProof.Rows L2
/-! data outside of some places -/
def er (M : List Addr) (H : Hp) : Hp := fun a => if a ∈ M then none else H a
theorem er_in {M : List Addr} {H : Hp} {a : Addr} (h : a ∉ M) : er M H a = H a := if_neg h
theorem er_sub (M : List Addr) (H : Hp) : Sub (er M H) H := fun a o h => by
  unfold er at h
  by_cases z : a ∈ M
  · rw [if_pos z] at h
    cases h
  · rw [if_neg z] at h
    exact h
/-- what stood outside of M stands -/
def Kp (M : List Addr) (H H' : Hp) : Prop := ∀ a o, a ∉ M → H a = some o → H' a = some o
theorem Kp.refl (M : List Addr) (H : Hp) : Kp M H H := fun _ _ _ h => h
theorem Kp.trans {M : List Addr} {A B C : Hp} (x : Kp M A B) (y : Kp M B C) : Kp M A C := fun a o m h => y a o m (x a o m h)
theorem Kp.less {M M' : List Addr} {H H' : Hp} (k : Kp M H H') (m : ∀ a ∈ M, a ∈ M') : Kp M' H H' := fun a o n h => k a o (fun z => n (m a z)) h
theorem Kp.er {M : List Addr} {H H' : Hp} (k : Kp M H H') : Sub (er M H) (er M H') := fun a o h => by
  by_cases z : a ∈ M
  · unfold KZ.er at h
    rw [if_pos z] at h
    cases h
  · rw [er_in z] at h ⊢
    exact k a o z h
theorem er_less {M M' : List Addr} (H : Hp) (m : ∀ a ∈ M, a ∈ M') : Sub (er M' H) (er M H) := fun a o h => by
  by_cases z : a ∈ M'
  · unfold KZ.er at h
    rw [if_pos z] at h
    cases h
  · rw [er_in z] at h
    rw [er_in fun y => z (m a y)]
    exact h
theorem Kp.new {M : List Addr} {H : Hp} {p : Addr} {o : HO} (h : H p = none) : Kp M H (upd H p o) := fun a u _ e => by
  rw [upd_ne (ne_of_none e h)]
  exact e
theorem Kp.mut {M : List Addr} {H : Hp} {p : Addr} {o : HO} (h : p ∈ M) : Kp M H (upd H p o) := fun a u n e => by
  rw [upd_ne fun z => n (by rw [z]; exact h)]
  exact e
/-- the places of M are known -/
def Kn (M : List Addr) (H : Hp) : Prop := ∀ a ∈ M, ∃ o, H a = some o
theorem Kn.new {M : List Addr} {H : Hp} (k : Kn M H) {p : Addr} {o : HO} : Kn M (upd H p o) := fun a m => by
  by_cases z : a = p
  · exact ⟨o, by rw [z]; exact upd_same⟩
  · rw [upd_ne z]
    exact k a m
theorem Kn.out {M : List Addr} {H : Hp} (k : Kn M H) {p : Addr} (h : H p = none) : p ∉ M := fun m => by
  obtain ⟨o, e⟩ := k p m
  rw [h] at e
  cases e
abbrev Dm (K : PySem.W.Frag) (M : List Addr) (H : Hp) (v : V) (d : PyData) : Prop := Dp K (er M H) v d
abbrev Dms (K : PySem.W.Frag) (M : List Addr) (H : Hp) (vs : List V) (ds : List PyData) : Prop := DpAll K (er M H) vs ds
section
variable {K : PySem.W.Frag} {M M' : List Addr} {H H' : Hp} {v : V} {d : PyData} {vs : List V} {ds : List PyData}
theorem Dm.k (h : Dm K M H v d) (k : Kp M H H') : Dm K M H' v d := Sub.dp k.er _ _ h
theorem Dms.k (h : Dms K M H vs ds) (k : Kp M H H') : Dms K M H' vs ds := Sub.dps k.er _ _ h
theorem Dm.less (h : Dm K M' H v d) (m : ∀ a ∈ M, a ∈ M') : Dm K M H v d := Sub.dp (er_less H m) _ _ h
theorem Dms.less (h : Dms K M' H vs ds) (m : ∀ a ∈ M, a ∈ M') : Dms K M H vs ds := Sub.dps (er_less H m) _ _ h
theorem Dm.all (h : Dm K M H v d) : Dp K H v d := Sub.dp (er_sub M H) _ _ h
theorem Dms.all (h : Dms K M H vs ds) : DpAll K H vs ds := Sub.dps (er_sub M H) _ _ h
/-- a fresh place may be set aside -/
theorem er_more {p : Addr} (h : H p = none) : er (p :: M) H = er M H := by
  funext a
  unfold er
  by_cases z : a = p
  · by_cases y : a ∈ M
    · rw [if_pos (List.mem_cons_of_mem _ y), if_pos y]
    · rw [if_pos (by rw [z]; exact List.mem_cons_self), if_neg y, z, h]
  · by_cases y : a ∈ M
    · rw [if_pos (List.mem_cons_of_mem _ y), if_pos y]
    · rw [if_neg (by intro q; rcases List.mem_cons.mp q with q | q; exact z q; exact y q), if_neg y]
theorem Dm.more {p : Addr} (h : Dm K M H v d) (hp : H p = none) : Dm K (p :: M) H v d := by
  show Dp K (er (p :: M) H) v d
  rw [er_more hp]
  exact h
theorem Dms.more {p : Addr} (h : Dms K M H vs ds) (hp : H p = none) : Dms K (p :: M) H vs ds := by
  show DpAll K (er (p :: M) H) vs ds
  rw [er_more hp]
  exact h
theorem Dm.tupNew {p : Addr} (n : Kn M H) (hp : H p = none) (h : Dms K M H vs ds) : Dm K M (upd H p (.tup vs)) (.ref p) (.tuple ds) :=
  .tup (SqT.of (by rw [er_in (n.out hp)]; exact upd_same)) (Dms.k h (Kp.new hp))
theorem Dm.lstNew {p : Addr} (n : Kn M H) (hp : H p = none) (h : Dms K M H vs ds) : Dm K M (upd H p (.lst vs)) (.ref p) (.list ds) :=
  .lst (SqL.of (by rw [er_in (n.out hp)]; exact upd_same)) (Dms.k h (Kp.new hp))
/-- a list that stands apart is data at last -/
theorem Dm.lstOf {p : Addr} (hp : p ∉ M) (e : H p = some (.lst vs)) (h : Dms K (p :: M) H vs ds) : Dm K M H (.ref p) (.list ds) :=
  .lst (SqL.of (by rw [er_in hp]; exact e)) (Dms.less h fun a m => List.mem_cons_of_mem _ m)
theorem Dm.tupAt (h : Dm K M H v (.tuple ds)) : ∃ a xs, v = .ref a ∧ SqT K H a xs ∧ Dms K M H xs ds := by
  cases h with
  | tup hs ha => exact ⟨_, _, rfl, (er_sub M H).sqT hs, ha⟩
theorem Dm.lstAt (h : Dm K M H v (.list ds)) : ∃ a xs, v = .ref a ∧ SqL K H a xs ∧ Dms K M H xs ds := by
  cases h with
  | lst hs ha => exact ⟨_, _, rfl, (er_sub M H).sqL hs, ha⟩
theorem Dm.lstAtE (h : Dm K M H v (.list ds)) : ∃ a xs, v = .ref a ∧ SqL K (er M H) a xs ∧ Dms K M H xs ds := by
  cases h with
  | lst hs ha => exact ⟨_, _, rfl, hs, ha⟩
theorem Dm.tupAtE (h : Dm K M H v (.tuple ds)) : ∃ a xs, v = .ref a ∧ SqT K (er M H) a xs ∧ Dms K M H xs ds := by
  cases h with
  | tup hs ha => exact ⟨_, _, rfl, hs, ha⟩
theorem Dm.intAt {i : Int} (h : Dm K M H v (.int i)) : v = .int i := by
  cases h
  rfl
theorem Dm.strAt {i : Str} (h : Dm K M H v (.str i)) : v = .str i := by
  cases h
  rfl
theorem Dm.blAt {i : Bool} (h : Dm K M H v (.bool i)) : v = .bl i := by
  cases h
  rfl
end

/-! the bag: a list of three ints and a list of ints -/
def Bag (b l : Addr) (H : Hp) : Prop := ∃ (x y i : Int) (cs : List Int), H b = some (.lst [.int x, .int y, .int i, .ref l]) ∧ l ≠ b ∧ H l = some (.lst (cs.map V.int)) ∧ 0 ≤ x ∧ 0 ≤ y ∧ y < 2147483647 ∧ 0 ≤ i ∧ cs.length ≤ 1000 ∧ ∀ c ∈ cs, 0 ≤ c
/-- a step beside the bag -/
structure Fr (b l : Addr) (H H' : Hp) : Prop where
  k : Kp [b] H H'
  bag : Bag b l H'
section
variable {b l p : Addr} {H H' A B C H0 : Hp} {o : HO} {M : List Addr}
theorem Bag.kp (g : Bag b l H) (k : Sub H H') : Bag b l H' := by
  obtain ⟨x, y, i, cs, h1, h2, h3, h4⟩ := g
  exact ⟨x, y, i, cs, k _ _ h1, h2, k _ _ h3, h4⟩
theorem Bag.at (g : Bag b l H) : ∃ o, H b = some o := by
  obtain ⟨x, y, i, cs, h1, _⟩ := g
  exact ⟨_, h1⟩
theorem Bag.atl (g : Bag b l H) : ∃ o, H l = some o := by
  obtain ⟨x, y, i, cs, _, _, h1, _⟩ := g
  exact ⟨_, h1⟩
theorem ne_new {a : Addr} (h : ∃ o, H a = some o) (hp : H p = none) : p ≠ a := fun z => by
  obtain ⟨o, e⟩ := h
  rw [← z, hp] at e
  cases e
theorem Fr.refl (g : Bag b l H) : Fr b l H H := ⟨Kp.refl _ _, g⟩
theorem Fr.trans (x : Fr b l A B) (y : Fr b l B C) : Fr b l A C := ⟨x.k.trans y.k, y.bag⟩
theorem Fr.sub (g : Bag b l H) (k : Sub H H') : Fr b l H H' := ⟨fun a o _ h => k a o h, g.kp k⟩
theorem Sub.new (h : H p = none) : Sub H (upd H p o) := fun a u e => by
  rw [upd_ne (ne_of_none e h)]
  exact e
theorem Fr.new (g : Bag b l H) (h : H p = none) : Fr b l H (upd H p o) := Fr.sub g (Sub.new h)
theorem Bag.put (g : Bag b l H) (hb : p ≠ b) (hl : p ≠ l) : Bag b l (upd H p o) := by
  obtain ⟨x, y, i, cs, h1, h2, h3, h4⟩ := g
  exact ⟨x, y, i, cs, by rw [upd_ne hb.symm]; exact h1, h2, by rw [upd_ne hl.symm]; exact h3, h4⟩
/-- a list of one's own, that the beginning does not know, is written -/
theorem Fr.mut (f : Fr b l H0 H) (g0 : Bag b l H0) (h0 : H0 p = none) : Fr b l H0 (upd H p o) :=
  ⟨fun a u n e => by
    rw [upd_ne (ne_of_none e h0)]
    exact f.k a u n e, f.bag.put (ne_new g0.at h0) (ne_new g0.atl h0)⟩
theorem Sub.mut (f : Sub H0 H) (h0 : H0 p = none) : Sub H0 (upd H p o) := fun a u e => by
  rw [upd_ne (ne_of_none e h0)]
  exact f a u e
/-- what is fresh behind is fresh ahead -/
theorem Fr.free (f : Fr b l H H') (g : Bag b l H) (h : H' p = none) : H p = none := by
  cases e : H p with
  | none => rfl
  | some o =>
    by_cases z : p = b
    · obtain ⟨o, e⟩ := f.bag.at
      rw [← z, h] at e
      cases e
    · rw [f.k p o (by simp [z]) e] at h
      cases h
theorem Sub.free (f : Sub H H') (h : H' p = none) : H p = none := by
  cases e : H p with
  | none => rfl
  | some o =>
    rw [f p o e] at h
    cases h
structure Cb (M : List Addr) (b l : Addr) (H : Hp) : Prop where
  bag : Bag b l H
  mem : b ∈ M
  kn : Kn M H
theorem Kn.fr (c : Kn M H) (f : Fr b l H H') : Kn M H' := fun a m => by
  by_cases z : a = b
  · rw [z]
    exact f.bag.at
  · obtain ⟨o, e⟩ := c a m
    exact ⟨o, f.k a o (by simp [z]) e⟩
theorem Kn.sub (c : Kn M H) (f : Sub H H') : Kn M H' := fun a m => by
  obtain ⟨o, e⟩ := c a m
  exact ⟨o, f a o e⟩
theorem Kn.more (c : Kn M H) (h : ∃ o, H p = some o) : Kn (p :: M) H := fun a m => by
  rcases List.mem_cons.mp m with z | z
  · rw [z]
    exact h
  · exact c a z
theorem Cb.fr (c : Cb M b l H) (f : Fr b l H H') : Cb M b l H' := ⟨f.bag, c.mem, c.kn.fr f⟩
theorem Cb.more (c : Cb M b l H) (h : ∃ o, H p = some o) : Cb (p :: M) b l H := ⟨c.bag, List.mem_cons_of_mem _ c.mem, c.kn.more h⟩
theorem Fr.kp (f : Fr b l H H') (m : b ∈ M) : Kp M H H' := f.k.less fun a h => by
  rw [List.mem_singleton.mp h]
  exact m
end
section
variable {K : PySem.W.Frag} {M : List Addr} {b l : Addr} {H H' : Hp} {v : V} {d : PyData} {vs : List V} {ds : List PyData}
theorem Dm.f (h : Dm K M H v d) (f : Fr b l H H') (m : b ∈ M) : Dm K M H' v d := h.k (f.kp m)
theorem Dms.f (h : Dms K M H vs ds) (f : Fr b l H H') (m : b ∈ M) : Dms K M H' vs ds := h.k (f.kp m)
theorem Dm.s (h : Dm K M H v d) (f : Sub H H') : Dm K M H' v d := h.k fun a o _ e => f a o e
theorem Dms.s (h : Dms K M H vs ds) (f : Sub H H') : Dms K M H' vs ds := h.k fun a o _ e => f a o e
end
end KZ

namespace KZ
open PySem PySem.Spec PyProof.Rows L2

def topS (i : Nat) : Stmt := PySem.Challenge.pw_comesthrough_k14_raises_meek_and_keeps.main.body.getD i (.Pass ⟨0, 0, 0, 0⟩)
/-- xs[i] ahead of a store to it -/
def rGetL (K : PySem.W.Frag) : V → V → Hp → VK → Prop := fun o i H Q => ∃ (p : Addr) (xs : List V) (k : Nat) (v : V), o = .ref p ∧ i = .int (k : Int) ∧ SqL K H p xs ∧ k < 1000 ∧ xs[k]? = some v ∧ Q v H
theorem get_listZ {X : Cx} : PGet X (rGetL X.K) := by
  intro pins s σ H o i ov iv Q I ro ri h
  obtain ⟨p, xs, k, v, rfl, rfl, hq, hk, hx, q⟩ := h
  cases ro
  obtain ⟨t, rfl⟩ := ri
  obtain ⟨its, r, pl, hz⟩ := I.list hq
  obtain ⟨u, eu, ru⟩ := r.get hx
  refine wpAny_getItem_list pl.isList (by omega) (by omega) ?_ ⟨v, H, I, ru, q⟩
  simpa using eu

structure BagAt (b l : Addr) (x y i : Int) (cs : List Int) (H : Hp) : Prop where
  hb : H b = some (.lst [.int x, .int y, .int i, .ref l])
  ne : l ≠ b
  hl : H l = some (.lst (cs.map V.int))
theorem BagAt.sub {b l : Addr} {x y i : Int} {cs : List Int} {H H' : Hp} (g : BagAt b l x y i cs H) (k : Sub H H') : BagAt b l x y i cs H' := ⟨k _ _ g.hb, g.ne, k _ _ g.hl⟩
theorem BagAt.put {b l : Addr} {x y i x' y' i' : Int} {cs : List Int} {H : Hp} (g : BagAt b l x y i cs H) : BagAt b l x' y' i' cs (upd H b (.lst [.int x', .int y', .int i', .ref l])) :=
  ⟨upd_same, g.ne, by rw [upd_ne g.ne]; exact g.hl⟩
theorem head_cut (cs : List Int) (hc : ∀ c ∈ cs, 0 ≤ c) (i : Int) (hi : 0 ≤ i) : ∃ c : Int, 0 ≤ c ∧ atI (cutV (cs.map V.int) (some i) none ++ [V.int 0]) 0 = some (.int c) := by
  have hall : ∀ v ∈ cutV (cs.map V.int) (some i) none, ∃ c : Int, 0 ≤ c ∧ v = .int c := fun v hv => by
    unfold cutV at hv
    have h1 := List.mem_of_mem_drop (List.mem_of_mem_take hv)
    obtain ⟨c, h2, h3⟩ := List.mem_map.mp h1
    exact ⟨c, hc c h2, h3.symm⟩
  cases e : cutV (cs.map V.int) (some i) none with
  | nil => exact ⟨0, Int.le_refl _, atI_nat (j := 0) rfl⟩
  | cons v r =>
    obtain ⟨c, h1, h2⟩ := hall v (by rw [e]; exact List.mem_cons_self)
    exact ⟨c, h1, atI_nat (j := 0) (by rw [h2] <;> rfl)⟩
theorem small1000' {n : Nat} (h : n ≤ 1001) : n < sizeLine := Nat.lt_of_le_of_lt h (by decide)
theorem bootInt : bootBuiltins "int" = some (.type "int") := by decide +kernel
/-- what the defs ask of the module's names -/
structure Txt (mg : Str → Option Value) : Prop where
  int : mg "int" = none
  len : mg "len" = none
  abs : mg "abs" = none
  range : mg "range" = none
  tuple : mg "tuple" = none
  list : mg "list" = none
  dict : mg "dict" = none
  repr : mg "repr" = none
  enumerate : mg "enumerate" = none

def spTake : Sp := fun vs H Q _ => ∃ (b l : Addr) (n : Int), vs = [.ref b, .int n] ∧ Bag b l H ∧ 0 < n ∧ n < 1073741824 ∧ ∀ (i : Int) (H' : Hp), Fr b l H H' → 0 ≤ i → i < n → Q (.int i) H'
section
variable {P : Program} {w : World} {K : PySem.W.Frag} {mg : Str → Option Value} {base : Heap}
abbrev sTake : Stmt := topS 12
theorem scTake : FnScope ["bag", "upto", "cell", "stirred", "value", "begin", "second"] ["bag", "upto"] (defScope sTake) := ⟨rfl, rfl, rfl, by decide +kernel, rfl, by decide +kernel, by decide +kernel⟩
theorem mod_lo {a n : Int} (h : 0 < n) : 0 ≤ a % n ∧ a % n < n := ⟨Int.emod_nonneg _ (by omega), Int.emod_lt_of_pos _ h⟩
/-- the end of a draw, by the state behind the stirring -/
theorem take_tail {b l : Addr} {H0 H : Hp} {x y i : Int} {cs : List Int} (kp : Kp [b] H0 H) (g : BagAt b l x y i cs H) (hx : 0 ≤ x) (hy : 0 ≤ y ∧ y < 2147483647) (hi : 0 ≤ i) (hz : cs.length ≤ 1000) (hc : ∀ c ∈ cs, 0 ≤ c) : Fr b l H0 H :=
  ⟨kp, x, y, i, cs, g.hb, g.ne, g.hl, hx, hy.1, hy.2, hi, hz, hc⟩
theorem ok_take {f : Addr} {fd : FuncData} (F : Fun K "_law_take" "_law_take" sTake f fd) (T : Txt mg) : FnOk P w K mg base CX0 1 f fd ["bag", "upto"] spTake := by
  refine F.ok scTake (fun vs H Q E h => ?_) (fun cdv A outer s H vs Q E hr h => ?_)
  · obtain ⟨b, l, n, rfl, _⟩ := h
    rfl
  · obtain ⟨b, l, n, rfl, ⟨x, y, i, cs, hb, hne, hl, hx, hy0, hy1, hi, hz, hc⟩, hn0, hn1, k⟩ := h
    have g : BagAt b l x y i cs H := ⟨hb, hne, hl⟩
    refine ⟨_, Evl.pss_cut (ps_if (pt_cmpR op_eq (pe_ix ix_list (pv 0) pe_int (fun _ _ => rfl)) pe_int (nomark _))
        (pss_cons (ps_set (i := 2) scTake.nd rfl (Or.inl rfl) (pe_ix ix_list (pe_op op_cat (pe_slice sl_list (pe_ix ix_list (pv 0) pe_int (fun _ _ => rfl)) (po_some (pe_ix ix_list (pv 0) pe_int (fun _ _ => rfl))) po_none) (pe_lst (pa_cons pe_int pa_nil))) pe_int (fun _ _ => rfl)))
        (pss_cons (ps_augS (pv 0) pe_int get_listZ pe_int ip_add set_list)
        (Evl.pss_cut (ps_if (pt_cmpR op_ge (pv 2) (pe_op op_pow pe_int pe_int) (nomark _)) (pss_one (ps_asg (pv 2) (pg_sub (pv 0) pe_int set_list))) pss_nil)
        (pss_cons (ps_set (i := 3) scTake.nd rfl (Or.inl rfl) (pe_op op_add (pe_op op_add (pe_op op_mul (pe_ix ix_list (pv 0) pe_int (fun _ _ => rfl)) pe_int) (pe_op op_mod (pe_callTy call_int1 (by rfl) T.int bootInt (pa_cons (pv 2) pa_nil)) pe_int)) (pe_op op_mul pe_int (pe_ix ix_list (pv 0) pe_int (fun _ _ => rfl)))))
        (pss_one (ps_asg (pe_op op_mod (pe_callTy call_int1 (by rfl) T.int bootInt (pa_cons (pv 3) pa_nil)) pe_int) (pg_sub (pv 0) pe_int set_list))))))) pss_nil)
      (pss_cons (ps_if (pt_cmpR op_gt (pe_ix ix_list (pv 0) pe_int (fun _ _ => rfl)) pe_int (nomark _))
        (pss_cons (ps_set (i := 4) scTake.nd rfl (Or.inl rfl) (pe_op op_mod (pe_callTy call_int1 (by rfl) T.int bootInt (pa_cons (pe_ix ix_list (pv 0) pe_int (fun _ _ => rfl)) pa_nil)) (pv 1)))
        (pss_cons (ps_asg (pe_op op_fdiv (pe_callTy call_int1 (by rfl) T.int bootInt (pa_cons (pe_ix ix_list (pv 0) pe_int (fun _ _ => rfl)) pa_nil)) (pv 1)) (pg_sub (pv 0) pe_int set_list))
        (pss_one (ps_ret (pv 4))))) pss_nil)
      (pss_cons (ps_set (i := 5) scTake.nd rfl (Or.inl rfl) (pe_op op_mod (pe_callTy call_int1 (by rfl) T.int bootInt (pa_cons (pe_op op_mul (pe_op op_add (pe_ix ix_list (pv 0) pe_int (fun _ _ => rfl)) pe_int) pe_int) pa_nil)) pe_int))
      (pss_cons (ps_set (i := 6) scTake.nd rfl (Or.inl rfl) (pe_op op_mod (pe_callTy call_int1 (by rfl) T.int bootInt (pa_cons (pe_op op_mul (pe_op op_mod (pe_callTy call_int1 (by rfl) T.int bootInt (pa_cons (pe_op op_mul (pv 5) (pv 5)) pa_nil)) pe_int) pe_int) pa_nil)) pe_int))
      (pss_one (ps_ret (pe_op op_mod (pe_callTy call_int1 (by rfl) T.int bootInt (pa_cons (pe_op op_fdiv (pv 6) pe_int) pa_nil)) (pv 1)))))))
      , ?_⟩
    refine ⟨fun σ' H' => ∃ (x y i : Int) (c st : Option V), σ' = [some (.ref b), some (.int n), c, st, none, none, none] ∧ Kp [b] H H' ∧ BagAt b l x y i cs H' ∧ 0 ≤ x ∧ 0 ≤ y ∧ y < 2147483647 ∧ 0 ≤ i, ?_, ?_⟩
    · refine ⟨_, rfl, b, _, 0, _, rfl, rfl, SqL.of hb, atI_nat (j := 0) rfl, rfl, _, rfl, ite2 (fun e => ?_) (fun e => ?_)⟩
      · -- cell
        refine ⟨_, rfl, b, _, 3, _, rfl, rfl, SqL.of hb, atI_nat (j := 3) rfl, ?_⟩
        refine ⟨_, rfl, b, _, 2, _, rfl, rfl, SqL.of hb, atI_nat (j := 2) rfl, _, rfl, l, _, rfl, SqL.of hl, fun p1 hp1 => ?_⟩
        refine ⟨by show 1 ≤ sizeLine; decide, fun p2 hp2 => ?_⟩
        have n12 : p1 ≠ p2 := ne_of_none upd_same hp2
        refine ⟨p1, p2, _, _, rfl, rfl, Eq.trans (upd_ne n12) upd_same, upd_same, ?_, fun p3 hp3 => ?_⟩
        · have := cutV_length (cs.map V.int) (some i) none
          rw [List.length_map] at this
          exact Nat.le_of_lt (small1000' (by show _ + 1 ≤ 1001; omega))
        obtain ⟨c, hc0, hc1⟩ := head_cut cs hc i hi
        refine ⟨p3, _, 0, _, rfl, rfl, SqL.of upd_same, hc1, ?_⟩
        have k1 : Sub H (upd (upd (upd H p1 (HO.lst (cutV (cs.map V.int) (some i) none))) p2 (HO.lst [V.int 0])) p3 (HO.lst (cutV (cs.map V.int) (some i) none ++ [V.int 0]))) := ((Sub.new hp1).trans (Sub.new hp2)).trans (Sub.new hp3)
        have g1 := g.sub k1
        have q1 : Kp [b] H _ := fun a o _ h => k1 a o h
        -- bag[2] += 1
        refine ⟨_, rfl, b, _, 2, _, rfl, rfl, SqL.of g1.hb, by decide, rfl, _, _, rfl, rfl, b, _, 2, 2, rfl, rfl, g1.hb, rfl, ?_⟩
        have g2 : BagAt b l x y (i + 1) cs _ := g1.put
        have q2 : Kp [b] H _ := q1.trans (Kp.mut (o := HO.lst [V.int x, V.int y, V.int (i + 1), V.ref l]) List.mem_cons_self)
        refine ⟨fun σ' H' => ∃ (x' : Int), σ' = [some (.ref b), some (.int n), some (.int c), none, none, none, none] ∧ Kp [b] H H' ∧ BagAt b l x' y (i + 1) cs H' ∧ 0 ≤ x', ?_, ?_⟩
        · refine ⟨_, rfl, _, _, rfl, rfl, ⟨by decide, by decide, by decide⟩, _, _, rfl, rfl, _, rfl, ite2 (fun e2 => ?_) (fun e2 => ?_)⟩
          · exact ⟨_, rfl, _, rfl, b, _, 0, 0, rfl, rfl, g2.hb, rfl, c, rfl, q2.trans (Kp.mut List.mem_cons_self), g2.put, hc0⟩
          · exact ⟨x, rfl, q2, g2, hx⟩
        rintro σ' H3 ⟨x', rfl, q3, g3, hx'⟩
        refine ⟨_, rfl, b, _, 1, _, rfl, rfl, SqL.of g3.hb, atI_nat (j := 1) rfl, _, _, rfl, rfl, .inr ⟨by decide, by decide⟩, _, rfl, .inl ⟨_, rfl, _, _, rfl, rfl, (by show (0 : Int) < 2147483647; decide), ?_⟩⟩
        refine ⟨_, _, rfl, rfl, _, rfl, b, _, 2, _, rfl, rfl, SqL.of g3.hb, atI_nat (j := 2) rfl, _, _, rfl, rfl, .inl ⟨by decide, by decide⟩, _, _, rfl, rfl, ?_⟩
        refine ⟨_, rfl, .inl ⟨_, rfl, _, _, rfl, rfl, (by show (0 : Int) < 2147483647; decide), ?_⟩⟩
        refine ⟨_, rfl, b, _, 1, 1, rfl, rfl, g3.hb, rfl, ?_⟩
        have z := mod_lo (a := y * 48271 + c % 2147483647 + 7919 * (i + 1)) (n := 2147483647) (by decide)
        exact ⟨x', _, i + 1, _, _, rfl, q3.trans (Kp.mut List.mem_cons_self), g3.put, hx', z.1, z.2, by omega⟩
      · exact ⟨x, y, i, none, none, rfl, Kp.refl _ _, g, hx, hy0, hy1, hi⟩
    · rintro σ' H1 ⟨x, y, i, c, st, rfl, kp, g, hx, hy0, hy1, hi⟩
      refine ⟨_, rfl, b, _, 0, _, rfl, rfl, SqL.of g.hb, atI_nat (j := 0) rfl, _, _, rfl, rfl, _, rfl, ite2 (fun e => ?_) (fun e => ?_)⟩
      · refine ⟨_, rfl, b, _, 0, _, rfl, rfl, SqL.of g.hb, atI_nat (j := 0) rfl, .inl ⟨_, rfl, _, rfl, _, _, rfl, rfl, hn0, ?_⟩⟩
        refine ⟨_, rfl, b, _, 0, _, rfl, rfl, SqL.of g.hb, atI_nat (j := 0) rfl, .inl ⟨_, rfl, _, rfl, _, _, rfl, rfl, ⟨hn0, hn1⟩, ?_⟩⟩
        refine ⟨_, rfl, b, _, 0, 0, rfl, rfl, g.hb, rfl, ?_⟩
        refine ⟨_, rfl, ?_⟩
        have z := mod_lo (a := x) hn0
        exact k _ _ (take_tail (kp.trans (Kp.mut List.mem_cons_self)) g.put (Int.ediv_nonneg hx (by omega)) ⟨hy0, hy1⟩ hi hz hc) z.1 z.2
      · refine ⟨_, rfl, b, _, 1, _, rfl, rfl, SqL.of g.hb, atI_nat (j := 1) rfl, _, _, rfl, rfl, _, _, rfl, rfl, .inr ⟨by decide, by decide⟩, .inl ⟨_, rfl, _, _, rfl, rfl, (by show (0 : Int) < 1000000007; decide), ?_⟩⟩
        have z1 := mod_lo (a := (y + 1) * 39373) (n := 1000000007) (by decide)
        refine ⟨_, rfl, _, rfl, _, _, rfl, rfl, .inl ⟨by omega, by omega⟩, .inl ⟨_, rfl, _, _, rfl, rfl, (by show (0 : Int) < 998244353; decide), ?_⟩⟩
        refine ⟨_, _, rfl, rfl, .inr ⟨by decide, by decide⟩, .inl ⟨_, rfl, _, _, rfl, rfl, (by show (0 : Int) < 998244353; decide), ?_⟩⟩
        refine ⟨_, rfl, _, _, rfl, rfl, ⟨by decide, by decide⟩, .inl ⟨_, rfl, _, rfl, _, _, rfl, rfl, hn0, ?_⟩⟩
        have z := mod_lo (a := ((y + 1) * 39373 % 1000000007 * ((y + 1) * 39373 % 1000000007) % 998244353 * 30011 % 998244353) / 7) hn0
        exact k _ _ (take_tail kp g hx ⟨hy0, hy1⟩ hi hz hc) z.1 z.2
end
end KZ

namespace KZ
open PySem PySem.Spec PyProof.Rows L2

theorem szl {n : Nat} (h : n < 1000000) : n < sizeLine := Nat.lt_of_lt_of_le h (by decide)
/-- a def that may be called: its promise, where it stands -/
structure Cal (P : Program) (w : World) (K : PySem.W.Frag) (mg : Str → Option Value) (base : Heap) (x : Str) (k : Nat) (ps : List Str) (sp : Sp) (f : Addr) (fd : FuncData) : Prop where
  ok : FnOk P w K mg base CX0 k f fd ps sp
  g : mg x = some (.ref f)
  kp : PySem.W.keepIn K (.ref f) = true
  b : Binds K fd ps []
section
variable {X : Cx} {x : Str} {k : Nat} {ps : List Str} {sp : Sp} {f : Addr} {fd : FuncData} {e : Expr} {es : List Expr} {t : TA} {p pos : Pos}
theorem pcl (C : Cal X.prog X.w X.K X.mg X.base x k ps sp f fd) (hr : Room k X.A) (ha : PA X (e :: es) t) (hg : Gl X x := by rfl) (hdb : (x == ("__debug__" : Str)) = false := by decide) (he : starEach (e :: es) X.env = (false, eval e X.env) :: starEach es X.env := by rfl)
    (hpl : (backTo pos (starEach es X.env)).any (·.1) = false := by rfl) : PE X (.Call (.Name x p) (e :: es) [] pos) (tCall sp [] E0 t) := pe_call C.ok hr hg C.g C.kp C.b .nil pass0 ha hdb he hpl
end
theorem atI_mem {α : Type} {xs : List α} {i : Int} (h0 : 0 ≤ i) (h1 : i < xs.length) : ∃ v, v ∈ xs ∧ xs[i.toNat]? = some v ∧ atI xs i = some v := by
  have hj : i.toNat < xs.length := by omega
  refine ⟨xs[i.toNat], List.getElem_mem hj, List.getElem?_eq_getElem hj, ?_⟩
  have e : ((i.toNat : Nat) : Int) = i := by omega
  have g := atI_nat (List.getElem?_eq_getElem hj)
  rw [e] at g
  exact g

/-- the items of a list or a tuple -/
def Its (K : PySem.W.Frag) (M : List Addr) (H : Hp) (v : V) (ds : List PyData) : Prop := Dm K M H v (.list ds) ∨ Dm K M H v (.tuple ds)
theorem Its.at {K : PySem.W.Frag} {M : List Addr} {H : Hp} {v : V} {ds : List PyData} (h : Its K M H v ds) : ∃ a xs, v = .ref a ∧ (SqL K H a xs ∨ SqT K H a xs) ∧ Dms K M H xs ds := by
  rcases h with h | h
  · obtain ⟨a, xs, h1, h2, h3⟩ := h.lstAt
    exact ⟨a, xs, h1, .inl h2, h3⟩
  · obtain ⟨a, xs, h1, h2, h3⟩ := h.tupAt
    exact ⟨a, xs, h1, .inr h2, h3⟩
theorem Its.f {K : PySem.W.Frag} {M : List Addr} {b l : Addr} {H H' : Hp} {v : V} {ds : List PyData} (h : Its K M H v ds) (f : Fr b l H H') (m : b ∈ M) : Its K M H' v ds := h.elim (fun h => .inl (Dm.f h f m)) fun h => .inr (Dm.f h f m)
def spSome (K : PySem.W.Frag) : Sp := fun vs H Q _ => ∃ (M : List Addr) (b l : Addr) (v : V) (ds : List PyData), vs = [.ref b, v] ∧ Cb M b l H ∧ Its K M H v ds ∧ 0 < ds.length ∧ ds.length < 1000000 ∧
  ∀ (y : V) (d : PyData) (H' : Hp), Fr b l H H' → d ∈ ds → Dm K M H' y d → Q y H'
def spMixed (K : PySem.W.Frag) : Sp := fun vs H Q _ => ∃ (M : List Addr) (b l : Addr) (v : V) (ds : List PyData), vs = [.ref b, v] ∧ Cb M b l H ∧ Dm K M H v (.list ds) ∧ ds.length < 100000 ∧
  ∀ (y : V) (es : List PyData) (H' : Hp), Fr b l H H' → es.Perm ds → Dm K M H' y (.list es) → Q y H'
section
variable {P : Program} {w : World} {K : PySem.W.Frag} {mg : Str → Option Value} {base : Heap}
abbrev sSome : Stmt := topS 13
theorem scSome : FnScope ["bag", "things"] ["bag", "things"] (defScope sSome) := ⟨rfl, rfl, rfl, by decide +kernel, rfl, by decide +kernel, by decide +kernel⟩
theorem ok_some {f fT : Addr} {fd fdT : FuncData} (F : Fun K "_law_some" "_law_some" sSome f fd) (T : Txt mg) (CT : Cal P w K mg base "_law_take" 1 ["bag", "upto"] spTake fT fdT) : FnOk P w K mg base CX0 2 f fd ["bag", "things"] (spSome K) := by
  refine F.ok scSome (fun vs H Q E h => ?_) (fun cdv A outer s H vs Q E hr h => ?_)
  · obtain ⟨M, b, l, v, ds, rfl, _⟩ := h
    rfl
  · obtain ⟨M, b, l, v, ds, rfl, cb, hv, h0, h1, k⟩ := h
    refine ⟨_, pss_one (ps_ret (pe_ix (ix_list.or ix_tup) (pv 1) (pcl CT hr (pa_cons (pv 0) (pa_cons (pe_callB call_len_seq (by rfl) T.len PySem.boot_len (pa_cons (pv 1) pa_nil)) pa_nil))) (fun _ _ => rfl))), ?_⟩
    obtain ⟨a, xs, rfl, hs, ha⟩ := hv.at
    have hl := ha.len
    refine ⟨_, rfl, _, rfl, _, rfl, a, xs, rfl, hs, ?_⟩
    refine ⟨b, l, _, rfl, cb.bag, by omega, by omega, fun i H' f' i0 i1 => ?_⟩
    obtain ⟨a2, xs2, e2, hs2, ha2⟩ := (hv.f f' cb.mem).at
    cases e2
    have hl2 := ha2.len
    obtain ⟨y, _, hy, hat⟩ := atI_mem (xs := xs2) i0 (by omega)
    obtain ⟨d, hd, hyd⟩ := ha2.get' hy
    have fin : Q y H' := k y d H' f' (List.mem_of_getElem? hd) hyd
    exact hs2.elim (fun q => .inl ⟨a, xs2, i, y, rfl, rfl, q, hat, fin⟩) fun q => .inr ⟨a, xs2, i, y, rfl, rfl, q, hat, fin⟩
abbrev sMixed : Stmt := topS 15
theorem scMixed : FnScope ["bag", "things", "found", "thing"] ["bag", "things"] (defScope sMixed) := ⟨rfl, rfl, rfl, by decide +kernel, rfl, by decide +kernel, by decide +kernel⟩
theorem ins_perm {α : Type} (xs : List α) (n : Nat) (d : α) : (xs.take n ++ [d] ++ xs.drop n).Perm (d :: xs) := by
  have h : (xs.take n ++ [d] ++ xs.drop n).Perm (d :: (xs.take n ++ xs.drop n)) := by
    rw [List.append_assoc]
    exact List.perm_middle
  rw [List.take_append_drop] at h
  exact h
theorem take_snoc {α : Type} {xs : List α} {i : Nat} {d : α} (h : xs[i]? = some d) : xs.take (i + 1) = xs.take i ++ [d] := by
  rw [List.take_succ, h]
  rfl
theorem ok_mixed {f fT : Addr} {fd fdT : FuncData} (F : Fun K "_law_mixed" "_law_mixed" sMixed f fd) (T : Txt mg) (CT : Cal P w K mg base "_law_take" 1 ["bag", "upto"] spTake fT fdT) : FnOk P w K mg base CX0 2 f fd ["bag", "things"] (spMixed K) := by
  refine F.ok scMixed (fun vs H Q E h => ?_) (fun cdv A outer s H vs Q E hr h => ?_)
  · obtain ⟨M, b, l, v, ds, rfl, _⟩ := h
    rfl
  · obtain ⟨M, b, l, v, ds, rfl, cb, hv, h1, k⟩ := h
    refine ⟨_, pss_cons (ps_set (i := 2) scMixed.nd rfl (Or.inl rfl) (pe_lst pa_nil))
      (pss_cons (ps_for PassesOwn.never rfl (pi_list (pv 1)) (pg_name (i := 3) scMixed.nd rfl (Or.inl rfl))
        (pss_one (ps_expr (pe_bm PySem.F.plainAttrs_list PySem.F.slot_list_insert PySem.F.type_list_insert mt_insert (pv 2)
          (pa_cons (pcl CT hr (pa_cons (pv 0) (pa_cons (pe_op op_add (pe_callB call_len_seq (by rfl) T.len PySem.boot_len (pa_cons (pv 2) pa_nil)) pe_int) pa_nil))) (pa_cons (pv 3) pa_nil))))))
      (pss_one (ps_ret (pv 2)))), ?_⟩
    refine ⟨Nat.zero_le _, fun p hp => ?_⟩
    obtain ⟨a, xs, rfl, hse, ha⟩ := hv.lstAtE
    have hs := (er_sub M H).sqL hse
    have hl := ha.len
    have f0 : Fr b l H (upd H p (.lst [])) := Fr.new cb.bag hp
    have pb := ne_new cb.bag.at hp
    refine ⟨_, rfl, a, rfl, ⟨_, (Sub.new hp).sqL hs⟩, for_list (K := K) (a := a) (xs := xs) (fun i σ H' => ∃ (u : Option V) (vs : List V) (es : List PyData), σ = [some (.ref b), some (.ref a), some (.ref p), u] ∧ Fr b l H H' ∧ H' p = some (.lst vs) ∧ Dms K (p :: M) H' vs es ∧ es.Perm (ds.take i) ∧ SqL K (er (p :: M) H') a xs ∧ Dms K (p :: M) H' xs ds)
      ⟨none, [], [], rfl, f0, upd_same, .nil, List.Perm.refl _, Sub.sqL (Kp.er (Kp.mut List.mem_cons_self)) (by rw [er_more hp]; exact hse), (ha.more hp).k (Kp.mut List.mem_cons_self)⟩ (fun i σ H' _ ⟨_, _, _, _, _, _, _, _, q, _⟩ => (er_sub _ _).sqL q) ?_ ?_⟩
    · rintro i y σ H' hi ⟨u, vs, es, rfl, f1, h1p, hds, hpm, hsx, hdx⟩
      have hlv : vs.length = i := by
        rw [hds.len, hpm.length_eq, List.length_take, ← hl]
        have := (List.getElem?_eq_some_iff.mp hi).1
        omega
      have hix := (List.getElem?_eq_some_iff.mp hi).1
      refine ⟨_, rfl, .inl ⟨rfl, _, SqL.of h1p⟩, _, rfl, _, rfl, p, _, rfl, .inl (SqL.of h1p), _, _, rfl, rfl, ?_⟩
      refine ⟨b, l, _, rfl, f1.bag, by omega, by omega, fun j H2 f2 j0 j1 => ?_⟩
      have c1 : Cb (p :: M) b l H' := (cb.fr f1).more ⟨_, h1p⟩
      have h2p : H2 p = some (.lst vs) := f2.k p _ (by simp [pb]) h1p
      refine ⟨_, rfl, p, vs, j, y, rfl, rfl, h2p, szl (by omega), j0, by omega, ?_⟩
      obtain ⟨d, hd, hyd⟩ := hdx.get' hi
      have f3 := (f1.trans f2).mut cb.bag hp (o := .lst (vs.take j.toNat ++ [y] ++ vs.drop j.toNat))
      have km : Kp (p :: M) H2 (upd H2 p (.lst (vs.take j.toNat ++ [y] ++ vs.drop j.toNat))) := Kp.mut List.mem_cons_self
      have hds2 := hds.f f2 c1.mem
      refine ⟨_, _, es.take j.toNat ++ [d] ++ es.drop j.toNat, rfl, f3, upd_same, Dms.k (((hds2.take _).app (DpAll.one (Dm.f hyd f2 c1.mem))).app (hds2.drop _)) km, ?_, ?_, ?_⟩
      · rw [take_snoc hd]
        exact (ins_perm _ _ _).trans ((List.Perm.cons _ hpm).trans (List.perm_append_singleton _ _).symm)
      · exact Sub.sqL ((f2.kp c1.mem).trans km).er hsx
      · exact (hdx.f f2 c1.mem).k km
    · rintro σ H' ⟨u, vs, es, rfl, f1, h1p, hds, hpm, hsx, hdx⟩
      refine ⟨_, rfl, ?_⟩
      rw [hl, List.take_length] at hpm
      exact k _ es H' f1 hpm (Dm.lstOf (cb.kn.out hp) h1p hds)
end
end KZ

namespace KZ
open PySem PySem.Spec PyProof.Rows L2

def Names : List Str := ["a", "b", "c", "ab", "ba", "zz", "wait", "yield", "oust", "elder", "work", "kind", "abcdefgh", "z", "sort"]
def unS : PyData → Str
  | .str x => x
  | _ => ""
theorem perm_str {es : List PyData} {l : List Str} (h : es.Perm (l.map PyData.str)) : ∃ ns : List Str, es = ns.map PyData.str ∧ ns.Perm l := by
  refine ⟨es.map unS, ?_, ?_⟩
  · rw [List.map_map]
    have : ∀ e ∈ es, (PyData.str ∘ unS) e = e := fun e he => by
      obtain ⟨x, _, rfl⟩ := List.mem_map.mp (h.mem_iff.mp he)
      rfl
    exact (List.map_id es).symm.trans (List.map_congr_left fun e he => (this e he).symm)
  · have q := h.map unS
    rw [List.map_map] at q
    have e : l.map (unS ∘ PyData.str) = l := List.map_id l
    rw [e] at q
    exact q
theorem cutV_to {xs : List V} {m : Int} (h0 : 0 ≤ m) (h1 : m ≤ xs.length) : cutV xs none (some m) = xs.take m.toNat := by
  have e : ((m.toNat : Nat) : Int) = m := by omega
  unfold cutV
  rw [← e, HT.sIx_none, HT.sIx_nat, e, List.drop_zero, Nat.sub_zero, Nat.min_eq_left (by omega)]
theorem cutV_from {xs : List V} {m : Int} (h0 : 0 ≤ m) (h1 : m ≤ xs.length) : cutV xs (some m) none = xs.drop m.toNat := by
  have e : ((m.toNat : Nat) : Int) = m := by omega
  unfold cutV
  rw [← e, HT.sIx_none, HT.sIx_nat, e, Nat.min_eq_left (by omega)]
  exact List.take_of_length_le (by rw [List.length_drop]; omega)
def spNamed (K : PySem.W.Frag) : Sp := fun vs H Q _ => ∃ (M : List Addr) (b l : Addr) (m : Int), vs = [.ref b, .int m] ∧ Cb M b l H ∧ 0 ≤ m ∧ m ≤ 15 ∧
  ∀ (y : V) (ns : List Str) (H' : Hp), Fr b l H H' → ns.length = m.toNat → (∀ n ∈ ns, n ∈ Names) → ns.Nodup → Dm K M H' y (.list (ns.map PyData.str)) → Q y H'
theorem names_nd : Names.Nodup := by decide +kernel
theorem dps_strs {K : PySem.W.Frag} {H : Hp} : ∀ l : List Str, DpAll K H (l.map V.str) (l.map PyData.str)
  | [] => .nil
  | x :: l => .cons (.str x) (dps_strs l)
section
variable {P : Program} {w : World} {K : PySem.W.Frag} {mg : Str → Option Value} {base : Heap}
abbrev sNamed : Stmt := topS 16
theorem scNamed : FnScope ["bag", "many", "names"] ["bag", "many"] (defScope sNamed) := ⟨rfl, rfl, rfl, by decide +kernel, rfl, by decide +kernel, by decide +kernel⟩
theorem ok_named {f fM : Addr} {fd fdM : FuncData} (F : Fun K "_law_named" "_law_named" sNamed f fd) (CM : Cal P w K mg base "_law_mixed" 2 ["bag", "things"] (spMixed K) fM fdM) : FnOk P w K mg base CX0 3 f fd ["bag", "many"] (spNamed K) := by
  refine F.ok scNamed (fun vs H Q E h => ?_) (fun cdv A outer s H vs Q E hr h => ?_)
  · obtain ⟨M, b, l, m, rfl, _⟩ := h
    rfl
  · obtain ⟨M, b, l, m, rfl, cb, h0, h1, k⟩ := h
    refine ⟨_, pss_cons (ps_set (i := 2) scNamed.nd rfl (Or.inl rfl) (pe_lst (pa_cons pe_str (pa_cons pe_str (pa_cons pe_str (pa_cons pe_str (pa_cons pe_str (pa_cons pe_str (pa_cons pe_str (pa_cons pe_str (pa_cons pe_str (pa_cons pe_str
        (pa_cons pe_str (pa_cons pe_str (pa_cons pe_str (pa_cons pe_str (pa_cons pe_str pa_nil)))))))))))))))))
      (pss_one (ps_ret (pe_slice sl_list (pcl CM hr (pa_cons (pv 0) (pa_cons (pv 2) pa_nil))) po_none (po_some (pv 1))))), ?_⟩
    refine ⟨by show 15 ≤ sizeLine; decide, fun p hp => ?_⟩
    have f0 : Fr b l H (upd H p (.lst (Names.map V.str))) := Fr.new cb.bag hp
    have d0 : Dm K M (upd H p (.lst (Names.map V.str))) (.ref p) (.list (Names.map PyData.str)) := Dm.lstNew cb.kn hp (dps_strs Names)
    refine ⟨_, rfl, _, rfl, M, b, l, _, _, rfl, cb.fr f0, d0, by show 15 < 100000; decide, fun y es H' f1 hpm hy => ?_⟩
    obtain ⟨ns, rfl, hns⟩ := perm_str hpm
    have hlen : ns.length = 15 := hns.length_eq
    obtain ⟨a, xs, rfl, hs, ha⟩ := hy.lstAt
    have hl := ha.len
    rw [List.length_map, hlen] at hl
    refine ⟨_, rfl, _, rfl, a, xs, rfl, hs, fun q hq => ?_⟩
    rw [cutV_to h0 (by omega)]
    have f2 := (f0.trans f1).trans (Fr.new f1.bag hq (o := .lst (xs.take m.toNat)))
    refine k _ (ns.take m.toNat) _ f2 (by rw [List.length_take]; omega) (fun n hn => hns.mem_iff.mp (List.mem_of_mem_take hn)) ((hns.nodup_iff.mpr names_nd).sublist (List.take_sublist _ _)) ?_
    rw [List.map_take]
    exact Dm.lstNew ((cb.fr f0).fr f1).kn hq (ha.take _)
end

/-! kinds -/
abbrev Kd := Str × Bool × Int
def kdD (k : Kd) : PyData := .tuple [.str k.1, .bool k.2.1, .int k.2.2]
structure KdsOk (ks : List Kd) : Prop where
  name : ∀ k ∈ ks, k.1 ∈ Names
  nd : (ks.map (·.1)).Nodup
  rise : ∀ (i : Nat) (k : Kd), ks[i]? = some k → (i : Int) ≤ k.2.2 ∧ k.2.2 < ks.length
def spKinds (K : PySem.W.Frag) : Sp := fun vs H Q _ => ∃ (M : List Addr) (b l : Addr) (m : Int) (v : V) (bs : List Bool), vs = [.ref b, .int m, v] ∧ Cb M b l H ∧ 0 ≤ m ∧ m ≤ 15 ∧ Dm K M H v (.list (bs.map PyData.bool)) ∧ 0 < bs.length ∧ bs.length < 1000 ∧
  ∀ (y : V) (ks : List Kd) (H' : Hp), Fr b l H H' → ks.length = m.toNat → KdsOk ks → Dm K M H' y (.tuple (ks.map kdD)) → Q y H'
section
variable {P : Program} {w : World} {K : PySem.W.Frag} {mg : Str → Option Value} {base : Heap}
abbrev sKinds : Stmt := topS 17
theorem scKinds : FnScope ["bag", "many", "keeps", "names", "found", "k", "rise"] ["bag", "many", "keeps"] (defScope sKinds) := ⟨rfl, rfl, rfl, by decide +kernel, rfl, by decide +kernel, by decide +kernel⟩
theorem bootTuple : bootBuiltins "tuple" = some (.type "tuple") := by decide +kernel
theorem dm_get {K : PySem.W.Frag} {M : List Addr} {H : Hp} {v : V} {ds : List PyData} {i : Int} {d : PyData} (h : Dm K M H v (.list ds)) (h0 : 0 ≤ i) (e : ds[i.toNat]? = some d) : ∃ a xs y, v = .ref a ∧ SqL K H a xs ∧ atI xs i = some y ∧ Dm K M H y d := by
  obtain ⟨a, xs, rfl, hs, ha⟩ := h.lstAt
  obtain ⟨y, hy, hd⟩ := ha.get e
  have q := atI_nat hy
  rw [show ((i.toNat : Nat) : Int) = i by omega] at q
  exact ⟨a, xs, y, rfl, hs, q, hd⟩
theorem dm_getT {K : PySem.W.Frag} {M : List Addr} {H : Hp} {v : V} {ds : List PyData} {i : Int} {d : PyData} (h : Dm K M H v (.tuple ds)) (h0 : 0 ≤ i) (e : ds[i.toNat]? = some d) : ∃ a xs y, v = .ref a ∧ SqT K H a xs ∧ atI xs i = some y ∧ Dm K M H y d := by
  obtain ⟨a, xs, rfl, hs, ha⟩ := h.tupAt
  obtain ⟨y, hy, hd⟩ := ha.get e
  have q := atI_nat hy
  rw [show ((i.toNat : Nat) : Int) = i by omega] at q
  exact ⟨a, xs, y, rfl, hs, q, hd⟩
theorem ok_kinds {f fT fS fN : Addr} {fd fdT fdS fdN : FuncData} (F : Fun K "_law_kinds" "_law_kinds" sKinds f fd) (T : Txt mg) (CT : Cal P w K mg base "_law_take" 1 ["bag", "upto"] spTake fT fdT)
    (CS : Cal P w K mg base "_law_some" 2 ["bag", "things"] (spSome K) fS fdS) (CN : Cal P w K mg base "_law_named" 3 ["bag", "many"] (spNamed K) fN fdN) : FnOk P w K mg base CX0 4 f fd ["bag", "many", "keeps"] (spKinds K) := by
  refine F.ok scKinds (fun vs H Q E h => ?_) (fun cdv A outer s H vs Q E hr h => ?_)
  · obtain ⟨M, b, l, m, v, bs, rfl, _⟩ := h
    rfl
  · obtain ⟨M, b, l, m, v, bs, rfl, cb, h0, h1, hv, b0, b1, k⟩ := h
    have hr1 : Room 1 _ := hr.mono (by decide)
    have hr2 : Room 2 _ := hr.mono (by decide)
    refine ⟨_, pss_cons (ps_par (i := 3) (j := 4) rfl scKinds.nd rfl rfl (by decide) rfl rfl (pa_cons (pcl CN hr (pa_cons (pv 0) (pa_cons (pv 1) pa_nil))) (pa_cons (pe_lst pa_nil) pa_nil)) rfl)
      (pss_cons (ps_for PassesOwn.never rfl (pi_range1 rfl T.range (pa_cons (pv 1) pa_nil)) (pg_name (i := 5) scKinds.nd rfl (Or.inl rfl))
        (Evl.pss_cut (ps_set (i := 6) scKinds.nd rfl (Or.inl rfl) (pe_ifExp (pt_cmpR op_eq (pcl CT hr1 (pa_cons (pv 0) (pa_cons pe_int pa_nil))) pe_int (nomark _)) (pe_op op_add (pv 5) (pcl CT hr1 (pa_cons (pv 0) (pa_cons (pe_op op_sub (pv 1) (pv 5)) pa_nil)))) (pv 5)))
        (pss_one (ps_expr (pe_bm PySem.F.plainAttrs_list PySem.F.slot_list_append PySem.F.type_list_append mt_append (pv 4)
          (pa_cons (pe_tup (pa_cons (pe_ix ix_list (pv 3) (pv 5) (fun _ _ => rfl)) (pa_cons (pcl CS hr2 (pa_cons (pv 0) (pa_cons (pv 2) pa_nil))) (pa_cons (pv 6) pa_nil)))) pa_nil))))))
      (pss_one (ps_ret (pe_callTy call_tuple_of (by rfl) T.tuple bootTuple (pa_cons (pv 4) pa_nil))))), ?_⟩
    refine ⟨_, rfl, _, rfl, M, b, l, m, rfl, cb, h0, h1, fun yn ns H1 f1 hnl hnN hnd hyn => ?_⟩
    refine ⟨Nat.zero_le _, fun p hp => ?_⟩
    have c1 := cb.fr f1
    have hp0 : H p = none := f1.free cb.bag hp
    refine ⟨_, _, rfl, ?_⟩
    have km {o : HO} : Kp (p :: M) H1 (upd H1 p o) := Kp.mut List.mem_cons_self
    have f2 : Fr b l H (upd H1 p (.lst [])) := f1.mut cb.bag hp0
    refine ⟨_, rfl, m, rfl, by omega, by omega, for_range (lo := 0) (n := m.toNat) (fun i σ H' => ∃ (u1 u2 : Option V) (vs : List V) (ks : List Kd), σ = [some (.ref b), some (.int m), some v, some yn, some (.ref p), u1, u2] ∧ Fr b l H H' ∧ H' p = some (.lst vs) ∧ Dms K (p :: M) H' vs (ks.map kdD) ∧
        ks.length = i ∧ ks.map (·.1) = ns.take i ∧ (∀ (j : Nat) (k : Kd), ks[j]? = some k → (j : Int) ≤ k.2.2 ∧ k.2.2 < m) ∧ Dm K (p :: M) H' yn (.list (ns.map PyData.str)) ∧ Dm K (p :: M) H' v (.list (bs.map PyData.bool)))
      ⟨none, none, [], [], rfl, f2, upd_same, .nil, rfl, rfl, fun j k e => by simp at e, (hyn.more hp).k km, ((hv.f f1 cb.mem).more hp).k km⟩ ?_ ?_⟩
    · rintro i σ H' hi ⟨u1, u2, vs, ks, rfl, f3, h3p, hds, hkl, hkn, hkr, hdn, hdv⟩
      have c3 : Cb (p :: M) b l H' := (cb.fr f3).more ⟨_, h3p⟩
      have pb := ne_new cb.bag.at hp0
      have hi' : (i : Int) < m := by omega
      refine ⟨fun σ' H4 => ∃ r : Int, σ' = [some (.ref b), some (.int m), some v, some yn, some (.ref p), some (.int ((0 : Int) + (i : Nat))), some (.int r)] ∧ Fr b l H' H4 ∧ (i : Int) ≤ r ∧ r < m, ?_, ?_⟩
      · refine ⟨_, rfl, b, l, _, rfl, f3.bag, by decide, by decide, fun j H4 f4 j0 j1 => ⟨rfl, _, rfl, ite2 (fun e => ?_) (fun e => ?_)⟩⟩
        · exact ⟨_, rfl, _, rfl, _, rfl, _, rfl, _, _, rfl, rfl, b, l, _, rfl, f4.bag, by omega, by omega, fun j2 H5 f5 j20 j21 => ⟨_, _, rfl, rfl, _, rfl, f4.trans f5, by omega, by omega⟩⟩
        · exact ⟨_, rfl, _, by simp [List.set], f4, Int.le_refl _, hi'⟩
      rintro σ4 H4 ⟨r, rfl, f4, r0, r1⟩
      have h4p : H4 p = some (.lst vs) := f4.k p _ (by simp [pb]) h3p
      have hdn4 := Dm.f hdn f4 c3.mem
      have hni : (ns.map PyData.str)[((0 : Int) + (i : Nat)).toNat]? = some (.str (ns[i]'(by omega))) := by
        rw [show ((0 : Int) + (i : Nat)).toNat = i by omega, List.getElem?_map, List.getElem?_eq_getElem (by omega)]
        rfl
      obtain ⟨a, xs, y, rfl, hsx, hat, hdy⟩ := dm_get hdn4 (by omega) hni
      have hy := hdy.strAt
      refine ⟨_, rfl, .inl ⟨rfl, _, SqL.of h4p⟩, _, rfl, _, rfl, a, xs, _, y, rfl, rfl, hsx, hat, ?_⟩
      refine ⟨_, rfl, _, rfl, p :: M, b, l, v, _, rfl, c3.fr f4, .inl (Dm.f hdv f4 c3.mem), by rw [List.length_map]; exact b0, by rw [List.length_map]; omega, fun z d H5 f5 hd hz => ?_⟩
      obtain ⟨bb, _, rfl⟩ := List.mem_map.mp hd
      refine ⟨_, rfl, by show 3 ≤ sizeLine; decide, fun q hq => ?_⟩
      have h5p : H5 p = some (.lst vs) := f5.k p _ (by simp [pb]) h4p
      have c5 := (c3.fr f4).fr f5
      have f6 := f5.trans (Fr.new f5.bag hq (o := .tup [y, z, .int r]))
      have h6p : upd H5 q (.tup [y, z, .int r]) p = some (.lst vs) := by
        rw [upd_ne (ne_of_none h5p hq)]
        exact h5p
      have hdq : Dm K (p :: M) (upd H5 q (.tup [y, z, .int r])) (.ref q) (kdD (ns[i]'(by omega), bb, r)) := Dm.tupNew c5.kn hq (.cons (Dm.f hdy f5 c5.mem) (.cons hz (.cons (.int r) .nil)))
      refine ⟨p, vs, _, rfl, rfl, h6p, szl (by have := hds.len; rw [List.length_map] at this; omega), ?_⟩
      have km2 {o : HO} : Kp (p :: M) (upd H5 q (.tup [y, z, .int r])) (upd (upd H5 q (.tup [y, z, .int r])) p o) := Kp.mut List.mem_cons_self
      have f7 := f4.trans f6
      refine ⟨_, _, _, ks ++ [(ns[i]'(by omega), bb, r)], rfl, (f3.trans f7).mut cb.bag hp0, upd_same, ?_, by rw [List.length_append, hkl]; rfl, ?_, ?_, (Dm.f hdn f7 c3.mem).k km2, (Dm.f hdv f7 c3.mem).k km2⟩
      · rw [List.map_append]
        exact Dms.k ((hds.f f7 c3.mem).app (DpAll.one hdq)) km2
      · rw [List.map_append, hkn]
        exact (take_snoc (List.getElem?_eq_getElem (by omega))).symm
      · intro j k e
        rcases Nat.lt_or_ge j ks.length with q | q
        · rw [List.getElem?_append_left q] at e
          exact hkr j k e
        · rw [List.getElem?_append_right q] at e
          have ej : j - ks.length = 0 := by
            by_cases z : j - ks.length = 0
            · exact z
            · rw [List.getElem?_eq_none (by simp; omega)] at e
              cases e
          rw [ej] at e
          cases Option.some.inj e
          exact ⟨by show (j : Int) ≤ r; omega, r1⟩
    · rintro σ H' ⟨u1, u2, vs, ks, rfl, f3, h3p, hds, hkl, hkn, hkr, hdn, hdv⟩
      refine ⟨_, rfl, p, vs, rfl, .inl ⟨SqL.of h3p, fun q hq => ?_⟩⟩
      rw [List.take_of_length_le (by omega)] at hkn
      have f4 := f3.trans (Fr.new f3.bag hq (o := .tup vs))
      refine k _ ks _ f4 hkl ⟨fun k hk => hnN _ (by rw [← hkn]; exact List.mem_map_of_mem hk), by rw [hkn]; exact hnd, fun j k e => ⟨(hkr j k e).1, by have := (hkr j k e).2; omega⟩⟩ ?_
      exact Dm.tupNew (cb.fr f3).kn hq (hds.less fun a h => List.mem_cons_of_mem _ h)
end
end KZ

namespace KZ
open PySem PySem.Spec PyProof.Rows L2

/-! what an expression without a bag comes to, as data -/
def EvD (K : PySem.W.Frag) (M : List Addr) (te : TE) (σ : L2.St) (H : Hp) (d : PyData) : Prop := ∀ H1, Sub H H1 → ∀ Q : VK, (∀ v H', Sub H1 H' → Dm K M H' v d → Q v H') → te σ H1 Q
def EvDs (K : PySem.W.Frag) (M : List Addr) (ta : TA) (σ : L2.St) (H : Hp) (ds : List PyData) : Prop := ∀ H1, Sub H H1 → ∀ Q : List V → Hp → Prop, (∀ vs H', Sub H1 H' → Dms K M H' vs ds → Q vs H') → ta σ H1 Q
def EvO (to : TO) (σ : L2.St) (H : Hp) (o : Option Int) : Prop := ∀ H1, Sub H H1 → ∀ Q : Option Int → Hp → Prop, (∀ H', Sub H1 H' → Q o H') → to σ H1 Q
section
variable {K : PySem.W.Frag} {M : List Addr} {σ : L2.St} {H H' : Hp} {ta tb te : TE} {tr : TA} {tl th : TO} {d e : PyData} {ds es : List PyData} {v : V}
theorem EvD.sub (h : EvD K M te σ H d) (s : Sub H H') : EvD K M te σ H' d := fun H1 s1 => h H1 (s.trans s1)
theorem evd_var {i : Nat} (h : σ[i]? = some (some v)) (hd : Dm K M H v d) : EvD K M (tVar i) σ H d := fun H1 s Q q => ⟨v, h, q v H1 (Sub.refl _) (Dm.s hd s)⟩
theorem evd_int {i : Int} : EvD K M (tC (.int i)) σ H (.int i) := fun H1 s Q q => q _ H1 (Sub.refl _) (.int i)
theorem evd_str {x : Str} : EvD K M (tC (.str x)) σ H (.str x) := fun H1 s Q q => q _ H1 (Sub.refl _) (.str x)
theorem evd_bl {b : Bool} : EvD K M (tC (.bl b)) σ H (.bool b) := fun H1 s Q q => q _ H1 (Sub.refl _) (.bl b)
theorem evds_nil : EvDs K M tNil σ H [] := fun H1 s Q q => q [] H1 (Sub.refl _) .nil
theorem evds_cons (h : EvD K M ta σ H d) (hr : EvDs K M tr σ H ds) : EvDs K M (tCons ta tr) σ H (d :: ds) := fun H1 s Q q =>
  h H1 s _ fun v H2 s2 hd => hr H2 (s.trans s2) _ fun vs H3 s3 hds => q _ H3 (s2.trans s3) (.cons (Dm.s hd s3) hds)
theorem evd_tup (n : Kn M H) (h : EvDs K M tr σ H ds) (hl : ds.length < 1000000) : EvD K M (tTup tr) σ H (.tuple ds) := fun H1 s Q q =>
  h H1 s _ fun vs H2 s2 hds => ⟨Nat.le_of_lt (szl (by rw [hds.len]; exact hl)), fun p hp => q _ _ (s2.trans (Sub.new hp)) (Dm.tupNew (n.sub (s.trans s2)) hp hds)⟩
theorem evd_lst (n : Kn M H) (h : EvDs K M tr σ H ds) (hl : ds.length < 1000000) : EvD K M (tLst tr) σ H (.list ds) := fun H1 s Q q =>
  h H1 s _ fun vs H2 s2 hds => ⟨Nat.le_of_lt (szl (by rw [hds.len]; exact hl)), fun p hp => q _ _ (s2.trans (Sub.new hp)) (Dm.lstNew (n.sub (s.trans s2)) hp hds)⟩
theorem evd_ixT {i : Int} (h : EvD K M ta σ H (.tuple ds)) (hi : EvD K M tb σ H (.int i)) (h0 : 0 ≤ i) (hd : ds[i.toNat]? = some d) : EvD K M (tOp (rIxT K) ta tb) σ H d := fun H1 s Q q =>
  h H1 s _ fun v H2 s2 hv => hi H2 (s.trans s2) _ fun u H3 s3 hu => by
    obtain ⟨a, xs, y, rfl, hs, hat, hy⟩ := dm_getT (Dm.s hv s3) h0 hd
    cases hu.intAt
    exact ⟨a, xs, i, y, rfl, rfl, hs, hat, q y H3 (s2.trans s3) hy⟩
theorem evd_ixL {i : Int} (h : EvD K M ta σ H (.list ds)) (hi : EvD K M tb σ H (.int i)) (h0 : 0 ≤ i) (hd : ds[i.toNat]? = some d) : EvD K M (tOp (rIxL K) ta tb) σ H d := fun H1 s Q q =>
  h H1 s _ fun v H2 s2 hv => hi H2 (s.trans s2) _ fun u H3 s3 hu => by
    obtain ⟨a, xs, y, rfl, hs, hat, hy⟩ := dm_get (Dm.s hv s3) h0 hd
    cases hu.intAt
    exact ⟨a, xs, i, y, rfl, rfl, hs, hat, q y H3 (s2.trans s3) hy⟩
theorem evo_none : EvO tNoPart σ H none := fun H1 _ Q q => q H1 (Sub.refl _)
theorem evo_some {i : Int} (h : EvD K M te σ H (.int i)) : EvO (tPart te) σ H (some i) := fun H1 s Q q => h H1 s _ fun v H2 s2 hv => by
  cases hv.intAt
  exact ⟨i, rfl, q H2 s2⟩
def cutD (ds : List PyData) (lo hi : Option Int) : List PyData := (ds.drop (HT.sIx ds.length 0 lo)).take (HT.sIx ds.length ds.length hi - HT.sIx ds.length 0 lo)
theorem dps_cut {vs : List V} (h : DpAll K H vs ds) (lo hi : Option Int) : DpAll K H (cutV vs lo hi) (cutD ds lo hi) := by
  unfold cutV cutD
  rw [h.len]
  exact (h.drop _).take _
theorem cutD_to {m : Int} (h0 : 0 ≤ m) (h1 : m ≤ ds.length) : cutD ds none (some m) = ds.take m.toNat := by
  have e : ((m.toNat : Nat) : Int) = m := by omega
  unfold cutD
  rw [← e, HT.sIx_none, HT.sIx_nat, e, List.drop_zero, Nat.sub_zero, Nat.min_eq_left (by omega)]
theorem cutD_from {m : Int} (h0 : 0 ≤ m) (h1 : m ≤ ds.length) : cutD ds (some m) none = ds.drop m.toNat := by
  have e : ((m.toNat : Nat) : Int) = m := by omega
  unfold cutD
  rw [← e, HT.sIx_none, HT.sIx_nat, e, Nat.min_eq_left (by omega)]
  exact List.take_of_length_le (by rw [List.length_drop]; omega)
theorem evd_slT {lo hi : Option Int} (n : Kn M H) (h : EvD K M te σ H (.tuple ds)) (h1 : EvO tl σ H lo) (h2 : EvO th σ H hi) : EvD K M (tSl (rSlA K) te tl th) σ H (.tuple (cutD ds lo hi)) := fun H1 s Q q =>
  h H1 s _ fun v H2 s2 hv => h1 H2 (s.trans s2) _ fun H3 s3 => h2 H3 ((s.trans s2).trans s3) _ fun H4 s4 => by
    have hv4 := Dm.s (Dm.s hv s3) s4
    obtain ⟨a, xs, rfl, hs, ha⟩ := hv4.tupAt
    refine ⟨a, xs, rfl, hs, fun w => q _ H4 ((s2.trans s3).trans s4) ?_, fun _ p hp => q _ _ (((s2.trans s3).trans s4).trans (Sub.new hp)) (Dm.tupNew (n.sub (((s.trans s2).trans s3).trans s4)) hp (dps_cut ha lo hi))⟩
    have e : cutD ds lo hi = ds := by
      unfold cutD
      rw [ha.len] at w
      rw [w.1, w.2, List.drop_zero, Nat.sub_zero, List.take_length]
    rw [e]
    exact hv4
theorem evd_slL {lo hi : Option Int} (n : Kn M H) (h : EvD K M te σ H (.list ds)) (h1 : EvO tl σ H lo) (h2 : EvO th σ H hi) : EvD K M (tSl (rSlL K) te tl th) σ H (.list (cutD ds lo hi)) := fun H1 s Q q =>
  h H1 s _ fun v H2 s2 hv => h1 H2 (s.trans s2) _ fun H3 s3 => h2 H3 ((s.trans s2).trans s3) _ fun H4 s4 => by
    have hv4 := Dm.s (Dm.s hv s3) s4
    obtain ⟨a, xs, rfl, hs, ha⟩ := hv4.lstAt
    exact ⟨a, xs, rfl, hs, fun p hp => q _ _ (((s2.trans s3).trans s4).trans (Sub.new hp)) (Dm.lstNew (n.sub (((s.trans s2).trans s3).trans s4)) hp (dps_cut ha lo hi))⟩
theorem evd_catT (n : Kn M H) (h : EvD K M ta σ H (.tuple ds)) (h2 : EvD K M tb σ H (.tuple es)) (hl : ds.length + es.length < 1000000) : EvD K M (tOp (rCatA K) ta tb) σ H (.tuple (ds ++ es)) := fun H1 s Q q =>
  h H1 s _ fun v H2 s2 hv => h2 H2 (s.trans s2) _ fun u H3 s3 hu => by
    have hv3 := Dm.s hv s3
    obtain ⟨a, xs, rfl, hs, ha⟩ := hv3.tupAt
    obtain ⟨b, ys, rfl, hs', hb⟩ := hu.tupAt
    have l1 := ha.len
    have l2 := hb.len
    refine ⟨a, b, xs, ys, rfl, rfl, hs, hs', Nat.le_of_lt (szl (by omega)), fun z => ?_, fun _ z => ?_, fun _ _ p hp => ?_⟩
    · have e : ds = [] := List.eq_nil_of_length_eq_zero (by rw [← l1, z]; rfl)
      rw [e, List.nil_append] at q
      exact q _ H3 (s2.trans s3) hu
    · have e : es = [] := List.eq_nil_of_length_eq_zero (by rw [← l2, z]; rfl)
      rw [e, List.append_nil] at q
      exact q _ H3 (s2.trans s3) hv3
    · exact q _ _ ((s2.trans s3).trans (Sub.new hp)) (Dm.tupNew (n.sub ((s.trans s2).trans s3)) hp (ha.app hb))
/-- a list that is new -/
def EvNL (K : PySem.W.Frag) (M : List Addr) (te : TE) (σ : L2.St) (H : Hp) (ds : List PyData) : Prop := ∀ H1, Sub H H1 → ∀ Q : VK, (∀ p xs H', Sub H1 H' → H1 p = none → H' p = some (.lst xs) → Dms K (p :: M) H' xs ds → Q (.ref p) H') → te σ H1 Q
theorem EvNL.toD (n : Kn M H) (h : EvNL K M te σ H ds) : EvD K M te σ H (.list ds) := fun H1 s Q q => h H1 s Q fun p xs H' s2 hp e hx => q _ H' s2 (Dm.lstOf ((n.sub s).out hp) e hx)
theorem evn_lst (h : EvDs K M tr σ H ds) (hl : ds.length < 1000000) : EvNL K M (tLst tr) σ H ds := fun H1 s Q q =>
  h H1 s _ fun vs H2 s2 hds => ⟨Nat.le_of_lt (szl (by rw [hds.len]; exact hl)), fun p hp => q p vs _ (s2.trans (Sub.new hp)) (s2.free hp) upd_same (Dms.k (hds.more hp) (Kp.mut List.mem_cons_self))⟩
theorem evd_lc {vs : List Nat} {j : Nat} (g : PyData → PyData) (n : Kn M H) (h : EvD K M te σ H (.list ds)) (hz : ds.length < 100000) (hw : ∀ x, wipe ((wipe σ vs).set j (some x)) vs = wipe σ vs)
    (he : ∀ (Dl : Addr), H Dl = none → ∀ (d : PyData) (x : V) (H1 : Hp), Sub H H1 → Kn (Dl :: M) H1 → d ∈ ds → Dm K (Dl :: M) H1 x d → EvD K (Dl :: M) tb ((wipe σ vs).set j (some x)) H1 (g d)) : EvNL K M (tLc (iList K te) (gName j) tYes tb vs) σ H (ds.map g) := fun H1 s Q q =>
  h H1 s _ fun v H2 s2 hv => by
    obtain ⟨a, xs, rfl, hs, ha⟩ := hv.lstAtE
    have s02 := s.trans s2
    have hl := ha.len
    refine ⟨a, rfl, ⟨xs, (er_sub _ _).sqL hs⟩, fun Dl hD => ?_⟩
    have h0D : H Dl = none := s02.free hD
    refine lc_list (K := K) (a := a) (xs := xs) (fun i H' => Sub H2 H' ∧ ∃ acc, H' Dl = some (.lst acc) ∧ Dms K (Dl :: M) H' acc ((ds.take i).map g) ∧ SqL K (er (Dl :: M) H') a xs ∧ Dms K (Dl :: M) H' xs ds)
      ⟨Sub.new hD, [], upd_same, .nil, Sub.sqL (Kp.er (Kp.mut List.mem_cons_self)) (by rw [er_more hD]; exact hs), (ha.more hD).k (Kp.mut List.mem_cons_self)⟩ (fun i H' _ p => ?_) (fun i x H' hi p => ?_) (fun H' p => ?_)
    · obtain ⟨_, acc, _, _, p3, _⟩ := p
      exact (er_sub _ _).sqL p3
    · obtain ⟨sp, acc, p1, p2, p3, p4⟩ := p
      obtain ⟨d, hd, hx⟩ := p4.get' hi
      refine ⟨hw x, ?_⟩
      unfold tYes
      dsimp only
      rw [if_pos rfl]
      refine he Dl h0D d x H' (s02.trans sp) ((n.sub (s02.trans sp)).more ⟨_, p1⟩) (List.mem_of_getElem? hd) hx H' (Sub.refl _) _ fun y H3 s3 hy => ⟨acc, s3 _ _ p1, ?_, ?_⟩
      · have q1 := p2.len
        rw [List.length_map, List.length_take] at q1
        exact szl (by omega)
      · have km : Kp (Dl :: M) H3 (upd H3 Dl (.lst (acc ++ [y]))) := Kp.mut List.mem_cons_self
        refine ⟨(sp.trans s3).mut hD, _, upd_same, ?_, Sub.sqL km.er (Sub.sqL (Kp.er fun a o _ e => s3 a o e) p3), (Dms.s p4 s3).k km⟩
        rw [take_snoc hd, List.map_append]
        exact Dms.k ((Dms.s p2 s3).app (DpAll.one hy)) km
    · obtain ⟨sp, acc, p1, p2, p3, p4⟩ := p
      rw [hl, List.take_length] at p2
      exact q Dl acc H' (s2.trans sp) (s2.free hD) p1 p2
theorem evd_lcR {vs : List Nat} {j : Nat} {m : Int} (g : Nat → PyData) (n : Kn M H) (h : EvDs K M tr σ H [.int m]) (h0 : 0 ≤ m) (hz : m < 100000) (hw : ∀ x, wipe ((wipe σ vs).set j (some x)) vs = wipe σ vs)
    (he : ∀ (Dl : Addr), H Dl = none → ∀ (i : Nat) (H1 : Hp), Sub H H1 → Kn (Dl :: M) H1 → (i : Int) < m → EvD K (Dl :: M) tb ((wipe σ vs).set j (some (.int (i : Int)))) H1 (g i)) : EvNL K M (tLc (iRng1 tr) (gName j) tYes tb vs) σ H ((List.range m.toNat).map g) := fun H1 s Q q =>
  h H1 s _ fun us H2 s2 hv => by
    cases hv with
    | cons hv1 hv2 =>
    cases hv2
    cases hv1
    have s02 := s.trans s2
    refine ⟨m, rfl, by omega, by omega, fun Dl hD => ?_⟩
    have h0D : H Dl = none := s02.free hD
    refine lc_range (lo := 0) (n := m.toNat) (fun i H' => Sub H2 H' ∧ ∃ acc, H' Dl = some (.lst acc) ∧ Dms K (Dl :: M) H' acc ((List.range i).map g))
      ⟨Sub.new hD, [], upd_same, .nil⟩ (fun i H' hi p => ?_) (fun H' p => ?_)
    · obtain ⟨sp, acc, p1, p2⟩ := p
      rw [show (0 : Int) + (i : Nat) = (i : Int) by omega]
      refine ⟨hw _, ?_⟩
      unfold tYes
      dsimp only
      rw [if_pos rfl]
      refine he Dl h0D i H' (s02.trans sp) ((n.sub (s02.trans sp)).more ⟨_, p1⟩) (by omega) H' (Sub.refl _) _ fun y H3 s3 hy => ⟨acc, s3 _ _ p1, ?_, ?_⟩
      · have q1 := p2.len
        rw [List.length_map, List.length_range] at q1
        exact szl (by omega)
      · have km : Kp (Dl :: M) H3 (upd H3 Dl (.lst (acc ++ [y]))) := Kp.mut List.mem_cons_self
        refine ⟨(sp.trans s3).mut hD, _, upd_same, ?_⟩
        rw [List.range_succ, List.map_append]
        exact Dms.k ((Dms.s p2 s3).app (DpAll.one hy)) km
    · obtain ⟨sp, acc, p1, p2⟩ := p
      exact q Dl acc H' (s2.trans sp) (s2.free hD) p1 p2
end

theorem lt1 {α : Type} {a : α} : [a].length < 1000000 := by
  show 1 < 1000000
  decide
theorem lt2 {α : Type} {a b : α} : [a, b].length < 1000000 := by
  show 2 < 1000000
  decide
theorem lt3 {α : Type} {a b c : α} : [a, b, c].length < 1000000 := by
  show 3 < 1000000
  decide
theorem lt4 {α : Type} {a b c d : α} : [a, b, c, d].length < 1000000 := by
  show 4 < 1000000
  decide
section
variable {K : PySem.W.Frag} {M : List Addr} {σ : L2.St} {H H' : Hp} {te : TE} {tr : TA} {d : PyData} {ds : List PyData} {D : Ends} {u : TS} {i : Nat} {sp : Sp} {E : XK} {Q : VK} {y : V}
theorem ret_of (h : te σ H D.rt) : tRet te D σ H := h
theorem set_of (h : te σ H fun x H1 => D.nx (σ.set i (some x)) H1) : tAsg te (gName i) D σ H := h
theorem sset_of (h : te σ H fun x H1 => u D (σ.set i (some x)) H1) : tSeq (tAsg te (gName i)) u D σ H := h
theorem evd_set (h : EvD K M te σ H d) (k : ∀ v H1, Sub H H1 → Dm K M H1 v d → D.nx (σ.set i (some v)) H1) : tAsg te (gName i) D σ H := h H (Sub.refl _) _ fun v H1 s hd => k v H1 s hd
theorem evd_sset (h : EvD K M te σ H d) (k : ∀ v H1, Sub H H1 → Dm K M H1 v d → u D (σ.set i (some v)) H1) : tSeq (tAsg te (gName i)) u D σ H := h H (Sub.refl _) _ fun v H1 s hd => k v H1 s hd
theorem evd_ret (h : EvD K M te σ H d) (k : ∀ v H1, Sub H H1 → Dm K M H1 v d → D.rt v H1) : tRet te D σ H := h H (Sub.refl _) _ fun v H1 s hd => k v H1 s hd
theorem evb_call (hb : σ[i]? = some (some y)) (h : EvDs K M tr σ H ds) (k : ∀ vs H1, Sub H H1 → Dms K M H1 vs ds → sp (y :: vs) H1 Q E) : tCall sp [] E (tCons (tVar i) tr) σ H Q :=
  ⟨y, hb, h H (Sub.refl _) _ fun vs H1 s hd => by
    dsimp only
    rw [List.append_nil]
    exact k vs H1 s hd⟩
theorem evd_callQ (h : EvDs K M tr σ H ds) (k : ∀ vs H1, Sub H H1 → Dms K M H1 vs ds → sp vs H1 Q E) : tCall sp [] E tr σ H Q :=
  h H (Sub.refl _) _ fun vs H1 s hd => by
    rw [List.append_nil]
    exact k vs H1 s hd
theorem Dms.one_at {vs : List V} (h : Dms K M H vs [d]) : ∃ v, vs = [v] ∧ Dm K M H v d := by
  cases h with
  | cons h1 h2 =>
    cases h2
    exact ⟨_, rfl, h1⟩
theorem Dms.two_at {vs : List V} {e : PyData} (h : Dms K M H vs [d, e]) : ∃ v w, vs = [v, w] ∧ Dm K M H v d ∧ Dm K M H w e := by
  cases h with
  | cons h1 h2 =>
    obtain ⟨w, rfl, h3⟩ := Dms.one_at h2
    exact ⟨_, _, rfl, h1, h3⟩
theorem Dms.three_at {vs : List V} {e f : PyData} (h : Dms K M H vs [d, e, f]) : ∃ v w x, vs = [v, w, x] ∧ Dm K M H v d ∧ Dm K M H w e ∧ Dm K M H x f := by
  cases h with
  | cons h1 h2 =>
    obtain ⟨w, x, rfl, h3, h4⟩ := Dms.two_at h2
    exact ⟨_, _, _, rfl, h1, h3, h4⟩
end

/-! the words that a couple may have -/
def Words : List Str := ["wait", "yield", "oust"]
abbrev Cp := Str × Str
def cpD (c : Cp) : PyData := .tuple [.str c.1, .str c.2]
def CpOk (c : Cp) : Prop := c.1 ∈ Words ∧ c.2 ∈ Words
def spMenu (K : PySem.W.Frag) : Sp := fun vs H Q _ => ∃ (M : List Addr) (b l : Addr) (x : Str), vs = [.ref b, .str x] ∧ Cb M b l H ∧
  ∀ (y : V) (cs : List Cp) (H' : Hp), Fr b l H H' → 0 < cs.length → cs.length < 10 → (∀ c ∈ cs, CpOk c) → Dm K M H' y (.list (cs.map cpD)) → Q y H'
section
variable {P : Program} {w : World} {K : PySem.W.Frag} {mg : Str → Option Value} {base : Heap}
abbrev sMenu : Stmt := topS 18
theorem scMenu : FnScope ["bag", "style", "words", "found", "word", "other"] ["bag", "style"] (defScope sMenu) := ⟨rfl, rfl, rfl, by decide +kernel, rfl, by decide +kernel, by decide +kernel⟩
def eldM : List (List Cp) := [[("oust", "wait"), ("oust", "yield")], [("wait", "yield")], [("oust", "wait")]]
def youM : List (List Cp) := [[("wait", "oust")], [("yield", "wait"), ("yield", "oust")], [("yield", "oust")]]
def lcD (cs : List Cp) : PyData := .list (cs.map cpD)
theorem eld_ok : ∀ cs ∈ eldM, (∀ c ∈ cs, CpOk c) ∧ 0 < cs.length ∧ cs.length < 10 := by
  unfold eldM CpOk
  decide +kernel
theorem you_ok : ∀ cs ∈ youM, (∀ c ∈ cs, CpOk c) ∧ 0 < cs.length ∧ cs.length < 10 := by
  unfold youM CpOk
  decide +kernel
theorem ok_menu {f fS : Addr} {fd fdS : FuncData} (F : Fun K "_law_menu" "_law_menu" sMenu f fd) (T : Txt mg) 
    (CS : Cal P w K mg base "_law_some" 2 ["bag", "things"] (spSome K) fS fdS) : FnOk P w K mg base CX0 3 f fd ["bag", "style"] (spMenu K) := by
  refine F.ok scMenu (fun vs H Q E h => ?_) (fun cdv A outer s H vs Q E hr h => ?_)
  · obtain ⟨M, b, l, x, rfl, _⟩ := h
    rfl
  · obtain ⟨M, b, l, x, rfl, cb, k⟩ := h
    refine ⟨_, pss_cons (ps_set (i := 2) scMenu.nd rfl (Or.inl rfl) (pe_lst (pa_cons pe_str (pa_cons pe_str (pa_cons pe_str pa_nil)))))
      (pss_cons (ps_if (pt_cmpR op_eq (pv 1) pe_str (nomark _)) (pss_one (ps_ret (pcl CS hr (pa_cons (pv 0) (pa_cons
          (pe_lst (pa_cons (pe_lst (pa_cons (pe_tup (pa_cons pe_str (pa_cons pe_str pa_nil))) (pa_cons (pe_tup (pa_cons pe_str (pa_cons pe_str pa_nil))) pa_nil))) (pa_cons (pe_lst (pa_cons (pe_tup (pa_cons pe_str (pa_cons pe_str pa_nil))) pa_nil)) (pa_cons (pe_lst (pa_cons (pe_tup (pa_cons pe_str (pa_cons pe_str pa_nil))) pa_nil)) pa_nil)))) pa_nil))))) pss_nil)
      (pss_cons (ps_if (pt_cmpR op_eq (pv 1) pe_str (nomark _)) (pss_one (ps_ret (pcl CS hr (pa_cons (pv 0) (pa_cons
          (pe_lst (pa_cons (pe_lst (pa_cons (pe_tup (pa_cons pe_str (pa_cons pe_str pa_nil))) pa_nil)) (pa_cons (pe_lst (pa_cons (pe_tup (pa_cons pe_str (pa_cons pe_str pa_nil))) (pa_cons (pe_tup (pa_cons pe_str (pa_cons pe_str pa_nil))) pa_nil))) (pa_cons (pe_lst (pa_cons (pe_tup (pa_cons pe_str (pa_cons pe_str pa_nil))) pa_nil)) pa_nil)))) pa_nil))))) pss_nil)
      (Evl.pss_cut (ps_if (pt_cmpR op_eq (pv 1) pe_str (nomark _)) (pss_one (ps_set (i := 2) scMenu.nd rfl (Or.inl rfl) (pe_lst (pa_cons pe_str (pa_cons pe_str pa_nil))))) pss_nil)
      (pss_cons (ps_set (i := 3) scMenu.nd rfl (Or.inl rfl) (pe_lst pa_nil))
      (pss_cons (ps_for PassesOwn.never rfl (pi_list (pv 2)) (pg_name (i := 4) scMenu.nd rfl (Or.inr rfl))
        (pss_one (ps_expr (pe_bm PySem.F.plainAttrs_list PySem.F.slot_list_extend PySem.F.type_list_extend mt_extend (pv 3)
          (pa_cons (pe_lc (own := [("other", 5)]) (g := gName 5) (tt := tYes) rfl scMenu.nd (pi_list (pv 2)) (blkOk_by (N := ["bag", "style", "words", "found", "word", "other"]) (sc := defScope sMenu) (by decide +kernel)) (fun _ _ _ _ _ => pg_name (i := 5) scMenu.nd rfl (Or.inl rfl)) (fun _ _ _ _ _ => pts_nil)
            (fun _ _ _ _ _ => pe_tup (pa_cons (pv 4) (pa_cons (pv 5) pa_nil)))) pa_nil)))))
      (pss_one (ps_ret (pv 3)))))))), ?_⟩
    refine evd_sset (M := M) (K := K) (evd_lst cb.kn (evds_cons evd_str (evds_cons evd_str (evds_cons evd_str evds_nil))) lt3) fun vw H1 s1 hw => ?_
    have f1 : Fr b l H H1 := Fr.sub cb.bag s1
    have c1 := cb.fr f1
    have pr {y z : Str} {te te2 : TE} {σ : L2.St} {H : Hp} (n : Kn M H) (h1 : EvD K M te σ H (.str y)) (h2 : EvD K M te2 σ H (.str z)) : EvD K M (tTup (tCons te (tCons te2 tNil))) σ H (cpD (y, z)) := evd_tup n (evds_cons h1 (evds_cons h2 evds_nil)) lt2
    refine ⟨_, rfl, rfl, _, rfl, ite2 (fun e => ?_) (fun e => ?_)⟩
    · refine ret_of (evb_call (K := K) (M := M) rfl (evds_cons (evd_lst c1.kn (evds_cons (evd_lst c1.kn (evds_cons (pr c1.kn evd_str evd_str) (evds_cons (pr c1.kn evd_str evd_str) evds_nil)) lt2) (evds_cons (evd_lst c1.kn (evds_cons (pr c1.kn evd_str evd_str) evds_nil) lt1)
        (evds_cons (evd_lst c1.kn (evds_cons (pr c1.kn evd_str evd_str) evds_nil) lt1) evds_nil))) lt3) evds_nil) fun vs2 H2 s2 h2 => ?_)
      obtain ⟨v2, rfl, h2'⟩ := Dms.one_at h2
      have f2 := f1.trans (Fr.sub c1.bag s2)
      refine ⟨M, b, l, v2, eldM.map lcD, rfl, cb.fr f2, .inl h2', by decide, by decide, fun y d H3 f3 hd hy => ?_⟩
      obtain ⟨cs, hcs, rfl⟩ := List.mem_map.mp hd
      obtain ⟨o1, o2, o3⟩ := eld_ok cs hcs
      exact k y cs H3 (f2.trans f3) o2 o3 o1 hy
    refine ⟨_, rfl, rfl, _, rfl, ite2 (fun e => ?_) (fun e => ?_)⟩
    · refine ret_of (evb_call (K := K) (M := M) rfl (evds_cons (evd_lst c1.kn (evds_cons (evd_lst c1.kn (evds_cons (pr c1.kn evd_str evd_str) evds_nil) lt1) (evds_cons (evd_lst c1.kn (evds_cons (pr c1.kn evd_str evd_str) (evds_cons (pr c1.kn evd_str evd_str) evds_nil)) lt2)
        (evds_cons (evd_lst c1.kn (evds_cons (pr c1.kn evd_str evd_str) evds_nil) lt1) evds_nil))) lt3) evds_nil) fun vs2 H2 s2 h2 => ?_)
      obtain ⟨v2, rfl, h2'⟩ := Dms.one_at h2
      have f2 := f1.trans (Fr.sub c1.bag s2)
      refine ⟨M, b, l, v2, youM.map lcD, rfl, cb.fr f2, .inl h2', by decide, by decide, fun y d H3 f3 hd hy => ?_⟩
      obtain ⟨cs, hcs, rfl⟩ := List.mem_map.mp hd
      obtain ⟨o1, o2, o3⟩ := you_ok cs hcs
      exact k y cs H3 (f2.trans f3) o2 o3 o1 hy
    refine ⟨fun σ' H' => ∃ (vw : V) (ws : List Str), σ' = [some (.ref b), some (.str x), some vw, none, none, none] ∧ Fr b l H H' ∧ (∀ z ∈ ws, z ∈ Words) ∧ 0 < ws.length ∧ ws.length < 4 ∧ Dm K M H' vw (.list (ws.map PyData.str)), ?_, ?_⟩
    · refine ⟨_, rfl, rfl, _, rfl, ite2 (fun e => ?_) (fun e => ?_)⟩
      · refine evd_set (M := M) (K := K) (evd_lst c1.kn (evds_cons evd_str (evds_cons evd_str evds_nil)) lt2) fun vw2 H2 s2 hw2 => ?_
        exact ⟨vw2, ["wait", "yield"], rfl, f1.trans (Fr.sub c1.bag s2), by unfold Words; decide +kernel, by decide, by decide, hw2⟩
      · exact ⟨vw, Words, rfl, f1, fun z hz => hz, by decide, by decide, hw⟩
    rintro σ2 H2 ⟨vw, ws, rfl, f2, wOk, w0, w1, hw⟩
    refine ⟨Nat.zero_le _, fun p hp => ?_⟩
    have c2 := cb.fr f2
    have hp0 : H p = none := f2.free cb.bag hp
    have pb := ne_new cb.bag.at hp0
    obtain ⟨a, xs, rfl, hse, ha⟩ := hw.lstAtE
    have hl := ha.len
    rw [List.length_map] at hl
    have km0 {o : HO} : Kp (p :: M) H2 (upd H2 p o) := Kp.mut List.mem_cons_self
    refine ⟨_, rfl, a, rfl, ⟨_, (Sub.new hp).sqL ((er_sub _ _).sqL hse)⟩, for_list (K := K) (a := a) (xs := xs) (fun i σ H' => ∃ (u : Option V) (vs : List V) (cs : List Cp), σ = [some (.ref b), some (.str x), some (.ref a), some (.ref p), u, none] ∧ Fr b l H H' ∧ H' p = some (.lst vs) ∧ Dms K (p :: M) H' vs (cs.map cpD) ∧ cs.length = i * ws.length ∧ (∀ c ∈ cs, CpOk c) ∧
        SqL K (er (p :: M) H') a xs ∧ Dms K (p :: M) H' xs (ws.map PyData.str))
      ⟨none, [], [], rfl, f2.mut cb.bag hp0, upd_same, .nil, by simp, by simp, Sub.sqL (Kp.er km0) (by rw [er_more hp]; exact hse), (ha.more hp).k km0⟩ (fun i σ H' _ ⟨_, _, _, _, _, _, _, _, _, q, _⟩ => (er_sub _ _).sqL q) ?_ ?_⟩
    · rintro i y σ H' hi ⟨u, vs, cs, rfl, f3, h3p, hds, hcl, hco, hsx, hdx⟩
      have c3 : Cb (p :: M) b l H' := (cb.fr f3).more ⟨_, h3p⟩
      obtain ⟨d, hd, hy⟩ := hdx.get' hi
      rw [List.getElem?_map] at hd
      obtain ⟨z, hz, rfl⟩ := Option.map_eq_some_iff.mp hd
      cases Dm.strAt hy
      refine ⟨_, rfl, .inl ⟨rfl, _, SqL.of h3p⟩, ?_⟩
      have e1 : EvD K (p :: M) (tVar 2) ([some (V.ref b), some (V.str x), some (V.ref a), some (V.ref p), some (V.str z), none] : L2.St) H' (.list (ws.map PyData.str)) := evd_var rfl (.lst hsx hdx)
      refine (evd_lc (g := fun d => cpD (z, unS d)) c3.kn e1 (by rw [List.length_map]; omega) (fun _ => rfl) ?_) H' (Sub.refl _) _ fun q xs4 H4 s4 hq h4q h4 => ?_
      · intro Dl hD d x H5 s5 n5 hd5 hx5
        obtain ⟨z5, _, rfl⟩ := List.mem_map.mp hd5
        cases Dm.strAt hx5
        exact evd_tup n5 (evds_cons (evd_var rfl (.str z)) (evds_cons (evd_var rfl (.str z5)) evds_nil)) lt2
      have f4 : Fr b l H' H4 := Fr.sub c3.bag s4
      have h4p := s4 _ _ h3p
      have c4 := c3.fr f4
      rw [List.map_map] at h4
      have l1 := hds.len
      have l2 := h4.len
      rw [List.length_map] at l1 l2
      have hi4 := (List.getElem?_eq_some_iff.mp hi).1
      have hcl' : cs.length < 100 := by
        rw [hcl]
        have := Nat.mul_le_mul (show i ≤ 3 by omega) (show ws.length ≤ 3 by omega)
        omega
      refine ⟨p, q, vs, xs4, rfl, rfl, h4p, h4q, Nat.le_of_lt (szl (by omega)), ?_⟩
      have km {o : HO} : Kp (p :: M) H4 (upd H4 p o) := Kp.mut List.mem_cons_self
      have h4' : Dms K (p :: M) H4 xs4 ((ws.map fun z5 => (z, z5)).map cpD) := by
        rw [List.map_map]
        exact h4.less fun a h => List.mem_cons_of_mem _ h
      refine ⟨_, _, cs ++ ws.map (fun z5 => (z, z5)), rfl, (f3.trans f4).mut cb.bag hp0, upd_same, ?_, ?_, ?_, Sub.sqL ((Kp.trans (f4.kp c3.mem) km).er) hsx, ((hdx.f f4 c3.mem).k km)⟩
      · rw [List.map_append]
        exact Dms.k ((hds.f f4 c3.mem).app h4') km
      · rw [List.length_append, hcl, List.length_map, Nat.succ_mul]
      · intro c hc
        rcases List.mem_append.mp hc with hc | hc
        · exact hco c hc
        · obtain ⟨z5, hz5, rfl⟩ := List.mem_map.mp hc
          exact ⟨wOk z (List.mem_of_getElem? hz), wOk z5 hz5⟩
    · rintro σ H' ⟨u, vs, cs, rfl, f3, h3p, hds, hcl, hco, hsx, hdx⟩
      refine ⟨_, rfl, ?_⟩
      refine k _ cs H' f3 ?_ ?_ hco (Dm.lstOf (cb.kn.out hp0) h3p hds)
      · rw [hcl]
        exact Nat.mul_pos (by omega) w0
      · rw [hcl]
        have := Nat.mul_le_mul (show xs.length ≤ 3 by omega) (show ws.length ≤ 3 by omega)
        omega
end
end KZ

namespace KZ
open PySem PySem.Spec PyProof.Rows L2
section
variable {K : PySem.W.Frag} {M : List Addr} {σ : L2.St} {H H' : Hp} {te : TE} {tr : TA} {b l : Addr}
theorem lcR_bag {vs : List Nat} {j : Nat} {m : Int} (P : PyData → Prop) (cb : Cb M b l H) (h : EvDs K M tr σ H [.int m]) (h0 : 0 ≤ m) (hz : m < 100000) (hw : ∀ x, wipe ((wipe σ vs).set j (some x)) vs = wipe σ vs)
    (he : ∀ (Dl : Addr), H Dl = none → ∀ (i : Nat) (H1 : Hp), Fr b l H H1 → Cb (Dl :: M) b l H1 → (i : Int) < m → ∀ Q : VK, (∀ y d H2, Fr b l H1 H2 → P d → Dm K (Dl :: M) H2 y d → Q y H2) → te ((wipe σ vs).set j (some (.int (i : Int)))) H1 Q)
    (Q : VK) (q : ∀ p xs ds H', Fr b l H H' → H p = none → H' p = some (.lst xs) → Dms K (p :: M) H' xs ds → ds.length = m.toNat → (∀ d ∈ ds, P d) → Q (.ref p) H') : tLc (iRng1 tr) (gName j) tYes te vs σ H Q :=
  h H (Sub.refl _) _ fun us H2 s2 hv => by
    cases hv with
    | cons hv1 hv2 =>
    cases hv2
    cases hv1
    have f2 : Fr b l H H2 := Fr.sub cb.bag s2
    refine ⟨m, rfl, by omega, by omega, fun Dl hD => ?_⟩
    have h0D : H Dl = none := s2.free hD
    have pb := ne_new cb.bag.at h0D
    refine lc_range (lo := 0) (n := m.toNat) (fun i H' => Fr b l H H' ∧ ∃ acc ds, H' Dl = some (.lst acc) ∧ Dms K (Dl :: M) H' acc ds ∧ ds.length = i ∧ ∀ d ∈ ds, P d)
      ⟨f2.mut cb.bag h0D, [], [], upd_same, .nil, rfl, by simp⟩ (fun i H' hi p => ?_) (fun H' p => ?_)
    · obtain ⟨fp, acc, ds, p1, p2, p3, p4⟩ := p
      have c3 : Cb (Dl :: M) b l H' := (cb.fr fp).more ⟨_, p1⟩
      rw [show (0 : Int) + (i : Nat) = (i : Int) by omega]
      refine ⟨hw _, ?_⟩
      unfold tYes
      dsimp only
      rw [if_pos rfl]
      refine he Dl h0D i H' fp c3 (by omega) _ fun y d H3 f3 pd hy => ⟨acc, f3.k Dl _ (by simp [pb]) p1, ?_, ?_⟩
      · have q1 := p2.len
        exact szl (by omega)
      · have km : Kp (Dl :: M) H3 (upd H3 Dl (.lst (acc ++ [y]))) := Kp.mut List.mem_cons_self
        refine ⟨(fp.trans f3).mut cb.bag h0D, _, ds ++ [d], upd_same, Dms.k ((p2.f f3 c3.mem).app (DpAll.one hy)) km, by rw [List.length_append, p3] <;> rfl, ?_⟩
        intro e he
        rcases List.mem_append.mp he with he | he
        · exact p4 e he
        · rw [List.mem_singleton.mp he]
          exact pd
    · obtain ⟨fp, acc, ds, p1, p2, p3, p4⟩ := p
      exact q Dl acc ds H' fp h0D p1 p2 p3 p4
end
theorem args1 {te : TE} {σ : L2.St} {H : Hp} {Q : List V → Hp → Prop} (h : te σ H fun v H1 => Q [v] H1) : tCons te tNil σ H Q := h
theorem cb_args {r : List V → Hp → VK → Prop} {te : TE} {σ : L2.St} {H : Hp} {Q : VK} (h : te σ H fun v H1 => r [v] H1 Q) : tCB r (tCons te tNil) σ H Q := h
abbrev Row := List Cp
abbrev Tab := List Row
abbrev Jud := List Tab
def rowD (r : Row) : PyData := .tuple (r.map cpD)
def tabD (t : Tab) : PyData := .tuple (t.map rowD)
def judD (j : Jud) : PyData := .tuple (j.map tabD)
def RowOk (n : Nat) (r : Row) : Prop := r.length = n ∧ ∀ c ∈ r, CpOk c
def TabOk (n : Nat) (t : Tab) : Prop := t.length = n ∧ ∀ r ∈ t, RowOk n r
def JudOk (n m : Nat) (j : Jud) : Prop := j.length = m ∧ ∀ t ∈ j, TabOk n t
theorem cps_of {ds : List PyData} (h : ∀ d ∈ ds, ∃ c, CpOk c ∧ d = cpD c) : ∃ r : Row, ds = r.map cpD ∧ ∀ c ∈ r, CpOk c := by
  induction ds with
  | nil => exact ⟨[], rfl, by simp⟩
  | cons d ds ih =>
    obtain ⟨r, e, o⟩ := ih fun x hx => h x (List.mem_cons_of_mem _ hx)
    obtain ⟨c, oc, rfl⟩ := h d List.mem_cons_self
    exact ⟨c :: r, by rw [e] <;> rfl, fun x hx => (List.mem_cons.mp hx).elim (fun z => by rw [z]; exact oc) (o x)⟩
def spJudge (K : PySem.W.Frag) : Sp := fun vs H Q _ => ∃ (M : List Addr) (b l : Addr) (n m : Int) (x : Str), vs = [.ref b, .int n, .int m, .str x] ∧ Cb M b l H ∧ 0 ≤ n ∧ n < 1000 ∧ 0 ≤ m ∧ m < 1000 ∧
  ∀ (y : V) (j : Jud) (H' : Hp), Fr b l H H' → JudOk n.toNat m.toNat j → Dm K M H' y (judD j) → Q y H'
section
variable {P : Program} {w : World} {K : PySem.W.Frag} {mg : Str → Option Value} {base : Heap}
abbrev sJudge : Stmt := topS 19
theorem scJudge : FnScope ["bag", "kinds", "sorts", "style", "menu", "found", "sort", "rows", "asker", "holder"] ["bag", "kinds", "sorts", "style"] (defScope sJudge) := ⟨rfl, rfl, rfl, by decide +kernel, rfl, by decide +kernel, by decide +kernel⟩
theorem ok_judge {f fS fM : Addr} {fd fdS fdM : FuncData} (F : Fun K "_law_judge" "_law_judge" sJudge f fd) (T : Txt mg) 
    (CS : Cal P w K mg base "_law_some" 2 ["bag", "things"] (spSome K) fS fdS) (CM : Cal P w K mg base "_law_menu" 3 ["bag", "style"] (spMenu K) fM fdM) : FnOk P w K mg base CX0 4 f fd ["bag", "kinds", "sorts", "style"] (spJudge K) := by
  refine F.ok scJudge (fun vs H Q E h => ?_) (fun cdv A outer s H vs Q E hr h => ?_)
  · obtain ⟨M, b, l, n, m, x, rfl, _⟩ := h
    rfl
  · obtain ⟨M, b, l, n, m, x, rfl, cb, n0, n1, m0, m1, k⟩ := h
    have hr2 : Room 2 _ := hr.mono (by decide)
    refine ⟨_, pss_cons (ps_asg (pe_tup (pa_cons (pcl CM hr (pa_cons (pv 0) (pa_cons (pv 3) pa_nil))) (pa_cons (pe_lst pa_nil) pa_nil))) (pg_tup rfl (pgs_cons (pg_name (i := 4) scJudge.nd rfl (Or.inr rfl)) (pgs_cons (pg_name (i := 5) scJudge.nd rfl (Or.inl rfl)) pgs_nil))))
      (pss_cons (ps_for PassesOwn.never rfl (pi_range1 rfl T.range (pa_cons (pv 2) pa_nil)) (pg_name (i := 6) scJudge.nd rfl (Or.inl rfl))
        (pss_cons (ps_set (i := 7) scJudge.nd rfl (Or.inl rfl) (pe_lst pa_nil))
        (pss_cons (ps_for PassesOwn.never rfl (pi_range1 rfl T.range (pa_cons (pv 1) pa_nil)) (pg_name (i := 8) scJudge.nd rfl (Or.inl rfl))
          (pss_one (ps_expr (pe_bm PySem.F.plainAttrs_list PySem.F.slot_list_append PySem.F.type_list_append mt_append (pv 7)
            (pa_cons (pe_callTy call_tuple_of (by rfl) T.tuple bootTuple (pa_cons
              (pe_lc (own := [("holder", 9)]) (g := gName 9) (tt := tYes) rfl scJudge.nd (pi_range1 rfl T.range (pa_cons (pv 1) pa_nil)) (blkOk_by (N := ["bag", "kinds", "sorts", "style", "menu", "found", "sort", "rows", "asker", "holder"]) (sc := defScope sJudge) (by decide +kernel)) (fun _ _ _ _ _ => pg_name (i := 9) scJudge.nd rfl (Or.inl rfl)) (fun _ _ _ _ _ => pts_nil)
                (fun _ _ _ _ _ => pcl CS hr2 (pa_cons (pv 0) (pa_cons (pv 4) pa_nil)))) pa_nil)) pa_nil)))))
        (pss_one (ps_expr (pe_bm PySem.F.plainAttrs_list PySem.F.slot_list_append PySem.F.type_list_append mt_append (pv 5)
            (pa_cons (pe_callTy call_tuple_of (by rfl) T.tuple bootTuple (pa_cons (pv 7) pa_nil)) pa_nil)))))))
      (pss_one (ps_ret (pe_callTy call_tuple_of (by rfl) T.tuple bootTuple (pa_cons (pv 5) pa_nil))))), ?_⟩
    refine ⟨_, rfl, _, rfl, M, b, l, x, rfl, cb, fun vm cs H1 f1 c0 c1 cok hm => ⟨Nat.zero_le _, fun p hp => ⟨by show 2 ≤ sizeLine; decide, fun q hq => ?_⟩⟩⟩
    have hp0 : H p = none := f1.free cb.bag hp
    have pb := ne_new cb.bag.at hp0
    have npq : p ≠ q := ne_of_none upd_same hq
    have km1 {o : HO} : Kp (p :: M) H1 (upd H1 p o) := Kp.mut List.mem_cons_self
    refine ⟨q, _, rfl, SqT.of upd_same, rfl, _, _, rfl, _, _, rfl, rfl, ?_⟩
    have f2 : Fr b l H (upd (upd H1 p (.lst [])) q (.tup [vm, .ref p])) := (f1.mut cb.bag hp0).trans (Fr.new (f1.mut cb.bag hp0).bag hq)
    have hm2 : Dm K (p :: M) (upd (upd H1 p (.lst [])) q (.tup [vm, .ref p])) vm (.list (cs.map cpD)) := ((hm.more hp).k km1).s (Sub.new hq)
    refine ⟨_, rfl, m, rfl, by omega, by omega, for_range (lo := 0) (n := m.toNat) (fun i σ H' => ∃ (u6 u7 u8 : Option V) (vs : List V) (ts : Jud), σ = [some (.ref b), some (.int n), some (.int m), some (.str x), some vm, some (.ref p), u6, u7, u8, none] ∧ Fr b l H H' ∧ H' p = some (.lst vs) ∧ Dms K (p :: M) H' vs (ts.map tabD) ∧
        ts.length = i ∧ (∀ t ∈ ts, TabOk n.toNat t) ∧ Dm K (p :: M) H' vm (.list (cs.map cpD)))
      ⟨none, none, none, [], [], rfl, f2, by rw [upd_ne npq]; exact upd_same, .nil, rfl, by simp, hm2⟩ ?_ ?_⟩
    · rintro i σ H' hi ⟨u6, u7, u8, vs, ts, rfl, f3, h3p, hds, htl, hto, hm3⟩
      have c3 : Cb (p :: M) b l H' := (cb.fr f3).more ⟨_, h3p⟩
      -- rows = []
      refine ⟨Nat.zero_le _, fun r hr3 => ?_⟩
      have hr0 : H r = none := f3.free cb.bag hr3
      have rb := ne_new cb.bag.at hr0
      have nrp : p ≠ r := ne_of_none h3p hr3
      have km3 {o : HO} : Kp (r :: p :: M) H' (upd H' r o) := Kp.mut List.mem_cons_self
      refine ⟨_, rfl, n, rfl, by omega, by omega, for_range (lo := 0) (n := n.toNat) (fun i2 σ H4 => ∃ (u8 : Option V) (ws : List V) (rs : Tab), σ = [some (.ref b), some (.int n), some (.int m), some (.str x), some vm, some (.ref p), some (.int ((0 : Int) + (i : Nat))), some (.ref r), u8, none] ∧ Fr b l H' H4 ∧ H4 r = some (.lst ws) ∧ Dms K (r :: p :: M) H4 ws (rs.map rowD) ∧
          rs.length = i2 ∧ (∀ r ∈ rs, RowOk n.toNat r) ∧ H4 p = some (.lst vs) ∧ Dms K (r :: p :: M) H4 vs (ts.map tabD) ∧ Dm K (r :: p :: M) H4 vm (.list (cs.map cpD)))
        ⟨u8, [], [], rfl, Fr.new c3.bag hr3, upd_same, .nil, rfl, by simp, by rw [upd_ne nrp]; exact h3p, (hds.more hr3).k km3, (hm3.more hr3).k km3⟩ ?_ ?_⟩
      · rintro i2 σ H4 hi2 ⟨u8, ws, rs, rfl, f4, h4r, hws, hrl, hro, h4p, hds4, hm4⟩
        have c4 : Cb (r :: p :: M) b l H4 := (c3.fr f4).more ⟨_, h4r⟩
        refine ⟨_, rfl, .inl ⟨rfl, _, SqL.of h4r⟩, ?_⟩
        refine args1 (cb_args ?_)
        refine lcR_bag (K := K) (fun d => ∃ c, CpOk c ∧ d = cpD c) c4 (evds_cons (evd_var rfl (.int n)) evds_nil) n0 (by omega) (by intro z; rfl) ?_ _ ?_
        · intro Dl hD i3 H5 f5 c5 hi3 Q5 q5
          refine ⟨_, rfl, _, rfl, Dl :: r :: p :: M, b, l, vm, _, rfl, c5, .inl (((hm4.more hD)).f f5 c5.mem), by rw [List.length_map]; exact c0, by rw [List.length_map]; omega, fun y d H6 f6 hd hy => ?_⟩
          obtain ⟨c, hc, rfl⟩ := List.mem_map.mp hd
          exact q5 y _ H6 f6 ⟨c, cok c hc, rfl⟩ hy
        · intro t xs ds H5 f5 ht h5t hxs hdl hdo
          obtain ⟨row, rfl, hrok⟩ := cps_of hdo
          rw [List.length_map] at hdl
          refine ⟨t, xs, rfl, .inl ⟨SqL.of h5t, fun z hz => ?_⟩⟩
          have c5 := c4.fr f5
          have f6 : Fr b l H4 (upd H5 z (.tup xs)) := f5.trans (Fr.new f5.bag hz)
          have ht4 : H4 r = some (.lst ws) := h4r
          have h6r : upd H5 z (.tup xs) r = some (.lst ws) := f6.k r _ (by simp [rb]) h4r
          have h6p : upd H5 z (.tup xs) p = some (.lst vs) := f6.k p _ (by simp [pb]) h4p
          have hz6 : Dm K (r :: p :: M) (upd H5 z (.tup xs)) (.ref z) (rowD row) := Dm.tupNew c5.kn hz (hxs.less fun a h => List.mem_cons_of_mem _ h)
          have km6 {o : HO} : Kp (r :: p :: M) (upd H5 z (.tup xs)) (upd (upd H5 z (.tup xs)) r o) := Kp.mut List.mem_cons_self
          have hwl := hws.len
          rw [List.length_map] at hwl
          refine ⟨r, ws, _, rfl, rfl, h6r, szl (by omega), ?_⟩
          refine ⟨_, _, rs ++ [row], rfl, (f4.trans f6).mut c3.bag hr3, upd_same, ?_, by rw [List.length_append, hrl] <;> rfl, ?_, by rw [upd_ne nrp]; exact h6p, ((hds4.f f6 c4.mem).k km6), ((hm4.f f6 c4.mem).k km6)⟩
          · rw [List.map_append]
            exact Dms.k ((hws.f f6 c4.mem).app (DpAll.one hz6)) km6
          · intro e he
            rcases List.mem_append.mp he with he | he
            · exact hro e he
            · rw [List.mem_singleton.mp he]
              exact ⟨hdl, hrok⟩
      · rintro σ H4 ⟨u8, ws, rs, rfl, f4, h4r, hws, hrl, hro, h4p, hds4, hm4⟩
        have c4 : Cb (r :: p :: M) b l H4 := (c3.fr f4).more ⟨_, h4r⟩
        refine ⟨_, rfl, .inl ⟨rfl, _, SqL.of h4p⟩, _, rfl, r, ws, rfl, .inl ⟨SqL.of h4r, fun z hz => ?_⟩⟩
        have f5 : Fr b l H' (upd H4 z (.tup ws)) := f4.trans (Fr.new f4.bag hz)
        have h5p : upd H4 z (.tup ws) p = some (.lst vs) := f5.k p _ (by simp [pb]) h3p
        have c4' := c3.fr f4
        have hz5 : Dm K (p :: M) (upd H4 z (.tup ws)) (.ref z) (tabD rs) := Dm.tupNew c4'.kn hz (hws.less fun a h => List.mem_cons_of_mem _ h)
        have km5 {o : HO} : Kp (p :: M) (upd H4 z (.tup ws)) (upd (upd H4 z (.tup ws)) p o) := Kp.mut List.mem_cons_self
        have hvl := hds.len
        rw [List.length_map] at hvl
        refine ⟨p, vs, _, rfl, rfl, h5p, szl (by omega), ?_⟩
        refine ⟨_, _, _, _, ts ++ [rs], rfl, (f3.trans f5).mut cb.bag hp0, upd_same, ?_, by rw [List.length_append, htl] <;> rfl, ?_, ((hm3.f f5 c3.mem).k km5)⟩
        · rw [List.map_append]
          exact Dms.k ((hds.f f5 c3.mem).app (DpAll.one hz5)) km5
        · intro e he
          rcases List.mem_append.mp he with he | he
          · exact hto e he
          · rw [List.mem_singleton.mp he]
            exact ⟨hrl, hro⟩
    · rintro σ H' ⟨u6, u7, u8, vs, ts, rfl, f3, h3p, hds, htl, hto, hm3⟩
      refine ⟨_, rfl, p, vs, rfl, .inl ⟨SqL.of h3p, fun z hz => ?_⟩⟩
      exact k _ ts _ (f3.trans (Fr.new f3.bag hz)) ⟨htl, hto⟩ (Dm.tupNew (cb.fr f3).kn hz (hds.less fun a h => List.mem_cons_of_mem _ h))
end
end KZ

namespace KZ
open PySem PySem.Spec PyProof.Rows L2
theorem set_eq {α : Type} (d : α) : ∀ (ds : List α) (i : Nat), i < ds.length → ds.take i ++ [d] ++ ds.drop (i + 1) = ds.set i d
  | [], _, h => by simp at h
  | x :: xs, 0, _ => rfl
  | x :: xs, i + 1, h => by
    have q := set_eq d xs i (by simpa using h)
    show x :: (xs.take i ++ [d] ++ xs.drop (i + 1)) = x :: xs.set i d
    rw [q]
section
variable {K : PySem.W.Frag} {M : List Addr} {σ : L2.St} {H H' : Hp} {ta tb tx ti tj te : TE} {tr : TA} {d : PyData} {ds : List PyData} {i : Int}
theorem evd_put (n : Kn M H) (ha : EvD K M ta σ H (.tuple ds)) (hi : EvD K M ti σ H (.int i)) (hx : EvD K M tx σ H d) (hb : EvD K M tb σ H (.tuple ds)) (hj : EvD K M tj σ H (.int (i + 1))) (h0 : 0 ≤ i) (h1 : i < ds.length) (hz : ds.length < 100000) :
    EvD K M (tOp (rCatA K) (tOp (rCatA K) (tSl (rSlA K) ta tNoPart (tPart ti)) (tTup (tCons tx tNil))) (tSl (rSlA K) tb (tPart tj) tNoPart)) σ H (.tuple (ds.set i.toNat d)) := by
  have e1 := evd_slT n ha evo_none (evo_some hi)
  have e2 := evd_slT n hb (evo_some hj) evo_none
  rw [cutD_to h0 (by omega)] at e1
  rw [cutD_from (by omega) (by omega)] at e2
  have e3 := evd_catT n (evd_catT n e1 (evd_tup n (evds_cons hx evds_nil) lt1) (by rw [List.length_take]; simp; omega)) e2 (by rw [List.length_append, List.length_take, List.length_drop]; simp; omega)
  rw [show (i + 1).toNat = i.toNat + 1 by omega, set_eq d ds i.toNat (by omega)] at e3
  exact e3
theorem evd_add {j : Int} (ha : EvD K M ta σ H (.int i)) (hb : EvD K M tb σ H (.int j)) : EvD K M (tOp (rI0 fun i j => .int (i + j)) ta tb) σ H (.int (i + j)) := fun H1 s Q q =>
  ha H1 s _ fun v H2 s2 hv => hb H2 (s.trans s2) _ fun u H3 s3 hu => by
    cases hv.intAt
    cases hu.intAt
    exact ⟨i, j, rfl, rfl, q _ H3 (s2.trans s3) (.int _)⟩
/-- a call of a def without a bag, by the data of its arguments -/
def SpD (K : PySem.W.Frag) (M : List Addr) (sp : Sp) (H : Hp) (ds : List PyData) (d : PyData) : Prop := ∀ (vs : List V) (H1 : Hp) (Q : VK) (E : XK), Sub H H1 → Dms K M H1 vs ds → (∀ v H', Sub H1 H' → Dm K M H' v d → Q v H') → sp vs H1 Q E
theorem evd_call {sp : Sp} {E : XK} (h : EvDs K M tr σ H ds) (hs : SpD K M sp H ds d) : EvD K M (tCall sp [] E tr) σ H d := fun H1 s Q q =>
  h H1 s _ fun vs H2 s2 hd => by
    rw [List.append_nil]
    exact hs vs H2 Q E (s.trans s2) hd fun v H' s3 hv => q v H' (s2.trans s3) hv
end

theorem Dm.threeT {K : PySem.W.Frag} {M : List Addr} {H : Hp} {v : V} {d e f : PyData} (h : Dm K M H v (.tuple [d, e, f])) : ∃ a v1 v2 v3, v = .ref a ∧ SqT K H a [v1, v2, v3] ∧ Dm K M H v1 d ∧ Dm K M H v2 e ∧ Dm K M H v3 f := by
  obtain ⟨a, xs, rfl, hs, ha⟩ := h.tupAt
  obtain ⟨v1, v2, v3, rfl, h1, h2, h3⟩ := Dms.three_at ha
  exact ⟨a, v1, v2, v3, rfl, hs, h1, h2, h3⟩
end KZ

namespace KZ
open PySem PySem.Spec PyProof.Rows L2
structure Hou where
  ks : List Kd
  ss : List Str
  j : Jud
def houD (h : Hou) : PyData := .tuple [.tuple (h.ks.map kdD), .tuple (h.ss.map PyData.str), judD h.j]
structure HouOk (h : Hou) : Prop where
  k0 : 0 < h.ks.length
  k1 : h.ks.length < 10
  ks : KdsOk h.ks
  s0 : 0 < h.ss.length
  s1 : h.ss.length < 10
  sn : ∀ n ∈ h.ss, n ∈ Names
  sd : h.ss.Nodup
  j : JudOk h.ks.length h.ss.length h.j
theorem mem_set {α : Type} {l : List α} {i : Nat} {x y : α} (h : y ∈ l.set i x) : y ∈ l ∨ y = x := by
  rcases List.mem_or_eq_of_mem_set h with h | h
  · exact .inl h
  · exact .inr h
theorem jud_put {n m : Nat} {j : Jud} {s a h : Nat} {c : Cp} {t : Tab} {r : Row} (ok : JudOk n m j) (et : j[s]? = some t) (er : t[a]? = some r) (oc : CpOk c) : JudOk n m (j.set s (t.set a (r.set h c))) := by
  have ot := ok.2 t (List.mem_of_getElem? et)
  have or_ := ot.2 r (List.mem_of_getElem? er)
  refine ⟨by rw [List.length_set]; exact ok.1, fun t' ht' => ?_⟩
  rcases mem_set ht' with q | q
  · exact ok.2 t' q
  · rw [q]
    refine ⟨by rw [List.length_set]; exact ot.1, fun r' hr' => ?_⟩
    rcases mem_set hr' with q | q
    · exact ot.2 r' q
    · rw [q]
      refine ⟨by rw [List.length_set]; exact or_.1, fun c' hc' => ?_⟩
      rcases mem_set hc' with q | q
      · exact or_.2 c' q
      · rw [q]
        exact oc
def spPut (K : PySem.W.Frag) : Sp := fun vs H Q _ => ∃ (M : List Addr) (n m : Nat) (j : Jud) (s a h : Int) (c : Cp) (vj vc : V), vs = [vj, .int s, .int a, .int h, vc] ∧ Kn M H ∧ Dm K M H vj (judD j) ∧ JudOk n m j ∧ (0 ≤ s ∧ s < m) ∧ (0 ≤ a ∧ a < n) ∧ (0 ≤ h ∧ h < n) ∧ n < 1000 ∧ m < 1000 ∧ Dm K M H vc (cpD c) ∧ CpOk c ∧
  ∀ (y : V) (j' : Jud) (H' : Hp), Sub H H' → JudOk n m j' → Dm K M H' y (judD j') → Q y H'
section
variable {P : Program} {w : World} {K : PySem.W.Frag} {mg : Str → Option Value} {base : Heap}
abbrev sPut : Stmt := topS 20
theorem scPut : FnScope ["judge", "sort", "asker", "holder", "couple", "rows", "row"] ["judge", "sort", "asker", "holder", "couple"] (defScope sPut) := ⟨rfl, rfl, rfl, by decide +kernel, rfl, by decide +kernel, by decide +kernel⟩
theorem ok_put {f : Addr} {fd : FuncData} (F : Fun K "_law_put" "_law_put" sPut f fd) : FnOk P w K mg base CX0 1 f fd ["judge", "sort", "asker", "holder", "couple"] (spPut K) := by
  refine F.ok scPut (fun vs H Q E h => ?_) (fun cdv A outer s H vs Q E hr h => ?_)
  · obtain ⟨M, n, m, j, s, a, h, c, vj, vc, rfl, _⟩ := h
    rfl
  · obtain ⟨M, n, m, j, s, a, h, c, vj, vc, rfl, kn, hj, ok, ⟨s0, s1⟩, ⟨a0, a1⟩, ⟨h0, h1⟩, nz, mz, hc, oc, k⟩ := h
    refine ⟨_, pss_cons (ps_set (i := 5) scPut.nd rfl (Or.inl rfl) (pe_ix ix_tup (pv 0) (pv 1) (fun _ _ => rfl)))
      (pss_cons (ps_set (i := 6) scPut.nd rfl (Or.inl rfl) (pe_op op_catA (pe_op op_catA (pe_slice sl_tupA (pe_ix ix_tup (pv 5) (pv 2) (fun _ _ => rfl)) po_none (po_some (pv 3))) (pe_tup (pa_cons (pv 4) pa_nil)))
        (pe_slice sl_tupA (pe_ix ix_tup (pv 5) (pv 2) (fun _ _ => rfl)) (po_some (pe_op op_add (pv 3) pe_int)) po_none)))
      (pss_one (ps_ret (pe_op op_catA (pe_op op_catA (pe_slice sl_tupA (pv 0) po_none (po_some (pv 1)))
        (pe_tup (pa_cons (pe_op op_catA (pe_op op_catA (pe_slice sl_tupA (pv 5) po_none (po_some (pv 2))) (pe_tup (pa_cons (pv 6) pa_nil))) (pe_slice sl_tupA (pv 5) (po_some (pe_op op_add (pv 2) pe_int)) po_none)) pa_nil)))
        (pe_slice sl_tupA (pv 0) (po_some (pe_op op_add (pv 1) pe_int)) po_none))))), ?_⟩
    have hjl := ok.1
    have et : j[s.toNat]? = some (j[s.toNat]'(by omega)) := List.getElem?_eq_getElem _
    generalize ht : j[s.toNat]'(by omega) = t at et
    have ot := ok.2 t (List.mem_of_getElem? et)
    have htl := ot.1
    have er : t[a.toNat]? = some (t[a.toNat]'(by omega)) := List.getElem?_eq_getElem _
    generalize hr' : t[a.toNat]'(by omega) = r at er
    have hrl := (ot.2 r (List.mem_of_getElem? er)).1
    have i1 {σ : L2.St} {H : Hp} (g : σ[1]? = some (some (V.int s))) : EvD K M (tVar 1) σ H (.int s) := evd_var g (.int s)
    have i2 {σ : L2.St} {H : Hp} (g : σ[2]? = some (some (V.int a))) : EvD K M (tVar 2) σ H (.int a) := evd_var g (.int a)
    have i3 {σ : L2.St} {H : Hp} (g : σ[3]? = some (some (V.int h))) : EvD K M (tVar 3) σ H (.int h) := evd_var g (.int h)
    refine evd_sset (K := K) (M := M) (d := tabD t) (evd_ixT (evd_var rfl hj) (i1 rfl) s0 (by rw [List.getElem?_map, et] <;> rfl)) fun v5 H1 s1' h5 => ?_
    have hj1 := Dm.s hj s1'
    have hc1 := Dm.s hc s1'
    have n1 := kn.sub s1'
    have erow {σ : L2.St} (g : σ[5]? = some (some v5)) (g2 : σ[2]? = some (some (V.int a))) : EvD K M (tOp (rIxT K) (tVar 5) (tVar 2)) σ H1 (.tuple (r.map cpD)) := evd_ixT (evd_var g h5) (i2 g2) a0 (by rw [List.getElem?_map, er] <;> rfl)
    refine evd_sset (K := K) (M := M) (d := rowD (r.set h.toNat c)) ?_ fun v6 H2 s2 h6 => ?_
    · have q := evd_put n1 (erow rfl rfl) (i3 rfl) (evd_var (i := 4) rfl hc1) (erow rfl rfl) (evd_add (i3 rfl) evd_int) h0 (by rw [List.length_map]; omega) (by rw [List.length_map]; omega) (σ := [some vj, some (V.int s), some (V.int a), some (V.int h), some vc, some v5, none])
      rw [← List.map_set] at q
      exact q
    have n2 := n1.sub s2
    have hj2 := Dm.s hj1 s2
    have h52 := Dm.s h5 s2
    refine evd_ret (K := K) (M := M) (d := judD (j.set s.toNat (t.set a.toNat (r.set h.toNat c)))) ?_ fun y H3 s3 hy => k y _ H3 ((s1'.trans s2).trans s3) (jud_put ok et er oc) hy
    have q1 := evd_put n2 (evd_var (i := 5) rfl h52) (i2 rfl) (evd_var (i := 6) rfl h6) (evd_var (i := 5) rfl h52) (evd_add (i2 rfl) evd_int) a0 (by rw [List.length_map]; omega) (by rw [List.length_map]; omega) (σ := [some vj, some (V.int s), some (V.int a), some (V.int h), some vc, some v5, some v6])
    rw [← List.map_set] at q1
    have q2 := evd_put n2 (evd_var (i := 0) rfl hj2) (i1 rfl) q1 (evd_var (i := 0) rfl hj2) (evd_add (i1 rfl) evd_int) s0 (by rw [List.length_map]; omega) (by rw [List.length_map]; omega)
    rw [show PyData.tuple (List.map rowD (t.set a.toNat (r.set h.toNat c))) = tabD (t.set a.toNat (r.set h.toNat c)) from rfl, ← List.map_set] at q2
    exact q2
end
end KZ

namespace KZ
open PySem PySem.Spec PyProof.Rows L2
theorem kds_flip {ks : List Kd} (ok : KdsOk ks) {i : Nat} {k : Kd} (e : ks[i]? = some k) (b : Bool) : KdsOk (ks.set i (k.1, b, k.2.2)) := by
  have em : (ks.set i (k.1, b, k.2.2)).map (·.1) = ks.map (·.1) := by
    rw [List.map_set]
    have e2 : (ks.map (·.1))[i]? = some k.1 := by rw [List.getElem?_map, e] <;> rfl
    refine List.ext_getElem? fun j => ?_
    rw [List.getElem?_set]
    by_cases z : i = j
    · subst z
      have hi : i < (ks.map (·.1)).length := (List.getElem?_eq_some_iff.mp e2).1
      rw [if_pos rfl, if_pos hi, e2]
    · rw [if_neg z]
  refine ⟨fun k' hk' => ?_, by rw [em]; exact ok.nd, fun j k' ej => ?_⟩
  · rcases mem_set hk' with q | q
    · exact ok.name k' q
    · rw [q]
      exact ok.name k (List.mem_of_getElem? e)
  · rw [List.length_set]
    rw [List.getElem?_set] at ej
    by_cases z : i = j
    · rw [if_pos z] at ej
      split at ej
      · cases Option.some.inj ej
        subst z
        exact ok.rise i k e
      · cases ej
    · rw [if_neg z] at ej
      exact ok.rise j k' ej
def spSpoilt (K : PySem.W.Frag) : Sp := fun vs H Q _ => ∃ (M : List Addr) (b l : Addr) (v : V) (h : Hou), vs = [.ref b, v] ∧ Cb M b l H ∧ Dm K M H v (houD h) ∧ HouOk h ∧
  ∀ (y : V) (h' : Hou) (H' : Hp), Fr b l H H' → HouOk h' → h'.ks.length = h.ks.length → h'.ss.length = h.ss.length → Dm K M H' y (houD h') → Q y H'
section
variable {P : Program} {w : World} {K : PySem.W.Frag} {mg : Str → Option Value} {base : Heap}
abbrev sSpoilt : Stmt := topS 21
theorem scSpoilt : FnScope ["bag", "house", "kinds", "sorts", "judge", "turn", "couple", "places", "k"] ["bag", "house"] (defScope sSpoilt) := ⟨rfl, rfl, rfl, by decide +kernel, rfl, by decide +kernel, by decide +kernel⟩
theorem wordsD {d : PyData} (h : d ∈ [PyData.str "wait", PyData.str "yield", PyData.str "oust"]) : ∃ x, x ∈ Words ∧ d = .str x := by
  simp only [List.mem_cons, List.not_mem_nil, or_false] at h
  unfold Words
  rcases h with h | h | h
  · exact ⟨_, by simp, h⟩
  · exact ⟨_, by simp, h⟩
  · exact ⟨_, by simp, h⟩
theorem tup_of {tr : TA} {σ : L2.St} {H : Hp} {Q : VK} (h : tr σ H fun xs H1 => xs.length ≤ sizeLine ∧ ∀ p, H1 p = none → Q (.ref p) (upd H1 p (.tup xs))) : tTup tr σ H Q := h
theorem cons_of {te : TE} {tr : TA} {σ : L2.St} {H : Hp} {Q : List V → Hp → Prop} (h : te σ H fun x H1 => tr σ H1 fun xs H2 => Q (x :: xs) H2) : tCons te tr σ H Q := h
section
variable {M : List Addr} {b l : Addr} {σ : L2.St} {H : Hp} {Q : VK} {E : XK}
theorem some_words (cb : Cb M b l H) (h0 : σ[0]? = some (some (.ref b))) (q : ∀ y x H', Fr b l H H' → x ∈ Words → Dm K M H' y (.str x) → Q y H') :
    tCall (spSome K) [] E (tCons (tVar 0) (tCons (tLst (tCons (tC (.str "wait")) (tCons (tC (.str "yield")) (tCons (tC (.str "oust")) tNil)))) tNil)) σ H Q := by
  refine evb_call (K := K) (M := M) h0 (evds_cons (evd_lst cb.kn (evds_cons evd_str (evds_cons evd_str (evds_cons evd_str evds_nil))) lt3) evds_nil) fun vs H1 s1 h1 => ?_
  obtain ⟨v, rfl, h1'⟩ := Dms.one_at h1
  have f1 : Fr b l H H1 := Fr.sub cb.bag s1
  refine ⟨M, b, l, v, _, rfl, cb.fr f1, .inl h1', by decide, by decide, fun y d H' f2 hd hy => ?_⟩
  obtain ⟨x, hx, rfl⟩ := wordsD hd
  exact q y x H' (f1.trans f2) hx hy
theorem take_lit {n : Int} (cb : Cb M b l H) (h0 : σ[0]? = some (some (.ref b))) (hn : 0 < n) (hz : n < 1000000) (q : ∀ (j : Int) (H' : Hp), Fr b l H H' → 0 ≤ j → j < n → Q (.int j) H') : tCall spTake [] E (tCons (tVar 0) (tCons (tC (.int n)) tNil)) σ H Q :=
  ⟨_, h0, b, l, n, rfl, cb.bag, hn, by omega, fun j H' f j0 j1 => q j H' f j0 j1⟩
theorem take_len {i : Nat} {v : V} {ds : List PyData} (cb : Cb M b l H) (h0 : σ[0]? = some (some (.ref b))) (hi : σ[i]? = some (some v)) (hv : Its K M H v ds) (d0 : 0 < ds.length) (d1 : ds.length < 1000000)
    (q : ∀ (j : Int) (H' : Hp), Fr b l H H' → 0 ≤ j → j < ds.length → Q (.int j) H') :
    tCall spTake [] E (tCons (tVar 0) (tCons (tCB (fun xs H Q => ∃ p ys, xs = [.ref p] ∧ (SqL K H p ys ∨ SqT K H p ys) ∧ Q (.int ys.length) H) (tCons (tVar i) tNil)) tNil)) σ H Q := by
  obtain ⟨a, xs, rfl, hs, ha⟩ := hv.at
  have hl := ha.len
  exact ⟨_, h0, _, hi, a, xs, rfl, hs, b, l, _, rfl, cb.bag, by omega, by omega, fun j H' f j0 j1 => q j H' f j0 (by omega)⟩
theorem evd_not {b : Bool} {te : TE} (h : EvD K M te σ H (.bool b)) : EvD K M (tNotV te) σ H (.bool (!b)) := fun H1 s Q q => h H1 s _ fun v H2 s2 hv => by
  cases hv.blAt
  exact ⟨b, rfl, q _ H2 s2 (.bl _)⟩
end
theorem ok_spoilt {f fT fS fP : Addr} {fd fdT fdS fdP : FuncData} (F : Fun K "_law_spoilt_house" "_law_spoilt_house" sSpoilt f fd) (T : Txt mg) (CT : Cal P w K mg base "_law_take" 1 ["bag", "upto"] spTake fT fdT)
    (CS : Cal P w K mg base "_law_some" 2 ["bag", "things"] (spSome K) fS fdS) (CP : Cal P w K mg base "_law_put" 1 ["judge", "sort", "asker", "holder", "couple"] (spPut K) fP fdP) : FnOk P w K mg base CX0 3 f fd ["bag", "house"] (spSpoilt K) := by
  refine F.ok scSpoilt (fun vs H Q E h => ?_) (fun cdv A outer s H vs Q E hr h => ?_)
  · obtain ⟨M, b, l, v, h, rfl, _⟩ := h
    rfl
  · obtain ⟨M, b, l, v, ho, rfl, cb, hv, ok, k⟩ := h
    have hr1 : Room 1 _ := hr.mono (by decide)
    refine ⟨_, pss_cons (ps_asg (pv 1) (pg_tup rfl (pgs_cons (pg_name (i := 2) scSpoilt.nd rfl (Or.inl rfl)) (pgs_cons (pg_name (i := 3) scSpoilt.nd rfl (Or.inl rfl)) (pgs_cons (pg_name (i := 4) scSpoilt.nd rfl (Or.inl rfl)) pgs_nil)))))
      (pss_cons (ps_for PassesOwn.never rfl (pi_range1 rfl T.range (pa_cons (pe_op op_add pe_int (pcl CT hr1 (pa_cons (pv 0) (pa_cons pe_int pa_nil)))) pa_nil)) (pg_name (i := 5) scSpoilt.nd rfl (Or.inl rfl))
        (pss_cons (ps_set (i := 6) scSpoilt.nd rfl (Or.inl rfl) (pe_tup (pa_cons (pcl CS hr (pa_cons (pv 0) (pa_cons (pe_lst (pa_cons pe_str (pa_cons pe_str (pa_cons pe_str pa_nil)))) pa_nil))) (pa_cons (pcl CS hr (pa_cons (pv 0) (pa_cons (pe_lst (pa_cons pe_str (pa_cons pe_str (pa_cons pe_str pa_nil)))) pa_nil))) pa_nil))))
        (pss_cons (ps_set (i := 7) scSpoilt.nd rfl (Or.inl rfl) (pe_tup (pa_cons (pcl CT hr1 (pa_cons (pv 0) (pa_cons (pe_callB call_len_seq (by rfl) T.len PySem.boot_len (pa_cons (pv 3) pa_nil)) pa_nil))) (pa_cons (pcl CT hr1 (pa_cons (pv 0) (pa_cons (pe_callB call_len_seq (by rfl) T.len PySem.boot_len (pa_cons (pv 2) pa_nil)) pa_nil)))
          (pa_cons (pcl CT hr1 (pa_cons (pv 0) (pa_cons (pe_callB call_len_seq (by rfl) T.len PySem.boot_len (pa_cons (pv 2) pa_nil)) pa_nil))) pa_nil)))))
        (pss_one (ps_set (i := 4) scSpoilt.nd rfl (Or.inl rfl) (pcl CP hr1 (pa_cons (pv 4) (pa_cons (pe_ix ix_tup (pv 7) pe_int (fun _ _ => rfl)) (pa_cons (pe_ix ix_tup (pv 7) pe_int (fun _ _ => rfl)) (pa_cons (pe_ix ix_tup (pv 7) pe_int (fun _ _ => rfl)) (pa_cons (pv 6) pa_nil)))))))))))
      (pss_cons (ps_set (i := 8) scSpoilt.nd rfl (Or.inl rfl) (pcl CT hr1 (pa_cons (pv 0) (pa_cons (pe_callB call_len_seq (by rfl) T.len PySem.boot_len (pa_cons (pv 2) pa_nil)) pa_nil))))
      (Evl.pss_cut (ps_if (pt_cmpR op_eq (pcl CT hr1 (pa_cons (pv 0) (pa_cons pe_int pa_nil))) pe_int (nomark _)) (pss_one (ps_set (i := 2) scSpoilt.nd rfl (Or.inl rfl)
        (pe_op op_catA (pe_op op_catA (pe_slice sl_tupA (pv 2) po_none (po_some (pv 8))) (pe_tup (pa_cons (pe_tup (pa_cons (pe_ix ix_tup (pe_ix ix_tup (pv 2) (pv 8) (fun _ _ => rfl)) pe_int (fun _ _ => rfl))
          (pa_cons (pe_not (pe_ix ix_tup (pe_ix ix_tup (pv 2) (pv 8) (fun _ _ => rfl)) pe_int (fun _ _ => rfl))) (pa_cons (pe_ix ix_tup (pe_ix ix_tup (pv 2) (pv 8) (fun _ _ => rfl)) pe_int (fun _ _ => rfl)) pa_nil)))) pa_nil))) (pe_slice sl_tupA (pv 2) (po_some (pe_op op_add (pv 8) pe_int)) po_none)))) pss_nil)
      (pss_one (ps_ret (pe_tup (pa_cons (pv 2) (pa_cons (pv 3) (pa_cons (pv 4) pa_nil))))))))), ?_⟩
    obtain ⟨a, v0, v1, v2, rfl, hs, h0, h1, h2⟩ := hv.threeT
    refine ⟨_, rfl, a, _, rfl, hs, rfl, _, _, rfl, _, _, rfl, _, _, rfl, rfl, ?_⟩
    have kl : (ho.ks.map kdD).length = ho.ks.length := List.length_map _
    have sl : (ho.ss.map PyData.str).length = ho.ss.length := List.length_map _
    have ok0 := ok.k0
    have ok1 := ok.k1
    have os0 := ok.s0
    have os1 := ok.s1
    refine ⟨_, rfl, b, l, _, rfl, cb.bag, by decide, by decide, fun i H1 f1 i0 i1 => ⟨_, _, rfl, rfl, _, rfl, by omega, by omega, for_range (lo := 0) (n := (1 + i).toNat) (fun _ σ H' => ∃ (u5 u6 u7 : Option V) (vj : V) (j : Jud), σ = [some (.ref b), some (.ref a), some v0, some v1, some vj, u5, u6, u7, none] ∧ Fr b l H H' ∧ Dm K M H' vj (judD j) ∧ JudOk ho.ks.length ho.ss.length j)
      ⟨none, none, none, v2, ho.j, rfl, f1, Dm.f h2 f1 cb.mem, ok.j⟩ ?_ ?_⟩⟩
    · rintro i' σ H' hi ⟨u5, u6, u7, vj, j, rfl, f2, hj, oj⟩
      have c2 := cb.fr f2
      refine sset_of (tup_of (cons_of (some_words c2 rfl fun y x H3 f3 hx hy => cons_of (some_words (c2.fr f3) rfl fun y2 x2 H4 f4 hx2 hy2 => ⟨by show 2 ≤ sizeLine; decide, fun p hp => ?_⟩))))
      have c4 := (c2.fr f3).fr f4
      have f5 : Fr b l H' (upd H4 p (.tup [y, y2])) := (f3.trans f4).trans (Fr.new c4.bag hp)
      have hc5 : Dm K M (upd H4 p (.tup [y, y2])) (.ref p) (cpD (x, x2)) := Dm.tupNew c4.kn hp (.cons (Dm.f hy f4 cb.mem) (.cons hy2 .nil))
      have f25 := f2.trans f5
      have c5 := c2.fr f5
      refine sset_of (tup_of (cons_of (take_len c5 rfl (i := 3) rfl (.inr (Dm.f h1 f25 cb.mem)) (by omega) (by omega) fun s6 H6 f6 s60 s61 => cons_of (take_len (c5.fr f6) rfl (i := 2) rfl (.inr (Dm.f (Dm.f h0 f25 cb.mem) f6 cb.mem)) (by omega) (by omega) fun a7 H7 f7 a70 a71 =>
        cons_of (take_len ((c5.fr f6).fr f7) rfl (i := 2) rfl (.inr (Dm.f (Dm.f (Dm.f h0 f25 cb.mem) f6 cb.mem) f7 cb.mem)) (by omega) (by omega) fun h8 H8 f8 h80 h81 => ⟨by show 3 ≤ sizeLine; decide, fun q hq => ?_⟩)))))
      have f68 := (f6.trans f7).trans f8
      have c8 := c5.fr f68
      have f9 : Fr b l (upd H4 p (.tup [y, y2])) (upd H8 q (.tup [.int s6, .int a7, .int h8])) := f68.trans (Fr.new c8.bag hq)
      have hq9 : Dm K M (upd H8 q (.tup [.int s6, .int a7, .int h8])) (.ref q) (.tuple [.int s6, .int a7, .int h8]) := Dm.tupNew c8.kn hq (.cons (.int _) (.cons (.int _) (.cons (.int _) .nil)))
      have c9 := c5.fr f9
      have hj9 := Dm.f (Dm.f hj f5 cb.mem) f9 cb.mem
      have hc9 := Dm.f hc5 f9 cb.mem
      refine set_of (evd_callQ (K := K) (M := M) (evds_cons (evd_var (i := 4) rfl hj9) (evds_cons (evd_ixT (evd_var (i := 7) rfl hq9) (evd_int (i := 0)) (by decide) rfl) (evds_cons (evd_ixT (evd_var (i := 7) rfl hq9) (evd_int (i := 1)) (by decide) rfl)
        (evds_cons (evd_ixT (evd_var (i := 7) rfl hq9) (evd_int (i := 2)) (by decide) rfl) (evds_cons (evd_var (i := 6) rfl hc9) evds_nil))))) fun vs H10 s10 h10 => ?_)
      cases h10 with
      | cons g1 g2 =>
      cases g2 with
      | cons g2 g3 =>
      cases g3 with
      | cons g3 g4 =>
      obtain ⟨w4, w5, rfl, g4, g5⟩ := Dms.two_at g4
      cases Dm.intAt g2
      cases Dm.intAt g3
      cases Dm.intAt g4
      refine ⟨M, ho.ks.length, ho.ss.length, j, s6, a7, h8, (x, x2), _, _, rfl, c9.kn.sub s10, g1, oj, ⟨s60, by omega⟩, ⟨a70, by omega⟩, ⟨h80, by omega⟩, by omega, by omega, g5, ⟨hx, hx2⟩, fun y' j' H11 s11 oj' hy' => ?_⟩
      exact ⟨_, _, _, y', j', rfl, (f2.trans (f5.trans f9)).trans (Fr.sub c9.bag (s10.trans s11)), hy', oj'⟩
    · rintro σ H' ⟨u5, u6, u7, vj, j, rfl, f2, hj, oj⟩
      have c2 := cb.fr f2
      have h02 := Dm.f h0 f2 cb.mem
      have h12 := Dm.f h1 f2 cb.mem
      refine sset_of (take_len c2 rfl (i := 2) rfl (.inr h02) (by omega) (by omega) fun k3 H3 f3 k30 k31 => ?_)
      have c3 := c2.fr f3
      have h03 := Dm.f h02 f3 cb.mem
      refine ⟨fun σ' H4 => ∃ (ks' : List Kd) (vk : V), σ' = [some (.ref b), some (.ref a), some vk, some v1, some vj, u5, u6, u7, some (.int k3)] ∧ Fr b l H3 H4 ∧ KdsOk ks' ∧ ks'.length = ho.ks.length ∧ Dm K M H4 vk (.tuple (ks'.map kdD)), ?_, ?_⟩
      · refine ⟨_, rfl, b, l, _, rfl, c3.bag, by decide, by decide, fun j4 H4 f4 j40 j41 => ⟨rfl, _, rfl, ite2 (fun e => ?_) (fun e => ?_)⟩⟩
        · have c4 := c3.fr f4
          have h04 := Dm.f h03 f4 cb.mem
          have ek : ho.ks[k3.toNat]? = some (ho.ks[k3.toNat]'(by omega)) := List.getElem?_eq_getElem _
          generalize hkd : ho.ks[k3.toNat]'(by omega) = kd at ek
          have σ0 : EvD K M (tVar 2) ([some (.ref b), some (.ref a), some v0, some v1, some vj, u5, u6, u7, some (.int k3)] : L2.St) H4 (.tuple (ho.ks.map kdD)) := evd_var rfl h04
          have σk : EvD K M (tVar 8) ([some (.ref b), some (.ref a), some v0, some v1, some vj, u5, u6, u7, some (.int k3)] : L2.St) H4 (.int k3) := evd_var rfl (.int k3)
          have σkd : EvD K M _ ([some (.ref b), some (.ref a), some v0, some v1, some vj, u5, u6, u7, some (.int k3)] : L2.St) H4 (kdD kd) := evd_ixT σ0 σk k30 (by rw [List.getElem?_map, ek] <;> rfl)
          have q := evd_put c4.kn σ0 σk (evd_tup c4.kn (evds_cons (evd_ixT σkd (evd_int (i := 0)) (by decide) rfl) (evds_cons (evd_not (evd_ixT σkd (evd_int (i := 1)) (by decide) rfl)) (evds_cons (evd_ixT σkd (evd_int (i := 2)) (by decide) rfl) evds_nil))) lt3) σ0 (evd_add σk evd_int) k30 (by omega) (by omega)
          rw [show PyData.tuple [PyData.str kd.1, PyData.bool !kd.2.1, PyData.int kd.2.2] = kdD (kd.1, !kd.2.1, kd.2.2) from rfl, ← List.map_set] at q
          refine evd_set q fun vk H5 s5 h5 => ?_
          exact ⟨_, vk, rfl, f4.trans (Fr.sub c4.bag s5), kds_flip ok.ks ek _, List.length_set, h5⟩
        · exact ⟨ho.ks, v0, rfl, f4, ok.ks, rfl, Dm.f h03 f4 cb.mem⟩
      rintro σ4 H4 ⟨ks', vk, rfl, f4, oks, hkl, hvk⟩
      have f34 := f3.trans f4
      have c4 := c2.fr f34
      refine evd_ret (K := K) (M := M) (d := houD ⟨ks', ho.ss, j⟩) (evd_tup c4.kn (evds_cons (evd_var (i := 2) rfl hvk) (evds_cons (evd_var (i := 3) rfl (Dm.f h12 f34 cb.mem)) (evds_cons (evd_var (i := 4) rfl (Dm.f hj f34 cb.mem)) evds_nil))) lt3) fun y H5 s5 hy => ?_
      exact k y ⟨ks', ho.ss, j⟩ H5 ((f2.trans f34).trans (Fr.sub c4.bag s5)) ⟨by show 0 < ks'.length; omega, by show ks'.length < 10; omega, oks, ok.s0, ok.s1, ok.sn, ok.sd, by show JudOk ks'.length _ _; rw [hkl]; exact oj⟩ hkl rfl hy
end
end KZ

namespace KZ
open PySem PySem.Spec PyProof.Rows L2
def spHo (K : PySem.W.Frag) (sp : Bool) : Sp := fun vs H Q _ => ∃ (M : List Addr) (b l : Addr) (n m : Int) (x : Str), vs = [.ref b, .int n, .int m, .str x] ∧ Cb M b l H ∧ 0 < n ∧ n < 10 ∧ 0 < m ∧ m < 10 ∧ (sp = false → x ≠ "spoilt") ∧
  ∀ (y : V) (h : Hou) (H' : Hp), Fr b l H H' → HouOk h → h.ks.length = n.toNat → h.ss.length = m.toNat → Dm K M H' y (houD h) → Q y H'
section
variable {K : PySem.W.Frag} {M : List Addr} {b l : Addr} {σ : L2.St} {H : Hp} {Q : VK} {E : XK}
def rTupOf (K : PySem.W.Frag) : List V → Hp → VK → Prop := fun xs H Q => ∃ p ys, xs = [.ref p] ∧ ((SqL K H p ys ∧ ∀ l, H l = none → Q (.ref l) (upd H l (.tup ys))) ∨ (SqT K H p ys ∧ Q (.ref p) H))
theorem nil_of {Q : List V → Hp → Prop} (h : Q [] H) : tNil σ H Q := h
/-- tuple(..) of a list that is told -/
theorem tuple_of {v : V} {ds : List PyData} (n : Kn M H) (hv : Dm K M H v (.list ds)) (q : ∀ y H', Sub H H' → Dm K M H' y (.tuple ds) → Q y H') : rTupOf K [v] H Q := by
  obtain ⟨a, xs, rfl, hs, ha⟩ := hv.lstAt
  exact ⟨a, xs, rfl, .inl ⟨hs, fun z hz => q _ _ (Sub.new hz) (Dm.tupNew n hz ha)⟩⟩
/-- what follows the first if -/
theorem ho_rest {n m : Int} {x : Str} {D : Ends} (cb : Cb M b l H) (n0 : 0 < n) (n1 : n < 10) (m0 : 0 < m) (m1 : m < 10)
    (k : ∀ (y : V) (h : Hou) (H' : Hp), Fr b l H H' → HouOk h → h.ks.length = n.toNat → h.ss.length = m.toNat → Dm K M H' y (houD h) → D.rt y H') :
    Evl.tCut (tAsg (tIf (tTest (tOp (rIn K false) (tVar 3) (tTup (tCons (tC (.str "elder")) (tCons (tC (.str "younger")) tNil))))) (tLst (tCons (tC (.bl true)) (tCons (tC (.bl true)) (tCons (tC (.bl true)) (tCons (tC (.bl false)) tNil))))) (tLst (tCons (tC (.bl true)) (tCons (tC (.bl false)) tNil)))) (gName 4))
      (tSeq (tAsg (tCall (spKinds K) [] E0 (tCons (tVar 0) (tCons (tVar 1) (tCons (tIf (tAnd (tTest (tOp rEq (tVar 3) (tC (.str "meek")))) (tTest (tOp rEq (tCall spTake [] E0 (tCons (tVar 0) (tCons (tC (.int 2)) tNil))) (tC (.int 0))))) (tLst (tCons (tC (.bl true)) tNil)) (tVar 4)) tNil)))) (gName 5))
      (tRet (tTup (tCons (tVar 5) (tCons (tCB (rTupOf K) (tCons (tCall (spNamed K) [] E0 (tCons (tVar 0) (tCons (tVar 2) tNil))) tNil)) (tCons (tCall (spJudge K) [] E0 (tCons (tVar 0) (tCons (tVar 1) (tCons (tVar 2) (tCons (tVar 3) tNil))))) tNil))))))
      D [some (.ref b), some (.int n), some (.int m), some (.str x), none, none] H := by
  refine ⟨fun σ' H' => ∃ (vk : V) (bs : List Bool), σ' = [some (.ref b), some (.int n), some (.int m), some (.str x), some vk, none] ∧ Fr b l H H' ∧ 0 < bs.length ∧ bs.length < 1000 ∧ Dm K M H' vk (.list (bs.map PyData.bool)), ?_, ?_⟩
  · refine ⟨_, rfl, by show 2 ≤ sizeLine; decide, fun p hp => ⟨p, _, rfl, .inr (SqT.of upd_same), rfl, rfl, _, rfl, ?_⟩⟩
    have f1 : Fr b l H (upd H p (.tup [.str "elder", .str "younger"])) := Fr.new cb.bag hp
    have c1 := cb.fr f1
    refine ite2 (fun e => ?_) (fun e => ?_)
    · refine evd_lst (K := K) (M := M) c1.kn (evds_cons evd_bl (evds_cons evd_bl (evds_cons evd_bl (evds_cons evd_bl evds_nil)))) lt4 _ (Sub.refl _) _ fun v H2 s2 h2 => ?_
      exact ⟨v, [true, true, true, false], rfl, f1.trans (Fr.sub c1.bag s2), by decide, by decide, h2⟩
    · refine evd_lst (K := K) (M := M) c1.kn (evds_cons evd_bl (evds_cons evd_bl evds_nil)) lt2 _ (Sub.refl _) _ fun v H2 s2 h2 => ?_
      exact ⟨v, [true, false], rfl, f1.trans (Fr.sub c1.bag s2), by decide, by decide, h2⟩
  rintro σ1 H1 ⟨vk, bs, rfl, f1, b0, b1, hk⟩
  have c1 := cb.fr f1
  -- from any list of truths
  have made : ∀ (v : V) (bs : List Bool) (H2 : Hp), Fr b l H1 H2 → 0 < bs.length → bs.length < 1000 → Dm K M H2 v (.list (bs.map PyData.bool)) →
      spKinds K [.ref b, .int n, v] H2 (fun y H3 => tRet (tTup (tCons (tVar 5) (tCons (tCB (rTupOf K) (tCons (tCall (spNamed K) [] E0 (tCons (tVar 0) (tCons (tVar 2) tNil))) tNil)) (tCons (tCall (spJudge K) [] E0 (tCons (tVar 0) (tCons (tVar 1) (tCons (tVar 2) (tCons (tVar 3) tNil))))) tNil)))) D [some (.ref b), some (.int n), some (.int m), some (.str x), some vk, some y] H3) E0 := by
    intro v bs H2 f2 b0 b1 hb
    have c2 := c1.fr f2
    refine ⟨M, b, l, n, v, bs, rfl, c2, by omega, by omega, hb, b0, b1, fun y ks H3 f3 hkl oks hy => ?_⟩
    have c3 := c2.fr f3
    refine ret_of (tup_of (cons_of ⟨y, rfl, cons_of ?_⟩))
    refine ⟨_, rfl, _, rfl, M, b, l, m, rfl, c3, by omega, by omega, fun y2 ns H4 f4 hnl hnN hnd hy2 => ?_⟩
    have c4 := c3.fr f4
    refine nil_of ?_
    show rTupOf K [y2] H4 _
    refine tuple_of c4.kn hy2 fun y3 H5 s5 hy3 => ?_
    refine cons_of ?_
    have f5 : Fr b l H4 H5 := Fr.sub c4.bag s5
    have c5 := c4.fr f5
    refine ⟨_, rfl, _, rfl, _, rfl, _, rfl, M, b, l, n, m, x, rfl, c5, by omega, by omega, by omega, by omega, fun y4 j H6 f6 oj hy4 => ?_⟩
    refine ⟨by show 3 ≤ sizeLine; decide, fun z hz => ?_⟩
    have c6 := c5.fr f6
    have f46 := (f4.trans f5).trans f6
    refine k _ ⟨ks, ns, j⟩ _ (((f1.trans f2).trans (f3.trans f46)).trans (Fr.new c6.bag hz)) ⟨by show 0 < ks.length; omega, by show ks.length < 10; omega, oks, by show 0 < ns.length; omega, by show ns.length < 10; omega, hnN, hnd, by show JudOk ks.length ns.length j; rw [hkl, hnl]; exact oj⟩ hkl hnl ?_
    exact Dm.tupNew c6.kn hz (.cons (Dm.f hy f46 cb.mem) (.cons (Dm.f hy3 f6 cb.mem) (.cons hy4 .nil)))
  refine ⟨_, rfl, _, rfl, ?_⟩
  refine ⟨_, rfl, rfl, _, rfl, ite2 (fun e => ?_) (fun e => ?_)⟩
  · refine ⟨_, rfl, b, l, _, rfl, c1.bag, by decide, by decide, fun j H2 f2 j0 j1 => ⟨rfl, _, rfl, ite2 (fun e => ?_) (fun e => ?_)⟩⟩
    · have c2 := c1.fr f2
      refine evd_lst (K := K) (M := M) c2.kn (evds_cons evd_bl evds_nil) lt1 _ (Sub.refl _) _ fun v H3 s3 h3 => ?_
      exact made v [true] H3 (f2.trans (Fr.sub c2.bag s3)) (by decide) (by decide) h3
    · exact ⟨_, rfl, made vk bs H2 f2 b0 b1 (Dm.f hk f2 cb.mem)⟩
  · exact ⟨_, rfl, made vk bs H1 (Fr.refl c1.bag) b0 b1 hk⟩
end
section
variable {P : Program} {w : World} {K : PySem.W.Frag} {mg : Str → Option Value} {base : Heap}
abbrev sHo : Stmt := topS 22
theorem scHo : FnScope ["bag", "kinds", "sorts", "style", "keeps", "made"] ["bag", "kinds", "sorts", "style"] (defScope sHo) := ⟨rfl, rfl, rfl, by decide +kernel, rfl, by decide +kernel, by decide +kernel⟩
theorem ok_ho0 {f fT fK fN fJ : Addr} {fd fdT fdK fdN fdJ : FuncData} (F : Fun K "_law_house_of" "_law_house_of" sHo f fd) (T : Txt mg) (CT : Cal P w K mg base "_law_take" 1 ["bag", "upto"] spTake fT fdT)
    (CK : Cal P w K mg base "_law_kinds" 4 ["bag", "many", "keeps"] (spKinds K) fK fdK) (CN : Cal P w K mg base "_law_named" 3 ["bag", "many"] (spNamed K) fN fdN) (CJ : Cal P w K mg base "_law_judge" 4 ["bag", "kinds", "sorts", "style"] (spJudge K) fJ fdJ) :
    FnOk P w K mg base CX0 5 f fd ["bag", "kinds", "sorts", "style"] (spHo K false) := by
  refine F.ok scHo (fun vs H Q E h => ?_) (fun cdv A outer s H vs Q E hr h => ?_)
  · obtain ⟨M, b, l, n, m, x, rfl, _⟩ := h
    rfl
  · obtain ⟨M, b, l, n, m, x, rfl, cb, n0, n1, m0, m1, hx, k⟩ := h
    have hr4 : Room 4 _ := hr
    have hr3 : Room 3 _ := hr.mono (by decide)
    have hr1 : Room 1 _ := hr.mono (by decide)
    refine ⟨_, pss_cons (ps_if (pt_cmpR op_eq (pv 3) pe_str (nomark _)) pss_never pss_nil)
      (Evl.pss_cut (ps_set (i := 4) scHo.nd rfl (Or.inl rfl) (pe_ifExp (pt_cmpR op_in_seq (pv 3) (pe_tup (pa_cons pe_str (pa_cons pe_str pa_nil))) (by rfl)) (pe_lst (pa_cons pe_bl (pa_cons pe_bl (pa_cons pe_bl (pa_cons pe_bl pa_nil))))) (pe_lst (pa_cons pe_bl (pa_cons pe_bl pa_nil)))))
      (pss_cons (ps_set (i := 5) scHo.nd rfl (Or.inl rfl) (pcl CK hr4 (pa_cons (pv 0) (pa_cons (pv 1) (pa_cons (pe_ifExp (PW.pt (pw_and (pt_cmpR op_eq (pv 3) pe_str (nomark _)) (pw_and1 (pt_cmpR op_eq (pcl CT hr1 (pa_cons (pv 0) (pa_cons pe_int pa_nil))) pe_int (nomark _))))) (pe_lst (pa_cons pe_bl pa_nil)) (pv 4)) pa_nil)))))
      (pss_one (ps_ret (pe_tup (pa_cons (pv 5) (pa_cons (pe_callTy call_tuple_of (by rfl) T.tuple bootTuple (pa_cons (pcl CN hr3 (pa_cons (pv 0) (pa_cons (pv 2) pa_nil))) pa_nil)) (pa_cons (pcl CJ hr4 (pa_cons (pv 0) (pa_cons (pv 1) (pa_cons (pv 2) (pa_cons (pv 3) pa_nil))))) pa_nil)))))))), ?_⟩
    refine ⟨_, rfl, rfl, _, rfl, ite2 (fun e => ?_) (fun e => ?_)⟩
    · exact absurd (of_decide_eq_true e) (fun z => hx rfl (V.str.inj z))
    · exact ho_rest cb n0 n1 m0 m1 k
theorem ok_ho {f fT fS fK fN fJ fQ : Addr} {fd fdT fdS fdK fdN fdJ fdQ : FuncData} (F : Fun K "_law_house_of" "_law_house_of" sHo f fd) (T : Txt mg) (CT : Cal P w K mg base "_law_take" 1 ["bag", "upto"] spTake fT fdT) (CS : Cal P w K mg base "_law_some" 2 ["bag", "things"] (spSome K) fS fdS)
    (CK : Cal P w K mg base "_law_kinds" 4 ["bag", "many", "keeps"] (spKinds K) fK fdK) (CN : Cal P w K mg base "_law_named" 3 ["bag", "many"] (spNamed K) fN fdN) (CJ : Cal P w K mg base "_law_judge" 4 ["bag", "kinds", "sorts", "style"] (spJudge K) fJ fdJ)
    (CQ : Cal P w K mg base "_law_spoilt_house" 3 ["bag", "house"] (spSpoilt K) fQ fdQ) (g : mg "_law_house_of" = some (.ref f)) (bb : Binds K fd ["bag", "kinds", "sorts", "style"] []) :
    FnOk P w K mg base CX0 6 f fd ["bag", "kinds", "sorts", "style"] (spHo K true) := by
  have C0 : Cal P w K mg base "_law_house_of" 5 ["bag", "kinds", "sorts", "style"] (spHo K false) f fd := ⟨ok_ho0 F T CT CK CN CJ, g, F.kp, bb⟩
  refine F.ok scHo (fun vs H Q E h => ?_) (fun cdv A outer s H vs Q E hr h => ?_)
  · obtain ⟨M, b, l, n, m, x, rfl, _⟩ := h
    rfl
  · obtain ⟨M, b, l, n, m, x, rfl, cb, n0, n1, m0, m1, hx, k⟩ := h
    have hr4 : Room 4 _ := hr.mono (by decide)
    have hr3 : Room 3 _ := hr.mono (by decide)
    have hr2 : Room 2 _ := hr.mono (by decide)
    have hr1 : Room 1 _ := hr.mono (by decide)
    refine ⟨_, pss_cons (ps_if (pt_cmpR op_eq (pv 3) pe_str (nomark _)) (pss_one (ps_ret (pcl CQ hr3 (pa_cons (pv 0) (pa_cons (pcl C0 hr (pa_cons (pv 0) (pa_cons (pv 1) (pa_cons (pv 2) (pa_cons (pcl CS hr2 (pa_cons (pv 0) (pa_cons (pe_lst (pa_cons pe_str (pa_cons pe_str pa_nil))) pa_nil))) pa_nil))))) pa_nil))))) pss_nil)
      (Evl.pss_cut (ps_set (i := 4) scHo.nd rfl (Or.inl rfl) (pe_ifExp (pt_cmpR op_in_seq (pv 3) (pe_tup (pa_cons pe_str (pa_cons pe_str pa_nil))) (by rfl)) (pe_lst (pa_cons pe_bl (pa_cons pe_bl (pa_cons pe_bl (pa_cons pe_bl pa_nil))))) (pe_lst (pa_cons pe_bl (pa_cons pe_bl pa_nil)))))
      (pss_cons (ps_set (i := 5) scHo.nd rfl (Or.inl rfl) (pcl CK hr4 (pa_cons (pv 0) (pa_cons (pv 1) (pa_cons (pe_ifExp (PW.pt (pw_and (pt_cmpR op_eq (pv 3) pe_str (nomark _)) (pw_and1 (pt_cmpR op_eq (pcl CT hr1 (pa_cons (pv 0) (pa_cons pe_int pa_nil))) pe_int (nomark _))))) (pe_lst (pa_cons pe_bl pa_nil)) (pv 4)) pa_nil)))))
      (pss_one (ps_ret (pe_tup (pa_cons (pv 5) (pa_cons (pe_callTy call_tuple_of (by rfl) T.tuple bootTuple (pa_cons (pcl CN hr3 (pa_cons (pv 0) (pa_cons (pv 2) pa_nil))) pa_nil)) (pa_cons (pcl CJ hr4 (pa_cons (pv 0) (pa_cons (pv 1) (pa_cons (pv 2) (pa_cons (pv 3) pa_nil))))) pa_nil)))))))), ?_⟩
    refine ⟨_, rfl, rfl, _, rfl, ite2 (fun e => ?_) (fun e => ?_)⟩
    · refine ret_of ⟨_, rfl, _, rfl, _, rfl, _, rfl, ?_⟩
      refine evb_call (K := K) (M := M) rfl (evds_cons (evd_lst cb.kn (evds_cons evd_str (evds_cons evd_str evds_nil)) lt2) evds_nil) fun vs H1 s1 h1 => ?_
      obtain ⟨v1, rfl, h1'⟩ := Dms.one_at h1
      have f1 : Fr b l H H1 := Fr.sub cb.bag s1
      refine ⟨M, b, l, v1, _, rfl, cb.fr f1, .inl h1', by decide, by decide, fun y d H2 f2 hd hy => ?_⟩
      have c2 := (cb.fr f1).fr f2
      have hst : ∃ z : Str, d = .str z ∧ z ≠ "spoilt" := by
        simp only [List.mem_cons, List.not_mem_nil, or_false] at hd
        rcases hd with hd | hd
        · exact ⟨_, hd, by decide +kernel⟩
        · exact ⟨_, hd, by decide +kernel⟩
      obtain ⟨z, rfl, hz⟩ := hst
      cases Dm.strAt hy
      refine ⟨M, b, l, n, m, z, rfl, c2, n0, n1, m0, m1, fun _ => hz, fun y3 h3 H3 f3 ok3 hk3 hs3 hy3 => ?_⟩
      exact ⟨M, b, l, y3, h3, rfl, c2.fr f3, hy3, ok3, fun y4 h4 H4 f4 ok4 hk4 hs4 hy4 => k y4 h4 H4 (((f1.trans f2).trans f3).trans f4) ok4 (hk4.trans hk3) (hs4.trans hs3) hy4⟩
    · exact ho_rest cb n0 n1 m0 m1 k
end
end KZ

namespace KZ
open PySem PySem.Spec PyProof.Rows L2
/-- the rows of a list of pairs with keys that are tuples: the pair, the key, what the key is, the value -/
structure PRow where
  p : Addr
  a : Addr
  k : List L2.Key
  v : V
def PRowAt (K : PySem.W.Frag) (H : Hp) (r : PRow) : Prop := SqT K H r.p [.ref r.a, r.v] ∧ H r.a = some (.tup (r.k.map kV))
theorem stored_all {κ : Type} [DecidableEq κ] : ∀ (ps acc : List (κ × Addr × Value)), ((acc ++ ps).map (·.1)).Nodup → storedAllH acc ps = acc ++ ps
  | [], acc, _ => by
    rw [List.append_nil]
    rfl
  | p :: ps, acc, h => by
    have hn : p.1 ∉ acc.map (·.1) := by
      rw [List.map_append, List.nodup_append] at h
      exact fun m => h.2.2 _ m _ (List.mem_map_of_mem List.mem_cons_self) rfl
    have e : storedH acc p.1 p.2.1 p.2.2 = acc ++ [p] := by
      unfold storedH atKey
      have z : (acc.find? fun x => decide (x.1 = p.1)) = none := by
        rw [List.find?_eq_none]
        intro x hx he
        exact hn (List.mem_map.mpr ⟨x, hx, of_decide_eq_true he⟩)
      rw [z]
      rfl
    show storedAllH (storedH acc p.1 p.2.1 p.2.2) ps = acc ++ p :: ps
    rw [e, stored_all ps (acc ++ [p]) (by rw [List.append_assoc]; exact h), List.append_assoc]
    rfl
theorem paired_of {α β : Type} {F : α → β → Prop} : ∀ {l : List α} {m : List β}, l.length = m.length → (∀ (j : Nat) (a : α) (b : β), l[j]? = some a → m[j]? = some b → F a b) → Paired F l m
  | [], [], _, _ => .nil
  | [], _ :: _, h, _ => by simp at h
  | _ :: _, [], h, _ => by simp at h
  | a :: l, b :: m, h, f => .cons (f 0 a b rfl rfl) (paired_of (by simpa using h) fun j x y e1 e2 => f (j + 1) x y e1 e2)
section
variable {X : Cx}
def rDictT (K : PySem.W.Frag) : List V → Hp → VK → Prop := fun xs H Q => ∃ (a : Addr) (rs : List PRow), xs = [.ref a] ∧ SqL K H a (rs.map fun r => V.ref r.p) ∧ (∀ r ∈ rs, PRowAt K H r) ∧ (rs.map (·.k)).Nodup ∧
  ∀ p, H p = none → Q (.ref p) (upd H p (.dT (rs.map fun r => (r.k, r.v))))
theorem rows_of {pins : List (Addr × Obj)} {σ : L2.St} {H : Hp} {s : Shared} (I : Inv X pins σ H s) : ∀ (rs : List PRow), (∀ r ∈ rs, PRowAt X.K H r) → ∃ us : List Value, us.length = rs.length ∧ ∀ (j : Nat) (r : PRow), rs[j]? = some r → ∃ u, us[j]? = some u ∧ RelV r.v u ∧ IsTup s.heap r.p #[.ref r.a, u]
  | [], _ => ⟨[], rfl, fun j r e => by simp at e⟩
  | r :: rs, h => by
    obtain ⟨us, hl, hu⟩ := rows_of I rs fun x hx => h x (List.mem_cons_of_mem _ hx)
    obtain ⟨its, rv, ht, _⟩ := I.tuple (h r List.mem_cons_self).1
    obtain ⟨u, y, rfl, ru, ry⟩ := vals2 rv
    cases ru
    refine ⟨y :: us, by rw [List.length_cons, List.length_cons, hl], fun j q e => ?_⟩
    cases j with
    | zero =>
      cases Option.some.inj e
      exact ⟨y, rfl, ry, ht⟩
    | succ j => exact hu j q e
theorem call_dictT (hcalm : X.calm = true) (hu : X.A.units + 64 < cLine) : CallR X (.type "dict") (rDictT X.K) := by
  intro pins s σ H xs us Q I r q
  obtain ⟨a, rs, rfl, hq, hr, hn, q⟩ := q
  obtain ⟨u, rfl, rx⟩ := vals1 r
  cases rx
  obtain ⟨its, rv, pl, hz⟩ := I.list hq
  rw [List.length_map] at hz
  have ei : its = (rs.map (·.p)).map Value.ref := refs_at (by rw [List.map_map]; exact rv)
  obtain ⟨vs, hvl, hv⟩ := rows_of I rs hr
  -- the pairs as the library has them
  let prs : List (Value × Value) := rs.zipWith (fun r u => (Value.ref r.a, u)) vs
  let xs : List (List L2.Key × Addr × Value) := rs.zipWith (fun r u => (r.k, r.a, u)) vs
  have pl1 : prs.length = rs.length := by
    show (rs.zipWith _ vs).length = _
    rw [List.length_zipWith, hvl, Nat.min_self]
  have xl1 : xs.length = rs.length := by
    show (rs.zipWith _ vs).length = _
    rw [List.length_zipWith, hvl, Nat.min_self]
  have pat : ∀ (j : Nat) (r : PRow) (u : Value), rs[j]? = some r → vs[j]? = some u → prs[j]? = some (Value.ref r.a, u) := fun j r u e1 e2 => by
    show (rs.zipWith _ vs)[j]? = _
    rw [List.getElem?_zipWith, e1, e2]
  have xat : ∀ (j : Nat) (r : PRow) (u : Value), rs[j]? = some r → vs[j]? = some u → xs[j]? = some (r.k, r.a, u) := fun j r u e1 e2 => by
    show (rs.zipWith _ vs)[j]? = _
    rw [List.getElem?_zipWith, e1, e2]
  have at_ : ∀ j, j < rs.length → ∃ r u, rs[j]? = some r ∧ vs[j]? = some u ∧ RelV r.v u ∧ IsTup s.heap r.p #[Value.ref r.a, u] := fun j hj => by
    obtain ⟨u, h1, h2, h3⟩ := hv j _ (List.getElem?_eq_getElem hj)
    exact ⟨_, u, List.getElem?_eq_getElem hj, h1, h2, h3⟩
  let Ts : Nat → Addr := fun j => (rs.map (·.p)).getD j 0
  have hxk : ∀ h' : Heap, (∀ b o, s.heap.get? b = some o → h'.get? b = some o) → ∀ x ∈ xs, (tupleKind (mixKind X.prog X.w)).is h' x.1 x.2.1 := fun h' hk x hx => by
    obtain ⟨j, hj⟩ := List.getElem?_of_mem hx
    have hj1 : j < rs.length := by rw [← xl1]; exact (List.getElem?_eq_some_iff.mp hj).1
    obtain ⟨r, u, e1, e2, _, _⟩ := at_ j hj1
    rw [xat j r u e1 e2] at hj
    cases Option.some.inj hj
    obtain ⟨o, items, n, h1, h2, h3, h4⟩ := key_of (P := X.prog) (w := X.w) I.hok (hr r (List.mem_of_getElem? e1)).2
    exact ⟨o, items, n, hk _ _ h1, h2, h3, h4⟩
  have hps : PairItems s.heap its.toArray Ts prs := by
    refine ⟨by rw [List.size_toArray, ei, List.length_map, List.length_map, pl1], fun j k v e => ?_⟩
    have hj1 : j < rs.length := by rw [← pl1]; exact (List.getElem?_eq_some_iff.mp e).1
    obtain ⟨r, u, e1, e2, _, e4⟩ := at_ j hj1
    rw [pat j r u e1 e2] at e
    cases Option.some.inj e
    have et : Ts j = r.p := by
      show (rs.map (·.p)).getD j 0 = r.p
      rw [List.getD_eq_getElem?_getD, List.getElem?_map, e1]
      rfl
    rw [et]
    refine ⟨?_, .inl ?_⟩
    · rw [List.getElem?_toArray, ei, List.getElem?_map, List.getElem?_map, e1]
      rfl
    · exact e4
  have keys : xs.map (·.1) = rs.map (·.k) := by
    refine List.ext_getElem? fun j => ?_
    rw [List.getElem?_map, List.getElem?_map]
    by_cases hj1 : j < rs.length
    · obtain ⟨r, u, e1, e2, _, _⟩ := at_ j hj1
      rw [xat j r u e1 e2, e1]
      rfl
    · rw [List.getElem?_eq_none (by omega), List.getElem?_eq_none (by omega)]
      rfl
  have hnx : (xs.map (·.1)).Nodup := by
    rw [keys]
    exact hn
  refine PySem.call_dict_pairsH (knd := tupleKind (mixKind X.prog X.w)) (ps := xs) (PairArg.list a its.toArray Ts prs) (I.ok.hd hcalm) (by show X.A.units + 1 + 1 < cLine; omega) ⟨pl, hps⟩ ⟨by rw [xl1, pl1], fun i key v e => ?_⟩ (fun h' hk x hx => ?_) (by rw [pl1]; exact hz) fun h' tk hd' hk => ?_
  · have hj1 : i < rs.length := by rw [← pl1]; exact (List.getElem?_eq_some_iff.mp e).1
    obtain ⟨r, u, e1, e2, _, _⟩ := at_ i hj1
    cases Option.some.inj ((pat i r u e1 e2).symm.trans e)
    exact ⟨r.k, r.a, xat i r _ e1 e2, rfl⟩
  · refine hxk h' (fun b o e => ?_) x hx
    exact hk b o (Nat.ne_of_lt (Heap.lt_size e)) (fun q => nomatch q) e
  · rw [storedAllH_nil_of_nodup xs hnx] at hd'
    have kk : ∀ b o, s.heap.get? b = some o → h'.get? b = some o := fun b o e => hk b o (fun q => nomatch q) e
    have hf : H s.heap.objs.size = none := I.hok.fresh (Nat.le_refl _)
    refine ⟨.ref s.heap.objs.size, _, I.laid (t' := tk) (o := .dT (rs.map fun r => (r.k, r.v))) kk (Nat.le_refl _) ?_, rfl, q _ hf⟩
    obtain ⟨o, es, ep, g1, g2, g3, g4, _, g6⟩ := hd'
    refine ⟨by rw [List.length_map]; exact hz, beq_eq_false_iff_ne.mpr (Nat.ne_of_gt I.big), xs, paired_of (by rw [List.length_map, xl1]) fun j p y e1 e2 => ?_, o, es, ep, g1, g2, g3, g4, g6⟩
    have hj1 : j < rs.length := by rw [← xl1]; exact (List.getElem?_eq_some_iff.mp e2).1
    obtain ⟨r, u, f1, f2, f3, _⟩ := at_ j hj1
    rw [List.getElem?_map, f1] at e1
    cases Option.some.inj e1
    cases Option.some.inj ((xat j r u f1 f2).symm.trans e2)
    have hk := (hr r (List.mem_of_getElem? f1)).2
    exact ⟨rfl, by rw [upd_ne (ne_of_none hk hf)]; exact hk, f3⟩
/-- dict(d), d a dict whose keys are tuples -/
def rDictC (P : Program) (w : World) : List V → Hp → VK → Prop := fun xs H Q => ∃ (a : Addr) (kvs : List (List L2.Key × V)), xs = [.ref a] ∧ H a = some (.dT kvs) ∧ (kvs.map fun x => (tupleKind (mixKind P w)).hash x.1).Nodup ∧ ∀ p, H p = none → Q (.ref p) (upd H p (.dT kvs))
theorem hashes_of {P : Program} {w : World} {H : Hp} {kvs : List (List L2.Key × V)} {xs : List (List L2.Key × Addr × Value)} (h : L2.KT H kvs xs) : (xs.map fun x => (tupleKind (mixKind P w)).hash x.1) = kvs.map fun x => (tupleKind (mixKind P w)).hash x.1 := by
  unfold L2.KT at h
  induction h with
  | nil => rfl
  | cons a _ ih => rw [List.map_cons, List.map_cons, ih, a.1]
theorem call_dictC (hu : X.A.units + 64 < cLine) : CallR X (.type "dict") (rDictC X.prog X.w) := by
  intro pins s σ H xs us Q I r q
  obtain ⟨a, kvs, rfl, ha, hn, q⟩ := q
  obtain ⟨u, rfl, rx⟩ := vals1 r
  cases rx
  obtain ⟨z, hS, xs, rel, dd⟩ := dt_of I.hok ha
  have hxl : xs.length = kvs.length := (Paired.length rel).symm
  have hnk : (xs.map (·.1)).Nodup := by
    obtain ⟨_, _, _, _, _, _, _, _, h6⟩ := dd
    exact h6
  have hf : H s.heap.objs.size = none := I.hok.fresh (Nat.le_refl _)
  have hlt : a < s.heap.objs.size := by
    obtain ⟨_, _, _, g, _⟩ := dd
    exact Heap.lt_size g
  refine callType_codes (Q₁ := fun obj s₁ => obj = .ref s.heap.objs.size ∧ s₁ = { s with heap := s.heap.push { cls := .type "dict", data := .dict #[] } }) PySem.F.kt_called_dict (PySem.F.kt_typeCall_dict_1 _) PySem.F.entry_dict_init (kt_code_dict_new _ ⟨rfl, rfl⟩) ?_
  rintro obj s₁ ⟨rfl, rfl⟩
  have k0 : ∀ b o, s.heap.get? b = some o → (s.heap.push { cls := .type "dict", data := .dict #[] }).get? b = some o := fun b o e => Heap.get?_push_of_some _ e
  have hnew : (s.heap.push { cls := .type "dict", data := .dict #[] }).DictOfH (tupleKind (mixKind X.prog X.w)) s.heap.objs.size [] := Heap.DictOfH.new s.heap
  have st := tupleKind_stays (prog := X.prog) (w := X.w) (knd := mixKind X.prog X.w)
  have hold : (s.heap.push { cls := .type "dict", data := .dict #[] }).DictOfH (tupleKind (mixKind X.prog X.w)) a xs := by
    obtain ⟨o, es, ep, g1, g2, g3, g4, g5, g6⟩ := dd
    exact ⟨o, es, ep, k0 _ _ g1, g2, g3, g4, fun x hx => st.stays (fun b o vs n e _ => k0 b o e) (g5 x hx), g6⟩
  have hty : ∀ x ∈ xs, Shared.TypeIs { s with heap := s.heap.push { cls := .type "dict", data := .dict #[] } } (.ref x.2.1) "tuple" := fun x hx => by
    obtain ⟨_, _, _, _, _, _, _, g5, _⟩ := hold
    exact st.tuple (s := { s with heap := s.heap.push { cls := .type "dict", data := .dict #[] } }) (k := x.1) (g5 x hx)
  refine ⟨hnew.typeIs, PySem.F.args_dict_init_2 _ _, ?_⟩
  unfold Builtin.«dict.__init__»
  refine wpAny_bind ?_
  unfold Builtin.Dict.selfAndRest
  refine wpAny_bind (wpAny_notOrdered_dict hnew.typeIs ?_)
  show wpAny _ _ (pure (s.heap.objs.size, [Value.ref a])) _ _ _
  refine wpAny_pure ?_
  refine updateFrom_dictH (A := X.A.in1) (knd := tupleKind (mixKind X.prog X.w)) .none (by show X.A.units + 1 + 1 < cLine; omega) (Nat.ne_of_gt hlt) hS hnew hold (.inr ⟨hty, by rw [hashes_of rel]; exact hn⟩) (by rw [List.length_nil, Nat.zero_add, hxl]; exact z) fun h' hd' ho' hs' => ⟨rfl, ?_⟩
  · rw [storedAllH_nil_of_nodup xs hnk] at hd'
    have kk : ∀ b o, s.heap.get? b = some o → h'.get? b = some o := fun b o e => (hs'.2 b (Nat.ne_of_lt (Heap.lt_size e))).trans (k0 b o e)
    refine ⟨.ref s.heap.objs.size, _, I.laid (t' := s.toks) (o := .dT kvs) kk (Nat.le_refl _) ?_, rfl, q _ hf⟩
    obtain ⟨o, es, ep, g1, g2, g3, g4, _, g6⟩ := hd'
    refine ⟨z, beq_eq_false_iff_ne.mpr (Nat.ne_of_gt I.big), xs, Paired.mapP rel fun p y e => ⟨e.1, ?_, e.2.2⟩, o, es, ep, g1, g2, g3, g4, g6⟩
    rw [upd_ne (ne_of_none e.2.1 hf)]
    exact e.2.1
end
end KZ

namespace KZ
open PySem PySem.Spec PyProof.Rows L2
/-- the same items, in another order: told by the objects themselves -/
def spMixedV (K : PySem.W.Frag) : Sp := fun vs H Q _ => ∃ (b l a : Addr) (xs : List V), vs = [.ref b, .ref a] ∧ Bag b l H ∧ SqL K (er [b] H) a xs ∧ xs.length < 100000 ∧
  ∀ (p : Addr) (ys : List V) (H' : Hp), Fr b l H H' → H p = none → H' p = some (.lst ys) → ys.Perm xs → Q (.ref p) H'
def spBag (K : PySem.W.Frag) : Sp := fun vs H Q _ => ∃ (a : Addr) (ns : List Int), vs = [.ref a] ∧ SqL K H a (ns.map V.int) ∧ ns.length ≤ 63 ∧ ∀ (b l : Addr) (H' : Hp), Sub H H' → Bag b l H' → Q (.ref b) H'
def spHouse (K : PySem.W.Frag) : Sp := fun vs H Q _ => ∃ (M : List Addr) (b l : Addr) (n : Int), vs = [.ref b, .int n] ∧ Cb M b l H ∧ 0 < n ∧ n < 10 ∧
  ∀ (y : V) (h : Hou) (H' : Hp), Fr b l H H' → HouOk h → h.ks.length ≤ n.toNat → h.ss.length ≤ 3 → Dm K M H' y (houD h) → Q y H'
theorem er_nil (H : Hp) : er [] H = H := by
  funext a
  unfold er
  exact if_neg (by simp)
theorem dps_ints {K : PySem.W.Frag} {H : Hp} : ∀ l : List Int, DpAll K H (l.map V.int) (l.map PyData.int)
  | [] => .nil
  | x :: l => .cons (.int x) (dps_ints l)
theorem ints_dps {K : PySem.W.Frag} {H : Hp} : ∀ {l : List Int} {vs : List V}, DpAll K H vs (l.map PyData.int) → vs = l.map V.int
  | [], _, h => by
    cases h
    rfl
  | x :: l, _, h => by
    cases h with
    | cons h1 h2 =>
      cases h1
      rw [ints_dps h2]
      rfl
theorem c_of {v : V} {σ : L2.St} {H : Hp} {Q : VK} (h : Q v H) : tC v σ H Q := h
theorem lst_of {tr : TA} {σ : L2.St} {H : Hp} {Q : VK} (h : tr σ H fun xs H1 => xs.length ≤ sizeLine ∧ ∀ p, H1 p = none → Q (.ref p) (upd H1 p (.lst xs))) : tLst tr σ H Q := h
def absD : PyData → Int
  | .int i => if i < 0 then -i else i
  | _ => 0
section
variable {P : Program} {w : World} {K : PySem.W.Frag} {mg : Str → Option Value} {base : Heap}
theorem ok_mixedV {f fT : Addr} {fd fdT : FuncData} (F : Fun K "_law_mixed" "_law_mixed" sMixed f fd) (T : Txt mg) (CT : Cal P w K mg base "_law_take" 1 ["bag", "upto"] spTake fT fdT) : FnOk P w K mg base CX0 2 f fd ["bag", "things"] (spMixedV K) := by
  refine F.ok scMixed (fun vs H Q E h => ?_) (fun cdv A outer s H vs Q E hr h => ?_)
  · obtain ⟨b, l, a, xs, rfl, _⟩ := h
    rfl
  · obtain ⟨b, l, a, xs, rfl, bag, hse, hz, k⟩ := h
    refine ⟨_, pss_cons (ps_set (i := 2) scMixed.nd rfl (Or.inl rfl) (pe_lst pa_nil))
      (pss_cons (ps_for PassesOwn.never rfl (pi_list (pv 1)) (pg_name (i := 3) scMixed.nd rfl (Or.inl rfl))
        (pss_one (ps_expr (pe_bm PySem.F.plainAttrs_list PySem.F.slot_list_insert PySem.F.type_list_insert mt_insert (pv 2)
          (pa_cons (pcl CT hr (pa_cons (pv 0) (pa_cons (pe_op op_add (pe_callB call_len_seq (by rfl) T.len PySem.boot_len (pa_cons (pv 2) pa_nil)) pe_int) pa_nil))) (pa_cons (pv 3) pa_nil))))))
      (pss_one (ps_ret (pv 2)))), ?_⟩
    refine ⟨Nat.zero_le _, fun p hp => ?_⟩
    have seq : ∀ {H' : Hp}, Fr b l H H' → SqL K H' a xs := fun f => (er_sub _ _).sqL (Sub.sqL f.k.er hse)
    have f0 : Fr b l H (upd H p (.lst [])) := Fr.new bag hp
    have pb := ne_new bag.at hp
    refine ⟨_, rfl, a, rfl, ⟨_, seq f0⟩, for_list (K := K) (a := a) (xs := xs) (fun i σ H' => ∃ (u : Option V) (vs : List V), σ = [some (.ref b), some (.ref a), some (.ref p), u] ∧ Fr b l H H' ∧ H' p = some (.lst vs) ∧ vs.Perm (xs.take i))
      ⟨none, [], rfl, f0, upd_same, List.Perm.refl _⟩ (fun i σ H' _ ⟨_, _, _, q, _⟩ => seq q) ?_ ?_⟩
    · rintro i y σ H' hi ⟨u, vs, rfl, f1, h1p, hpm⟩
      have hix := (List.getElem?_eq_some_iff.mp hi).1
      have hlv : vs.length = i := by
        rw [hpm.length_eq, List.length_take]
        omega
      refine ⟨_, rfl, .inl ⟨rfl, _, SqL.of h1p⟩, _, rfl, _, rfl, p, _, rfl, .inl (SqL.of h1p), _, _, rfl, rfl, ?_⟩
      refine ⟨b, l, _, rfl, f1.bag, by omega, by omega, fun j H2 f2 j0 j1 => ?_⟩
      have h2p : H2 p = some (.lst vs) := f2.k p _ (by simp [pb]) h1p
      refine ⟨_, rfl, p, vs, j, y, rfl, rfl, h2p, szl (by omega), j0, by omega, ?_⟩
      refine ⟨_, _, rfl, (f1.trans f2).mut bag hp, upd_same, ?_⟩
      rw [take_snoc hi]
      exact (ins_perm _ _ _).trans ((List.Perm.cons _ hpm).trans (List.perm_append_singleton _ _).symm)
    · rintro σ H' ⟨u, vs, rfl, f1, h1p, hpm⟩
      rw [List.take_length] at hpm
      exact ⟨_, rfl, k p vs H' f1 hp h1p hpm⟩
abbrev sBag : Stmt := topS 11
theorem scBag : FnScope ["script", "cell"] ["script"] (defScope sBag) := ⟨rfl, rfl, rfl, by decide +kernel, rfl, by decide +kernel, by decide +kernel⟩
theorem ok_bag {f : Addr} {fd : FuncData} (F : Fun K "_law_bag" "_law_bag" sBag f fd) (T : Txt mg) : FnOk P w K mg base CX0 1 f fd ["script"] (spBag K) := by
  refine F.ok scBag (fun vs H Q E h => ?_) (fun cdv A outer s H vs Q E hr h => ?_)
  · obtain ⟨a, ns, rfl, _⟩ := h
    rfl
  · obtain ⟨a, ns, rfl, hs, hl, k⟩ := h
    refine ⟨_, pss_one (ps_ret (pe_lst (pa_cons pe_int (pa_cons pe_int (pa_cons pe_int (pa_cons
      (pe_lc (own := [("cell", 1)]) (g := gName 1) (tt := tYes) rfl scBag.nd (pi_list (pe_slice sl_list (pv 0) po_none (po_some pe_int))) (blkOk_by (N := ["script", "cell"]) (sc := defScope sBag) (by decide +kernel)) (fun _ _ _ _ _ => pg_name (i := 1) scBag.nd rfl (Or.inl rfl)) (fun _ _ _ _ _ => pts_nil)
        (fun _ _ _ _ _ => pe_callB call_abs (by rfl) T.abs PyProof.Rows.boot_abs (pa_cons (pv 1) pa_nil))) pa_nil)))))), ?_⟩
    have hd : Dm K [] H (.ref a) (.list (ns.map PyData.int)) := .lst (by rw [er_nil]; exact hs) (dps_ints ns)
    have kn : Kn [] H := fun a m => nomatch m
    refine ret_of (lst_of (cons_of (c_of (cons_of (c_of (cons_of (c_of (cons_of ?_))))))))
    have e0 : EvD K [] (tVar 0) ([some (.ref a), none] : L2.St) H (.list (ns.map PyData.int)) := evd_var rfl hd
    have e1 : EvD K [] (tSl (rSlL K) (tVar 0) tNoPart (tPart (tC (.int 63)))) ([some (.ref a), none] : L2.St) H (.list (ns.map PyData.int)) := by
      have q := evd_slL kn e0 evo_none (evo_some (evd_int (K := K) (M := []) (i := 63)))
      have z : cutD (ns.map PyData.int) none (some 63) = ns.map PyData.int := by
        unfold cutD
        have e : HT.sIx (ns.map PyData.int).length (ns.map PyData.int).length (some 63) = (ns.map PyData.int).length := by
          rw [show (63 : Int) = ((63 : Nat) : Int) from rfl, HT.sIx_nat, List.length_map]
          exact Nat.min_eq_right hl
        rw [e, HT.sIx_none, List.drop_zero, Nat.sub_zero, List.take_length]
      rw [z] at q
      exact q
    refine evd_lc (g := fun d => .int (absD d)) kn e1 (by rw [List.length_map]; omega) (by intro z; rfl) ?_ H (Sub.refl _) _ fun p xs H1 s1 hp h1p hxs => ?_
    · intro Dl hD d x H1 s1 n1 hd1 hx1
      obtain ⟨i, _, rfl⟩ := List.mem_map.mp hd1
      cases Dm.intAt hx1
      intro H2 s2 Q2 q2
      exact ⟨_, rfl, i, rfl, q2 _ H2 (Sub.refl _) (.int _)⟩
    · rw [List.map_map, show ((fun d => PyData.int (absD d)) ∘ PyData.int) = PyData.int ∘ (fun i : Int => if i < 0 then -i else i) from rfl, ← List.map_map] at hxs
      have ex := ints_dps hxs
      refine ⟨by show 4 ≤ sizeLine; decide, fun q hq => ?_⟩
      refine k q p _ (s1.trans (Sub.new hq)) ⟨0, 1234567891, 0, ns.map fun i : Int => if i < 0 then -i else i, upd_same, ne_of_none h1p hq, ?_, by decide, by decide, by decide, by decide, by rw [List.length_map]; omega, ?_⟩
      · rw [upd_ne (ne_of_none h1p hq), h1p, ex]
      · intro c hc
        obtain ⟨i, _, rfl⟩ := List.mem_map.mp hc
        split <;> omega
/-! a house -/
abbrev sHouse : Stmt := topS 23
theorem scHouse : FnScope ["bag", "kinds", "style"] ["bag", "kinds"] (defScope sHouse) := ⟨rfl, rfl, rfl, by decide +kernel, rfl, by decide +kernel, by decide +kernel⟩
theorem ok_house {f fT fS fH : Addr} {fd fdT fdS fdH : FuncData} (F : Fun K "_law_house" "_law_house" sHouse f fd) (CT : Cal P w K mg base "_law_take" 1 ["bag", "upto"] spTake fT fdT) (CS : Cal P w K mg base "_law_some" 2 ["bag", "things"] (spSome K) fS fdS)
    (CH : Cal P w K mg base "_law_house_of" 6 ["bag", "kinds", "sorts", "style"] (spHo K true) fH fdH) : FnOk P w K mg base CX0 7 f fd ["bag", "kinds"] (spHouse K) := by
  refine F.ok scHouse (fun vs H Q E h => ?_) (fun cdv A outer s H vs Q E hr h => ?_)
  · obtain ⟨M, b, l, n, rfl, _⟩ := h
    rfl
  · obtain ⟨M, b, l, n, rfl, cb, n0, n1, k⟩ := h
    have hr2 : Room 2 _ := hr.mono (by decide)
    have hr1 : Room 1 _ := hr.mono (by decide)
    refine ⟨_, pss_cons (ps_set (i := 2) scHouse.nd rfl (Or.inl rfl) (pcl CS hr2 (pa_cons (pv 0) (pa_cons (pe_lst (pa_cons pe_str (pa_cons pe_str (pa_cons pe_str (pa_cons pe_str (pa_cons pe_str (pa_cons pe_str (pa_cons pe_str pa_nil)))))))) pa_nil))))
      (pss_one (ps_ret (pcl CH hr (pa_cons (pv 0) (pa_cons (pe_op op_add pe_int (pcl CT hr1 (pa_cons (pv 0) (pa_cons (pv 1) pa_nil)))) (pa_cons (pcl CS hr2 (pa_cons (pv 0) (pa_cons (pe_lst (pa_cons pe_int (pa_cons pe_int (pa_cons pe_int (pa_cons pe_int pa_nil))))) pa_nil))) (pa_cons (pv 2) pa_nil))))))), ?_⟩
    refine sset_of (evb_call (K := K) (M := M) rfl (evds_cons (evd_lst cb.kn (evds_cons evd_str (evds_cons evd_str (evds_cons evd_str (evds_cons evd_str (evds_cons evd_str (evds_cons evd_str (evds_cons evd_str evds_nil))))))) (by show 7 < 1000000; decide)) evds_nil) fun vs H1 s1 h1 => ?_)
    obtain ⟨v1, rfl, h1'⟩ := Dms.one_at h1
    have f1 : Fr b l H H1 := Fr.sub cb.bag s1
    have c1 := cb.fr f1
    refine ⟨M, b, l, v1, _, rfl, c1, .inl h1', by show 0 < 7; decide, by show 7 < 1000000; decide, fun y d H2 f2 hd hy => ?_⟩
    have c2 := c1.fr f2
    have hst : ∃ z : Str, d = .str z := by
      simp only [List.mem_cons, List.not_mem_nil, or_false] at hd
      rcases hd with hd | hd | hd | hd | hd | hd | hd <;> exact ⟨_, hd⟩
    obtain ⟨st, rfl⟩ := hst
    cases Dm.strAt hy
    refine ret_of ⟨_, rfl, _, rfl, _, rfl, b, l, n, rfl, c2.bag, n0, by omega, fun j H3 f3 j0 j1 => ⟨_, _, rfl, rfl, cons_of ?_⟩⟩
    have c3 := c2.fr f3
    refine evb_call (K := K) (M := M) rfl (evds_cons (evd_lst c3.kn (evds_cons evd_int (evds_cons evd_int (evds_cons evd_int (evds_cons evd_int evds_nil)))) lt4) evds_nil) fun vs H4 s4 h4 => ?_
    obtain ⟨v4, rfl, h4'⟩ := Dms.one_at h4
    have f4 : Fr b l H3 H4 := Fr.sub c3.bag s4
    have c4 := c3.fr f4
    refine ⟨M, b, l, v4, _, rfl, c4, .inl h4', by show 0 < 4; decide, by show 4 < 1000000; decide, fun y d H5 f5 hd hy => ?_⟩
    have hin : ∃ z : Int, d = .int z ∧ 0 < z ∧ z ≤ 3 := by
      simp only [List.mem_cons, List.not_mem_nil, or_false] at hd
      rcases hd with hd | hd | hd | hd <;> exact ⟨_, hd, by decide, by decide⟩
    obtain ⟨m, rfl, m0, m1⟩ := hin
    cases Dm.intAt hy
    refine ⟨_, rfl, M, b, l, 1 + j, m, st, rfl, c4.fr f5, by omega, by omega, m0, by omega, fun e => (nomatch e), fun y h H6 f6 ok hk hs hy => ?_⟩
    exact k y h H6 ((((f1.trans f2).trans (f3.trans f4)).trans f5).trans f6) ok (by omega) (by omega) hy
end
end KZ

namespace KZ
open PySem PySem.Spec PyProof.Rows L2
abbrev Pl := Nat × Nat × Nat × Nat
def plK (p : Pl) : List L2.Key := [.inl (p.1 : Int), .inl (p.2.1 : Int), .inl (p.2.2.1 : Int), .inl (p.2.2.2 : Int)]
theorem plV (p : Pl) : (plK p).map kV = [.int (p.1 : Int), .int (p.2.1 : Int), .int (p.2.2.1 : Int), .int (p.2.2.2 : Int)] := rfl
def plD (p : Pl) : PyData := .tuple [.int (p.1 : Int), .int (p.2.1 : Int), .int (p.2.2.1 : Int), .int (p.2.2.2 : Int)]
def pl3 (s a h : Nat) : List Pl := [(s, a, h, 0), (s, a, h, 1)]
def pl2 (n s a : Nat) : List Pl := (List.range n).flatMap fun h => pl3 s a h
def pl1 (n s : Nat) : List Pl := (List.range n).flatMap fun a => pl2 n s a
def plL (n m : Nat) : List Pl := (List.range m).flatMap fun s => pl1 n s
theorem flat_succ {α : Type} (f : Nat → List α) (n : Nat) : (List.range (n + 1)).flatMap f = (List.range n).flatMap f ++ f n := by
  rw [List.range_succ, List.flatMap_append]
  simp
/-- tracked tuples that are new since H -/
abbrev PlAt (H H' : Hp) (ps : List Addr) (l : List Pl) : Prop := Paired (fun (q : Addr) (p : Pl) => H q = none ∧ H' q = some (.tup ((plK p).map kV))) ps l
theorem PlAt.mono {H A B : Hp} {ps : List Addr} {l : List Pl} (h : PlAt H A ps l) (k : ∀ q o, H q = none → A q = some o → (∃ vs, o = .tup vs) → B q = some o) : PlAt H B ps l :=
  Paired.mapP h fun q p e => ⟨e.1, k q _ e.1 e.2 ⟨_, rfl⟩⟩
theorem paired_app {α β : Type} {F : α → β → Prop} : ∀ {a c : List α} {b d : List β}, Paired F a b → Paired F c d → Paired F (a ++ c) (b ++ d)
  | _, _, _, _, .nil, h => h
  | _, _, _, _, .cons x t, h => .cons x (paired_app t h)
def spPlaces (K : PySem.W.Frag) : Sp := fun vs H Q _ => ∃ (M : List Addr) (v : V) (ks ss : List PyData) (j : PyData), vs = [v] ∧ Kn M H ∧ Dm K M H v (.tuple [.tuple ks, .tuple ss, j]) ∧ ks.length < 10 ∧ ss.length < 10 ∧
  ∀ (p : Addr) (ps : List Addr) (H' : Hp), Sub H H' → H p = none → H' p = some (.lst (ps.map V.ref)) → PlAt H H' ps (plL ks.length ss.length) → Q (.ref p) H'
theorem paired_len {α β : Type} {F : α → β → Prop} {a : List α} {b : List β} (h : Paired F a b) : a.length = b.length := Paired.length h
theorem len3 (s a h : Nat) : (pl3 s a h).length = 2 := rfl
theorem flat_len {α : Type} (f : Nat → List α) (k : Nat) (hf : ∀ i, (f i).length = k) : ∀ n, ((List.range n).flatMap f).length = n * k
  | 0 => by simp
  | n + 1 => by rw [flat_succ, List.length_append, flat_len f k hf n, hf, Nat.succ_mul]
theorem len2 (n s a : Nat) : (pl2 n s a).length = n * 2 := flat_len _ 2 (fun h => len3 s a h) n
theorem len1 (n s : Nat) : (pl1 n s).length = n * (n * 2) := flat_len _ (n * 2) (fun a => len2 n s a) n
theorem len0 (n m : Nat) : (plL n m).length = m * (n * (n * 2)) := flat_len _ (n * (n * 2)) (fun s => len1 n s) m
section
variable {P : Program} {w : World} {K : PySem.W.Frag} {mg : Str → Option Value} {base : Heap}
abbrev sPlaces : Stmt := topS 24
theorem scPlaces : FnScope ["house", "found", "sort", "asker", "holder"] ["house"] (defScope sPlaces) := ⟨rfl, rfl, rfl, by decide +kernel, rfl, by decide +kernel, by decide +kernel⟩
/-- range(len(house[i])) -/
theorem rng_len {M : List Addr} {σ : L2.St} {H : Hp} {i : Int} {ds rs : List PyData} {v : V} {R : It → Hp → Prop} (hv : σ[0]? = some (some v)) (hd : Dm K M H v (.tuple ds)) (i0 : 0 ≤ i) (hi : ds[i.toNat]? = some (.tuple rs)) (hz : rs.length < 1000) (k : R (Itr 0 rs.length) H) :
    iRng1 (tCons (tCB (fun xs H Q => ∃ p ys, xs = [V.ref p] ∧ (SqL K H p ys ∨ SqT K H p ys) ∧ Q (.int ys.length) H) (tCons (tOp (rIxT K) (tVar 0) (tC (.int i))) tNil)) tNil) σ H R := by
  obtain ⟨a, xs, y, rfl, hs, hat, hy⟩ := dm_getT hd i0 hi
  obtain ⟨b, ys, rfl, hs2, ha2⟩ := hy.tupAt
  refine ⟨_, hv, a, xs, i, _, rfl, rfl, hs, hat, b, ys, rfl, .inr hs2, _, rfl, by omega, ?_, ?_⟩
  · have := ha2.len
    omega
  · rw [ha2.len]
    exact k
/-- for j in range(len(house[i])) -/
theorem for_len {M : List Addr} {σ : L2.St} {H : Hp} {i : Int} {ds rs : List PyData} {v : V} {g : TG} {tb : TS} {D : Ends} (hv : σ[0]? = some (some v)) (hd : Dm K M H v (.tuple ds)) (i0 : 0 ≤ i) (hi : ds[i.toNat]? = some (.tuple rs)) (hz : rs.length < 1000)
    (Pv : Nat → L2.St → Hp → Prop) (h0 : Pv 0 σ H) (hs : ∀ (i : Nat) σ H, i < rs.length → Pv i σ H → g (.int (i : Int)) σ H fun σ2 H2 => tb { D with nx := Pv (i + 1), ct := Pv (i + 1), bk := D.nx } σ2 H2) (hn : ∀ σ H, Pv rs.length σ H → D.nx σ H) :
    tFor (iRng1 (tCons (tCB (fun xs H Q => ∃ p ys, xs = [V.ref p] ∧ (SqL K H p ys ∨ SqT K H p ys) ∧ Q (.int ys.length) H) (tCons (tOp (rIxT K) (tVar 0) (tC (.int i))) tNil)) tNil)) g tb D σ H :=
  rng_len hv hd i0 hi hz (for_range (lo := 0) (n := rs.length) Pv h0 (fun i σ H hi p => by
    rw [show (0 : Int) + (i : Nat) = (i : Int) by omega]
    exact hs i σ H hi p) hn)
theorem gname_of {i : Nat} {x : V} {σ : L2.St} {H : Hp} {k : L2.St → Hp → Prop} (h : k (σ.set i (some x)) H) : gName i x σ H k := h
theorem sfor {wi : TI} {g : TG} {tb u : TS} {D : Ends} {σ : L2.St} {H : Hp} (h : tFor wi g tb { D with nx := u D } σ H) : tSeq (tFor wi g tb) u D σ H := h
theorem for1 {wi : TI} {g : TG} {tb : TS} {D : Ends} {σ : L2.St} {H : Hp} (h : tFor wi g tb D σ H) : tFor wi g tb D σ H := h
theorem ok_places {f : Addr} {fd : FuncData} (F : Fun K "_law_places" "_law_places" sPlaces f fd) (T : Txt mg) : FnOk P w K mg base CX0 1 f fd ["house"] (spPlaces K) := by
  refine F.ok scPlaces (fun vs H Q E h => ?_) (fun cdv A outer s H vs Q E hr h => ?_)
  · obtain ⟨M, v, ks, ss, j, rfl, _⟩ := h
    rfl
  · obtain ⟨M, v, ks, ss, j, rfl, kn, hv, kz, sz, k⟩ := h
    refine ⟨_, pss_cons (ps_set (i := 1) scPlaces.nd rfl (Or.inl rfl) (pe_lst pa_nil))
      (pss_cons (ps_for PassesOwn.never rfl (pi_range1 rfl T.range (pa_cons (pe_callB call_len_seq (by rfl) T.len PySem.boot_len (pa_cons (pe_ix ix_tup (pv 0) pe_int (fun _ _ => rfl)) pa_nil)) pa_nil)) (pg_name (i := 2) scPlaces.nd rfl (Or.inl rfl))
        (pss_one (ps_for PassesOwn.never rfl (pi_range1 rfl T.range (pa_cons (pe_callB call_len_seq (by rfl) T.len PySem.boot_len (pa_cons (pe_ix ix_tup (pv 0) pe_int (fun _ _ => rfl)) pa_nil)) pa_nil)) (pg_name (i := 3) scPlaces.nd rfl (Or.inl rfl))
          (pss_one (ps_for PassesOwn.never rfl (pi_range1 rfl T.range (pa_cons (pe_callB call_len_seq (by rfl) T.len PySem.boot_len (pa_cons (pe_ix ix_tup (pv 0) pe_int (fun _ _ => rfl)) pa_nil)) pa_nil)) (pg_name (i := 4) scPlaces.nd rfl (Or.inl rfl))
            (pss_one (ps_expr (pe_bm PySem.F.plainAttrs_list PySem.F.slot_list_extend PySem.F.type_list_extend mt_extend (pv 1) (pa_cons (pe_lst (pa_cons (pe_tup (pa_cons (pv 2) (pa_cons (pv 3) (pa_cons (pv 4) (pa_cons pe_int pa_nil)))))
              (pa_cons (pe_tup (pa_cons (pv 2) (pa_cons (pv 3) (pa_cons (pv 4) (pa_cons pe_int pa_nil))))) pa_nil))) pa_nil)))))))))
      (pss_one (ps_ret (pv 1)))), ?_⟩
    refine sset_of (lst_of (nil_of ⟨Nat.zero_le _, fun p hp => ?_⟩))
    have eh {H' : Hp} (s : Sub H H') : Dm K M H' v (.tuple [.tuple ks, .tuple ss, j]) := Dm.s hv s
    refine sfor ?_
    refine for_len (i := 1) (rs := ss) rfl (eh (Sub.new hp)) (by decide) rfl (by omega) (fun i σ H' => ∃ (u2 u3 u4 : Option V) (ps : List Addr), σ = [some v, some (.ref p), u2, u3, u4] ∧ Sub H H' ∧ H' p = some (.lst (ps.map V.ref)) ∧ PlAt H H' ps ((List.range i).flatMap fun s => pl1 ks.length s))
      ⟨none, none, none, [], rfl, Sub.new hp, upd_same, .nil⟩ ?_ ?_
    · rintro i1 σ H1 hi1 ⟨u2, u3, u4, ps, rfl, s1, h1p, hps⟩
      refine gname_of (for1 ?_)
      refine for_len (i := 0) (rs := ks) rfl (eh s1) (by decide) rfl (by omega) (fun i2 σ H' => ∃ (u3 u4 : Option V) (ps : List Addr), σ = [some v, some (.ref p), some (.int (i1 : Int)), u3, u4] ∧ Sub H H' ∧ H' p = some (.lst (ps.map V.ref)) ∧ PlAt H H' ps (((List.range i1).flatMap fun s => pl1 ks.length s) ++ (List.range i2).flatMap fun a => pl2 ks.length i1 a))
        ⟨u3, u4, ps, rfl, s1, h1p, by rw [List.range_zero, List.flatMap_nil, List.append_nil]; exact hps⟩ ?_ ?_
      · rintro i2 σ H2 hi2 ⟨u3, u4, ps, rfl, s2, h2p, hps⟩
        refine gname_of (for1 ?_)
        refine for_len (i := 0) (rs := ks) rfl (eh s2) (by decide) rfl (by omega) (fun i3 σ H' => ∃ (u4 : Option V) (ps : List Addr), σ = [some v, some (.ref p), some (.int (i1 : Int)), some (.int (i2 : Int)), u4] ∧ Sub H H' ∧ H' p = some (.lst (ps.map V.ref)) ∧
            PlAt H H' ps ((((List.range i1).flatMap fun s => pl1 ks.length s) ++ (List.range i2).flatMap fun a => pl2 ks.length i1 a) ++ (List.range i3).flatMap fun h => pl3 i1 i2 h))
          ⟨u4, ps, rfl, s2, h2p, by rw [List.range_zero, List.flatMap_nil, List.append_nil]; exact hps⟩ ?_ ?_
        · rintro i3 σ H3 hi3 ⟨u4, ps, rfl, s3, h3p, hps⟩
          refine ⟨_, rfl, .inl ⟨rfl, _, SqL.of h3p⟩, _, rfl, _, rfl, _, rfl, by show 4 ≤ sizeLine; decide, fun q1 hq1 => ⟨_, rfl, _, rfl, _, rfl, by show 4 ≤ sizeLine; decide, fun q2 hq2 => ⟨by show 2 ≤ sizeLine; decide, fun lq hlq => ?_⟩⟩⟩
          have n1 : p ≠ q1 := ne_of_none h3p hq1
          have h4p := Sub.new (o := .tup ((plK (i1, i2, i3, 0)).map kV)) hq1 _ _ h3p
          have h5p := Sub.new (o := .tup ((plK (i1, i2, i3, 1)).map kV)) hq2 _ _ h4p
          have h6p := Sub.new (o := .lst [.ref q1, .ref q2]) hlq _ _ h5p
          have ll := paired_len hps
          refine ⟨p, lq, _, _, rfl, rfl, h6p, upd_same, ?_, ?_⟩
          · rw [List.length_map, ll, List.length_append, List.length_append, flat_len _ _ (fun s => len1 ks.length s), flat_len _ _ (fun a => len2 ks.length i1 a), flat_len _ _ (fun h => len3 i1 i2 h)]
            have b1 : i1 * (ks.length * (ks.length * 2)) ≤ 10 * (10 * (10 * 2)) := Nat.mul_le_mul (by omega) (Nat.mul_le_mul (by omega) (Nat.mul_le_mul (by omega) (Nat.le_refl _)))
            have b2 : i2 * (ks.length * 2) ≤ 10 * (10 * 2) := Nat.mul_le_mul (by omega) (Nat.mul_le_mul (by omega) (Nat.le_refl _))
            exact Nat.le_of_lt (szl (by show _ + 2 < 1000000; omega))
          · have s6 : Sub H3 _ := ((Sub.new (o := .tup ((plK (i1, i2, i3, 0)).map kV)) hq1).trans (Sub.new (o := .tup ((plK (i1, i2, i3, 1)).map kV)) hq2)).trans (Sub.new (o := .lst [.ref q1, .ref q2]) hlq)
            have hk1 : H q1 = none := s3.free hq1
            have hk2 : H q2 = none := (s3.trans (Sub.new (o := .tup ((plK (i1, i2, i3, 0)).map kV)) hq1)).free hq2
            have g1 := Sub.new (o := .lst [.ref q1, .ref q2]) hlq _ _ (Sub.new (o := .tup ((plK (i1, i2, i3, 1)).map kV)) hq2 _ _ (upd_same (H := H3) (a := q1) (o := .tup ((plK (i1, i2, i3, 0)).map kV))))
            have g2 := Sub.new (o := .lst [.ref q1, .ref q2]) hlq _ _ (upd_same (H := upd H3 q1 (.tup ((plK (i1, i2, i3, 0)).map kV))) (a := q2) (o := .tup ((plK (i1, i2, i3, 1)).map kV)))
            have all := paired_app (hps.mono (B := _) fun q o _ e _ => s6 q o e) (.cons ⟨hk1, g1⟩ (.cons ⟨hk2, g2⟩ .nil) : PlAt H _ [q1, q2] (pl3 i1 i2 i3))
            refine ⟨_, ps ++ [q1, q2], rfl, (s3.trans s6).mut hp, by rw [List.map_append]; exact upd_same, ?_⟩
            rw [flat_succ, ← List.append_assoc]
            refine PlAt.mono all fun q o _ e ⟨vs, ev⟩ => ?_
            rw [upd_ne (ne_of e h6p (by rw [ev]; intro z; cases z))]
            exact e
        · rintro σ H3 ⟨u4, ps, rfl, s3, h3p, hps⟩
          refine ⟨_, _, ps, rfl, s3, h3p, ?_⟩
          rw [flat_succ, ← List.append_assoc]
          exact hps
      · rintro σ H2 ⟨u3, u4, ps, rfl, s2, h2p, hps⟩
        refine ⟨_, _, _, ps, rfl, s2, h2p, ?_⟩
        rw [flat_succ]
        exact hps
    · rintro σ H1 ⟨u2, u3, u4, ps, rfl, s1, h1p, hps⟩
      exact ⟨_, rfl, k p ps H1 s1 hp h1p hps⟩
end
end KZ

namespace KZ
open PySem PySem.Spec PyProof.Rows L2
def side (c : Cp) (d : Nat) : Str := if d = 0 then c.1 else c.2
/-- the word at a place -/
def wordAt (j : Jud) (p : Pl) : Str := side (((j.getD p.1 []).getD p.2.1 []).getD p.2.2.1 ("", "")) p.2.2.2
def PlIn (n m : Nat) (p : Pl) : Prop := p.1 < m ∧ p.2.1 < n ∧ p.2.2.1 < n ∧ p.2.2.2 < 2
theorem getD_of {α : Type} {l : List α} {i : Nat} (h : i < l.length) (d : α) : l[i]? = some (l.getD i d) := by
  rw [List.getD_eq_getElem?_getD, List.getElem?_eq_getElem h]
  rfl
theorem mem_plL {n m : Nat} {p : Pl} (h : p ∈ plL n m) : PlIn n m p := by
  unfold plL pl1 pl2 pl3 at h
  obtain ⟨s, hs, h⟩ := List.mem_flatMap.mp h
  obtain ⟨a, ha, h⟩ := List.mem_flatMap.mp h
  obtain ⟨k, hk, h⟩ := List.mem_flatMap.mp h
  have := List.mem_range.mp hs
  have := List.mem_range.mp ha
  have := List.mem_range.mp hk
  rcases List.mem_cons.mp h with h | h
  · rw [h]
    exact ⟨by assumption, by assumption, by assumption, by show 0 < 2; decide⟩
  · rw [List.mem_singleton.mp h]
    exact ⟨by assumption, by assumption, by assumption, by show 1 < 2; decide⟩
theorem plL_mem {n m : Nat} {p : Pl} (h : PlIn n m p) : p ∈ plL n m := by
  obtain ⟨s, a, k, d⟩ := p
  obtain ⟨h1, h2, h3, h4⟩ := h
  refine List.mem_flatMap.mpr ⟨s, List.mem_range.mpr h1, List.mem_flatMap.mpr ⟨a, List.mem_range.mpr h2, List.mem_flatMap.mpr ⟨k, List.mem_range.mpr h3, ?_⟩⟩⟩
  have h4 : d < 2 := h4
  rcases (by omega : d = 0 ∨ d = 1) with z | z
  · rw [z]
    exact List.mem_cons_self
  · rw [z]
    exact List.mem_cons_of_mem _ List.mem_cons_self
theorem plK_inj {p q : Pl} (h : plK p = plK q) : p = q := by
  obtain ⟨a, b, c, d⟩ := p
  obtain ⟨a', b', c', d'⟩ := q
  simp only [plK, List.cons.injEq, Sum.inl.injEq] at h
  obtain ⟨h1, h2, h3, h4, _⟩ := h
  have e1 : a = a' := by omega
  have e2 : b = b' := by omega
  have e3 : c = c' := by omega
  have e4 : d = d' := by omega
  rw [e1, e2, e3, e4]
def plHash (p : Pl) : Int := reduceHash (Builtin.Tuple.tupleHashOf [hashInt (p.1 : Int), hashInt (p.2.1 : Int), hashInt (p.2.2.1 : Int), hashInt (p.2.2.2 : Int)])
theorem hash_nd : ∀ n, n < 6 → ∀ m, m < 4 → ((plL n m).map plHash).Nodup := by decide +kernel
theorem keys_nd : ∀ n, n < 6 → ∀ m, m < 4 → ((plL n m).map plK).Nodup := by
  intro n hn m hm
  have q := List.pairwise_map.mp (hash_nd n hn m hm)
  exact List.pairwise_map.mpr (q.imp fun hab e => hab (by rw [plK_inj e]))
theorem judAt {n m : Nat} {j : Jud} (ok : JudOk n m j) {p : Pl} (h : PlIn n m p) : j[p.1]? = some (j.getD p.1 []) ∧ (j.getD p.1 [])[p.2.1]? = some ((j.getD p.1 []).getD p.2.1 []) ∧ ((j.getD p.1 []).getD p.2.1 [])[p.2.2.1]? = some (((j.getD p.1 []).getD p.2.1 []).getD p.2.2.1 ("", "")) := by
  obtain ⟨h1, h2, h3, h4⟩ := h
  have e1 : j[p.1]? = some (j.getD p.1 []) := getD_of (by rw [ok.1]; exact h1) _
  have t := ok.2 _ (List.mem_of_getElem? e1)
  have e2 : (j.getD p.1 [])[p.2.1]? = some ((j.getD p.1 []).getD p.2.1 []) := getD_of (by rw [t.1]; exact h2) _
  have r := t.2 _ (List.mem_of_getElem? e2)
  exact ⟨e1, e2, getD_of (by rw [r.1]; exact h3) _⟩
def spWat (K : PySem.W.Frag) : Sp := fun vs H Q _ => ∃ (M : List Addr) (d0 d1 : PyData) (j : Jud) (n m : Nat) (p : Pl) (vh vp : V), vs = [vh, vp] ∧ Kn M H ∧ Dm K M H vh (.tuple [d0, d1, judD j]) ∧ Dm K M H vp (plD p) ∧ JudOk n m j ∧ PlIn n m p ∧ ∀ H', Sub H H' → Q (.str (wordAt j p)) H'
def wordsK (n m : Nat) (f : Pl → Str) : List (List L2.Key × V) := (plL n m).map fun p => (plK p, .str (f p))
def spWords (K : PySem.W.Frag) : Sp := fun vs H Q _ => ∃ (M : List Addr) (h : Hou) (v : V), vs = [v] ∧ Kn M H ∧ Dm K M H v (houD h) ∧ HouOk h ∧ h.ks.length < 6 ∧ h.ss.length < 4 ∧
  ∀ d H', Sub H H' → H d = none → H' d = some (.dT (wordsK h.ks.length h.ss.length (wordAt h.j))) → Q (.ref d) H'
section
variable {P : Program} {w : World} {K : PySem.W.Frag} {mg : Str → Option Value} {base : Heap}
abbrev sWat : Stmt := topS 25
theorem scWat : FnScope ["house", "place"] ["house", "place"] (defScope sWat) := ⟨rfl, rfl, rfl, by decide +kernel, rfl, by decide +kernel, by decide +kernel⟩
theorem ok_wat {f : Addr} {fd : FuncData} (F : Fun K "_law_word_at" "_law_word_at" sWat f fd) : FnOk P w K mg base CX0 1 f fd ["house", "place"] (spWat K) := by
  refine F.ok scWat (fun vs H Q E h => ?_) (fun cdv A outer s H vs Q E hr h => ?_)
  · obtain ⟨M, d0, d1, j, n, m, p, vh, vp, rfl, _⟩ := h
    rfl
  · obtain ⟨M, d0, d1, j, n, m, p, vh, vp, rfl, kn, hh, hp, ok, hin, k⟩ := h
    refine ⟨_, pss_one (ps_ret (pe_ix ix_tup (pe_ix ix_tup (pe_ix ix_tup (pe_ix ix_tup (pe_ix ix_tup (pv 0) pe_int (fun _ _ => rfl)) (pe_ix ix_tup (pv 1) pe_int (fun _ _ => rfl)) (fun _ _ => rfl)) (pe_ix ix_tup (pv 1) pe_int (fun _ _ => rfl)) (fun _ _ => rfl))
      (pe_ix ix_tup (pv 1) pe_int (fun _ _ => rfl)) (fun _ _ => rfl)) (pe_ix ix_tup (pv 1) pe_int (fun _ _ => rfl)) (fun _ _ => rfl))), ?_⟩
    obtain ⟨e1, e2, e3⟩ := judAt ok hin
    have hd := hin.2.2.2
    have σh : EvD K M (tVar 0) ([some vh, some vp] : L2.St) H (.tuple [d0, d1, judD j]) := evd_var rfl hh
    have σp : EvD K M (tVar 1) ([some vh, some vp] : L2.St) H (plD p) := evd_var rfl hp
    have q0 : EvD K M _ ([some vh, some vp] : L2.St) H (judD j) := evd_ixT σh (evd_int (i := 2)) (by decide) rfl
    have q1 : EvD K M _ ([some vh, some vp] : L2.St) H (tabD (j.getD p.1 [])) := evd_ixT q0 (evd_ixT σp (evd_int (i := 0)) (by decide) rfl) (Int.natCast_nonneg _) (by rw [Int.toNat_natCast, List.getElem?_map, e1] <;> rfl)
    have q2 : EvD K M _ ([some vh, some vp] : L2.St) H (rowD ((j.getD p.1 []).getD p.2.1 [])) := evd_ixT q1 (evd_ixT σp (evd_int (i := 1)) (by decide) rfl) (Int.natCast_nonneg _) (by rw [Int.toNat_natCast, List.getElem?_map, e2] <;> rfl)
    have q3 : EvD K M _ ([some vh, some vp] : L2.St) H (cpD (((j.getD p.1 []).getD p.2.1 []).getD p.2.2.1 ("", ""))) := evd_ixT q2 (evd_ixT σp (evd_int (i := 2)) (by decide) rfl) (Int.natCast_nonneg _) (by rw [Int.toNat_natCast, List.getElem?_map, e3] <;> rfl)
    refine evd_ret (K := K) (M := M) (d := .str (wordAt j p)) (evd_ixT q3 (evd_ixT σp (evd_int (i := 3)) (by decide) rfl) (Int.natCast_nonneg _) ?_) fun v H1 s1 hv => ?_
    · rw [Int.toNat_natCast]
      unfold wordAt side
      rcases (by omega : p.2.2.2 = 0 ∨ p.2.2.2 = 1) with z | z
      · rw [z]
        rfl
      · rw [z]
        rfl
    · cases hv.strAt
      exact k H1 s1
theorem bootDict : bootBuiltins "dict" = some (.type "dict") := by decide +kernel
theorem plD_at {M : List Addr} {H0 H : Hp} {q : Addr} {p : Pl} (kn : Kn M H0) (h0 : H0 q = none) (e : H q = some (.tup ((plK p).map kV))) : Dm K M H (.ref q) (plD p) :=
  .tup (SqT.of (by rw [er_in (kn.out h0)]; exact e)) (.cons (.int _) (.cons (.int _) (.cons (.int _) (.cons (.int _) .nil))))
abbrev sWords : Stmt := topS 30
theorem scWords : FnScope ["house", "place"] ["house"] (defScope sWords) := ⟨rfl, rfl, rfl, by decide +kernel, rfl, by decide +kernel, by decide +kernel⟩
theorem paired_at {α β : Type} {F : α → β → Prop} : ∀ {l : List α} {m : List β} {i : Nat} {a : α}, Paired F l m → l[i]? = some a → ∃ b, m[i]? = some b ∧ F a b
  | _, _, _, _, .nil, e => by simp at e
  | _, _, 0, _, .cons h _, e => by
    cases Option.some.inj e
    exact ⟨_, rfl, h⟩
  | _, _, i + 1, _, .cons _ t, e => paired_at (i := i) t e
theorem ok_words {f fP fW : Addr} {fd fdP fdW : FuncData} (F : Fun K "_law_words" "_law_words" sWords f fd) (T : Txt mg) (CP : Cal P w K mg base "_law_places" 1 ["house"] (spPlaces K) fP fdP) (CW : Cal P w K mg base "_law_word_at" 1 ["house", "place"] (spWat K) fW fdW) :
    FnOk P w K mg base CX0 2 f fd ["house"] (spWords K) := by
  refine F.ok scWords (fun vs H Q E h => ?_) (fun cdv A outer s H vs Q E hr h => ?_)
  · obtain ⟨M, h, v, rfl, _⟩ := h
    rfl
  · obtain ⟨M, h, v, rfl, kn, hv, ok, kz, sz, k⟩ := h
    refine ⟨_, pss_one (ps_ret (pe_callTy (call_dictT rfl hr.units) (by rfl) T.dict bootDict (pa_cons
      (pe_lc (own := [("place", 1)]) (g := gName 1) (tt := tYes) rfl scWords.nd (pi_list (pcl CP hr (pa_cons (pv 0) pa_nil))) (blkOk_by (N := ["house", "place"]) (sc := defScope sWords) (by decide +kernel)) (fun _ _ _ _ _ => pg_name (i := 1) scWords.nd rfl (Or.inl rfl)) (fun _ _ _ _ _ => pts_nil)
        (fun _ _ _ _ _ => pe_tup (pa_cons (pv 1) (pa_cons (pcl CW hr (pa_cons (pv 0) (pa_cons (pv 1) pa_nil))) pa_nil)))) pa_nil))), ?_⟩
    refine ret_of (cb_args ?_)
    have ksl : (h.ks.map kdD).length = h.ks.length := List.length_map _
    have ssl : (h.ss.map PyData.str).length = h.ss.length := List.length_map _
    refine ⟨_, rfl, M, v, _, _, _, rfl, kn, hv, by omega, by omega, fun p ps H1 s1 hp h1p hpl => ?_⟩
    rw [ksl, ssl] at hpl
    refine ⟨p, rfl, ⟨_, SqL.of h1p⟩, fun Dl hD => ?_⟩
    have hpsl := paired_len hpl
    refine lc_list (K := K) (a := p) (xs := ps.map V.ref) (fun i H' => Sub H1 H' ∧ ∃ rs : List PRow, H' Dl = some (.lst (rs.map fun r => V.ref r.p)) ∧ rs.map (fun r => (r.k, r.v)) = ((plL h.ks.length h.ss.length).take i).map (fun p => (plK p, V.str (wordAt h.j p))) ∧
        ∀ r ∈ rs, H' r.p = some (.tup [.ref r.a, r.v]) ∧ H' r.a = some (.tup (r.k.map kV)))
      ⟨Sub.new hD, [], upd_same, rfl, by simp⟩ (fun i H' _ pp => SqL.of (pp.1 _ _ h1p)) (fun i x H' hi pp => ?_) (fun H' pp => ?_)
    · obtain ⟨sp, rs, p1, p2, p3⟩ := pp
      rw [List.getElem?_map] at hi
      obtain ⟨q, hq, rfl⟩ := Option.map_eq_some_iff.mp hi
      obtain ⟨pl, hpi, hq0, hq1⟩ := paired_at hpl hq
      have hqH := sp _ _ hq1
      have hin := mem_plL (List.mem_of_getElem? hpi)
      have s01 := s1.trans sp
      refine ⟨rfl, ?_⟩
      unfold tYes
      dsimp only
      rw [if_pos rfl]
      refine ⟨_, rfl, _, rfl, _, rfl, M, _, _, h.j, h.ks.length, h.ss.length, pl, v, _, rfl, kn.sub s01, Dm.s hv s01, plD_at kn hq0 hqH, ok.j, hin, fun H3 s3 => ⟨by show 2 ≤ sizeLine; decide, fun z hz => ?_⟩⟩
      have hl : rs.length = i := by
        have e := congrArg List.length p2
        rw [List.length_map, List.length_map, List.length_take] at e
        have := (List.getElem?_eq_some_iff.mp hpi).1
        omega
      have hil : i < (plL h.ks.length h.ss.length).length := (List.getElem?_eq_some_iff.mp hpi).1
      rw [len0] at hil
      have hb : h.ss.length * (h.ks.length * (h.ks.length * 2)) ≤ 4 * (6 * (6 * 2)) := Nat.mul_le_mul (by omega) (Nat.mul_le_mul (by omega) (Nat.mul_le_mul (by omega) (Nat.le_refl _)))
      have s4 : Sub H' (upd H3 z (.tup [.ref q, .str (wordAt h.j pl)])) := s3.trans (Sub.new hz)
      refine ⟨_, s4 _ _ p1, szl (by rw [List.length_map]; omega), (sp.trans s4).mut hD, rs ++ [⟨z, q, plK pl, .str (wordAt h.j pl)⟩], by rw [List.map_append]; exact upd_same, ?_, ?_⟩
      · rw [take_snoc hpi, List.map_append, List.map_append, p2]
        rfl
      · have nD : ∀ {r : Addr} {o : HO}, upd H3 z (.tup [.ref q, .str (wordAt h.j pl)]) r = some o → (∃ vs, o = .tup vs) → r ≠ Dl := fun e ⟨vs, ev⟩ => ne_of e (s4 _ _ p1) (by rw [ev]; intro y; cases y)
        intro r hr'
        rcases List.mem_append.mp hr' with g | g
        · obtain ⟨g1, g2⟩ := p3 r g
          have g1' := s4 _ _ g1
          have g2' := s4 _ _ g2
          exact ⟨by rw [upd_ne (nD g1' ⟨_, rfl⟩)]; exact g1', by rw [upd_ne (nD g2' ⟨_, rfl⟩)]; exact g2'⟩
        · rw [List.mem_singleton.mp g]
          have g1' : upd H3 z (.tup [.ref q, .str (wordAt h.j pl)]) z = some (.tup [.ref q, .str (wordAt h.j pl)]) := upd_same
          have g2' := s4 _ _ hqH
          exact ⟨by rw [upd_ne (nD g1' ⟨_, rfl⟩)]; exact g1', by rw [upd_ne (nD g2' ⟨_, rfl⟩)]; exact g2'⟩
    · obtain ⟨sp, rs, p1, p2, p3⟩ := pp
      rw [List.length_map, hpsl, List.take_length] at p2
      refine ⟨Dl, rs, rfl, SqL.of p1, fun r hr' => ⟨SqT.of (p3 r hr').1, (p3 r hr').2⟩, ?_, fun d hd => ?_⟩
      · have e : rs.map (·.k) = (plL h.ks.length h.ss.length).map plK := by
          have := congrArg (List.map Prod.fst) p2
          rw [List.map_map, List.map_map] at this
          exact this
        rw [e]
        exact keys_nd _ (by omega) _ (by omega)
      · rw [p2]
        exact k d _ ((s1.trans sp).trans (Sub.new hd)) ((s1.trans sp).free hd) upd_same
end
end KZ

namespace KZ
open PySem PySem.Spec PyProof.Rows L2
def rowF (f : Pl → Str) (n s a : Nat) : Row := (List.range n).map fun h => (f (s, a, h, 0), f (s, a, h, 1))
def tabF (f : Pl → Str) (n s : Nat) : Tab := (List.range n).map fun a => rowF f n s a
def judF (f : Pl → Str) (n m : Nat) : Jud := (List.range m).map fun s => tabF f n s
def unI : PyData → Nat
  | .int i => i.toNat
  | _ => 0
def intsD (n : Nat) : List PyData := (List.range n).map fun i : Nat => PyData.int (i : Int)
theorem rg_data {K : PySem.W.Frag} {H : Hp} (n : Nat) : DpAll K H (rgV 0 (n : Int)) (intsD n) := by
  have e : rgV 0 (n : Int) = (List.range n).map fun i : Nat => V.int (i : Int) := by
    unfold rgV
    rw [show ((n : Int) - 0).toNat = n by omega]
    exact List.map_congr_left fun i _ => congrArg V.int (Int.zero_add _)
  rw [e]
  unfold intsD
  generalize List.range n = l
  induction l with
  | nil => exact .nil
  | cons a l ih => exact .cons (.int _) ih
def spWwords (K : PySem.W.Frag) : Sp := fun vs H Q _ => ∃ (M : List Addr) (h : Hou) (f : Pl → Str) (v : V) (d : Addr) (kvs : List (List L2.Key × V)), vs = [v, .ref d] ∧ Kn M H ∧ Dm K M H v (houD h) ∧ h.ks.length < 6 ∧ h.ss.length < 4 ∧ H d = some (.dT kvs) ∧
  (∀ p, PlIn h.ks.length h.ss.length p → valV kvs (plK p) = some (.str (f p))) ∧
  ∀ y H', Sub H H' → Dm K M H' y (houD ⟨h.ks, h.ss, judF f h.ks.length h.ss.length⟩) → Q y H'
section
variable {K : PySem.W.Frag} {M : List Addr} {σ : L2.St} {H H' : Hp}
theorem evd_dget {i a b c : Nat} {d : Addr} {kvs : List (List L2.Key × V)} {x : Str} {p : Pl} (hd : σ[i]? = some (some (.ref d))) (e : H d = some (.dT kvs)) (ha : σ[a]? = some (some (.int (p.1 : Int)))) (hb : σ[b]? = some (some (.int (p.2.1 : Int)))) (hc : σ[c]? = some (some (.int (p.2.2.1 : Int))))
    (hv : valV kvs (plK p) = some (.str x)) : EvD K M (tDGet (tVar i) (tTup (tCons (tVar a) (tCons (tVar b) (tCons (tVar c) (tCons (tC (.int (p.2.2.2 : Int))) tNil)))))) σ H (.str x) := fun H1 s Q q =>
  ⟨_, hd, _, ha, _, hb, _, hc, by show 4 ≤ sizeLine; decide, fun z hz => ⟨d, .str x, rfl, by
    rw [← hv]
    exact DGet.t (Sub.new hz _ _ (s _ _ e)) upd_same, q _ _ (Sub.new hz) (.str x)⟩⟩
end
section
variable {P : Program} {w : World} {K : PySem.W.Frag} {mg : Str → Option Value} {base : Heap}
abbrev sWwords : Stmt := topS 29
theorem scWwords : FnScope ["house", "places", "many", "judge", "sort", "rows", "asker", "one"] ["house", "places"] (defScope sWwords) := ⟨rfl, rfl, rfl, by decide +kernel, rfl, by decide +kernel, by decide +kernel⟩
theorem ok_wwords {f : Addr} {fd : FuncData} (F : Fun K "_law_with_words" "_law_with_words" sWwords f fd) (T : Txt mg) : FnOk P w K mg base CX0 1 f fd ["house", "places"] (spWwords K) := by
  refine F.ok scWwords (fun vs H Q E h => ?_) (fun cdv A outer s H vs Q E hr h => ?_)
  · obtain ⟨M, h, g, v, d, kvs, rfl, _⟩ := h
    rfl
  · obtain ⟨M, h, g, v, d, kvs, rfl, kn, hv, kz, sz, hd, hval, k⟩ := h
    refine ⟨_, pss_cons (ps_par (i := 2) (j := 3) rfl scWwords.nd rfl rfl (by decide) rfl rfl (pa_cons (pe_listRg rfl rfl T.list (prg_1 rfl T.range (pe_callB call_len_seq (by rfl) T.len PySem.boot_len (pa_cons (pe_ix ix_tup (pv 0) pe_int (fun _ _ => rfl)) pa_nil)))) (pa_cons (pe_lst pa_nil) pa_nil)) rfl)
      (pss_cons (ps_for PassesOwn.never rfl (pi_range1 rfl T.range (pa_cons (pe_callB call_len_seq (by rfl) T.len PySem.boot_len (pa_cons (pe_ix ix_tup (pv 0) pe_int (fun _ _ => rfl)) pa_nil)) pa_nil)) (pg_name (i := 4) scWwords.nd rfl (Or.inr rfl))
        (pss_cons (ps_set (i := 5) scWwords.nd rfl (Or.inl rfl) (pe_lst pa_nil))
        (pss_cons (ps_for PassesOwn.never rfl (pi_list (pv 2)) (pg_name (i := 6) scWwords.nd rfl (Or.inr rfl))
          (pss_one (ps_expr (pe_bm PySem.F.plainAttrs_list PySem.F.slot_list_append PySem.F.type_list_append mt_append (pv 5) (pa_cons (pe_callTy call_tuple_of (by rfl) T.tuple bootTuple (pa_cons
            (pe_lc (own := [("one", 7)]) (g := gName 7) (tt := tYes) rfl scWwords.nd (pi_list (pv 2)) (blkOk_by (N := ["house", "places", "many", "judge", "sort", "rows", "asker", "one"]) (sc := defScope sWwords) (by decide +kernel)) (fun _ _ _ _ _ => pg_name (i := 7) scWwords.nd rfl (Or.inl rfl)) (fun _ _ _ _ _ => pts_nil)
              (fun _ _ _ _ _ => pe_tup (pa_cons (pe_dget (hu_of hr) (pv 1) (pe_tup (pa_cons (pv 4) (pa_cons (pv 6) (pa_cons (pv 7) (pa_cons pe_int pa_nil))))) (fun _ _ => rfl)) (pa_cons (pe_dget (hu_of hr) (pv 1) (pe_tup (pa_cons (pv 4) (pa_cons (pv 6) (pa_cons (pv 7) (pa_cons pe_int pa_nil))))) (fun _ _ => rfl)) pa_nil)))) pa_nil)) pa_nil)))))
        (pss_one (ps_expr (pe_bm PySem.F.plainAttrs_list PySem.F.slot_list_append PySem.F.type_list_append mt_append (pv 3) (pa_cons (pe_callTy call_tuple_of (by rfl) T.tuple bootTuple (pa_cons (pv 5) pa_nil)) pa_nil)))))))
      (pss_one (ps_ret (pe_tup (pa_cons (pe_ix ix_tup (pv 0) pe_int (fun _ _ => rfl)) (pa_cons (pe_ix ix_tup (pv 0) pe_int (fun _ _ => rfl)) (pa_cons (pe_callTy call_tuple_of (by rfl) T.tuple bootTuple (pa_cons (pv 3) pa_nil)) pa_nil))))))), ?_⟩
    have ksl : (h.ks.map kdD).length = h.ks.length := List.length_map _
    have ssl : (h.ss.map PyData.str).length = h.ss.length := List.length_map _
    have eh {H' : Hp} (s : Sub H H') : Dm K M H' v (.tuple [.tuple (h.ks.map kdD), .tuple (h.ss.map PyData.str), judD h.j]) := Dm.s hv s
    obtain ⟨a0, xs0, y0, rfl, hs0, hat0, hy0⟩ := dm_getT (i := 0) (eh (Sub.refl H)) (by decide) rfl
    obtain ⟨b0, ys0, rfl, hs0', ha0⟩ := hy0.tupAt
    have l0 := ha0.len
    rw [ksl] at l0
    refine ⟨_, rfl, a0, xs0, 0, _, rfl, rfl, hs0, hat0, b0, ys0, rfl, .inr hs0', _, rfl, RgOk.of_le (by decide) (by omega) (by decide) (by omega), fun pm hm => ?_⟩
    refine ⟨Nat.zero_le _, fun pj hj => ⟨_, _, rfl, ?_⟩⟩
    rw [l0] at hj ⊢
    have hm0 := hm
    have sm : Sub H (upd H pm (.lst (rgV 0 (h.ks.length : Int)))) := Sub.new hm
    have hj0 : H pj = none := sm.free hj
    have nmj : pm ≠ pj := ne_of_none upd_same hj
    refine sfor (for_len (i := 1) (rs := h.ss.map PyData.str) rfl (eh (sm.trans (Sub.new hj))) (by decide) rfl (by omega) (fun i σ H' => ∃ (u4 u5 u6 : Option V) (vs : List V), σ = [some (.ref a0), some (.ref d), some (.ref pm), some (.ref pj), u4, u5, u6, none] ∧ Sub H H' ∧ H' pj = some (.lst vs) ∧ Dms K (pj :: M) H' vs (((List.range i).map fun s => tabF g h.ks.length s).map tabD) ∧ H' pm = some (.lst (rgV 0 (h.ks.length : Int))))
      ⟨none, none, none, [], rfl, sm.trans (Sub.new hj), upd_same, .nil, Sub.new hj _ _ upd_same⟩ ?_ ?_)
    · rintro i σ H1 hi ⟨u4, u5, u6, vs, rfl, s1, h1j, hvs, h1m⟩
      refine gname_of (sset_of (lst_of (nil_of ⟨Nat.zero_le _, fun pr hr1 => ?_⟩)))
      have hr0 : H pr = none := s1.free hr1
      have njr : pj ≠ pr := ne_of_none h1j hr1
      have nmr : pm ≠ pr := ne_of_none h1m hr1
      have kr {o : HO} : Kp (pr :: pj :: M) H1 (upd H1 pr o) := Kp.mut List.mem_cons_self
      refine sfor ⟨_, rfl, pm, rfl, ⟨_, SqL.of (Sub.new hr1 _ _ h1m)⟩, for_list (K := K) (a := pm) (xs := rgV 0 (h.ks.length : Int)) (fun i2 σ H' => ∃ (u6 : Option V) (ws : List V), σ = [some (.ref a0), some (.ref d), some (.ref pm), some (.ref pj), some (.int (i : Int)), some (.ref pr), u6, none] ∧ Sub H H' ∧ H' pr = some (.lst ws) ∧ Dms K (pr :: pj :: M) H' ws (((List.range i2).map fun a => rowF g h.ks.length i a).map rowD) ∧
          H' pm = some (.lst (rgV 0 (h.ks.length : Int))) ∧ H' pj = some (.lst vs) ∧ Dms K (pr :: pj :: M) H' vs (((List.range i).map fun s => tabF g h.ks.length s).map tabD))
        ⟨u6, [], rfl, s1.trans (Sub.new hr1), upd_same, .nil, Sub.new hr1 _ _ h1m, Sub.new hr1 _ _ h1j, (hvs.more hr1).k kr⟩ (fun i2 σ H' _ ⟨_, _, _, _, _, _, q, _⟩ => SqL.of q) ?_ ?_⟩
      · rintro i2 x σ H2 hi2 ⟨u6, ws, rfl, s2, h2r, hws, h2m, h2j, hvs2⟩
        have hx : x = V.int (i2 : Int) ∧ i2 < h.ks.length := by
          have e := (List.getElem?_eq_some_iff.mp hi2)
          have l := rgV_length 0 (h.ks.length : Int)
          unfold rgV at hi2
          rw [List.getElem?_map] at hi2
          obtain ⟨w, hw, rfl⟩ := Option.map_eq_some_iff.mp hi2
          have hw' := List.getElem?_eq_some_iff.mp hw
          obtain ⟨q1, q2⟩ := hw'
          rw [List.getElem_range] at q2
          rw [List.length_range] at q1
          exact ⟨by rw [q2, Int.zero_add], by omega⟩
        obtain ⟨rfl, hi2n⟩ := hx
        have kn2 : Kn (pr :: pj :: M) H2 := ((kn.sub s2).more ⟨_, h2j⟩).more ⟨_, h2r⟩
        have nM : pm ∉ pr :: pj :: M := by
          intro q
          rcases List.mem_cons.mp q with q | q
          · exact nmr q
          · rcases List.mem_cons.mp q with q | q
            · exact nmj q
            · exact (kn.out hm0) q
        refine gname_of ⟨_, rfl, .inl ⟨rfl, _, SqL.of h2r⟩, args1 (cb_args ?_)⟩
        have em : EvD K (pr :: pj :: M) (tVar 2) ([some (.ref a0), some (.ref d), some (.ref pm), some (.ref pj), some (.int (i : Int)), some (.ref pr), some (.int (i2 : Int)), none] : L2.St) H2 (.list (intsD h.ks.length)) := evd_var rfl (.lst (SqL.of (by rw [er_in nM]; exact h2m)) (rg_data _))
        refine evd_lc (g := fun e => cpD (g (i, i2, unI e, 0), g (i, i2, unI e, 1))) kn2 em (by unfold intsD; rw [List.length_map, List.length_range]; omega) (by intro z; rfl) ?_ H2 (Sub.refl _) _ fun p xs H3 s3 hp h3p hxs => ?_
        · intro Dl hD e x H3 s3 n3 he hx
          obtain ⟨i3, hi3, rfl⟩ := List.mem_map.mp he
          have hi3n := List.mem_range.mp hi3
          cases Dm.intAt hx
          have hd3 := s3 _ _ (s2 _ _ hd)
          have in0 : PlIn h.ks.length h.ss.length (i, i2, i3, 0) := ⟨by show i < _; omega, hi2n, hi3n, by show 0 < 2; decide⟩
          have in1 : PlIn h.ks.length h.ss.length (i, i2, i3, 1) := ⟨by show i < _; omega, hi2n, hi3n, by show 1 < 2; decide⟩
          exact evd_tup n3 (evds_cons (evd_dget (p := (i, i2, i3, 0)) rfl hd3 rfl rfl rfl (hval _ in0)) (evds_cons (evd_dget (p := (i, i2, i3, 1)) rfl hd3 rfl rfl rfl (hval _ in1)) evds_nil)) lt2
        · refine ⟨p, xs, rfl, .inl ⟨SqL.of h3p, fun z hz => ?_⟩⟩
          have s4 : Sub H2 (upd H3 z (.tup xs)) := s3.trans (Sub.new hz)
          have h4r := s4 _ _ h2r
          have kr4 {o : HO} : Kp (pr :: pj :: M) (upd H3 z (.tup xs)) (upd (upd H3 z (.tup xs)) pr o) := Kp.mut List.mem_cons_self
          have hz4 : Dm K (pr :: pj :: M) (upd H3 z (.tup xs)) (.ref z) (rowD (rowF g h.ks.length i i2)) := by
            have q := Dm.tupNew (kn2.sub s3) hz (hxs.less fun a m => List.mem_cons_of_mem _ m)
            have e : (intsD h.ks.length).map (fun e => cpD (g (i, i2, unI e, 0), g (i, i2, unI e, 1))) = (rowF g h.ks.length i i2).map cpD := by
              unfold intsD rowF
              rw [List.map_map, List.map_map]
              rfl
            rw [e] at q
            exact q
          have wl := hws.len
          rw [List.length_map, List.length_map, List.length_range] at wl
          refine ⟨pr, ws, _, rfl, rfl, h4r, szl (by omega), ?_⟩
          refine ⟨_, _, rfl, (s2.trans s4).mut hr0, upd_same, ?_, by rw [upd_ne nmr]; exact s4 _ _ h2m, by rw [upd_ne njr]; exact s4 _ _ h2j, (Dms.s hvs2 s4).k kr4⟩
          rw [List.range_succ, List.map_append, List.map_append]
          exact Dms.k ((Dms.s hws s4).app (DpAll.one hz4)) kr4
      · rintro σ H2 ⟨u6, ws, rfl, s2, h2r, hws, h2m, h2j, hvs2⟩
        rw [rgV_length, show ((h.ks.length : Int) - 0).toNat = h.ks.length by omega] at hws
        have kn2 : Kn (pj :: M) H2 := (kn.sub s2).more ⟨_, h2j⟩
        refine ⟨_, rfl, .inl ⟨rfl, _, SqL.of h2j⟩, _, rfl, pr, ws, rfl, .inl ⟨SqL.of h2r, fun z hz => ?_⟩⟩
        have s3 : Sub H2 (upd H2 z (.tup ws)) := Sub.new hz
        have h3j := s3 _ _ h2j
        have kj {o : HO} : Kp (pj :: M) (upd H2 z (.tup ws)) (upd (upd H2 z (.tup ws)) pj o) := Kp.mut List.mem_cons_self
        have hz3 : Dm K (pj :: M) (upd H2 z (.tup ws)) (.ref z) (tabD (tabF g h.ks.length i)) := Dm.tupNew kn2 hz (hws.less fun a m => List.mem_cons_of_mem _ m)
        have vl := hvs2.len
        rw [List.length_map, List.length_map, List.length_range] at vl
        refine ⟨pj, vs, _, rfl, rfl, h3j, szl (by omega), ?_⟩
        refine ⟨_, _, _, _, rfl, (s2.trans s3).mut hj0, upd_same, ?_, by rw [upd_ne nmj]; exact s3 _ _ h2m⟩
        rw [List.range_succ, List.map_append, List.map_append]
        exact Dms.k ((Dms.s (hvs2.less fun a m => List.mem_cons_of_mem _ m) s3).app (DpAll.one hz3)) kj
    · rintro σ H1 ⟨u4, u5, u6, vs, rfl, s1, h1j, hvs, h1m⟩
      rw [ssl] at hvs
      have kn1 := kn.sub s1
      have σ0 {H' : Hp} (s : Sub H1 H') : EvD K M (tVar 0) ([some (.ref a0), some (.ref d), some (.ref pm), some (.ref pj), u4, u5, u6, none] : L2.St) H' (.tuple [.tuple (h.ks.map kdD), .tuple (h.ss.map PyData.str), judD h.j]) := evd_var rfl (eh (s1.trans s))
      have hvj : Dm K M H1 (.ref pj) (.list (((List.range h.ss.length).map fun s => tabF g h.ks.length s).map tabD)) := Dm.lstOf (kn.out hj0) h1j hvs
      refine ret_of (tup_of (cons_of (evd_ixT (σ0 (Sub.refl _)) (evd_int (i := 0)) (by decide) rfl H1 (Sub.refl _) _ fun v0 H2 s2 hv0 => cons_of (evd_ixT (σ0 s2) (evd_int (i := 1)) (by decide) rfl H2 (Sub.refl _) _ fun v1 H3 s3 hv1 => cons_of ?_))))
      have kn3 := kn1.sub (s2.trans s3)
      obtain ⟨a3, xs3, e3, hs3, ha3⟩ := (Dm.s hvj (s2.trans s3)).lstAt
      cases e3
      refine ⟨_, rfl, nil_of ⟨pj, xs3, rfl, .inl ⟨hs3, fun y hy => nil_of ⟨by show 3 ≤ sizeLine; decide, fun z hz => ?_⟩⟩⟩⟩
      have s4 : Sub H3 (upd H3 y (.tup xs3)) := Sub.new hy
      refine k _ _ (((s1.trans (s2.trans s3)).trans s4).trans (Sub.new hz)) ?_
      exact Dm.tupNew (kn3.sub s4) hz (.cons (Dm.s (Dm.s hv0 s3) s4) (.cons (Dm.s hv1 s4) (.cons (Dm.tupNew kn3 hy ha3) .nil)))
end
end KZ

namespace KZ
open PySem PySem.Spec PyProof.Rows L2
/-! data that can be shown -/
structure Good (d : PyData) (n k : Nat) : Prop where
  lay : d.canLay0 = true
  sh : d.showable = true
  nd : d.hasDict = false
  dp : d.depth ≤ k
  len : d.shown.length ≤ n
theorem Good.mono {d : PyData} {n k n' k' : Nat} (g : Good d n k) (h : n ≤ n') (h' : k ≤ k') : Good d n' k' := ⟨g.lay, g.sh, g.nd, Nat.le_trans g.dp h', Nat.le_trans g.len h⟩
theorem good_all {n k : Nat} : ∀ {ds : List PyData}, (∀ d ∈ ds, Good d n k) → PyData.canLayAll0 ds = true ∧ PyData.showableAll ds = true ∧ PyData.hasDictAll ds = false ∧ PyData.depthAll ds ≤ k ∧ piled (PyData.shownAll ds) ≤ ds.length * (n + 2)
  | [], _ => ⟨by simp only [PyData.canLayAll0], by simp only [PyData.showableAll], by simp only [PyData.hasDictAll], by simp only [PyData.depthAll]; exact Nat.zero_le _, by simp only [PyData.shownAll]; exact Nat.zero_le _⟩
  | d :: ds, h => by
    obtain ⟨h1, h2, h3, h4, h5⟩ := good_all fun x hx => h x (List.mem_cons_of_mem _ hx)
    have g := h d List.mem_cons_self
    refine ⟨by simp only [PyData.canLayAll0, g.lay, h1, Bool.and_self], by simp only [PyData.showableAll, g.sh, h2, Bool.and_self], by simp only [PyData.hasDictAll, g.nd, h3, Bool.or_self], by simp only [PyData.depthAll]; exact Nat.max_le.mpr ⟨g.dp, h4⟩, ?_⟩
    simp only [PyData.shownAll, piled_cons]
    have := g.len
    rw [List.length_cons, Nat.succ_mul]
    omega
theorem txt_len (ts : List Str) : (tupleText ts).length ≤ piled ts + 4 := by
  have e1 : (((if ts.length == 1 then ",)" else ")" : String) : Str)).length ≤ 2 := by
    split <;> decide +kernel
  have e2 : ((("(" : String) : Str)).length = 1 := rfl
  unfold tupleText
  rw [strLen_append, strLen_append, e2]
  by_cases z : ts = []
  · subst z
    decide +kernel
  · have := join_length_add ts z
    omega
theorem good_tup {ds : List PyData} {n k : Nat} (h : ∀ d ∈ ds, Good d n k) : Good (.tuple ds) (ds.length * (n + 2) + 4) (k + 1) := by
  obtain ⟨h1, h2, h3, h4, h5⟩ := good_all h
  refine ⟨by simp only [PyData.canLay0, h1], by simp only [PyData.showable, h2], by simp only [PyData.hasDict, h3], by simp only [PyData.depth]; omega, ?_⟩
  simp only [PyData.shown]
  have := txt_len (PyData.shownAll ds)
  omega
theorem good_str {l : List Str} (h : ∀ x ∈ l, PyData.strOk x = true ∧ (reprText x).length ≤ 20) {x : Str} (hx : x ∈ l) : Good (.str x) 20 0 :=
  ⟨by simp only [PyData.canLay0, (h x hx).1], by simp only [PyData.showable], by simp only [PyData.hasDict], by simp only [PyData.depth]; exact Nat.le_refl _, by simp only [PyData.shown]; exact (h x hx).2⟩
theorem names_ok : ∀ x ∈ Names, PyData.strOk x = true ∧ (reprText x).length ≤ 20 := by
  unfold Names
  decide +kernel
theorem words_ok : ∀ x ∈ Words, PyData.strOk x = true ∧ (reprText x).length ≤ 20 := by
  unfold Words
  decide +kernel
theorem good_bl (b : Bool) : Good (.bool b) 20 0 := by
  refine ⟨by simp only [PyData.canLay0], by simp only [PyData.showable], by simp only [PyData.hasDict], by simp only [PyData.depth]; exact Nat.le_refl _, ?_⟩
  simp only [PyData.shown]
  cases b <;> decide +kernel
theorem int_len : ∀ n : Nat, n < 16 → ((toString (n : Int) : String) : Str).length ≤ 20 := by decide +kernel
theorem good_int {i : Int} (h0 : 0 ≤ i) (h1 : i < 16) : Good (.int i) 20 0 := by
  have e : ((i.toNat : Nat) : Int) = i := by omega
  refine ⟨by simp only [PyData.canLay0], ?_, by simp only [PyData.hasDict], by simp only [PyData.depth]; exact Nat.le_refl _, ?_⟩
  · simp only [PyData.showable]
    refine decide_eq_true ?_
    have a : i.natAbs < 16 := by omega
    exact Nat.lt_of_le_of_lt (Nat.log2_le_self _) (by omega)
  · simp only [PyData.shown]
    have q := int_len i.toNat (by omega)
    rw [e] at q
    exact q
theorem good_kd {k : Kd} (hn : k.1 ∈ Names) (h0 : 0 ≤ k.2.2) (h1 : k.2.2 < 16) : Good (kdD k) 70 1 := by
  refine Good.mono (good_tup (n := 20) (k := 0) fun d hd => ?_) (by show 3 * (20 + 2) + 4 ≤ 70; decide) (Nat.le_refl _)
  simp only [List.mem_cons, List.not_mem_nil, or_false] at hd
  rcases hd with hd | hd | hd
  · rw [hd]
    exact good_str names_ok hn
  · rw [hd]
    exact good_bl _
  · rw [hd]
    exact good_int h0 h1
theorem good_cp {c : Cp} (h : CpOk c) : Good (cpD c) 48 1 := by
  refine Good.mono (good_tup (n := 20) (k := 0) fun d hd => ?_) (by show 2 * (20 + 2) + 4 ≤ 48; decide) (Nat.le_refl _)
  simp only [List.mem_cons, List.not_mem_nil, or_false] at hd
  rcases hd with hd | hd
  · rw [hd]
    exact good_str words_ok h.1
  · rw [hd]
    exact good_str words_ok h.2
theorem good_jud {n m : Nat} {j : Jud} (hn : n < 10) (hm : m < 10) (ok : JudOk n m j) : Good (judD j) 60000 4 := by
  have row : ∀ r, RowOk n r → Good (rowD r) 600 2 := fun r h => by
    refine Good.mono (good_tup (n := 48) (k := 1) fun d hd => ?_) ?_ (Nat.le_refl _)
    · obtain ⟨c, hc, rfl⟩ := List.mem_map.mp hd
      exact good_cp (h.2 c hc)
    · rw [List.length_map, h.1]
      have := Nat.mul_le_mul (show n ≤ 9 by omega) (Nat.le_refl 50)
      omega
  have tab : ∀ t, TabOk n t → Good (tabD t) 6000 3 := fun t h => by
    refine Good.mono (good_tup (n := 600) (k := 2) fun d hd => ?_) ?_ (Nat.le_refl _)
    · obtain ⟨r, hr, rfl⟩ := List.mem_map.mp hd
      exact row r (h.2 r hr)
    · rw [List.length_map, h.1]
      have := Nat.mul_le_mul (show n ≤ 9 by omega) (Nat.le_refl 602)
      omega
  refine Good.mono (good_tup (n := 6000) (k := 3) fun d hd => ?_) ?_ (Nat.le_refl _)
  · obtain ⟨t, ht, rfl⟩ := List.mem_map.mp hd
    exact tab t (ok.2 t ht)
  · rw [List.length_map, ok.1]
    have := Nat.mul_le_mul (show m ≤ 9 by omega) (Nat.le_refl 6002)
    omega
/-- what a house is shown to be, its kinds with any rises -/
theorem good_hou {ks : List Kd} {ss : List Str} {j : Jud} {n m : Nat} (hk : ∀ k ∈ ks, k.1 ∈ Names ∧ 0 ≤ k.2.2 ∧ k.2.2 < 16) (kl : ks.length < 10) (hs : ∀ x ∈ ss, x ∈ Names) (sl : ss.length < 10) (hn : n < 10) (hm : m < 10) (ok : JudOk n m j) : Good (houD ⟨ks, ss, j⟩) 200000 5 := by
  refine Good.mono (good_tup (n := 60000) (k := 4) fun d hd => ?_) (by show 3 * 60002 + 4 ≤ 200000; decide) (Nat.le_refl _)
  simp only [List.mem_cons, List.not_mem_nil, or_false] at hd
  rcases hd with hd | hd | hd
  · rw [hd]
    refine Good.mono (good_tup (n := 70) (k := 1) fun d hd => ?_) ?_ (by decide)
    · obtain ⟨k, hk', rfl⟩ := List.mem_map.mp hd
      obtain ⟨a, b, c⟩ := hk k hk'
      exact good_kd a b c
    · rw [List.length_map]
      have := Nat.mul_le_mul (show ks.length ≤ 9 by omega) (Nat.le_refl 72)
      omega
  · rw [hd]
    refine Good.mono (good_tup (n := 20) (k := 0) fun d hd => ?_) ?_ (by decide)
    · obtain ⟨x, hx, rfl⟩ := List.mem_map.mp hd
      exact good_str names_ok (hs x hx)
    · rw [List.length_map]
      have := Nat.mul_le_mul (show ss.length ≤ 9 by omega) (Nat.le_refl 22)
      omega
  · rw [hd]
    exact good_jud hn hm ok
/-! repr -/
section
variable {X : Cx}
def rRepr (K : PySem.W.Frag) : List V → Hp → VK → Prop := fun xs H Q => ∃ (v : V) (ds : List PyData) (n k : Nat), xs = [v] ∧ Dp K H v (.tuple ds) ∧ Good (.tuple ds) n k ∧ n < 1000000 ∧ k ≤ 60 ∧ Q (.str (PyData.shown (.tuple ds))) H
theorem call_repr (hg : X.A.guards = some []) (hu : X.A.units + 64 < cLine) : CallR X (.builtin "repr") (rRepr X.K) := by
  intro pins s σ H xs us Q I r q
  obtain ⟨v, ds, n, k, rfl, hd, g, hn, hk, q⟩ := q
  obtain ⟨u, rfl, rx⟩ := vals1 r
  obtain ⟨as, rr⟩ := Dp.reads I _ v u hd rx
  cases hd with
  | tup _ _ =>
  cases rx
  have := g.dp
  exact repr_of_reads' rr g.sh (PyData.noDict_hsm g.nd) hg (by omega) (fun _ _ e => e) (fun h' u tk hk' => ⟨.str _, H, I.kept (t' := tk) hk', ⟨_, rfl⟩, q⟩) (Nat.le_of_lt (szl (Nat.lt_of_le_of_lt g.len hn)))
end
end KZ

namespace KZ
open PySem PySem.Spec PyProof.Rows L2
/-- a promise that is kept where no repr is under way -/
structure FnG (P : Program) (w : World) (K : PySem.W.Frag) (mg : Str → Option Value) (base : Heap) (k : Nat) (f : Addr) (fd : FuncData) (ps : List Str) (sp : Sp) : Prop where
  len : ∀ vs H Q E, sp vs H Q E → vs.length = ps.length
  go : ∀ (A : Around) (up : List Env) (t : Shared) (H : Hp) (ar : Args) (us : List Value) (vs : List V) (Q : VK) (E : XK), A.guards = some [] → Room k A → Env0 P w K mg base A up t H → BindsTo t fd ar (ps.zip us) → Vals vs us → sp vs H Q E →
    codeAny (model P w) A (.call (.ref f) ar) (CR CX0 up P w H t Q E) t
section
variable {P : Program} {w : World} {K : PySem.W.Frag} {mg : Str → Option Value} {base : Heap}
/-- a def by its body, where no repr is under way -/
theorem fun_okG {x qual : Str} {st : Stmt} {f : Addr} {fd : FuncData} {N ps : List Str} {k : Nat} {sp : Sp} (F : Fun K x qual st f fd) (S : FnScope N ps (defScope st)) (hlen : ∀ vs H Q E, sp vs H Q E → vs.length = ps.length)
    (body : ∀ (cdv : Value) (A : Around) (up : List Env) (t : Shared) (H : Hp) (vs : List V) (Q : VK) (E : XK), A.guards = some [] → Room k (A.deeper (envOfC qual (defScope st) t.heap.objs.size f cdv)) → sp vs H Q E →
      ∃ τ, PSs (cxOf CX0 P w K mg base N qual (defScope st) f cdv A up t H E).nox (defBody st) τ ∧ τ { nx := fun _ H' => Q .non H', rt := Q } (start N vs) H) : FnG P w K mg base (k + 1) f fd ps sp := by
  obtain ⟨c0, d0, k0, doc, pm, an, cdv, ct, sl, rfl, found, code⟩ := F.ex
  refine ⟨hlen, ?_⟩
  intro A up t H ar us vs Q E gs room here binds rel wish
  have many := hlen _ _ _ _ wish
  have lim : t.heap.NoLimit := Heap.NoLimit.keeps here.mod.nolimit (fun b o e => (here.bs b o e).1)
  have inK : K.In t.heap := PySem.W.Frag.In.keeps here.mod.kin (fun b o e => (here.bs b o e).1)
  have kinds : ∀ z ∈ ps.zip us, (defScope st).names.lookup z.1 = some .local ∨
      ((defScope st).names.lookup z.1 = some .cell ∧ ((cellsFrom (t.heap.objs.size + 1) (defScope st).names []).lookup z.1).isSome = true) := by
    intro z hz
    have h1 : z.1 ∈ ps := (List.of_mem_zip (show (z.1, z.2) ∈ ps.zip us from hz)).1
    cases S.par _ h1 with
    | inl l => exact Or.inl l
    | inr l => exact Or.inr ⟨l, PySem.W.cellsFrom_some _ _ _ (Or.inl l)⟩
  refine codeAny_call_function room.depth (inK _ _ found) rfl S.co S.gen rfl (PySem.W.codeRec_of inK code) ?_
  refine binds _ _ _ _ ?_
  refine wpAny_newFunctionEnv_cells S.kind kinds ?_
  intro env he t1 inside
  subst he
  refine ⟨Heap.NoLimit.keeps lim inside.toInCall.keep, ?_⟩
  refine codeAny_func ?_
  obtain ⟨τ, runs, reads⟩ := body cdv A up t H vs Q E gs (Room.deeper room _) wish
  have J : L2.Inv (cxOf CX0 P w K mg base N qual (defScope st) f cdv A up t H E) [] (start N vs) H t1 := inv_start S room.hd here many rel inside
  refine wpAny_mono (runs.nox.run [] t1 (start N vs) H _ J reads) ?_ (fun _ _ z => z)
  intro fl t' out
  cases fl with
  | ret u =>
    obtain ⟨v, σ', H', I', rv, q⟩ := out
    exact ⟨v, H', I'.os, I'.bare, I'.base, I'.hok, rv, q⟩
  | next =>
    obtain ⟨σ', H', I', q⟩ := out
    exact ⟨V.non, H', I'.os, I'.bare, I'.base, I'.hok, rfl, q⟩
  | brk =>
    obtain ⟨_, _, _, q⟩ := out
    cases q
  | cont =>
    obtain ⟨_, _, _, q⟩ := out
    cases q
end
/-- a def that may be called where no repr is under way -/
structure CalG (P : Program) (w : World) (K : PySem.W.Frag) (mg : Str → Option Value) (base : Heap) (x : Str) (k : Nat) (ps : List Str) (sp : Sp) (f : Addr) (fd : FuncData) : Prop where
  ok : FnG P w K mg base k f fd ps sp
  g : mg x = some (.ref f)
  kp : PySem.W.keepIn K (.ref f) = true
  b : Binds K fd ps []
section
variable {X : Cx} {x : Str} {k : Nat} {ps : List Str} {sp : Sp} {f : Addr} {fd : FuncData} {e : Expr} {es : List Expr} {t : TA} {p pos : Pos}
theorem pclG (C : CalG X.prog X.w X.K X.mg X.base x k ps sp f fd) (gs : X.A.guards = some []) (hr : Room k X.A) (ha : PA X (e :: es) t) (hg : Gl X x := by rfl) (hdb : (x == ("__debug__" : Str)) = false := by decide) (he : starEach (e :: es) X.env = (false, eval e X.env) :: starEach es X.env := by rfl)
    (hpl : (backTo pos (starEach es X.env)).any (·.1) = false := by rfl) : PE X (.Call (.Name x p) (e :: es) [] pos) (tCall sp [] E0 t) := by
  refine ⟨fun pins s σ H Q I h => ?_⟩
  refine wpAny_Call_Name_kw (ld_glob I hg C.g ?_ hdb)
  refine PySem.W.callWith_K (h₀ := X.base) I.ok.mod.kin C.kp (thn (ha.run pos pins s σ H _ I h) ?_) he hpl
  intro us t1 got
  obtain ⟨vs, H1, J, rel, q⟩ := got
  refine ⟨J.kIn, ?_⟩
  rw [List.append_nil] at q
  have many : us.length = ps.length := by rw [← Vals.length rel]; exact C.ok.len _ _ _ _ q
  have bd := C.b t1 us J.kIn (by rw [List.append_nil]; exact many)
  rw [List.append_nil] at bd
  show wpAny (model X.prog X.w) X.A (call (.ref f) us) _ _ t1
  refine wpAny_call (codeAny_mono (C.ok.go X.A X.stack t1 H1 ⟨us, []⟩ us vs Q E0 gs hr J.env0 bd rel q) ?_)
  intro r t2 hq
  cases r with
  | error z => exact False.elim hq
  | ok fl =>
    cases fl with
    | ret u => exact J.after hq
    | next => exact False.elim hq
    | brk => exact False.elim hq
    | cont => exact False.elim hq
end
/-! two that are alike -/
def spAlike (K : PySem.W.Frag) : Sp := fun vs H Q _ => ∃ (v u : V) (ds : List PyData) (n k : Nat), vs = [v, u] ∧ Dp K H v (.tuple ds) ∧ Dp K H u (.tuple ds) ∧ Good (.tuple ds) n k ∧ n < 1000000 ∧ k ≤ 60 ∧ Q (.bl true) H
section
variable {P : Program} {w : World} {K : PySem.W.Frag} {mg : Str → Option Value} {base : Heap}
abbrev sAlike : Stmt := topS 14
theorem scAlike : FnScope ["found", "due"] ["found", "due"] (defScope sAlike) := ⟨rfl, rfl, rfl, by decide +kernel, rfl, by decide +kernel, by decide +kernel⟩
theorem ok_alike {f : Addr} {fd : FuncData} (F : Fun K "_law_alike" "_law_alike" sAlike f fd) (T : Txt mg) : FnG P w K mg base 1 f fd ["found", "due"] (spAlike K) := by
  refine fun_okG F scAlike (fun vs H Q E h => ?_) (fun cdv A outer s H vs Q E gs hr h => ?_)
  · obtain ⟨v, u, ds, n, k, rfl, _⟩ := h
    rfl
  · obtain ⟨v, u, ds, n, k, rfl, hv, hu, g, hn, hk, q⟩ := h
    refine ⟨_, pss_one (ps_ret (pe_and (pe_cmpR (op_eqD hr.units) (pv 0) (pv 1) (nomark _)) (pe_one (pe_cmpR op_eq (pe_callB (call_repr gs hr.units) (by rfl) T.repr PyProof.Rows.boot_repr (pa_cons (pv 0) pa_nil)) (pe_callB (call_repr gs hr.units) (by rfl) T.repr PyProof.Rows.boot_repr (pa_cons (pv 1) pa_nil)) (nomark _))))), ?_⟩
    have sh : SeqAt.shaped (.tuple ds) = true := by
      have := g.dp
      unfold SeqAt.shaped
      rw [g.lay, decide_eq_true (by omega)]
      rfl
    refine ⟨_, rfl, _, rfl, _, _, hv, hu, sh, sh, _, rfl, ?_⟩
    rw [SeqAt.eqv_refl _ g.lay]
    refine iteT ?_
    refine ⟨_, rfl, v, ds, n, k, rfl, hv, g, hn, hk, _, rfl, u, ds, n, k, rfl, hu, g, hn, hk, rfl, ?_⟩
    rw [decide_eq_true rfl]
    exact q
end
end KZ

namespace KZ
open PySem PySem.Spec PyProof.Rows L2
/-! enumerate(..) of a tuple -/
section
variable {prog : Program} {w : World} {A : Around} {E : Value → Shared → Prop} {s : Shared} {ti t e : Addr} {i : Nat} {its : Array Value} {x old : Value}
theorem tnext_item {Q : Value → Shared → Prop} (here : s.heap.IsTupleIter ti t i) (tup : s.heap.IsTuple t its) (got : its[i]? = some x)
    (q : ∀ g, g.IsTupleIter ti t (i + 1) → Heap.SameBut ti s.heap g → Q x { s with heap := g }) : wpAny (model prog w) A (Builtin.SmallTypes.nextOf (.ref ti)) Q E s := by
  obtain ⟨ob, g1, g2, g3⟩ := id here
  obtain ⟨ot, f1, _, nt, f3⟩ := tup
  unfold Builtin.SmallTypes.nextOf
  refine wpAny_bind ?_
  refine wpAny_callSpecial?_slot (name := Str.ofString "__next__") here.typeIs F.slot_tuple_iterator_next ?_
  refine wpAny_call_entry F.slot_tuple_iterator_next here.typeIs F.entry_tuple_iterator_next ?_ (F.args_tuple_iterator_next_1 _)
  show wpAny _ _ (field (.ref ti) 0 >>= _) _ _ s
  refine wpAny_bind (wpAny_field g1 g3 (x := .ref t) rfl ?_)
  show wpAny _ _ (if (Value.ref t == Value.none) = true then _ else _) _ _ s
  rw [if_neg (by exact Bool.false_ne_true)]
  show wpAny _ _ (field (.ref ti) 1 >>= _) _ _ s
  refine wpAny_bind (wpAny_field g1 g3 (x := .int i 0) rfl ?_)
  show wpAny _ _ (seqItems? (.ref t) >>= _) _ _ s
  refine wpAny_bind (wpAny_seqItems f1 f3 ?_)
  simp only [Int.toNat_natCast, got]
  refine wpAny_bind (wpAny_setField g1 g3 (by simp) (wpAny_pure ⟨x, rfl, wpAny_pure (q _ ?_ (Heap.SameBut.update ..))⟩))
  refine ⟨_, Heap.get?_update_self _ g1 (Obj.isFreed_of_fields (Obj.data_mapFields g3 _)), (Obj.cls_mapFields ..).trans g2, ?_⟩
  rw [Obj.data_mapFields g3]
  simp [rawInt]
theorem tnext_end {Q : Value → Shared → Prop} (hh : A.handled = none) (here : s.heap.IsTupleIter ti t i) (tup : s.heap.IsTuple t its) (got : its[i]? = none)
    (q : ∀ g z, Heap.ExtBut ti s.heap g → (∃ o, g.get? z = some o ∧ o.cls = .type "StopIteration") → E (.ref z) { s with heap := g }) : wpAny (model prog w) A (Builtin.SmallTypes.nextOf (.ref ti)) Q E s := by
  obtain ⟨ob, g1, g2, g3⟩ := id here
  obtain ⟨ot, f1, _, nt, f3⟩ := tup
  unfold Builtin.SmallTypes.nextOf
  refine wpAny_bind ?_
  refine wpAny_callSpecial?_slot (name := Str.ofString "__next__") here.typeIs F.slot_tuple_iterator_next ?_
  refine wpAny_call_entry F.slot_tuple_iterator_next here.typeIs F.entry_tuple_iterator_next ?_ (F.args_tuple_iterator_next_1 _)
  show wpAny _ _ (field (.ref ti) 0 >>= _) _ _ s
  refine wpAny_bind (wpAny_field g1 g3 (x := .ref t) rfl ?_)
  show wpAny _ _ (if (Value.ref t == Value.none) = true then _ else _) _ _ s
  rw [if_neg (by exact Bool.false_ne_true)]
  show wpAny _ _ (field (.ref ti) 1 >>= _) _ _ s
  refine wpAny_bind (wpAny_field g1 g3 (x := .int i 0) rfl ?_)
  show wpAny _ _ (seqItems? (.ref t) >>= _) _ _ s
  refine wpAny_bind (wpAny_seqItems f1 f3 ?_)
  simp only [Int.toNat_natCast, got]
  refine wpAny_bind (wpAny_rule (wpAny_bind (wpAny_setField g1 g3 (by simp) ?_)))
  show wpAny _ _ (newExc (.type "StopIteration") [] >>= _) _ _ _
  refine wpAny_bind ?_
  simp only [newExc, newTuple]
  refine wpAny_bind (wpAny_newObj_type ?_ (by size_fits))
  refine wpAny_bind (m := firstArgMember _ _) (wpAny_of_eq (a := Value.none) (by first | rfl | (simp only [firstArgMember] <;> rfl)) ?_)
  refine wpAny_newObj_type ?_ (by size_fits)
  simp only [raiseNew]
  refine wpAny_bind (wpAny_handled ?_)
  first | rw [show A.in1.handled = none from hh] | rw [hh]
  refine wpAny_bind (wpAny_pure (wpAny_throw ?_))
  exact q _ _ (((Heap.SameBut.update ..).extBut.push _).push _) ⟨_, Heap.get?_push_size _ rfl, rfl⟩
theorem enumT_item {Q : Option Value → Shared → Prop} (en : IsEnum s.heap e ti i old) (here : s.heap.IsTupleIter ti t i) (tup : s.heap.IsTuple t its) (got : its[i]? = some x) (ne : e ≠ ti)
    (q : ∀ g, IsEnumOut g e ti ((i : Int) + 1) x s.heap.objs.size → g.IsTupleIter ti t (i + 1) → g.get? s.heap.objs.size = some { cls := .type "tuple", data := .seq #[.int i s.toks, x] } → g.objs.size = s.heap.objs.size + 1 →
      (∀ b o, b ≠ e → b ≠ ti → s.heap.get? b = some o → g.get? b = some o) → Q (some (.ref s.heap.objs.size)) { s with heap := g, toks := s.toks + 1 }) : wpAny (model prog w) A (pyNext (.ref e)) Q E s := by
  have ty : s.TypeIs (.ref e) "enumerate" := ⟨_, en, rfl⟩
  unfold pyNext
  refine wpAny_bind (wpAny_attempt ?_)
  refine wpAny_callSpecial?_slot (name := Str.ofString "__next__") ty F.slot_enumerate_next ?_
  refine wpAny_call_entry F.slot_enumerate_next ty F.entry_enumerate_next ?_ (F.args_enumerate_next_1 _)
  obtain ⟨hp, gs, dr, tk, os⟩ := s
  show wpAny _ _ (field (.ref e) 2 >>= _) _ _ _
  refine wpAny_bind (wpAny_field en rfl (x := .ref ti) rfl (wpAny_bind (tnext_item here tup got ?_)))
  intro a1 it1 sb1
  replace sb1 : Heap.SameBut ti hp a1 := sb1
  have en1 : IsEnum a1 e ti i old := (sb1.2 e ne).trans en
  show wpAny _ _ (field (.ref e) 3 >>= _) _ _ ⟨a1, gs, dr, tk, os⟩
  refine wpAny_bind (wpAny_field en1 rfl (x := rawInt i) rfl ?_)
  show wpAny _ _ (field (.ref e) 4 >>= _) _ _ ⟨a1, gs, dr, tk, os⟩
  refine wpAny_bind (wpAny_field en1 rfl (x := .none) rfl ?_)
  show wpAny _ _ (mkInt i >>= _) _ _ ⟨a1, gs, dr, tk, os⟩
  refine wpAny_bind (wpAny_mkInt ?_)
  show wpAny _ _ (setField (.ref e) 3 (rawInt ((i : Int) + 1)) >>= _) _ _ ⟨a1, gs, dr, tk + 1, os⟩
  refine wpAny_bind (wpAny_setField_rec en1 (by simp) ?_)
  intro a2 en2 sb2
  replace sb2 : Heap.SameBut e a1 a2 := sb2
  replace en2 : IsEnum a2 e ti ((i : Int) + 1) old := en2
  show wpAny _ _ (setField (.ref e) 4 .none >>= _) _ _ ⟨a2, gs, dr, tk + 1, os⟩
  refine wpAny_bind (wpAny_setField_rec en2 (by simp) ?_)
  intro a3 en3 sb3
  replace sb3 : Heap.SameBut e a2 a3 := sb3
  replace en3 : IsEnum a3 e ti ((i : Int) + 1) old := en3
  show wpAny _ _ (newTuple [.int i tk, x] >>= _) _ _ ⟨a3, gs, dr, tk + 1, os⟩
  refine wpAny_bind (wpAny_newTuple ?_)
  have en4 : IsEnum (a3.push { cls := .type "tuple", data := .seq #[.int i tk, x] }) e ti ((i : Int) + 1) old := Heap.get?_push_of_some _ en3
  have size3 : a3.objs.size = hp.objs.size := by rw [sb3.1, sb2.1, sb1.1]
  have lt : e < hp.objs.size := Heap.lt_size en
  have new4 : (a3.push { cls := .type "tuple", data := .seq #[.int i tk, x] }).get? hp.objs.size = some { cls := .type "tuple", data := .seq #[.int i tk, x] } := by
    rw [← size3]
    exact Heap.get?_push_size _ rfl
  have size4 : (a3.push { cls := .type "tuple", data := .seq #[.int i tk, x] }).objs.size = hp.objs.size + 1 := by rw [Heap.size_push, size3]
  have keep4 : ∀ b o, b ≠ e → b ≠ ti → hp.get? b = some o → (a3.push { cls := .type "tuple", data := .seq #[.int i tk, x] }).get? b = some o := by
    intro b o n1 n2 z
    exact Heap.get?_push_of_some _ (sb3.extBut b o n1 (sb2.extBut b o n1 (sb1.extBut b o n2 z)))
  have iter4 : (a3.push { cls := .type "tuple", data := .seq #[.int i tk, x] }).IsTupleIter ti t (i + 1) := by
    obtain ⟨o, z, r⟩ := (it1.extBut sb2.extBut ne.symm).extBut sb3.extBut ne.symm
    exact ⟨o, Heap.get?_push_of_some _ z, r⟩
  generalize a3.push { cls := .type "tuple", data := .seq #[.int i tk, x] } = a4 at en4 new4 size4 keep4 iter4 ⊢
  show wpAny _ _ (Builtin.SmallTypes.ownedTupleIsFree (.ref e) >>= _) _ _ ⟨a4, gs, dr, tk + 1, os⟩
  rw [size3]
  clear en3 sb3 en2 sb2 en1 sb1 it1 size3
  refine wpAny_bind ?_
  unfold Builtin.SmallTypes.ownedTupleIsFree
  refine wpAny_bind (wpAny_field en4 rfl (x := .none) rfl (wpAny_pure ?_))
  simp only [if_true]
  refine wpAny_bind (wpAny_rule ?_)
  refine wpAny_bind (wpAny_field en4 rfl (x := old) rfl ?_)
  refine wpAny_bind (wpAny_setField_rec en4 (by simp) ?_)
  intro a5 en5 sb5
  replace sb5 : Heap.SameBut e a4 a5 := sb5
  replace en5 : IsEnum a5 e ti ((i : Int) + 1) x := en5
  show wpAny _ _ (Builtin.SmallTypes.ownedTupleHandOut (.ref e) (.ref hp.objs.size) >>= _) _ _ ⟨a5, gs, dr, tk + 1, os⟩
  refine wpAny_bind ?_
  unfold Builtin.SmallTypes.ownedTupleHandOut
  refine wpAny_bind (wpAny_setField_rec en5 (by simp) ?_)
  intro a6 en6 sb6
  replace sb6 : Heap.SameBut e a5 a6 := sb6
  replace en6 : IsEnumOut a6 e ti ((i : Int) + 1) x hp.objs.size := en6
  refine wpAny_setField_rec en6 (by simp) ?_
  intro a7 en7 sb7
  replace sb7 : Heap.SameBut e a6 a7 := sb7
  replace en7 : IsEnumOut a7 e ti ((i : Int) + 1) x hp.objs.size := en7
  have up : ∀ b o, b ≠ e → a4.get? b = some o → a7.get? b = some o := fun b o n z => sb7.extBut b o n (sb6.extBut b o n (sb5.extBut b o n z))
  refine wpAny_bind (wpAny_letGo (wpAny_pure ⟨_, rfl, wpAny_pure (q a7 en7 ?_ ?_ ?_ ?_)⟩))
  · obtain ⟨o, z, r⟩ := iter4
    exact ⟨o, up _ _ ne.symm z, r⟩
  · exact up _ _ (Nat.ne_of_gt lt) new4
  · show a7.objs.size = _
    rw [sb7.1, sb6.1, sb5.1, size4]
  · exact fun b o n1 n2 z => up b o n1 (keep4 b o n1 n2 z)
theorem enumT_end {Q : Option Value → Shared → Prop} (hh : A.handled = none) (en : IsEnum s.heap e ti i old) (here : s.heap.IsTupleIter ti t i) (tup : s.heap.IsTuple t its) (got : its[i]? = none)
    (q : ∀ g, Heap.ExtBut ti s.heap g → Q none { s with heap := g }) : wpAny (model prog w) A (pyNext (.ref e)) Q E s := by
  have ty : s.TypeIs (.ref e) "enumerate" := ⟨_, en, rfl⟩
  unfold pyNext
  refine wpAny_bind (wpAny_attempt ?_)
  refine wpAny_callSpecial?_slot (name := Str.ofString "__next__") ty F.slot_enumerate_next ?_
  refine wpAny_call_entry F.slot_enumerate_next ty F.entry_enumerate_next ?_ (F.args_enumerate_next_1 _)
  show wpAny _ _ (field (.ref e) 2 >>= _) _ _ _
  refine wpAny_bind (wpAny_field en rfl (x := .ref ti) rfl (wpAny_bind (tnext_end hh here tup got ?_)))
  intro g z eb st
  obtain ⟨o, h1, h2⟩ := st
  refine wpAny_bind (wpAny_isInstance (T := "StopIteration") (b := true) ⟨o, h1, h2⟩ isSubtype_stop ?_)
  exact wpAny_pure (q _ eb)
theorem meets_enumT (l : Addr) (items : Array Value) (n : Nat) (dct : Option Addr) (sl : Array (Option Value)) :
    Meets (Builtin.«enumerate.__new__» ⟨[.type "enumerate", .ref l], []⟩) (fun _ R z => z.heap.get? l = some { cls := .type "tuple", dict := dct, data := .seq items n, slots := sl } ∧
      R (.ok (.ret (.ref (z.heap.push { cls := .type "tuple_iterator", data := .fields #[.ref l, .int 0 0] }).objs.size)))
        { z with heap := (z.heap.push { cls := .type "tuple_iterator", data := .fields #[.ref l, .int 0 0] }).push { cls := .type "enumerate", data := .fields #[.none, .bool false, .ref z.heap.objs.size, rawInt 0, .none, .none] } }) :=
  .of_wp fun prog w A R z h => by
    obtain ⟨hp, g, d, tk, os⟩ := z
    obtain ⟨at_, h⟩ := h
    have sub_ := sub_enumerate
    have tup : Heap.IsTuple (Shared.heap ⟨hp, g, d, tk, os⟩) l items := ⟨_, at_, rfl, n, rfl⟩
    wp_walk using AutoSeq1.wpAny_loadPart' at_
    refine wpAny_stack_any fun st => wpAny_pure ?_
    split
    · rename_i c _ _ _ _ _
      cases (c == Value.type "enumerate")
      · wp_walk using AutoSeq1.wpAny_loadPart' at_, wpAny_pyIter_tuple tup
        exact ⟨_, rfl, h⟩
      · wp_walk using AutoSeq1.wpAny_loadPart' at_, wpAny_pyIter_tuple tup
        exact ⟨_, rfl, h⟩
    · wp_walk using AutoSeq1.wpAny_loadPart' at_, wpAny_pyIter_tuple tup
      exact ⟨_, rfl, h⟩
theorem call_enumT {l : Addr} {items : Array Value} {Q : Value → Shared → Prop} (tup : s.heap.IsTuple l items)
    (q : ∀ g, IsEnum g (s.heap.objs.size + 1) s.heap.objs.size 0 .none → g.IsTupleIter s.heap.objs.size l 0 → g.objs.size = s.heap.objs.size + 2 → (∀ b o, s.heap.get? b = some o → g.get? b = some o) → Q (.ref (s.heap.objs.size + 1)) { s with heap := g }) :
    wpAny (model prog w) A (call (.type "enumerate") [.ref l]) Q E s := by
  obtain ⟨⟨c, dct, dt, sl⟩, h1, h2, n, h3⟩ := tup
  cases (show c = Value.type "tuple" from h2)
  cases (show dt = Data.seq items n from h3)
  refine callType_new F.called_enumerate (by decide) (F.typeCall_enumerate_1 _) (F.newCall_enumerate_1 _) (fun obj => F.args_object_init_2 obj _) F.entry_enumerate_new (meets_enumT l items n dct sl) ?_
  have z1 : (s.heap.push { cls := .type "tuple_iterator", data := .fields #[.ref l, .int 0 0] }).objs.size = s.heap.objs.size + 1 := Heap.size_push ..
  refine ⟨h1, ?_⟩
  show _ ∧ _
  rw [z1]
  have en : IsEnum ((s.heap.push { cls := .type "tuple_iterator", data := .fields #[.ref l, .int 0 0] }).push { cls := .type "enumerate", data := .fields #[.none, .bool false, .ref s.heap.objs.size, rawInt 0, .none, .none] }) (s.heap.objs.size + 1) s.heap.objs.size 0 .none := by
    have y := Heap.get?_push_size (s.heap.push { cls := .type "tuple_iterator", data := .fields #[.ref l, .int 0 0] }) (o := { cls := .type "enumerate", data := .fields #[.none, .bool false, .ref s.heap.objs.size, rawInt 0, .none, .none] }) rfl
    rw [z1] at y
    exact y
  refine ⟨⟨_, en, rfl⟩, q _ en ⟨_, Heap.get?_push_of_some _ (Heap.get?_push_size _ rfl), rfl, rfl⟩ ?_ ?_⟩
  · rw [Heap.size_push, z1]
  · exact fun b o y => Heap.get?_push_of_some _ (Heap.get?_push_of_some _ y)
end
end KZ

namespace KZ
open PySem PySem.Spec PyProof.Rows L2
/-- the tuple at a, each item in a new pair with its number -/
def IteT (K : PySem.W.Frag) (a : Addr) : It where
  go := fun i H => ∃ (xs : List V) (x : V), SqT K H a xs ∧ xs[i]? = some x
  yld := fun i H v H' => ∃ (T : Addr) (x : V), v = .ref T ∧ H T = none ∧ H' = upd H T (.tup [.int (i : Nat), x]) ∧ ∀ xs, SqT K H a xs → xs[i]? = some x
  stop := fun i H => ∃ xs : List V, SqT K H a xs ∧ xs.length ≤ i
theorem turn_enumT {P : Program} {w : World} {K : PySem.W.Frag} {elts : List Expr} {kk : Nat} {tpos : Pos} (a e ti : Addr) :
    Turn P w K (.Tuple elts kk tpos) (IteT K a) [e, ti] e (fun i h => (∃ old, IsEnum h e ti ((i : Nat) : Int) old) ∧ h.IsTupleIter ti a i ∧ e ≠ ti) where
  mem := List.mem_cons_self
  obj := by
    intro i h st b hb
    obtain ⟨⟨old, en⟩, ⟨o, h1, h2, h3⟩, _⟩ := st
    rcases List.mem_cons.mp hb with z | z
    · rw [z]
      exact ⟨_, en, fun v q => nomatch q⟩
    · rw [List.mem_singleton.mp z]
      refine ⟨o, h1, fun v q => ?_⟩
      rw [h3] at q
      cases q
  keep := by
    intro i h h' st k
    obtain ⟨⟨old, en⟩, ⟨o, h1, r⟩, ne⟩ := st
    exact ⟨⟨old, k e List.mem_cons_self _ en⟩, ⟨o, k ti (List.mem_cons_of_mem _ List.mem_cons_self) _ h1, r⟩, ne⟩
  item := by
    intro X hP hw hK hc i pins s σ H E I hf st hg
    subst hP hw hK
    obtain ⟨⟨old, en⟩, here, ne⟩ := st
    obtain ⟨xs, x, hq, hx⟩ := hg
    obtain ⟨its, rv, tup, _⟩ := I.tuple hq
    obtain ⟨u, hu, ru⟩ := rv.get hx
    have le : e < s.heap.objs.size := Heap.lt_size en
    have lt : ti < s.heap.objs.size := by
      obtain ⟨_, z, _⟩ := here
      exact Heap.lt_size z
    refine enumT_item en here tup (x := u) (by simpa using hu) ne ?_
    intro g out it' new size keep
    refine ⟨_, rfl, wpAny_letOwnedTupleGo_enum (s := { s with heap := g, toks := s.toks + 1 }) out ?_⟩
    intro g2 en2 sb
    have new2 : g2.get? s.heap.objs.size = some { cls := .type "tuple", data := .seq #[.int i s.toks, u] } := (sb.2 _ (Nat.ne_of_gt le)).trans new
    have ok : ObjOk X.prog X.w (upd H s.heap.objs.size (.tup [.int (i : Nat), x])) g2 s.heap.objs.size (.tup [.int (i : Nat), x]) :=
      ⟨by show 2 ≤ sizeLine; decide, [.int i s.toks, u], .cons ⟨_, rfl⟩ (.cons ru .nil), ⟨_, new2, rfl, _, rfl⟩⟩
    have J : L2.Inv X pins σ (upd H s.heap.objs.size (.tup [.int (i : Nat), x])) { s with heap := g2, toks := s.toks + 1 } := by
      refine I.turnedNew (ch := [e, ti]) (fun b ob hb q => ?_) hf (Nat.le_refl _) ok
      have n1 : b ≠ e := fun z => hb (by simp [z])
      have n2 : b ≠ ti := fun z => hb (by simp [z])
      exact (sb.2 b n1).trans (keep b ob n1 n2 q)
    refine ⟨.ref s.heap.objs.size, _, J, rfl, ⟨_, x, rfl, I.hok.fresh (Nat.le_refl _), rfl, ?_⟩, ⟨⟨u, ?_⟩, ?_, ne⟩, ?_⟩
    · intro ys hy
      rw [I.tuple_inj hy hq]
      exact hx
    · rw [show ((i + 1 : Nat) : Int) = (i : Int) + 1 by omega]
      exact en2
    · obtain ⟨o, z, r⟩ := it'
      exact ⟨o, (sb.2 ti ne.symm).trans z, r⟩
    · intro b hb
      have lb : b < s.heap.objs.size := by
        rcases List.mem_cons.mp hb with z | z
        · rw [z]
          exact le
        · rw [List.mem_singleton.mp z]
          exact lt
      rw [upd_ne (Nat.ne_of_lt lb)]
      exact (hf b hb).1
  done := by
    intro X hP hw hK hc i pins s σ H E I hf st hg
    subst hP hw hK
    obtain ⟨⟨old, en⟩, here, ne⟩ := st
    obtain ⟨xs, hq, hx⟩ := hg
    obtain ⟨its, rv, tup, _⟩ := I.tuple hq
    obtain ⟨f0, f1, f2, f3, f4, f5⟩ := hf ti (List.mem_cons_of_mem _ List.mem_cons_self)
    have hl := rv.length
    refine enumT_end (I.ok.hd hc) en here tup ?_ fun g eb => ⟨rfl, I.turned (t' := s.toks) (fun b o hb q => eb b o hb q) f0 f1 f3 f4 f5⟩
    simp
    omega
  self := by
    intro A i s Q E st h
    obtain ⟨⟨_, en⟩, _⟩ := st
    exact wpAny_pyIter_enum en h
def iEnumT (K : PySem.W.Frag) (ta : TA) : TI := fun σ H R => ta σ H fun vs H1 => ∃ a xs, vs = [.ref a] ∧ SqT K H1 a xs ∧ R (IteT K a) H1
theorem pi_enumT {X : Cx} {e : Expr} {ta : TA} {p pos tpos : Pos} {elts : List Expr} {kk : Nat} (hg : Gl X "enumerate") (hm : X.mg "enumerate" = none) (ha : PA X [e] ta) (hs : starEach [e] X.env = [(false, eval e X.env)] := by rfl) :
    PI X (.Tuple elts kk tpos) (.Call (.Name "enumerate" p) [e] [] pos) (iEnumT X.K ta) := by
  refine ⟨fun pins s σ H R I h => ?_⟩
  refine Call_ (ld_blt I hg hm boot_enumerate (PyProof.Rows.callWith_type1 (thn (ha.run pos pins s σ H _ I h) ?_) hs rfl))
  intro us s1 got
  obtain ⟨vs, H1, J, rel, a, xs, rfl, hq, q⟩ := got
  obtain ⟨u, rfl, ru⟩ := vals1 rel
  cases ru
  obtain ⟨its, rv, tup, _⟩ := J.tuple hq
  refine call_enumT tup ?_
  intro g en here size keep
  refine wpAny_pyIter_enum en ?_
  have J2 : L2.Inv X pins σ H1 { s1 with heap := g } := J.kept (t' := s1.toks) keep
  refine ⟨s1.heap.objs.size + 1, [s1.heap.objs.size + 1, s1.heap.objs.size], _, _, H1, rfl, J2, turn_enumT a (s1.heap.objs.size + 1) s1.heap.objs.size, ⟨⟨.none, en⟩, here, Nat.succ_ne_self _⟩, ?_, q⟩
  intro b hb
  have ge : s1.heap.objs.size ≤ b := by
    rcases List.mem_cons.mp hb with z | z
    · rw [z]
      exact Nat.le_succ _
    · rw [List.mem_singleton.mp z]
      exact Nat.le_refl _
  exact J.fpOk ge (J.hok.fresh ge)
theorem for_enumT {K : PySem.W.Frag} {a : Addr} {xs : List V} {g : TG} {tb : TS} {D : Ends} {σ : L2.St} {H : Hp} (Pv : Nat → L2.St → Hp → Prop) (h0 : Pv 0 σ H) (hl : ∀ i σ H, i ≤ xs.length → Pv i σ H → SqT K H a xs)
    (hs : ∀ i x σ H T, xs[i]? = some x → Pv i σ H → H T = none → g (.ref T) σ (upd H T (.tup [.int (i : Nat), x])) fun σ2 H2 => tb { D with nx := Pv (i + 1), ct := Pv (i + 1), bk := D.nx } σ2 H2) (hd : ∀ σ H, Pv xs.length σ H → D.nx σ H) :
    ∃ W : Nat → Nat → L2.St → Hp → Prop, (∃ m, W 0 m σ H) ∧ ∀ i m σ H, W i m σ H →
      ((IteT K a).stop i H ∧ D.nx σ H) ∨ ((IteT K a).go i H ∧ ∃ N : L2.St → Hp → Prop, (∀ σ' H', N σ' H' → ∃ m', m' < m ∧ W (i + 1) m' σ' H') ∧ ∀ x H', (IteT K a).yld i H x H' → g x σ H' fun σ2 H2 => tb { D with nx := N, ct := N, bk := D.nx } σ2 H2) := by
  refine ⟨fun i m σ H => m = xs.length - i ∧ i ≤ xs.length ∧ Pv i σ H, ⟨xs.length, by simp, Nat.zero_le _, h0⟩, ?_⟩
  intro i m σ H st
  obtain ⟨rfl, hi, pv⟩ := st
  have q := hl i σ H hi pv
  by_cases lt : i < xs.length
  · refine Or.inr ⟨⟨xs, xs[i], q, List.getElem?_eq_getElem lt⟩, Pv (i + 1), fun σ' H' p' => ⟨xs.length - (i + 1), by omega, rfl, lt, p'⟩, ?_⟩
    intro x H' y
    obtain ⟨T, z, rfl, free, rfl, all⟩ := y
    exact hs i z σ H T (all xs q) pv free
  · have e : i = xs.length := by omega
    subst e
    exact Or.inl ⟨⟨xs, q, Nat.le_refl _⟩, hd σ H pv⟩
end KZ

namespace KZ
open PySem PySem.Spec PyProof.Rows L2
/-! a comprehension with as many clauses as one likes -/
/-- what a turn of clause k - 1 does behind its tests, and then c -/
def behind {α : Type} (elt : Expr) (gens : List Comprehension) (scope : Scope) (pos : Pos) (k : Nat) (acc : Value) (env : Env) (c : Sem α) : Sem α :=
  match gens[k]? with
  | some g => do
    let v ← eval g.iter env
    standAt g.iter.pos
    let v ← if g.is_async != 0 then foldedIterable g.iter v else foldedSetIterable g.iter env v
    let _ ← runOwn (.compStart (.ListComp elt gens scope pos) k (← holding [v] (if g.is_async != 0 then asyncIter v else pyIter v)) acc env) env
    c
  | none => do
    (do let _ ← call (.builtin "list.append") [acc, ← eval elt env])
    c
section
variable {elt tg iter : Expr} {ifs : List Expr} {gens : List Comprehension} {scope : Scope} {pos : Pos} {k : Nat} {it acc : Value} {env : Env}
theorem turnN (hk : gens[k]? = some ⟨tg, iter, ifs, 0⟩) (hn : ∀ c, gens[k + 1]? = some c → c.is_async = 0) : compTurn (.ListComp elt gens scope pos) k it acc env = (do
    standAt iter.pos
    match ← pyNext it with
    | none => pure (.done .next)
    | some x =>
      letOwnedTupleGo tg it x
      assign tg env x
      let mut yes := true
      for c in ifs do
        if yes then yes ← isTrue c env (eval c env)
      if yes then behind elt gens scope pos (k + 1) acc env (again (.compLoop (.ListComp elt gens scope pos) k it acc env))
      else again (.compLoop (.ListComp elt gens scope pos) k it acc env)) := by
  unfold compTurn behind
  dsimp only
  rw [hk]
  dsimp only
  cases e : gens[k + 1]? with
  | none => rfl
  | some c =>
    obtain ⟨t1, i1, f1, a1⟩ := c
    cases (show a1 = 0 from hn _ e)
    rfl
theorem behind_some {α : Type} {c : Sem α} (hk : gens[k]? = some ⟨tg, iter, ifs, 0⟩) : behind elt gens scope pos k acc env c = (do
    let v ← eval iter env
    standAt iter.pos
    let v ← foldedSetIterable iter env v
    let _ ← runOwn (.compStart (.ListComp elt gens scope pos) k (← holding [v] (pyIter v)) acc env) env
    c) := by
  unfold behind
  rw [hk]
  rfl
theorem behind_none {α : Type} {c : Sem α} (hk : gens[k]? = none) : behind elt gens scope pos k acc env c = (do
    (do let _ ← call (.builtin "list.append") [acc, ← eval elt env])
    c) := by
  unfold behind
  rw [hk]
end
section
variable {P : Program} {w : World} {A : Around} {R : Result → Shared → Prop} {s : Shared} {elt tg iter : Expr} {ifs : List Expr} {gens : List Comprehension} {scope : Scope} {pos : Pos} {k : Nat} {it acc : Value} {env : Env}
/-- the errors of a block's loop -/
abbrev LE (P : Program) (w : World) (A : Around) (env : Env) (R : Result → Shared → Prop) : Value → Shared → Prop := notedBy (model P w) A env fun e t => R (.error e) t
theorem loopN (hk : gens[k]? = some ⟨tg, iter, ifs, 0⟩) (hn : ∀ c, gens[k + 1]? = some c → c.is_async = 0) (J : Nat → Shared → Prop)
    (turn : ∀ n t, J n t → wpAny (model P w) A (pyNext it) (fun r t1 => match r with
      | none => R (.ok .next) t1
      | some x => wpAny (model P w) A (letOwnedTupleGo tg it x) (fun _ t2 => wpAny (model P w) A (assign tg env x) (fun _ t3 =>
          wpAny (model P w) A (forIn ifs true fun c r => if r = true then do let ok ← isTrue c env (eval c env); pure (ForInStep.yield ok) else pure (ForInStep.yield r))
            (fun yes t4 => if yes = true then (∀ (c : Sem Fin) (Q : Fin → Shared → Prop), (∀ t5, (∃ m, m < n ∧ J m t5) → wpAny (model P w) (A.under (.compLoop (.ListComp elt gens scope pos) k it acc env)) c Q (LE P w A env R) t5) → wpAny (model P w) (A.under (.compLoop (.ListComp elt gens scope pos) k it acc env)) (behind elt gens scope pos (k + 1) acc env c) Q (LE P w A env R) t4) else ∃ m, m < n ∧ J m t4) (LE P w A env R) t3) (LE P w A env R) t2) (LE P w A env R) t1)
      (LE P w A env R) t)
    (n : Nat) (h : J n s) : codeAny (model P w) A (.compLoop (.ListComp elt gens scope pos) k it acc env) R s := by
  refine codeAny_loop rfl J (fun n t hJ => ?_) n h
  show wpAny _ A ((compTurn (.ListComp elt gens scope pos) k it acc env).onRaise (fun x => do noteFrame x env; theTreesLotGoes x)) _ _ t
  refine wpAny_noted ?_
  rw [turnN hk hn]
  refine wpAny_bind (wpAny_standAt (wpAny_bind (wpAny_mono (turn n t hJ) (fun r t1 h1 => ?_) fun _ _ z => z)))
  match r with
  | none => exact wpAny_pure h1
  | some x =>
    refine wpAny_bind (wpAny_mono h1 (fun _ t2 h2 => ?_) fun _ _ z => z)
    refine wpAny_bind (wpAny_mono h2 (fun _ t3 h3 => ?_) fun _ _ z => z)
    refine wpAny_bind (wpAny_mono h3 (fun yes t4 h4 => ?_) fun _ _ z => z)
    match yes with
    | false => exact wpAny_pure ⟨rfl, h4⟩
    | true => exact h4 _ _ fun t5 h5 => wpAny_pure ⟨rfl, h5⟩
theorem startN (hk : gens[k]? = some ⟨tg, iter, ifs, 0⟩) (h0 : codeAny (model P w) A (.compLoop (.ListComp elt gens scope pos) k it acc env) R s)
    (h : wpAny (model P w) A (pyIter it) (fun it' t => codeAny (model P w) A (.compLoop (.ListComp elt gens scope pos) k it' acc env) R t) (LE P w A env R) s) :
    codeAny (model P w) A (.compStart (.ListComp elt gens scope pos) k it acc env) R s := by
  refine codeAny_of_tree ?_
  show wpAny _ _ ((compStart (.ListComp elt gens scope pos) k it acc env).onRaise (fun x => do noteFrame x env; standAt theWindowsPlace)) _ _ s
  refine wpAny_notedAt ?_
  unfold compStart
  have e : (clausesOf (.ListComp elt gens scope pos))[k]? = some ⟨tg, iter, ifs, 0⟩ := hk
  rw [e]
  show wpAny _ _ (ask >>= _) _ _ s
  refine wpAny_bind (wpAny_askSetting (wpAny_ite ?_))
  split
  · first
      | exact wpAny_bind (wpAny_pure (wpAny_pure ⟨rfl, h0⟩))
      | exact wpAny_pure ⟨rfl, h0⟩
  · refine wpAny_bind (wpAny_rule ?_)
    show wpAny _ _ (standAt iter.pos >>= _) _ _ s
    exact wpAny_bind (wpAny_standAt (wpAny_bind (wpAny_mono h (fun it' t z => wpAny_pure ⟨rfl, z⟩) fun _ _ z => z)))
end
abbrev TIn := L2.St → Hp → (Hp → Prop) → Prop
/-- what stands behind the tests of clause k - 1, in a block's context -/
structure PIn (Y : Cx) (elt : Expr) (gens : List Comprehension) (scope : Scope) (pos : Pos) (k : Nat) (D : Addr) (vs : List Nat) (t : TIn) : Prop where
  go : ∀ (pins : List (Addr × Obj)) (s : Shared) (σ : L2.St) (H : Hp) (Nx : Hp → Prop) (α : Type) (c : Sem α) (Q : α → Shared → Prop) (E : Value → Shared → Prop), L2.Inv Y pins σ H s → t σ H Nx →
    (∀ σ' H' s', L2.Inv Y pins σ' H' s' → σ.length = σ'.length → (∀ (j : Nat) v, (wipe σ vs)[j]? = some (some v) → σ'[j]? = some (some v)) → Nx H' → wpAny (model Y.prog Y.w) Y.A c Q E s') →
    wpAny (model Y.prog Y.w) Y.A (behind elt gens scope pos k (.ref D) Y.env c) Q E s
def tLeaf (te : TE) (D : Addr) : TIn := fun σ H Nx => te σ H fun y H1 => ∃ acc, H1 D = some (.lst acc) ∧ acc.length < sizeLine ∧ Nx (upd H1 D (.lst (acc ++ [y])))
/-- the turns over what has come -/
def tRun (J : It) (g : TG) (tt : TT) (t : TIn) (vs : List Nat) : TIn := fun σ H1 Nx => ∃ W : Nat → Nat → Hp → Prop, (∃ m, W 0 m H1) ∧ ∀ i m H2, W i m H2 →
  (J.stop i H2 ∧ Nx H2) ∨ (J.go i H2 ∧ ∃ N1 : Hp → Prop, (∀ H', N1 H' → ∃ m', m' < m ∧ W (i + 1) m' H') ∧ ∀ x H3, J.yld i H2 x H3 → g x (wipe σ vs) H3 fun σ2 H4 => wipe σ2 vs = wipe σ vs ∧ tt σ2 H4 fun b H5 => if b = true then t σ2 H5 N1 else N1 H5)
def tCl (wi : TI) (g : TG) (tt : TT) (t : TIn) (vs : List Nat) : TIn := fun σ H Nx => wi σ H fun J H1 => tRun J g tt t vs σ H1 Nx
section
variable {Y : Cx} {elt tg iter : Expr} {ifs : List Expr} {gens : List Comprehension} {scope : Scope} {pos : Pos} {k : Nat} {D : Addr} {te : TE} {wi : TI} {g : TG} {tt : TT} {t : TIn} {vs vs' : List Nat}
theorem no_xe {α : Type} {m : Sem α} {Q : α → Shared → Prop} {s : Shared} (hx : ∀ e t, Y.xe e t → False) (h : wpAny (model Y.prog Y.w) Y.A m Q Y.xe s) : wpAny (model Y.prog Y.w) Y.A m Q (fun _ _ => False) s := wpAny_mono h (fun _ _ q => q) hx
theorem pin_leaf (hx : ∀ e t, Y.xe e t → False) (hk : gens[k]? = none) (he : PE Y elt te) : PIn Y elt gens scope pos k D [] (tLeaf te D) := by
  refine ⟨fun pins s σ H Nx α c Q E I h q => ?_⟩
  rw [behind_none hk]
  refine wpAny_bind (wpAny_bind (thnF (no_xe hx (he.run pins s σ H _ I h)) fun z s1 ⟨y, H1, I1, r1, acc, hD, hz, nx⟩ => ?_))
  refine wpAny_bind (app_ok (X := Y) I1 hD hz r1 fun s2 I2 => wpAny_pure ?_)
  exact q σ _ s2 I2 rfl (fun j v e => (wipe_some e).1) nx
theorem loop_run {pins : List (Addr × Obj)} {s2 : Shared} {σ : L2.St} {H2 : Hp} {Nx : Hp → Prop} {it : Addr} {fp : List Addr} {tn : Nat → Heap → Prop} {J : It} (hx : ∀ e t, Y.xe e t → False) (hc : Y.calm = true) (hk : gens[k]? = some ⟨tg, iter, ifs, 0⟩) (hn : ∀ c, gens[k + 1]? = some c → c.is_async = 0)
    (hg : PG Y tg g) (ht : PTs Y ifs tt) (hb : PIn Y elt gens scope pos (k + 1) D vs' t) (sub : ∀ i ∈ vs', i ∈ vs) (I2 : L2.Inv Y pins (wipe σ vs) H2 s2) (T : Turn Y.prog Y.w Y.K tg J fp it tn) (st2 : tn 0 s2.heap) (f2 : ∀ b ∈ fp, FpOk Y pins H2 b) (h : tRun J g tt t vs σ H2 Nx) :
    codeAny (model Y.prog Y.w) Y.A (.compLoop (.ListComp elt gens scope pos) k (.ref it) (.ref D) Y.env)
      (fun r s' => match r with
        | .ok f => f = .next ∧ ∃ H', L2.Inv Y pins (wipe σ vs) H' s' ∧ Nx H'
        | .error _ => False) s2 := by
  obtain ⟨W, ⟨m0, w0⟩, turn⟩ := h
  have still : ∀ {H' : Hp}, (∀ b ∈ fp, H' b = none) → ∀ b ∈ fp, FpOk Y pins H' b := fun hn b hb => ⟨hn b hb, (f2 b hb).2⟩
  refine loopN hk hn (fun n t => ∃ i H', L2.Inv Y pins (wipe σ vs) H' t ∧ tn i t.heap ∧ (∀ b ∈ fp, H' b = none) ∧ W i n H') ?_ m0 ⟨0, H2, I2, st2, fun b hb => (f2 b hb).1, w0⟩
  rintro n s3 ⟨i, H3, I3, st3, n3, w3⟩
  rcases turn i n H3 w3 with ⟨stop, nx⟩ | ⟨go, N1, hN, step⟩
  · refine thnF (T.done Y rfl rfl rfl hc i pins s3 (wipe σ vs) H3 (fun _ _ => False) I3 (still n3) st3 stop) fun r s4 ⟨hr, I4⟩ => ?_
    subst hr
    exact ⟨rfl, H3, I4, nx⟩
  · refine thnF (T.item Y rfl rfl rfl hc i pins s3 (wipe σ vs) H3 (fun _ _ => False) I3 (still n3) st3 go) fun r s4 ⟨u, hr, h4⟩ => ?_
    subst hr
    refine thnF h4 fun _ s5 ⟨y, H5, I5, r5, y5, st5, n5⟩ => ?_
    have I5' := I5.pinned (still n5) (T.obj _ _ st5)
    refine thnF (no_xe hx (hg.run _ s5 (wipe σ vs) H5 y u _ I5' r5 (step y H5 y5))) fun _ s6 ⟨σ6, H6, I6, hw6, q6⟩ => ?_
    refine thnF (no_xe hx (ht.run _ s6 σ6 H6 _ I6 q6)) fun b s7 ⟨H7, I7, q7⟩ => ?_
    have fin : ∀ {σ9 : L2.St} {s9 : Shared} {H9 : Hp}, L2.Inv Y (pins ++ pinsAt fp s5.heap) σ9 H9 s9 → (wipe σ vs).length = σ9.length → (∀ (j : Nat) v, (wipe σ vs)[j]? = some (some v) → σ9[j]? = some (some v)) → N1 H9 →
        ∃ m, m < n ∧ ∃ i H', L2.Inv Y pins (wipe σ vs) H' s9 ∧ tn i s9.heap ∧ (∀ b ∈ fp, H' b = none) ∧ W i m H' := fun {σ9 s9 H9} I9 l9 k9 nx => by
      obtain ⟨m', hm, w9⟩ := hN H9 nx
      have pin : ∀ b ∈ fp, ∀ o, s5.heap.get? b = some o → s9.heap.get? b = some o ∧ H9 b = none := fun b hb o e =>
        let z := I9.pin (b, o) (List.mem_append_right _ (List.mem_append_right _ (mem_pinsAt hb e)))
        ⟨z.1, z.2.1⟩
      refine ⟨m', hm, i + 1, H9, I9.unpinned.weak l9 k9, T.keep _ _ _ st5 fun b hb o e => (pin b hb o e).1, fun b hb => ?_, w9⟩
      obtain ⟨o, e, _⟩ := T.obj _ _ st5 b hb
      exact (pin b hb o e).2
    have l6 : (wipe σ vs).length = σ6.length := by rw [← hw6, wipe_length]
    have k6 : ∀ (j : Nat) v, (wipe σ vs)[j]? = some (some v) → σ6[j]? = some (some v) := fun j v e => by
      rw [← hw6] at e
      exact (wipe_some e).1
    match b with
    | false => exact fin I7 l6 k6 q7
    | true =>
      intro c1 Q1 next
      refine hb.go _ s7 σ6 H7 N1 _ c1 Q1 _ I7 q7 fun σ8 H8 s8 I8 l8 k8 nx => next s8 ?_
      refine fin I8 (l6.trans l8) (fun j v e => k8 j v ?_) nx
      rw [← hw6] at e
      obtain ⟨e1, e2⟩ := wipe_some e
      rw [wipe_out fun z => e2 (sub j z)]
      exact e1
theorem pin_clause (hx : ∀ e t, Y.xe e t → False) (hc : Y.calm = true) (hk : gens[k]? = some ⟨tg, iter, ifs, 0⟩) (hn : ∀ c, gens[k + 1]? = some c → c.is_async = 0) (hi : PI Y tg iter wi) (hg : PG Y tg g) (ht : PTs Y ifs tt) (hb : PIn Y elt gens scope pos (k + 1) D vs' t) (sub : ∀ i ∈ vs', i ∈ vs)
    (hs : ∀ x, foldedSetIterable iter Y.env x = pure x) : PIn Y elt gens scope pos k D vs (tCl wi g tt t vs) := by
  refine ⟨fun pins s σ H Nx α c Q E I h q => ?_⟩
  rw [behind_some hk]
  refine wpAny_bind (thnF (no_xe hx (hi.run pins s σ H _ I h)) fun x s1 hx1 => ?_)
  refine wpAny_bind (wpAny_standAt (wpAny_bind (wpAny_of_eq (hs x) ?_)))
  refine wpAny_bind (wpAny_holding (thnF (no_xe hx hx1) fun itv s2 h2 => ?_))
  obtain ⟨it, fp, tn, J, H2, rfl, I2, T, st2, f2, h⟩ := h2
  refine wpAny_bind (wpAny_runOwn ?_)
  rw [Around.mark_none]
  have loop := loop_run (σ := σ) hx hc hk hn hg ht hb sub (I2.weak (wipe_length _ _) (fun j v e => (wipe_some e).1)) T st2 f2 h
  refine codeAny_mono (startN hk loop (T.self Y.A 0 _ _ _ st2 loop)) fun r s' z => ?_
  match r with
  | .ok f =>
    obtain ⟨_, H', I', nx⟩ := z
    exact q (wipe σ vs) H' s' I' (wipe_length σ vs).symm (fun j v e => e) nx
  | .error e => exact z.elim
end
/-- [elt for .. for ..]: D the new list -/
def tLcN (wi : TI) (g : TG) (tt : TT) (t : Addr → TIn) (vs : List Nat) : TE := fun σ H Q => wi σ H fun J H1 => ∀ D, H1 D = none → tRun J g tt (t D) vs σ (upd H1 D (.lst [])) fun H' => Q (.ref D) H'
section
variable {X : Cx}
theorem lcN_core {pins : List (Addr × Obj)} {s : Shared} {σ : L2.St} {H : Hp} {Q : VK} {elt tg iter : Expr} {ifs : List Expr} {rest : List Comprehension} {scope : Scope} {own : List (Str × Nat)} {pos pos' : Pos} {wi : TI} {g : TG} {tt : TT} {t : Addr → TIn} {vs' : List Nat} {use : Option (Value → Sem Unit)}
    {Qf : Value → Shared → Prop} (hc : X.calm = true) (hN : X.N.Nodup) (I : L2.Inv X pins σ H s) (hi : PI X tg iter wi) (ok : BlkOk X.N X.env.scope scope own)
    (hg : ∀ (s : Shared) (H : Hp) (C : Addr) (cl : List (Str × Addr)) (fp : List Addr), PG (X.blk s H scope (compEnvC scope cl C X.env) fp) tg g)
    (ht : ∀ (s : Shared) (H : Hp) (C : Addr) (cl : List (Str × Addr)) (fp : List Addr), PTs (X.blk s H scope (compEnvC scope cl C X.env) fp) ifs tt)
    (hb : ∀ (s : Shared) (H : Hp) (C : Addr) (cl : List (Str × Addr)) (fp : List Addr) (D : Addr), PIn (X.blk s H scope (compEnvC scope cl C X.env) fp) elt (⟨tg, iter, ifs, 0⟩ :: rest) scope pos 1 D vs' (t D)) (sub : ∀ i ∈ vs', i ∈ own.map (·.2))
    (hn : ∀ c, rest[0]? = some c → c.is_async = 0) (hs : ∀ x, foldedSetIterable iter X.env x = pure x) (h : tLcN wi g tt t (own.map (·.2)) σ H Q)
    (last : ∀ D C s' m H', L2.Inv X pins σ H' s' → Q (.ref D) H' → s'.heap.Ns C m → FpOk X pins H' C → compPost (model X.prog X.w) X.A X.xe use Qf (.ref D) C (.ok .next) s') :
    wpAny (model X.prog X.w) X.A (comprehension (.ListComp elt (⟨tg, iter, ifs, 0⟩ :: rest) scope pos) scope X.env pos' (newList []) false (eval iter X.env) use) Qf X.xe s := by
  have free : ∀ y ∈ scope.names, y.2 = .free → ∃ c, X.env.cells.lookup y.1 = some c := fun y hy e => (ok.free y hy e).elim (fun z => I.ok.has _ (.inl z)) fun z => I.ok.has _ (.inr z)
  refine wpAny_comprehension_free (use := use) rfl hs (closure_ok free) ok.kind (fun y hy e => by rw [ok.uniq y hy, e]) (thn (hi.run pins s σ H _ I h) fun xv s1 hx1 => thn hx1 fun itv s2 h2 => ?_)
  obtain ⟨it, fp, tn, J, H2, rfl, I2, T, st2, f2, q⟩ := h2
  refine wpAny_newObj_type (newEnv_comp ?_) (by show 0 ≤ sizeLine; decide)
  have dn : H2 s2.heap.objs.size = none := I2.hok.fresh (Nat.le_refl _)
  have run := q _ dn
  obtain ⟨s3, e3⟩ : ∃ s3 : Shared, s3 = { s2 with heap := s2.heap.push { cls := .type "list", data := .seq ([] : List Value).toArray } } := ⟨_, rfl⟩
  rw [← e3]
  have heap3 : s3.heap = s2.heap.push { cls := .type "list", data := .seq ([] : List Value).toArray } := by rw [e3]
  have I3 : L2.Inv X pins σ (upd H2 s2.heap.objs.size (.lst [])) s3 := by
    rw [e3]
    exact I2.laid (t' := s2.toks) (fun b o e => Heap.get?_push_of_some _ e) (Nat.le_refl _) ⟨Nat.zero_le _, [], 0, .nil, Heap.get?_push_size _ rfl⟩
  have st3 : tn 0 s3.heap := T.keep _ _ _ st2 fun b _ o e => by
    rw [heap3]
    exact Heap.get?_push_of_some _ e
  have low : ∀ b ∈ fp, b ≠ s2.heap.objs.size ∧ b < s3.heap.objs.size := fun b hb => by
    obtain ⟨o, e, _⟩ := T.obj _ _ st2 b hb
    have lt := Heap.lt_size e
    exact ⟨Nat.ne_of_lt lt, by rw [heap3, Heap.size_push]; exact Nat.lt_succ_of_lt lt⟩
  generalize s2.heap.objs.size = D at run I3 heap3 dn low ⊢
  have f3 : ∀ b ∈ fp, FpOk X pins (upd H2 D (.lst [])) b ∧ b < s3.heap.objs.size := fun b hb => ⟨⟨by rw [upd_ne (low b hb).1]; exact (f2 b hb).1, (f2 b hb).2⟩, (low b hb).2⟩
  have I4 := block_start I3 ok hN f3
  have bg := hg s3 (upd H2 D (.lst [])) s3.heap.objs.size (cellsFrom (s3.heap.objs.size + 1) scope.names (cloFrom X.env.cells scope.names [])) fp
  have bt := ht s3 (upd H2 D (.lst [])) s3.heap.objs.size (cellsFrom (s3.heap.objs.size + 1) scope.names (cloFrom X.env.cells scope.names [])) fp
  have bb := hb s3 (upd H2 D (.lst [])) s3.heap.objs.size (cellsFrom (s3.heap.objs.size + 1) scope.names (cloFrom X.env.cells scope.names [])) fp D
  show codeAny (model X.prog X.w) X.A (.compStart _ 0 (.ref it) (.ref D) (compEnvC scope (cellsFrom (s3.heap.objs.size + 1) scope.names (cloFrom X.env.cells scope.names [])) s3.heap.objs.size X.env)) _ { s3 with heap := pushCells (s3.heap.push { cls := .type "dict", data := .dict #[] }) scope.names }
  have none3 : ∀ b ∈ fp, upd H2 D (.lst []) b = none := fun b hb => (f3 b hb).1.1
  obtain ⟨ce, ece⟩ : ∃ ce, ce = compEnvC scope (cellsFrom (s3.heap.objs.size + 1) scope.names (cloFrom X.env.cells scope.names [])) s3.heap.objs.size X.env := ⟨_, rfl⟩
  rw [← ece] at I4 bg bt bb ⊢
  have here : ce.locals = s3.heap.objs.size := by
    rw [ece]
    rfl
  obtain ⟨s4, e4⟩ : ∃ s4 : Shared, s4 = { s3 with heap := pushCells (s3.heap.push { cls := .type "dict", data := .dict #[] }) scope.names } := ⟨_, rfl⟩
  rw [← e4] at I4 ⊢
  have st4 : tn 0 s4.heap := T.keep _ _ _ st3 fun b _ o e => by
    rw [e4]
    exact pushCells_keeps _ _ _ _ (Heap.get?_push_of_some _ e)
  have in4 : ∀ b ∈ fp, FpOk (X.blk s3 (upd H2 D (.lst [])) scope ce fp) [] (upd H2 D (.lst [])) b := fun b hb => ⟨none3 b hb, (I4.ok.exf b hb).1, I4.ok.exfs b hb, .inl hb, fun x c e => (I4.ok.exf b hb).2 x c e, fun p hp => (nomatch (show p ∈ ([] : List (Addr × Obj)) ++ [] from hp))⟩
  have loop := loop_run (Y := X.blk s3 (upd H2 D (.lst [])) scope ce fp) (fun _ _ z => z) hc (rfl : ((⟨tg, iter, ifs, 0⟩ :: rest : List Comprehension))[0]? = some ⟨tg, iter, ifs, 0⟩) hn bg bt bb sub I4 T st4 in4 run
  have loop' : codeAny (model X.prog X.w) X.A (.compLoop (.ListComp elt (⟨tg, iter, ifs, 0⟩ :: rest) scope pos) 0 (.ref it) (.ref D) ce) (compPost (model X.prog X.w) X.A X.xe use Qf (.ref D) s3.heap.objs.size) s4 := by
    refine codeAny_mono loop fun r s' z => ?_
    match r with
    | .error e => exact z.elim
    | .ok f =>
      obtain ⟨rfl, H', I6, qq⟩ := z
      have I7 : L2.Inv X pins σ H' s' := I3.call' (ch := fp) I6.os I6.base I6.hok I6.bare fun b hb => by
        obtain ⟨_, z1, z2, z3, z4⟩ := (f3 b hb).1
        exact ⟨z3, z1, z4.1, z4.2⟩
      have gone : H' s3.heap.objs.size = none := by
        have z : H' ce.locals = none := I6.free
        rw [here] at z
        exact z
      obtain ⟨m, nm, _⟩ := I6.loc
      have nm : s'.heap.Ns ce.locals m := nm
      rw [here] at nm
      exact last D s3.heap.objs.size s' m H' I7 qq nm (I3.fpOk (Nat.le_refl _) gone)
  exact codeAny_compStart_list loop' (T.self X.A 0 _ _ _ st4 loop')
/-- as a value -/
theorem pe_lcN {elt tg iter : Expr} {ifs : List Expr} {rest : List Comprehension} {scope : Scope} {own : List (Str × Nat)} {pos : Pos} {wi : TI} {g : TG} {tt : TT} {t : Addr → TIn} {vs' : List Nat} (hc : X.calm = true) (hN : X.N.Nodup) (hi : PI X tg iter wi) (ok : BlkOk X.N X.env.scope scope own)
    (hg : ∀ (s : Shared) (H : Hp) (C : Addr) (cl : List (Str × Addr)) (fp : List Addr), PG (X.blk s H scope (compEnvC scope cl C X.env) fp) tg g)
    (ht : ∀ (s : Shared) (H : Hp) (C : Addr) (cl : List (Str × Addr)) (fp : List Addr), PTs (X.blk s H scope (compEnvC scope cl C X.env) fp) ifs tt)
    (hb : ∀ (s : Shared) (H : Hp) (C : Addr) (cl : List (Str × Addr)) (fp : List Addr) (D : Addr), PIn (X.blk s H scope (compEnvC scope cl C X.env) fp) elt (⟨tg, iter, ifs, 0⟩ :: rest) scope pos 1 D vs' (t D)) (sub : ∀ i ∈ vs', i ∈ own.map (·.2))
    (hn : ∀ c, rest[0]? = some c → c.is_async = 0) (hs : ∀ x, foldedSetIterable iter X.env x = pure x := by intro _; rfl) : PE X (.ListComp elt (⟨tg, iter, ifs, 0⟩ :: rest) scope pos) (tLcN wi g tt t (own.map (·.2))) := by
  refine ⟨fun pins s σ H Q I h => ?_⟩
  rw [eval_ListComp]
  refine lcN_core hc hN I hi ok hg ht hb sub hn hs h fun D C s' m H' I' q nm f => ⟨m, nm, fun h'' sb => ?_⟩
  obtain ⟨f0, f1, _, f3, f4, f5⟩ := f
  exact ⟨.ref D, H', I'.turned (t' := s'.toks) (fun b o ne e => (sb.2 b ne).trans e) f0 f1 f3 f4 f5, rfl, q⟩
end
end KZ

namespace KZ
open PySem PySem.Spec PyProof.Rows L2
/-! range(n) as a value, walked -/
def rRg1 : List V → Hp → VK → Prop := fun vs H Q => ∃ j : Int, vs = [.int j] ∧ ∀ p, H p = none → Q (.ref p) (upd H p (.rng 0 j))
theorem call_rg1 {X : Cx} : CallR X (.type "range") rRg1 := by
  intro pins s σ H vs us Q I r h
  obtain ⟨j, rfl, q⟩ := h
  obtain ⟨u1, rfl, rj⟩ := vals1 r
  obtain ⟨t, rfl⟩ := rj
  refine call_range_1 ⟨.ref s.heap.objs.size, upd H s.heap.objs.size (.rng 0 j), I.laid (t' := s.toks + 1 + 1) (fun b o e => Heap.get?_push_of_some _ e) (Nat.le_refl _) ?_, rfl, q _ (I.hok.fresh (Nat.le_refl _))⟩
  exact ⟨_, _, _, Heap.get?_push_size _ rfl⟩
def iRgV (tl : TE) : TI := fun σ H R => tl σ H fun x H1 => ∃ (a : Addr) (lo hi : Int), x = .ref a ∧ H1 a = some (.rng lo hi) ∧ (-(2 ^ 62) ≤ lo ∧ lo < 2 ^ 62 ∧ -(2 ^ 62) ≤ hi ∧ hi < 2 ^ 62) ∧ R (Itr lo (hi - lo).toNat) H1
theorem pi_rgV {X : Cx} {tg l : Expr} {tl : TE} (hl : PE X l tl) : PI X tg l (iRgV tl) := by
  refine ⟨fun pins s σ H R I h => ?_⟩
  refine thn (hl.run pins s σ H _ I h) fun v s1 ⟨x, H1, I1, r1, a, lo, hi, ex, ha, ⟨b1, b2, b3, b4⟩, q⟩ => ?_
  subst ex
  cases r1
  obtain ⟨t, u, w, hg⟩ := I1.hok a _ ha
  refine wpAny_pyIter_range (t := t) (u := u) (v := w) hg (small_one b1 b2 b3 b4) ?_
  have I2 : L2.Inv X pins σ H1 { s1 with heap := s1.heap.push { cls := .type "range_iterator", data := .fields #[rawInt lo, rawInt (Builtin.Range.rangeSize lo hi 1), rawInt 1] } } := I1.kept (t' := s1.toks) fun b o e => Heap.get?_push_of_some _ e
  refine ⟨s1.heap.objs.size, [s1.heap.objs.size], _, _, H1, rfl, I2, turn_range _ lo (hi - lo).toNat, ?_, fun b hb => ?_, q⟩
  · have e1 : lo + ((0 : Nat) : Int) * 1 = lo := by simp
    have e2 : (((hi - lo).toNat : Nat) : Int) - ((0 : Nat) : Int) = Builtin.Range.rangeSize lo hi 1 := by
      rw [rangeSize_one]
      split <;> omega
    show IsRangeIter _ _ (lo + ((0 : Nat) : Int) * 1) ((((hi - lo).toNat : Nat) : Int) - ((0 : Nat) : Int)) 1
    rw [e1, e2]
    exact Heap.get?_push_size _ rfl
  · rw [List.mem_singleton.mp hb]
    exact I1.fpOk (Nat.le_refl _) (I1.hok.fresh (Nat.le_refl _))
/-! the turns of a clause, by what is true ahead of each -/
theorem run_range {lo : Int} {n : Nat} {g : TG} {tt : TT} {t : TIn} {vs : List Nat} {σ : L2.St} {H : Hp} {Nx : Hp → Prop} (Pv : Nat → Hp → Prop) (h0 : Pv 0 H)
    (hs : ∀ i H, i < n → Pv i H → g (.int (lo + i)) (wipe σ vs) H fun σ2 H2 => wipe σ2 vs = wipe σ vs ∧ tt σ2 H2 fun b H3 => if b = true then t σ2 H3 (Pv (i + 1)) else Pv (i + 1) H3) (hd : ∀ H, Pv n H → Nx H) : tRun (Itr lo n) g tt t vs σ H Nx := by
  refine ⟨fun i m H => m = n - i ∧ i ≤ n ∧ Pv i H, ⟨n, by simp, Nat.zero_le _, h0⟩, ?_⟩
  rintro i m H2 ⟨rfl, hi, p⟩
  by_cases lt : i < n
  · refine Or.inr ⟨lt, Pv (i + 1), fun H' p' => ⟨n - (i + 1), by omega, rfl, lt, p'⟩, fun x H' y => ?_⟩
    obtain ⟨rfl, rfl⟩ := y
    exact hs i _ lt p
  · have e : i = n := by omega
    subst e
    exact Or.inl ⟨Nat.le_refl _, hd H2 p⟩
theorem run_tup {K : PySem.W.Frag} {a : Addr} {xs : List V} {g : TG} {tt : TT} {t : TIn} {vs : List Nat} {σ : L2.St} {H : Hp} {Nx : Hp → Prop} (Pv : Nat → Hp → Prop) (h0 : Pv 0 H) (hl : ∀ i H, i ≤ xs.length → Pv i H → SqT K H a xs)
    (hs : ∀ i x H, xs[i]? = some x → Pv i H → g x (wipe σ vs) H fun σ2 H2 => wipe σ2 vs = wipe σ vs ∧ tt σ2 H2 fun b H3 => if b = true then t σ2 H3 (Pv (i + 1)) else Pv (i + 1) H3) (hd : ∀ H, Pv xs.length H → Nx H) : tRun (Itt K a) g tt t vs σ H Nx := by
  refine ⟨fun i m H => m = xs.length - i ∧ i ≤ xs.length ∧ Pv i H, ⟨xs.length, by simp, Nat.zero_le _, h0⟩, ?_⟩
  rintro i m H2 ⟨rfl, hi, p⟩
  have sq := hl i H2 hi p
  by_cases lt : i < xs.length
  · refine Or.inr ⟨⟨xs, xs[i], sq, by simp [lt]⟩, Pv (i + 1), fun H' p' => ⟨xs.length - (i + 1), by omega, rfl, lt, p'⟩, fun x H' y => ?_⟩
    obtain ⟨rfl, y⟩ := y
    exact hs i x _ (y xs sq) p
  · have e : i = xs.length := by omega
    subst e
    exact Or.inl ⟨⟨xs, sq, Nat.le_refl _⟩, hd H2 p⟩
end KZ

namespace KZ
open PySem PySem.Spec PyProof.Rows L2
/-! a test without a bag -/
def EvB (tt : TT) (σ : L2.St) (H : Hp) (b : Bool) : Prop := ∀ H1, Sub H H1 → ∀ Q : Bool → Hp → Prop, (∀ H', Sub H1 H' → Q b H') → tt σ H1 Q
section
variable {K : PySem.W.Frag} {M : List Addr} {σ : L2.St} {H H' : Hp} {ta tb te tx : TE} {tr : TA} {t u : TT} {d e : PyData} {ds es : List PyData} {b c : Bool}
theorem EvB.sub (h : EvB t σ H b) (s : Sub H H') : EvB t σ H' b := fun H1 s1 => h H1 (s.trans s1)
theorem evd_eqI {i j : Int} (ha : EvD K M ta σ H (.int i)) (hb : EvD K M tb σ H (.int j)) : EvD K M (tOp rEq ta tb) σ H (.bool (decide (i = j))) := fun H1 s Q q =>
  ha H1 s _ fun v H2 s2 hv => hb H2 (s.trans s2) _ fun u H3 s3 hu => by
    cases hv.intAt
    cases hu.intAt
    refine ⟨rfl, q _ H3 (s2.trans s3) ?_⟩
    have e : decide (V.int i = V.int j) = decide (i = j) := by
      by_cases z : i = j
      · rw [decide_eq_true z, decide_eq_true (by rw [z])]
      · rw [decide_eq_false z, decide_eq_false fun y => z (by cases y; rfl)]
    rw [e]
    exact .bl _
theorem evd_neI {i j : Int} (ha : EvD K M ta σ H (.int i)) (hb : EvD K M tb σ H (.int j)) : EvD K M (tOp rNe ta tb) σ H (.bool (!decide (i = j))) := fun H1 s Q q =>
  ha H1 s _ fun v H2 s2 hv => hb H2 (s.trans s2) _ fun u H3 s3 hu => by
    cases hv.intAt
    cases hu.intAt
    refine ⟨rfl, q _ H3 (s2.trans s3) ?_⟩
    have e : decide (V.int i = V.int j) = decide (i = j) := by
      by_cases z : i = j
      · rw [decide_eq_true z, decide_eq_true (by rw [z])]
      · rw [decide_eq_false z, decide_eq_false fun y => z (by cases y; rfl)]
    rw [e]
    exact .bl _
theorem evd_eqS {i j : Str} (ha : EvD K M ta σ H (.str i)) (hb : EvD K M tb σ H (.str j)) : EvD K M (tOp rEq ta tb) σ H (.bool (decide (i = j))) := fun H1 s Q q =>
  ha H1 s _ fun v H2 s2 hv => hb H2 (s.trans s2) _ fun u H3 s3 hu => by
    cases hv.strAt
    cases hu.strAt
    refine ⟨rfl, q _ H3 (s2.trans s3) ?_⟩
    have e : decide (V.str i = V.str j) = decide (i = j) := by
      by_cases z : i = j
      · rw [decide_eq_true z, decide_eq_true (by rw [z])]
      · rw [decide_eq_false z, decide_eq_false fun y => z (by cases y; rfl)]
    rw [e]
    exact .bl _
theorem evb_test (h : EvD K M te σ H (.bool b)) : EvB (tTest te) σ H b := fun H1 s Q q => h H1 s _ fun v H2 s2 hv => by
  cases hv.blAt
  exact ⟨b, rfl, q H2 s2⟩
theorem evb_val (h : EvD K M te σ H (.bool b)) : EvB (tB te) σ H b := fun H1 s Q q => h H1 s _ fun v H2 s2 hv => by
  cases hv.blAt
  exact ⟨b, rfl, q H2 s2⟩
theorem evb_not (h : EvB t σ H b) : EvB (tNot t) σ H (!b) := fun H1 s Q q => h H1 s _ fun H2 s2 => q H2 s2
theorem evb_and (h : EvB t σ H b) (g : b = true → EvB u σ H c) : EvB (tAnd t u) σ H (b && c) := fun H1 s Q q => h H1 s _ fun H2 s2 => by
  cases b with
  | true => exact g rfl H2 (s.trans s2) _ fun H3 s3 => q H3 (s2.trans s3)
  | false => exact q H2 s2
theorem evb_or (h : EvB t σ H b) (g : b = false → EvB u σ H c) : EvB (tOr t u) σ H (b || c) := fun H1 s Q q => h H1 s _ fun H2 s2 => by
  cases b with
  | true => exact q H2 s2
  | false => exact g rfl H2 (s.trans s2) _ fun H3 s3 => q H3 (s2.trans s3)
theorem evd_and (h : EvD K M ta σ H (.bool b)) (g : b = true → EvD K M tb σ H (.bool c)) : EvD K M (tAndV ta tb) σ H (.bool (b && c)) := fun H1 s Q q => h H1 s _ fun v H2 s2 hv => by
  cases hv.blAt
  refine ⟨b, rfl, ?_⟩
  cases b with
  | true => exact g rfl H2 (s.trans s2) _ fun w H3 s3 hw => q w H3 (s2.trans s3) hw
  | false => exact q _ H2 s2 (.bl _)
theorem truL (h : Dm K M H v (.list ds)) : TruV K v H (!ds.isEmpty) := by
  obtain ⟨a, xs, rfl, hs, ha⟩ := Dm.lstAt h
  refine .inl ⟨xs, hs, ?_⟩
  have l := ha.len
  cases xs <;> cases ds <;> first | rfl | simp at l
theorem evd_notL (h : EvD K M te σ H (.list ds)) : EvD K M (tNotT K te) σ H (.bool ds.isEmpty) := fun H1 s Q q => h H1 s _ fun v H2 s2 hv => by
  refine ⟨_, truL hv, ?_⟩
  rw [Bool.not_not]
  exact q _ H2 s2 (.bl _)
/-- [g(x) for x in a list if c(x)] -/
theorem evd_lcF {tt : TT} {vs : List Nat} {j : Nat} (f : PyData → Bool) (g : PyData → PyData) (n : Kn M H) (h : EvD K M te σ H (.list ds)) (hz : ds.length < 100000) (hw : ∀ x, wipe ((wipe σ vs).set j (some x)) vs = wipe σ vs)
    (ht : ∀ (Dl : Addr), H Dl = none → ∀ (d : PyData) (x : V) (H1 : Hp), Sub H H1 → Kn (Dl :: M) H1 → d ∈ ds → Dm K (Dl :: M) H1 x d → EvB tt ((wipe σ vs).set j (some x)) H1 (f d))
    (he : ∀ (Dl : Addr), H Dl = none → ∀ (d : PyData) (x : V) (H1 : Hp), Sub H H1 → Kn (Dl :: M) H1 → d ∈ ds → f d = true → Dm K (Dl :: M) H1 x d → EvD K (Dl :: M) tb ((wipe σ vs).set j (some x)) H1 (g d)) : EvNL K M (tLc (iList K te) (gName j) tt tb vs) σ H ((ds.filter f).map g) := fun H1 s Q q =>
  h H1 s _ fun v H2 s2 hv => by
    obtain ⟨a, xs, rfl, hs, ha⟩ := hv.lstAtE
    have s02 := s.trans s2
    have hl := ha.len
    refine ⟨a, rfl, ⟨xs, (er_sub _ _).sqL hs⟩, fun Dl hD => ?_⟩
    have h0D : H Dl = none := s02.free hD
    refine lc_list (K := K) (a := a) (xs := xs) (fun i H' => Sub H2 H' ∧ ∃ acc, H' Dl = some (.lst acc) ∧ Dms K (Dl :: M) H' acc (((ds.take i).filter f).map g) ∧ SqL K (er (Dl :: M) H') a xs ∧ Dms K (Dl :: M) H' xs ds)
      ⟨Sub.new hD, [], upd_same, .nil, Sub.sqL (Kp.er (Kp.mut List.mem_cons_self)) (by rw [er_more hD]; exact hs), (ha.more hD).k (Kp.mut List.mem_cons_self)⟩ (fun i H' _ p => ?_) (fun i x H' hi p => ?_) (fun H' p => ?_)
    · obtain ⟨_, acc, _, _, p3, _⟩ := p
      exact (er_sub _ _).sqL p3
    · obtain ⟨sp, acc, p1, p2, p3, p4⟩ := p
      obtain ⟨d, hd, hx⟩ := p4.get' hi
      refine ⟨hw x, ?_⟩
      refine ht Dl h0D d x H' (s02.trans sp) ((n.sub (s02.trans sp)).more ⟨_, p1⟩) (List.mem_of_getElem? hd) hx H' (Sub.refl _) _ fun H3 s3 => ?_
      have p13 := s3 _ _ p1
      by_cases ef : f d = true
      · rw [if_pos ef]
        refine he Dl h0D d x H3 (s02.trans (sp.trans s3)) ((n.sub (s02.trans (sp.trans s3))).more ⟨_, p13⟩) (List.mem_of_getElem? hd) ef (Dm.s hx s3) H3 (Sub.refl _) _ fun y H4 s4 hy => ⟨acc, s4 _ _ p13, ?_, ?_⟩
        · have q1 := p2.len
          have q2 := List.length_filter_le f (ds.take i)
          rw [List.length_map] at q1
          rw [List.length_take] at q2
          exact szl (by omega)
        · have km : Kp (Dl :: M) H4 (upd H4 Dl (.lst (acc ++ [y]))) := Kp.mut List.mem_cons_self
          refine ⟨((sp.trans s3).trans s4).mut hD, _, upd_same, ?_, Sub.sqL km.er (Sub.sqL (Kp.er fun a o _ e => (s3.trans s4) a o e) p3), (Dms.s p4 (s3.trans s4)).k km⟩
          rw [take_snoc hd, List.filter_append, List.map_append]
          have e1 : [d].filter f = [d] := by rw [List.filter_cons, if_pos ef]; rfl
          rw [e1]
          exact Dms.k ((Dms.s p2 (s3.trans s4)).app (DpAll.one hy)) km
      · rw [if_neg ef]
        refine ⟨sp.trans s3, acc, p13, ?_, Sub.sqL (Kp.er fun a o _ e => s3 a o e) p3, Dms.s p4 s3⟩
        rw [take_snoc hd, List.filter_append]
        have e1 : [d].filter f = [] := by rw [List.filter_cons, if_neg ef]; rfl
        rw [e1, List.append_nil]
        exact Dms.s p2 s3
    · obtain ⟨sp, acc, p1, p2, p3, p4⟩ := p
      rw [hl, List.take_length] at p2
      exact q Dl acc H' (s2.trans sp) (s2.free hD) p1 p2
/-- [g(x) for x in a tuple if c(x)] -/
theorem evd_lcFT {tt : TT} {vs : List Nat} {j : Nat} (f : PyData → Bool) (g : PyData → PyData) (n : Kn M H) (h : EvD K M te σ H (.tuple ds)) (hz : ds.length < 100000) (hw : ∀ x, wipe ((wipe σ vs).set j (some x)) vs = wipe σ vs)
    (ht : ∀ (Dl : Addr), H Dl = none → ∀ (d : PyData) (x : V) (H1 : Hp), Sub H H1 → Kn (Dl :: M) H1 → d ∈ ds → Dm K (Dl :: M) H1 x d → EvB tt ((wipe σ vs).set j (some x)) H1 (f d))
    (he : ∀ (Dl : Addr), H Dl = none → ∀ (d : PyData) (x : V) (H1 : Hp), Sub H H1 → Kn (Dl :: M) H1 → d ∈ ds → f d = true → Dm K (Dl :: M) H1 x d → EvD K (Dl :: M) tb ((wipe σ vs).set j (some x)) H1 (g d)) : EvNL K M (tLc (iTup K te) (gName j) tt tb vs) σ H ((ds.filter f).map g) := fun H1 s Q q =>
  h H1 s _ fun v H2 s2 hv => by
    obtain ⟨a, xs, rfl, hs, ha⟩ := hv.tupAtE
    have s02 := s.trans s2
    have hl := ha.len
    refine ⟨a, rfl, ⟨xs, (er_sub _ _).sqT hs⟩, fun Dl hD => ?_⟩
    have h0D : H Dl = none := s02.free hD
    refine lc_tup (K := K) (a := a) (xs := xs) (fun i H' => Sub H2 H' ∧ ∃ acc, H' Dl = some (.lst acc) ∧ Dms K (Dl :: M) H' acc (((ds.take i).filter f).map g) ∧ SqT K (er (Dl :: M) H') a xs ∧ Dms K (Dl :: M) H' xs ds)
      ⟨Sub.new hD, [], upd_same, .nil, Sub.sqT (Kp.er (Kp.mut List.mem_cons_self)) (by rw [er_more hD]; exact hs), (ha.more hD).k (Kp.mut List.mem_cons_self)⟩ (fun i H' _ p => ?_) (fun i x H' hi p => ?_) (fun H' p => ?_)
    · obtain ⟨_, acc, _, _, p3, _⟩ := p
      exact (er_sub _ _).sqT p3
    · obtain ⟨sp, acc, p1, p2, p3, p4⟩ := p
      obtain ⟨d, hd, hx⟩ := p4.get' hi
      refine ⟨hw x, ?_⟩
      refine ht Dl h0D d x H' (s02.trans sp) ((n.sub (s02.trans sp)).more ⟨_, p1⟩) (List.mem_of_getElem? hd) hx H' (Sub.refl _) _ fun H3 s3 => ?_
      have p13 := s3 _ _ p1
      by_cases ef : f d = true
      · rw [if_pos ef]
        refine he Dl h0D d x H3 (s02.trans (sp.trans s3)) ((n.sub (s02.trans (sp.trans s3))).more ⟨_, p13⟩) (List.mem_of_getElem? hd) ef (Dm.s hx s3) H3 (Sub.refl _) _ fun y H4 s4 hy => ⟨acc, s4 _ _ p13, ?_, ?_⟩
        · have q1 := p2.len
          have q2 := List.length_filter_le f (ds.take i)
          rw [List.length_map] at q1
          rw [List.length_take] at q2
          exact szl (by omega)
        · have km : Kp (Dl :: M) H4 (upd H4 Dl (.lst (acc ++ [y]))) := Kp.mut List.mem_cons_self
          refine ⟨((sp.trans s3).trans s4).mut hD, _, upd_same, ?_, Sub.sqT km.er (Sub.sqT (Kp.er fun a o _ e => (s3.trans s4) a o e) p3), (Dms.s p4 (s3.trans s4)).k km⟩
          rw [take_snoc hd, List.filter_append, List.map_append]
          have e1 : [d].filter f = [d] := by rw [List.filter_cons, if_pos ef]; rfl
          rw [e1]
          exact Dms.k ((Dms.s p2 (s3.trans s4)).app (DpAll.one hy)) km
      · rw [if_neg ef]
        refine ⟨sp.trans s3, acc, p13, ?_, Sub.sqT (Kp.er fun a o _ e => s3 a o e) p3, Dms.s p4 s3⟩
        rw [take_snoc hd, List.filter_append]
        have e1 : [d].filter f = [] := by rw [List.filter_cons, if_neg ef]; rfl
        rw [e1, List.append_nil]
        exact Dms.s p2 s3
    · obtain ⟨sp, acc, p1, p2, p3, p4⟩ := p
      rw [hl, List.take_length] at p2
      exact q Dl acc H' (s2.trans sp) (s2.free hD) p1 p2
theorem evb_yes : EvB tYes σ H true := fun H1 s Q q => q H1 (Sub.refl _)
theorem filter_yes {α : Type} (l : List α) : l.filter (fun _ => true) = l := by
  induction l with
  | nil => rfl
  | cons a l ih => rw [List.filter_cons, if_pos rfl, ih]
theorem bls_dps {H : Hp} : ∀ {l : List Bool} {vs : List V}, DpAll K H vs (l.map PyData.bool) → vs = l.map V.bl
  | [], _, h => by
    cases h
    rfl
  | x :: l, _, h => by
    cases h with
    | cons h1 h2 =>
      cases h1
      rw [bls_dps h2]
      rfl
/-- all of a list of truths -/
theorem evd_all {bs : List Bool} (h : EvD K M te σ H (.list (bs.map PyData.bool))) : EvD K M (tCB (rAll K) (tCons te tNil)) σ H (.bool (bs.all id)) := fun H1 s Q q => h H1 s _ fun v H2 s2 hv => by
  obtain ⟨a, xs, rfl, hs, ha⟩ := hv.lstAt
  have e : xs = bs.map V.bl := bls_dps ha
  subst e
  exact ⟨a, bs, rfl, hs, q _ H2 s2 (.bl _)⟩
end
end KZ

namespace KZ
open PySem PySem.Spec PyProof.Rows L2
theorem yes_of {σ : L2.St} {H : Hp} {p q : Hp → Prop} (h : p H) : tYes σ H fun b H3 => if b = true then p H3 else q H3 := by
  show if true = true then p H else q H
  rw [if_pos rfl]
  exact h
theorem run_range0 {n : Nat} {g : TG} {tt : TT} {t : TIn} {vs : List Nat} {σ : L2.St} {H : Hp} {Nx : Hp → Prop} (Pv : Nat → Hp → Prop) (h0 : Pv 0 H)
    (hs : ∀ (i : Nat) H, i < n → Pv i H → g (.int (i : Int)) (wipe σ vs) H fun σ2 H2 => wipe σ2 vs = wipe σ vs ∧ tt σ2 H2 fun b H3 => if b = true then t σ2 H3 (Pv (i + 1)) else Pv (i + 1) H3) (hd : ∀ H, Pv n H → Nx H) : tRun (Itr 0 n) g tt t vs σ H Nx :=
  run_range Pv h0 (fun i H hi p => by
    rw [Int.zero_add]
    exact hs i H hi p) hd
/-- the list of places so far -/
def PA (K : PySem.W.Frag) (M : List Addr) (H0 : Hp) (D : Addr) (l : List Pl) (H' : Hp) : Prop := Sub H0 H' ∧ ∃ acc, H' D = some (.lst acc) ∧ Dms K (D :: M) H' acc (l.map plD)
section
variable {K : PySem.W.Frag} {M : List Addr} {H0 H' H'' : Hp} {D z : Addr} {l : List Pl}
theorem PA.sub (h : PA K M H0 D l H') (s : Sub H' H'') : PA K M H0 D l H'' := by
  obtain ⟨s0, acc, e, d⟩ := h
  exact ⟨s0.trans s, acc, s _ _ e, Dms.s d s⟩
theorem PA.new (n : Kn M H0) (hD : H0 D = none) : PA K M H0 D [] (upd H0 D (.lst [])) := ⟨Sub.new hD, [], upd_same, .nil⟩
theorem PA.add (n : Kn M H0) (hD : H0 D = none) (h : PA K M H0 D l H') (hz : H' z = none) (p : Pl) (hl : l.length < 100000) : ∃ acc, upd H' z (.tup ((plK p).map kV)) D = some (.lst acc) ∧ acc.length < sizeLine ∧ PA K M H0 D (l ++ [p]) (upd (upd H' z (.tup ((plK p).map kV))) D (.lst (acc ++ [.ref z]))) := by
  obtain ⟨s0, acc, e, d⟩ := h
  have s1 : Sub H' (upd H' z (.tup ((plK p).map kV))) := Sub.new hz
  have ll := d.len
  rw [List.length_map] at ll
  refine ⟨acc, s1 _ _ e, szl (by omega), (s0.trans s1).mut hD, _, upd_same, ?_⟩
  rw [List.map_append]
  have km : Kp (D :: M) (upd H' z (.tup ((plK p).map kV))) (upd (upd H' z (.tup ((plK p).map kV))) D (.lst (acc ++ [.ref z]))) := Kp.mut List.mem_cons_self
  exact Dms.k ((Dms.s d s1).app (DpAll.one (Dm.tupNew ((n.sub s0).more ⟨_, e⟩) hz (.cons (.int _) (.cons (.int _) (.cons (.int _) (.cons (.int _) .nil))))))) km
end
def spPof (K : PySem.W.Frag) : Sp := fun vs H Q _ => ∃ (M : List Addr) (v : V) (ks ss : List PyData) (j : PyData), vs = [v] ∧ Kn M H ∧ Dm K M H v (.tuple [.tuple ks, .tuple ss, j]) ∧ ks.length < 10 ∧ ss.length < 10 ∧
  ∀ (y : V) (H' : Hp), Sub H H' → Dm K M H' y (.list ((plL ks.length ss.length).map plD)) → Q y H'
section
variable {P : Program} {w : World} {K : PySem.W.Frag} {mg : Str → Option Value} {base : Heap}
abbrev sPof : Stmt := topS 1
theorem scPof : FnScope ["house", "kinds", "sorts", "sort", "asker", "holder", "side"] ["house"] (defScope sPof) := ⟨rfl, rfl, rfl, by decide +kernel, rfl, by decide +kernel, by decide +kernel⟩
theorem bootRange : bootBuiltins "range" = some (.type "range") := by decide +kernel
theorem none_async {l : List Comprehension} {k : Nat} (h : ∀ c ∈ l, c.is_async = 0) : ∀ c, l[k]? = some c → c.is_async = 0 := fun c e => h c (List.mem_of_getElem? e)
/-- len(house[i]), as an int -/
theorem evd_len {M : List Addr} {σ : L2.St} {H : Hp} {i : Int} {ds rs : List PyData} {v : V} (hv : σ[0]? = some (some v)) (hd : Dm K M H v (.tuple ds)) (i0 : 0 ≤ i) (hi : ds[i.toNat]? = some (.tuple rs)) :
    EvD K M (tCB (fun xs H Q => ∃ p ys, xs = [V.ref p] ∧ (SqL K H p ys ∨ SqT K H p ys) ∧ Q (.int ys.length) H) (tCons (tOp (rIxT K) (tVar 0) (tC (.int i))) tNil)) σ H (.int rs.length) := fun H1 s Q q => by
  obtain ⟨a, xs, y, rfl, hs, hat, hy⟩ := dm_getT (Dm.s hd s) i0 hi
  obtain ⟨b, ys, rfl, hs2, ha2⟩ := hy.tupAt
  refine ⟨_, hv, a, xs, i, _, rfl, rfl, hs, hat, b, ys, rfl, .inr hs2, ?_⟩
  rw [ha2.len]
  exact q _ H1 (Sub.refl _) (.int _)
theorem ok_pof {f : Addr} {fd : FuncData} (F : Fun K "places_of" "places_of" sPof f fd) (T : Txt mg) : FnOk P w K mg base CX0 1 f fd ["house"] (spPof K) := by
  refine F.ok scPof (fun vs H Q E h => ?_) (fun cdv A outer s H vs Q E hr h => ?_)
  · obtain ⟨M, v, ks, ss, j, rfl, _⟩ := h
    rfl
  · obtain ⟨M, v, ks, ss, j, rfl, kn, hv, kz, sz, k⟩ := h
    refine ⟨_, pss_cons (ps_set (i := 1) scPof.nd rfl (Or.inr rfl) (pe_callTy call_rg1 (by rfl) T.range bootRange (pa_cons (pe_callB call_len_seq (by rfl) T.len PySem.boot_len (pa_cons (pe_ix ix_tup (pv 0) pe_int (fun _ _ => rfl)) pa_nil)) pa_nil)))
      (pss_cons (ps_set (i := 2) scPof.nd rfl (Or.inl rfl) (pe_callTy call_rg1 (by rfl) T.range bootRange (pa_cons (pe_callB call_len_seq (by rfl) T.len PySem.boot_len (pa_cons (pe_ix ix_tup (pv 0) pe_int (fun _ _ => rfl)) pa_nil)) pa_nil)))
      (pss_one (ps_ret (pe_lcN (own := [("sort", 3), ("asker", 4), ("holder", 5), ("side", 6)]) (vs' := [4, 5, 6]) (g := gName 3) (tt := tYes) rfl scPof.nd (pi_rgV (pv 2)) (blkOk_by (N := ["house", "kinds", "sorts", "sort", "asker", "holder", "side"]) (sc := defScope sPof) (by decide +kernel))
        (fun _ _ _ _ _ => pg_name (i := 3) scPof.nd rfl (Or.inl rfl)) (fun _ _ _ _ _ => pts_nil)
        (fun _ _ _ _ _ D => pin_clause (vs' := [5, 6]) (g := gName 4) (tt := tYes) (fun _ _ z => z) rfl rfl (by intro c e; cases e; rfl) (pi_rgV (pv 1)) (pg_name (i := 4) scPof.nd rfl (Or.inl rfl)) pts_nil
          (pin_clause (vs' := [6]) (g := gName 5) (tt := tYes) (fun _ _ z => z) rfl rfl (by intro c e; cases e; rfl) (pi_rgV (pv 1)) (pg_name (i := 5) scPof.nd rfl (Or.inl rfl)) pts_nil
            (pin_clause (vs' := []) (wi := iTup K (tTup (tCons (tC (.int 0)) (tCons (tC (.int 1)) tNil)))) (g := gName 6) (tt := tYes) (fun _ _ z => z) rfl rfl (by intro c e; cases e) (pi_tup (pe_tup (pa_cons pe_int (pa_cons pe_int pa_nil)))) (pg_name (i := 6) scPof.nd rfl (Or.inl rfl)) pts_nil
              (pin_leaf (fun _ _ z => z) rfl (pe_tup (pa_cons (pv 3) (pa_cons (pv 4) (pa_cons (pv 5) (pa_cons (pv 6) pa_nil)))))) (by decide) (by intro _; rfl)) (by decide) (by intro _; rfl)) (by decide) (by intro _; rfl)) (by decide) (by intro c e; cases e; rfl))))), ?_⟩
    have lk : (ks.length : Int) < 10 := by omega
    have ls : (ss.length : Int) < 10 := by omega
    have bk : -(2 ^ 62) ≤ (0 : Int) ∧ (0 : Int) < 2 ^ 62 ∧ -(2 ^ 62) ≤ (ks.length : Int) ∧ (ks.length : Int) < 2 ^ 62 := by omega
    have bs : -(2 ^ 62) ≤ (0 : Int) ∧ (0 : Int) < 2 ^ 62 ∧ -(2 ^ 62) ≤ (ss.length : Int) ∧ (ss.length : Int) < 2 ^ 62 := by omega
    refine sset_of (cb_args ?_)
    refine evd_len (σ := [some v, none, none, none, none, none, none]) (i := 0) (rs := ks) (K := K) (M := M) rfl hv (by decide) rfl H (Sub.refl _) _ fun v1 H1 s1 h1 => ?_
    cases h1.intAt
    refine ⟨_, rfl, fun rk hrk => ?_⟩
    have s2 : Sub H (upd H1 rk (.rng 0 (ks.length : Int))) := s1.trans (Sub.new hrk)
    have grk : upd H1 rk (.rng 0 (ks.length : Int)) rk = some (.rng 0 (ks.length : Int)) := upd_same
    generalize upd H1 rk (.rng 0 (ks.length : Int)) = H2 at s2 grk
    refine sset_of (cb_args ?_)
    refine evd_len (σ := [some v, some (.ref rk), none, none, none, none, none]) (i := 1) (rs := ss) (K := K) (M := M) rfl (Dm.s hv s2) (by decide) rfl H2 (Sub.refl _) _ fun v2 H3 s3 h2 => ?_
    cases h2.intAt
    refine ⟨_, rfl, fun rs hrs => ?_⟩
    have s4 : Sub H2 (upd H3 rs (.rng 0 (ss.length : Int))) := s3.trans (Sub.new hrs)
    have grs : upd H3 rs (.rng 0 (ss.length : Int)) rs = some (.rng 0 (ss.length : Int)) := upd_same
    generalize upd H3 rs (.rng 0 (ss.length : Int)) = H4 at s4 grs
    have grk4 := s4 _ _ grk
    have s04 := s2.trans s4
    have kn4 := kn.sub s04
    refine ret_of ⟨_, rfl, rs, 0, (ss.length : Int), rfl, grs, bs, fun D hD => ?_⟩
    have len2 (i1 i2 i3 : Nat) (h1 : i1 < 10) (h2 : i2 < 10) (h3 : i3 < 10) (r : List Pl) (hr : r.length ≤ 2) : (((((List.range i1).flatMap fun s => pl1 ks.length s) ++ (List.range i2).flatMap fun a => pl2 ks.length i1 a) ++ (List.range i3).flatMap fun h => pl3 i1 i2 h) ++ r).length < 100000 := by
      rw [List.length_append, List.length_append, List.length_append, flat_len _ _ (fun s => len1 ks.length s), flat_len _ _ (fun a => len2 ks.length i1 a), flat_len _ _ (fun h => len3 i1 i2 h)]
      have b1 : i1 * (ks.length * (ks.length * 2)) ≤ 10 * (10 * (10 * 2)) := Nat.mul_le_mul (by omega) (Nat.mul_le_mul (by omega) (Nat.mul_le_mul (by omega) (Nat.le_refl _)))
      have b2 : i2 * (ks.length * 2) ≤ 10 * (10 * 2) := Nat.mul_le_mul (by omega) (Nat.mul_le_mul (by omega) (Nat.le_refl _))
      omega
    have nn : ((ks.length : Int) - 0).toNat = ks.length := by omega
    have mm : ((ss.length : Int) - 0).toNat = ss.length := by omega
    refine run_range0 (σ := [some v, some (.ref rk), some (.ref rs), none, none, none, none]) (n := ((ss.length : Int) - 0).toNat) (fun i H' => PA K M H4 D ((List.range i).flatMap fun s => pl1 ks.length s) H') (PA.new kn4 hD) (fun i1 H5 hi1 p1 => ?_) (fun H5 p1 => ?_)
    · refine gname_of ⟨rfl, yes_of ⟨_, rfl, rk, 0, (ks.length : Int), rfl, p1.1 _ _ grk4, bk, ?_⟩⟩
      refine run_range0 (σ := [some v, some (.ref rk), some (.ref rs), some (.int (i1 : Int)), none, none, none]) (n := ((ks.length : Int) - 0).toNat) (fun i H' => PA K M H4 D (((List.range i1).flatMap fun s => pl1 ks.length s) ++ (List.range i).flatMap fun a => pl2 ks.length i1 a) H') (by rw [List.range_zero, List.flatMap_nil, List.append_nil]; exact p1) (fun i2 H6 hi2 p2 => ?_) (fun H6 p2 => ?_)
      · refine gname_of ⟨rfl, yes_of ⟨_, rfl, rk, 0, (ks.length : Int), rfl, p2.1 _ _ grk4, bk, ?_⟩⟩
        refine run_range0 (σ := [some v, some (.ref rk), some (.ref rs), some (.int (i1 : Int)), some (.int (i2 : Int)), none, none]) (n := ((ks.length : Int) - 0).toNat) (fun i H' => PA K M H4 D ((((List.range i1).flatMap fun s => pl1 ks.length s) ++ (List.range i2).flatMap fun a => pl2 ks.length i1 a) ++ (List.range i).flatMap fun h => pl3 i1 i2 h) H') (by rw [List.range_zero, List.flatMap_nil, List.append_nil]; exact p2) (fun i3 H7 hi3 p3 => ?_) (fun H7 p3 => ?_)
        · refine gname_of ⟨rfl, yes_of ⟨by show 2 ≤ sizeLine; decide, fun t ht => ⟨t, rfl, ⟨_, SqT.of upd_same⟩, ?_⟩⟩⟩
          have p4 := p3.sub (Sub.new ht (o := .tup [.int 0, .int 1]))
          have gt : upd H7 t (.tup [.int 0, .int 1]) t = some (.tup [.int 0, .int 1]) := upd_same
          generalize upd H7 t (.tup [.int 0, .int 1]) = H8 at p4 gt
          refine run_tup (σ := [some v, some (.ref rk), some (.ref rs), some (.int (i1 : Int)), some (.int (i2 : Int)), some (.int (i3 : Int)), none]) (K := K) (a := t) (xs := [.int 0, .int 1]) (fun i H' => H' t = some (.tup [.int 0, .int 1]) ∧ PA K M H4 D (((((List.range i1).flatMap fun s => pl1 ks.length s) ++ (List.range i2).flatMap fun a => pl2 ks.length i1 a) ++ (List.range i3).flatMap fun h => pl3 i1 i2 h) ++ (pl3 i1 i2 i3).take i) H')
            ⟨gt, by rw [List.take_zero, List.append_nil]; exact p4⟩ (fun i H' _ p => SqT.of p.1) (fun i4 x H9 hi4 p => ?_) (fun H9 p => ?_)
          · obtain ⟨p8, p9⟩ := p
            have h5 : i4 < 2 := by
              have := (List.getElem?_eq_some_iff.mp hi4).1
              exact this
            have ex : x = .int (i4 : Int) ∧ (pl3 i1 i2 i3)[i4]? = some (i1, i2, i3, i4) := by
              rcases (by omega : i4 = 0 ∨ i4 = 1) with z | z <;> subst z <;> exact ⟨(Option.some.inj hi4).symm, rfl⟩
            obtain ⟨rfl, ep⟩ := ex
            refine gname_of ⟨rfl, yes_of ⟨_, rfl, _, rfl, _, rfl, _, rfl, by show 4 ≤ sizeLine; decide, fun z hz => ?_⟩⟩
            obtain ⟨acc, e1, e2, e3⟩ := p9.add kn4 hD hz (i1, i2, i3, i4) (len2 i1 i2 i3 (by omega) (by omega) (by omega) _ (by rw [List.length_take, len3]; omega))
            have e8 : upd H9 z (.tup ((plK (i1, i2, i3, i4)).map kV)) t = some (.tup [.int 0, .int 1]) := Sub.new hz _ _ p8
            refine ⟨acc, e1, e2, ?_, ?_⟩
            · rw [upd_ne (ne_of e8 e1 (by intro y; cases y))]
              exact e8
            · rw [take_snoc ep, ← List.append_assoc]
              exact e3
          · rw [flat_succ, ← List.append_assoc]
            exact p.2
        · rw [flat_succ, ← List.append_assoc]
          exact p3
      · rw [flat_succ, ← nn]
        exact p2
    · rw [mm] at p1
      obtain ⟨s5, acc, e5, d5⟩ := p1
      exact k _ H5 (s04.trans s5) (Dm.lstOf (kn4.out hD) e5 d5)
end
end KZ

namespace KZ
open PySem PySem.Spec PyProof.Rows L2
/-- a def without a bag, from data to data -/
def spPure (K : PySem.W.Frag) (rel : List PyData → PyData → Prop) : Sp := fun vs H Q _ => ∃ (M : List Addr) (ds : List PyData) (d : PyData), Kn M H ∧ Dms K M H vs ds ∧ rel ds d ∧ ∀ y H', Sub H H' → Dm K M H' y d → Q y H'
section
variable {K : PySem.W.Frag} {M : List Addr} {σ : L2.St} {H : Hp} {tr : TA} {ds : List PyData} {d : PyData} {rel : List PyData → PyData → Prop} {E : XK}
theorem evd_pure (n : Kn M H) (h : EvDs K M tr σ H ds) (r : rel ds d) : EvD K M (tCall (spPure K rel) [] E tr) σ H d :=
  evd_call h fun vs H1 Q E s hd q => ⟨M, ds, d, n.sub s, hd, r, q⟩
theorem pure_len {P : Prop} {vs : List V} {Q : VK} {E : XK} {n : Nat} (hr : ∀ ds d, rel ds d → ds.length = n) (h : spPure K rel vs H Q E) : vs.length = n := by
  obtain ⟨M, ds, d, _, hd, r, _⟩ := h
  rw [hd.len]
  exact hr ds d r
end
/-- a house as it is handed to the defs -/
structure HouX (h : Hou) : Prop where
  ok : HouOk h
  k6 : h.ks.length < 6
  s4 : h.ss.length < 4
def rIsLast (ds : List PyData) (d : PyData) : Prop := ∃ (ks : List Kd) (d1 d2 : PyData) (k : Nat) (kd : Kd), ds = [.tuple [.tuple (ks.map kdD), d1, d2], .int (k : Int)] ∧ ks[k]? = some kd ∧ d = .bool (decide (kd.2.2 = (k : Int)))
def rWatP (ds : List PyData) (d : PyData) : Prop := ∃ (d0 d1 : PyData) (j : Jud) (n m : Nat) (p : Pl), ds = [.tuple [d0, d1, judD j], plD p] ∧ JudOk n m j ∧ PlIn n m p ∧ d = .str (wordAt j p)
def outP (j : Jud) (k : Nat) (p : Pl) : Bool := (decide ((p.2.1 : Int) = (k : Int)) && decide (wordAt j p = "yield")) || (decide ((p.2.2.1 : Int) = (k : Int)) && decide (wordAt j p = "oust"))
def rOuts (ds : List PyData) (d : PyData) : Prop := ∃ (h : Hou) (k : Nat), ds = [houD h, .int (k : Int)] ∧ HouX h ∧ d = .list (((plL h.ks.length h.ss.length).filter (outP h.j k)).map plD)
def lastB (ks : List Kd) (k : Nat) : Bool := decide ((ks.getD k ("", true, 0)).2.2 = (k : Int))
def meekB (h : Hou) : Bool := ((plL h.ks.length h.ss.length).filter fun p => decide (wordAt h.j p = "oust")).isEmpty && ((List.range h.ks.length).map (lastB h.ks)).all id
def rMeek (ds : List PyData) (d : PyData) : Prop := ∃ h : Hou, ds = [houD h] ∧ HouX h ∧ d = .bool (meekB h)
def rKeeps (ds : List PyData) (d : PyData) : Prop := ∃ h : Hou, ds = [houD h] ∧ HouX h ∧ d = .bool ((h.ks.map (·.2.1)).all id)
def unPl : PyData → Pl
  | .tuple [.int a, .int b, .int c, .int d] => (a.toNat, b.toNat, c.toNat, d.toNat)
  | _ => (0, 0, 0, 0)
theorem unPl_of (p : Pl) : unPl (plD p) = p := by
  show ((p.1 : Int).toNat, (p.2.1 : Int).toNat, (p.2.2.1 : Int).toNat, (p.2.2.2 : Int).toNat) = p
  rw [Int.toNat_natCast, Int.toNat_natCast, Int.toNat_natCast, Int.toNat_natCast]
theorem filter_pl (l : List Pl) (f : Pl → Bool) : ((l.map plD).filter fun d => f (unPl d)).map (fun d => d) = (l.filter f).map plD := by
  rw [List.map_id', List.filter_map]
  have e : ((fun d => f (unPl d)) ∘ plD) = f := funext fun p => congrArg f (unPl_of p)
  rw [e]
section
variable {P : Program} {w : World} {K : PySem.W.Frag} {mg : Str → Option Value} {base : Heap}
abbrev sIsLast : Stmt := topS 3
theorem scIsLast : FnScope ["house", "kind"] ["house", "kind"] (defScope sIsLast) := ⟨rfl, rfl, rfl, by decide +kernel, rfl, by decide +kernel, by decide +kernel⟩
theorem ok_isLast {f : Addr} {fd : FuncData} (F : Fun K "is_last" "is_last" sIsLast f fd) : FnOk P w K mg base CX0 1 f fd ["house", "kind"] (spPure K rIsLast) := by
  refine F.ok scIsLast (fun vs H Q E h => pure_len (P := True) (fun ds d r => ?_) h) (fun cdv A outer s H vs Q E hr h => ?_)
  · obtain ⟨_, _, _, _, _, rfl, _⟩ := r
    rfl
  · obtain ⟨M, ds, d, kn, hd, ⟨ks, d1, d2, k, kd, rfl, hk, rfl⟩, q⟩ := h
    obtain ⟨vh, vk, rfl, hh, hi⟩ := Dms.two_at hd
    cases hi.intAt
    refine ⟨_, pss_one (ps_ret (pe_cmpR op_eq (pe_ix ix_tup (pe_ix ix_tup (pe_ix ix_tup (pv 0) pe_int (fun _ _ => rfl)) (pv 1) (fun _ _ => rfl)) pe_int (fun _ _ => rfl)) (pv 1) (nomark _))), ?_⟩
    have σh : EvD K M (tVar 0) ([some vh, some (V.int (k : Int))] : L2.St) H (.tuple [.tuple (ks.map kdD), d1, d2]) := evd_var rfl hh
    have σk : EvD K M (tVar 1) ([some vh, some (V.int (k : Int))] : L2.St) H (.int (k : Int)) := evd_var rfl (.int _)
    have q0 : EvD K M _ ([some vh, some (V.int (k : Int))] : L2.St) H (.tuple (ks.map kdD)) := evd_ixT σh (evd_int (i := 0)) (by decide) rfl
    have q1 : EvD K M _ ([some vh, some (V.int (k : Int))] : L2.St) H (kdD kd) := evd_ixT q0 σk (Int.natCast_nonneg _) (by rw [Int.toNat_natCast, List.getElem?_map, hk]; rfl)
    exact evd_ret (K := K) (M := M) (evd_eqI (evd_ixT q1 (evd_int (i := 2)) (by decide) rfl) σk) fun y H1 s1 hy => q y H1 s1 hy
abbrev sWatP : Stmt := topS 2
theorem scWatP : FnScope ["house", "place", "sort", "asker", "holder", "side"] ["house", "place"] (defScope sWatP) := ⟨rfl, rfl, rfl, by decide +kernel, rfl, by decide +kernel, by decide +kernel⟩
theorem ok_watP {f : Addr} {fd : FuncData} (F : Fun K "word_at" "word_at" sWatP f fd) : FnOk P w K mg base CX0 1 f fd ["house", "place"] (spPure K rWatP) := by
  refine F.ok scWatP (fun vs H Q E h => pure_len (P := True) (fun ds d r => ?_) h) (fun cdv A outer s H vs Q E hr h => ?_)
  · obtain ⟨_, _, _, _, _, _, rfl, _⟩ := r
    rfl
  · obtain ⟨M, ds, d, kn, hd, ⟨d0, d1, j, n, m, p, rfl, ok, hin, rfl⟩, q⟩ := h
    obtain ⟨vh, vp, rfl, hh, hp⟩ := Dms.two_at hd
    refine ⟨_, pss_cons (ps_asg (pv 1) (pg_tup rfl (pgs_cons (pg_name (i := 2) scWatP.nd rfl (Or.inl rfl)) (pgs_cons (pg_name (i := 3) scWatP.nd rfl (Or.inl rfl)) (pgs_cons (pg_name (i := 4) scWatP.nd rfl (Or.inl rfl)) (pgs_cons (pg_name (i := 5) scWatP.nd rfl (Or.inl rfl)) pgs_nil))))))
      (pss_one (ps_ret (pe_ix ix_tup (pe_ix ix_tup (pe_ix ix_tup (pe_ix ix_tup (pe_ix ix_tup (pv 0) pe_int (fun _ _ => rfl)) (pv 2) (fun _ _ => rfl)) (pv 3) (fun _ _ => rfl)) (pv 4) (fun _ _ => rfl)) (pv 5) (fun _ _ => rfl)))), ?_⟩
    obtain ⟨e1, e2, e3⟩ := judAt ok hin
    have hd2 := hin.2.2.2
    obtain ⟨ap, xs, rfl, hs, ha⟩ := hp.tupAt
    cases ha with
    | cons a1 ha =>
    cases ha with
    | cons a2 ha =>
    cases ha with
    | cons a3 ha =>
    obtain ⟨v4, rfl, a4⟩ := Dms.one_at ha
    cases a1
    cases a2
    cases a3
    cases a4.intAt
    refine ⟨_, rfl, ap, _, rfl, hs, rfl, _, _, rfl, _, _, rfl, _, _, rfl, _, _, rfl, rfl, ?_⟩
    have iv {i : Nat} {z : Nat} (g : ([some vh, some (V.ref ap), some (V.int (p.1 : Int)), some (V.int (p.2.1 : Int)), some (V.int (p.2.2.1 : Int)), some (V.int (p.2.2.2 : Int))] : L2.St)[i]? = some (some (V.int (z : Int)))) : EvD K M (tVar i) ([some vh, some (V.ref ap), some (V.int (p.1 : Int)), some (V.int (p.2.1 : Int)), some (V.int (p.2.2.1 : Int)), some (V.int (p.2.2.2 : Int))] : L2.St) H (.int (z : Int)) := evd_var g (.int _)
    have σh : EvD K M (tVar 0) ([some vh, some (V.ref ap), some (V.int (p.1 : Int)), some (V.int (p.2.1 : Int)), some (V.int (p.2.2.1 : Int)), some (V.int (p.2.2.2 : Int))] : L2.St) H (.tuple [d0, d1, judD j]) := evd_var rfl hh
    have q0 : EvD K M _ ([some vh, some (V.ref ap), some (V.int (p.1 : Int)), some (V.int (p.2.1 : Int)), some (V.int (p.2.2.1 : Int)), some (V.int (p.2.2.2 : Int))] : L2.St) H (judD j) := evd_ixT σh (evd_int (i := 2)) (by decide) rfl
    have q1 : EvD K M _ ([some vh, some (V.ref ap), some (V.int (p.1 : Int)), some (V.int (p.2.1 : Int)), some (V.int (p.2.2.1 : Int)), some (V.int (p.2.2.2 : Int))] : L2.St) H (tabD (j.getD p.1 [])) := evd_ixT q0 (iv (i := 2) rfl) (Int.natCast_nonneg _) (by rw [Int.toNat_natCast, List.getElem?_map, e1]; rfl)
    have q2 : EvD K M _ ([some vh, some (V.ref ap), some (V.int (p.1 : Int)), some (V.int (p.2.1 : Int)), some (V.int (p.2.2.1 : Int)), some (V.int (p.2.2.2 : Int))] : L2.St) H (rowD ((j.getD p.1 []).getD p.2.1 [])) := evd_ixT q1 (iv (i := 3) rfl) (Int.natCast_nonneg _) (by rw [Int.toNat_natCast, List.getElem?_map, e2]; rfl)
    have q3 : EvD K M _ ([some vh, some (V.ref ap), some (V.int (p.1 : Int)), some (V.int (p.2.1 : Int)), some (V.int (p.2.2.1 : Int)), some (V.int (p.2.2.2 : Int))] : L2.St) H (cpD (((j.getD p.1 []).getD p.2.1 []).getD p.2.2.1 ("", ""))) := evd_ixT q2 (iv (i := 4) rfl) (Int.natCast_nonneg _) (by rw [Int.toNat_natCast, List.getElem?_map, e3]; rfl)
    refine evd_ret (K := K) (M := M) (d := .str (wordAt j p)) (evd_ixT q3 (iv (i := 5) rfl) (Int.natCast_nonneg _) ?_) fun y H1 s1 hy => q y H1 s1 hy
    rw [Int.toNat_natCast]
    unfold wordAt side
    rcases (by omega : p.2.2.2 = 0 ∨ p.2.2.2 = 1) with z | z
    · rw [z]
      rfl
    · rw [z]
      rfl
/-- house's word at the place that begins with i -/
def tAt (K : PySem.W.Frag) (i : Int) (w : Str) : TT := tAnd (tTest (tOp rEq (tOp (rIxT K) (tVar 2) (tC (.int i))) (tVar 1))) (tTest (tOp rEq (tCall (spPure K rWatP) [] E0 (tCons (tVar 0) (tCons (tVar 2) tNil))) (tC (.str w))))
theorem evd_pof {M : List Addr} {σ : L2.St} {H : Hp} {te : TE} {h : Hou} {E : XK} (n : Kn M H) (x : HouX h) (hh : EvD K M te σ H (houD h)) : EvD K M (tCall (spPof K) [] E (tCons te tNil)) σ H (.list ((plL h.ks.length h.ss.length).map plD)) :=
  evd_call (evds_cons hh evds_nil) fun vs H1 Q E s hd q => by
    obtain ⟨v, rfl, hv⟩ := Dms.one_at hd
    have k6 := x.k6
    have s4 := x.s4
    refine ⟨M, v, h.ks.map kdD, h.ss.map PyData.str, judD h.j, rfl, n.sub s, hv, by rw [List.length_map]; omega, by rw [List.length_map]; omega, fun y H' s' hy => q y H' s' ?_⟩
    rw [List.length_map, List.length_map] at hy
    exact hy
theorem pl_few {h : Hou} (x : HouX h) : ((plL h.ks.length h.ss.length).map plD).length < 100000 := by
  have k6 := x.k6
  have s4 := x.s4
  rw [List.length_map, len0]
  have := Nat.mul_le_mul (show h.ss.length ≤ 3 by omega) (Nat.mul_le_mul (show h.ks.length ≤ 5 by omega) (Nat.mul_le_mul (show h.ks.length ≤ 5 by omega) (Nat.le_refl 2)))
  omega
abbrev sPob : Stmt := topS 5
theorem scPob : FnScope ["place", "word"] ["place", "word"] (defScope sPob) := ⟨rfl, rfl, rfl, by decide +kernel, rfl, by decide +kernel, by decide +kernel⟩
def pobD (p : Pl) (x : Str) : PyData := if x = "wait" then .none else if x = "yield" then .int (p.2.1 : Int) else .int (p.2.2.1 : Int)
def rPob (ds : List PyData) (d : PyData) : Prop := ∃ (p : Pl) (x : Str), ds = [plD p, .str x] ∧ d = pobD p x
theorem ok_pob {f : Addr} {fd : FuncData} (F : Fun K "put_out_by" "put_out_by" sPob f fd) : FnOk P w K mg base CX0 1 f fd ["place", "word"] (spPure K rPob) := by
  refine F.ok scPob (fun vs H Q E h => pure_len (P := True) (fun ds d r => ?_) h) (fun cdv A outer s H vs Q E hr h => ?_)
  · obtain ⟨_, _, rfl, _⟩ := r
    rfl
  · obtain ⟨M, ds, d, kn, hd, ⟨p, x, rfl, rfl⟩, q⟩ := h
    obtain ⟨vp, vx, rfl, hp, hx⟩ := Dms.two_at hd
    cases hx.strAt
    refine ⟨_, pss_cons (ps_if (pt_cmpR op_eq (pv 1) pe_str (nomark _)) (pss_one (ps_ret pe_non)) pss_nil)
      (pss_one (ps_ret (pe_ifExp (pt_cmpR op_eq (pv 1) pe_str (nomark _)) (pe_ix ix_tup (pv 0) pe_int (fun _ _ => rfl)) (pe_ix ix_tup (pv 0) pe_int (fun _ _ => rfl))))), ?_⟩
    have dS {i j : Str} : decide (V.str i = V.str j) = decide (i = j) := by
      by_cases z : i = j
      · rw [decide_eq_true z, decide_eq_true (by rw [z])]
      · rw [decide_eq_false z, decide_eq_false fun y => z (by cases y; rfl)]
    have ep : EvD K M (tVar 0) ([some vp, some (V.str x)] : L2.St) H (plD p) := evd_var rfl hp
    unfold pobD at q
    refine ⟨_, rfl, rfl, _, rfl, ?_⟩
    rw [dS]
    refine ite2 (fun e => ?_) (fun e => ?_)
    · rw [if_pos (of_decide_eq_true e)] at q
      exact q _ H (Sub.refl _) .non
    · rw [if_neg (fun z => e (decide_eq_true z))] at q
      refine ⟨_, rfl, rfl, _, rfl, ?_⟩
      rw [dS]
      refine ite2 (fun e2 => ?_) (fun e2 => ?_)
      · rw [if_pos (of_decide_eq_true e2)] at q
        exact (evd_ixT (K := K) (M := M) (d := .int (p.2.1 : Int)) ep (evd_int (i := 1)) (by decide) rfl) H (Sub.refl _) _ fun y H1 s1 hy => q y H1 s1 hy
      · rw [if_neg (fun z => e2 (decide_eq_true z))] at q
        exact (evd_ixT (K := K) (M := M) (d := .int (p.2.2.1 : Int)) ep (evd_int (i := 2)) (by decide) rfl) H (Sub.refl _) _ fun y H1 s1 hy => q y H1 s1 hy
/-- a word is one of the three: who is put out -/
theorem pob_out {j : Jud} {k : Nat} {p : Pl} {v : V} {H : Hp} {M : List Addr} (h : Dm K M H v (pobD p (wordAt j p))) : scal v (.int (k : Int)) = true ∧ (wordAt j p ∈ Words → decide (v = .int (k : Int)) = outP j k p) := by
  have dI {i j : Int} : decide (V.int i = V.int j) = decide (i = j) := by
    by_cases z : i = j
    · rw [decide_eq_true z, decide_eq_true (by rw [z])]
    · rw [decide_eq_false z, decide_eq_false fun y => z (by cases y; rfl)]
  unfold pobD at h
  unfold outP
  by_cases e1 : wordAt j p = "wait"
  · rw [if_pos e1] at h
    cases h
    refine ⟨rfl, fun _ => ?_⟩
    rw [e1, decide_eq_false (show ¬ (V.non = V.int (k : Int)) from fun z => by cases z), decide_eq_false (show ¬ (("wait" : Str) = "yield") by decide +kernel), decide_eq_false (show ¬ (("wait" : Str) = "oust") by decide +kernel), Bool.and_false, Bool.and_false]
    rfl
  · rw [if_neg e1] at h
    by_cases e2 : wordAt j p = "yield"
    · rw [if_pos e2] at h
      cases h.intAt
      refine ⟨rfl, fun _ => ?_⟩
      rw [e2, dI, decide_eq_true (show (("yield" : Str) = "yield") from rfl), decide_eq_false (show ¬ (("yield" : Str) = "oust") by decide +kernel), Bool.and_true, Bool.and_false, Bool.or_false]
    · rw [if_neg e2] at h
      cases h.intAt
      refine ⟨rfl, fun m => ?_⟩
      have e3 : wordAt j p = "oust" := by
        rcases List.mem_cons.mp m with z | z
        · exact absurd z e1
        · rcases List.mem_cons.mp z with z | z
          · exact absurd z e2
          · exact List.mem_singleton.mp z
      rw [e3, dI, decide_eq_true (show (("oust" : Str) = "oust") from rfl), decide_eq_false (show ¬ (("oust" : Str) = "yield") by decide +kernel), Bool.and_true, Bool.and_false, Bool.false_or]
theorem word_in {j : Jud} {n m : Nat} {p : Pl} (ok : JudOk n m j) (hp : PlIn n m p) : wordAt j p ∈ Words := by
  obtain ⟨e1, e2, e3⟩ := judAt ok hp
  have t := ok.2 _ (List.mem_of_getElem? e1)
  have r := t.2 _ (List.mem_of_getElem? e2)
  have c := r.2 _ (List.mem_of_getElem? e3)
  unfold wordAt side
  split
  · exact c.1
  · exact c.2
abbrev sOuts : Stmt := topS 6
theorem scOuts : FnScope ["house", "kind", "place"] ["house", "kind"] (defScope sOuts) := ⟨rfl, rfl, rfl, by decide +kernel, rfl, by decide +kernel, by decide +kernel⟩
theorem ok_outs {f fP fW fO : Addr} {fd fdP fdW fdO : FuncData} (F : Fun K "outs_at" "outs_at" sOuts f fd) (CP : Cal P w K mg base "places_of" 1 ["house"] (spPof K) fP fdP) (CW : Cal P w K mg base "word_at" 1 ["house", "place"] (spPure K rWatP) fW fdW) (CO : Cal P w K mg base "put_out_by" 1 ["place", "word"] (spPure K rPob) fO fdO) :
    FnOk P w K mg base CX0 2 f fd ["house", "kind"] (spPure K rOuts) := by
  refine F.ok scOuts (fun vs H Q E h => pure_len (P := True) (fun ds d r => ?_) h) (fun cdv A outer s H vs Q E hr h => ?_)
  · obtain ⟨_, _, rfl, _⟩ := r
    rfl
  · obtain ⟨M, ds, d, kn, hd, ⟨h, k, rfl, x, rfl⟩, q⟩ := h
    obtain ⟨vh, vk, rfl, hh, hi⟩ := Dms.two_at hd
    cases hi.intAt
    refine ⟨_, pss_one (ps_ret (pe_lc (own := [("place", 2)]) (g := gName 2) (tt := tTest (tOp rEq (tCall (spPure K rPob) [] E0 (tCons (tVar 2) (tCons (tCall (spPure K rWatP) [] E0 (tCons (tVar 0) (tCons (tVar 2) tNil))) tNil))) (tVar 1))) rfl scOuts.nd (pi_list (pcl CP hr (pa_cons (pv 0) pa_nil))) (blkOk_by (N := ["house", "kind", "place"]) (sc := defScope sOuts) (by decide +kernel)) (fun _ _ _ _ _ => pg_name (i := 2) scOuts.nd rfl (Or.inl rfl))
      (fun _ _ _ _ _ => pts_one (pt_cmpR op_eq (pcl CO hr (pa_cons (pv 2) (pa_cons (pcl CW hr (pa_cons (pv 0) (pa_cons (pv 2) pa_nil))) pa_nil))) (pv 1) (nomark _)))
      (fun _ _ _ _ _ => pv 2))), ?_⟩
    have e0 : EvD K M (tVar 0) ([some vh, some (V.int (k : Int)), none] : L2.St) H (houD h) := evd_var rfl hh
    refine evd_ret (K := K) (M := M) (EvNL.toD kn ?_) fun y H1 s1 hy => q y H1 s1 hy
    rw [← filter_pl]
    refine evd_lcF (fun d => outP h.j k (unPl d)) (fun d => d) kn (evd_pof kn x e0) (pl_few x) (by intro z; rfl) ?_ ?_
    · intro Dl hD d z H1 s1 n1 hdm hz
      obtain ⟨p, hp, rfl⟩ := List.mem_map.mp hdm
      have hin := mem_plL hp
      have hd1 : H1 Dl = none ∨ True := .inr trivial
      have hh1 : Dm K (Dl :: M) H1 vh (houD h) := Dm.s (Dm.more hh hD) s1
      show EvB _ _ _ (outP h.j k (unPl (plD p)))
      rw [unPl_of]
      have ep : EvD K (Dl :: M) (tVar 2) ([some vh, some (V.int (k : Int)), some z] : L2.St) H1 (plD p) := evd_var rfl hz
      have ek : EvD K (Dl :: M) (tVar 1) ([some vh, some (V.int (k : Int)), some z] : L2.St) H1 (.int (k : Int)) := evd_var rfl (.int _)
      have ew : EvD K (Dl :: M) _ ([some vh, some (V.int (k : Int)), some z] : L2.St) H1 (.str (wordAt h.j p)) := evd_pure (rel := rWatP) (E := E0) n1 (evds_cons (evd_var (i := 0) rfl hh1) (evds_cons ep evds_nil)) ⟨_, _, h.j, _, _, p, rfl, x.ok.j, hin, rfl⟩
      have eo := evd_pure (K := K) (rel := rPob) (E := E0) n1 (evds_cons ep (evds_cons ew evds_nil)) ⟨p, wordAt h.j p, rfl, rfl⟩
      refine evb_test (K := K) (M := Dl :: M) fun H2 s2 Q2 q2 => eo H2 s2 _ fun v H3 s3 hv => ⟨_, rfl, (pob_out (k := k) hv).1, q2 _ H3 s3 ?_⟩
      rw [(pob_out (k := k) hv).2 (word_in x.ok.j hin)]
      exact .bl _
    · intro Dl hD d z H1 s1 n1 hdm _ hz
      exact evd_var rfl hz
end
end KZ

namespace KZ
open PySem PySem.Spec PyProof.Rows L2
/-! a step again and again, up to where it stands -/
def itr {α : Type} (f : α → α) : Nat → α → α
  | 0, x => x
  | m + 1, x => itr f m (f x)
theorem itr_at {α : Type} {f : α → α} {x : α} (h : f x = x) : ∀ m, itr f m x = x
  | 0 => rfl
  | m + 1 => by
    show itr f m (f x) = x
    rw [h]
    exact itr_at h m
theorem itr_snoc {α : Type} {f : α → α} : ∀ (m : Nat) (x : α), itr f (m + 1) x = f (itr f m x)
  | 0, x => rfl
  | m + 1, x => itr_snoc m (f x)
structure Rises {α : Type} (f : α → α) (I : α → Prop) (μ : α → Nat) (n : Nat) : Prop where
  keep : ∀ x, I x → I (f x)
  low : ∀ x, I x → μ x < n
  up : ∀ x, I x → f x = x ∨ μ x < μ (f x)
theorem itr_keep {α : Type} {f : α → α} {I : α → Prop} {μ : α → Nat} {n : Nat} (r : Rises f I μ n) : ∀ (m : Nat) (x : α), I x → I (itr f m x)
  | 0, x, h => h
  | m + 1, x, h => itr_keep r m (f x) (r.keep x h)
theorem itr_fix' {α : Type} {f : α → α} {I : α → Prop} {μ : α → Nat} {n : Nat} (r : Rises f I μ n) : ∀ (m : Nat) (x : α), I x → n ≤ μ x + m → f (itr f m x) = itr f m x
  | 0, x, h, l => by
    have := r.low x h
    omega
  | m + 1, x, h, l => by
    rcases r.up x h with e | e
    · rw [itr_at e]
      exact e
    · exact itr_fix' r m (f x) (r.keep x h) (by omega)
theorem itr_fix {α : Type} {f : α → α} {I : α → Prop} {μ : α → Nat} {n : Nat} (r : Rises f I μ n) {x : α} (h : I x) : f (itr f n x) = itr f n x := itr_fix' r n x h (by omega)
theorem itr_step {α : Type} {f : α → α} {I : α → Prop} {μ : α → Nat} {n : Nat} (r : Rises f I μ n) {x : α} (h : I x) : itr f n (f x) = itr f n x := by
  have e := itr_snoc (f := f) n x
  rw [itr_fix r h] at e
  exact e
/-! to what a kind rises -/
def kdAt (ks : List Kd) (k : Nat) : Kd := ks.getD k ("", true, 0)
def nxt (ks : List Kd) (k : Nat) : Nat := (kdAt ks k).2.2.toNat
theorem kd_at {ks : List Kd} {k : Nat} (h : k < ks.length) : ks[k]? = some (kdAt ks k) := getD_of h _
theorem nxt_ok {ks : List Kd} (ok : KdsOk ks) {k : Nat} (h : k < ks.length) : k ≤ nxt ks k ∧ nxt ks k < ks.length ∧ (kdAt ks k).2.2 = ((nxt ks k : Nat) : Int) := by
  have r := ok.rise k _ (kd_at h)
  unfold nxt
  omega
theorem rise_ok {ks : List Kd} (ok : KdsOk ks) : Rises (nxt ks) (fun k => k < ks.length) (fun k => k) ks.length where
  keep := fun k h => (nxt_ok ok h).2.1
  low := fun k h => h
  up := fun k h => by
    have := nxt_ok ok h
    show nxt ks k = k ∨ k < nxt ks k
    omega
theorem last_iff {ks : List Kd} (ok : KdsOk ks) {k : Nat} (h : k < ks.length) : decide ((kdAt ks k).2.2 = (k : Int)) = decide (nxt ks k = k) := by
  rw [(nxt_ok ok h).2.2]
  by_cases e : nxt ks k = k
  · rw [decide_eq_true e, decide_eq_true (by rw [e])]
  · rw [decide_eq_false e, decide_eq_false (by omega)]
def lastF (ks : List Kd) (k : Nat) : Nat := itr (nxt ks) ks.length k
def rLast (ds : List PyData) (d : PyData) : Prop := ∃ (h : Hou) (k : Nat), ds = [houD h, .int (k : Int)] ∧ HouX h ∧ k < h.ks.length ∧ d = .int ((lastF h.ks k : Nat) : Int)
/-! the row of kinds up to which one is raised -/
def lastOf (l : List Nat) : Nat := l.getD (l.length - 1) 0
def outB (h : Hou) (k : Nat) : Bool := !((plL h.ks.length h.ss.length).filter (outP h.j k)).isEmpty
def stp (h : Hou) (l : List Nat) : List Nat := if nxt h.ks (lastOf l) ≠ lastOf l ∧ outB h (lastOf l) = true then l ++ [nxt h.ks (lastOf l)] else l
structure RowK (n : Nat) (l : List Nat) : Prop where
  pos : 0 < l.length
  len : l.length ≤ lastOf l + 1
  low : lastOf l < n
  all : ∀ x ∈ l, x ≤ lastOf l
theorem lastOf_snoc (l : List Nat) (x : Nat) : lastOf (l ++ [x]) = x := by
  unfold lastOf
  rw [List.length_append, List.getD_eq_getElem?_getD, List.getElem?_append_right (by simp)]
  simp
theorem lastOf_at {l : List Nat} (h : 0 < l.length) : l[l.length - 1]? = some (lastOf l) := getD_of (by omega) 0
theorem stp_ok {h : Hou} (ok : HouOk h) {l : List Nat} (r : RowK h.ks.length l) : RowK h.ks.length (stp h l) := by
  unfold stp
  split
  · rename_i c
    have z := nxt_ok ok.ks r.low
    have lt : lastOf l < nxt h.ks (lastOf l) := by
      have := c.1
      omega
    refine ⟨by rw [List.length_append]; simp, ?_, ?_, ?_⟩
    · rw [lastOf_snoc, List.length_append]
      have := r.len
      simp only [List.length_singleton]
      omega
    · rw [lastOf_snoc]
      exact z.2.1
    · intro x hx
      rw [lastOf_snoc]
      rcases List.mem_append.mp hx with q | q
      · have := r.all x q
        omega
      · rw [List.mem_singleton.mp q]
        exact Nat.le_refl _
  · exact r
theorem stp_rises {h : Hou} (ok : HouOk h) : Rises (stp h) (RowK h.ks.length) lastOf h.ks.length where
  keep := fun l r => stp_ok ok r
  low := fun l r => r.low
  up := fun l r => by
    unfold stp
    split
    · rename_i c
      right
      have z := nxt_ok ok.ks r.low
      have := c.1
      rw [lastOf_snoc]
      omega
    · exact .inl rfl
theorem row_one {n k : Nat} (h : k < n) : RowK n [k] := ⟨by simp, by show 1 ≤ k + 1; omega, h, fun x hx => by rw [List.mem_singleton.mp hx]; exact Nat.le_refl _⟩
def raiseF (h : Hou) (k : Nat) : List Nat := itr (stp h) h.ks.length [k]
def intD (l : List Nat) : List PyData := l.map fun k : Nat => PyData.int (k : Int)
def rRaised (ds : List PyData) (d : PyData) : Prop := ∃ (h : Hou) (k : Nat), ds = [houD h, .int (k : Int)] ∧ HouX h ∧ k < h.ks.length ∧ d = .tuple (intD (raiseF h k))
section
variable {K : PySem.W.Frag} {M : List Addr}
theorem while_evb {c : TT} {tb : TS} {D : Ends} {σ : L2.St} {H : Hp} (Pv : L2.St → Hp → Prop) (μ : L2.St → Hp → Nat) (h0 : Pv σ H)
    (hs : ∀ σ H, Pv σ H → ∃ b, EvB c σ H b ∧ ∀ H1, Sub H H1 → if b = true then tb { D with nx := fun σ' H' => Pv σ' H' ∧ μ σ' H' < μ σ H, ct := fun σ' H' => Pv σ' H' ∧ μ σ' H' < μ σ H, bk := D.nx } σ H1 else D.nx σ H1) : tWhile c tb D σ H := by
  refine ⟨fun m σ H => m = μ σ H ∧ Pv σ H, ⟨_, rfl, h0⟩, ?_⟩
  rintro m σ H ⟨rfl, p⟩
  obtain ⟨b, e, q⟩ := hs σ H p
  refine e H (Sub.refl _) _ fun H1 s => ?_
  have q1 := q H1 s
  cases b with
  | true => exact ⟨_, fun σ' H' ⟨p', l⟩ => ⟨_, l, rfl, p'⟩, q1⟩
  | false => exact q1
theorem evd_rise {σ : L2.St} {H : Hp} {h : Hou} {te tk : TE} {k : Nat} (eh : EvD K M te σ H (houD h)) (ek : EvD K M tk σ H (.int (k : Int))) (ok : HouOk h) (hk : k < h.ks.length) :
    EvD K M (tOp (rIxT K) (tOp (rIxT K) (tOp (rIxT K) te (tC (.int 0))) tk) (tC (.int 2))) σ H (.int ((nxt h.ks k : Nat) : Int)) := by
  have q0 : EvD K M _ σ H (.tuple (h.ks.map kdD)) := evd_ixT eh (evd_int (i := 0)) (by decide) rfl
  have q1 : EvD K M _ σ H (kdD (kdAt h.ks k)) := evd_ixT q0 ek (Int.natCast_nonneg _) (by rw [Int.toNat_natCast, List.getElem?_map, kd_at hk]; rfl)
  have q2 := evd_ixT q1 (evd_int (i := 2)) (by decide) rfl
  rw [(nxt_ok ok.ks hk).2.2] at q2
  exact q2
theorem evd_isLast {σ : L2.St} {H : Hp} {h : Hou} {te tk : TE} {k : Nat} {E : XK} (n : Kn M H) (eh : EvD K M te σ H (houD h)) (ek : EvD K M tk σ H (.int (k : Int))) (ok : HouOk h) (hk : k < h.ks.length) :
    EvD K M (tCall (spPure K rIsLast) [] E (tCons te (tCons tk tNil))) σ H (.bool (decide (nxt h.ks k = k))) := by
  rw [← last_iff ok.ks hk]
  exact evd_pure n (evds_cons eh (evds_cons ek evds_nil)) ⟨h.ks, _, _, k, kdAt h.ks k, rfl, kd_at hk, rfl⟩
end
section
variable {P : Program} {w : World} {K : PySem.W.Frag} {mg : Str → Option Value} {base : Heap}
abbrev sLastOne : Stmt := topS 4
theorem scLastOne : FnScope ["house", "kind", "last"] ["house", "kind"] (defScope sLastOne) := ⟨rfl, rfl, rfl, by decide +kernel, rfl, by decide +kernel, by decide +kernel⟩
theorem ok_lastOne {f fL : Addr} {fd fdL : FuncData} (F : Fun K "last_one" "last_one" sLastOne f fd) (CL : Cal P w K mg base "is_last" 1 ["house", "kind"] (spPure K rIsLast) fL fdL) : FnOk P w K mg base CX0 2 f fd ["house", "kind"] (spPure K rLast) := by
  refine F.ok scLastOne (fun vs H Q E h => pure_len (P := True) (fun ds d r => ?_) h) (fun cdv A outer s H vs Q E hr h => ?_)
  · obtain ⟨_, _, rfl, _⟩ := r
    rfl
  · obtain ⟨M, ds, d, kn, hd, ⟨h, k, rfl, x, hk, rfl⟩, q⟩ := h
    obtain ⟨vh, vk, rfl, hh, hi⟩ := Dms.two_at hd
    cases hi.intAt
    refine ⟨_, pss_cons (ps_set (i := 2) scLastOne.nd rfl (Or.inl rfl) (pv 1))
      (pss_cons (ps_while PassesOwn.never (pt_not (pt_val (pcl CL hr (pa_cons (pv 0) (pa_cons (pv 2) pa_nil)))))
        (pss_one (ps_set (i := 2) scLastOne.nd rfl (Or.inl rfl) (pe_ix ix_tup (pe_ix ix_tup (pe_ix ix_tup (pv 0) pe_int (fun _ _ => rfl)) (pv 2) (fun _ _ => rfl)) pe_int (fun _ _ => rfl)))))
      (pss_one (ps_ret (pv 2)))), ?_⟩
    refine ⟨_, rfl, ?_⟩
    dsimp only
    refine while_evb (fun σ H' => ∃ j : Nat, σ = [some vh, some (.int (k : Int)), some (.int (j : Int))] ∧ Sub H H' ∧ j < h.ks.length ∧ lastF h.ks j = lastF h.ks k) (fun σ _ => match σ with
      | [_, _, some (.int j)] => h.ks.length - j.toNat
      | _ => 0) ⟨k, rfl, Sub.refl _, hk, rfl⟩ ?_
    rintro σ H1 ⟨j, rfl, s1, hj, ej⟩
    have eh {H' : Hp} (s : Sub H1 H') : EvD K M (tVar 0) ([some vh, some (V.int (k : Int)), some (V.int (j : Int))] : L2.St) H' (houD h) := evd_var rfl (Dm.s hh (s1.trans s))
    have ek {H' : Hp} : EvD K M (tVar 2) ([some vh, some (V.int (k : Int)), some (V.int (j : Int))] : L2.St) H' (.int (j : Int)) := evd_var rfl (.int _)
    refine ⟨_, evb_not (evb_val (evd_isLast (kn.sub s1) (eh (Sub.refl _)) ek x.ok hj)), fun H2 s2 => ?_⟩
    by_cases e : nxt h.ks j = j
    · rw [decide_eq_true e]
      rw [if_neg (by decide)]
      dsimp only
      refine ret_of ?_
      refine ⟨_, rfl, ?_⟩
      refine q _ H2 (s1.trans s2) ?_
      rw [← ej]
      unfold lastF
      rw [itr_at e]
      exact .int _
    · rw [decide_eq_false e]
      rw [if_pos (by decide)]
      refine evd_set (K := K) (M := M) (evd_rise (eh s2) ek x.ok hj) fun v3 H3 s3 h3 => ?_
      cases h3.intAt
      have z := nxt_ok x.ok.ks hj
      refine ⟨⟨nxt h.ks j, rfl, (s1.trans s2).trans s3, z.2.1, ?_⟩, ?_⟩
      · rw [← ej]
        exact itr_step (rise_ok x.ok.ks) hj
      · show h.ks.length - ((nxt h.ks j : Nat) : Int).toNat < h.ks.length - ((j : Nat) : Int).toNat
        rw [Int.toNat_natCast, Int.toNat_natCast]
        omega
abbrev sKeepsAll : Stmt := topS 9
theorem scKeepsAll : FnScope ["house", "kind"] ["house"] (defScope sKeepsAll) := ⟨rfl, rfl, rfl, by decide +kernel, rfl, by decide +kernel, by decide +kernel⟩
theorem kb_map (ks : List Kd) : (((ks.map kdD).filter fun _ => true).map fun d => match d with
    | .tuple [_, b, _] => b
    | _ => PyData.none) = (ks.map (·.2.1)).map PyData.bool := by
  rw [filter_yes, List.map_map, List.map_map]
  rfl
end
end KZ

namespace KZ
open PySem PySem.Spec PyProof.Rows L2
def intV (l : List Nat) : List V := l.map fun k : Nat => V.int (k : Int)
theorem ixN_last {n : Nat} (h : 0 < n) : ixN n (-1) = some (n - 1) := by
  unfold ixN
  rw [if_neg (by decide), if_pos (by omega)]
  congr 1
  omega
theorem atI_last {l : List Nat} (h : 0 < l.length) : atI (intV l) (-1) = some (V.int ((lastOf l : Nat) : Int)) := by
  have hl : (intV l).length = l.length := List.length_map _
  unfold atI
  rw [hl, ixN_last h]
  show (intV l)[l.length - 1]? = _
  unfold intV
  rw [List.getElem?_map, lastOf_at h]
  rfl
abbrev tM1 : TE := tUn (rU fun i => .int (-i)) (tC (.int 1))
section
variable {K : PySem.W.Frag} {M : List Addr} {σ : L2.St} {H : Hp}
theorem evd_lastL {i : Nat} {r : Addr} {l : List Nat} (hv : σ[i]? = some (some (.ref r))) (e : H r = some (.lst (intV l))) (h : 0 < l.length) : EvD K M (tOp (rIxL K) (tVar i) tM1) σ H (.int ((lastOf l : Nat) : Int)) := fun H1 s Q q =>
  ⟨_, hv, 1, rfl, r, _, -1, _, rfl, rfl, SqL.of (s _ _ e), atI_last h, q _ H1 (Sub.refl _) (.int _)⟩
theorem evb_truL {ta : TE} {ds : List PyData} (h : EvD K M ta σ H (.list ds)) : EvB (fun σ H Q => ta σ H fun x H' => ∃ k, TruV K x H' k ∧ Q k H') σ H (!ds.isEmpty) := fun H1 s Q q => h H1 s _ fun v H2 s2 hv => ⟨_, truL hv, q H2 s2⟩
theorem while_evm {c : TT} {tb : TS} {D : Ends} {σ : L2.St} {H : Hp} (W : Nat → L2.St → Hp → Prop) (h0 : ∃ m, W m σ H)
    (hs : ∀ m σ H, W m σ H → ∃ b, EvB c σ H b ∧ ∀ H1, Sub H H1 → if b = true then tb { D with nx := fun σ' H' => ∃ m', m' < m ∧ W m' σ' H', ct := fun σ' H' => ∃ m', m' < m ∧ W m' σ' H', bk := D.nx } σ H1 else D.nx σ H1) : tWhile c tb D σ H := by
  refine ⟨W, h0, fun m σ H p => ?_⟩
  obtain ⟨b, e, q⟩ := hs m σ H p
  refine e H (Sub.refl _) _ fun H1 s => ?_
  have q1 := q H1 s
  cases b with
  | true => exact ⟨_, fun σ' H' z => z, q1⟩
  | false => exact q1
theorem int_dms {l : List Nat} : DpAll K H (intV l) (intD l) := by
  unfold intV intD
  induction l with
  | nil => exact .nil
  | cons a l ih => exact .cons (.int _) ih
end
section
variable {P : Program} {w : World} {K : PySem.W.Frag} {mg : Str → Option Value} {base : Heap}
abbrev sRaised : Stmt := topS 7
theorem scRaised : FnScope ["house", "kind", "raised"] ["house", "kind"] (defScope sRaised) := ⟨rfl, rfl, rfl, by decide +kernel, rfl, by decide +kernel, by decide +kernel⟩
theorem ok_raised {f fL fO : Addr} {fd fdL fdO : FuncData} (F : Fun K "raised_kinds" "raised_kinds" sRaised f fd) (T : Txt mg) (CL : Cal P w K mg base "is_last" 1 ["house", "kind"] (spPure K rIsLast) fL fdL) (CO : Cal P w K mg base "outs_at" 2 ["house", "kind"] (spPure K rOuts) fO fdO) :
    FnOk P w K mg base CX0 3 f fd ["house", "kind"] (spPure K rRaised) := by
  refine F.ok scRaised (fun vs H Q E h => pure_len (P := True) (fun ds d r => ?_) h) (fun cdv A outer s H vs Q E hr h => ?_)
  · obtain ⟨_, _, rfl, _⟩ := r
    rfl
  · obtain ⟨M, ds, d, kn, hd, ⟨h, k, rfl, x, hk, rfl⟩, q⟩ := h
    obtain ⟨vh, vk, rfl, hh, hi⟩ := Dms.two_at hd
    cases hi.intAt
    have hr1 : Room 1 _ := hr.mono (by decide)
    refine ⟨_, pss_cons (ps_set (i := 2) scRaised.nd rfl (Or.inl rfl) (pe_lst (pa_cons (pv 1) pa_nil)))
      (pss_cons (ps_while PassesOwn.never (PW.pt (pw_and (pt_not (pt_val (pcl CL hr1 (pa_cons (pv 0) (pa_cons (pe_ix ix_list (pv 2) (pe_un un_neg pe_int) (fun _ _ => rfl)) pa_nil))))) (pw_and1 (pt_truth (pcl CO hr (pa_cons (pv 0) (pa_cons (pe_ix ix_list (pv 2) (pe_un un_neg pe_int) (fun _ _ => rfl)) pa_nil))) (fun _ => rfl)))))
        (pss_one (ps_expr (pe_bm PySem.F.plainAttrs_list PySem.F.slot_list_append PySem.F.type_list_append mt_append (pv 2)
          (pa_cons (pe_ix ix_tup (pe_ix ix_tup (pe_ix ix_tup (pv 0) pe_int (fun _ _ => rfl)) (pe_ix ix_list (pv 2) (pe_un un_neg pe_int) (fun _ _ => rfl)) (fun _ _ => rfl)) pe_int (fun _ _ => rfl)) pa_nil)))))
      (pss_one (ps_ret (pe_callTy call_tuple_of (by rfl) T.tuple bootTuple (pa_cons (pv 2) pa_nil))))), ?_⟩
    refine sset_of (lst_of (cons_of ⟨_, rfl, nil_of ⟨by show 1 ≤ sizeLine; decide, fun r hr0 => ?_⟩⟩))
    dsimp only
    refine while_evm (fun m σ H' => ∃ l : List Nat, σ = [some vh, some (.int (k : Int)), some (.ref r)] ∧ Sub H H' ∧ H' r = some (.lst (intV l)) ∧ RowK h.ks.length l ∧ itr (stp h) h.ks.length l = raiseF h k ∧ m = h.ks.length - lastOf l)
      ⟨_, [k], rfl, Sub.new hr0, upd_same, row_one hk, rfl, rfl⟩ ?_
    rintro m σ H1 ⟨l, rfl, s1, h1r, rl, el, rfl⟩
    have lo := rl.low
    have few : l.length < 100 := by
      have := rl.len
      have := x.k6
      omega
    have eh {H' : Hp} (s : Sub H1 H') : EvD K M (tVar 0) ([some vh, some (V.int (k : Int)), some (.ref r)] : L2.St) H' (houD h) := evd_var rfl (Dm.s hh (s1.trans s))
    have ek {H' : Hp} (s : Sub H1 H') : EvD K M (tOp (rIxL K) (tVar 2) tM1) ([some vh, some (V.int (k : Int)), some (.ref r)] : L2.St) H' (.int ((lastOf l : Nat) : Int)) := evd_lastL rfl (s _ _ h1r) rl.pos
    have test : EvB (tAnd (tNot (tB (tCall (spPure K rIsLast) [] E0 (tCons (tVar 0) (tCons (tOp (rIxL K) (tVar 2) tM1) tNil))))) (fun σ H Q => tCall (spPure K rOuts) [] E0 (tCons (tVar 0) (tCons (tOp (rIxL K) (tVar 2) tM1) tNil)) σ H fun x H' => ∃ k, TruV K x H' k ∧ Q k H'))
        ([some vh, some (V.int (k : Int)), some (.ref r)] : L2.St) H1 (!decide (nxt h.ks (lastOf l) = lastOf l) && outB h (lastOf l)) := by
      refine evb_and (evb_not (evb_val (evd_isLast (kn.sub s1) (eh (Sub.refl _)) (ek (Sub.refl _)) x.ok lo))) fun _ => ?_
      have e2 := evb_truL (evd_pure (E := E0) (rel := rOuts) (kn.sub s1) (evds_cons (eh (Sub.refl _)) (evds_cons (ek (Sub.refl _)) evds_nil)) ⟨h, lastOf l, rfl, x, rfl⟩)
      have e3 : (!(((plL h.ks.length h.ss.length).filter (outP h.j (lastOf l))).map plD).isEmpty) = outB h (lastOf l) := by
        unfold outB
        rw [List.isEmpty_map]
      rw [e3] at e2
      exact e2
    refine ⟨_, test, fun H2 s2 => ?_⟩
    have h2r := s2 _ _ h1r
    by_cases c : nxt h.ks (lastOf l) ≠ lastOf l ∧ outB h (lastOf l) = true
    · rw [c.2, decide_eq_false c.1, if_pos (by decide)]
      have est : stp h l = l ++ [nxt h.ks (lastOf l)] := by
        unfold stp
        rw [if_pos c]
      have rl' := stp_ok x.ok rl
      rw [est] at rl'
      refine ⟨_, rfl, .inl ⟨rfl, _, SqL.of h2r⟩, ?_⟩
      refine args1 ?_
      refine evd_rise (K := K) (M := M) (eh s2) (ek s2) x.ok lo H2 (Sub.refl _) _ fun v3 H3 s3 h3 => ?_
      cases h3.intAt
      have h3r := s3 _ _ h2r
      refine ⟨r, _, _, rfl, rfl, h3r, szl (by unfold intV; rw [List.length_map]; omega), ?_⟩
      refine ⟨_, ?_, l ++ [nxt h.ks (lastOf l)], rfl, ((s1.trans s2).trans s3).mut hr0, ?_, rl', ?_, rfl⟩
      · have z := nxt_ok x.ok.ks lo
        have := c.1
        rw [lastOf_snoc]
        omega
      · rw [upd_same]
        unfold intV
        rw [List.map_append]
        rfl
      · rw [← el, ← est]
        exact itr_step (stp_rises x.ok) rl
    · have eb : (!decide (nxt h.ks (lastOf l) = lastOf l) && outB h (lastOf l)) = false := by
        by_cases c1 : nxt h.ks (lastOf l) = lastOf l
        · rw [decide_eq_true c1]
          rfl
        · rw [decide_eq_false c1]
          cases eo : outB h (lastOf l) with
          | false => rfl
          | true => exact absurd ⟨c1, eo⟩ c
      rw [eb, if_neg (by decide)]
      have est : stp h l = l := by
        unfold stp
        rw [if_neg c]
      rw [itr_at est] at el
      dsimp only
      refine ret_of (cb_args ⟨_, rfl, r, _, rfl, .inl ⟨SqL.of h2r, fun z hz => ?_⟩⟩)
      refine q _ _ ((s1.trans s2).trans (Sub.new hz)) ?_
      rw [← el]
      exact Dm.tupNew (kn.sub (s1.trans s2)) hz int_dms
abbrev sMeek : Stmt := topS 8
theorem scMeek : FnScope ["house", "ousts", "place", "kind"] ["house"] (defScope sMeek) := ⟨rfl, rfl, rfl, by decide +kernel, rfl, by decide +kernel, by decide +kernel⟩
theorem ok_meek {f fP fW fL : Addr} {fd fdP fdW fdL : FuncData} (F : Fun K "is_meek" "is_meek" sMeek f fd) (T : Txt mg) (za : mg "all" = none) (CP : Cal P w K mg base "places_of" 1 ["house"] (spPof K) fP fdP) (CW : Cal P w K mg base "word_at" 1 ["house", "place"] (spPure K rWatP) fW fdW)
    (CL : Cal P w K mg base "is_last" 1 ["house", "kind"] (spPure K rIsLast) fL fdL) : FnOk P w K mg base CX0 2 f fd ["house"] (spPure K rMeek) := by
  refine F.ok scMeek (fun vs H Q E h => pure_len (P := True) (fun ds d r => ?_) h) (fun cdv A outer s H vs Q E hr h => ?_)
  · obtain ⟨_, rfl, _⟩ := r
    rfl
  · obtain ⟨M, ds, d, kn, hd, ⟨h, rfl, x, rfl⟩, q⟩ := h
    obtain ⟨vh, rfl, hh⟩ := Dms.one_at hd
    refine ⟨_, pss_cons (ps_setLc (i := 1) (own := [("place", 2)]) (g := gName 2) (tt := tTest (tOp rEq (tCall (spPure K rWatP) [] E0 (tCons (tVar 0) (tCons (tVar 2) tNil))) (tC (.str "oust")))) rfl scMeek.nd rfl rfl rfl (pi_list (pcl CP hr (pa_cons (pv 0) pa_nil))) (blkOk_by (N := ["house", "ousts", "place", "kind"]) (sc := defScope sMeek) (by decide +kernel)) (fun _ _ _ _ _ => pg_name (i := 2) scMeek.nd rfl (Or.inl rfl))
        (fun _ _ _ _ _ => pts_one (pt_cmpR op_eq (pcl CW hr (pa_cons (pv 0) (pa_cons (pv 2) pa_nil))) pe_str (nomark _))) (fun _ _ _ _ _ => pv 2))
      (pss_one (ps_ret (pe_and (pe_notT (pv 1)) (pe_one (pe_callB (cr_all rfl) (by rfl) za PyProof.Rows.boot_all (pa_cons (pe_lc (own := [("kind", 3)]) (g := gName 3) (tt := tYes) rfl scMeek.nd (pi_range1 rfl T.range (pa_cons (pe_callB call_len_seq (by rfl) T.len PySem.boot_len (pa_cons (pe_ix ix_tup (pv 0) pe_int (fun _ _ => rfl)) pa_nil)) pa_nil)) (blkOk_by (N := ["house", "ousts", "place", "kind"]) (sc := defScope sMeek) (by decide +kernel)) (fun _ _ _ _ _ => pg_name (i := 3) scMeek.nd rfl (Or.inl rfl)) (fun _ _ _ _ _ => pts_nil)
        (fun _ _ _ _ _ => pcl CL hr (pa_cons (pv 0) (pa_cons (pv 3) pa_nil)))) pa_nil)))))), ?_⟩
    have e0 : EvD K M (tVar 0) ([some vh, none, none, none] : L2.St) H (houD h) := evd_var rfl hh
    have k6 := x.k6
    refine evd_sset (K := K) (M := M) (d := .list (((plL h.ks.length h.ss.length).filter fun p => decide (wordAt h.j p = "oust")).map plD)) (EvNL.toD kn ?_) fun v1 H1 s1 h1 => ?_
    · rw [← filter_pl]
      refine evd_lcF (fun d => decide (wordAt h.j (unPl d) = "oust")) (fun d => d) kn (evd_pof kn x e0) (pl_few x) (by intro z; rfl) ?_ ?_
      · intro Dl hD d z H1 s1 n1 hdm hz
        obtain ⟨p, hp, rfl⟩ := List.mem_map.mp hdm
        have hin := mem_plL hp
        have hh1 : Dm K (Dl :: M) H1 vh (houD h) := Dm.s (Dm.more hh hD) s1
        show EvB _ _ _ (decide (wordAt h.j (unPl (plD p)) = "oust"))
        rw [unPl_of]
        exact evb_test (evd_eqS (evd_pure (rel := rWatP) (E := E0) n1 (evds_cons (evd_var (i := 0) rfl hh1) (evds_cons (evd_var (i := 2) rfl hz) evds_nil)) ⟨_, _, h.j, _, _, p, rfl, x.ok.j, hin, rfl⟩) evd_str)
      · intro Dl hD d z H1 s1 n1 hdm _ hz
        exact evd_var rfl hz
    · have n1 := kn.sub s1
      have hh1 := Dm.s hh s1
      refine evd_ret (K := K) (M := M) (d := .bool (meekB h)) ?_ fun y H2 s2 hy => q y H2 (s1.trans s2) hy
      unfold meekB
      rw [← List.isEmpty_map (f := plD)]
      refine evd_and (evd_notL (evd_var (i := 1) rfl h1)) fun _ => evd_all (EvNL.toD n1 ?_)
      rw [List.map_map, show (h.ks.length : Nat) = ((h.ks.length : Int)).toNat from (Int.toNat_natCast _).symm]
      have eln := evd_len (σ := [some vh, some v1, none, none]) (i := 0) (rs := h.ks.map kdD) rfl hh1 (by decide) rfl
      rw [List.length_map] at eln
      refine evd_lcR (m := (h.ks.length : Int)) _ n1 (evds_cons eln evds_nil) (by omega) (by omega) (by intro z; rfl) ?_
      intro Dl hD i H2 s2 n2 hi
      have hh2 : Dm K (Dl :: M) H2 vh (houD h) := Dm.s (Dm.more hh1 hD) s2
      have hi' : i < h.ks.length := by omega
      have z := evd_isLast (E := E0) n2 (evd_var (i := 0) (σ := [some vh, some v1, none, some (V.int (i : Int))]) rfl hh2) (evd_var (i := 3) rfl (.int (i : Int))) x.ok hi'
      rw [← last_iff x.ok.ks hi'] at z
      exact z
abbrev sKeepsA : Stmt := topS 9
theorem scKeepsA : FnScope ["house", "kind"] ["house"] (defScope sKeepsA) := ⟨rfl, rfl, rfl, by decide +kernel, rfl, by decide +kernel, by decide +kernel⟩
def keepD : PyData → PyData
  | .tuple [_, b, _] => b
  | _ => .none
theorem ok_keepsA {f : Addr} {fd : FuncData} (F : Fun K "keeps_all" "keeps_all" sKeepsA f fd) (za : mg "all" = none) : FnOk P w K mg base CX0 1 f fd ["house"] (spPure K rKeeps) := by
  refine F.ok scKeepsA (fun vs H Q E h => pure_len (P := True) (fun ds d r => ?_) h) (fun cdv A outer s H vs Q E hr h => ?_)
  · obtain ⟨_, rfl, _⟩ := r
    rfl
  · obtain ⟨M, ds, d, kn, hd, ⟨h, rfl, x, rfl⟩, q⟩ := h
    obtain ⟨vh, rfl, hh⟩ := Dms.one_at hd
    have k6 := x.k6
    refine ⟨_, pss_one (ps_ret (pe_callB (cr_all rfl) (by rfl) za PyProof.Rows.boot_all (pa_cons (pe_lc (own := [("kind", 1)]) (g := gName 1) (tt := tYes) (te := tOp (rIxT K) (tVar 1) (tC (.int 1))) rfl scKeepsA.nd (pi_tup (pe_ix ix_tup (pv 0) pe_int (fun _ _ => rfl))) (blkOk_by (N := ["house", "kind"]) (sc := defScope sKeepsA) (by decide +kernel)) (fun _ _ _ _ _ => pg_name (i := 1) scKeepsA.nd rfl (Or.inl rfl)) (fun _ _ _ _ _ => pts_nil)
      (fun _ _ _ _ _ => pe_ix ix_tup (pv 1) pe_int (fun _ _ => rfl))) pa_nil))), ?_⟩
    refine evd_ret (K := K) (M := M) (d := .bool ((h.ks.map (·.2.1)).all id)) (evd_all (EvNL.toD kn ?_)) fun y H2 s2 hy => q y H2 s2 hy
    have e0 : EvD K M (tVar 0) ([some vh, none] : L2.St) H (houD h) := evd_var rfl hh
    have e1 : EvD K M (tOp (rIxT K) (tVar 0) (tC (.int 0))) ([some vh, none] : L2.St) H (.tuple (h.ks.map kdD)) := evd_ixT e0 (evd_int (i := 0)) (by decide) rfl
    have z : ((h.ks.map kdD).filter fun _ => true).map keepD = (h.ks.map (·.2.1)).map PyData.bool := by
      rw [filter_yes, List.map_map, List.map_map]
      rfl
    rw [← z]
    refine evd_lcFT (fun _ => true) keepD kn e1 (by rw [List.length_map]; omega) (by intro z; rfl) (fun _ _ _ _ _ _ _ _ _ => evb_yes) ?_
    intro Dl hD d v1 H1 s1 n1 hdm _ hv
    obtain ⟨kd, _, rfl⟩ := List.mem_map.mp hdm
    exact evd_ixT (evd_var rfl hv) (evd_int (i := 1)) (by decide) rfl
end
end KZ

namespace KZ
open PySem PySem.Spec PyProof.Rows L2
theorem inV_int (j : Nat) : ∀ l : List Nat, inV (.int (j : Int)) (intV l) = decide (j ∈ l)
  | [] => by simp [inV, intV]
  | a :: l => by
    have ih := inV_int j l
    unfold inV intV at ih ⊢
    rw [List.map_cons, List.any_cons, ih]
    have e : eqV (V.int (a : Int)) (V.int (j : Int)) = decide (j = a) := by
      show ((a : Int) == (j : Int)) = _
      by_cases z : j = a
      · subst z
        simp
      · rw [decide_eq_false z]
        simp
        omega
    rw [e]
    by_cases z : j = a
    · simp [z]
    · simp [z]
theorem flat_int : ∀ l : List Nat, (intV l).all flatV = true
  | [] => rfl
  | a :: l => by
    unfold intV
    rw [List.map_cons, List.all_cons]
    exact flat_int l
section
variable {P : Program} {w : World} {K : PySem.W.Frag} {mg : Str → Option Value} {base : Heap}
abbrev sLLast : Stmt := topS 26
theorem scLLast : FnScope ["house", "kind", "turn"] ["house", "kind"] (defScope sLLast) := ⟨rfl, rfl, rfl, by decide +kernel, rfl, by decide +kernel, by decide +kernel⟩
theorem ok_lLast {f : Addr} {fd : FuncData} (F : Fun K "_law_last" "_law_last" sLLast f fd) (T : Txt mg) : FnOk P w K mg base CX0 1 f fd ["house", "kind"] (spPure K rLast) := by
  refine F.ok scLLast (fun vs H Q E h => pure_len (P := True) (fun ds d r => ?_) h) (fun cdv A outer s H vs Q E hr h => ?_)
  · obtain ⟨_, _, rfl, _⟩ := r
    rfl
  · obtain ⟨M, ds, d, kn, hd, ⟨h, k, rfl, x, hk, rfl⟩, q⟩ := h
    obtain ⟨vh, vk, rfl, hh, hi⟩ := Dms.two_at hd
    cases hi.intAt
    have k6 := x.k6
    refine ⟨_, pss_cons (ps_for PassesOwn.never rfl (pi_range1 rfl T.range (pa_cons (pe_callB call_len_seq (by rfl) T.len PySem.boot_len (pa_cons (pe_ix ix_tup (pv 0) pe_int (fun _ _ => rfl)) pa_nil)) pa_nil)) (pg_name (i := 2) scLLast.nd rfl (Or.inl rfl))
        (pss_one (ps_set (i := 1) scLLast.nd rfl (Or.inl rfl) (pe_ix ix_tup (pe_ix ix_tup (pe_ix ix_tup (pv 0) pe_int (fun _ _ => rfl)) (pv 1) (fun _ _ => rfl)) pe_int (fun _ _ => rfl)))))
      (pss_one (ps_ret (pv 1))), ?_⟩
    refine sfor (for_len (i := 0) (rs := h.ks.map kdD) rfl hh (by decide) rfl (by rw [List.length_map]; omega) (fun i σ H' => ∃ u : Option V, σ = [some vh, some (.int ((itr (nxt h.ks) i k : Nat) : Int)), u] ∧ Sub H H') ⟨none, rfl, Sub.refl _⟩ ?_ ?_)
    · rintro i σ H1 hi1 ⟨u, rfl, s1⟩
      have lo := itr_keep (rise_ok x.ok.ks) i k hk
      refine gname_of ?_
      refine evd_set (K := K) (M := M) (evd_rise (evd_var (i := 0) rfl (Dm.s hh s1)) (evd_var (i := 1) rfl (.int _)) x.ok lo) fun v3 H3 s3 h3 => ?_
      cases h3.intAt
      refine ⟨some (.int (i : Int)), ?_, s1.trans s3⟩
      rw [itr_snoc]
      rfl
    · rintro σ H1 ⟨u, rfl, s1⟩
      refine ⟨_, rfl, q _ H1 s1 ?_⟩
      rw [List.length_map]
      exact .int _
def rOutB (ds : List PyData) (d : PyData) : Prop := ∃ (h : Hou) (k : Nat), ds = [houD h, .int (k : Int)] ∧ HouX h ∧ d = .bool (outB h k)
abbrev sPutOut : Stmt := topS 27
theorem scPutOut : FnScope ["house", "kind", "sort", "asker", "holder", "side", "word"] ["house", "kind"] (defScope sPutOut) := ⟨rfl, rfl, rfl, by decide +kernel, rfl, by decide +kernel, by decide +kernel⟩
theorem ok_putOut {f fP fW : Addr} {fd fdP fdW : FuncData} (F : Fun K "_law_is_put_out" "_law_is_put_out" sPutOut f fd) (CP : Cal P w K mg base "_law_places" 1 ["house"] (spPlaces K) fP fdP) (CW : Cal P w K mg base "_law_word_at" 1 ["house", "place"] (spWat K) fW fdW) :
    FnOk P w K mg base CX0 2 f fd ["house", "kind"] (spPure K rOutB) := by
  refine F.ok scPutOut (fun vs H Q E h => pure_len (P := True) (fun ds d r => ?_) h) (fun cdv A outer s H vs Q E hr h => ?_)
  · obtain ⟨_, _, rfl, _⟩ := r
    rfl
  · obtain ⟨M, ds, d, kn, hd, ⟨h, k, rfl, x, rfl⟩, q⟩ := h
    obtain ⟨vh, vk, rfl, hh, hi⟩ := Dms.two_at hd
    cases hi.intAt
    have k6 := x.k6
    have s4' := x.s4
    refine ⟨_, pss_cons (ps_for PassesOwn.never rfl (pi_list (pcl CP hr (pa_cons (pv 0) pa_nil))) (pg_tup rfl (pgs_cons (pg_name (i := 2) scPutOut.nd rfl (Or.inl rfl)) (pgs_cons (pg_name (i := 3) scPutOut.nd rfl (Or.inl rfl)) (pgs_cons (pg_name (i := 4) scPutOut.nd rfl (Or.inl rfl)) (pgs_cons (pg_name (i := 5) scPutOut.nd rfl (Or.inl rfl)) pgs_nil)))))
        (pss_cons (ps_set (i := 6) scPutOut.nd rfl (Or.inl rfl) (pcl CW hr (pa_cons (pv 0) (pa_cons (pe_tup (pa_cons (pv 2) (pa_cons (pv 3) (pa_cons (pv 4) (pa_cons (pv 5) pa_nil))))) pa_nil))))
        (pss_one (ps_if (PW.pt (pw_or (PW.pt (pw_and (pt_cmpR op_eq (pv 6) pe_str (nomark _)) (pw_and1 (pt_cmpR op_eq (pv 3) (pv 1) (nomark _))))) (pw_or1 (PW.pt (pw_and (pt_cmpR op_eq (pv 6) pe_str (nomark _)) (pw_and1 (pt_cmpR op_eq (pv 4) (pv 1) (nomark _)))))))) (pss_one (ps_ret pe_bl)) pss_nil))))
      (pss_one (ps_ret pe_bl)), ?_⟩
    refine sfor ⟨_, rfl, M, vh, _, _, _, rfl, kn, hh, by rw [List.length_map]; omega, by rw [List.length_map]; omega, fun p ps H1 s1 hp0 hp1 hpl => ?_⟩
    rw [List.length_map, List.length_map] at hpl
    have hpsl := paired_len hpl
    refine ⟨p, rfl, ⟨_, SqL.of hp1⟩, for_list (K := K) (a := p) (xs := ps.map V.ref) (fun i σ H' => ∃ (u2 u3 u4 u5 u6 : Option V), σ = [some vh, some (.int (k : Int)), u2, u3, u4, u5, u6] ∧ Sub H1 H' ∧ ((plL h.ks.length h.ss.length).take i).filter (outP h.j k) = [])
      ⟨none, none, none, none, none, rfl, Sub.refl _, rfl⟩ (fun i σ H' _ ⟨_, _, _, _, _, _, s, _⟩ => SqL.of (s _ _ hp1)) ?_ ?_⟩
    · rintro i z σ H2 hi2 ⟨u2, u3, u4, u5, u6, rfl, s2, hf⟩
      rw [List.getElem?_map] at hi2
      obtain ⟨q1, hq1, rfl⟩ := Option.map_eq_some_iff.mp hi2
      obtain ⟨pl, hpi, hq0, hqH⟩ := paired_at hpl hq1
      have hin := mem_plL (List.mem_of_getElem? hpi)
      have hq2 := s2 _ _ hqH
      refine ⟨q1, _, rfl, SqT.of hq2, rfl, _, _, rfl, _, _, rfl, _, _, rfl, _, _, rfl, rfl, ?_⟩
      have s12 := s1.trans s2
      refine sset_of ⟨_, rfl, _, rfl, _, rfl, _, rfl, _, rfl, by show 4 ≤ sizeLine; decide, fun t ht => ?_⟩
      have s3 : Sub H2 (upd H2 t (.tup [.int (pl.1 : Int), .int (pl.2.1 : Int), .int (pl.2.2.1 : Int), .int (pl.2.2.2 : Int)])) := Sub.new ht
      refine ⟨M, _, _, h.j, h.ks.length, h.ss.length, pl, vh, _, rfl, kn.sub (s12.trans s3), Dm.s hh (s12.trans s3), Dm.tupNew (kn.sub s12) ht (.cons (.int _) (.cons (.int _) (.cons (.int _) (.cons (.int _) .nil)))), x.ok.j, hin, fun H4 s4 => ?_⟩
      have s24 : Sub H2 H4 := s3.trans s4
      have test : EvB (tOr (tAnd (tTest (tOp rEq (tVar 6) (tC (.str "yield")))) (tTest (tOp rEq (tVar 3) (tVar 1)))) (tAnd (tTest (tOp rEq (tVar 6) (tC (.str "oust")))) (tTest (tOp rEq (tVar 4) (tVar 1)))))
          ([some vh, some (.int (k : Int)), some (.int (pl.1 : Int)), some (.int (pl.2.1 : Int)), some (.int (pl.2.2.1 : Int)), some (.int (pl.2.2.2 : Int)), some (.str (wordAt h.j pl))] : L2.St) H4 (outP h.j k pl) := by
        have ew : EvD K M (tVar 6) ([some vh, some (.int (k : Int)), some (.int (pl.1 : Int)), some (.int (pl.2.1 : Int)), some (.int (pl.2.2.1 : Int)), some (.int (pl.2.2.2 : Int)), some (.str (wordAt h.j pl))] : L2.St) H4 (.str (wordAt h.j pl)) := evd_var rfl (.str _)
        have ek : EvD K M (tVar 1) ([some vh, some (.int (k : Int)), some (.int (pl.1 : Int)), some (.int (pl.2.1 : Int)), some (.int (pl.2.2.1 : Int)), some (.int (pl.2.2.2 : Int)), some (.str (wordAt h.j pl))] : L2.St) H4 (.int (k : Int)) := evd_var rfl (.int _)
        have ea : EvD K M (tVar 3) ([some vh, some (.int (k : Int)), some (.int (pl.1 : Int)), some (.int (pl.2.1 : Int)), some (.int (pl.2.2.1 : Int)), some (.int (pl.2.2.2 : Int)), some (.str (wordAt h.j pl))] : L2.St) H4 (.int (pl.2.1 : Int)) := evd_var rfl (.int _)
        have eh : EvD K M (tVar 4) ([some vh, some (.int (k : Int)), some (.int (pl.1 : Int)), some (.int (pl.2.1 : Int)), some (.int (pl.2.2.1 : Int)), some (.int (pl.2.2.2 : Int)), some (.str (wordAt h.j pl))] : L2.St) H4 (.int (pl.2.2.1 : Int)) := evd_var rfl (.int _)
        unfold outP
        rw [Bool.and_comm (decide ((pl.2.1 : Int) = (k : Int))), Bool.and_comm (decide ((pl.2.2.1 : Int) = (k : Int)))]
        exact evb_or (evb_and (evb_test (evd_eqS ew evd_str)) fun _ => evb_test (evd_eqI ea ek)) fun _ => evb_and (evb_test (evd_eqS ew evd_str)) fun _ => evb_test (evd_eqI eh ek)
      dsimp only
      refine test H4 (Sub.refl _) _ fun H5 s5 => ?_
      have hil := (List.getElem?_eq_some_iff.mp hpi).1
      by_cases eo : outP h.j k pl = true
      · rw [if_pos eo]
        refine q _ H5 ((s12.trans s24).trans s5) ?_
        have ez : outB h k = true := by
          unfold outB
          have mem : pl ∈ (plL h.ks.length h.ss.length).filter (outP h.j k) := List.mem_filter.mpr ⟨List.mem_of_getElem? hpi, eo⟩
          cases ef : (plL h.ks.length h.ss.length).filter (outP h.j k) with
          | nil =>
            rw [ef] at mem
            cases mem
          | cons a l => rfl
        rw [ez]
        exact .bl true
      · rw [if_neg eo]
        refine ⟨_, _, _, _, _, rfl, (s2.trans s24).trans s5, ?_⟩
        rw [take_snoc hpi, List.filter_append, hf, List.nil_append, List.filter_cons, if_neg eo]
        rfl
    · rintro σ H2 ⟨u2, u3, u4, u5, u6, rfl, s2, hf⟩
      rw [List.length_map, hpsl, List.take_length] at hf
      refine q _ H2 (s1.trans s2) ?_
      unfold outB
      rw [hf]
      exact .bl false
end
end KZ

namespace KZ
open PySem PySem.Spec PyProof.Rows L2
section
variable {K : PySem.W.Frag} {M : List Addr} {σ : L2.St} {H : Hp}
theorem evb_notinL {te : TE} {i j : Nat} {r : Addr} {l : List Nat} (he : EvD K M te σ H (.int (j : Int))) (hv : σ[i]? = some (some (.ref r))) (e : H r = some (.lst (intV l))) : EvB (tTest (tOp (rIn K true) te (tVar i))) σ H (!decide (j ∈ l)) := fun H1 s Q q =>
  he H1 s _ fun v H2 s2 hv2 => by
    cases hv2.intAt
    refine ⟨_, hv, r, _, rfl, .inl (SqL.of (s2 _ _ (s _ _ e))), rfl, flat_int l, _, rfl, ?_⟩
    rw [inV_int, if_pos rfl]
    exact q H2 s2
theorem evd_tupleOf {te : TE} {ds : List PyData} (n : Kn M H) (he : EvD K M te σ H (.list ds)) :
    EvD K M (tCB (fun xs H Q => ∃ p ys, xs = [V.ref p] ∧ ((SqL K H p ys ∧ ∀ l, H l = none → Q (.ref l) (upd H l (.tup ys))) ∨ (SqT K H p ys ∧ Q (.ref p) H))) (tCons te tNil)) σ H (.tuple ds) := fun H1 s Q q =>
  he H1 s _ fun v H2 s2 hv => by
    obtain ⟨a, xs, rfl, hs, ha⟩ := hv.lstAt
    exact ⟨a, xs, rfl, .inl ⟨hs, fun z hz => q _ _ (s2.trans (Sub.new hz)) (Dm.tupNew (n.sub (s.trans s2)) hz ha)⟩⟩
/-- len(x[i]), x in any slot -/
theorem evd_lenI {k : Nat} {i : Int} {ds rs : List PyData} {v : V} (hv : σ[k]? = some (some v)) (hd : Dm K M H v (.tuple ds)) (i0 : 0 ≤ i) (hi : ds[i.toNat]? = some (.tuple rs)) :
    EvD K M (tCB (fun xs H Q => ∃ p ys, xs = [V.ref p] ∧ (SqL K H p ys ∨ SqT K H p ys) ∧ Q (.int ys.length) H) (tCons (tOp (rIxT K) (tVar k) (tC (.int i))) tNil)) σ H (.int rs.length) := fun H1 s Q q => by
  obtain ⟨a, xs, y, rfl, hs, hat, hy⟩ := dm_getT (Dm.s hd s) i0 hi
  obtain ⟨b, ys, rfl, hs2, ha2⟩ := hy.tupAt
  refine ⟨_, hv, a, xs, i, _, rfl, rfl, hs, hat, b, ys, rfl, .inr hs2, ?_⟩
  rw [ha2.len]
  exact q _ H1 (Sub.refl _) (.int _)
end
theorem row_in {n : Nat} {ks : List Kd} {l : List Nat} (ok : KdsOk ks) (r : RowK ks.length l) : (nxt ks (lastOf l) ∈ l) ↔ nxt ks (lastOf l) = lastOf l := by
  have z := nxt_ok ok r.low
  constructor
  · intro m
    have := r.all _ m
    omega
  · intro e
    rw [e]
    exact List.mem_of_getElem? (lastOf_at r.pos)
section
variable {P : Program} {w : World} {K : PySem.W.Frag} {mg : Str → Option Value} {base : Heap}
abbrev sLRaised : Stmt := topS 28
theorem scLRaised : FnScope ["house", "kind", "found", "turn"] ["house", "kind"] (defScope sLRaised) := ⟨rfl, rfl, rfl, by decide +kernel, rfl, by decide +kernel, by decide +kernel⟩
theorem ok_lRaised {f fO : Addr} {fd fdO : FuncData} (F : Fun K "_law_raised" "_law_raised" sLRaised f fd) (T : Txt mg) (CO : Cal P w K mg base "_law_is_put_out" 2 ["house", "kind"] (spPure K rOutB) fO fdO) : FnOk P w K mg base CX0 3 f fd ["house", "kind"] (spPure K rRaised) := by
  refine F.ok scLRaised (fun vs H Q E h => pure_len (P := True) (fun ds d r => ?_) h) (fun cdv A outer s H vs Q E hr h => ?_)
  · obtain ⟨_, _, rfl, _⟩ := r
    rfl
  · obtain ⟨M, ds, d, kn, hd, ⟨h, k, rfl, x, hk, rfl⟩, q⟩ := h
    obtain ⟨vh, vk, rfl, hh, hi⟩ := Dms.two_at hd
    cases hi.intAt
    have k6 := x.k6
    refine ⟨_, pss_cons (ps_set (i := 2) scLRaised.nd rfl (Or.inl rfl) (pe_lst (pa_cons (pv 1) pa_nil)))
      (pss_cons (ps_for PassesOwn.never rfl (pi_range1 rfl T.range (pa_cons (pe_callB call_len_seq (by rfl) T.len PySem.boot_len (pa_cons (pe_ix ix_tup (pv 0) pe_int (fun _ _ => rfl)) pa_nil)) pa_nil)) (pg_name (i := 3) scLRaised.nd rfl (Or.inl rfl))
        (pss_one (ps_if (PW.pt (pw_and (pt_val (pcl CO hr (pa_cons (pv 0) (pa_cons (pe_ix ix_list (pv 2) (pe_un un_neg pe_int) (fun _ _ => rfl)) pa_nil)))) (pw_and1 (pt_cmpR op_notIn_seq (pe_ix ix_tup (pe_ix ix_tup (pe_ix ix_tup (pv 0) pe_int (fun _ _ => rfl)) (pe_ix ix_list (pv 2) (pe_un un_neg pe_int) (fun _ _ => rfl)) (fun _ _ => rfl)) pe_int (fun _ _ => rfl)) (pv 2) rfl))))
          (pss_one (ps_expr (pe_bm PySem.F.plainAttrs_list PySem.F.slot_list_append PySem.F.type_list_append mt_append (pv 2)
            (pa_cons (pe_ix ix_tup (pe_ix ix_tup (pe_ix ix_tup (pv 0) pe_int (fun _ _ => rfl)) (pe_ix ix_list (pv 2) (pe_un un_neg pe_int) (fun _ _ => rfl)) (fun _ _ => rfl)) pe_int (fun _ _ => rfl)) pa_nil)))) pss_nil)))
      (pss_one (ps_ret (pe_callTy call_tuple_of (by rfl) T.tuple bootTuple (pa_cons (pv 2) pa_nil))))), ?_⟩
    refine sset_of (lst_of (cons_of ⟨_, rfl, nil_of ⟨by show 1 ≤ sizeLine; decide, fun r hr0 => ?_⟩⟩))
    refine sfor (for_len (i := 0) (rs := h.ks.map kdD) (K := K) (M := M) rfl (Dm.s hh (Sub.new hr0)) (by decide) rfl (by rw [List.length_map]; omega) (fun i σ H' => ∃ (u : Option V), σ = [some vh, some (.int (k : Int)), some (.ref r), u] ∧ Sub H H' ∧ H' r = some (.lst (intV (itr (stp h) i [k]))))
      ⟨none, rfl, Sub.new hr0, upd_same⟩ ?_ ?_)
    · rintro i σ H1 hi1 ⟨u, rfl, s1, h1r⟩
      have rl := itr_keep (stp_rises x.ok) i [k] (row_one hk)
      rw [itr_snoc]
      generalize itr (stp h) i [k] = l at rl h1r
      have lo := rl.low
      have few : l.length < 100 := by
        have := rl.len
        omega
      refine gname_of ?_
      have eh {H' : Hp} (s : Sub H1 H') : EvD K M (tVar 0) ([some vh, some (V.int (k : Int)), some (.ref r), some (.int (i : Int))] : L2.St) H' (houD h) := evd_var rfl (Dm.s hh (s1.trans s))
      have ek {H' : Hp} (s : Sub H1 H') : EvD K M (tOp (rIxL K) (tVar 2) tM1) ([some vh, some (V.int (k : Int)), some (.ref r), some (.int (i : Int))] : L2.St) H' (.int ((lastOf l : Nat) : Int)) := evd_lastL rfl (s _ _ h1r) rl.pos
      have test : EvB (tAnd (tB (tCall (spPure K rOutB) [] E0 (tCons (tVar 0) (tCons (tOp (rIxL K) (tVar 2) tM1) tNil)))) (tTest (tOp (rIn K true) (tOp (rIxT K) (tOp (rIxT K) (tOp (rIxT K) (tVar 0) (tC (.int 0))) (tOp (rIxL K) (tVar 2) tM1)) (tC (.int 2))) (tVar 2))))
          ([some vh, some (V.int (k : Int)), some (.ref r), some (.int (i : Int))] : L2.St) H1 (outB h (lastOf l) && !decide (nxt h.ks (lastOf l) ∈ l)) :=
        evb_and (evb_val (evd_pure (E := E0) (rel := rOutB) (kn.sub s1) (evds_cons (eh (Sub.refl _)) (evds_cons (ek (Sub.refl _)) evds_nil)) ⟨h, lastOf l, rfl, x, rfl⟩)) fun _ =>
          evb_notinL (evd_rise (K := K) (M := M) (eh (Sub.refl _)) (ek (Sub.refl _)) x.ok lo) rfl h1r
      refine test H1 (Sub.refl _) _ fun H2 s2 => ?_
      have h2r := s2 _ _ h1r
      have er := row_in (n := 0) x.ok.ks rl
      by_cases c : nxt h.ks (lastOf l) ≠ lastOf l ∧ outB h (lastOf l) = true
      · rw [c.2, decide_eq_false (fun z => c.1 (er.mp z)), if_pos (by decide)]
        have est : stp h l = l ++ [nxt h.ks (lastOf l)] := by
          unfold stp
          rw [if_pos c]
        refine ⟨_, rfl, .inl ⟨rfl, _, SqL.of h2r⟩, ?_⟩
        refine args1 ?_
        refine evd_rise (K := K) (M := M) (eh s2) (ek s2) x.ok lo H2 (Sub.refl _) _ fun v3 H3 s3 h3 => ?_
        cases h3.intAt
        have h3r := s3 _ _ h2r
        refine ⟨r, _, _, rfl, rfl, h3r, szl (by unfold intV; rw [List.length_map]; omega), ?_⟩
        refine ⟨_, rfl, ((s1.trans s2).trans s3).mut hr0, ?_⟩
        rw [upd_same, est]
        unfold intV
        rw [List.map_append]
        rfl
      · have eb : (outB h (lastOf l) && !decide (nxt h.ks (lastOf l) ∈ l)) = false := by
          by_cases c1 : nxt h.ks (lastOf l) = lastOf l
          · rw [decide_eq_true (er.mpr c1), Bool.not_true, Bool.and_false]
          · cases eo : outB h (lastOf l) with
            | false => rfl
            | true => exact absurd ⟨c1, eo⟩ c
        have est : stp h l = l := by
          unfold stp
          rw [if_neg c]
        rw [eb, if_neg (by decide)]
        refine ⟨_, rfl, s1.trans s2, ?_⟩
        rw [est]
        exact h2r
    · rintro σ H1 ⟨u, rfl, s1, h1r⟩
      rw [List.length_map] at h1r
      dsimp only
      refine ret_of (cb_args ⟨_, rfl, r, _, rfl, .inl ⟨SqL.of h1r, fun z hz => ?_⟩⟩)
      exact q _ _ (s1.trans (Sub.new hz)) (Dm.tupNew (kn.sub s1) hz int_dms)
/-! rises drawn anew -/
def spHH (K : PySem.W.Frag) : Sp := fun vs H Q _ => ∃ (M : List Addr) (b l : Addr) (v : V) (h : Hou), vs = [.ref b, v] ∧ Cb M b l H ∧ Dm K M H v (houD h) ∧ HouX h ∧
  ∀ (y : V) (h' : Hou) (H' : Hp), Fr b l H H' → HouX h' → Dm K M H' y (houD h') → Q y H'
def rgI (k n : Int) : List Int := (List.range (n - k).toNat).map fun i : Nat => k + (i : Nat)
def drawI (k n : Int) : List Int := k :: (rgI k n ++ rgI k n)
theorem drawI_v (k n : Int) : (drawI k n).map V.int = [V.int k] ++ (List.replicate 2 (rgV k n)).flatten := by
  unfold drawI rgI rgV
  simp [List.replicate, List.map_append]
  rfl
theorem drawI_in {k n z : Int} (h : k < n) (m : z ∈ drawI k n) : k ≤ z ∧ z < n := by
  unfold drawI rgI at m
  have aux : ∀ z, z ∈ (List.range (n - k).toNat).map (fun i : Nat => k + (i : Nat)) → k ≤ z ∧ z < n := fun z hz => by
    obtain ⟨i, hi, rfl⟩ := List.mem_map.mp hz
    have := List.mem_range.mp hi
    omega
  rcases List.mem_cons.mp m with e | m
  · omega
  · rcases List.mem_append.mp m with m | m <;> exact aux z m
theorem drawI_len (k n : Int) : (drawI k n).length = 1 + 2 * (n - k).toNat := by
  unfold drawI rgI
  simp
  omega
abbrev sRisen : Stmt := topS 31
theorem scRisen : FnScope ["bag", "house", "kinds", "k", "kind", "rise"] ["bag", "house"] (defScope sRisen) := ⟨rfl, rfl, rfl, by decide +kernel, rfl, by decide +kernel, by decide +kernel⟩
theorem ok_risen {f fS : Addr} {fd fdS : FuncData} (F : Fun K "_law_risen" "_law_risen" sRisen f fd) (T : Txt mg) (CS : Cal P w K mg base "_law_some" 2 ["bag", "things"] (spSome K) fS fdS) : FnOk P w K mg base CX0 3 f fd ["bag", "house"] (spHH K) := by
  refine F.ok scRisen (fun vs H Q E h => ?_) (fun cdv A outer s H vs Q E hr h => ?_)
  · obtain ⟨_, _, _, _, _, rfl, _⟩ := h
    rfl
  · obtain ⟨M, b, l, v, h, rfl, cb, hv, x, q⟩ := h
    have k6 := x.k6
    refine ⟨_, pss_cons (ps_set (i := 2) scRisen.nd rfl (Or.inl rfl) (pe_lst pa_nil))
      (pss_cons (ps_for PassesOwn.never rfl (pi_enumT rfl T.enumerate (pa_cons (pe_ix ix_tup (pv 1) pe_int (fun _ _ => rfl)) pa_nil)) (pg_tup rfl (pgs_cons (pg_name (i := 3) scRisen.nd rfl (Or.inl rfl)) (pgs_cons (pg_name (i := 4) scRisen.nd rfl (Or.inl rfl)) pgs_nil)))
        (pss_cons (ps_set (i := 5) scRisen.nd rfl (Or.inl rfl) (pcl CS hr (pa_cons (pv 0) (pa_cons (pe_op op_cat (pe_lst (pa_cons (pv 3) pa_nil)) (pe_op op_rep (pe_listRg rfl rfl T.list (prg_2 rfl T.range (pv 3) (pe_callB call_len_seq (by rfl) T.len PySem.boot_len (pa_cons (pe_ix ix_tup (pv 1) pe_int (fun _ _ => rfl)) pa_nil)))) pe_int)) pa_nil))))
        (pss_one (ps_expr (pe_bm PySem.F.plainAttrs_list PySem.F.slot_list_append PySem.F.type_list_append mt_append (pv 2) (pa_cons (pe_tup (pa_cons (pe_ix ix_tup (pv 4) pe_int (fun _ _ => rfl)) (pa_cons (pe_ix ix_tup (pv 4) pe_int (fun _ _ => rfl)) (pa_cons (pv 5) pa_nil)))) pa_nil))))))
      (pss_one (ps_ret (pe_op op_catA (pe_tup (pa_cons (pe_callTy call_tuple_of (by rfl) T.tuple bootTuple (pa_cons (pv 2) pa_nil)) pa_nil)) (pe_slice sl_tupA (pv 1) (po_some pe_int) po_none))))), ?_⟩
    refine sset_of (lst_of (nil_of ⟨Nat.zero_le _, fun p hp => ?_⟩))
    have f0 : Fr b l H (upd H p (.lst [])) := Fr.new cb.bag hp
    have pb := ne_new cb.bag.at hp
    have km0 {o : HO} : Kp (p :: M) H (upd H p o) := Kp.mut List.mem_cons_self
    have hv1 : Dm K (p :: M) (upd H p (.lst [])) v (houD h) := Dm.k (Dm.more hv hp) km0
    obtain ⟨ax, xs, y, rfl, hsx, hat, hy⟩ := dm_getT (i := 0) hv1 (by decide) rfl
    obtain ⟨a0, xs0, rfl, hs0, ha0⟩ := hy.tupAtE
    have hl0 := ha0.len
    rw [List.length_map] at hl0
    have mb : b ∈ p :: M := List.mem_cons_of_mem _ cb.mem
    refine sfor ⟨_, rfl, ax, xs, 0, _, rfl, rfl, hsx, hat, a0, xs0, rfl, (er_sub _ _).sqT hs0, for_enumT (K := K) (a := a0) (xs := xs0) (fun i σ H' => ∃ (u3 u4 u5 : Option V) (vs : List V) (ks : List Kd), σ = [some (.ref b), some (.ref ax), some (.ref p), u3, u4, u5] ∧ Fr b l H H' ∧ H' p = some (.lst vs) ∧ Dms K (p :: M) H' vs (ks.map kdD) ∧ ks.length = i ∧
        ks.map (·.1) = (h.ks.map (·.1)).take i ∧ (∀ (j : Nat) (k : Kd), ks[j]? = some k → (j : Int) ≤ k.2.2 ∧ k.2.2 < (h.ks.length : Int)) ∧ SqT K (er (p :: M) H') a0 xs0 ∧ Dms K (p :: M) H' xs0 (h.ks.map kdD) ∧ Dm K (p :: M) H' (.ref ax) (houD h))
      ⟨none, none, none, [], [], rfl, f0, upd_same, .nil, rfl, rfl, fun j k e => by simp at e, hs0, ha0, hv1⟩ (fun i σ H' _ ⟨_, _, _, _, _, _, _, _, _, _, _, _, s, _⟩ => (er_sub _ _).sqT s) ?_ ?_⟩
    · rintro i x0 σ H1 T1 hi ⟨u3, u4, u5, vs, ks, rfl, f1, h1p, hds, hkl, hkn, hkr, hsq, hdx, hvx⟩ hT
      obtain ⟨dx, hdi, hx1⟩ := hdx.get' hi
      rw [List.getElem?_map] at hdi
      obtain ⟨kd, hkd, rfl⟩ := Option.map_eq_some_iff.mp hdi
      have hin : i < h.ks.length := (List.getElem?_eq_some_iff.mp hkd).1
      have c1 : Cb (p :: M) b l H1 := (cb.fr f1).more ⟨_, h1p⟩
      refine ⟨T1, _, rfl, SqT.of upd_same, rfl, _, _, rfl, _, _, rfl, rfl, ?_⟩
      have fT : Fr b l H1 (upd H1 T1 (.tup [.int (i : Int), x0])) := Fr.new c1.bag hT
      generalize upd H1 T1 (.tup [.int (i : Int), x0]) = H2 at fT
      have c2 := c1.fr fT
      have hv2 : Dm K (p :: M) H2 (.ref ax) (houD h) := Dm.f hvx fT mb
      refine sset_of ⟨_, rfl, _, rfl, by show 1 ≤ sizeLine; decide, fun q1 hq1 => ⟨_, rfl, ?_⟩⟩
      have s3 : Sub H2 (upd H2 q1 (.lst [.int (i : Int)])) := Sub.new hq1
      have g1 : upd H2 q1 (.lst [.int (i : Int)]) q1 = some (.lst [.int (i : Int)]) := upd_same
      generalize upd H2 q1 (.lst [.int (i : Int)]) = H3 at s3 g1
      refine evd_lenI (σ := [some (.ref b), some (.ref ax), some (.ref p), some (.int (i : Int)), some x0, u5]) (k := 1) (i := 0) (rs := h.ks.map kdD) (K := K) (M := p :: M) rfl (Dm.s hv2 s3) (by decide) rfl H3 (Sub.refl _) _ fun v2 H4 s4 h2 => ?_
      rw [List.length_map] at h2
      cases h2.intAt
      have e2 : ((h.ks.length : Int) - (i : Int)).toNat ≤ 6 := by omega
      refine ⟨_, _, rfl, rfl, RgOk.of_le (by omega) (by omega) (by omega) (by omega), fun q2 hq2 => ⟨q2, 2, _, rfl, rfl, upd_same, by decide, by decide, ?_, fun q3 hq3 => ⟨q1, q3, _, _, rfl, rfl, Sub.new hq3 _ _ (Sub.new hq2 _ _ (s4 _ _ g1)), upd_same, ?_, fun q4 hq4 => ?_⟩⟩⟩
      · rw [rgV_length]
        exact Nat.le_of_lt (szl (by show _ * 2 < 1000000; omega))
      · refine Nat.le_of_lt (szl ?_)
        have e3 := congrArg List.length (drawI_v (i : Int) (h.ks.length : Int))
        rw [List.length_map, drawI_len, List.length_append] at e3
        show 1 + _ < 1000000
        have e4 : (List.replicate (2 : Int).toNat (rgV (i : Int) (h.ks.length : Int))).flatten.length = (List.replicate 2 (rgV (i : Int) (h.ks.length : Int))).flatten.length := rfl
        rw [e4]
        have e5 : ([V.int (i : Int)] : List V).length = 1 := rfl
        omega
      · have s5 : Sub H2 (upd (upd H4 q2 (.lst (rgV (i : Int) (h.ks.length : Int)))) q3 (.lst (List.replicate (2 : Int).toNat (rgV (i : Int) (h.ks.length : Int))).flatten)) := (s3.trans s4).trans ((Sub.new hq2).trans (Sub.new hq3))
        generalize upd (upd H4 q2 (.lst (rgV (i : Int) (h.ks.length : Int)))) q3 (.lst (List.replicate (2 : Int).toNat (rgV (i : Int) (h.ks.length : Int))).flatten) = H5 at s5 hq4
        have ev : [V.int (i : Int)] ++ (List.replicate (2 : Int).toNat (rgV (i : Int) (h.ks.length : Int))).flatten = (drawI (i : Int) (h.ks.length : Int)).map V.int := (drawI_v _ _).symm
        rw [ev]
        have f6 : Fr b l H2 (upd H5 q4 (.lst ((drawI (i : Int) (h.ks.length : Int)).map V.int))) := (Fr.sub c2.bag s5).trans (Fr.new (c2.bag.kp s5) hq4)
        have c6 := c2.fr f6
        have hd6 : Dm K (p :: M) (upd H5 q4 (.lst ((drawI (i : Int) (h.ks.length : Int)).map V.int))) (.ref q4) (.list ((drawI (i : Int) (h.ks.length : Int)).map PyData.int)) := Dm.lstNew (c2.kn.sub s5) hq4 (dps_ints _)
        refine ⟨p :: M, b, l, _, _, rfl, c6, .inl hd6, by rw [List.length_map, drawI_len]; omega, by rw [List.length_map, drawI_len]; omega, fun y d H7 f7 hdm hyd => ?_⟩
        obtain ⟨z, hz, rfl⟩ := List.mem_map.mp hdm
        cases Dm.intAt hyd
        have hzr := drawI_in (k := (i : Int)) (n := (h.ks.length : Int)) (by omega) hz
        have f17 := fT.trans (f6.trans f7)
        have h7p : H7 p = some (.lst vs) := f17.k p _ (by simp [pb]) h1p
        have c7 := c1.fr f17
        have hx7 : Dm K (p :: M) H7 x0 (kdD kd) := Dm.f hx1 f17 mb
        refine ⟨_, rfl, .inl ⟨rfl, _, SqL.of h7p⟩, args1 ?_⟩
        refine evd_tup (σ := [some (.ref b), some (.ref ax), some (.ref p), some (.int (i : Int)), some x0, some (.int z)]) (K := K) (M := p :: M) c7.kn (evds_cons (evd_ixT (evd_var (i := 4) rfl hx7) (evd_int (i := 0)) (by decide) rfl) (evds_cons (evd_ixT (evd_var (i := 4) rfl hx7) (evd_int (i := 1)) (by decide) rfl) (evds_cons (evd_var (i := 5) rfl (.int z)) evds_nil))) lt3 H7 (Sub.refl _) _ fun v8 H8 s8 h8 => ?_
        have f18 := f17.trans (Fr.sub c7.bag s8)
        have h8p := s8 _ _ h7p
        have vl := hds.len
        rw [List.length_map] at vl
        refine ⟨p, vs, _, rfl, rfl, h8p, szl (by omega), ?_⟩
        have km8 {o : HO} : Kp (p :: M) H8 (upd H8 p o) := Kp.mut List.mem_cons_self
        refine ⟨_, _, _, _, ks ++ [(kd.1, kd.2.1, z)], rfl, (f1.trans f18).mut cb.bag hp, upd_same, ?_, by rw [List.length_append, hkl] <;> rfl, ?_, ?_, Sub.sqT ((f18.kp mb).trans km8).er hsq, ((hdx.f f18 mb).k km8), (Dm.f hvx f18 mb).k km8⟩
        · rw [List.map_append]
          exact Dms.k ((hds.f f18 mb).app (DpAll.one h8)) km8
        · rw [List.map_append, hkn, take_snoc (show (h.ks.map (·.1))[i]? = some kd.1 by rw [List.getElem?_map, hkd]; rfl)]
          rfl
        · intro j k e
          rcases Nat.lt_or_ge j ks.length with z1 | z1
          · rw [List.getElem?_append_left z1] at e
            exact hkr j k e
          · rw [List.getElem?_append_right z1] at e
            have ej : j - ks.length = 0 := by
              by_cases z2 : j - ks.length = 0
              · exact z2
              · rw [List.getElem?_eq_none (by simp; omega)] at e
                cases e
            rw [ej] at e
            cases Option.some.inj e
            exact ⟨by show (j : Int) ≤ z; omega, hzr.2⟩
    · rintro σ H1 ⟨u3, u4, u5, vs, ks, rfl, f1, h1p, hds, hkl, hkn, hkr, hsq, hdx, hvx⟩
      rw [List.take_of_length_le (by rw [List.length_map]; omega)] at hkn
      have hkl' : ks.length = h.ks.length := by omega
      have c1 := cb.fr f1
      have hlist : Dm K M H1 (.ref p) (.list (ks.map kdD)) := Dm.lstOf (cb.kn.out hp) h1p hds
      have hv3 : Dm K M H1 (.ref ax) (houD h) := Dm.less hvx fun a m => List.mem_cons_of_mem _ m
      dsimp only
      have es : EvD K M (tSl (rSlA K) (tVar 1) (tPart (tC (.int 1))) tNoPart) ([some (.ref b), some (.ref ax), some (.ref p), u3, u4, u5] : L2.St) H1 (.tuple [.tuple (h.ss.map PyData.str), judD h.j]) := evd_slT (ds := [.tuple (h.ks.map kdD), .tuple (h.ss.map PyData.str), judD h.j]) c1.kn (evd_var rfl hv3) (evo_some (evd_int (K := K) (M := M))) evo_none
      refine evd_ret (K := K) (M := M) (d := houD ⟨ks, h.ss, h.j⟩) (evd_catT c1.kn (evd_tup c1.kn (evds_cons (evd_tupleOf c1.kn (evd_var (i := 2) rfl hlist)) evds_nil) lt1) es (by show 1 + 2 < 1000000; decide)) fun y H2 s2 hy => ?_
      refine q y ⟨ks, h.ss, h.j⟩ H2 (f1.trans (Fr.sub c1.bag s2)) ⟨⟨?_, ?_, ⟨?_, ?_, ?_⟩, x.ok.s0, x.ok.s1, x.ok.sn, x.ok.sd, ?_⟩, ?_, x.s4⟩ hy
      · show 0 < ks.length
        rw [hkl']
        exact x.ok.k0
      · show ks.length < 10
        omega
      · intro k hk
        have m : k.1 ∈ ks.map (·.1) := List.mem_map_of_mem hk
        rw [hkn] at m
        obtain ⟨k2, hk2, e⟩ := List.mem_map.mp m
        rw [← e]
        exact x.ok.ks.name k2 hk2
      · show (ks.map (·.1)).Nodup
        rw [hkn]
        exact x.ok.ks.nd
      · intro j k e
        have := hkr j k e
        show (j : Int) ≤ k.2.2 ∧ k.2.2 < (ks.length : Int)
        omega
      · show JudOk ks.length h.ss.length h.j
        rw [hkl']
        exact x.ok.j
      · show ks.length < 6
        omega
end
end KZ

namespace KZ
open PySem PySem.Spec PyProof.Rows L2
/-! two judges are one where their words are -/
theorem getD_set {α : Type} (l : List α) (i k : Nat) (x d : α) (hi : i < l.length) : (l.set i x).getD k d = if k = i then x else l.getD k d := by
  rw [List.getD_eq_getElem?_getD, List.getElem?_set]
  by_cases e : k = i
  · subst e
    rw [if_pos rfl, if_pos hi, if_pos rfl]
    rfl
  · rw [if_neg (fun z => e z.symm), if_neg e, ← List.getD_eq_getElem?_getD]
theorem getD_map {α : Type} (f : Nat → α) (n i : Nat) (d : α) (h : i < n) : ((List.range n).map f).getD i d = f i := by
  rw [List.getD_eq_getElem?_getD, List.getElem?_map, List.getElem?_range h]
  rfl
theorem list_ext_getD {α : Type} {l r : List α} (d : α) (hl : l.length = r.length) (h : ∀ i, i < l.length → l.getD i d = r.getD i d) : l = r := by
  refine List.ext_getElem? fun i => ?_
  by_cases hi : i < l.length
  · rw [getD_of hi d, getD_of (hl ▸ hi) d, h i hi]
  · rw [List.getElem?_eq_none (by omega), List.getElem?_eq_none (by omega)]
theorem jud_tab {n m : Nat} {j : Jud} (ok : JudOk n m j) {s : Nat} (h : s < m) : TabOk n (j.getD s []) := ok.2 _ (List.mem_of_getElem? (getD_of (by rw [ok.1]; exact h) []))
theorem tab_row {n : Nat} {t : Tab} (ok : TabOk n t) {a : Nat} (h : a < n) : RowOk n (t.getD a []) := ok.2 _ (List.mem_of_getElem? (getD_of (by rw [ok.1]; exact h) []))
theorem row_cp {n : Nat} {r : Row} (ok : RowOk n r) {h : Nat} (hh : h < n) : CpOk (r.getD h ("", "")) := by
  have e : h < r.length := by
    rw [ok.1]
    exact hh
  exact ok.2 _ (List.mem_of_getElem? (getD_of e ("", "")))
theorem jud_ext {n m : Nat} {j j' : Jud} (ok : JudOk n m j) (ok' : JudOk n m j') (h : ∀ p, PlIn n m p → wordAt j p = wordAt j' p) : j = j' := by
  refine list_ext_getD [] (by rw [ok.1, ok'.1]) fun s hs => ?_
  rw [ok.1] at hs
  have t := jud_tab ok hs
  have t' := jud_tab ok' hs
  refine list_ext_getD [] (by rw [t.1, t'.1]) fun a ha => ?_
  rw [t.1] at ha
  have r := tab_row t ha
  have r' := tab_row t' ha
  refine list_ext_getD ("", "") (by rw [r.1, r'.1]) fun k hk => ?_
  rw [r.1] at hk
  have e0 := h (s, a, k, 0) ⟨hs, ha, hk, by show 0 < 2; decide⟩
  have e1 := h (s, a, k, 1) ⟨hs, ha, hk, by show 1 < 2; decide⟩
  exact Prod.ext e0 e1
theorem wordAt_judF {n m : Nat} {f : Pl → Str} {p : Pl} (h : PlIn n m p) : wordAt (judF f n m) p = f p := by
  obtain ⟨s, a, k, d⟩ := p
  obtain ⟨h1, h2, h3, h4⟩ := h
  have h1 : s < m := h1
  have h2 : a < n := h2
  have h3 : k < n := h3
  have h4 : d < 2 := h4
  show side ((((judF f n m).getD s []).getD a []).getD k ("", "")) d = _
  unfold judF
  rw [getD_map _ _ _ _ h1]
  unfold tabF
  rw [getD_map _ _ _ _ h2]
  unfold rowF
  rw [getD_map _ _ _ _ h3]
  rcases (by omega : d = 0 ∨ d = 1) with z | z
  · rw [z]
    rfl
  · rw [z]
    rfl
theorem judF_ok {n m : Nat} {f : Pl → Str} (h : ∀ p, PlIn n m p → f p ∈ Words) : JudOk n m (judF f n m) := by
  refine ⟨by unfold judF; rw [List.length_map, List.length_range], fun t ht => ?_⟩
  obtain ⟨s, hs, rfl⟩ := List.mem_map.mp ht
  have hs := List.mem_range.mp hs
  refine ⟨by unfold tabF; rw [List.length_map, List.length_range], fun r hr => ?_⟩
  obtain ⟨a, ha, rfl⟩ := List.mem_map.mp hr
  have ha := List.mem_range.mp ha
  refine ⟨by unfold rowF; rw [List.length_map, List.length_range], fun c hc => ?_⟩
  obtain ⟨k, hk, rfl⟩ := List.mem_map.mp hc
  have hk := List.mem_range.mp hk
  exact ⟨h _ ⟨hs, ha, hk, by show 0 < 2; decide⟩, h _ ⟨hs, ha, hk, by show 1 < 2; decide⟩⟩
theorem wordAt_in {n m : Nat} {j : Jud} (ok : JudOk n m j) {p : Pl} (h : PlIn n m p) : wordAt j p ∈ Words := by
  obtain ⟨s, a, k, d⟩ := p
  obtain ⟨h1, h2, h3, h4⟩ := h
  have c := row_cp (tab_row (jud_tab ok h1) h2) h3
  unfold wordAt side
  split
  · exact c.1
  · exact c.2
/-! the words of a judge, as a dict -/
theorem find_map {n m : Nat} (f : Pl → Str) {p : Pl} : ∀ {l : List Pl}, p ∈ l → (l.map plK).Nodup → valV (l.map fun p => (plK p, V.str (f p))) (plK p) = some (.str (f p))
  | [], h, _ => nomatch h
  | q :: l, h, nd => by
    unfold valV
    rw [List.map_cons, List.find?_cons]
    by_cases e : q = p
    · subst e
      rw [show decide ((plK q, V.str (f q)).1 = plK q) = true from decide_eq_true rfl]
      rfl
    · rw [show decide ((plK q, V.str (f q)).1 = plK p) = false from decide_eq_false fun z => e (plK_inj z)]
      rw [List.map_cons] at nd
      exact find_map (n := n) (m := m) f ((List.mem_cons.mp h).resolve_left fun z => e z.symm) (List.nodup_cons.mp nd).2
theorem words_val {n m : Nat} (hn : n < 6) (hm : m < 4) (f : Pl → Str) {p : Pl} (h : PlIn n m p) : valV (wordsK n m f) (plK p) = some (.str (f p)) :=
  find_map (n := n) (m := m) f (plL_mem h) (keys_nd n hn m hm)
theorem words_len (n m : Nat) (f : Pl → Str) : (wordsK n m f).length = m * (n * (n * 2)) := by
  unfold wordsK
  rw [List.length_map, len0]
theorem putK_few {κ : Type} [DecidableEq κ] (kvs : List (κ × V)) (k : κ) (v : V) : (putK kvs k v).length ≤ kvs.length + 1 := by
  unfold putK
  split <;> simp
theorem bootList : bootBuiltins "list" = some (.type "list") := by decide +kernel
section
variable {P : Program} {w : World} {K : PySem.W.Frag} {mg : Str → Option Value} {base : Heap}
abbrev sTamed : Stmt := topS 32
theorem scTamed : FnScope ["bag", "house", "words", "place"] ["bag", "house"] (defScope sTamed) := ⟨rfl, rfl, rfl, by decide +kernel, rfl, by decide +kernel, by decide +kernel⟩
theorem ok_tamed {f fS fW fWs : Addr} {fd fdS fdW fdWs : FuncData} (F : Fun K "_law_tamed" "_law_tamed" sTamed f fd) (T : Txt mg) (CS : Cal P w K mg base "_law_some" 2 ["bag", "things"] (spSome K) fS fdS) (CW : Cal P w K mg base "_law_words" 2 ["house"] (spWords K) fW fdW)
    (CWs : Cal P w K mg base "_law_with_words" 1 ["house", "places"] (spWwords K) fWs fdWs) : FnOk P w K mg base CX0 3 f fd ["bag", "house"] (spHH K) := by
  refine F.ok scTamed (fun vs H Q E h => ?_) (fun cdv A outer s H vs Q E hr h => ?_)
  · obtain ⟨_, _, _, _, _, rfl, _⟩ := h
    rfl
  · obtain ⟨M, b, l, v, h, rfl, cb, hv, x, q⟩ := h
    have hr1 : Room 1 _ := hr.mono (by decide)
    refine ⟨_, pss_cons (ps_set (i := 2) scTamed.nd rfl (Or.inl rfl) (pcl CW hr (pa_cons (pv 1) pa_nil)))
      (pss_cons (ps_for PassesOwn.never rfl (pi_list (pe_callTy (call_list_dT rfl) (by rfl) T.list bootList (pa_cons (pv 2) pa_nil))) (pg_name (i := 3) scTamed.nd rfl (Or.inl rfl))
        (pss_one (ps_dput (hu_of hr) (pv 2) (pv 3) (pcl CS hr (pa_cons (pv 0) (pa_cons (pe_lst (pa_cons pe_str (pa_cons pe_str (pa_cons pe_str (pa_cons (pe_dget (hu_of hr) (pv 2) (pv 3) (fun _ _ => rfl)) pa_nil))))) pa_nil))) rfl)))
      (pss_one (ps_ret (pcl CWs hr1 (pa_cons (pv 1) (pa_cons (pv 2) pa_nil)))))), ?_⟩
    refine sset_of ⟨_, rfl, M, h, v, rfl, cb.kn, hv, x.ok, x.k6, x.s4, fun d H1 s1 hd0 hd1 => ?_⟩
    have db : d ≠ b := ne_new cb.bag.at hd0
    have f1 : Fr b l H H1 := Fr.sub cb.bag s1
    refine sfor ⟨_, rfl, d, _, rfl, .inl hd1, fun p bs hp hkeys => ⟨p, rfl, ⟨_, SqL.of upd_same⟩, ?_⟩⟩
    have f2 : Fr b l H (upd H1 p (.lst (bs.map V.ref))) := f1.trans (Fr.new f1.bag hp)
    have gp : upd H1 p (.lst (bs.map V.ref)) p = some (.lst (bs.map V.ref)) := upd_same
    have hd2 : upd H1 p (.lst (bs.map V.ref)) d = some (.dT (wordsK h.ks.length h.ss.length (wordAt h.j))) := Sub.new hp _ _ hd1
    have keys : ∀ (i : Nat) (z : Addr), bs[i]? = some z → ∃ pl, PlIn h.ks.length h.ss.length pl ∧ upd H1 p (.lst (bs.map V.ref)) z = some (.tup ((plK pl).map kV)) := fun i z e => by
      have hl := paired_len hkeys
      have hi := (List.getElem?_eq_some_iff.mp e).1
      obtain ⟨z2, e2, g⟩ := paired_at hkeys (List.getElem?_eq_getElem (show i < (wordsK h.ks.length h.ss.length (wordAt h.j)).length by omega))
      rw [e] at e2
      cases Option.some.inj e2
      have m := List.getElem_mem (show i < (wordsK h.ks.length h.ss.length (wordAt h.j)).length by omega)
      generalize (wordsK h.ks.length h.ss.length (wordAt h.j))[i]'(by omega) = kv at m g
      unfold wordsK at m
      obtain ⟨pl, hpl, rfl⟩ := List.mem_map.mp m
      exact ⟨pl, mem_plL hpl, Sub.new hp _ _ g⟩
    have few : (wordsK h.ks.length h.ss.length (wordAt h.j)).length ≤ 200 ∧ bs.length ≤ 200 := by
      have hl := paired_len hkeys
      have k6 := x.k6
      have s4 := x.s4
      rw [words_len] at hl ⊢
      have := Nat.mul_le_mul (show h.ss.length ≤ 3 by omega) (Nat.mul_le_mul (show h.ks.length ≤ 5 by omega) (Nat.mul_le_mul (show h.ks.length ≤ 5 by omega) (Nat.le_refl 2)))
      omega
    generalize upd H1 p (.lst (bs.map V.ref)) = H2 at f2 gp hd2 keys
    have pd : p ≠ d := ne_of gp hd2 (by intro y; cases y)
    have pb : p ≠ b := ne_new f1.bag.at hp
    refine for_list (K := K) (a := p) (xs := bs.map V.ref) (fun i σ H' => ∃ (u3 : Option V) (kvs : List (List L2.Key × V)) (g : Pl → Str), σ = [some (.ref b), some v, some (.ref d), u3] ∧ Fr b l H H' ∧ Kp [b, d] H2 H' ∧ H' d = some (.dT kvs) ∧ kvs.length ≤ 200 + i ∧ ∀ q, PlIn h.ks.length h.ss.length q → valV kvs (plK q) = some (.str (g q)) ∧ g q ∈ Words)
      ⟨none, _, wordAt h.j, rfl, f2, Kp.refl _ _, hd2, by omega, fun q hq => ⟨words_val x.k6 x.s4 _ hq, wordAt_in x.ok.j hq⟩⟩ (fun i σ H' _ ⟨_, _, _, _, _, kp, _⟩ => SqL.of (kp p _ (by simp [pd, pb]) gp)) ?_ ?_
    · rintro i z σ H3 hi ⟨u3, kvs, g, rfl, f3, kp3, hd3, hk3, hg⟩
      rw [List.getElem?_map] at hi
      obtain ⟨z, hz, rfl⟩ := Option.map_eq_some_iff.mp hi
      obtain ⟨pl, hin, hz2⟩ := keys i z hz
      have hil : i < bs.length := (List.getElem?_eq_some_iff.mp hz).1
      have zb : z ≠ b := by
        obtain ⟨_, _, _, _, e, _⟩ := f2.bag
        exact ne_of hz2 e (by intro y; cases y)
      have zd : z ≠ d := ne_of hz2 hd2 (by intro y; cases y)
      have hz3 := kp3 z _ (by simp [zb, zd]) hz2
      have c3 := cb.fr f3
      refine gname_of ⟨_, rfl, _, rfl, _, rfl, d, .str (g pl), rfl, by rw [← (hg pl hin).1]; exact DGet.t hd3 hz3, by show 4 ≤ sizeLine; decide, fun q4 hq4 => ?_⟩
      have f4 : Fr b l H3 (upd H3 q4 (.lst [.str "wait", .str "wait", .str "wait", .str (g pl)])) := Fr.new c3.bag hq4
      have l4 : Dm K M (upd H3 q4 (.lst [.str "wait", .str "wait", .str "wait", .str (g pl)])) (.ref q4) (.list [.str "wait", .str "wait", .str "wait", .str (g pl)]) := Dm.lstNew c3.kn hq4 (.cons (.str _) (.cons (.str _) (.cons (.str _) (.cons (.str _) .nil))))
      refine ⟨M, b, l, _, _, rfl, c3.fr f4, .inl l4, by show 0 < 4; decide, by show 4 < 1000000; decide, fun y dd H5 f5 hdm hy => ?_⟩
      have hw : ∃ w2, dd = .str w2 ∧ w2 ∈ Words := by
        simp only [List.mem_cons, List.not_mem_nil, or_false] at hdm
        rcases hdm with e | e | e | e
        · exact ⟨_, e, by unfold Words; simp⟩
        · exact ⟨_, e, by unfold Words; simp⟩
        · exact ⟨_, e, by unfold Words; simp⟩
        · exact ⟨_, e, (hg pl hin).2⟩
      obtain ⟨w2, rfl, hw2⟩ := hw
      cases Dm.strAt hy
      have f35 := f4.trans f5
      have hd5 := f35.k d _ (by simp [db]) hd3
      have hz5 := f35.k z _ (by simp [zb]) hz3
      refine ⟨_, rfl, _, rfl, d, _, rfl, DPut.t hd5 hz5 (szl (by omega)), ?_⟩
      have hl := putK_few kvs (plK pl) (.str w2)
      refine ⟨_, _, fun q => if q = pl then w2 else g q, rfl, (f3.trans f35).mut cb.bag hd0, (kp3.trans (f35.k.less (by simp))).trans (Kp.mut (by simp)), upd_same, by omega, fun q hq => ?_⟩
      dsimp only
      rw [valV_put]
      by_cases e : q = pl
      · subst e
        rw [if_pos rfl, if_pos rfl]
        exact ⟨rfl, hw2⟩
      · rw [if_neg fun z => e (plK_inj z), if_neg e]
        exact hg q hq
    · rintro σ H3 ⟨u3, kvs, g, rfl, f3, kp3, hd3, hk3, hg⟩
      have c3 := cb.fr f3
      dsimp only
      refine ret_of ⟨_, rfl, _, rfl, M, h, g, v, d, kvs, rfl, c3.kn, Dm.f hv f3 cb.mem, x.k6, x.s4, hd3, fun q hq => (hg q hq).1, fun y H4 s4 hy => ?_⟩
      exact q y ⟨h.ks, h.ss, judF g h.ks.length h.ss.length⟩ H4 (f3.trans (Fr.sub c3.bag s4)) ⟨⟨x.ok.k0, x.ok.k1, x.ok.ks, x.ok.s0, x.ok.s1, x.ok.sn, x.ok.sd, judF_ok fun q hq => (hg q hq).2⟩, x.k6, x.s4⟩ hy
end
end KZ

namespace KZ
open PySem PySem.Spec PyProof.Rows L2
theorem piled_is : ∀ ts : List Str, piled ts = (ts.map (·.length)).sum + 2 * ts.length
  | [] => rfl
  | t :: ts => by
    rw [piled_cons, piled_is ts, List.map_cons, List.sum_cons, List.length_cons]
    omega
theorem good_lst {ds : List PyData} {n k : Nat} (h : ∀ d ∈ ds, Good d n k) : Good (.list ds) (ds.length * (n + 2) + 4) (k + 1) := by
  obtain ⟨h1, h2, h3, h4, h5⟩ := good_all h
  refine ⟨by simp only [PyData.canLay0, h1], by simp only [PyData.showable, h2], by simp only [PyData.hasDict, h3], by simp only [PyData.depth]; omega, ?_⟩
  simp only [PyData.shown]
  have a := listText_len_le (PyData.shownAll ds)
  have b := piled_is (PyData.shownAll ds)
  omega
theorem good_shaped {d : PyData} {n k : Nat} (g : Good d n k) (hk : k ≤ 60) : SeqAt.shaped d = true := by
  have := g.dp
  unfold SeqAt.shaped
  rw [g.lay, decide_eq_true (by omega)]
  rfl
section
variable {X : Cx}
def rReprL (K : PySem.W.Frag) : List V → Hp → VK → Prop := fun xs H Q => ∃ (v : V) (d : PyData) (n k : Nat), xs = [v] ∧ Dp K H v d ∧ (∃ a, v = .ref a) ∧ Good d n k ∧ n < 1000000 ∧ k ≤ 60 ∧ Q (.str (PyData.shown d)) H
theorem call_reprL (hg : X.A.guards = some []) (hu : X.A.units + 64 < cLine) : CallR X (.builtin "repr") (rReprL X.K) := by
  intro pins s σ H xs us Q I r q
  obtain ⟨v, d, n, k, rfl, hd, ⟨a, rfl⟩, g, hn, hk, q⟩ := q
  obtain ⟨u, rfl, rx⟩ := vals1 r
  obtain ⟨as, rr⟩ := Dp.reads I _ _ u hd rx
  cases rx
  have := g.dp
  exact repr_of_reads' rr g.sh (PyData.noDict_hsm g.nd) hg (by omega) (fun _ _ e => e) (fun h' u tk hk' => ⟨.str _, H, I.kept (t' := tk) hk', ⟨_, rfl⟩, q⟩) (Nat.le_of_lt (szl (Nat.lt_of_le_of_lt g.len hn)))
end
def spAlikeL (K : PySem.W.Frag) : Sp := fun vs H Q _ => ∃ (v u : V) (d : PyData) (n k : Nat), vs = [v, u] ∧ Dp K H v d ∧ Dp K H u d ∧ (∃ a, v = .ref a) ∧ (∃ a, u = .ref a) ∧ Good d n k ∧ n < 1000000 ∧ k ≤ 60 ∧ Q (.bl true) H
section
variable {P : Program} {w : World} {K : PySem.W.Frag} {mg : Str → Option Value} {base : Heap}
theorem ok_alikeL {f : Addr} {fd : FuncData} (F : Fun K "_law_alike" "_law_alike" sAlike f fd) (T : Txt mg) : FnG P w K mg base 1 f fd ["found", "due"] (spAlikeL K) := by
  refine fun_okG F scAlike (fun vs H Q E h => ?_) (fun cdv A outer s H vs Q E gs hr h => ?_)
  · obtain ⟨v, u, d, n, k, rfl, _⟩ := h
    rfl
  · obtain ⟨v, u, d, n, k, rfl, hv, hu, ra, rb, g, hn, hk, q⟩ := h
    refine ⟨_, pss_one (ps_ret (pe_and (pe_cmpR (op_eqD hr.units) (pv 0) (pv 1) (nomark _)) (pe_one (pe_cmpR op_eq (pe_callB (call_reprL gs hr.units) (by rfl) T.repr PyProof.Rows.boot_repr (pa_cons (pv 0) pa_nil)) (pe_callB (call_reprL gs hr.units) (by rfl) T.repr PyProof.Rows.boot_repr (pa_cons (pv 1) pa_nil)) (nomark _))))), ?_⟩
    have sh := good_shaped g hk
    refine ⟨_, rfl, _, rfl, _, _, hv, hu, sh, sh, _, rfl, ?_⟩
    rw [SeqAt.eqv_refl _ g.lay]
    refine iteT ?_
    refine ⟨_, rfl, v, d, n, k, rfl, hv, ra, g, hn, hk, _, rfl, u, d, n, k, rfl, hu, rb, g, hn, hk, rfl, ?_⟩
    rw [decide_eq_true rfl]
    exact q
end
section
variable {K : PySem.W.Frag} {M : List Addr} {σ : L2.St} {H H' : Hp} {ta tb te t1 t2 : TE} {tr : TA} {ds es : List PyData} {D : Ends} {us ut : TS}
theorem alikeL_if {n k : Nat} (h1 : EvD K M t1 σ H (.list ds)) (h2 : EvD K M t2 σ H (.list ds)) (g : Good (.list ds) n k) (hn : n < 1000000) (hk : k ≤ 60) (q : ∀ H', Sub H H' → ut D σ H') :
    tIfS (tNot (tB (tCall (spAlikeL K) [] E0 (tCons t1 (tCons t2 tNil))))) us ut D σ H :=
  h1 H (Sub.refl _) _ fun v H1 s1 hv => h2 H1 s1 _ fun u H2 s2 hu => by
    have hv2 := Dm.s hv s2
    obtain ⟨a, xs, e, _⟩ := hv2.lstAt
    obtain ⟨b, ys, e', _⟩ := hu.lstAt
    exact ⟨v, u, .list ds, n, k, rfl, hv2.all, hu.all, ⟨a, e⟩, ⟨b, e'⟩, g, hn, hk, true, rfl, q H2 (s1.trans s2)⟩
theorem eqv_nil (ds : List PyData) : PyData.eqv (.list ds) (.list []) = ds.isEmpty := by
  cases ds <;> simp [PyData.eqv, PyData.eqvAll]
theorem evd_eqNil {n k : Nat} (h1 : EvD K M t1 σ H (.list ds)) (h2 : EvD K M t2 σ H (.list [])) (g : Good (.list ds) n k) (hk : k ≤ 60) : EvD K M (tOp (rEqD K) t1 t2) σ H (.bool ds.isEmpty) := fun H1 s Q q =>
  h1 H1 s _ fun v H2 s2 hv => h2 H2 (s.trans s2) _ fun u H3 s3 hu => by
    refine ⟨_, _, (Dm.s hv s3).all, hu.all, good_shaped g hk, by decide, ?_⟩
    rw [eqv_nil]
    exact q _ H3 (s2.trans s3) (.bl _)
/-- [g(i) for i in range(m) if f(i)] -/
theorem evd_lcRF {tt : TT} {vs : List Nat} {j : Nat} {m : Int} (f : Nat → Bool) (g : Nat → PyData) (n : Kn M H) (h : EvDs K M tr σ H [.int m]) (h0 : 0 ≤ m) (hz : m < 100000) (hw : ∀ x, wipe ((wipe σ vs).set j (some x)) vs = wipe σ vs)
    (ht : ∀ (Dl : Addr), H Dl = none → ∀ (i : Nat) (H1 : Hp), Sub H H1 → Kn (Dl :: M) H1 → (i : Int) < m → EvB tt ((wipe σ vs).set j (some (.int (i : Int)))) H1 (f i))
    (he : ∀ (Dl : Addr), H Dl = none → ∀ (i : Nat) (H1 : Hp), Sub H H1 → Kn (Dl :: M) H1 → (i : Int) < m → EvD K (Dl :: M) tb ((wipe σ vs).set j (some (.int (i : Int)))) H1 (g i)) : EvNL K M (tLc (iRng1 tr) (gName j) tt tb vs) σ H (((List.range m.toNat).filter f).map g) := fun H1 s Q q =>
  h H1 s _ fun us H2 s2 hv => by
    cases hv with
    | cons hv1 hv2 =>
    cases hv2
    cases hv1
    have s02 := s.trans s2
    refine ⟨m, rfl, by omega, by omega, fun Dl hD => ?_⟩
    have h0D : H Dl = none := s02.free hD
    refine lc_range (lo := 0) (n := m.toNat) (fun i H' => Sub H2 H' ∧ ∃ acc, H' Dl = some (.lst acc) ∧ Dms K (Dl :: M) H' acc (((List.range i).filter f).map g))
      ⟨Sub.new hD, [], upd_same, .nil⟩ (fun i H' hi p => ?_) (fun H' p => ?_)
    · obtain ⟨sp, acc, p1, p2⟩ := p
      rw [show (0 : Int) + (i : Nat) = (i : Int) by omega]
      refine ⟨hw _, ?_⟩
      refine ht Dl h0D i H' (s02.trans sp) ((n.sub (s02.trans sp)).more ⟨_, p1⟩) (by omega) H' (Sub.refl _) _ fun H3 s3 => ?_
      have p13 := s3 _ _ p1
      rw [List.range_succ, List.filter_append, List.map_append, List.filter_cons]
      by_cases ef : f i = true
      · rw [if_pos ef, if_pos ef]
        refine he Dl h0D i H3 (s02.trans (sp.trans s3)) ((n.sub (s02.trans (sp.trans s3))).more ⟨_, p13⟩) (by omega) H3 (Sub.refl _) _ fun y H4 s4 hy => ⟨acc, s4 _ _ p13, ?_, ?_⟩
        · have q1 := p2.len
          have q2 := List.length_filter_le f (List.range i)
          rw [List.length_map] at q1
          rw [List.length_range] at q2
          exact szl (by omega)
        · have km : Kp (Dl :: M) H4 (upd H4 Dl (.lst (acc ++ [y]))) := Kp.mut List.mem_cons_self
          exact ⟨((sp.trans s3).trans s4).mut hD, _, upd_same, Dms.k ((Dms.s p2 (s3.trans s4)).app (DpAll.one hy)) km⟩
      · rw [if_neg ef, if_neg ef]
        exact ⟨sp.trans s3, acc, p13, by rw [List.filter_nil, List.map_nil, List.append_nil]; exact Dms.s p2 s3⟩
    · obtain ⟨sp, acc, p1, p2⟩ := p
      exact q Dl acc H' (s2.trans sp) (s2.free hD) p1 p2
/-- [1 for place in words if words[place] == x], words a dict of places -/
theorem evd_ones {vs : List Nat} {i j n m : Nat} {d : Addr} {f : Pl → Str} {x : Str} (hn : n < 6) (hm : m < 4) (hvd : σ[i]? = some (some (.ref d))) (hvj : ∀ z, ((wipe σ vs).set j (some z))[j]? = some (some z)) (hvi : ∀ z, ((wipe σ vs).set j (some z))[i]? = some (some (.ref d)))
    (hw : ∀ z, wipe ((wipe σ vs).set j (some z)) vs = wipe σ vs) {Q : VK} (hd : H d = some (.dT (wordsK n m f)))
    (q : ∀ p xs H', Sub H H' → H p = none → H' p = some (.lst xs) → Dms K (p :: M) H' xs (((plL n m).filter fun p => decide (f p = x)).map fun _ => PyData.int 1) → Q (.ref p) H') :
    tLockE (tLc (iKeys (tVar i)) (gName j) (tTest (tOp rEq (tDGet (tVar i) (tVar j)) (tC (.str x)))) (tC (.int 1)) vs) σ H Q := by
  refine ⟨d, _, hd, trivial, fun od => ⟨_, hvd, d, od, rfl, .inr ⟨_, upd_same, fun Dl hD => ?_⟩⟩⟩
  have nd : Dl ≠ d := fun e => by
    rw [e, upd_same] at hD
    cases hD
  have hD0 : H Dl = none := by
    rw [upd_ne nd] at hD
    exact hD
  have len0' : (wordsK n m f).length ≤ 200 := by
    rw [words_len]
    have := Nat.mul_le_mul (show m ≤ 3 by omega) (Nat.mul_le_mul (show n ≤ 5 by omega) (Nat.mul_le_mul (show n ≤ 5 by omega) (Nat.le_refl 2)))
    omega
  have knd : ∃ o, H d = some o := ⟨_, hd⟩
  let Pv : Nat → Hp → Prop := fun i H' => H' d = some (.frz od (.dT (wordsK n m f))) ∧ Sub H (upd H' d (.dT (wordsK n m f))) ∧ ∃ acc, H' Dl = some (.lst acc) ∧ acc = List.replicate (((plL n m).take i).filter fun p => decide (f p = x)).length (V.int 1)
  refine ⟨fun k mm H' => mm = (wordsK n m f).length - k ∧ k ≤ (wordsK n m f).length ∧ Pv k H', ⟨_, rfl, Nat.zero_le _, ?_⟩, ?_⟩
  · refine ⟨by rw [upd_ne nd.symm]; exact upd_same, fun a o e => ?_, [], upd_same, rfl⟩
    by_cases z : a = d
    · rw [z, upd_same]
      rw [z, hd] at e
      exact e
    · rw [upd_ne z, upd_ne (ne_of_none e hD0), upd_ne z]
      exact e
  · rintro k mm H2 ⟨rfl, hk, p1, p2, acc, p3, p4⟩
    by_cases lt : k < (wordsK n m f).length
    · refine Or.inr ⟨⟨p1, lt⟩, Pv (k + 1), fun H' p' => ⟨(wordsK n m f).length - (k + 1), by omega, rfl, lt, p'⟩, fun z H3 y => ?_⟩
      obtain ⟨rfl, kk, v, q1, ekv, rfl, hq1⟩ := y
      have ekv2 : ∃ pl, (plL n m)[k]? = some pl ∧ kk = plK pl ∧ v = .str (f pl) := by
        unfold wordsK at ekv
        rw [List.getElem?_map] at ekv
        obtain ⟨pl, e1, e2⟩ := Option.map_eq_some_iff.mp ekv
        cases e2
        exact ⟨pl, e1, rfl, rfl⟩
      obtain ⟨pl, epl, rfl, rfl⟩ := ekv2
      have hin := mem_plL (List.mem_of_getElem? epl)
      refine gname_of ⟨hw _, _, hvi _, _, hvj _, d, .str (f pl), rfl, ?_, rfl, _, rfl, ?_⟩
      · rw [← words_val hn hm f hin]
        exact .inr ⟨_, plK pl, q1, .inr ⟨od, p1⟩, rfl, hq1, rfl⟩
      · have ed : decide (V.str (f pl) = V.str x) = decide (f pl = x) := by
          by_cases z : f pl = x
          · rw [decide_eq_true z, decide_eq_true (by rw [z])]
          · rw [decide_eq_false z, decide_eq_false fun y => z (by cases y; rfl)]
        rw [ed]
        dsimp only
        by_cases ef : decide (f pl = x) = true
        · rw [if_pos ef]
          have ll := congrArg List.length p4
          rw [List.length_replicate] at ll
          have l2 := List.length_filter_le (fun p => decide (f p = x)) ((plL n m).take k)
          rw [List.length_take] at l2
          refine ⟨acc, p3, szl (by omega), by rw [upd_ne nd.symm]; exact p1, fun a o e => ?_, _, upd_same, ?_⟩
          · by_cases z : a = d
            · rw [z, upd_same]
              rw [z, hd] at e
              exact e
            · have := p2 a o e
              rw [upd_ne z] at this
              rw [upd_ne z, upd_ne (ne_of_none e hD0)]
              exact this
          · rw [take_snoc epl, List.filter_append, List.length_append, List.filter_cons, if_pos ef, p4]
            exact (List.replicate_append_replicate (n := _) (m := 1) (a := V.int 1)).symm ▸ rfl
        · rw [if_neg ef]
          refine ⟨p1, p2, acc, p3, ?_⟩
          rw [take_snoc epl, List.filter_append, List.filter_cons, if_neg ef, List.filter_nil, List.append_nil]
          exact p4
    · refine Or.inl ⟨⟨p1, by omega⟩, p1, ?_⟩
      have e : k = (plL n m).length := by
        rw [words_len] at lt hk
        rw [len0]
        omega
      rw [e, List.take_length] at p4
      refine q Dl acc _ p2 hD0 (by rw [upd_ne nd]; exact p3) ?_
      rw [p4]
      generalize (plL n m).filter (fun p => decide (f p = x)) = l
      induction l with
      | nil => exact .nil
      | cons a l ih => exact .cons (.int 1) ih
end
theorem all_not {α : Type} (l : List α) (f : α → Bool) : (l.filter fun x => !f x).isEmpty = (l.map f).all id := by
  induction l with
  | nil => rfl
  | cons a l ih =>
    rw [List.filter_cons, List.map_cons, List.all_cons]
    cases h : f a with
    | true => simpa using ih
    | false => simp
end KZ

namespace KZ
open PySem PySem.Spec PyProof.Rows L2
theorem hou_good {h : Hou} (ok : HouOk h) : Good (houD h) 200000 5 := by
  have k1 := ok.k1
  have s1 := ok.s1
  refine good_hou (n := h.ks.length) (m := h.ss.length) (fun k hk => ?_) ok.k1 ok.sn ok.s1 (by omega) (by omega) ok.j
  obtain ⟨i, hi⟩ := List.getElem?_of_mem hk
  have r := ok.ks.rise i k hi
  exact ⟨ok.ks.name k hk, by omega, by omega⟩
theorem kd_good {h : Hou} (ok : HouOk h) {k : Kd} (hk : k ∈ h.ks) : Good (kdD k) 70 1 := by
  have k1 := ok.k1
  obtain ⟨i, hi⟩ := List.getElem?_of_mem hk
  have r := ok.ks.rise i k hi
  exact good_kd (ok.ks.name k hk) (by omega) (by omega)
theorem ints_good {l : List Nat} (h : ∀ x ∈ l, x < 16) : ∀ d ∈ intD l, Good d 20 0 := by
  intro d hd
  obtain ⟨x, hx, rfl⟩ := List.mem_map.mp hd
  have := h x hx
  exact good_int (by omega) (by omega)
section
variable {K : PySem.W.Frag} {M : List Addr} {σ : L2.St} {H : Hp}
theorem evd_lenV {te : TE} {ds : List PyData} (h : EvD K M te σ H (.tuple ds)) : EvD K M (tCB (fun xs H Q => ∃ p ys, xs = [V.ref p] ∧ (SqL K H p ys ∨ SqT K H p ys) ∧ Q (.int ys.length) H) (tCons te tNil)) σ H (.int ds.length) := fun H1 s Q q =>
  h H1 s _ fun v H2 s2 hv => by
    obtain ⟨b, ys, rfl, hs2, ha2⟩ := hv.tupAt
    refine ⟨b, ys, rfl, .inr hs2, ?_⟩
    rw [ha2.len]
    exact q _ H2 s2 (.int _)
end
def spLaw (K : PySem.W.Frag) : Sp := fun vs H Q _ => ∃ (a : Addr) (ns : List Int), vs = [.ref a] ∧ SqL K H a (ns.map V.int) ∧ ns.length ≤ 63 ∧ ∀ H', Q (.bl true) H'
theorem sifs {c : TT} {t u w : TS} {D : Ends} {σ : L2.St} {H : Hp} (h : tIfS c t u { D with nx := w D } σ H) : tSeq (tIfS c t u) w D σ H := h
section
variable {P : Program} {w : World} {K : PySem.W.Frag} {mg : Str → Option Value} {base : Heap}
abbrev sLaw : Stmt := topS 33
abbrev NL : List Str := ["script", "bag", "turn", "house", "one", "said", "words", "kinds", "meek", "place", "k", "due", "kind"]
theorem scLaw : FnScope NL ["script"] (defScope sLaw) := ⟨rfl, rfl, rfl, by decide +kernel, rfl, by decide +kernel, by decide +kernel⟩
theorem ok_law {f fB fH fR fT fO fW fM fKe fLa fRa fLL fLR fA : Addr} {fd fdB fdH fdR fdT fdO fdW fdM fdKe fdLa fdRa fdLL fdLR fdA : FuncData} (F : Fun K "law" "law" sLaw f fd) (T : Txt mg)
    (CB : Cal P w K mg base "_law_bag" 1 ["script"] (spBag K) fB fdB) (CH : Cal P w K mg base "_law_house" 7 ["bag", "kinds"] (spHouse K) fH fdH) (CR : Cal P w K mg base "_law_risen" 3 ["bag", "house"] (spHH K) fR fdR)
    (CT : Cal P w K mg base "_law_tamed" 3 ["bag", "house"] (spHH K) fT fdT) (CO : Cal P w K mg base "_law_house_of" 6 ["bag", "kinds", "sorts", "style"] (spHo K true) fO fdO) (CW : Cal P w K mg base "_law_words" 2 ["house"] (spWords K) fW fdW)
    (CM : Cal P w K mg base "is_meek" 2 ["house"] (spPure K rMeek) fM fdM) (CKe : Cal P w K mg base "keeps_all" 1 ["house"] (spPure K rKeeps) fKe fdKe) (CLa : Cal P w K mg base "last_one" 2 ["house", "kind"] (spPure K rLast) fLa fdLa)
    (CRa : Cal P w K mg base "raised_kinds" 3 ["house", "kind"] (spPure K rRaised) fRa fdRa) (CLL : Cal P w K mg base "_law_last" 1 ["house", "kind"] (spPure K rLast) fLL fdLL) (CLR : Cal P w K mg base "_law_raised" 3 ["house", "kind"] (spPure K rRaised) fLR fdLR)
    (CA : CalG P w K mg base "_law_alike" 1 ["found", "due"] (spAlikeL K) fA fdA) : FnG P w K mg base 8 f fd ["script"] (spLaw K) := by
  refine fun_okG F scLaw (fun vs H Q E h => ?_) (fun cdv A outer s H vs Q E gs hr h => ?_)
  · obtain ⟨a, ns, rfl, _⟩ := h
    rfl
  · obtain ⟨a, ns, rfl, hS, hl, k⟩ := h
    have hr1 : Room 1 _ := hr.mono (by decide)
    have hr2 : Room 2 _ := hr.mono (by decide)
    have hr3 : Room 3 _ := hr.mono (by decide)
    have hr6 : Room 6 _ := hr.mono (by decide)
    refine ⟨_, pss_cons (ps_set (i := 1) scLaw.nd rfl (Or.inl rfl) (pcl CB hr1 (pa_cons (pv 0) pa_nil)))
      (pss_cons (ps_for PassesOwn.never rfl (pi_range1 rfl T.range (pa_cons pe_int pa_nil)) (pg_name (i := 2) scLaw.nd rfl (Or.inl rfl))
        (pss_cons (ps_set (i := 3) scLaw.nd rfl (Or.inl rfl) (pcl CR hr3 (pa_cons (pv 1) (pa_cons (pcl CH hr (pa_cons (pv 1) (pa_cons pe_int pa_nil))) pa_nil))))
        (pss_one (ps_for PassesOwn.never rfl (pi_tup (pe_tup (pa_cons (pv 3) (pa_cons (pcl CT hr3 (pa_cons (pv 1) (pa_cons (pv 3) pa_nil))) (pa_cons (pcl CO hr6 (pa_cons (pv 1) (pa_cons pe_int (pa_cons pe_int (pa_cons pe_str pa_nil))))) pa_nil))))) (pg_name (i := 4) scLaw.nd rfl (Or.inl rfl))
          (pss_cons (ps_set (i := 5) scLaw.nd rfl (Or.inl rfl) (pe_callB (call_reprL gs hr.units) (by rfl) T.repr PyProof.Rows.boot_repr (pa_cons (pv 4) pa_nil)))
          (pss_cons (ps_asg (pe_tup (pa_cons (pcl CW hr2 (pa_cons (pv 4) pa_nil)) (pa_cons (pe_ix ix_tup (pv 4) pe_int (fun _ _ => rfl)) pa_nil))) (pg_tup rfl (pgs_cons (pg_name (i := 6) scLaw.nd rfl (Or.inr rfl)) (pgs_cons (pg_name (i := 7) scLaw.nd rfl (Or.inr rfl)) pgs_nil))))
          (pss_cons (ps_set (i := 8) scLaw.nd rfl (Or.inl rfl) (pe_cmpR (op_eqD hr.units) (pe_lock (pe_lc (own := [("place", 9)]) (g := gName 9) (tt := tTest (tOp rEq (tDGet (tVar 6) (tVar 9)) (tC (.str "oust")))) rfl scLaw.nd (pi_keys (pv 6)) (blkOk_by (N := NL) (sc := defScope sLaw) (by decide +kernel)) (fun _ _ _ _ _ => pg_name (i := 9) scLaw.nd rfl (Or.inl rfl))
              (fun _ _ _ _ _ => pts_one (pt_cmpR op_eq (pe_dget (hu_of hr) (pv 6) (pv 9) (fun _ _ => rfl)) pe_str (nomark _))) (fun _ _ _ _ _ => pe_int))) (pe_lst pa_nil) (nomark _)))
          (pss_cons (ps_set (i := 8) scLaw.nd rfl (Or.inl rfl) (pe_and (pv 8) (pe_one (pe_cmpR (op_eqD hr.units) (pe_lc (own := [("k", 10)]) (g := gName 10) (tt := tTest (tOp rNe (tOp (rIxT K) (tOp (rIxT K) (tVar 7) (tVar 10)) (tC (.int 2))) (tVar 10))) rfl scLaw.nd (pi_range1 rfl T.range (pa_cons (pe_callB call_len_seq (by rfl) T.len PySem.boot_len (pa_cons (pv 7) pa_nil)) pa_nil)) (blkOk_by (N := NL) (sc := defScope sLaw) (by decide +kernel)) (fun _ _ _ _ _ => pg_name (i := 10) scLaw.nd rfl (Or.inl rfl))
              (fun _ _ _ _ _ => pts_one (pt_cmpR op_ne (pe_ix ix_tup (pe_ix ix_tup (pv 7) (pv 10) (fun _ _ => rfl)) pe_int (fun _ _ => rfl)) (pv 10) (nomark _))) (fun _ _ _ _ _ => pv 10)) (pe_lst pa_nil) (nomark _)))))
          (pss_cons (ps_set (i := 11) scLaw.nd rfl (Or.inl rfl) (pe_lst (pa_cons (pv 8) (pa_cons (pe_cmpR (op_eqD hr.units) (pe_lc (own := [("kind", 12)]) (g := gName 12) (tt := tNot (tB (tOp (rIxT K) (tVar 12) (tC (.int 1))))) rfl scLaw.nd (pi_tup (pv 7)) (blkOk_by (N := NL) (sc := defScope sLaw) (by decide +kernel)) (fun _ _ _ _ _ => pg_name (i := 12) scLaw.nd rfl (Or.inl rfl))
              (fun _ _ _ _ _ => pts_one (pt_not (pt_val (pe_ix ix_tup (pv 12) pe_int (fun _ _ => rfl))))) (fun _ _ _ _ _ => pv 12)) (pe_lst pa_nil) (nomark _)) pa_nil))))
          (pss_cons (ps_if (pt_not (pt_val (pclG CA gs hr1 (pa_cons (pe_lst (pa_cons (pcl CM hr2 (pa_cons (pv 4) pa_nil)) (pa_cons (pcl CKe hr1 (pa_cons (pv 4) pa_nil)) pa_nil))) (pa_cons (pv 11) pa_nil))))) (pss_one (ps_ret pe_bl)) pss_nil)
          (pss_cons (ps_for PassesOwn.never rfl (pi_range1 rfl T.range (pa_cons (pe_callB call_len_seq (by rfl) T.len PySem.boot_len (pa_cons (pv 7) pa_nil)) pa_nil)) (pg_name (i := 10) scLaw.nd rfl (Or.inl rfl))
            (pss_one (ps_if (pt_not (pt_val (pclG CA gs hr1 (pa_cons (pe_lst (pa_cons (pcl CLa hr2 (pa_cons (pv 4) (pa_cons (pv 10) pa_nil))) (pa_cons (pcl CRa hr3 (pa_cons (pv 4) (pa_cons (pv 10) pa_nil))) pa_nil))) (pa_cons (pe_lst (pa_cons (pcl CLL hr1 (pa_cons (pv 4) (pa_cons (pv 10) pa_nil))) (pa_cons (pcl CLR hr3 (pa_cons (pv 4) (pa_cons (pv 10) pa_nil))) pa_nil))) pa_nil))))) (pss_one (ps_ret pe_bl)) pss_nil)))
          (pss_one (ps_if (pt_cmpR op_ne (pe_callB (call_reprL gs hr.units) (by rfl) T.repr PyProof.Rows.boot_repr (pa_cons (pv 4) pa_nil)) (pv 5) (nomark _)) (pss_one (ps_ret pe_bl)) pss_nil)))))))))))))
      (pss_one (ps_ret pe_bl))), ?_⟩
    refine sset_of ⟨_, rfl, a, ns, rfl, hS, hl, fun b l H1 s1 bag1 => ?_⟩
    refine sfor ⟨5, rfl, by decide, by decide, for_range (lo := 0) (n := (5 : Int).toNat) (fun i σ H' => ∃ (u2 u3 u4 u5 u6 u7 u8 u9 u10 u11 u12 : Option V), σ = [some (.ref a), some (.ref b), u2, u3, u4, u5, u6, u7, u8, u9, u10, u11, u12] ∧ Bag b l H')
      ⟨none, none, none, none, none, none, none, none, none, none, none, rfl, bag1⟩ ?_ ?_⟩
    · rintro i σ H2 hi ⟨u2, u3, u4, u5, u6, u7, u8, u9, u10, u11, u12, rfl, bag2⟩
      have cb2 : Cb [b] b l H2 := ⟨bag2, List.mem_cons_self, fun a m => by
        rw [List.mem_singleton.mp m]
        exact bag2.at⟩
      have mb : b ∈ [b] := List.mem_cons_self
      refine gname_of (sset_of ⟨_, rfl, _, rfl, [b], b, l, 5, rfl, cb2, by decide, by decide, fun v0 h0 H3 f3 ok hk hs hv0 => ⟨[b], b, l, v0, h0, rfl, cb2.fr f3, hv0, ⟨ok, by omega, by omega⟩, fun v h H4 f4 x hv => ?_⟩⟩)
      have cb4 := (cb2.fr f3).fr f4
      refine for1 ⟨_, rfl, _, rfl, _, rfl, [b], b, l, v, h, rfl, cb4, hv, x, fun v2 h2 H5 f5 x2 hv2 => ⟨_, rfl, [b], b, l, 2, 2, "meek", rfl, cb4.fr f5, by decide, by decide, by decide, by decide, fun e => (nomatch e), fun v3 h3 H6 f6 ok3 hk3 hs3 hv3 => ⟨by show 3 ≤ sizeLine; decide, fun t ht => ?_⟩⟩⟩
      have cb6 := (cb4.fr f5).fr f6
      have f7 : Fr b l H6 (upd H6 t (.tup [v, v2, v3])) := Fr.new cb6.bag ht
      have ht7 : upd H6 t (.tup [v, v2, v3]) t = some (.tup [v, v2, v3]) := upd_same
      have htb : t ≠ b := ne_new cb6.bag.at ht
      have items : ∀ z ∈ [v, v2, v3], ∃ h, HouX h ∧ Dm K [b] (upd H6 t (.tup [v, v2, v3])) z (houD h) := fun z hz => by
        simp only [List.mem_cons, List.not_mem_nil, or_false] at hz
        rcases hz with hz | hz | hz
        · rw [hz]
          exact ⟨h, x, Dm.f hv ((f5.trans f6).trans f7) mb⟩
        · rw [hz]
          exact ⟨h2, x2, Dm.f hv2 (f6.trans f7) mb⟩
        · rw [hz]
          exact ⟨h3, ⟨ok3, by omega, by omega⟩, Dm.f hv3 f7 mb⟩
      have cb7 := cb6.fr f7
      generalize upd H6 t (.tup [v, v2, v3]) = H7 at ht7 items cb7
      clear f7 hv hv2 hv3 hv0
      refine ⟨t, rfl, ⟨_, SqT.of ht7⟩, for_tup (K := K) (a := t) (xs := [v, v2, v3]) (fun i' σ H' => ∃ (u4 u5 u6 u7 u8 u9 u10 u11 u12 : Option V), σ = [some (.ref a), some (.ref b), some (.int ((0 : Int) + (i : Nat))), some v, u4, u5, u6, u7, u8, u9, u10, u11, u12] ∧ Fr b l H7 H')
        ⟨u4, u5, u6, u7, u8, u9, u10, u11, u12, rfl, Fr.refl cb7.bag⟩ (fun i' σ H' _ ⟨_, _, _, _, _, _, _, _, _, _, f⟩ => SqT.of (f.k t _ (by simp [htb]) ht7)) ?_ ?_⟩
      · rintro i4 z σ H8 hi4 ⟨u4, u5, u6, u7, u8, u9, u10, u11, u12, rfl, f8⟩
        obtain ⟨g, y, hz7⟩ := items z (List.mem_of_getElem? hi4)
        have cb8 := cb7.fr f8
        have hz8 : Dm K [b] H8 z (houD g) := Dm.f hz7 f8 mb
        have k6 := y.k6
        have k0 := y.ok.k0
        have kn8 := cb8.kn
        obtain ⟨az, _, rfl, _, _⟩ := hz8.tupAt
        refine gname_of (sset_of (cb_args ⟨_, rfl, .ref az, houD g, 200000, 5, rfl, hz8.all, ⟨_, rfl⟩, hou_good y.ok, by decide, by decide, ?_⟩))
        refine ⟨_, rfl, [b], g, .ref az, rfl, kn8, hz8, y.ok, y.k6, y.s4, fun d H9 s9 hd0 hd9 => ?_⟩
        obtain ⟨az', xs, yk, e', hs9, hat, hyk⟩ := dm_getT (i := 0) (Dm.s hz8 s9) (by decide) rfl
        cases e'
        refine ⟨_, rfl, az, xs, 0, yk, rfl, rfl, hs9, hat, by show 2 ≤ sizeLine; decide, fun tq htq => ⟨tq, _, rfl, SqT.of upd_same, rfl, _, _, rfl, _, _, rfl, rfl, ?_⟩⟩
        have s10 : Sub H8 (upd H9 tq (.tup [.ref d, yk])) := s9.trans (Sub.new htq)
        have hd10 : upd H9 tq (.tup [.ref d, yk]) d = some (.dT (wordsK g.ks.length g.ss.length (wordAt g.j))) := Sub.new htq _ _ hd9
        have hk10 : Dm K [b] (upd H9 tq (.tup [.ref d, yk])) yk (.tuple (g.ks.map kdD)) := Dm.s hyk (Sub.new htq)
        generalize upd H9 tq (.tup [.ref d, yk]) = H10 at s10 hd10 hk10
        have kn10 := kn8.sub s10
        have few := len0 g.ks.length g.ss.length
        have fewK : (plL g.ks.length g.ss.length).length ≤ 150 := by
          have s4 := y.s4
          rw [few]
          have := Nat.mul_le_mul (show g.ss.length ≤ 3 by omega) (Nat.mul_le_mul (show g.ks.length ≤ 5 by omega) (Nat.mul_le_mul (show g.ks.length ≤ 5 by omega) (Nat.le_refl 2)))
          omega
        have gOnes : Good (.list (((plL g.ks.length g.ss.length).filter fun p => decide (wordAt g.j p = "oust")).map fun _ => PyData.int 1)) 10000 1 := by
          refine Good.mono (good_lst (n := 20) (k := 0) fun d hd => ?_) ?_ (Nat.le_refl _)
          · obtain ⟨_, _, rfl⟩ := List.mem_map.mp hd
            exact good_int (by decide) (by decide)
          · have := List.length_filter_le (fun p => decide (wordAt g.j p = "oust")) (plL g.ks.length g.ss.length)
            rw [List.length_map]
            omega
        have gInts : Good (.list (((List.range g.ks.length).filter fun k => !lastB g.ks k).map fun k : Nat => PyData.int (k : Int))) 10000 1 := by
          refine Good.mono (good_lst (n := 20) (k := 0) fun d hd => ?_) ?_ (Nat.le_refl _)
          · obtain ⟨j, hj, rfl⟩ := List.mem_map.mp hd
            have := List.mem_range.mp (List.mem_filter.mp hj).1
            exact good_int (by omega) (by omega)
          · have := List.length_filter_le (fun k => !lastB g.ks k) (List.range g.ks.length)
            rw [List.length_range] at this
            rw [List.length_map]
            omega
        have gKd : Good (.list ((g.ks.filter fun k => !k.2.1).map kdD)) 10000 2 := by
          refine Good.mono (good_lst (n := 70) (k := 1) fun d hd => ?_) ?_ (Nat.le_refl _)
          · obtain ⟨j, hj, rfl⟩ := List.mem_map.mp hd
            exact kd_good y.ok (List.mem_filter.mp hj).1
          · have := List.length_filter_le (fun k : Kd => !k.2.1) g.ks
            rw [List.length_map]
            omega
        -- meek
        refine evd_sset (K := K) (M := [b]) (evd_eqNil (n := 10000) (k := 1) (ds := ((plL g.ks.length g.ss.length).filter fun p => decide (wordAt g.j p = "oust")).map fun _ => PyData.int 1) (fun H1 s Q q => evd_ones (n := g.ks.length) (m := g.ss.length) (f := wordAt g.j) (K := K) (M := [b]) y.k6 y.s4 rfl (fun _ => rfl) (fun _ => rfl) (fun _ => rfl) (s _ _ hd10)
          fun p xs H' s' hp e hx => q _ H' s' (Dm.lstOf ((kn10.sub s).out hp) e hx)) (evd_lst kn10 evds_nil (by show 0 < 1000000; decide)) gOnes (by decide)) fun v8 H11 s11 h8 => ?_
        cases h8.blAt
        rw [List.isEmpty_map]
        have kn11 := kn10.sub s11
        have hk11 := Dm.s hk10 s11
        have e2 : EvD K [b] (tOp (rEqD K) (tLc (iRng1 (tCons (tCB (fun xs H Q => ∃ p ys, xs = [V.ref p] ∧ (SqL K H p ys ∨ SqT K H p ys) ∧ Q (.int ys.length) H) (tCons (tVar 7) tNil)) tNil)) (gName 10) (tTest (tOp rNe (tOp (rIxT K) (tOp (rIxT K) (tVar 7) (tVar 10)) (tC (.int 2))) (tVar 10))) (tVar 10) [10]) (tLst tNil))
            ([some (.ref a), some (.ref b), some (.int ((0 : Int) + (i : Nat))), some v, some (.ref az), some (.str (PyData.shown (houD g))), some (.ref d), some yk, some (.bl ((plL g.ks.length g.ss.length).filter fun p => decide (wordAt g.j p = "oust")).isEmpty), u9, u10, u11, u12] : L2.St) H11 (.bool (((List.range g.ks.length).filter fun k => !lastB g.ks k).map fun k : Nat => PyData.int (k : Int)).isEmpty) := by
          refine evd_eqNil (n := 10000) (k := 1) (EvNL.toD kn11 ?_) (evd_lst kn11 evds_nil (by show 0 < 1000000; decide)) gInts (by decide)
          rw [show (g.ks.length : Nat) = ((g.ks.length : Int)).toNat from (Int.toNat_natCast _).symm]
          have eln := evd_lenV (σ := [some (.ref a), some (.ref b), some (.int ((0 : Int) + (i : Nat))), some v, some (.ref az), some (.str (PyData.shown (houD g))), some (.ref d), some yk, some (.bl ((plL g.ks.length g.ss.length).filter fun p => decide (wordAt g.j p = "oust")).isEmpty), u9, u10, u11, u12]) (evd_var (i := 7) rfl hk11)
          rw [List.length_map] at eln
          refine evd_lcRF (m := (g.ks.length : Int)) (fun k => !lastB g.ks k) (fun k => .int (k : Int)) kn11 (evds_cons eln evds_nil) (by omega) (by omega) (by intro z; rfl) ?_ ?_
          · intro Dl hD j H12 s12 n12 hj
            have hk12 : Dm K (Dl :: [b]) H12 yk (.tuple (g.ks.map kdD)) := Dm.s (Dm.more hk11 hD) s12
            have hj' : j < g.ks.length := by omega
            unfold lastB
            refine evb_test (evd_neI (evd_ixT (evd_ixT (evd_var (i := 7) rfl hk12) (evd_var (i := 10) rfl (.int (j : Int))) (Int.natCast_nonneg _) (by rw [Int.toNat_natCast, List.getElem?_map, kd_at hj']; rfl)) (evd_int (i := 2)) (by decide) rfl) (evd_var (i := 10) rfl (.int (j : Int))))
          · intro Dl hD j H12 s12 n12 hj
            exact evd_var (i := 10) rfl (.int _)
        refine evd_sset (K := K) (M := [b]) (evd_and (evd_var (i := 8) rfl (.bl _)) fun _ => e2) fun v8 H12 s12 h8 => ?_
        cases h8.blAt
        have hk12 := Dm.s hk11 s12
        have kn12 := kn11.sub s12
        rw [List.isEmpty_map, all_not]
        have s812 : Sub H8 H12 := (s10.trans s11).trans s12
        refine evd_sset (K := K) (M := [b]) (d := .list [.bool (meekB g), .bool ((g.ks.map (·.2.1)).all id)]) (evd_lst kn12 (evds_cons (evd_var (i := 8) rfl (.bl _)) (evds_cons ?_ evds_nil)) lt2) fun v11 H13 s13 h11 => ?_
        · rw [← all_not g.ks (fun k : Kd => k.2.1), ← List.isEmpty_map (f := kdD)]
          refine evd_eqNil (n := 10000) (k := 2) (EvNL.toD kn12 ?_) (evd_lst kn12 evds_nil (by show 0 < 1000000; decide)) gKd (by decide)
          have ez : (((g.ks.map kdD).filter fun d => !(match keepD d with | .bool b => b | _ => true)).map fun d => d) = (g.ks.filter fun k => !k.2.1).map kdD := by
            rw [List.map_id', List.filter_map]
            rfl
          rw [← ez]
          refine evd_lcFT _ (fun d => d) kn12 (evd_var (i := 7) rfl hk12) (by rw [List.length_map]; omega) (by intro z; rfl) ?_ ?_
          · intro Dl hD d z H14 s14 n14 hdm hz
            obtain ⟨kd, _, rfl⟩ := List.mem_map.mp hdm
            exact evb_not (evb_val (evd_ixT (evd_var (i := 12) rfl hz) (evd_int (i := 1)) (by decide) rfl))
          · intro Dl hD d z H14 s14 n14 hdm _ hz
            exact evd_var (i := 12) rfl hz
        have kn13 := kn12.sub s13
        have s813 := s812.trans s13
        have hz13 := Dm.s hz8 s813
        have hk13 := Dm.s hk12 s13
        refine sifs (alikeL_if (K := K) (M := [b]) (n := 2 * (20 + 2) + 4) (k := 1) (ds := [.bool (meekB g), .bool ((g.ks.map (·.2.1)).all id)]) (evd_lst kn13 (evds_cons (evd_pure (rel := rMeek) (E := E0) kn13 (evds_cons (evd_var (i := 4) rfl hz13) evds_nil) ⟨g, rfl, y, rfl⟩) (evds_cons (evd_pure (rel := rKeeps) (E := E0) kn13 (evds_cons (evd_var (i := 4) rfl hz13) evds_nil) ⟨g, rfl, y, rfl⟩) evds_nil)) lt2) (evd_var (i := 11) rfl h11) (good_lst (n := 20) (k := 0) fun d hd => ?_) (by decide) (by decide) fun H14 s14 => ?_)
        · simp only [List.mem_cons, List.not_mem_nil, or_false] at hd
          rcases hd with hd | hd <;> rw [hd] <;> exact good_bl _
        unfold tNext
        dsimp only
        have kn14 := kn13.sub s14
        have s814 := s813.trans s14
        have hk14 := Dm.s hk13 s14
        obtain ⟨ak, xk, rfl, hsk, hak⟩ := hk14.tupAt
        have hlk := hak.len
        rw [List.length_map] at hlk
        refine sfor ?_
        refine ⟨_, rfl, ak, xk, rfl, .inr hsk, _, rfl, by omega, by omega, for_range (lo := 0) (n := ((xk.length : Int)).toNat) (fun j σ H' => ∃ (u10 : Option V), σ = [some (.ref a), some (.ref b), some (.int ((0 : Int) + (i : Nat))), some v, some (.ref az), some (.str (PyData.shown (houD g))), some (.ref d), some (.ref ak), some (.bl (meekB g)), u9, u10, some v11, u12] ∧ Sub H8 H')
          ⟨u10, rfl, s814⟩ ?_ ?_⟩
        · rintro j σ H15 hj ⟨u10, rfl, s15⟩
          have hj' : j < g.ks.length := by omega
          have kn15 := kn8.sub s15
          have hz15 := Dm.s hz8 s15
          refine gname_of ?_
          rw [show (0 : Int) + (j : Nat) = (j : Int) by omega]
          have rl := itr_keep (stp_rises y.ok) g.ks.length [j] (row_one hj')
          have few2 : (raiseF g j).length ≤ 10 := by
            have := rl.len
            have := rl.low
            show (itr (stp g) g.ks.length [j]).length ≤ 10
            omega
          have lo := itr_keep (rise_ok y.ok.ks) g.ks.length j hj'
          refine alikeL_if (K := K) (M := [b]) (n := 2 * (300 + 2) + 4) (k := 2) (ds := [.int ((lastF g.ks j : Nat) : Int), .tuple (intD (raiseF g j))])
            (evd_lst kn15 (evds_cons (evd_pure (rel := rLast) (E := E0) kn15 (evds_cons (evd_var (i := 4) rfl hz15) (evds_cons (evd_var (i := 10) rfl (.int (j : Int))) evds_nil)) ⟨g, j, rfl, y, hj', rfl⟩) (evds_cons (evd_pure (rel := rRaised) (E := E0) kn15 (evds_cons (evd_var (i := 4) rfl hz15) (evds_cons (evd_var (i := 10) rfl (.int (j : Int))) evds_nil)) ⟨g, j, rfl, y, hj', rfl⟩) evds_nil)) lt2)
            (evd_lst kn15 (evds_cons (evd_pure (rel := rLast) (E := E0) kn15 (evds_cons (evd_var (i := 4) rfl hz15) (evds_cons (evd_var (i := 10) rfl (.int (j : Int))) evds_nil)) ⟨g, j, rfl, y, hj', rfl⟩) (evds_cons (evd_pure (rel := rRaised) (E := E0) kn15 (evds_cons (evd_var (i := 4) rfl hz15) (evds_cons (evd_var (i := 10) rfl (.int (j : Int))) evds_nil)) ⟨g, j, rfl, y, hj', rfl⟩) evds_nil)) lt2)
            (good_lst (n := 300) (k := 1) fun d hd => ?_) (by decide) (by decide) fun H16 s16 => ⟨_, rfl, s15.trans s16⟩
          simp only [List.mem_cons, List.not_mem_nil, or_false] at hd
          rcases hd with hd | hd
          · rw [hd]
            exact Good.mono (good_int (by omega) (by show ((lastF g.ks j : Nat) : Int) < 16; unfold lastF; omega)) (by decide) (by decide)
          · rw [hd]
            refine Good.mono (good_tup (n := 20) (k := 0) (ints_good fun x hx => ?_)) ?_ (Nat.le_refl _)
            · have := rl.all x hx
              have := rl.low
              omega
            · unfold intD
              rw [List.length_map]
              omega
        · rintro σ H15 ⟨u10, rfl, s15⟩
          have hz15 := Dm.s hz8 s15
          refine ⟨_, rfl, .ref az, houD g, 200000, 5, rfl, hz15.all, ⟨_, rfl⟩, hou_good y.ok, by decide, by decide, _, rfl, rfl, _, rfl, ite2 (fun e => ?_) (fun e => ?_)⟩
          · exact absurd e (by
              rw [decide_eq_true (by rfl)]
              decide)
          · exact ⟨_, _, _, _, _, _, _, _, _, rfl, f8.trans (Fr.sub cb8.bag s15)⟩
      · rintro σ H8 ⟨u4, u5, u6, u7, u8, u9, u10, u11, u12, rfl, f8⟩
        exact ⟨_, _, _, _, _, _, _, _, _, _, _, rfl, f8.bag⟩
    · rintro σ H2 ⟨u2, u3, u4, u5, u6, u7, u8, u9, u10, u11, u12, rfl, bag2⟩
      exact k H2
end
end KZ

namespace KZ
open PySem PySem.Spec PyProof.Rows L2
/-! the law, called from outside: no repr is under way there -/
theorem tell_script {P : Program} {w : World} {K : PySem.W.Frag} {t : Shared} {a : Addr} {us : List Value} {ns : List Int} (kin : K.In t.heap) (here : t.heap.get? a = some { cls := .type "list", data := .seq us.toArray })
    (iu : IntsAre us ns) (lu : ns.length ≤ sizeLine) : ∃ H : Hp, (∀ b u, H b = some u → b = a ∧ K.lookup b = none ∧ ∃ o, u = .frz o (.lst (ns.map V.int))) ∧ SqL K H a (ns.map V.int) ∧ HOk P w H t.heap := by
  have ru := vals_ints iu
  have len := iu.length
  cases e : K.lookup a with
  | some o =>
    have g := kin a o e
    rw [here] at g
    cases g
    exact ⟨fun _ => none, fun _ _ z => (nomatch z), .inr ⟨_, us.toArray, _, e, rfl, rfl, rfl, by rw [List.size_toArray, len]; exact lu, ru⟩, fun _ _ z => (nomatch z)⟩
  | none =>
    refine ⟨fun b => if b = a then some (.frz { cls := .type "list", data := .seq us.toArray } (.lst (ns.map V.int))) else none, fun b u z => ?_, .inl (.inr ⟨_, if_pos rfl⟩), fun b u z => ?_⟩
    · by_cases y : b = a
      · dsimp only at z
        rw [if_pos y] at z
        exact ⟨y, by rw [y]; exact e, _, (Option.some.inj z).symm⟩
      · dsimp only at z
        rw [if_neg y] at z
        cases z
    · by_cases y : b = a
      · dsimp only at z
        rw [if_pos y] at z
        cases Option.some.inj z
        rw [y]
        exact ⟨here, by rw [List.length_map]; exact lu, us, _, ru, here⟩
      · dsimp only at z
        rw [if_neg y] at z
        cases z
theorem lawG {P : Program} {w : World} {K : PySem.W.Frag} {mg mb : Str → Option Value} {k : Nat} {fa a : Addr} {fd : FuncData} {sp : Sp} {t : Shared} {us : List Value} {ns : List Int}
    (kin : K.In t.heap) (nm : t.heap.Ns mainGlobals mg) (nb : t.heap.Ns builtinsNs mb) (eb : ∀ x : Str, x ≠ "__name__" → mb x = bootBuiltins x) (nl : t.heap.NoLimit) (ng : t.gens = #[])
    (here : t.heap.get? a = some { cls := .type "list", data := .seq us.toArray }) (iu : IntsAre us ns) (lu : ns.length ≤ sizeLine) (room : Room k callerA)
    (F : ∀ base : Heap, K.In base → base.Ns mainGlobals mg → FnG P w K mg base k fa fd ["script"] sp) (bind : ∀ (s : Shared) (u : Value), BindsTo s fd ⟨[u], []⟩ [("script", u)])
    (prom : ∀ H : Hp, SqL K H a (ns.map V.int) → sp [.ref a] H (fun v _ => v = .bl true) fun _ _ _ => False) :
    codeAny (model P w) callerA (.call (.ref fa) ⟨[.ref a], []⟩) (fun r s' => r = .ok (.ret (.bool true)) ∧ OldK t.heap s'.heap ∧ s'.os = t.os ∧ AllBare s'.gens) t := by
  obtain ⟨H, only, seq, good⟩ := tell_script (P := P) (w := w) kin here iu lu
  have free : ∀ {b : Addr} {o : Obj}, t.heap.get? b = some o → (∀ u, H b = some u → False) → (hidT t.heap H).get? b = some o := fun {b o} g no => hidT_get g (by
    cases y : H b with
    | none => rfl
    | some u => exact (no u y).elim)
  have kin' : K.In (hidT t.heap H) := fun b o g => free (kin b o g) fun u y => by
    obtain ⟨_, h2, _⟩ := only b u y
    rw [g] at h2
    cases h2
  have space : ∀ {b : Addr} {m : Str → Option Value}, t.heap.Ns b m → (hidT t.heap H).Ns b m := fun {b m} ⟨o, es, ep, g, d, r⟩ => ⟨o, es, ep, free g (fun u y => by
    obtain ⟨h1, _⟩ := only b u y
    rw [h1, here] at g
    cases Option.some.inj g
    cases (show Data.seq us.toArray _ = Data.dict es ep from d)), d, r⟩
  obtain ⟨mc, l1, l2⟩ := nl
  have env : Env0 P w K mg (hidT t.heap H) callerA [] t H :=
    { frames := rfl, mod := ⟨kin', space nm, ⟨mb, space nb, eb⟩, ⟨mc, space l1, l2⟩⟩, bs := fun b o g => of_hidT g, bsz := Nat.le_of_eq (hidT_size _ _), funs := trivial, frf := fun b m => (nomatch (show b ∈ ([] : List Addr) from m)), hok := good, bare := .of_eq ng }
  refine codeAny_mono ((F _ kin' (space nm)).go callerA [] t H ⟨[.ref a], []⟩ [.ref a] [.ref a] _ _ rfl room env (bind t (.ref a)) (.cons rfl .nil) (prom H seq)) fun r s' z => ?_
  cases r with
  | error _ => exact False.elim z
  | ok fl =>
    cases fl with
    | next => exact False.elim z
    | brk => exact False.elim z
    | cont => exact False.elim z
    | ret u =>
      obtain ⟨v, H', z1, z2, un, good', rel, z3⟩ := z
      cases (show v = V.bl true from z3)
      cases (show u = Value.bool true from rel)
      refine ⟨rfl, OldK.of_keep fun b o g => ?_, z1, z2⟩
      cases y : H b with
      | none => exact un.keep b o g y (fun m => nomatch (show b ∈ ([] : List Addr) from m)) (fun m => nomatch m)
      | some x =>
        obtain ⟨_, _, ob, rfl⟩ := only b x y
        have g1 := (good b _ y).1
        have g2 := (good' b _ (un.frzs b ob _ y)).1
        rw [g] at g1
        cases Option.some.inj g1
        exact g2
theorem walkG {l : PySem.W.OpenLaw} {n k : Nat} {q : Program} {loose : List Str} {XP : (Str → Option Value) → Heap → Prop} {YP : World → Heap → Prop} {d : DefRec} {K : Params → PySem.W.Frag} {sp : PySem.W.Frag → Sp}
    (many : l.most = some n) (few : n ≤ sizeLine) (plain : d.params.defaults = []) (room : Room k callerA) (has : ∀ (w : World) (h : Heap), YP w h → (K w.params).In h)
    (F : ∀ (w : World) (mg : Str → Option Value) (fa : Addr) (h : Heap), (K w.params).In h → h.Ns mainGlobals mg → mg d.name = some (.ref fa) →
      ∃ fd : FuncData, (∀ (s : Shared) (u : Value), BindsTo s fd ⟨[u], []⟩ [("script", u)]) ∧ ∀ base : Heap, (K w.params).In base → base.Ns mainGlobals mg → FnG l.prog w (K w.params) mg base k fa fd ["script"] (sp (K w.params)))
    (prom : ∀ (K : PySem.W.Frag) (H : Hp) (a : Addr) (ns : List Int), ns.length ≤ n → SqL K H a (ns.map V.int) → sp K [.ref a] H (fun v _ => v = .bl true) fun _ _ _ => False) :
    PySem.W.WalkO q loose XP YP l.row.toRowW d [] (fun f vs => PySem.call f vs) := by
  refine Att.attach_call many plain fun w s0 t mg mb fa o pm cd doc a us ns G Y _ _ _ law here iu short bare => ?_
  have kin := has w _ Y
  obtain ⟨fd, bind, F'⟩ := F w mg fa _ kin G.T.g law
  exact lawG kin G.T.g G.T.b G.T.builtins G.T.nolimit bare here iu (Nat.le_trans short few) room F' bind fun H seq => prom _ H a ns short seq
end KZ

namespace KZ
open PySem PySem.Spec PyProof.Rows L2
/-! where each def stands in what the top has written -/
structure At (K : PySem.W.Frag) (x : Str) (st : Stmt) (f : Addr) (fd : FuncData) : Prop where
  a : PySem.W.nsIn K mainGlobals x = some (some (.ref f))
  fn : Fun K x x st f fd
theorem At.cal {P : Program} {w : World} {K : PySem.W.Frag} {h : Heap} {mg : Str → Option Value} {base : Heap} {x : Str} {st : Stmt} {f : Addr} {fd : FuncData} {k : Nat} {ps : List Str} {sp : Sp} (A : At K x st f fd) (X : K.In h) (G : h.Ns mainGlobals mg) (ok : FnOk P w K mg base CX0 k f fd ps sp) (b : Binds K fd ps []) :
    Cal P w K mg base x k ps sp f fd := ⟨ok, PySem.W.mg_of X G A.a, A.fn.kp, b⟩
structure Defs (K : PySem.W.Frag) : Prop where
  d0 : ∃ f fd, At K "places_of" sPof f fd
  d1 : ∃ f fd, At K "word_at" sWatP f fd
  d2 : ∃ f fd, At K "is_last" sIsLast f fd
  d3 : ∃ f fd, At K "last_one" sLastOne f fd
  d4 : ∃ f fd, At K "put_out_by" sPob f fd
  d5 : ∃ f fd, At K "outs_at" sOuts f fd
  d6 : ∃ f fd, At K "raised_kinds" sRaised f fd
  d7 : ∃ f fd, At K "is_meek" sMeek f fd
  d8 : ∃ f fd, At K "keeps_all" sKeepsA f fd
  d9 : ∃ f fd, At K "_law_bag" sBag f fd
  d10 : ∃ f fd, At K "_law_take" sTake f fd
  d11 : ∃ f fd, At K "_law_some" sSome f fd
  d12 : ∃ f fd, At K "_law_alike" sAlike f fd
  d13 : ∃ f fd, At K "_law_mixed" sMixed f fd
  d14 : ∃ f fd, At K "_law_named" sNamed f fd
  d15 : ∃ f fd, At K "_law_kinds" sKinds f fd
  d16 : ∃ f fd, At K "_law_menu" sMenu f fd
  d17 : ∃ f fd, At K "_law_judge" sJudge f fd
  d18 : ∃ f fd, At K "_law_put" sPut f fd
  d19 : ∃ f fd, At K "_law_spoilt_house" sSpoilt f fd
  d20 : ∃ f fd, At K "_law_house_of" sHo f fd
  d21 : ∃ f fd, At K "_law_house" sHouse f fd
  d22 : ∃ f fd, At K "_law_places" sPlaces f fd
  d23 : ∃ f fd, At K "_law_word_at" sWat f fd
  d24 : ∃ f fd, At K "_law_last" sLLast f fd
  d25 : ∃ f fd, At K "_law_is_put_out" sPutOut f fd
  d26 : ∃ f fd, At K "_law_raised" sLRaised f fd
  d27 : ∃ f fd, At K "_law_with_words" sWwords f fd
  d28 : ∃ f fd, At K "_law_words" sWords f fd
  d29 : ∃ f fd, At K "_law_risen" sRisen f fd
  d30 : ∃ f fd, At K "_law_tamed" sTamed f fd
  d31 : ∃ f fd, At K "law" sLaw f fd
structure Free (K : PySem.W.Frag) : Prop where
  int : PySem.W.nsIn K mainGlobals "int" = some none
  len : PySem.W.nsIn K mainGlobals "len" = some none
  abs : PySem.W.nsIn K mainGlobals "abs" = some none
  range : PySem.W.nsIn K mainGlobals "range" = some none
  tuple : PySem.W.nsIn K mainGlobals "tuple" = some none
  list : PySem.W.nsIn K mainGlobals "list" = some none
  dict : PySem.W.nsIn K mainGlobals "dict" = some none
  repr : PySem.W.nsIn K mainGlobals "repr" = some none
  enumerate : PySem.W.nsIn K mainGlobals "enumerate" = some none
  all : PySem.W.nsIn K mainGlobals "all" = some none
theorem Free.txt {K : PySem.W.Frag} {h : Heap} {mg : Str → Option Value} (Z : Free K) (X : K.In h) (G : h.Ns mainGlobals mg) : Txt mg where
  int := PySem.W.mg_none_of X G Z.int
  len := PySem.W.mg_none_of X G Z.len
  abs := PySem.W.mg_none_of X G Z.abs
  range := PySem.W.mg_none_of X G Z.range
  tuple := PySem.W.mg_none_of X G Z.tuple
  list := PySem.W.mg_none_of X G Z.list
  dict := PySem.W.mg_none_of X G Z.dict
  repr := PySem.W.mg_none_of X G Z.repr
  enumerate := PySem.W.mg_none_of X G Z.enumerate
theorem all_mk {l : PySem.W.OpenLaw} {w : World} {K : PySem.W.Frag} {h : Heap} {mg : Str → Option Value} {fa : Addr} (X : K.In h) (G : h.Ns mainGlobals mg) (hfa : mg "law" = some (.ref fa)) (D : Defs K) (Z : Free K) :
    ∃ fd : FuncData, (∀ (s : Shared) (v : Value), BindsTo s fd ⟨[v], []⟩ [("script", v)]) ∧ ∀ base : Heap, K.In base → base.Ns mainGlobals mg → FnG l.prog w K mg base 8 fa fd ["script"] (spLaw K) := by
  have T := Z.txt X G
  have za := PySem.W.mg_none_of X G Z.all
  obtain ⟨f0, fd0, A0⟩ := D.d0
  obtain ⟨f1, fd1, A1⟩ := D.d1
  obtain ⟨f2, fd2, A2⟩ := D.d2
  obtain ⟨f3, fd3, A3⟩ := D.d3
  obtain ⟨f4, fd4, A4⟩ := D.d4
  obtain ⟨f5, fd5, A5⟩ := D.d5
  obtain ⟨f6, fd6, A6⟩ := D.d6
  obtain ⟨f7, fd7, A7⟩ := D.d7
  obtain ⟨f8, fd8, A8⟩ := D.d8
  obtain ⟨f9, fd9, A9⟩ := D.d9
  obtain ⟨f10, fd10, A10⟩ := D.d10
  obtain ⟨f11, fd11, A11⟩ := D.d11
  obtain ⟨f12, fd12, A12⟩ := D.d12
  obtain ⟨f13, fd13, A13⟩ := D.d13
  obtain ⟨f14, fd14, A14⟩ := D.d14
  obtain ⟨f15, fd15, A15⟩ := D.d15
  obtain ⟨f16, fd16, A16⟩ := D.d16
  obtain ⟨f17, fd17, A17⟩ := D.d17
  obtain ⟨f18, fd18, A18⟩ := D.d18
  obtain ⟨f19, fd19, A19⟩ := D.d19
  obtain ⟨f20, fd20, A20⟩ := D.d20
  obtain ⟨f21, fd21, A21⟩ := D.d21
  obtain ⟨f22, fd22, A22⟩ := D.d22
  obtain ⟨f23, fd23, A23⟩ := D.d23
  obtain ⟨f24, fd24, A24⟩ := D.d24
  obtain ⟨f25, fd25, A25⟩ := D.d25
  obtain ⟨f26, fd26, A26⟩ := D.d26
  obtain ⟨f27, fd27, A27⟩ := D.d27
  obtain ⟨f28, fd28, A28⟩ := D.d28
  obtain ⟨f29, fd29, A29⟩ := D.d29
  obtain ⟨f30, fd30, A30⟩ := D.d30
  obtain ⟨f31, fd31, A31⟩ := D.d31
  have b0 := A0.fn.binds (ps := ["house"]) fun _ _ _ _ _ _ us hl => match us, hl with | [_], _ => rfl
  have b1 := A1.fn.binds (ps := ["house", "place"]) fun _ _ _ _ _ _ us hl => match us, hl with | [_, _], _ => rfl
  have b2 := A2.fn.binds (ps := ["house", "kind"]) fun _ _ _ _ _ _ us hl => match us, hl with | [_, _], _ => rfl
  have b3 := A3.fn.binds (ps := ["house", "kind"]) fun _ _ _ _ _ _ us hl => match us, hl with | [_, _], _ => rfl
  have b4 := A4.fn.binds (ps := ["place", "word"]) fun _ _ _ _ _ _ us hl => match us, hl with | [_, _], _ => rfl
  have b5 := A5.fn.binds (ps := ["house", "kind"]) fun _ _ _ _ _ _ us hl => match us, hl with | [_, _], _ => rfl
  have b6 := A6.fn.binds (ps := ["house", "kind"]) fun _ _ _ _ _ _ us hl => match us, hl with | [_, _], _ => rfl
  have b7 := A7.fn.binds (ps := ["house"]) fun _ _ _ _ _ _ us hl => match us, hl with | [_], _ => rfl
  have b8 := A8.fn.binds (ps := ["house"]) fun _ _ _ _ _ _ us hl => match us, hl with | [_], _ => rfl
  have b9 := A9.fn.binds (ps := ["script"]) fun _ _ _ _ _ _ us hl => match us, hl with | [_], _ => rfl
  have b10 := A10.fn.binds (ps := ["bag", "upto"]) fun _ _ _ _ _ _ us hl => match us, hl with | [_, _], _ => rfl
  have b11 := A11.fn.binds (ps := ["bag", "things"]) fun _ _ _ _ _ _ us hl => match us, hl with | [_, _], _ => rfl
  have b12 := A12.fn.binds (ps := ["found", "due"]) fun _ _ _ _ _ _ us hl => match us, hl with | [_, _], _ => rfl
  have b13 := A13.fn.binds (ps := ["bag", "things"]) fun _ _ _ _ _ _ us hl => match us, hl with | [_, _], _ => rfl
  have b14 := A14.fn.binds (ps := ["bag", "many"]) fun _ _ _ _ _ _ us hl => match us, hl with | [_, _], _ => rfl
  have b15 := A15.fn.binds (ps := ["bag", "many", "keeps"]) fun _ _ _ _ _ _ us hl => match us, hl with | [_, _, _], _ => rfl
  have b16 := A16.fn.binds (ps := ["bag", "style"]) fun _ _ _ _ _ _ us hl => match us, hl with | [_, _], _ => rfl
  have b17 := A17.fn.binds (ps := ["bag", "kinds", "sorts", "style"]) fun _ _ _ _ _ _ us hl => match us, hl with | [_, _, _, _], _ => rfl
  have b18 := A18.fn.binds (ps := ["judge", "sort", "asker", "holder", "couple"]) fun _ _ _ _ _ _ us hl => match us, hl with | [_, _, _, _, _], _ => rfl
  have b19 := A19.fn.binds (ps := ["bag", "house"]) fun _ _ _ _ _ _ us hl => match us, hl with | [_, _], _ => rfl
  have b20 := A20.fn.binds (ps := ["bag", "kinds", "sorts", "style"]) fun _ _ _ _ _ _ us hl => match us, hl with | [_, _, _, _], _ => rfl
  have b21 := A21.fn.binds (ps := ["bag", "kinds"]) fun _ _ _ _ _ _ us hl => match us, hl with | [_, _], _ => rfl
  have b22 := A22.fn.binds (ps := ["house"]) fun _ _ _ _ _ _ us hl => match us, hl with | [_], _ => rfl
  have b23 := A23.fn.binds (ps := ["house", "place"]) fun _ _ _ _ _ _ us hl => match us, hl with | [_, _], _ => rfl
  have b24 := A24.fn.binds (ps := ["house", "kind"]) fun _ _ _ _ _ _ us hl => match us, hl with | [_, _], _ => rfl
  have b25 := A25.fn.binds (ps := ["house", "kind"]) fun _ _ _ _ _ _ us hl => match us, hl with | [_, _], _ => rfl
  have b26 := A26.fn.binds (ps := ["house", "kind"]) fun _ _ _ _ _ _ us hl => match us, hl with | [_, _], _ => rfl
  have b27 := A27.fn.binds (ps := ["house", "places"]) fun _ _ _ _ _ _ us hl => match us, hl with | [_, _], _ => rfl
  have b28 := A28.fn.binds (ps := ["house"]) fun _ _ _ _ _ _ us hl => match us, hl with | [_], _ => rfl
  have b29 := A29.fn.binds (ps := ["bag", "house"]) fun _ _ _ _ _ _ us hl => match us, hl with | [_, _], _ => rfl
  have b30 := A30.fn.binds (ps := ["bag", "house"]) fun _ _ _ _ _ _ us hl => match us, hl with | [_, _], _ => rfl
  cases hfa.symm.trans (PySem.W.mg_of X G A31.a)
  refine ⟨fd31, fun s v => ?_, fun base _ _ => ?_⟩
  · obtain ⟨oc, od, kV, doc, pm, an, cdv, ct, osl, e, _⟩ := A31.fn.ex
    rw [e]
    exact .of_eq rfl
  have c1 := A10.cal X G (ok_take (P := l.prog) (w := w) (base := base) (mg := mg) A10.fn T) b10
  have c2 := A11.cal X G (ok_some (P := l.prog) (w := w) (base := base) (mg := mg) A11.fn T c1) b11
  have c3 := A13.cal X G (ok_mixed (P := l.prog) (w := w) (base := base) (mg := mg) A13.fn T c1) b13
  have c4 := A14.cal X G (ok_named (P := l.prog) (w := w) (base := base) (mg := mg) A14.fn c3) b14
  have c5 := A15.cal X G (ok_kinds (P := l.prog) (w := w) (base := base) (mg := mg) A15.fn T c1 c2 c4) b15
  have c6 := A16.cal X G (ok_menu (P := l.prog) (w := w) (base := base) (mg := mg) A16.fn T c2) b16
  have c7 := A17.cal X G (ok_judge (P := l.prog) (w := w) (base := base) (mg := mg) A17.fn T c2 c6) b17
  have c8 := A18.cal X G (ok_put (P := l.prog) (w := w) (base := base) (mg := mg) A18.fn ) b18
  have c9 := A19.cal X G (ok_spoilt (P := l.prog) (w := w) (base := base) (mg := mg) A19.fn T c1 c2 c8) b19
  have c10 := A20.cal X G (ok_ho (P := l.prog) (w := w) (base := base) (mg := mg) A20.fn T c1 c2 c5 c4 c7 c9 (PySem.W.mg_of X G A20.a) b20) b20
  have c11 := A21.cal X G (ok_house (P := l.prog) (w := w) (base := base) (mg := mg) A21.fn c1 c2 c10) b21
  have c12 := A22.cal X G (ok_places (P := l.prog) (w := w) (base := base) (mg := mg) A22.fn T) b22
  have c13 := A23.cal X G (ok_wat (P := l.prog) (w := w) (base := base) (mg := mg) A23.fn ) b23
  have c14 := A28.cal X G (ok_words (P := l.prog) (w := w) (base := base) (mg := mg) A28.fn T c12 c13) b28
  have c15 := A27.cal X G (ok_wwords (P := l.prog) (w := w) (base := base) (mg := mg) A27.fn T) b27
  have c20 := A9.cal X G (ok_bag (P := l.prog) (w := w) (base := base) (mg := mg) A9.fn T) b9
  have p1 := A0.cal X G (ok_pof (P := l.prog) (w := w) (base := base) (mg := mg) A0.fn T) b0
  have p2 := A1.cal X G (ok_watP (P := l.prog) (w := w) (base := base) (mg := mg) A1.fn ) b1
  have p3 := A2.cal X G (ok_isLast (P := l.prog) (w := w) (base := base) (mg := mg) A2.fn ) b2
  have p4 := A3.cal X G (ok_lastOne (P := l.prog) (w := w) (base := base) (mg := mg) A3.fn p3) b3
  have p0 := A4.cal X G (ok_pob (P := l.prog) (w := w) (base := base) (mg := mg) A4.fn ) b4
  have p5 := A5.cal X G (ok_outs (P := l.prog) (w := w) (base := base) (mg := mg) A5.fn p1 p2 p0) b5
  have p6 := A6.cal X G (ok_raised (P := l.prog) (w := w) (base := base) (mg := mg) A6.fn T p3 p5) b6
  have p7 := A7.cal X G (ok_meek (P := l.prog) (w := w) (base := base) (mg := mg) A7.fn T za p1 p2 p3) b7
  have p8 := A8.cal X G (ok_keepsA (P := l.prog) (w := w) (base := base) (mg := mg) A8.fn za) b8
  have l1 := A24.cal X G (ok_lLast (P := l.prog) (w := w) (base := base) (mg := mg) A24.fn T) b24
  have l2 := A25.cal X G (ok_putOut (P := l.prog) (w := w) (base := base) (mg := mg) A25.fn c12 c13) b25
  have l3 := A26.cal X G (ok_lRaised (P := l.prog) (w := w) (base := base) (mg := mg) A26.fn T l2) b26
  have l4 := A29.cal X G (ok_risen (P := l.prog) (w := w) (base := base) (mg := mg) A29.fn T c2) b29
  have l5 := A30.cal X G (ok_tamed (P := l.prog) (w := w) (base := base) (mg := mg) A30.fn T c2 c14 c15) b30
  have c21 : CalG l.prog w K mg base "_law_alike" 1 ["found", "due"] (spAlikeL K) f12 fd12 := ⟨ok_alikeL A12.fn T, PySem.W.mg_of X G A12.a, A12.fn.kp, b12⟩
  exact ok_law A31.fn T c20 c11 l4 l5 c10 c14 p7 p8 p4 p6 l1 l3 c21
/-- one def, by what the top tells of it -/
theorem at_mk {K : PySem.W.Frag} {x : Str} {st : Stmt} {f : Addr} {oc : Value} {od an : Option Addr} {osl : Array (Option Value)} {kV doc pm cdv ct : Value} (a : PySem.W.nsIn K mainGlobals x = some (some (.ref f)))
    (l : K.lookup f = some ⟨oc, od, .func (PySem.W.fnOf x x (defArgs st) (defBody st) (defScope st) .none kV doc pm an cdv ct), osl⟩) (c : PySem.W.codeIn K cdv x = true) (k : PySem.W.keepIn K (.ref f) = true) : ∃ f fd, At K x st f fd :=
  ⟨f, _, a, fun_mk l c k⟩
theorem walk {l : PySem.W.OpenLaw} {q : Program} {loose : List Str} {XP : (Str → Option Value) → Heap → Prop} {YP : World → Heap → Prop} {d : DefRec} {K : Params → PySem.W.Frag} (many : l.most = some 63) (plain : d.params.defaults = []) (has : ∀ (w : World) (h : Heap), YP w h → (K w.params).In h)
    (F : ∀ (w : World) (mg : Str → Option Value) (fa : Addr) (h : Heap), (K w.params).In h → h.Ns mainGlobals mg → mg d.name = some (.ref fa) →
      ∃ fd : FuncData, (∀ (s : Shared) (u : Value), BindsTo s fd ⟨[u], []⟩ [("script", u)]) ∧ ∀ base : Heap, (K w.params).In base → base.Ns mainGlobals mg → FnG l.prog w (K w.params) mg base 8 fa fd ["script"] (spLaw (K w.params))) :
    PySem.W.WalkO q loose XP YP l.row.toRowW d [] (fun f vs => PySem.call f vs) :=
  walkG (n := 63) (k := 8) (sp := spLaw) many (by decide) plain ⟨rfl, by decide, by decide⟩ has F fun K H a ns few seq => ⟨a, ns, rfl, seq, few, fun _ => rfl⟩
end KZ

open PySem PySem.W PyProof.Rows in
set_option maxRecDepth 100000 in
set_option maxHeartbeats 0 in
theorem PySem.Challenge.cw_comesthrough_k14_raises_meek_and_keeps_holds : PySem.Challenge.rw_comesthrough_k14_raises_meek_and_keeps.Holds := by
  w_on; o_law; k_head; (case hw => w_witness2)
  k_fill
  refine KZ.walk (l := PySem.Challenge.rw_comesthrough_k14_raises_meek_and_keeps) rfl rfl (fun w h Y => PySem.W.kIn_of Y) ?F
  case F =>
    intro w mg fa h KX G hmg
    refine' KZ.all_mk KX G hmg ⟨?d0, ?d1, ?d2, ?d3, ?d4, ?d5, ?d6, ?d7, ?d8, ?d9, ?d10, ?d11, ?d12, ?d13, ?d14, ?d15, ?d16, ?d17, ?d18, ?d19, ?d20, ?d21, ?d22, ?d23, ?d24, ?d25, ?d26, ?d27, ?d28, ?d29, ?d30, ?d31⟩ ⟨?z0, ?z1, ?z2, ?z3, ?z4, ?z5, ?z6, ?z7, ?z8, ?z9⟩
    (case d0 => refine' KZ.at_mk ?a ?l ?c ?k; (case a => k_is); (case l => k_is); (case c => k_is); (case k => k_is))
    (case d1 => refine' KZ.at_mk ?a ?l ?c ?k; (case a => k_is); (case l => k_is); (case c => k_is); (case k => k_is))
    (case d2 => refine' KZ.at_mk ?a ?l ?c ?k; (case a => k_is); (case l => k_is); (case c => k_is); (case k => k_is))
    (case d3 => refine' KZ.at_mk ?a ?l ?c ?k; (case a => k_is); (case l => k_is); (case c => k_is); (case k => k_is))
    (case d4 => refine' KZ.at_mk ?a ?l ?c ?k; (case a => k_is); (case l => k_is); (case c => k_is); (case k => k_is))
    (case d5 => refine' KZ.at_mk ?a ?l ?c ?k; (case a => k_is); (case l => k_is); (case c => k_is); (case k => k_is))
    (case d6 => refine' KZ.at_mk ?a ?l ?c ?k; (case a => k_is); (case l => k_is); (case c => k_is); (case k => k_is))
    (case d7 => refine' KZ.at_mk ?a ?l ?c ?k; (case a => k_is); (case l => k_is); (case c => k_is); (case k => k_is))
    (case d8 => refine' KZ.at_mk ?a ?l ?c ?k; (case a => k_is); (case l => k_is); (case c => k_is); (case k => k_is))
    (case d9 => refine' KZ.at_mk ?a ?l ?c ?k; (case a => k_is); (case l => k_is); (case c => k_is); (case k => k_is))
    (case d10 => refine' KZ.at_mk ?a ?l ?c ?k; (case a => k_is); (case l => k_is); (case c => k_is); (case k => k_is))
    (case d11 => refine' KZ.at_mk ?a ?l ?c ?k; (case a => k_is); (case l => k_is); (case c => k_is); (case k => k_is))
    (case d12 => refine' KZ.at_mk ?a ?l ?c ?k; (case a => k_is); (case l => k_is); (case c => k_is); (case k => k_is))
    (case d13 => refine' KZ.at_mk ?a ?l ?c ?k; (case a => k_is); (case l => k_is); (case c => k_is); (case k => k_is))
    (case d14 => refine' KZ.at_mk ?a ?l ?c ?k; (case a => k_is); (case l => k_is); (case c => k_is); (case k => k_is))
    (case d15 => refine' KZ.at_mk ?a ?l ?c ?k; (case a => k_is); (case l => k_is); (case c => k_is); (case k => k_is))
    (case d16 => refine' KZ.at_mk ?a ?l ?c ?k; (case a => k_is); (case l => k_is); (case c => k_is); (case k => k_is))
    (case d17 => refine' KZ.at_mk ?a ?l ?c ?k; (case a => k_is); (case l => k_is); (case c => k_is); (case k => k_is))
    (case d18 => refine' KZ.at_mk ?a ?l ?c ?k; (case a => k_is); (case l => k_is); (case c => k_is); (case k => k_is))
    (case d19 => refine' KZ.at_mk ?a ?l ?c ?k; (case a => k_is); (case l => k_is); (case c => k_is); (case k => k_is))
    (case d20 => refine' KZ.at_mk ?a ?l ?c ?k; (case a => k_is); (case l => k_is); (case c => k_is); (case k => k_is))
    (case d21 => refine' KZ.at_mk ?a ?l ?c ?k; (case a => k_is); (case l => k_is); (case c => k_is); (case k => k_is))
    (case d22 => refine' KZ.at_mk ?a ?l ?c ?k; (case a => k_is); (case l => k_is); (case c => k_is); (case k => k_is))
    (case d23 => refine' KZ.at_mk ?a ?l ?c ?k; (case a => k_is); (case l => k_is); (case c => k_is); (case k => k_is))
    (case d24 => refine' KZ.at_mk ?a ?l ?c ?k; (case a => k_is); (case l => k_is); (case c => k_is); (case k => k_is))
    (case d25 => refine' KZ.at_mk ?a ?l ?c ?k; (case a => k_is); (case l => k_is); (case c => k_is); (case k => k_is))
    (case d26 => refine' KZ.at_mk ?a ?l ?c ?k; (case a => k_is); (case l => k_is); (case c => k_is); (case k => k_is))
    (case d27 => refine' KZ.at_mk ?a ?l ?c ?k; (case a => k_is); (case l => k_is); (case c => k_is); (case k => k_is))
    (case d28 => refine' KZ.at_mk ?a ?l ?c ?k; (case a => k_is); (case l => k_is); (case c => k_is); (case k => k_is))
    (case d29 => refine' KZ.at_mk ?a ?l ?c ?k; (case a => k_is); (case l => k_is); (case c => k_is); (case k => k_is))
    (case d30 => refine' KZ.at_mk ?a ?l ?c ?k; (case a => k_is); (case l => k_is); (case c => k_is); (case k => k_is))
    (case d31 => refine' KZ.at_mk ?a ?l ?c ?k; (case a => k_is); (case l => k_is); (case c => k_is); (case k => k_is))
    (case z0 => k_is)
    (case z1 => k_is)
    (case z2 => k_is)
    (case z3 => k_is)
    (case z4 => k_is)
    (case z5 => k_is)
    (case z6 => k_is)
    (case z7 => k_is)
    (case z8 => k_is)
    (case z9 => k_is)
#print axioms PySem.Challenge.cw_comesthrough_k14_raises_meek_and_keeps_holds
