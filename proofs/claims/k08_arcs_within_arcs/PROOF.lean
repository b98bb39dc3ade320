import PyProof.Rows.All
import Wide.All
import OpenK.AllK
import Wide.FinOn
import HandS.ForMost
import HandS.Evl
import HandS.Deep
import HandS.TupAny
import HandS.IsInst
import HandS.Conv
import HandS.Flow
import HandS.Style
import HandS.SetFor
import HandS.Strs
import HandS.DictComp
import HandS.DictTup
import KE.SortData
import PySem.Challenge.RW_keptarcs_k08_arcs_within_arcs
set_option Elab.async false
set_option linter.all false
set_option maxRecDepth 100000
/-! Ka: a calculus over data. A def's body is run over data (PyData), not over addresses: W tells which objects are kept apart (hidden) and what is known of them. -/
namespace Ka
open PySem PySem.Spec PyProof.Rows L2 Evl

/-! ### what is hidden -/
def vw (hid : Addr → Bool) (H : Hp) : Hp := fun a => if hid a = true then none else H a
theorem vw_of {hid : Addr → Bool} {H : Hp} {a : Addr} (h : hid a = false) : vw hid H a = H a := by
  unfold vw
  rw [h]
  rfl
theorem vw_hid {hid : Addr → Bool} {H : Hp} {a : Addr} (h : hid a = true) : vw hid H a = none := by
  unfold vw
  rw [if_pos h]
theorem vw_some {hid : Addr → Bool} {H : Hp} {a : Addr} {o : HO} (h : vw hid H a = some o) : hid a = false ∧ H a = some o := by
  cases e : hid a with
  | true =>
    rw [vw_hid e] at h
    cases h
  | false =>
    rw [vw_of e] at h
    exact ⟨rfl, h⟩
theorem vw_ex {hid : Addr → Bool} {H H' : Hp} (e : Ex H H') : Ex (vw hid H) (vw hid H') := fun a o h => by
  obtain ⟨h1, h2⟩ := vw_some h
  rw [vw_of h1]
  exact e a o h2
/-- fewer hidden -/
theorem vw_less {hid hid' : Addr → Bool} {H : Hp} (h : ∀ a, hid' a = true → hid a = true) : Ex (vw hid H) (vw hid' H) := fun a o q => by
  obtain ⟨h1, h2⟩ := vw_some q
  cases e : hid' a with
  | true =>
    rw [h a e] at h1
    cases h1
  | false =>
    rw [vw_of e]
    exact h2
structure Wd where
  hid : Addr → Bool
  inv : Hp → Prop
  loc : ∀ H H' : Hp, (∀ a, hid a = true → H' a = H a) → Ex (vw hid H) (vw hid H') → inv H → inv H'
  live : ∀ (H : Hp) (a : Addr), inv H → hid a = true → H a ≠ none
abbrev Wd.view (W : Wd) (H : Hp) : Hp := vw W.hid H
theorem Wd.view_of {W : Wd} {H : Hp} {a : Addr} (h : W.hid a = false) : W.view H a = H a := vw_of h
theorem Wd.view_some {W : Wd} {H : Hp} {a : Addr} {o : HO} (h : W.view H a = some o) : W.hid a = false ∧ H a = some o := vw_some h
theorem Wd.view_le {W : Wd} {H : Hp} : Ex (W.view H) H := fun _ _ h => (vw_some h).2
theorem Wd.hid_none {W : Wd} {H : Hp} {a : Addr} (i : W.inv H) (h : H a = none) : W.hid a = false := by
  cases e : W.hid a with
  | true => exact absurd h (W.live H a i e)
  | false => rfl
/-- nothing is hidden -/
def Wd.top : Wd := ⟨fun _ => false, fun _ => True, fun _ _ _ _ _ => trivial, fun _ _ _ h => by cases h⟩
/-- what is known of a hidden object -/
structure Kn where
  of : Hp → HO → Prop
  mono : ∀ {H H' : Hp} {o : HO}, Ex H H' → of H o → of H' o
abbrev hidAnd (hid : Addr → Bool) (l : Addr) : Addr → Bool := fun a => hid a || decide (a = l)
theorem hidAnd_self {hid : Addr → Bool} {l : Addr} : hidAnd hid l l = true := by simp [hidAnd]
theorem hidAnd_ne {hid : Addr → Bool} {l a : Addr} (h : hid a = false) (hn : a ≠ l) : hidAnd hid l a = false := by simp [hidAnd, h, hn]
theorem hidAnd_of {hid : Addr → Bool} {l a : Addr} (h : hid a = true) : hidAnd hid l a = true := by simp [hidAnd, h]
/-- the heap without l -/
def del (H : Hp) (l : Addr) : Hp := fun a => if a = l then none else H a
theorem del_self {H : Hp} {l : Addr} : del H l l = none := by
  unfold del
  rw [if_pos rfl]
theorem del_ne {H : Hp} {l a : Addr} (h : a ≠ l) : del H l a = H a := by
  unfold del
  rw [if_neg h]
theorem del_le {H : Hp} {l : Addr} : Ex (del H l) H := fun a o h => by
  by_cases e : a = l
  · rw [e, del_self] at h
    cases h
  · rw [del_ne e] at h
    exact h
theorem del_upd {H : Hp} {l : Addr} {o : HO} : del (upd H l o) l = del H l := by
  funext a
  by_cases e : a = l
  · rw [e, del_self, del_self]
  · rw [del_ne e, del_ne e, upd_ne e]
theorem del_none {H : Hp} {l : Addr} (h : H l = none) : del H l = H := by
  funext a
  by_cases e : a = l
  · rw [e, del_self, h]
  · rw [del_ne e]
theorem vw_del {hid : Addr → Bool} {H : Hp} {l : Addr} : vw (hidAnd hid l) H = vw hid (del H l) := by
  funext a
  by_cases e : a = l
  · rw [e, vw_hid hidAnd_self]
    unfold vw
    rw [del_self]
    split <;> rfl
  · unfold vw hidAnd
    rw [decide_eq_false e, Bool.or_false, del_ne e]
/-- the object at l stands apart; φ is known of it -/
def Wd.hide (W : Wd) (l : Addr) (φ : Kn) : Wd where
  hid := hidAnd W.hid l
  inv H := W.inv (del H l) ∧ ∃ o, H l = some o ∧ φ.of (vw W.hid (del H l)) o
  loc H H' h e i := by
    obtain ⟨i1, o, ho, p⟩ := i
    rw [vw_del, vw_del] at e
    refine ⟨W.loc (del H l) (del H' l) (fun a ha => ?_) e i1, o, by rw [h l hidAnd_self]; exact ho, φ.mono e p⟩
    by_cases hl : a = l
    · rw [hl, del_self, del_self]
    · rw [del_ne hl, del_ne hl]
      exact h a (hidAnd_of ha)
  live H a i h := by
    obtain ⟨i1, o, ho, _⟩ := i
    rcases Bool.or_eq_true_iff.mp h with q | q
    · exact fun z => W.live (del H l) a i1 q (by
        by_cases hl : a = l
        · rw [hl, del_self]
        · rw [del_ne hl]
          exact z)
    · have e : a = l := of_decide_eq_true q
      rw [e, ho]
      exact fun z => by cases z
/-- all that was there stands: the hidden things too -/
theorem Wd.inv_ex {W : Wd} {H H' : Hp} (i : W.inv H) (e : Ex H H') : W.inv H' := W.loc H H' (fun a ha => by
  cases q : H a with
  | none => exact absurd q (W.live H a i ha)
  | some o => exact e a o q) (vw_ex e) i
theorem Wd.view_ex {W : Wd} {H H' : Hp} (e : Ex H H') : Ex (W.view H) (W.view H') := vw_ex e
/-- a new object -/
theorem Wd.inv_new {W : Wd} {H : Hp} {p : Addr} {o : HO} (i : W.inv H) (hp : H p = none) : W.inv (upd H p o) := Wd.inv_ex i (Ex.new hp)
theorem Wd.view_new {W : Wd} {H : Hp} {p : Addr} {o : HO} (i : W.inv H) (hp : H p = none) : W.view (upd H p o) p = some o := by
  rw [Wd.view_of (Wd.hid_none i hp)]
  exact upd_same
/-- a new object is hidden at once -/
theorem Wd.hide_new {W : Wd} {H : Hp} {p : Addr} {o : HO} {φ : Kn} (i : W.inv H) (hp : H p = none) (h : φ.of (W.view H) o) : (W.hide p φ).inv (upd H p o) ∧ (W.hide p φ).view (upd H p o) = W.view H := by
  have e : (W.hide p φ).view (upd H p o) = W.view H := by
    show vw (hidAnd W.hid p) (upd H p o) = vw W.hid H
    rw [vw_del, del_upd, del_none hp]
  refine ⟨⟨?_, o, upd_same, ?_⟩, e⟩
  · rw [del_upd, del_none hp]
    exact i
  · rw [del_upd, del_none hp]
    exact h
/-- a hidden object is written -/
theorem Wd.hide_put {W : Wd} {H : Hp} {p : Addr} {u : HO} {φ ψ : Kn} (i : (W.hide p φ).inv H) (h : ψ.of ((W.hide p φ).view H) u) : (W.hide p ψ).inv (upd H p u) ∧ (W.hide p ψ).view (upd H p u) = (W.hide p φ).view H := by
  obtain ⟨i1, o, ho, k⟩ := i
  have e1 : (W.hide p φ).view H = vw W.hid (del H p) := vw_del
  have e : (W.hide p ψ).view (upd H p u) = (W.hide p φ).view H := by
    rw [e1]
    show vw (hidAnd W.hid p) (upd H p u) = _
    rw [vw_del, del_upd]
  rw [e1] at h
  refine ⟨⟨?_, u, upd_same, ?_⟩, e⟩
  · rw [del_upd]
    exact i1
  · rw [del_upd]
    exact h
theorem Wd.hide_at {W : Wd} {H : Hp} {p : Addr} {φ : Kn} (i : (W.hide p φ).inv H) : ∃ o, H p = some o ∧ φ.of ((W.hide p φ).view H) o := by
  obtain ⟨i1, o, ho, k⟩ := i
  refine ⟨o, ho, ?_⟩
  show φ.of (vw (hidAnd W.hid p) H) o
  rw [vw_del]
  exact k
/-- it is seen again -/
theorem Wd.unhide {W : Wd} {H : Hp} {p : Addr} {φ : Kn} (hp : W.hid p = false) (i : (W.hide p φ).inv H) : W.inv H ∧ Ex ((W.hide p φ).view H) (W.view H) ∧ ∃ o, W.view H p = some o ∧ φ.of (W.view H) o := by
  have k := Wd.hide_at i
  obtain ⟨i1, _⟩ := i
  have e : Ex ((W.hide p φ).view H) (W.view H) := vw_less fun a h => hidAnd_of h
  obtain ⟨o, ho, k⟩ := k
  refine ⟨W.inv_ex i1 del_le, e, o, ?_, φ.mono e k⟩
  rw [Wd.view_of hp]
  exact ho

/-! ### data in the heap -/
mutual
inductive Dq (K : PySem.W.Frag) (H : Hp) : V → PyData → Prop
  | non : Dq K H .non .none
  | bl (b : Bool) : Dq K H (.bl b) (.bool b)
  | int (i : Int) : Dq K H (.int i) (.int i)
  | str (x : Str) : Dq K H (.str x) (.str x)
  | lst {a : Addr} {xs : List V} {ds : List PyData} : H a = some (.lst xs) → Dqs K H xs ds → Dq K H (.ref a) (.list ds)
  | tup {a : Addr} {xs : List V} {ds : List PyData} : SqT K H a xs → Dqs K H xs ds → Dq K H (.ref a) (.tuple ds)
inductive Dqs (K : PySem.W.Frag) (H : Hp) : List V → List PyData → Prop
  | nil : Dqs K H [] []
  | cons {v : V} {vs : List V} {d : PyData} {ds : List PyData} : Dq K H v d → Dqs K H vs ds → Dqs K H (v :: vs) (d :: ds)
end
section
variable {K : PySem.W.Frag} {H H' : Hp}
mutual
theorem Dq.mono (e : Ex H H') : ∀ {v : V} {d : PyData}, Dq K H v d → Dq K H' v d
  | _, _, .non => .non
  | _, _, .bl b => .bl b
  | _, _, .int i => .int i
  | _, _, .str x => .str x
  | _, _, .lst h hs => .lst (e _ _ h) (Dqs.mono e hs)
  | _, _, .tup h hs => .tup (ex_t e h) (Dqs.mono e hs)
theorem Dqs.mono (e : Ex H H') : ∀ {vs : List V} {ds : List PyData}, Dqs K H vs ds → Dqs K H' vs ds
  | _, _, .nil => .nil
  | _, _, .cons h hs => .cons (Dq.mono e h) (Dqs.mono e hs)
end
mutual
theorem Dq.dp : ∀ {v : V} {d : PyData}, Dq K H v d → Dp K H v d
  | _, _, .non => .non
  | _, _, .bl b => .bl b
  | _, _, .int i => .int i
  | _, _, .str x => .str x
  | _, _, .lst h hs => .lst (SqL.of h) (Dqs.dp hs)
  | _, _, .tup h hs => .tup h (Dqs.dp hs)
theorem Dqs.dp : ∀ {vs : List V} {ds : List PyData}, Dqs K H vs ds → DpAll K H vs ds
  | _, _, .nil => .nil
  | _, _, .cons h hs => .cons (Dq.dp h) (Dqs.dp hs)
end
theorem Dqs.length : ∀ {vs : List V} {ds : List PyData}, Dqs K H vs ds → vs.length = ds.length
  | _, _, .nil => rfl
  | _, _, .cons _ hs => by rw [List.length_cons, List.length_cons, Dqs.length hs]
theorem Dqs.get : ∀ {vs : List V} {ds : List PyData} {i : Nat} {v : V}, Dqs K H vs ds → vs[i]? = some v → ∃ d, ds[i]? = some d ∧ Dq K H v d
  | _, _, _, _, .nil, e => by simp at e
  | _, _, 0, _, .cons h _, e => by
    simp at e
    subst e
    exact ⟨_, rfl, h⟩
  | _, _, i + 1, v, .cons _ hs, e => by
    obtain ⟨d, h1, h2⟩ := Dqs.get (i := i) (v := v) hs (by simpa using e)
    exact ⟨d, by simpa using h1, h2⟩
theorem Dqs.getd : ∀ {vs : List V} {ds : List PyData} {i : Nat} {d : PyData}, Dqs K H vs ds → ds[i]? = some d → ∃ v, vs[i]? = some v ∧ Dq K H v d
  | _, _, _, _, .nil, e => by simp at e
  | _, _, 0, _, .cons h _, e => by
    simp at e
    subst e
    exact ⟨_, rfl, h⟩
  | _, _, i + 1, v, .cons _ hs, e => by
    obtain ⟨d, h1, h2⟩ := Dqs.getd (i := i) (d := v) hs (by simpa using e)
    exact ⟨d, by simpa using h1, h2⟩
theorem Dqs.append : ∀ {vs us : List V} {ds es : List PyData}, Dqs K H vs ds → Dqs K H us es → Dqs K H (vs ++ us) (ds ++ es)
  | _, _, _, _, .nil, h => h
  | _, _, _, _, .cons h1 h2, h => .cons h1 (Dqs.append h2 h)
theorem Dqs.take : ∀ {vs : List V} {ds : List PyData} (n : Nat), Dqs K H vs ds → Dqs K H (vs.take n) (ds.take n)
  | _, _, 0, _ => .nil
  | _, _, _ + 1, .nil => .nil
  | _, _, n + 1, .cons h hs => .cons h (Dqs.take n hs)
theorem Dqs.drop : ∀ {vs : List V} {ds : List PyData} (n : Nat), Dqs K H vs ds → Dqs K H (vs.drop n) (ds.drop n)
  | _, _, 0, h => h
  | _, _, _ + 1, .nil => .nil
  | _, _, n + 1, .cons _ hs => Dqs.drop n hs
theorem Dqs.reverse : ∀ {vs : List V} {ds : List PyData}, Dqs K H vs ds → Dqs K H vs.reverse ds.reverse
  | _, _, .nil => .nil
  | _, _, .cons h hs => by
    rw [List.reverse_cons, List.reverse_cons]
    exact Dqs.append (Dqs.reverse hs) (.cons h .nil)
theorem Dqs.ints : ∀ (ns : List Int), Dqs K H (ns.map V.int) (ns.map PyData.int)
  | [] => .nil
  | n :: ns => .cons (.int n) (Dqs.ints ns)
theorem Dqs.ints_inv : ∀ {ns : List Int} {vs : List V}, Dqs K H vs (ns.map PyData.int) → vs = ns.map V.int
  | [], _, h => by
    cases h
    rfl
  | n :: ns, _, h => by
    cases h with
    | cons h1 h2 =>
      cases h1
      rw [Dqs.ints_inv (ns := ns) h2]
      rfl
end

/-! ### a slot's content: data, a bare value, an object -/
inductive DV where
  | dat (d : PyData)
  | raw (v : V)
  | obj (f : Addr → HO)
def RepV (K : PySem.W.Frag) (H : Hp) (v : V) : DV → Prop
  | .dat d => Dq K H v d
  | .raw u => v = u
  | .obj f => ∃ p, v = .ref p ∧ H p = some (f p)
theorem RepV.mono {K : PySem.W.Frag} {H H' : Hp} {v : V} (x : Ex H H') : ∀ {e : DV}, RepV K H v e → RepV K H' v e
  | .dat _, h => Dq.mono x h
  | .raw _, h => h
  | .obj _, ⟨p, h1, h2⟩ => ⟨p, h1, x _ _ h2⟩
abbrev DEnv := List (Option DV)
abbrev Reps (K : PySem.W.Frag) (H : Hp) : List V → List DV → Prop := Paired fun v e => RepV K H v e
theorem Reps.mono {K : PySem.W.Frag} {H H' : Hp} (x : Ex H H') : ∀ {vs : List V} {es : List DV}, Reps K H vs es → Reps K H' vs es
  | _, _, .nil => .nil
  | _, _, .cons h t => .cons (RepV.mono x h) (Reps.mono x t)
/-- the slots hold what the data environment says -/
structure EnvOk (K : PySem.W.Frag) (H : Hp) (σ : L2.St) (Δ : DEnv) : Prop where
  len : σ.length = Δ.length
  at_ : ∀ (i : Nat) (e : DV), Δ[i]? = some (some e) → ∃ v, σ[i]? = some (some v) ∧ RepV K H v e
theorem EnvOk.mono {K : PySem.W.Frag} {H H' : Hp} {σ : L2.St} {Δ : DEnv} (x : Ex H H') (h : EnvOk K H σ Δ) : EnvOk K H' σ Δ :=
  ⟨h.len, fun i e q => by
    obtain ⟨v, h1, h2⟩ := h.at_ i e q
    exact ⟨v, h1, h2.mono x⟩⟩
theorem EnvOk.set {K : PySem.W.Frag} {H : Hp} {σ : L2.St} {Δ : DEnv} (h : EnvOk K H σ Δ) {i : Nat} {v : V} {e : DV} (r : RepV K H v e) : EnvOk K H (σ.set i (some v)) (Δ.set i (some e)) :=
  ⟨by rw [List.length_set, List.length_set, h.len], fun j u q => by
    by_cases hj : i = j
    · subst hj
      by_cases hl : i < Δ.length
      · rw [List.getElem?_set_self hl] at q
        cases q
        exact ⟨v, by rw [List.getElem?_set_self (by rw [h.len]; exact hl)], r⟩
      · rw [List.getElem?_eq_none (by simpa using hl)] at q
        cases q
    · rw [List.getElem?_set_ne hj] at q ⊢
      exact h.at_ j u q⟩
/-- slots forgotten -/
def wipeD (Δ : DEnv) : List Nat → DEnv
  | [] => Δ
  | v :: vs => (wipeD Δ vs).set v none
theorem EnvOk.forget {K : PySem.W.Frag} {H : Hp} {σ : L2.St} {Δ : DEnv} (h : EnvOk K H σ Δ) {i : Nat} : EnvOk K H (σ.set i none) (Δ.set i none) :=
  ⟨by rw [List.length_set, List.length_set, h.len], fun j u q => by
    by_cases hj : i = j
    · subst hj
      by_cases hl : i < Δ.length
      · rw [List.getElem?_set_self hl] at q
        cases q
      · rw [List.getElem?_eq_none (by simpa using hl)] at q
        cases q
    · rw [List.getElem?_set_ne hj] at q ⊢
      exact h.at_ j u q⟩
theorem EnvOk.wipe {K : PySem.W.Frag} {H : Hp} {σ : L2.St} {Δ : DEnv} (h : EnvOk K H σ Δ) : ∀ {vs : List Nat}, EnvOk K H (wipe σ vs) (wipeD Δ vs)
  | [] => h
  | v :: vs => (EnvOk.wipe h (vs := vs)).forget
/-- what one no longer asks about -/
theorem EnvOk.less {K : PySem.W.Frag} {H : Hp} {σ : L2.St} {Δ Δ' : DEnv} (h : EnvOk K H σ Δ) (hl : Δ'.length = Δ.length) (hs : ∀ (i : Nat) (e : DV), Δ'[i]? = some (some e) → Δ[i]? = some (some e)) : EnvOk K H σ Δ' :=
  ⟨by rw [h.len, hl], fun i e q => h.at_ i e (hs i e q)⟩

/-! ### the judgements -/
section
variable (K : PySem.W.Frag)
/-- an expression gives a content of which P -/
def DE (W : Wd) (Δ : DEnv) (te : TE) (P : DV → Prop) : Prop :=
  ∀ (σ : L2.St) (H : Hp), EnvOk K (W.view H) σ Δ → W.inv H → ∀ Q : VK, (∀ v H' e, W.inv H' → Ex (W.view H) (W.view H') → P e → RepV K (W.view H') v e → Q v H') → te σ H Q
def DT (W : Wd) (Δ : DEnv) (tt : TT) (P : Bool → Prop) : Prop :=
  ∀ (σ : L2.St) (H : Hp), EnvOk K (W.view H) σ Δ → W.inv H → ∀ Q : Bool → Hp → Prop, (∀ b H', W.inv H' → Ex (W.view H) (W.view H') → P b → Q b H') → tt σ H Q
def DA (W : Wd) (Δ : DEnv) (ta : TA) (P : List DV → Prop) : Prop :=
  ∀ (σ : L2.St) (H : Hp), EnvOk K (W.view H) σ Δ → W.inv H → ∀ Q : List V → Hp → Prop, (∀ vs H' es, W.inv H' → Ex (W.view H) (W.view H') → P es → Reps K (W.view H') vs es → Q vs H') → ta σ H Q
/-- an operation by values -/
def OpD (W : Wd) (r : R2) (a b : DV) (P : DV → Prop) : Prop :=
  ∀ (x y : V) (H : Hp), W.inv H → RepV K (W.view H) x a → RepV K (W.view H) y b → ∀ Q : VK, (∀ v H' e, W.inv H' → Ex (W.view H) (W.view H') → P e → RepV K (W.view H') v e → Q v H') → r x y H Q
def UnD (W : Wd) (r : V → Hp → VK → Prop) (a : DV) (P : DV → Prop) : Prop :=
  ∀ (x : V) (H : Hp), W.inv H → RepV K (W.view H) x a → ∀ Q : VK, (∀ v H' e, W.inv H' → Ex (W.view H) (W.view H') → P e → RepV K (W.view H') v e → Q v H') → r x H Q
def CalD (W : Wd) (r : List V → Hp → VK → Prop) (as : List DV) (P : DV → Prop) : Prop :=
  ∀ (xs : List V) (H : Hp), W.inv H → Reps K (W.view H) xs as → ∀ Q : VK, (∀ v H' e, W.inv H' → Ex (W.view H) (W.view H') → P e → RepV K (W.view H') v e → Q v H') → r xs H Q
/-- a statement: nx what follows, rt the return, bk, ct -/
structure Cnt (W : Wd) (H : Hp) (D : Ends) (nx : Wd → DEnv → Prop) (rt : Wd → DV → Prop) (bk ct : Wd → DEnv → Prop) : Prop where
  nx : ∀ W' Δ' σ' H', nx W' Δ' → W'.inv H' → Ex (W.view H) (W'.view H') → EnvOk K (W'.view H') σ' Δ' → D.nx σ' H'
  rt : ∀ W' e v H', rt W' e → W'.inv H' → Ex (W.view H) (W'.view H') → RepV K (W'.view H') v e → D.rt v H'
  bk : ∀ W' Δ' σ' H', bk W' Δ' → W'.inv H' → Ex (W.view H) (W'.view H') → EnvOk K (W'.view H') σ' Δ' → D.bk σ' H'
  ct : ∀ W' Δ' σ' H', ct W' Δ' → W'.inv H' → Ex (W.view H) (W'.view H') → EnvOk K (W'.view H') σ' Δ' → D.ct σ' H'
def DS (W : Wd) (Δ : DEnv) (t : TS) (nx : Wd → DEnv → Prop) (rt : Wd → DV → Prop) (bk ct : Wd → DEnv → Prop) : Prop :=
  ∀ (σ : L2.St) (H : Hp) (D : Ends), EnvOk K (W.view H) σ Δ → W.inv H → Cnt K W H D nx rt bk ct → t D σ H
end
section
variable {K : PySem.W.Frag} {W W1 : Wd} {Δ Δ1 : DEnv} {te ta tb tc tx : TE} {tt tu : TT} {t u : TS} {r r' : R2} {P P' : DV → Prop} {PB : Bool → Prop} {PL : List DV → Prop}
  {nx nx' : Wd → DEnv → Prop} {rt : Wd → DV → Prop} {bk ct : Wd → DEnv → Prop} {H H1 : Hp} {D : Ends}
theorem Cnt.step (c : Cnt K W H D nx rt bk ct) (x : Ex (W.view H) (W1.view H1)) : Cnt K W1 H1 D nx rt bk ct :=
  ⟨fun W' Δ' σ' H' n i e v => c.nx W' Δ' σ' H' n i (x.trans e) v, fun W' e v H' n i x2 r => c.rt W' e v H' n i (x.trans x2) r, fun W' Δ' σ' H' n i e v => c.bk W' Δ' σ' H' n i (x.trans e) v, fun W' Δ' σ' H' n i e v => c.ct W' Δ' σ' H' n i (x.trans e) v⟩
theorem DE.mono (h : DE K W Δ te P) (k : ∀ e, P e → P' e) : DE K W Δ te P' := fun σ H v i Q q => h σ H v i Q fun v' H' e i' x p r => q v' H' e i' x (k e p) r
theorem DT.mono {PB' : Bool → Prop} (h : DT K W Δ tt PB) (k : ∀ b, PB b → PB' b) : DT K W Δ tt PB' := fun σ H v i Q q => h σ H v i Q fun b H' i' x p => q b H' i' x (k b p)
theorem DA.mono {ta : TA} {PL' : List DV → Prop} (h : DA K W Δ ta PL) (k : ∀ es, PL es → PL' es) : DA K W Δ ta PL' := fun σ H v i Q q => h σ H v i Q fun vs H' es i' x p r => q vs H' es i' x (k es p) r
theorem DS.mono {rt' : Wd → DV → Prop} {bk' ct' : Wd → DEnv → Prop} (h : DS K W Δ t nx rt bk ct) (k1 : ∀ W Δ, nx W Δ → nx' W Δ) (k2 : ∀ W e, rt W e → rt' W e) (k3 : ∀ W Δ, bk W Δ → bk' W Δ) (k4 : ∀ W Δ, ct W Δ → ct' W Δ) : DS K W Δ t nx' rt' bk' ct' :=
  fun σ H D v i c => h σ H D v i ⟨fun W' Δ' σ' H' n => c.nx W' Δ' σ' H' (k1 _ _ n), fun W' e v H' n => c.rt W' e v H' (k2 _ _ n), fun W' Δ' σ' H' n => c.bk W' Δ' σ' H' (k3 _ _ n), fun W' Δ' σ' H' n => c.ct W' Δ' σ' H' (k4 _ _ n)⟩
/-- fewer things known -/
theorem DS.less {Δ' : DEnv} (h : DS K W Δ' t nx rt bk ct) (hl : Δ'.length = Δ.length) (hs : ∀ (i : Nat) (e : DV), Δ'[i]? = some (some e) → Δ[i]? = some (some e)) : DS K W Δ t nx rt bk ct :=
  fun σ H D v i c => h σ H D (v.less hl hs) i c

/-! ### expressions -/
theorem de_var {i : Nat} {e : DV} (h : Δ[i]? = some (some e)) (k : P e) : DE K W Δ (tVar i) P := fun σ H v i Q q => by
  obtain ⟨x, h1, h2⟩ := v.at_ _ e h
  exact ⟨x, h1, q x H e i (Ex.refl _) k h2⟩
theorem de_int {n : Int} (k : P (.dat (.int n))) : DE K W Δ (tC (.int n)) P := fun σ H v i Q q => q _ H _ i (Ex.refl _) k (.int n)
theorem de_str {x : Str} (k : P (.dat (.str x))) : DE K W Δ (tC (.str x)) P := fun σ H v i Q q => q _ H _ i (Ex.refl _) k (.str x)
theorem de_bl {b : Bool} (k : P (.dat (.bool b))) : DE K W Δ (tC (.bl b)) P := fun σ H v i Q q => q _ H _ i (Ex.refl _) k (.bl b)
theorem de_non (k : P (.dat .none)) : DE K W Δ (tC .non) P := fun σ H v i Q q => q _ H _ i (Ex.refl _) k .non
theorem de_raw {x : V} (k : P (.raw x)) : DE K W Δ (tC x) P := fun σ H v i Q q => q _ H _ i (Ex.refl _) k rfl
theorem de_op (h : DE K W Δ ta fun a => DE K W Δ tb fun b => OpD K W r a b P) : DE K W Δ (tOp r ta tb) P := fun σ H v i Q q =>
  h σ H v i _ fun x H1 a i1 x1 p1 r1 => p1 σ H1 (v.mono x1) i1 _ fun y H2 b i2 x2 p2 r2 => p2 x y H2 i2 (r1.mono x2) r2 Q fun z H3 e i3 x3 p r3 => q z H3 e i3 ((x1.trans x2).trans x3) p r3
theorem de_un {r : V → Hp → VK → Prop} (h : DE K W Δ ta fun a => UnD K W r a P) : DE K W Δ (tUn r ta) P := fun σ H v i Q q =>
  h σ H v i _ fun x H1 a i1 x1 p1 r1 => p1 x H1 i1 r1 Q fun z H3 e i3 x3 p r3 => q z H3 e i3 (x1.trans x3) p r3
theorem de_if (h : DT K W Δ tt fun b => (b = true → DE K W Δ ta P) ∧ (b = false → DE K W Δ tb P)) : DE K W Δ (tIf tt ta tb) P := fun σ H v i Q q =>
  h σ H v i _ fun b H1 i1 x1 p1 => by
    cases b with
    | true =>
      show ta σ H1 Q
      exact p1.1 rfl σ H1 (v.mono x1) i1 Q fun z H3 e i3 x3 p r3 => q z H3 e i3 (x1.trans x3) p r3
    | false =>
      show tb σ H1 Q
      exact p1.2 rfl σ H1 (v.mono x1) i1 Q fun z H3 e i3 x3 p r3 => q z H3 e i3 (x1.trans x3) p r3
theorem de_andV (h : DE K W Δ ta fun a => ∃ b, a = .dat (.bool b) ∧ (b = true → DE K W Δ tb P) ∧ (b = false → P (.dat (.bool false)))) : DE K W Δ (tAndV ta tb) P := fun σ H v i Q q =>
  h σ H v i _ fun x H1 a i1 x1 p1 r1 => by
    obtain ⟨b, rfl, k1, k2⟩ := p1
    cases r1
    cases b with
    | true => exact ⟨true, rfl, k1 rfl σ H1 (v.mono x1) i1 Q fun z H3 e i3 x3 p r3 => q z H3 e i3 (x1.trans x3) p r3⟩
    | false => exact ⟨false, rfl, q _ H1 _ i1 x1 (k2 rfl) (.bl false)⟩
theorem de_orV (h : DE K W Δ ta fun a => ∃ b, a = .dat (.bool b) ∧ (b = false → DE K W Δ tb P) ∧ (b = true → P (.dat (.bool true)))) : DE K W Δ (tOrV ta tb) P := fun σ H v i Q q =>
  h σ H v i _ fun x H1 a i1 x1 p1 r1 => by
    obtain ⟨b, rfl, k1, k2⟩ := p1
    cases r1
    cases b with
    | true => exact ⟨true, rfl, q _ H1 _ i1 x1 (k2 rfl) (.bl true)⟩
    | false => exact ⟨false, rfl, k1 rfl σ H1 (v.mono x1) i1 Q fun z H3 e i3 x3 p r3 => q z H3 e i3 (x1.trans x3) p r3⟩
theorem de_notV (h : DE K W Δ ta fun a => ∃ b, a = .dat (.bool b) ∧ P (.dat (.bool (!b)))) : DE K W Δ (tNotV ta) P := fun σ H v i Q q =>
  h σ H v i _ fun x H1 a i1 x1 p1 r1 => by
    obtain ⟨b, rfl, k1⟩ := p1
    cases r1
    exact ⟨b, rfl, q _ H1 _ i1 x1 k1 (.bl _)⟩
theorem da_nil (k : PL []) : DA K W Δ tNil PL := fun σ H v i Q q => q [] H [] i (Ex.refl _) k .nil
theorem da_cons {tr : TA} (h : DE K W Δ te fun e => DA K W Δ tr fun es => PL (e :: es)) : DA K W Δ (tCons te tr) PL := fun σ H v i Q q =>
  h σ H v i _ fun x H1 e i1 x1 p1 r1 => p1 σ H1 (v.mono x1) i1 _ fun xs H2 es i2 x2 p2 r2 => q _ H2 _ i2 (x1.trans x2) p2 (.cons (r1.mono x2) r2)
/-- all of some contents are data -/
def Dats (es : List DV) (ds : List PyData) : Prop := es = ds.map DV.dat
theorem Reps.dats : ∀ {vs : List V} {ds : List PyData}, Reps K H vs (ds.map DV.dat) → Dqs K H vs ds
  | _, [], h => by
    cases h
    exact .nil
  | _, d :: ds, h => by
    cases h with
    | cons h1 h2 => exact .cons h1 (Reps.dats h2)
theorem Dqs.reps : ∀ {vs : List V} {ds : List PyData}, Dqs K H vs ds → Reps K H vs (ds.map DV.dat)
  | _, _, .nil => .nil
  | _, _, .cons h hs => .cons h (Dqs.reps hs)
/-- a new tuple, a new list of data -/
theorem Dq.newT {p : Addr} {vs : List V} {ds : List PyData} (i : W.inv H) (hp : H p = none) (h : Dqs K (W.view H) vs ds) : Dq K (W.view (upd H p (.tup vs))) (.ref p) (.tuple ds) :=
  .tup (SqT.of (Wd.view_new i hp)) (h.mono (Wd.view_ex (Ex.new hp)))
theorem Dq.newL {p : Addr} {vs : List V} {ds : List PyData} (i : W.inv H) (hp : H p = none) (h : Dqs K (W.view H) vs ds) : Dq K (W.view (upd H p (.lst vs))) (.ref p) (.list ds) :=
  .lst (Wd.view_new i hp) (h.mono (Wd.view_ex (Ex.new hp)))
theorem de_tup {ta : TA} (h : DA K W Δ ta fun es => ∃ ds, es = ds.map DV.dat ∧ ds.length ≤ 100000 ∧ P (.dat (.tuple ds))) : DE K W Δ (tTup ta) P := fun σ H v i Q q =>
  h σ H v i _ fun xs H1 es i1 x1 p1 r1 => by
    obtain ⟨ds, rfl, hl, k⟩ := p1
    have hd := Reps.dats r1
    exact ⟨sz_of (by rw [hd.length]; exact hl), fun p hp => q _ _ _ (Wd.inv_new i1 hp) (x1.trans (Wd.view_ex (Ex.new hp))) k (Dq.newT i1 hp hd)⟩
theorem de_lst {ta : TA} (h : DA K W Δ ta fun es => ∃ ds, es = ds.map DV.dat ∧ ds.length ≤ 100000 ∧ P (.dat (.list ds))) : DE K W Δ (tLst ta) P := fun σ H v i Q q =>
  h σ H v i _ fun xs H1 es i1 x1 p1 r1 => by
    obtain ⟨ds, rfl, hl, k⟩ := p1
    have hd := Reps.dats r1
    exact ⟨sz_of (by rw [hd.length]; exact hl), fun p hp => q _ _ _ (Wd.inv_new i1 hp) (x1.trans (Wd.view_ex (Ex.new hp))) k (Dq.newL i1 hp hd)⟩
theorem de_cb {r : List V → Hp → VK → Prop} {ta : TA} (h : DA K W Δ ta fun es => CalD K W r es P) : DE K W Δ (tCB r ta) P := fun σ H v i Q q =>
  h σ H v i _ fun xs H1 es i1 x1 p1 r1 => p1 xs H1 i1 r1 Q fun z H3 e i3 x3 p r3 => q z H3 e i3 (x1.trans x3) p r3
theorem de_chain (h : DE K W Δ ta fun a => DE K W Δ tb fun b => OpD K W r a b fun z => ∃ k, z = .dat (.bool k) ∧ (k = true → DE K W Δ tc fun c => OpD K W r' b c P) ∧ (k = false → P (.dat (.bool false)))) : DE K W Δ (tChain r r' ta tb tc) P := fun σ H v i Q q =>
  h σ H v i _ fun x H1 a i1 x1 p1 r1 => p1 σ H1 (v.mono x1) i1 _ fun y H2 b i2 x2 p2 r2 => p2 x y H2 i2 (r1.mono x2) r2 _ fun z H3 e i3 x3 p r3 => by
    obtain ⟨k, rfl, k1, k2⟩ := p
    cases r3
    cases k with
    | true => exact ⟨true, rfl, k1 rfl σ H3 (v.mono ((x1.trans x2).trans x3)) i3 _ fun c H4 e4 i4 x4 p4 r4 => p4 y c H4 i4 (r2.mono (x3.trans x4)) r4 Q fun z5 H5 e5 i5 x5 p5 r5 => q z5 H5 e5 i5 ((((x1.trans x2).trans x3).trans x4).trans x5) p5 r5⟩
    | false => exact ⟨false, rfl, q _ H3 _ i3 ((x1.trans x2).trans x3) (k2 rfl) (.bl false)⟩

/-! ### tests -/
theorem dt_test (h : DE K W Δ te fun e => ∃ b, e = .dat (.bool b) ∧ PB b) : DT K W Δ (tTest te) PB := fun σ H v i Q q =>
  h σ H v i _ fun x H1 e i1 x1 p1 r1 => by
    obtain ⟨b, rfl, k⟩ := p1
    cases r1
    exact ⟨b, rfl, q b H1 i1 x1 k⟩
theorem dt_B (h : DE K W Δ te fun e => ∃ b, e = .dat (.bool b) ∧ PB b) : DT K W Δ (tB te) PB := fun σ H v i Q q =>
  h σ H v i _ fun x H1 e i1 x1 p1 r1 => by
    obtain ⟨b, rfl, k⟩ := p1
    cases r1
    exact ⟨b, rfl, q b H1 i1 x1 k⟩
theorem dt_and (h : DT K W Δ tt fun a => (a = true → DT K W Δ tu PB) ∧ (a = false → PB false)) : DT K W Δ (tAnd tt tu) PB := fun σ H v i Q q =>
  h σ H v i _ fun b H1 i1 x1 p1 => by
    cases b with
    | true =>
      show tu σ H1 Q
      exact p1.1 rfl σ H1 (v.mono x1) i1 Q fun b H3 i3 x3 p => q b H3 i3 (x1.trans x3) p
    | false =>
      show Q false H1
      exact q false H1 i1 x1 (p1.2 rfl)
theorem dt_or (h : DT K W Δ tt fun a => (a = false → DT K W Δ tu PB) ∧ (a = true → PB true)) : DT K W Δ (tOr tt tu) PB := fun σ H v i Q q =>
  h σ H v i _ fun b H1 i1 x1 p1 => by
    cases b with
    | true =>
      show Q true H1
      exact q true H1 i1 x1 (p1.2 rfl)
    | false =>
      show tu σ H1 Q
      exact p1.1 rfl σ H1 (v.mono x1) i1 Q fun b H3 i3 x3 p => q b H3 i3 (x1.trans x3) p
theorem dt_not (h : DT K W Δ tt fun a => PB (!a)) : DT K W Δ (tNot tt) PB := fun σ H v i Q q => h σ H v i _ fun b H1 i1 x1 p1 => q (!b) H1 i1 x1 p1
theorem dt_yes (k : PB true) : DT K W Δ tYes PB := fun σ H v i Q q => q true H i (Ex.refl _) k

/-! ### statements -/
theorem ds_next (k : nx W Δ) : DS K W Δ tNext nx rt bk ct := fun σ H D v i c => c.nx W Δ σ H k i (Ex.refl _) v
theorem ds_break (k : bk W Δ) : DS K W Δ tBreak nx rt bk ct := fun σ H D v i c => c.bk W Δ σ H k i (Ex.refl _) v
theorem ds_cont (k : ct W Δ) : DS K W Δ tCont nx rt bk ct := fun σ H D v i c => c.ct W Δ σ H k i (Ex.refl _) v
theorem ds_seq (h : DS K W Δ t (fun W' Δ' => DS K W' Δ' u nx rt bk ct) rt bk ct) : DS K W Δ (tSeq t u) nx rt bk ct := fun σ H D v i c =>
  h σ H { D with nx := u D } v i ⟨fun W' Δ' σ' H' n i' x v' => n σ' H' D v' i' (c.step x), c.rt, c.bk, c.ct⟩
theorem ds_set {i : Nat} (h : DE K W Δ te fun e => nx W (Δ.set i (some e))) : DS K W Δ (tAsg te (gName i)) nx rt bk ct := fun σ H D v i' c =>
  h σ H v i' _ fun x H1 e i1 x1 p1 r1 => c.nx W _ _ H1 p1 i1 x1 ((v.mono x1).set r1)
theorem ds_ret (h : DE K W Δ te fun e => rt W e) : DS K W Δ (tRet te) nx rt bk ct := fun σ H D v i' c =>
  h σ H v i' _ fun x H1 e i1 x1 p1 r1 => c.rt W e x H1 p1 i1 x1 r1
theorem ds_retN (k : rt W (.dat .none)) : DS K W Δ tRetN nx rt bk ct := fun σ H D v i' c => c.rt W _ _ H k i' (Ex.refl _) .non
theorem ds_drop (h : DE K W Δ te fun _ => nx W Δ) : DS K W Δ (tDrop te) nx rt bk ct := fun σ H D v i' c =>
  h σ H v i' _ fun x H1 e i1 x1 p1 r1 => c.nx W Δ σ H1 p1 i1 x1 (v.mono x1)
theorem ds_if (h : DT K W Δ tt fun b => (b = true → DS K W Δ t nx rt bk ct) ∧ (b = false → DS K W Δ u nx rt bk ct)) : DS K W Δ (tIfS tt t u) nx rt bk ct := fun σ H D v i c =>
  h σ H v i _ fun b H1 i1 x1 p1 => by
    cases b with
    | true =>
      show t D σ H1
      exact p1.1 rfl σ H1 D (v.mono x1) i1 (c.step x1)
    | false =>
      show u D σ H1
      exact p1.2 rfl σ H1 D (v.mono x1) i1 (c.step x1)
/-- a word between -/
theorem ds_cut (Mid : Wd → DEnv → Prop) (h : DS K W Δ t Mid rt bk ct) (k : ∀ W' Δ', Mid W' Δ' → DS K W' Δ' u nx rt bk ct) : DS K W Δ (tSeq t u) nx rt bk ct :=
  ds_seq (h.mono k (fun _ _ q => q) (fun _ _ q => q) fun _ _ q => q)
end
end Ka

namespace Ka
open PySem PySem.Spec PyProof.Rows L2 Evl
/-! ### rules of our own over the machine -/
section
variable {X : Cx}
/-- repr of data -/
def rRepr (K : PySem.W.Frag) : List V → Hp → VK → Prop := fun xs H Q => ∃ v d, xs = [v] ∧ Dq K H v d ∧ d.showable = true ∧ d.hasDict = false ∧ d.depth ≤ 60 ∧ d.shown.length ≤ sizeLine ∧ Q (.str d.shown) H
theorem cr_repr (hg : X.A.guards = some []) (hu : X.A.units + 64 < cLine) : CallR X (.builtin "repr") (rRepr X.K) := by
  intro pins s σ H xs us Q I r h
  obtain ⟨v, d, rfl, hd, hs, hn, hp, hz, q⟩ := h
  obtain ⟨u, rfl, rv⟩ := vals1 r
  obtain ⟨as, rd⟩ := Dp.reads I d v u hd.dp rv
  cases hd with
  | non => 
    cases rv
    simp only [PyData.shown] at q
    exact PySem.P.repr_of_none ⟨.str _, H, I.tok _, ⟨_, rfl⟩, q⟩
  | bl b =>
    cases rv
    simp only [PyData.shown] at q
    exact PySem.P.repr_of_bool ⟨.str _, H, I.tok _, ⟨_, rfl⟩, q⟩
  | int i =>
    obtain ⟨t, rfl⟩ := rv
    simp only [PyData.shown] at q
    exact PySem.P.repr_of_int (by simpa [PyData.showable] using hs) ⟨.str _, H, I.tok _, ⟨_, rfl⟩, q⟩
  | str x =>
    obtain ⟨t, rfl⟩ := rv
    simp only [PyData.shown] at q hz
    exact PySem.P.repr_of_str ⟨.str _, H, I.tok _, ⟨_, rfl⟩, q⟩ hz
  | lst _ _ =>
    cases rv
    exact repr_of_reads' rd hs (PyData.noDict_hsm hn) hg (by omega) (fun _ _ e => e) (fun h' u tk hk => ⟨.str _, H, I.kept hk, ⟨_, rfl⟩, q⟩) hz
  | tup _ _ =>
    cases rv
    exact repr_of_reads' rd hs (PyData.noDict_hsm hn) hg (by omega) (fun _ _ e => e) (fun h' u tk hk => ⟨.str _, H, I.kept hk, ⟨_, rfl⟩, q⟩) hz

/-- x in c, x not in c: c a list or a tuple of data -/
def rInQ (K : PySem.W.Frag) (neg : Bool) : R2 := fun x y H Q => ∃ d ds, Dq K H x d ∧ (Dq K H y (.list ds) ∨ Dq K H y (.tuple ds)) ∧ SeqAt.shaped d = true ∧ PyData.canLayAll0 ds = true ∧
  Q (.bl (if neg then !ds.any fun z => PyData.eqv z d else ds.any fun z => PyData.eqv z d)) H
theorem min_room {A : Around} {d : PyData} {n : Nat} (sd : SeqAt.shaped d = true) (hu : A.units + 65 < cLine) : A.units + 1 + min n d.depth < cLine := by
  have h1 := SeqAt.depth_of_shaped sd
  have h2 : min n d.depth ≤ d.depth := Nat.min_le_right _ _
  omega
theorem op_inQ (hu : X.A.units + 65 < cLine) : OpR X (compareOp .In) (rInQ X.K false) := by
  intro pins s σ H x y v u Q I rx ry h
  obtain ⟨d, ds, hd, he, sd, se, q⟩ := h
  obtain ⟨as, r1⟩ := Dp.reads I d x v hd.dp rx
  rcases he with he | he
  · obtain ⟨bs, r2⟩ := Dp.reads I (.list ds) y u he.dp ry
    exact SeqAt.in_list_reads r2 r1 se (SeqAt.canLay_of_shaped sd) (min_room sd hu) ⟨.bl _, H, I, rfl, q⟩
  · obtain ⟨bs, r2⟩ := Dp.reads I (.tuple ds) y u he.dp ry
    exact SeqAt.in_tuple_reads r2 r1 se (SeqAt.canLay_of_shaped sd) (min_room sd hu) ⟨.bl _, H, I, rfl, q⟩
theorem op_notInQ (hu : X.A.units + 65 < cLine) : OpR X (compareOp .NotIn) (rInQ X.K true) := by
  intro pins s σ H x y v u Q I rx ry h
  obtain ⟨d, ds, hd, he, sd, se, q⟩ := h
  obtain ⟨as, r1⟩ := Dp.reads I d x v hd.dp rx
  rcases he with he | he
  · obtain ⟨bs, r2⟩ := Dp.reads I (.list ds) y u he.dp ry
    exact SeqAt.notIn_list_reads r2 r1 se (SeqAt.canLay_of_shaped sd) (min_room sd hu) ⟨.bl _, H, I, rfl, q⟩
  · obtain ⟨bs, r2⟩ := Dp.reads I (.tuple ds) y u he.dp ry
    exact SeqAt.notIn_tuple_reads r2 r1 se (SeqAt.canLay_of_shaped sd) (min_room sd hu) ⟨.bl _, H, I, rfl, q⟩

/-- + of ints, texts, tuples, lists -/
def rAddX (K : PySem.W.Frag) : R2 := fun x y H Q => ((rI0 fun i j => .int (i + j)) x y H Q ∨ ∃ i j, x = .str i ∧ y = .str j ∧ i.length + j.length ≤ sizeLine ∧ Q (.str (i ++ j)) H) ∨ (rCatA K x y H Q ∨ rCat x y H Q)
theorem op_addX : OpR X (binaryOp .Add) (rAddX X.K) := (op_add.or op_add_str).or (op_catA.or op_cat)

/-- slices of lists, tuples -/
def rSlX (K : PySem.W.Frag) : V → Option Int → Option Int → Hp → VK → Prop := fun x lo hi H Q => rSlL K x lo hi H Q ∨ rSlA K x lo hi H Q
theorem sl_X : SlR X (rSlX X.K) := sl_list.or sl_tupA

/-- len of a list, a tuple, a text -/
def rLenX (K : PySem.W.Frag) : List V → Hp → VK → Prop := fun xs H Q => (∃ p ys, xs = [.ref p] ∧ (SqL K H p ys ∨ SqT K H p ys) ∧ Q (.int ys.length) H) ∨ ∃ z, xs = [.str z] ∧ z.length ≤ sizeLine ∧ Q (.int z.length) H
theorem cr_lenX : CallR X (.builtin "len") (rLenX X.K) := call_len_seq.or call_len_str

/-- tuple(x), list(x) -/
def rTupX (K : PySem.W.Frag) : List V → Hp → VK → Prop := fun xs H Q => ∃ p ys, xs = [.ref p] ∧ ((SqL K H p ys ∧ ∀ l, H l = none → Q (.ref l) (upd H l (.tup ys))) ∨ (SqT K H p ys ∧ Q (.ref p) H))
theorem cr_tupX : CallR X (.type "tuple") (rTupX X.K) := call_tuple_of
def rLstX (K : PySem.W.Frag) : List V → Hp → VK → Prop := fun xs H Q => ∃ p ys, xs = [.ref p] ∧ (SqL K H p ys ∨ SqT K H p ys) ∧ ∀ l, H l = none → Q (.ref l) (upd H l (.lst ys))
theorem cr_lstX : CallR X (.type "list") (rLstX X.K) := call_list_of
/-- int(n) -/
def rIntX : List V → Hp → VK → Prop := fun xs H Q => (∃ i, xs = [.int i] ∧ Q (.int i) H) ∨ ∃ k, xs = [.bl k] ∧ Q (.int (if k then 1 else 0)) H
theorem cr_intX : CallR X (.type "int") rIntX := call_int1

/-- sorted of a list of data -/
theorem each_vals {h : Heap} : ∀ {vs : List V} {us : List Value} {ds : List PyData} {as : List Addr}, Vals vs us → ReadsAll h us ds as → PySem.W.EachIs (fun u d => (∃ v, v ∈ vs ∧ RelV v u) ∧ ∃ as, Reads h u d as) us ds
  | [], _, _, _, .nil, r => by
    cases r
    exact .nil
  | v :: vs, _, _, _, .cons r rs, h => by
    cases h with
    | cons h1 h2 => exact .cons ⟨⟨v, List.mem_cons_self .., r⟩, _, h1⟩ ((each_vals rs h2).mono fun _ _ ⟨⟨v, h1, h2⟩, h3⟩ => ⟨⟨v, List.mem_cons_of_mem _ h1, h2⟩, h3⟩)
theorem dqs_mem {K : PySem.W.Frag} {H : Hp} : ∀ {vs : List V} {ds : List PyData}, Dqs K H vs ds → Paired (fun v d => Dq K H v d) vs ds
  | _, _, .nil => .nil
  | _, _, .cons h hs => .cons h (dqs_mem hs)
theorem dqs_of {K : PySem.W.Frag} {H : Hp} : ∀ {vs : List V} {ds : List PyData}, Paired (fun v d => Dq K H v d) vs ds → Dqs K H vs ds
  | _, _, .nil => .nil
  | _, _, .cons h hs => .cons h (dqs_of hs)
/-- the values of a data list, each with what it stands for -/
theorem each_three {K : PySem.W.Frag} {H : Hp} : ∀ {vs : List V} {us : List Value} {ds : List PyData}, Vals vs us → Dqs K H vs ds → PySem.W.EachIs (fun u d => ∃ v, RelV v u ∧ Dq K H v d) us ds
  | _, _, _, .nil, .nil => .nil
  | _, _, _, .cons r rs, .cons h hs => .cons ⟨_, r, h⟩ (each_three rs hs)
theorem three_back {K : PySem.W.Frag} {H : Hp} : ∀ {us : List Value} {ds : List PyData}, PySem.W.EachIs (fun u d => ∃ v, RelV v u ∧ Dq K H v d) us ds → ∃ vs, Vals vs us ∧ Dqs K H vs ds
  | _, _, .nil => ⟨[], .nil, .nil⟩
  | _, _, .cons ⟨v, r, h⟩ t => by
    obtain ⟨vs, r', h'⟩ := three_back t
    exact ⟨v :: vs, .cons r r', .cons h h'⟩
theorem each_reads {h : Heap} : ∀ {us : List Value} {ds : List PyData} {as : List Addr}, ReadsAll h us ds as → PySem.W.EachIs (fun u d => ∃ as, Reads h u d as) us ds
  | _, [], _, r => by
    cases r
    exact .nil
  | _, d :: ds, _, r => by
    cases r with
    | cons h1 h2 => exact .cons ⟨_, h1⟩ (each_reads h2)
theorem sortedAll_get (h : Heap) (vs : List Value) (out : List Value) : ∃ c, (sortedAll h vs out.toArray).get? (h.objs.size + 1) = some { cls := .type "list", data := .seq out.toArray c } := by
  obtain ⟨c, hc⟩ := PyProof.Rows.sortedAll_at h vs out.toArray
  exact ⟨c, hc⟩
def rSortedQ (K : PySem.W.Frag) : List V → Hp → VK → Prop := fun vs H Q => ∃ (a : Addr) (xs : List V) (ds : List PyData) (U : Hp), vs = [V.ref a] ∧ H a = some (.lst xs) ∧ Ex U H ∧ Dqs K U xs ds ∧ PySem.W.AllAlike ds ∧ PySem.W.Sortable ds ∧ (∀ d ∈ ds, d.depth ≤ 60) ∧
  ∀ (ys : List V) (p : Addr), Dqs K U ys (ds.mergeSort (PySem.W.dataLe false id)) → H p = none → Q (.ref p) (upd H p (.lst ys))
theorem cr_sortedQ (hu : X.A.units + 64 < cLine) : CallR X (.builtin "sorted") (rSortedQ X.K) := by
  intro pins s σ H vs us Q I r h
  obtain ⟨a, xs, ds, U, rfl, ha, hU, hd, al, so, dep, q⟩ := h
  rw [Vals.ref1 r]
  obtain ⟨its, n, rv, ho, hz⟩ := I.lst ha
  obtain ⟨as, rs⟩ := Dp.readsAll I ds xs its (hd.mono hU).dp rv
  have hlen : its.length = ds.length := by
    rw [← rv.length, hd.length]
  have e3 := each_three rv hd
  have er : PySem.W.EachIs (fun u d => ∃ as, Reads s.heap u (id d) as) its ds := each_reads rs
  refine PySem.W.sorted_data (vs := its) (bs := ds) (enc := id) (R := fun u d => ∃ v, RelV v u ∧ Dq X.K U v d) ⟨_, ho, rfl, n, rfl⟩ e3 er (by simpa using al) (by simpa using so) (by rw [← hlen, ← rv.length]; exact hz) (fun d hd' => by have := dep d hd'; show X.A.units + 2 + d.depth < cLine; omega) fun out hol e => ?_
  obtain ⟨ys, ry, hy⟩ := three_back e
  obtain ⟨c, hc⟩ := sortedAll_get s.heap its out
  have hn : H (s.heap.objs.size + 1) = none := I.hok.fresh (Nat.le_succ _)
  refine ⟨.ref (s.heap.objs.size + 1), upd H (s.heap.objs.size + 1) (.lst ys), I.laid (t' := s.toks) (fun b o e => PyProof.Rows.sortedAll_old e) (Nat.le_succ _) ⟨?_, out, c, ry, hc⟩, rfl, q ys _ hy hn⟩
  rw [ry.length, hol, ← hlen, ← rv.length]
  exact hz
/-- set(t), t a tuple of ints; sorted(set) -/
def rSetI (w : World) (K : PySem.W.Frag) : List V → Hp → VK → Prop := fun vs H Q => ∃ (p : Addr) (ns : List Int), vs = [.ref p] ∧ SqT K H p (ns.map V.int) ∧ ns.length ≤ 1000 ∧ ∀ (q : Addr) (c : Nat), c ≤ ns.length → H q = none → Q (.ref q) (upd H q (SetO w q (fun j => decide (j ∈ ns)) c))
theorem cr_setI (hc : X.calm = true) : CallR X (.type "set") (rSetI X.w X.K) := by
  intro pins s σ H vs us Q I r h
  obtain ⟨p, ns, rfl, hs, hl, q⟩ := h
  rw [Vals.ref1 r]
  obtain ⟨its, rv, pt, hz⟩ := I.tuple hs
  refine call_set_tupI ns (I.ok.hd hc) (show s.heap.IsTuple p its.toArray from pt) (ints_of_vals rv) (by unfold scanBound; omega) fun h' tk c R1 hcn k => ?_
  have hn : H s.heap.objs.size = none := I.hok.fresh (Nat.le_refl _)
  exact ⟨.ref s.heap.objs.size, _, I.laid (t' := tk) k (Nat.le_refl _) (setO_new R1), rfl, q _ c hcn hn⟩
end
end Ka

namespace Ka
open PySem PySem.Spec PyProof.Rows L2 Evl
/-! ### operations on data -/
section
variable {K : PySem.W.Frag} {W W1 : Wd} {Δ Δ1 : DEnv} {te ta tb tc tx : TE} {tt tu : TT} {t u : TS} {r r' : R2} {P P' : DV → Prop} {PB : Bool → Prop} {PL : List DV → Prop}
  {nx nx' : Wd → DEnv → Prop} {rt : Wd → DV → Prop} {bk ct : Wd → DEnv → Prop} {H H1 : Hp} {D : Ends}
theorem opd_I {f : Int → Int → Int} {i j : Int} (k : P (.dat (.int (f i j)))) : OpD K W (rI0 fun i j => .int (f i j)) (.dat (.int i)) (.dat (.int j)) P := fun x y H iv rx ry Q q => by
  cases rx
  cases ry
  exact ⟨i, j, rfl, rfl, q _ H _ iv (Ex.refl _) k (.int _)⟩
theorem opd_B {f : Int → Int → Bool} {i j : Int} (k : P (.dat (.bool (f i j)))) : OpD K W (rI0 fun i j => .bl (f i j)) (.dat (.int i)) (.dat (.int j)) P := fun x y H iv rx ry Q q => by
  cases rx
  cases ry
  exact ⟨i, j, rfl, rfl, q _ H _ iv (Ex.refl _) k (.bl _)⟩
theorem opd_IC {C : Int → Int → Prop} {f : Int → Int → Int} {i j : Int} (hc : C i j) (k : P (.dat (.int (f i j)))) : OpD K W (rI C fun i j => .int (f i j)) (.dat (.int i)) (.dat (.int j)) P := fun x y H iv rx ry Q q => by
  cases rx
  cases ry
  exact ⟨i, j, rfl, rfl, hc, q _ H _ iv (Ex.refl _) k (.int _)⟩
theorem opd_addI {i j : Int} (k : P (.dat (.int (i + j)))) : OpD K W (rAddX K) (.dat (.int i)) (.dat (.int j)) P := fun x y H iv rx ry Q q => by
  cases rx
  cases ry
  exact .inl (.inl ⟨i, j, rfl, rfl, q _ H _ iv (Ex.refl _) k (.int _)⟩)
theorem opd_addS {i j : Str} (hl : i.length + j.length ≤ 100000) (k : P (.dat (.str (i ++ j)))) : OpD K W (rAddX K) (.dat (.str i)) (.dat (.str j)) P := fun x y H iv rx ry Q q => by
  cases rx
  cases ry
  exact .inl (.inr ⟨i, j, rfl, rfl, sz_of hl, q _ H _ iv (Ex.refl _) k (.str _)⟩)
theorem opd_addT {xs ys : List PyData} (hl : xs.length + ys.length ≤ 100000) (k : P (.dat (.tuple (xs ++ ys)))) : OpD K W (rAddX K) (.dat (.tuple xs)) (.dat (.tuple ys)) P := fun x y H iv rx ry Q q => by
  cases rx with
  | @tup a vs _ ha hv =>
    cases ry with
    | @tup b us _ hb hu =>
      have la := hv.length
      have lb := hu.length
      refine .inr (.inl ⟨a, b, vs, us, rfl, rfl, ex_t (Wd.view_le) ha, ex_t (Wd.view_le) hb, sz_of (by omega), fun e => ?_, fun e1 e2 => ?_, fun _ _ p hp => ?_⟩)
      · subst e
        cases hv
        exact q _ H _ iv (Ex.refl _) k (.tup hb hu)
      · subst e2
        cases hu
        rw [List.append_nil] at k
        exact q _ H _ iv (Ex.refl _) k (.tup ha hv)
      · exact q _ _ _ (Wd.inv_new iv hp) (Wd.view_ex (Ex.new hp)) k (Dq.newT iv hp (hv.append hu))
theorem opd_addL {xs ys : List PyData} (hl : xs.length + ys.length ≤ 100000) (k : P (.dat (.list (xs ++ ys)))) : OpD K W (rAddX K) (.dat (.list xs)) (.dat (.list ys)) P := fun x y H iv rx ry Q q => by
  cases rx with
  | @lst a vs _ ha hv =>
    cases ry with
    | @lst b us _ hb hu =>
      have la := hv.length
      have lb := hu.length
      refine .inr (.inr ⟨a, b, vs, us, rfl, rfl, Wd.view_le _ _ ha, Wd.view_le _ _ hb, sz_of (by omega), fun p hp => ?_⟩)
      exact q _ _ _ (Wd.inv_new iv hp) (Wd.view_ex (Ex.new hp)) k (Dq.newL iv hp (hv.append hu))
theorem Dq.le {v : V} {d : PyData} (h : Dq K (W.view H) v d) : Dq K H v d := h.mono Wd.view_le
theorem opd_eq0 {d e : PyData} (h1 : SeqAt.shaped d = true) (h2 : SeqAt.shaped e = true) (k : P (.dat (.bool (PyData.eqv d e)))) : OpD K W (rEqD K) (.dat d) (.dat e) P := fun x y H iv rx ry Q q =>
  ⟨d, e, Dq.dp (Dq.le rx), Dq.dp (Dq.le ry), h1, h2, q _ H _ iv (Ex.refl _) k (.bl _)⟩
theorem opd_ne0 {d e : PyData} (h1 : SeqAt.shaped d = true) (h2 : SeqAt.shaped e = true) (k : P (.dat (.bool (!PyData.eqv d e)))) : OpD K W (rNeD K) (.dat d) (.dat e) P := fun x y H iv rx ry Q q =>
  ⟨d, e, Dq.dp (Dq.le rx), Dq.dp (Dq.le ry), h1, h2, q _ H _ iv (Ex.refl _) k (.bl _)⟩
theorem opd_inL {d : PyData} {ds : List PyData} (h1 : SeqAt.shaped d = true) (h2 : PyData.canLayAll0 ds = true) (k : P (.dat (.bool (ds.any fun z => PyData.eqv z d)))) : OpD K W (rInQ K false) (.dat d) (.dat (.list ds)) P := fun x y H iv rx ry Q q =>
  ⟨d, ds, Dq.le rx, .inl (Dq.le ry), h1, h2, q _ H _ iv (Ex.refl _) k (.bl _)⟩
theorem opd_inT {d : PyData} {ds : List PyData} (h1 : SeqAt.shaped d = true) (h2 : PyData.canLayAll0 ds = true) (k : P (.dat (.bool (ds.any fun z => PyData.eqv z d)))) : OpD K W (rInQ K false) (.dat d) (.dat (.tuple ds)) P := fun x y H iv rx ry Q q =>
  ⟨d, ds, Dq.le rx, .inr (Dq.le ry), h1, h2, q _ H _ iv (Ex.refl _) k (.bl _)⟩
theorem opd_niL {d : PyData} {ds : List PyData} (h1 : SeqAt.shaped d = true) (h2 : PyData.canLayAll0 ds = true) (k : P (.dat (.bool (!ds.any fun z => PyData.eqv z d)))) : OpD K W (rInQ K true) (.dat d) (.dat (.list ds)) P := fun x y H iv rx ry Q q =>
  ⟨d, ds, Dq.le rx, .inl (Dq.le ry), h1, h2, q _ H _ iv (Ex.refl _) k (.bl _)⟩
theorem opd_niT {d : PyData} {ds : List PyData} (h1 : SeqAt.shaped d = true) (h2 : PyData.canLayAll0 ds = true) (k : P (.dat (.bool (!ds.any fun z => PyData.eqv z d)))) : OpD K W (rInQ K true) (.dat d) (.dat (.tuple ds)) P := fun x y H iv rx ry Q q =>
  ⟨d, ds, Dq.le rx, .inr (Dq.le ry), h1, h2, q _ H _ iv (Ex.refl _) k (.bl _)⟩
theorem Dqs.atI {vs : List V} {ds : List PyData} {i : Int} {d : PyData} (h : Dqs K H vs ds) (e : atI ds i = some d) : ∃ v, atI vs i = some v ∧ Dq K H v d := by
  unfold L2.atI at e ⊢
  rw [h.length]
  cases q : ixN ds.length i with
  | none =>
    rw [q] at e
    cases e
  | some j =>
    rw [q] at e
    obtain ⟨v, h1, h2⟩ := h.getd (show ds[j]? = some d from e)
    exact ⟨v, h1, h2⟩
theorem opd_ixT {ds : List PyData} {i : Int} {d : PyData} (h : atI ds i = some d) (k : P (.dat d)) : OpD K W (rIx K) (.dat (.tuple ds)) (.dat (.int i)) P := fun x y H iv rx ry Q q => by
  cases ry
  cases rx with
  | @tup a vs _ ha hv =>
    obtain ⟨v, h1, h2⟩ := hv.atI h
    exact .inr (.inl ⟨a, vs, i, v, rfl, rfl, ex_t Wd.view_le ha, h1, q _ H _ iv (Ex.refl _) k h2⟩)
theorem opd_ixL {ds : List PyData} {i : Int} {d : PyData} (h : atI ds i = some d) (k : P (.dat d)) : OpD K W (rIx K) (.dat (.list ds)) (.dat (.int i)) P := fun x y H iv rx ry Q q => by
  cases ry
  cases rx with
  | @lst a vs _ ha hv =>
    obtain ⟨v, h1, h2⟩ := hv.atI h
    exact .inl ⟨a, vs, i, v, rfl, rfl, SqL.of (Wd.view_le _ _ ha), h1, q _ H _ iv (Ex.refl _) k h2⟩
theorem und_neg {i : Int} (k : P (.dat (.int (-i)))) : UnD K W (rU fun i => .int (-i)) (.dat (.int i)) P := fun x H iv rx Q q => by
  cases rx
  exact ⟨i, rfl, q _ H _ iv (Ex.refl _) k (.int _)⟩

/-! ### slices -/
def cutG {α : Type} (xs : List α) (lo hi : Option Int) : List α := (xs.drop (HT.sIx xs.length 0 lo)).take (HT.sIx xs.length xs.length hi - HT.sIx xs.length 0 lo)
theorem Dqs.cut {vs : List V} {ds : List PyData} (h : Dqs K H vs ds) (lo hi : Option Int) : Dqs K H (cutV vs lo hi) (cutG ds lo hi) := by
  unfold cutV cutG
  rw [h.length]
  exact (h.drop _).take _
def DO (K : PySem.W.Frag) (W : Wd) (Δ : DEnv) (to : TO) (P : Option Int → Prop) : Prop :=
  ∀ (σ : L2.St) (H : Hp), EnvOk K (W.view H) σ Δ → W.inv H → ∀ Q : Option Int → Hp → Prop, (∀ o H', W.inv H' → Ex (W.view H) (W.view H') → P o → Q o H') → to σ H Q
theorem do_none {PO : Option Int → Prop} (k : PO none) : DO K W Δ tNoPart PO := fun σ H v i Q q => q none H i (Ex.refl _) k
theorem do_some {PO : Option Int → Prop} (h : DE K W Δ te fun e => ∃ n, e = .dat (.int n) ∧ PO (some n)) : DO K W Δ (tPart te) PO := fun σ H v i Q q =>
  h σ H v i _ fun x H1 e i1 x1 p1 r1 => by
    obtain ⟨n, rfl, k⟩ := p1
    cases r1
    exact ⟨n, rfl, q _ H1 i1 x1 k⟩
/-- what a slice of a content is -/
def SlD (K : PySem.W.Frag) (W : Wd) (r : V → Option Int → Option Int → Hp → VK → Prop) (a : DV) (lo hi : Option Int) (P : DV → Prop) : Prop :=
  ∀ (x : V) (H : Hp), W.inv H → RepV K (W.view H) x a → ∀ Q : VK, (∀ v H' e, W.inv H' → Ex (W.view H) (W.view H') → P e → RepV K (W.view H') v e → Q v H') → r x lo hi H Q
theorem de_sl {rs : V → Option Int → Option Int → Hp → VK → Prop} {tl th : TO} (h : DE K W Δ te fun a => DO K W Δ tl fun lo => DO K W Δ th fun hi => SlD K W rs a lo hi P) : DE K W Δ (tSl rs te tl th) P := fun σ H v i Q q =>
  h σ H v i _ fun x H1 a i1 x1 p1 r1 => p1 σ H1 (v.mono x1) i1 _ fun lo H2 i2 x2 p2 => p2 σ H2 (v.mono (x1.trans x2)) i2 _ fun hi H3 i3 x3 p3 => p3 x H3 i3 (r1.mono (x2.trans x3)) Q fun z H4 e i4 x4 p r => q z H4 e i4 (((x1.trans x2).trans x3).trans x4) p r
theorem sld_L {ds : List PyData} {lo hi : Option Int} (k : P (.dat (.list (cutG ds lo hi)))) : SlD K W (rSlX K) (.dat (.list ds)) lo hi P := fun x H iv rx Q q => by
  cases rx with
  | @lst a vs _ ha hv =>
    exact .inl ⟨a, vs, rfl, SqL.of (Wd.view_le _ _ ha), fun p hp => q _ _ _ (Wd.inv_new iv hp) (Wd.view_ex (Ex.new hp)) k (Dq.newL iv hp (hv.cut lo hi))⟩
theorem cut_whole {α : Type} {xs : List α} {lo hi : Option Int} (h : HT.sIx xs.length 0 lo = 0 ∧ HT.sIx xs.length xs.length hi = xs.length) : cutG xs lo hi = xs := by
  unfold cutG
  rw [h.1, h.2]
  simp
theorem sld_T {ds : List PyData} {lo hi : Option Int} (k : P (.dat (.tuple (cutG ds lo hi)))) : SlD K W (rSlX K) (.dat (.tuple ds)) lo hi P := fun x H iv rx Q q => by
  cases rx with
  | @tup a vs _ ha hv =>
    refine .inr ⟨a, vs, rfl, ex_t Wd.view_le ha, fun hw => ?_, fun _ p hp => q _ _ _ (Wd.inv_new iv hp) (Wd.view_ex (Ex.new hp)) k (Dq.newT iv hp (hv.cut lo hi))⟩
    rw [hv.length] at hw
    rw [cut_whole hw] at k
    exact q _ H _ iv (Ex.refl _) k (.tup ha hv)

/-! ### calls of built-ins -/
theorem reps1 {xs : List V} {a : DV} (h : Reps K H xs [a]) : ∃ x, xs = [x] ∧ RepV K H x a := by
  cases h with
  | cons h1 h2 =>
    cases h2
    exact ⟨_, rfl, h1⟩
theorem reps2 {xs : List V} {a b : DV} (h : Reps K H xs [a, b]) : ∃ x y, xs = [x, y] ∧ RepV K H x a ∧ RepV K H y b := by
  cases h with
  | cons h1 h2 =>
    cases h2 with
    | cons h2 h3 =>
      cases h3
      exact ⟨_, _, rfl, h1, h2⟩
theorem cal_lenT {ds : List PyData} (k : P (.dat (.int (ds.length : Int)))) : CalD K W (rLenX K) [.dat (.tuple ds)] P := fun xs H iv r Q q => by
  obtain ⟨x, rfl, rx⟩ := reps1 r
  cases rx with
  | @tup a vs _ ha hv =>
    rw [← hv.length] at k
    exact .inl ⟨a, vs, rfl, .inr (ex_t Wd.view_le ha), q _ H _ iv (Ex.refl _) k (.int _)⟩
theorem cal_lenL {ds : List PyData} (k : P (.dat (.int (ds.length : Int)))) : CalD K W (rLenX K) [.dat (.list ds)] P := fun xs H iv r Q q => by
  obtain ⟨x, rfl, rx⟩ := reps1 r
  cases rx with
  | @lst a vs _ ha hv =>
    rw [← hv.length] at k
    exact .inl ⟨a, vs, rfl, .inl (SqL.of (Wd.view_le _ _ ha)), q _ H _ iv (Ex.refl _) k (.int _)⟩
theorem cal_lenS {z : Str} (hl : z.length ≤ 100000) (k : P (.dat (.int (z.length : Int)))) : CalD K W (rLenX K) [.dat (.str z)] P := fun xs H iv r Q q => by
  obtain ⟨x, rfl, rx⟩ := reps1 r
  cases rx
  exact .inr ⟨z, rfl, sz_of hl, q _ H _ iv (Ex.refl _) k (.int _)⟩
theorem cal_tupL {ds : List PyData} (k : P (.dat (.tuple ds))) : CalD K W (rTupX K) [.dat (.list ds)] P := fun xs H iv r Q q => by
  obtain ⟨x, rfl, rx⟩ := reps1 r
  cases rx with
  | @lst a vs _ ha hv => exact ⟨a, vs, rfl, .inl ⟨SqL.of (Wd.view_le _ _ ha), fun p hp => q _ _ _ (Wd.inv_new iv hp) (Wd.view_ex (Ex.new hp)) k (Dq.newT iv hp hv)⟩⟩
theorem cal_tupT {ds : List PyData} (k : P (.dat (.tuple ds))) : CalD K W (rTupX K) [.dat (.tuple ds)] P := fun xs H iv r Q q => by
  obtain ⟨x, rfl, rx⟩ := reps1 r
  cases rx with
  | @tup a vs _ ha hv => exact ⟨a, vs, rfl, .inr ⟨ex_t Wd.view_le ha, q _ H _ iv (Ex.refl _) k (.tup ha hv)⟩⟩
theorem cal_lstL {ds : List PyData} (k : P (.dat (.list ds))) : CalD K W (rLstX K) [.dat (.list ds)] P := fun xs H iv r Q q => by
  obtain ⟨x, rfl, rx⟩ := reps1 r
  cases rx with
  | @lst a vs _ ha hv => exact ⟨a, vs, rfl, .inl (SqL.of (Wd.view_le _ _ ha)), fun p hp => q _ _ _ (Wd.inv_new iv hp) (Wd.view_ex (Ex.new hp)) k (Dq.newL iv hp hv)⟩
theorem cal_lstT {ds : List PyData} (k : P (.dat (.list ds))) : CalD K W (rLstX K) [.dat (.tuple ds)] P := fun xs H iv r Q q => by
  obtain ⟨x, rfl, rx⟩ := reps1 r
  cases rx with
  | @tup a vs _ ha hv => exact ⟨a, vs, rfl, .inr (ex_t Wd.view_le ha), fun p hp => q _ _ _ (Wd.inv_new iv hp) (Wd.view_ex (Ex.new hp)) k (Dq.newL iv hp hv)⟩
theorem cal_int {i : Int} (k : P (.dat (.int i))) : CalD K W rIntX [.dat (.int i)] P := fun xs H iv r Q q => by
  obtain ⟨x, rfl, rx⟩ := reps1 r
  cases rx
  exact .inl ⟨i, rfl, q _ H _ iv (Ex.refl _) k (.int _)⟩
theorem Dqs.bls : ∀ {bs : List Bool} {vs : List V}, Dqs K H vs (bs.map PyData.bool) → vs = bs.map V.bl
  | [], _, h => by
    cases h
    rfl
  | b :: bs, _, h => by
    cases h with
    | cons h1 h2 =>
      cases h1
      rw [Dqs.bls (bs := bs) h2]
      rfl
theorem cal_all {bs : List Bool} (k : P (.dat (.bool (bs.all id)))) : CalD K W (rAll K) [.dat (.list (bs.map PyData.bool))] P := fun xs H iv r Q q => by
  obtain ⟨x, rfl, rx⟩ := reps1 r
  cases rx with
  | @lst a vs _ ha hv => 
    obtain rfl := hv.bls
    exact ⟨a, bs, rfl, SqL.of (Wd.view_le _ _ ha), q _ H _ iv (Ex.refl _) k (.bl _)⟩
theorem cal_any {bs : List Bool} (k : P (.dat (.bool (bs.any id)))) : CalD K W (rAny K) [.dat (.list (bs.map PyData.bool))] P := fun xs H iv r Q q => by
  obtain ⟨x, rfl, rx⟩ := reps1 r
  cases rx with
  | @lst a vs _ ha hv => 
    obtain rfl := hv.bls
    exact ⟨a, bs, rfl, SqL.of (Wd.view_le _ _ ha), q _ H _ iv (Ex.refl _) k (.bl _)⟩
theorem cal_sum {ns : List Int} (k : P (.dat (.int ns.sum))) : CalD K W (rSum K) [.dat (.list (ns.map PyData.int))] P := fun xs H iv r Q q => by
  obtain ⟨x, rfl, rx⟩ := reps1 r
  cases rx with
  | @lst a vs _ ha hv => 
    obtain rfl := hv.ints_inv
    exact ⟨a, ns, rfl, SqL.of (Wd.view_le _ _ ha), q _ H _ iv (Ex.refl _) k (.int _)⟩
def rMax2 : List V → Hp → VK → Prop := fun xs H Q => ∃ i j, xs = [.int i, .int j] ∧ Q (.int (if j > i then j else i)) H
def rMin2 : List V → Hp → VK → Prop := fun xs H Q => ∃ i j, xs = [.int i, .int j] ∧ Q (.int (if j < i then j else i)) H
def rAbs : List V → Hp → VK → Prop := fun xs H Q => ∃ i, xs = [.int i] ∧ Q (.int (if i < 0 then -i else i)) H
theorem cal_max2 {i j : Int} (k : P (.dat (.int (max i j)))) : CalD K W rMax2 [.dat (.int i), .dat (.int j)] P := fun xs H iv r Q q => by
  obtain ⟨x, y, rfl, rx, ry⟩ := reps2 r
  cases rx
  cases ry
  refine ⟨i, j, rfl, q _ H _ iv (Ex.refl _) k ?_⟩
  have e : (if j > i then j else i) = max i j := by
    split <;> omega
  rw [e]
  exact .int _
theorem cal_min2 {i j : Int} (k : P (.dat (.int (min i j)))) : CalD K W rMin2 [.dat (.int i), .dat (.int j)] P := fun xs H iv r Q q => by
  obtain ⟨x, y, rfl, rx, ry⟩ := reps2 r
  cases rx
  cases ry
  refine ⟨i, j, rfl, q _ H _ iv (Ex.refl _) k ?_⟩
  have e : (if j < i then j else i) = min i j := by
    split <;> omega
  rw [e]
  exact .int _
/-- the class of data -/
def tyD : PyData → String
  | .none => "NoneType"
  | .bool _ => "bool"
  | .int _ => "int"
  | .str _ => "str"
  | .list _ => "list"
  | .tuple _ => "tuple"
  | .dict _ => "dict"
theorem sqt_ty {a : Addr} {xs : List V} (h : SqT K H a xs) : TyX K H (.ref a) (.type "tuple") := by
  rcases h with (h | ⟨o, h⟩) | ⟨o, its, n, hk, hc, _⟩
  · exact .base (.tup h)
  · exact .fTuple h
  · exact .kTuple hk hc
theorem Dq.ty {v : V} {d : PyData} (h : Dq K H v d) : TyX K H v (.type (tyD d)) := by
  cases h with
  | non => exact .base .non
  | bl b => exact .base (.bl b)
  | int i => exact .base (.int i)
  | str x => exact .base (.str x)
  | lst h _ => exact .base (.lst h)
  | tup h _ => exact sqt_ty h
theorem cal_isi {d : PyData} {T : String} {b : Bool} (h : kitB (tyD d) T = some b) (k : P (.dat (.bool b))) : CalD K W (rIsi K) [.dat d, .raw (.ty T)] P := fun xs H iv r Q q => by
  obtain ⟨x, y, rfl, rx, ry⟩ := reps2 r
  have e : y = .ty T := ry
  subst e
  exact ⟨x, .ty T, _, _, b, rfl, .ty T, Dq.ty (Dq.le rx), kit_ty h, q _ H _ iv (Ex.refl _) k (.bl b)⟩
theorem cal_repr {d : PyData} (h1 : d.showable = true) (h2 : d.hasDict = false) (h3 : d.depth ≤ 60) (h4 : d.shown.length ≤ sizeLine) (k : P (.dat (.str d.shown))) : CalD K W (rRepr K) [.dat d] P := fun xs H iv r Q q => by
  obtain ⟨x, rfl, rx⟩ := reps1 r
  exact ⟨x, d, rfl, Dq.le rx, h1, h2, h3, h4, q _ H _ iv (Ex.refl _) k (.str _)⟩
theorem cal_sorted {ds : List PyData} (h1 : PySem.W.AllAlike ds) (h2 : PySem.W.Sortable ds) (h3 : ∀ d ∈ ds, d.depth ≤ 60) (k : P (.dat (.list (ds.mergeSort (PySem.W.dataLe false id))))) : CalD K W (rSortedQ K) [.dat (.list ds)] P := fun xs H iv r Q q => by
  obtain ⟨x, rfl, rx⟩ := reps1 r
  cases rx with
  | @lst a vs _ ha hv =>
    refine ⟨a, vs, ds, W.view H, rfl, Wd.view_le _ _ ha, Wd.view_le, hv, h1, h2, h3, fun ys p hy hp => ?_⟩
    exact q _ _ _ (Wd.inv_new iv hp) (Wd.view_ex (Ex.new hp)) k (Dq.newL iv hp hy)
/-- sorted(set(ns)) -/
theorem cal_setI {w : World} {ns : List Int} (hl : ns.length ≤ 1000) (k : ∀ c, c ≤ ns.length → P (.obj fun q => SetO w q (fun j => decide (j ∈ ns)) c)) : CalD K W (rSetI w K) [.dat (.tuple (ns.map PyData.int))] P := fun xs H iv r Q q => by
  obtain ⟨x, rfl, rx⟩ := reps1 r
  cases rx with
  | @tup a vs _ ha hv =>
    obtain rfl := hv.ints_inv
    exact ⟨a, ns, rfl, ex_t Wd.view_le ha, hl, fun p c hc hp => q _ _ _ (Wd.inv_new iv hp) (Wd.view_ex (Ex.new hp)) (k c hc) ⟨p, rfl, Wd.view_new iv hp⟩⟩
theorem cal_sortedSet {w : World} {S : Int → Bool} {n : Nat} (hn : n < 64) (k : ∀ ns : List Int, ns.Pairwise (· < ·) → (∀ k : Int, k ∈ ns ↔ S k = true) → ns.length = n → P (.dat (.list (ns.map PyData.int)))) : CalD K W (rSortedSet w) [.obj fun q => SetO w q S n] P := fun xs H iv r Q q => by
  obtain ⟨x, rfl, p, rfl, hp⟩ := reps1 r
  exact ⟨p, S, n, rfl, Wd.view_le _ _ hp, hn, fun ns l h1 h2 h3 hl => q _ _ _ (Wd.inv_new iv hl) (Wd.view_ex (Ex.new hl)) (k ns h1 h2 h3) (Dq.newL iv hl (Dqs.ints ns))⟩

/-! ### what is walked -/
/-- the iterator J gives es, whatever else happens -/
def Yl (K : PySem.W.Frag) (V1 : Hp) (J : It) (es : List DV) : Prop := ∀ (W' : Wd) (H2 : Hp), Ex V1 (W'.view H2) → W'.inv H2 →
  (∀ i e, es[i]? = some e → J.go i H2 ∧ ∀ x H3, J.yld i H2 x H3 → W'.inv H3 ∧ Ex (W'.view H2) (W'.view H3) ∧ RepV K (W'.view H3) x e) ∧ J.stop es.length H2
def DI (K : PySem.W.Frag) (W : Wd) (Δ : DEnv) (wi : TI) (P : List DV → Prop) : Prop :=
  ∀ (σ : L2.St) (H : Hp), EnvOk K (W.view H) σ Δ → W.inv H → ∀ R : It → Hp → Prop, (∀ J H' es, W.inv H' → Ex (W.view H) (W.view H') → P es → Yl K (W.view H') J es → R J H') → wi σ H R
theorem yl_list {a : Addr} {vs : List V} {ds : List PyData} {V1 : Hp} (ha : V1 a = some (.lst vs)) (hv : Dqs K V1 vs ds) : Yl K V1 (Itl K a) (ds.map DV.dat) := fun W' H2 x iv => by
  have h2 : SqL K H2 a vs := SqL.of (Wd.view_le _ _ (x a _ ha))
  have hv2 := hv.mono x
  refine ⟨fun i e he => ?_, vs, h2, by rw [List.length_map, hv.length]; exact Nat.le_refl _⟩
  rw [List.getElem?_map] at he
  cases q : ds[i]? with
  | none =>
    rw [q] at he
    cases he
  | some d =>
    rw [q] at he
    cases he
    obtain ⟨v, q1, q2⟩ := hv2.getd q
    refine ⟨⟨vs, v, h2, q1⟩, fun y H3 hy => ?_⟩
    obtain ⟨rfl, hy⟩ := hy
    have e := hy vs h2
    rw [q1] at e
    cases e
    exact ⟨iv, Ex.refl _, q2⟩
theorem yl_tup {a : Addr} {vs : List V} {ds : List PyData} {V1 : Hp} (ha : SqT K V1 a vs) (hv : Dqs K V1 vs ds) : Yl K V1 (Itt K a) (ds.map DV.dat) := fun W' H2 x iv => by
  have h2 : SqT K H2 a vs := ex_t Wd.view_le (ex_t x ha)
  have hv2 := hv.mono x
  refine ⟨fun i e he => ?_, vs, h2, by rw [List.length_map, hv.length]; exact Nat.le_refl _⟩
  rw [List.getElem?_map] at he
  cases q : ds[i]? with
  | none =>
    rw [q] at he
    cases he
  | some d =>
    rw [q] at he
    cases he
    obtain ⟨v, q1, q2⟩ := hv2.getd q
    refine ⟨⟨vs, v, h2, q1⟩, fun y H3 hy => ?_⟩
    obtain ⟨rfl, hy⟩ := hy
    have e := hy vs h2
    rw [q1] at e
    cases e
    exact ⟨iv, Ex.refl _, q2⟩
/-- lo, lo + 1, .. -/
def rgN (lo : Int) (n : Nat) : List Int := (List.range n).map fun (i : Nat) => lo + (i : Int)
theorem rgN_length {lo : Int} {n : Nat} : (rgN lo n).length = n := by simp [rgN]
theorem rgN_get {lo : Int} {n i : Nat} (h : i < n) : (rgN lo n)[i]? = some (lo + (i : Int)) := by simp [rgN, h]
theorem yl_range {lo : Int} {n : Nat} {V1 : Hp} : Yl K V1 (Itr lo n) ((rgN lo n).map fun i => DV.dat (.int i)) := fun W' H2 x iv => by
  refine ⟨fun i e he => ?_, ?_⟩
  · rw [List.getElem?_map] at he
    by_cases hi : i < n
    · rw [rgN_get hi] at he
      cases he
      refine ⟨hi, fun y H3 hy => ?_⟩
      obtain ⟨rfl, rfl⟩ := hy
      exact ⟨iv, Ex.refl _, .int _⟩
    · rw [List.getElem?_eq_none (by rw [rgN_length]; omega)] at he
      cases he
  · show n ≤ _
    rw [List.length_map, rgN_length]
    exact Nat.le_refl _
theorem di_list {PL : List DV → Prop} (h : DE K W Δ te fun e => ∃ ds, e = .dat (.list ds) ∧ PL (ds.map DV.dat)) : DI K W Δ (iList K te) PL := fun σ H v i R q =>
  h σ H v i _ fun x H1 e i1 x1 p1 r1 => by
    obtain ⟨ds, rfl, k⟩ := p1
    cases r1 with
    | @lst a vs _ ha hv => exact ⟨a, rfl, ⟨vs, SqL.of (Wd.view_le _ _ ha)⟩, q _ H1 _ i1 x1 k (yl_list ha hv)⟩
theorem di_tup {PL : List DV → Prop} (h : DE K W Δ te fun e => ∃ ds, e = .dat (.tuple ds) ∧ PL (ds.map DV.dat)) : DI K W Δ (iTup K te) PL := fun σ H v i R q =>
  h σ H v i _ fun x H1 e i1 x1 p1 r1 => by
    obtain ⟨ds, rfl, k⟩ := p1
    cases r1 with
    | @tup a vs _ ha hv => exact ⟨a, rfl, ⟨vs, ex_t Wd.view_le ha⟩, q _ H1 _ i1 x1 k (yl_tup ha hv)⟩
theorem di_rng1 {ta : TA} {PL : List DV → Prop} (h : DA K W Δ ta fun es => ∃ n : Int, es = [.dat (.int n)] ∧ n.natAbs ≤ 100000 ∧ PL ((rgN 0 n.toNat).map fun i => DV.dat (.int i))) : DI K W Δ (iRng1 ta) PL := fun σ H v i R q =>
  h σ H v i _ fun xs H1 es i1 x1 p1 r1 => by
    obtain ⟨n, rfl, hn, k⟩ := p1
    obtain ⟨x, rfl, rx⟩ := reps1 r1
    cases rx
    exact ⟨n, rfl, by omega, by omega, q _ H1 _ i1 x1 k yl_range⟩
theorem di_rng2 {ta : TA} {PL : List DV → Prop} (h : DA K W Δ ta fun es => ∃ lo n : Int, es = [.dat (.int lo), .dat (.int n)] ∧ lo.natAbs ≤ 100000 ∧ n.natAbs ≤ 100000 ∧ PL ((rgN lo (n - lo).toNat).map fun i => DV.dat (.int i))) : DI K W Δ (iRng2 ta) PL := fun σ H v i R q =>
  h σ H v i _ fun xs H1 es i1 x1 p1 r1 => by
    obtain ⟨lo, n, rfl, h1, h2, k⟩ := p1
    obtain ⟨x, y, rfl, rx, ry⟩ := reps2 r1
    cases rx
    cases ry
    exact ⟨lo, n, rfl, ⟨by omega, by omega, by omega, by omega⟩, q _ H1 _ i1 x1 k yl_range⟩

/-! ### targets -/
/-- what a target does to the slots: e stored, Δ becomes Δ', only the slots js change -/
def Tg (K : PySem.W.Frag) (g : TG) (e : DV) (Δ Δ' : DEnv) (js : List Nat) : Prop :=
  ∀ (W : Wd) (σ : L2.St) (H : Hp) (v : V) (Q : L2.St → Hp → Prop), EnvOk K (W.view H) σ Δ → RepV K (W.view H) v e → (∀ σ', EnvOk K (W.view H) σ' Δ' → (∀ vs, (∀ j ∈ js, j ∈ vs) → wipe σ' vs = wipe σ vs) → Q σ' H) → g v σ H Q
def Tgs (K : PySem.W.Frag) (g : TGs) (es : List DV) (Δ Δ' : DEnv) (js : List Nat) : Prop :=
  ∀ (W : Wd) (σ : L2.St) (H : Hp) (vs : List V) (Q : L2.St → Hp → Prop), EnvOk K (W.view H) σ Δ → Reps K (W.view H) vs es → (∀ σ', EnvOk K (W.view H) σ' Δ' → (∀ ws, (∀ j ∈ js, j ∈ ws) → wipe σ' ws = wipe σ ws) → Q σ' H) → g vs σ H Q
theorem set_comm_opt {α : Type} (l : List α) {i j : Nat} (h : i ≠ j) (x y : α) : (l.set i x).set j y = (l.set j y).set i x := List.set_comm _ _ h
theorem wipe_set : ∀ {vs : List Nat} {σ : L2.St} {j : Nat} {x : Option V}, j ∈ vs → wipe (σ.set j x) vs = wipe σ vs
  | v :: vs, σ, j, x, h => by
    show (wipe (σ.set j x) vs).set v none = (wipe σ vs).set v none
    by_cases hm : j ∈ vs
    · rw [wipe_set hm]
    · have e : j = v := by
        rcases List.mem_cons.mp h with e | e
        · exact e
        · exact absurd e hm
      subst e
      rw [wipe_keep hm, List.set_set]
where
  wipe_keep : ∀ {vs : List Nat} {σ : L2.St} {j : Nat} {x : Option V}, j ∉ vs → wipe (σ.set j x) vs = (wipe σ vs).set j x
    | [], _, _, _, _ => rfl
    | v :: vs, σ, j, x, h => by
      have h1 : j ≠ v := fun e => h (by simp [e])
      have h2 : j ∉ vs := fun e => h (by simp [e])
      show (wipe (σ.set j x) vs).set v none = ((wipe σ vs).set v none).set j x
      rw [wipe_keep h2, set_comm_opt _ h1]
theorem wipe_none : ∀ {vs : List Nat} {σ : L2.St}, wipe (wipe σ vs) vs = wipe σ vs
  | vs, σ => wipe_sub (vs := vs) fun _ h => h
where
  wipe_sub : ∀ {us vs : List Nat} {σ : L2.St}, (∀ j ∈ us, j ∈ vs) → wipe (wipe σ us) vs = wipe σ vs
    | [], _, _, _ => rfl
    | u :: us, vs, σ, h => by
      show wipe ((wipe σ us).set u none) vs = wipe σ vs
      rw [wipe_set (h u (by simp)), wipe_sub fun j hj => h j (by simp [hj])]
theorem tg_name {i : Nat} {e : DV} : Tg K (gName i) e Δ (Δ.set i (some e)) [i] := fun W σ H v Q en r q => q _ (en.set r) fun vs h => wipe_set (h i (by simp))
theorem tgs_nil : Tgs K gNil [] Δ Δ [] := fun W σ H vs Q en r q => by
  cases r
  exact ⟨rfl, q σ en fun _ _ => rfl⟩
theorem tgs_cons {g : TG} {gs : TGs} {e : DV} {es : List DV} {Δ2 : DEnv} {js ks : List Nat} (h : Tg K g e Δ Δ1 js) (hs : Tgs K gs es Δ1 Δ2 ks) : Tgs K (gCons g gs) (e :: es) Δ Δ2 (js ++ ks) := fun W σ H vs Q en r q => by
  cases r with
  | cons r1 r2 =>
    exact ⟨_, _, rfl, h W σ H _ _ en r1 fun σ1 en1 w1 => hs W σ1 H _ _ en1 r2 fun σ2 en2 w2 => q σ2 en2 fun ws hw => by
      rw [w2 ws fun j hj => hw j (List.mem_append_right _ hj), w1 ws fun j hj => hw j (List.mem_append_left _ hj)]⟩
theorem tg_tup {n : Nat} {gs : TGs} {ds : List PyData} {js : List Nat} (hn : ds.length = n) (h : Tgs K gs (ds.map DV.dat) Δ Δ1 js) : Tg K (gTup K n gs) (.dat (.tuple ds)) Δ Δ1 js := fun W σ H v Q en r q => by
  cases r with
  | @tup a vs _ ha hv =>
    exact ⟨a, vs, rfl, ex_t Wd.view_le ha, by rw [hv.length]; exact hn, h W σ H vs Q en (Dqs.reps hv) q⟩

/-! ### loops -/
theorem ds_for {wi : TI} {g : TG} {tb : TS}
    (hi : DI K W Δ wi fun es => ∃ I : Nat → Wd → DEnv → Prop, I 0 W Δ ∧ (∀ i e W' Δ', es[i]? = some e → I i W' Δ' → ∃ Δ1 js, Tg K g e Δ' Δ1 js ∧ DS K W' Δ1 tb (I (i + 1)) rt nx (I (i + 1))) ∧ ∀ W' Δ', I es.length W' Δ' → nx W' Δ') :
    DS K W Δ (tFor wi g tb) nx rt bk ct := fun σ H D v i c => hi σ H v i _ fun J H1 es i1 x1 p1 y1 => by
  obtain ⟨I, h0, hs, hd⟩ := p1
  refine ⟨fun k m σ' H' => m = es.length - k ∧ k ≤ es.length ∧ ∃ W' Δ', I k W' Δ' ∧ W'.inv H' ∧ Ex (W.view H1) (W'.view H') ∧ EnvOk K (W'.view H') σ' Δ', ⟨_, rfl, Nat.zero_le _, W, Δ, h0, i1, Ex.refl _, v.mono x1⟩, ?_⟩
  rintro k m σ' H' ⟨rfl, hk, W', Δ', hI, i', x', v'⟩
  obtain ⟨yg, ys⟩ := y1 W' H' x' i'
  by_cases hlt : k < es.length
  · obtain ⟨g1, g2⟩ := yg k es[k] (List.getElem?_eq_getElem hlt)
    refine .inr ⟨g1, fun σ2 H2 => k + 1 ≤ es.length ∧ ∃ W' Δ', I (k + 1) W' Δ' ∧ W'.inv H2 ∧ Ex (W.view H1) (W'.view H2) ∧ EnvOk K (W'.view H2) σ2 Δ', fun σ2 H2 ⟨q1, q2⟩ => ⟨es.length - (k + 1), by omega, rfl, q1, q2⟩, fun x H2 hy => ?_⟩
    obtain ⟨i2, x2, r2⟩ := g2 x H2 hy
    obtain ⟨Δ1, js, ht, hb⟩ := hs k es[k] W' Δ' (List.getElem?_eq_getElem hlt) hI
    refine ht W' σ' H2 x _ (v'.mono x2) r2 fun σ3 v3 _ => ?_
    refine hb σ3 H2 _ v3 i2 ⟨fun W4 Δ4 σ4 H4 n4 i4 x4 v4 => ⟨by omega, W4, Δ4, n4, i4, (x'.trans x2).trans x4, v4⟩, fun W4 e4 v4 H4 n4 i4 x4 r4 => c.rt W4 e4 v4 H4 n4 i4 (((x1.trans x').trans x2).trans x4) r4, fun W4 Δ4 σ4 H4 n4 i4 x4 v4 => c.nx W4 Δ4 σ4 H4 n4 i4 (((x1.trans x').trans x2).trans x4) v4, fun W4 Δ4 σ4 H4 n4 i4 x4 v4 => ⟨by omega, W4, Δ4, n4, i4, (x'.trans x2).trans x4, v4⟩⟩
  · have e : k = es.length := by omega
    subst e
    exact .inl ⟨ys, c.nx W' Δ' σ' H' (hd W' Δ' hI) i' (x1.trans x') v'⟩

/-! ### comprehensions -/
/-- a list of data, apart -/
def knL (K : PySem.W.Frag) (ds : List PyData) : Kn where
  of U o := ∃ xs, o = .lst xs ∧ Dqs K U xs ds
  mono e h := by
    obtain ⟨xs, h1, h2⟩ := h
    exact ⟨xs, h1, h2.mono e⟩
theorem de_lc {wi : TI} {g : TG} {ws : List Nat}
    (hi : DI K W Δ wi fun es => es.length ≤ 50000 ∧ ∃ A : Nat → List PyData → Prop, A 0 [] ∧ (∀ i e acc W', es[i]? = some e → A i acc → (∃ p φ, W' = W.hide p φ ∧ W.hid p = false) → ∃ Δ1 js, Tg K g e (wipeD Δ ws) Δ1 js ∧ (∀ j ∈ js, j ∈ ws) ∧
      DT K W' Δ1 tt fun b => (b = true → DE K W' Δ1 te fun z => ∃ d, z = .dat d ∧ A (i + 1) (acc ++ [d])) ∧ (b = false → A (i + 1) acc)) ∧ ∀ acc, A es.length acc → P (.dat (.list acc))) :
    DE K W Δ (tLc wi g tt te ws) P := fun σ H v i Q q => hi σ H v i _ fun J H1 es i1 x1 p1 y1 => by
  obtain ⟨hz, A, h0, hs, hd⟩ := p1
  intro Dl hD
  have hp := Wd.hid_none i1 hD
  obtain ⟨n1, n2⟩ := Wd.hide_new (φ := knL K []) (o := .lst []) i1 hD ⟨[], rfl, .nil⟩
  refine ⟨fun k m H' => m = es.length - k ∧ k ≤ es.length ∧ ∃ acc, A k acc ∧ acc.length ≤ k ∧ (W.hide Dl (knL K acc)).inv H' ∧ Ex (W.view H1) ((W.hide Dl (knL K acc)).view H'), ⟨_, rfl, Nat.zero_le _, [], h0, Nat.le_refl _, n1, by rw [n2]; exact Ex.refl _⟩, ?_⟩
  rintro k m H' ⟨rfl, hk, acc, hA, hl, i', x'⟩
  obtain ⟨yg, ys⟩ := y1 _ H' x' i'
  by_cases hlt : k < es.length
  · obtain ⟨g1, g2⟩ := yg k es[k] (List.getElem?_eq_getElem hlt)
    refine .inr ⟨g1, fun H2 => k + 1 ≤ es.length ∧ ∃ acc, A (k + 1) acc ∧ acc.length ≤ k + 1 ∧ (W.hide Dl (knL K acc)).inv H2 ∧ Ex (W.view H1) ((W.hide Dl (knL K acc)).view H2), fun H2 ⟨q1, q2⟩ => ⟨es.length - (k + 1), by omega, rfl, q1, q2⟩, fun x H2 hy => ?_⟩
    obtain ⟨i2, x2, r2⟩ := g2 x H2 hy
    obtain ⟨Δ1, js, ht, hjs, hb⟩ := hs k es[k] acc _ (List.getElem?_eq_getElem hlt) hA ⟨Dl, _, rfl, hp⟩
    have v2 : EnvOk K ((W.hide Dl (knL K acc)).view H2) (wipe σ ws) (wipeD Δ ws) := (v.mono ((x1.trans x').trans x2)).wipe
    refine ht (W.hide Dl (knL K acc)) (wipe σ ws) H2 x _ v2 r2 fun σ3 v3 w3 => ⟨by rw [w3 ws hjs, wipe_none], ?_⟩
    refine hb σ3 H2 v3 i2 _ fun b H3 i3 x3 p3 => ?_
    cases b with
    | true =>
      show te σ3 H3 _
      refine p3.1 rfl σ3 H3 (v3.mono x3) i3 _ fun y H4 e4 i4 x4 p4 r4 => ?_
      obtain ⟨d, rfl, hA4⟩ := p4
      obtain ⟨o, ho, xs, rfl, hx⟩ := Wd.hide_at i4
      have hlen := hx.length
      refine ⟨xs, ho, sz_lt (by omega), by omega, acc ++ [d], hA4, by rw [List.length_append]; show acc.length + 1 ≤ k + 1; omega, ?_⟩
      obtain ⟨z1, z2⟩ := Wd.hide_put (ψ := knL K (acc ++ [d])) (u := .lst (xs ++ [y])) i4 ⟨_, rfl, hx.append (.cons r4 .nil)⟩
      refine ⟨z1, ?_⟩
      rw [z2]
      exact ((x'.trans x2).trans x3).trans x4
    | false =>
      show _ ∧ _
      exact ⟨by omega, acc, p3.2 rfl, by omega, i3, (x'.trans x2).trans x3⟩
  · have e : k = es.length := by omega
    subst e
    refine .inl ⟨ys, ?_⟩
    obtain ⟨u1, u2, o, ho, xs, rfl, hx⟩ := Wd.unhide hp i'
    exact q _ H' _ u1 ((x1.trans x').trans u2) (hd acc hA) (.lst ho hx)
end
end Ka

namespace Ka
open PySem PySem.Spec PyProof.Rows L2 Evl
section
variable {K : PySem.W.Frag} {W W1 : Wd} {Δ Δ1 : DEnv} {te ta tb tc tx : TE} {tt tu : TT} {t u : TS} {r r' : R2} {P P' : DV → Prop} {PB : Bool → Prop} {PL : List DV → Prop}
  {nx nx' : Wd → DEnv → Prop} {rt : Wd → DV → Prop} {bk ct : Wd → DEnv → Prop} {H H1 : Hp} {D : Ends}
/-- W' is W, one more thing apart -/
def Hid (W W' : Wd) : Prop := ∃ p φ, W' = W.hide p φ ∧ W.hid p = false
theorem DI.mono {wi : TI} {PL' : List DV → Prop} (h : DI K W Δ wi PL) (k : ∀ es, PL es → PL' es) : DI K W Δ wi PL' := fun σ H v i R q => h σ H v i R fun J H' es i' x p y => q J H' es i' x (k es p) y
theorem de_lc2 {wi wi1 : TI} {g g1 : TG} {tt1 : TT} {ws ws1 : List Nat}
    (hi : DI K W Δ wi fun es => ∃ A : Nat → List PyData → Prop, A 0 [] ∧ (∀ i e acc W', es[i]? = some e → A i acc → Hid W W' → ∃ Δ1 js, Tg K g e (wipeD Δ ws) Δ1 js ∧ (∀ j ∈ js, j ∈ ws) ∧
      DT K W' Δ1 tt fun b => (b = true → DI K W' Δ1 wi1 fun es1 => ∃ B : Nat → List PyData → Prop, B 0 acc ∧ (∀ j e1 acc1 W'', es1[j]? = some e1 → B j acc1 → Hid W W'' → acc1.length < 100000 ∧ ∃ Δ2 ks, Tg K g1 e1 (wipeD Δ1 ws1) Δ2 ks ∧ (∀ k ∈ ks, k ∈ ws1) ∧
          DT K W'' Δ2 tt1 fun b => (b = true → DE K W'' Δ2 te fun z => ∃ d, z = .dat d ∧ B (j + 1) (acc1 ++ [d])) ∧ (b = false → B (j + 1) acc1)) ∧ ∀ acc1, B es1.length acc1 → A (i + 1) acc1) ∧ (b = false → A (i + 1) acc)) ∧ ∀ acc, A es.length acc → P (.dat (.list acc))) :
    DE K W Δ (tLc2 wi g tt wi1 g1 tt1 te ws ws1) P := fun σ H v i Q q => hi σ H v i _ fun J H1 es i1 x1 p1 y1 => by
  obtain ⟨A, h0, hs, hd⟩ := p1
  intro Dl hD
  have hp := Wd.hid_none i1 hD
  obtain ⟨n1, n2⟩ := Wd.hide_new (φ := knL K []) (o := .lst []) i1 hD ⟨[], rfl, .nil⟩
  refine ⟨fun k m H' => m = es.length - k ∧ k ≤ es.length ∧ ∃ acc, A k acc ∧ (W.hide Dl (knL K acc)).inv H' ∧ Ex (W.view H1) ((W.hide Dl (knL K acc)).view H'), ⟨_, rfl, Nat.zero_le _, [], h0, n1, by rw [n2]; exact Ex.refl _⟩, ?_⟩
  rintro k m H' ⟨rfl, hk, acc, hA, i', x'⟩
  obtain ⟨yg, ys⟩ := y1 _ H' x' i'
  by_cases hlt : k < es.length
  · obtain ⟨g1', g2'⟩ := yg k es[k] (List.getElem?_eq_getElem hlt)
    refine .inr ⟨g1', fun H2 => k + 1 ≤ es.length ∧ ∃ acc, A (k + 1) acc ∧ (W.hide Dl (knL K acc)).inv H2 ∧ Ex (W.view H1) ((W.hide Dl (knL K acc)).view H2), fun H2 ⟨q1, q2⟩ => ⟨es.length - (k + 1), by omega, rfl, q1, q2⟩, fun x H2 hy => ?_⟩
    obtain ⟨i2, x2, r2⟩ := g2' x H2 hy
    obtain ⟨Δ1, js, ht, hjs, hb⟩ := hs k es[k] acc _ (List.getElem?_eq_getElem hlt) hA ⟨Dl, _, rfl, hp⟩
    have v2 : EnvOk K ((W.hide Dl (knL K acc)).view H2) (wipe σ ws) (wipeD Δ ws) := (v.mono ((x1.trans x').trans x2)).wipe
    refine ht (W.hide Dl (knL K acc)) (wipe σ ws) H2 x _ v2 r2 fun σ3 v3 w3 => ⟨by rw [w3 ws hjs, wipe_none], ?_⟩
    refine hb σ3 H2 v3 i2 _ fun b H3 i3 x3 p3 => ?_
    cases b with
    | false =>
      show _ ∧ _
      exact ⟨by omega, acc, p3.2 rfl, i3, (x'.trans x2).trans x3⟩
    | true =>
      show wi1 σ3 H3 _
      refine p3.1 rfl σ3 H3 (v3.mono x3) i3 _ fun J1 H4 es1 i4 x4 p4 y4 => ?_
      obtain ⟨B, b0, bs, bd⟩ := p4
      have v4 : EnvOk K ((W.hide Dl (knL K acc)).view H4) σ3 Δ1 := v3.mono (x3.trans x4)
      have x14 : Ex (W.view H1) ((W.hide Dl (knL K acc)).view H4) := ((x'.trans x2).trans x3).trans x4
      refine ⟨fun l n H5 => n = es1.length - l ∧ l ≤ es1.length ∧ ∃ acc1, B l acc1 ∧ (W.hide Dl (knL K acc1)).inv H5 ∧ Ex ((W.hide Dl (knL K acc)).view H4) ((W.hide Dl (knL K acc1)).view H5), ⟨_, rfl, Nat.zero_le _, acc, b0, i4, Ex.refl _⟩, ?_⟩
      rintro l n H5 ⟨rfl, hl, acc1, hB, i5, x5⟩
      obtain ⟨yg1, ys1⟩ := y4 _ H5 x5 i5
      by_cases hlt1 : l < es1.length
      · obtain ⟨g3, g4⟩ := yg1 l es1[l] (List.getElem?_eq_getElem hlt1)
        refine .inr ⟨g3, fun H6 => l + 1 ≤ es1.length ∧ ∃ acc1, B (l + 1) acc1 ∧ (W.hide Dl (knL K acc1)).inv H6 ∧ Ex ((W.hide Dl (knL K acc)).view H4) ((W.hide Dl (knL K acc1)).view H6), fun H6 ⟨q1, q2⟩ => ⟨es1.length - (l + 1), by omega, rfl, q1, q2⟩, fun x H6 hy1 => ?_⟩
        obtain ⟨i6, x6, r6⟩ := g4 x H6 hy1
        obtain ⟨hz, Δ2, ks, ht1, hks, hb1⟩ := bs l es1[l] acc1 _ (List.getElem?_eq_getElem hlt1) hB ⟨Dl, _, rfl, hp⟩
        have v6 : EnvOk K ((W.hide Dl (knL K acc1)).view H6) (wipe σ3 ws1) (wipeD Δ1 ws1) := (v4.mono (x5.trans x6)).wipe
        refine ht1 (W.hide Dl (knL K acc1)) (wipe σ3 ws1) H6 x _ v6 r6 fun σ7 v7 w7 => ⟨by rw [w7 ws1 hks, wipe_none], ?_⟩
        refine hb1 σ7 H6 v7 i6 _ fun b H7 i7 x7 p7 => ?_
        cases b with
        | true =>
          show te σ7 H7 _
          refine p7.1 rfl σ7 H7 (v7.mono x7) i7 _ fun y H8 e8 i8 x8 p8 r8 => ?_
          obtain ⟨d, rfl, hB8⟩ := p8
          obtain ⟨o, ho, xs, rfl, hx⟩ := Wd.hide_at i8
          have hlen := hx.length
          refine ⟨xs, ho, sz_lt (by omega), by omega, acc1 ++ [d], hB8, ?_⟩
          obtain ⟨z1, z2⟩ := Wd.hide_put (ψ := knL K (acc1 ++ [d])) (u := .lst (xs ++ [y])) i8 ⟨_, rfl, hx.append (.cons r8 .nil)⟩
          refine ⟨z1, ?_⟩
          rw [z2]
          exact ((x5.trans x6).trans x7).trans x8
        | false =>
          show _ ∧ _
          exact ⟨by omega, acc1, p7.2 rfl, i7, (x5.trans x6).trans x7⟩
      · have e : l = es1.length := by omega
        subst e
        exact .inl ⟨ys1, by omega, acc1, bd acc1 hB, i5, x14.trans x5⟩
  · have e : k = es.length := by omega
    subst e
    refine .inl ⟨ys, ?_⟩
    obtain ⟨u1, u2, o, ho, xs, rfl, hx⟩ := Wd.unhide hp i'
    exact q _ H' _ u1 ((x1.trans x').trans u2) (hd acc hA) (.lst ho hx)

/-! ### the same told by a list of things -/
theorem de_lcM {α : Type} {wi : TI} {g : TG} {ws : List Nat} (xs : List α) (enc : α → DV) (c : α → Bool) (f : α → PyData) (hi : DI K W Δ wi fun es => es = xs.map enc) (hz : xs.length ≤ 50000)
    (h : ∀ x ∈ xs, ∀ W', Hid W W' → ∃ Δ1 js, Tg K g (enc x) (wipeD Δ ws) Δ1 js ∧ (∀ j ∈ js, j ∈ ws) ∧ DT K W' Δ1 tt fun b => b = c x ∧ (c x = true → DE K W' Δ1 te fun z => z = .dat (f x)))
    (k : P (.dat (.list ((xs.filter c).map f)))) : DE K W Δ (tLc wi g tt te ws) P := de_lc <| hi.mono fun es he => by
  subst he
  refine ⟨by rw [List.length_map]; exact hz, fun i acc => acc = ((xs.take i).filter c).map f, rfl, fun i e acc W' he ha hW => ?_, fun acc ha => ?_⟩
  · rw [List.getElem?_map] at he
    cases hx : xs[i]? with
    | none =>
      rw [hx] at he
      cases he
    | some x =>
      rw [hx] at he
      cases he
      obtain ⟨Δ1, js, h1, h2, h3⟩ := h x (List.mem_of_getElem? hx) W' hW
      refine ⟨Δ1, js, h1, h2, h3.mono fun b hb => ?_⟩
      obtain ⟨hb, hE⟩ := hb
      have tk : xs.take (i + 1) = xs.take i ++ [x] := by rw [List.take_add_one, hx]; rfl
      refine ⟨fun e => (hE (by rw [← hb, e])).mono fun z hz => ⟨f x, hz, ?_⟩, fun e => ?_⟩
      · have hc : c x = true := by rw [← hb, e]
        show acc ++ [f x] = _
        rw [tk, List.filter_append, List.map_append, ha, List.filter_cons, if_pos hc]
        rfl
      · have hc : c x = false := by rw [← hb, e]
        show acc = _
        rw [tk, List.filter_append, List.map_append, ha, List.filter_cons, if_neg (by rw [hc]; decide)]
        exact (List.append_nil _).symm
  · subst ha
    rw [List.length_map, List.take_length]
    exact k
theorem de_lc2M {α β : Type} {wi wi1 : TI} {g g1 : TG} {tt1 : TT} {ws ws1 : List Nat} (xs : List α) (enc : α → DV) (c : α → Bool) (ys : α → List β) (enc1 : α → β → DV) (c1 : α → β → Bool) (f : α → β → PyData) (m : Nat) (hi : DI K W Δ wi fun es => es = xs.map enc) (hz : xs.length * m ≤ 50000) (hm : ∀ x ∈ xs, (ys x).length ≤ m)
    (h : ∀ x ∈ xs, ∀ W', Hid W W' → ∃ Δ1 js, Tg K g (enc x) (wipeD Δ ws) Δ1 js ∧ (∀ j ∈ js, j ∈ ws) ∧ DT K W' Δ1 tt fun b => b = c x ∧ (c x = true → DI K W' Δ1 wi1 (fun es => es = (ys x).map (enc1 x)) ∧
      ∀ y ∈ ys x, ∀ W'', Hid W W'' → ∃ Δ2 ks, Tg K g1 (enc1 x y) (wipeD Δ1 ws1) Δ2 ks ∧ (∀ k ∈ ks, k ∈ ws1) ∧ DT K W'' Δ2 tt1 fun b => b = c1 x y ∧ (c1 x y = true → DE K W'' Δ2 te fun z => z = .dat (f x y))))
    (k : P (.dat (.list ((xs.filter c).flatMap fun x => ((ys x).filter (c1 x)).map (f x))))) : DE K W Δ (tLc2 wi g tt wi1 g1 tt1 te ws ws1) P := de_lc2 <| hi.mono fun es he => by
  subst he
  refine ⟨fun i acc => acc = ((xs.take i).filter c).flatMap (fun x => ((ys x).filter (c1 x)).map (f x)) ∧ acc.length ≤ i * m, ⟨rfl, Nat.zero_le _⟩, fun i e acc W' he ⟨ha, hl⟩ hW => ?_, fun acc ⟨ha, _⟩ => ?_⟩
  · rw [List.getElem?_map] at he
    cases hx : xs[i]? with
    | none =>
      rw [hx] at he
      cases he
    | some x =>
      rw [hx] at he
      cases he
      have hxm : x ∈ xs := List.mem_of_getElem? hx
      have hil : i < xs.length := (List.getElem?_eq_some_iff.mp hx).1
      have him : (i + 1) * m ≤ 50000 := Nat.le_trans (Nat.mul_le_mul_right m hil) hz
      rw [Nat.add_mul, Nat.one_mul] at him
      obtain ⟨Δ1, js, h1, h2, h3⟩ := h x hxm W' hW
      refine ⟨Δ1, js, h1, h2, h3.mono fun b hb => ?_⟩
      obtain ⟨hb, hE⟩ := hb
      have tk : xs.take (i + 1) = xs.take i ++ [x] := by rw [List.take_add_one, hx]; rfl
      refine ⟨fun e => ?_, fun e => ?_⟩
      · have hc : c x = true := by rw [← hb, e]
        obtain ⟨hi1, hin⟩ := hE hc
        refine hi1.mono fun es1 he1 => ?_
        subst he1
        refine ⟨fun j acc1 => acc1 = acc ++ (((ys x).take j).filter (c1 x)).map (f x) ∧ acc1.length ≤ i * m + j, ⟨by simp, hl⟩, fun j e1 acc1 W'' he1 ⟨hb1, hl1⟩ hW2 => ?_, fun acc1 ⟨hb1, hl1⟩ => ?_⟩
        · rw [List.getElem?_map] at he1
          cases hy : (ys x)[j]? with
          | none =>
            rw [hy] at he1
            cases he1
          | some y =>
            rw [hy] at he1
            cases he1
            have hjl : j < (ys x).length := (List.getElem?_eq_some_iff.mp hy).1
            have hmx := hm x hxm
            obtain ⟨Δ2, ks, k1, k2, k3⟩ := hin y (List.mem_of_getElem? hy) W'' hW2
            refine ⟨by omega, Δ2, ks, k1, k2, k3.mono fun b2 hb2 => ?_⟩
            obtain ⟨hb2, hE2⟩ := hb2
            have tk1 : (ys x).take (j + 1) = (ys x).take j ++ [y] := by rw [List.take_add_one, hy]; rfl
            refine ⟨fun e2 => (hE2 (by rw [← hb2, e2])).mono fun z hz => ⟨f x y, hz, ?_, ?_⟩, fun e2 => ⟨?_, by omega⟩⟩
            · have hc2 : c1 x y = true := by rw [← hb2, e2]
              rw [tk1, List.filter_append, List.map_append, hb1, List.append_assoc, List.filter_cons, if_pos hc2]
              rfl
            · rw [List.length_append]
              show acc1.length + 1 ≤ _
              omega
            · have hc2 : c1 x y = false := by rw [← hb2, e2]
              rw [tk1, List.filter_append, List.map_append, hb1, List.filter_cons, if_neg (by rw [hc2]; decide)]
              show _ = acc ++ (_ ++ [])
              rw [List.append_nil]
        · rw [List.length_map, List.take_length] at hb1
          refine ⟨?_, ?_⟩
          · rw [tk, List.filter_append, List.flatMap_append, ← ha, List.filter_cons, if_pos hc, hb1]
            simp
          · have hmx := hm x hxm
            rw [List.length_map] at hl1
            rw [Nat.add_mul, Nat.one_mul]
            omega
      · have hc : c x = false := by rw [← hb, e]
        refine ⟨?_, by rw [Nat.add_mul, Nat.one_mul]; omega⟩
        rw [tk, List.filter_append, List.flatMap_append, ← ha, List.filter_cons, if_neg (by rw [hc]; decide)]
        show acc = acc ++ []
        rw [List.append_nil]
  · subst ha
    rw [List.length_map, List.take_length]
    exact k

/-! ### lists that change -/
theorem EnvOk.vw {σ : L2.St} (h : W.view H = W1.view H1) (v : EnvOk K (W.view H) σ Δ) : EnvOk K (W1.view H1) σ Δ := by
  rw [← h]
  exact v
/-- x = [], the list apart -/
theorem ds_newL {i : Nat} (k : ∀ p, W.hid p = false → nx (W.hide p (knL K [])) (Δ.set i (some (.raw (.ref p))))) : DS K W Δ (tAsg (tLst tNil) (gName i)) nx rt bk ct := fun σ H D v iv c => by
  refine ⟨Nat.zero_le _, fun p hp => ?_⟩
  obtain ⟨n1, n2⟩ := Wd.hide_new (φ := knL K []) (o := .lst []) iv hp ⟨[], rfl, .nil⟩
  refine c.nx _ _ _ _ (k p (Wd.hid_none iv hp)) n1 (by rw [n2]; exact Ex.refl _) ?_
  rw [n2]
  exact v.set rfl
/-- a name's list is put apart: it was made here and no one else has it; known by its data -/
theorem ds_app {i p : Nat} {ds : List PyData} (hi : Δ[i]? = some (some (.raw (.ref p)))) (hz : ds.length < 100000) (h : DE K (W.hide p (knL K ds)) Δ te fun e => ∃ d, e = .dat d ∧ nx (W.hide p (knL K (ds ++ [d]))) Δ) :
    DS K (W.hide p (knL K ds)) Δ (tDrop (tBM K "list" rAppend (tVar i) (tCons te tNil))) nx rt bk ct := fun σ H D v iv c => by
  obtain ⟨x, hx, rx⟩ := v.at_ i _ hi
  have rx : x = .ref p := rx
  subst rx
  obtain ⟨o, ho, xs, rfl, hxs⟩ := Wd.hide_at iv
  refine ⟨.ref p, hx, .inl ⟨rfl, xs, SqL.of ho⟩, ?_⟩
  refine h σ H v iv _ fun y H1 e i1 x1 p1 r1 => ?_
  obtain ⟨d, rfl, hn⟩ := p1
  obtain ⟨o1, ho1, ys, rfl, hys⟩ := Wd.hide_at i1
  have hl := hys.length
  refine ⟨p, ys, y, rfl, rfl, ho1, sz_lt (by omega), ?_⟩
  obtain ⟨z1, z2⟩ := Wd.hide_put (ψ := knL K (ds ++ [d])) (u := .lst (ys ++ [y])) i1 ⟨_, rfl, hys.append (.cons r1 .nil)⟩
  refine c.nx _ Δ σ _ hn z1 (by rw [z2]; exact x1) ?_
  rw [z2]
  exact v.mono x1
theorem ds_ext {i p : Nat} {ds : List PyData} (hi : Δ[i]? = some (some (.raw (.ref p)))) (h : DE K (W.hide p (knL K ds)) Δ te fun e => ∃ es, e = .dat (.list es) ∧ ds.length + es.length ≤ 100000 ∧ nx (W.hide p (knL K (ds ++ es))) Δ) :
    DS K (W.hide p (knL K ds)) Δ (tDrop (tBM K "list" rExtend (tVar i) (tCons te tNil))) nx rt bk ct := fun σ H D v iv c => by
  obtain ⟨x, hx, rx⟩ := v.at_ i _ hi
  have rx : x = .ref p := rx
  subst rx
  obtain ⟨o, ho, xs, rfl, hxs⟩ := Wd.hide_at iv
  refine ⟨.ref p, hx, .inl ⟨rfl, xs, SqL.of ho⟩, ?_⟩
  refine h σ H v iv _ fun y H1 e i1 x1 p1 r1 => ?_
  obtain ⟨es, rfl, hz, hn⟩ := p1
  obtain ⟨o1, ho1, ys, rfl, hys⟩ := Wd.hide_at i1
  have hl := hys.length
  cases r1 with
  | @lst b zs _ hb hzs =>
    have hl2 := hzs.length
    refine ⟨p, b, ys, zs, rfl, rfl, ho1, Wd.view_le _ _ hb, sz_of (by omega), ?_⟩
    obtain ⟨z1, z2⟩ := Wd.hide_put (ψ := knL K (ds ++ es)) (u := .lst (ys ++ zs)) i1 ⟨_, rfl, hys.append hzs⟩
    refine c.nx _ Δ σ _ hn z1 (by rw [z2]; exact x1) ?_
    rw [z2]
    exact v.mono x1
/-- the list is seen again, as data -/
theorem ds_see {i p : Nat} {ds : List PyData} (hp : W.hid p = false) (hi : Δ[i]? = some (some (.raw (.ref p)))) (h : DS K W (Δ.set i (some (.dat (.list ds)))) t nx rt bk ct) : DS K (W.hide p (knL K ds)) Δ t nx rt bk ct := fun σ H D v iv c => by
  obtain ⟨x, hx, rx⟩ := v.at_ i _ hi
  have rx : x = .ref p := rx
  subst rx
  obtain ⟨u1, u2, o, ho, xs, rfl, hxs⟩ := Wd.unhide hp iv
  refine h σ H D ⟨by rw [List.length_set]; exact v.len, fun j e q => ?_⟩ u1 (c.step u2)
  by_cases hj : i = j
  · subst hj
    by_cases hl : i < Δ.length
    · rw [List.getElem?_set_self hl] at q
      cases q
      exact ⟨.ref p, hx, .lst ho hxs⟩
    · rw [List.getElem?_eq_none (by simpa using hl)] at q
      cases q
  · rw [List.getElem?_set_ne hj] at q
    obtain ⟨y, h1, h2⟩ := v.at_ j e q
    exact ⟨y, h1, h2.mono u2⟩
end

/-! ### what a def promises -/
abbrev Con := Wd → List DV → (DV → Prop) → Prop
def SpC (K : PySem.W.Frag) (C : Con) : Sp := fun vs H Q _ => ∃ W es P, C W es P ∧ W.inv H ∧ Reps K (W.view H) vs es ∧ ∀ v H' e, W.inv H' → Ex (W.view H) (W.view H') → P e → RepV K (W.view H') v e → Q v H'
/-- W1 keeps apart what W does -/
def Wd.Le (W W1 : Wd) : Prop := ∀ H, W1.inv H → W.inv H ∧ Ex (W1.view H) (W.view H)
theorem Wd.Le.refl (W : Wd) : Wd.Le W W := fun _ i => ⟨i, Ex.refl _⟩
theorem Wd.Le.hide {W W1 : Wd} {p : Addr} {φ : Kn} (h : Wd.Le W W1) (hp : W1.hid p = false) : Wd.Le W (W1.hide p φ) := fun H i => by
  obtain ⟨u1, u2, _⟩ := Wd.unhide hp i
  obtain ⟨v1, v2⟩ := h H u1
  exact ⟨v1, u2.trans v2⟩
def startD (N : List Str) (es : List DV) : DEnv := es.map some ++ List.replicate (N.length - es.length) none
theorem reps_len {K : PySem.W.Frag} {H : Hp} {vs : List V} {es : List DV} (h : Reps K H vs es) : vs.length = es.length := Paired.length h
theorem reps_get {K : PySem.W.Frag} {H : Hp} : ∀ {vs : List V} {es : List DV} {i : Nat} {e : DV}, Reps K H vs es → es[i]? = some e → ∃ v, vs[i]? = some v ∧ RepV K H v e
  | _, _, _, _, .nil, h => by simp at h
  | _, _, 0, _, .cons r _, h => by
    simp at h
    subst h
    exact ⟨_, rfl, r⟩
  | _, _, i + 1, e, .cons _ t, h => by
    obtain ⟨v, h1, h2⟩ := reps_get (i := i) (e := e) t (by simpa using h)
    exact ⟨v, by simpa using h1, h2⟩
theorem env_start {K : PySem.W.Frag} {H : Hp} {N : List Str} {vs : List V} {es : List DV} (h : Reps K H vs es) : EnvOk K H (L2.start N vs) (startD N es) := by
  have hl := reps_len h
  refine ⟨by unfold L2.start startD; simp [hl], fun i e q => ?_⟩
  unfold startD at q
  unfold L2.start
  by_cases hi : i < es.length
  · rw [List.getElem?_append_left (by simpa using hi), List.getElem?_map] at q
    rw [List.getElem?_append_left (by simpa [hl] using hi), List.getElem?_map]
    cases e1 : es[i]? with
    | none =>
      rw [e1] at q
      cases q
    | some z =>
      rw [e1] at q
      cases q
      obtain ⟨v, h1, h2⟩ := reps_get h e1
      exact ⟨v, by rw [h1]; rfl, h2⟩
  · rw [List.getElem?_append_right (by simpa using hi), List.getElem?_replicate] at q
    split at q <;> cases q
section
variable {P : Program} {w : World} {K : PySem.W.Frag} {mg : Str → Option Value} {base : Heap} {C : Con}
/-- what a body that keeps the contract is to do -/
def Keeps (K : PySem.W.Frag) (N : List Str) (C : Con) (t : TS) : Prop := ∀ W es P, C W es P → DS K W (startD N es) t (fun W' _ => Wd.Le W W' ∧ P (.dat .none)) (fun W' e => Wd.Le W W' ∧ P e) (fun _ _ => False) (fun _ _ => False)
theorem keeps_run {N : List Str} {t : TS} (h : Keeps K N C t) {vs : List V} {H : Hp} {Q : VK} {E : XK} (hs : SpC K C vs H Q E) : t { nx := fun _ H' => Q .non H', rt := Q } (L2.start N vs) H := by
  obtain ⟨W, es, P, hC, iv, r, q⟩ := hs
  refine h W es P hC (L2.start N vs) H _ (env_start r) iv ⟨fun W' Δ' σ' H' n i' x' v' => ?_, fun W' e v H' n i' x' r' => ?_, fun _ _ _ _ n => n.elim, fun _ _ _ _ n => n.elim⟩
  · obtain ⟨u1, u2⟩ := n.1 H' i'
    exact q _ H' _ u1 (x'.trans u2) n.2 .non
  · obtain ⟨u1, u2⟩ := n.1 H' i'
    exact q _ H' _ u1 (x'.trans u2) n.2 (r'.mono u2)
theorem kfn {x qual : Str} {st : Stmt} {f : Addr} {fd : FuncData} {N ps : List Str} {k : Nat} (F : Fun K x qual st f fd) (S : FnScope N ps (defScope st)) (hlen : ∀ W es P, C W es P → es.length = ps.length)
    (hbody : ∀ (cdv : Value) (A : Around) (outer : List Env) (s : Shared) (H : Hp) (E : XK), Room k (A.deeper (envOfC qual (defScope st) s.heap.objs.size f cdv)) →
      ∃ t, PSs (cxOf CX0 P w K mg base N qual (defScope st) f cdv A outer s H E).nox (defBody st) t ∧ Keeps K N C t) : FnOk P w K mg base CX0 (k + 1) f fd ps (SpC K C) := by
  refine F.ok S (fun vs H Q E h => ?_) fun cdv A outer s H vs Q E hr h => ?_
  · obtain ⟨W, es, P, hC, _, r, _⟩ := h
    rw [reps_len r, hlen W es P hC]
  · obtain ⟨t, ht, hk⟩ := hbody cdv A outer s H E hr
    exact ⟨t, ht, keeps_run hk h⟩
end
section
variable {K : PySem.W.Frag} {W : Wd} {Δ : DEnv} {P : DV → Prop} {C : Con}
theorem de_call {ta : TA} {E : XK} (h : DA K W Δ ta fun es => C W es P) : DE K W Δ (tCall (SpC K C) [] E ta) P := fun σ H v i Q q =>
  h σ H v i _ fun vs H1 es i1 x1 p1 r1 => by
    show SpC K C (vs ++ []) H1 Q E
    rw [List.append_nil]
    exact ⟨W, es, P, p1, i1, r1, fun z H2 e i2 x2 p2 r2 => q z H2 e i2 (x1.trans x2) p2 r2⟩
/-- a call by keywords alone, or with some -/
theorem de_callK {ta tk : TA} {E : XK} {gV : List V → List V → List V} {gD : List DV → List DV → List DV} (hg : ∀ H vs zs es fs, Reps K H vs es → Reps K H zs fs → Reps K H (gV vs zs) (gD es fs))
    (h : DA K W Δ ta fun es => DA K W Δ tk fun fs => C W (gD es fs) P) : DE K W Δ (tCallK (SpC K C) gV E ta tk) P := fun σ H v i Q q =>
  h σ H v i _ fun vs H1 es i1 x1 p1 r1 => p1 σ H1 (v.mono x1) i1 _ fun zs H2 fs i2 x2 p2 r2 =>
    ⟨W, gD es fs, P, p2, i2, hg _ _ _ _ _ (r1.mono x2) r2, fun z H3 e i3 x3 p3 r3 => q z H3 e i3 ((x1.trans x2).trans x3) p3 r3⟩
end
end Ka

/-! Ka5: defs that ask for repr: nothing is being shown around them. -/
namespace Ka
open PySem PySem.Spec PyProof.Rows L2 Evl
/-- room, and nothing is being shown -/
structure RoomG (k : Nat) (A : Around) : Prop where
  room : Room k A
  calm : A.guards = some []
theorem RoomG.mono {j k : Nat} {A : Around} (r : RoomG k A) (h : j ≤ k) : RoomG j A := ⟨r.room.mono h, r.calm⟩
/-- the same promise where nothing is being shown -/
structure GOk (P : Program) (w : World) (K : PySem.W.Frag) (mg : Str → Option Value) (base : Heap) (k : Nat) (f : Addr) (fd : FuncData) (ps : List Str) (sp : Sp) : Prop where
  len : ∀ vs H Q E, sp vs H Q E → vs.length = ps.length
  run : ∀ (A : Around) (outer : List Env) (s : Shared) (H : Hp) (args : Args) (us : List Value) (vs : List V) (Q : VK) (E : XK),
    RoomG k A → Env0 P w K mg base A outer s H → BindsTo s fd args (ps.zip us) → Vals vs us → sp vs H Q E →
      codeAny (model P w) A (.call (.ref f) args) (CR CX0 outer P w H s Q E) s
section
variable {P : Program} {w : World} {K : PySem.W.Frag} {mg : Str → Option Value} {base : Heap}
/-- the frame's end, from the body's -/
theorem body_end {N : List Str} {qual : Str} {scope : Scope} {f : Addr} {cd : Value} {A : Around} {outer : List Env} {s s' : Shared} {H : Hp} {Q : VK} {E : XK} {fl : Flow}
    (h : SP (cxOf CX0 P w K mg base N qual scope f cd A outer s H E) [] { nx := fun _ H' => Q .non H', rt := Q } fl s') :
    match fl with
    | .ret u => CE outer P w H s Q u s'
    | .next => CE outer P w H s Q Value.none s'
    | .brk => False
    | .cont => False := by
  cases fl with
  | next =>
    have ⟨σ', H', J, q⟩ := h
    exact ⟨V.non, H', J.os, J.bare, J.base, J.hok, rfl, q⟩
  | ret u =>
    have ⟨v, σ', H', J, rv, q⟩ := h
    exact ⟨v, H', J.os, J.bare, J.base, J.hok, rv, q⟩
  | brk =>
    have ⟨_, _, _, q⟩ := h
    exact q
  | cont =>
    have ⟨_, _, _, q⟩ := h
    exact q
theorem gfn_of {k : Nat} {f : Addr} {x qual : Str} {st : Stmt} {fd : FuncData} {N ps : List Str} {sp : Sp} (F : Fun K x qual st f fd) (S : FnScope N ps (defScope st)) (len : ∀ vs H Q E, sp vs H Q E → vs.length = ps.length)
    (hbody : ∀ (cdv : Value) (A : Around) (outer : List Env) (s : Shared) (H : Hp) (vs : List V) (Q : VK) (E : XK), RoomG k (A.deeper (envOfC qual (defScope st) s.heap.objs.size f cdv)) → sp vs H Q E →
      ∃ t, PSs (cxOf CX0 P w K mg base N qual (defScope st) f cdv A outer s H E).nox (defBody st) t ∧ t { nx := fun _ H' => Q .non H', rt := Q } (L2.start N vs) H) : GOk P w K mg base (k + 1) f fd ps sp := by
  have ⟨oc, od, kV, doc, pm, an, cdv, ct, osl, hfd, lk, hcd⟩ := F.ex
  subst hfd
  refine ⟨len, ?_⟩
  intro A outer s H args us vs Q E ⟨hr, hg⟩ e0 hb r hsp
  have here : ∀ b o, base.get? b = some o → s.heap.get? b = some o := fun b o e => (e0.bs b o e).1
  have kin : K.In s.heap := e0.mod.kin.keeps here
  have cells : ∀ y ∈ ps.zip us, (defScope st).names.lookup y.1 = some .local ∨ ((defScope st).names.lookup y.1 = some .cell ∧ ((cellsFrom (s.heap.objs.size + 1) (defScope st).names []).lookup y.1).isSome = true) := by
    rintro ⟨n, v⟩ hy
    cases S.par n (List.of_mem_zip hy).1 with
    | inl q => exact .inl q
    | inr q => exact .inr ⟨q, PySem.W.cellsFrom_some _ _ _ (.inl q)⟩
  refine codeAny_call_function hr.depth (kin _ _ lk) rfl S.co S.gen rfl (PySem.W.codeRec_of kin hcd) (hb _ _ _ _ ?enter)
  case enter =>
    refine wpAny_newFunctionEnv_cells S.kind cells ?_
    intro env he s1 x1
    subst he
    refine ⟨(e0.mod.nolimit.keeps here).keeps x1.toInCall.keep, codeAny_func ?_⟩
    have ⟨t, ht, hq⟩ := hbody cdv A outer s H vs Q E ⟨hr.deeper _, hg⟩ hsp
    have I := inv_start (CX := CX0) (E := E) (qual := qual) (f := f) (cd := cdv) S hr.hd e0 (len _ _ _ _ hsp) r x1
    refine wpAny_mono (ht.nox.run [] s1 (L2.start N vs) H _ I hq) ?_ (fun e s' hs => hs)
    intro fl s' hs
    have fin := body_end hs
    cases fl with
    | next => exact fin
    | ret u => exact fin
    | brk => exact False.elim fin
    | cont => exact False.elim fin
end
section
variable {X : Cx} {k : Nat} {f : Addr} {fd : FuncData} {ps : List Str} {sp : Sp} {dvs : List V} {ds : List Value} {E : XK} {x : Str} {p pos : Pos} {e : Expr} {es : List Expr} {t : TA}
/-- f(..), f such a def -/
theorem pe_callG (F : GOk X.prog X.w X.K X.mg X.base k f fd ps sp) (hr : RoomG k X.A) (hg : Gl X x) (hm : X.mg x = some (.ref f)) (hk : PySem.W.keepIn X.K (.ref f) = true) (hb : Binds X.K fd ps ds) (hd : Vals dvs ds)
    (ha : PA X (e :: es) t) (hdb : (x == ("__debug__" : Str)) = false := by decide) (he : starEach (e :: es) X.env = (false, eval e X.env) :: starEach es X.env := by rfl) (hpl : (backTo pos (starEach es X.env)).any (·.1) = false := by rfl) :
    PE X (.Call (.Name x p) (e :: es) [] pos) (tCall sp dvs E0 t) := by
  constructor
  intro pins s σ H Q I h
  apply wpAny_Call_Name_kw
  apply ld_glob I hg hm ?_ hdb
  apply PySem.W.callWith_K (h₀ := X.base) I.ok.mod.kin hk ?_ he hpl
  apply thn (ha.run pos pins s σ H _ I h)
  rintro us s1 ⟨vs, H1, I1, r, q⟩
  refine ⟨I1.kIn, wpAny_call ?_⟩
  have r2 : Vals (vs ++ dvs) (us ++ ds) := r.append hd
  have hl : (us ++ ds).length = ps.length := by
    rw [← r2.length]
    exact F.len _ _ _ _ q
  apply codeAny_mono (F.run X.A X.stack s1 H1 ⟨us, []⟩ (us ++ ds) (vs ++ dvs) Q E0 hr I1.env0 (hb s1 us I1.kIn hl) r2 q)
  intro res s' hq
  match res with
  | .error e => exact False.elim hq
  | .ok (.ret u) => exact I1.after hq
  | .ok .next => exact False.elim hq
  | .ok .brk => exact False.elim hq
  | .ok .cont => exact False.elim hq
end
section
variable {P : Program} {w : World} {K : PySem.W.Frag} {mg mb : Str → Option Value}
/-- the law's call, at the heap behind the top: H tracks the script alone (or nothing, where the script is the module's own) -/
theorem law_at {k : Nat} {fa a : Addr} {fd : FuncData} {x : Str} {sp : Sp} {s₁ : Shared} {vs : List Value} {H : Hp}
    (KX : K.In s₁.heap) (hns : s₁.heap.Ns mainGlobals mg) (hb : s₁.heap.Ns builtinsNs mb) (hbb : ∀ x : Str, x ≠ "__name__" → mb x = bootBuiltins x) (hlim : s₁.heap.NoLimit) (hg : s₁.gens = #[])
    (ha : s₁.heap.get? a = some { cls := .type "list", data := .seq vs.toArray }) (hr : RoomG k callerA)
    (F : ∀ base : Heap, K.In base → base.Ns mainGlobals mg → GOk P w K mg base k fa fd [x] sp) (hbind : ∀ (s : Shared) (u : Value), BindsTo s fd ⟨[u], []⟩ [(x, u)])
    (hsp : sp [.ref a] H (fun v _ => v = .bl true) fun _ _ _ => False) (hO : Only H) (hok : HOk P w H s₁.heap) (hA : ∀ b, H b ≠ none → b = a) (hK : H a ≠ none → K.lookup a = none) :
    codeAny (model P w) callerA (.call (.ref fa) ⟨[.ref a], []⟩) (fun r s' => r = .ok (.ret (.bool true)) ∧ OldK s₁.heap s'.heap ∧ s'.os = s₁.os ∧ AllBare s'.gens) s₁ := by
  -- the heap of the module: all but the script
  have seen : ∀ {b : Addr} {o : Obj}, s₁.heap.get? b = some o → H b = none → (hidT s₁.heap H).get? b = some o := fun e n => hidT_get e n
  have dictNot : ∀ {b : Addr} {m : Str → Option Value}, s₁.heap.Ns b m → H b = none := by
    rintro b m ⟨o, es, ep, e, d, _⟩
    cases q : H b with
    | none => rfl
    | some u =>
      have e' := hA b (by rw [q]; exact Option.some_ne_none u)
      rw [e', ha] at e
      have e2 := Option.some.inj e
      rw [← e2] at d
      exact nomatch d
  have ns' : ∀ {b : Addr} {m : Str → Option Value}, s₁.heap.Ns b m → (hidT s₁.heap H).Ns b m := by
    intro b m h
    have n := dictNot h
    obtain ⟨o, es, ep, e, d, r⟩ := h
    exact ⟨o, es, ep, seen e n, d, r⟩
  have kin' : K.In (hidT s₁.heap H) := by
    intro b o e
    refine seen (KX b o e) ?_
    cases q : H b with
    | none => rfl
    | some u =>
      have e' := hA b (by rw [q]; exact Option.some_ne_none u)
      rw [e'] at q e
      rw [hK (by rw [q]; exact Option.some_ne_none u)] at e
      exact nomatch e
  obtain ⟨mc, c1, c2⟩ := hlim
  have e0 : Env0 P w K mg (hidT s₁.heap H) callerA [] s₁ H :=
    ⟨rfl, ⟨kin', ns' hns, ⟨mb, ns' hb, hbb⟩, mc, ns' c1, c2⟩, fun b o e => of_hidT e, Nat.le_of_eq (hidT_size _ _), trivial,
      fun b hb => (nomatch (show b ∈ ([] : List Addr) from hb)), hok, .of_eq hg⟩
  refine codeAny_mono ((F _ kin' (ns' hns)).run callerA [] s₁ H ⟨[.ref a], []⟩ [.ref a] [.ref a] _ _ hr e0 (hbind s₁ (.ref a)) (.cons rfl .nil) hsp) ?_
  intro r s' h
  match r with
  | .error e => exact False.elim h
  | .ok .next => exact False.elim h
  | .ok .brk => exact False.elim h
  | .ok .cont => exact False.elim h
  | .ok (.ret u) =>
    obtain ⟨v, H', os, bare, un, hok', r', q⟩ := h
    have q' : v = .bl true := q
    subst q'
    have r2 : u = Value.bool true := r'
    subst r2
    refine ⟨rfl, OldK.of_keep ?_, os, bare⟩
    intro b o e
    cases q : H b with
    | none => exact un.keep b o e q (fun z => nomatch (show b ∈ ([] : List Addr) from z)) (fun z => nomatch z)
    | some u =>
      cases hO b with
      | inl z => exact nomatch q.symm.trans z
      | inr z =>
        obtain ⟨ob, xs, z⟩ := z
        obtain ⟨e1, _⟩ := hok b _ z
        obtain ⟨e2, _⟩ := hok' b _ (un.frzs b ob _ z)
        rw [e] at e1
        rw [Option.some.inj e1]
        exact e2
theorem law_callG {k : Nat} {fa a : Addr} {fd : FuncData} {x : Str} {sp : Sp} {s₁ : Shared} {vs : List Value} {ns : List Int}
    (KX : K.In s₁.heap) (hns : s₁.heap.Ns mainGlobals mg) (hb : s₁.heap.Ns builtinsNs mb) (hbb : ∀ x : Str, x ≠ "__name__" → mb x = bootBuiltins x) (hlim : s₁.heap.NoLimit) (hg : s₁.gens = #[])
    (ha : s₁.heap.get? a = some { cls := .type "list", data := .seq vs.toArray }) (hi : IntsAre vs ns) (hl : ns.length ≤ sizeLine) (hr : RoomG k callerA)
    (F : ∀ base : Heap, K.In base → base.Ns mainGlobals mg → GOk P w K mg base k fa fd [x] sp) (hbind : ∀ (s : Shared) (u : Value), BindsTo s fd ⟨[u], []⟩ [(x, u)])
    (hsp : ∀ H : Hp, Only H → SqL K H a (ns.map V.int) → sp [.ref a] H (fun v _ => v = .bl true) fun _ _ _ => False) :
    codeAny (model P w) callerA (.call (.ref fa) ⟨[.ref a], []⟩) (fun r s' => r = .ok (.ret (.bool true)) ∧ OldK s₁.heap s'.heap ∧ s'.os = s₁.os ∧ AllBare s'.gens) s₁ := by
  have rv := vals_ints hi
  have lenV := hi.length
  cases hk : K.lookup a with
  | some o =>
    have e := Option.some.inj ((KX a o hk).symm.trans ha)
    subst e
    have none1 : Only (fun _ => none) := fun _ => .inl rfl
    refine law_at KX hns hb hbb hlim hg ha hr F hbind (hsp (fun _ => none) none1 ?_) none1 (fun b u z => (nomatch (show (none : Option HO) = some u from z))) (fun b z => absurd rfl z) (fun z => absurd rfl z)
    exact .inr ⟨_, vs.toArray, _, hk, rfl, rfl, rfl, by rw [List.size_toArray, lenV]; exact hl, by simpa using rv⟩
  | none =>
    let H : Hp := fun b => if b = a then some (.frz { cls := .type "list", data := .seq vs.toArray } (.lst (ns.map V.int))) else none
    have at_a : H a = some (.frz { cls := .type "list", data := .seq vs.toArray } (.lst (ns.map V.int))) := if_pos rfl
    have off : ∀ b, b ≠ a → H b = none := fun b h => if_neg h
    have only : Only H := fun b => by
      by_cases h : b = a
      · exact .inr ⟨_, _, by rw [h]; exact at_a⟩
      · exact .inl (off b h)
    refine law_at KX hns hb hbb hlim hg ha hr F hbind (hsp H only (.inl (.inr ⟨_, at_a⟩))) only (fun b u z => ?_) (fun b z => ?_) (fun _ => hk)
    · by_cases h : b = a
      · rw [h, at_a] at z
        rw [h, ← Option.some.inj z]
        exact ⟨ha, by rw [List.length_map]; exact hl, vs, _, rv, ha⟩
      · rw [off b h] at z
        exact nomatch z
    · by_cases h : b = a
      · exact h
      · exact absurd (off b h) z
/-- the goal that the head leaves -/
theorem walkG {l : PySem.W.OpenLaw} {n k : Nat} {q : Program} {loose : List Str} {XP : (Str → Option Value) → Heap → Prop} {YP : World → Heap → Prop} {d : DefRec} {K : Params → PySem.W.Frag} {sp : PySem.W.Frag → Sp} {x : Str}
    (hn : l.most = some n) (hn2 : n ≤ sizeLine) (hdf : d.params.defaults = []) (hr : RoomG k callerA)
    (hY : ∀ (w : World) (h : Heap), YP w h → (K w.params).In h)
    (F : ∀ (w : World) (mg : Str → Option Value) (fa : Addr) (h : Heap), (K w.params).In h → h.Ns mainGlobals mg → mg d.name = some (.ref fa) →
      ∃ fd : FuncData, (∀ (s : Shared) (u : Value), BindsTo s fd ⟨[u], []⟩ [(x, u)]) ∧
        ∀ base : Heap, (K w.params).In base → base.Ns mainGlobals mg → GOk l.prog w (K w.params) mg base k fa fd [x] (sp (K w.params)))
    (hsp : ∀ (K : PySem.W.Frag) (H : Hp) (a : Addr) (ns : List Int), ns.length ≤ n → Only H → SqL K H a (ns.map V.int) → sp K [.ref a] H (fun v _ => v = .bl true) fun _ _ _ => False) :
    PySem.W.WalkO q loose XP YP l.row.toRowW d [] (fun f vs => PySem.call f vs) := by
  refine Att.attach_call hn hdf ?_
  intro w s₀ s₁ mg mb fa o pm cd doc a vs ns G Y ho hd hcd hmg hobj hints hlen hg
  have KX := hY w _ Y
  have ⟨fd, hb, hF⟩ := F w mg fa _ KX G.T.g hmg
  exact law_callG KX G.T.g G.T.b G.T.builtins G.T.nolimit hg hobj hints (Nat.le_trans hlen hn2) hr hF hb (fun H hO hS => hsp _ H a ns hlen hO hS)
end
/-- such a def, by its contract -/
theorem gfn {P : Program} {w : World} {K : PySem.W.Frag} {mg : Str → Option Value} {base : Heap} {C : Con} {x qual : Str} {st : Stmt} {f : Addr} {fd : FuncData} {N ps : List Str} {k : Nat} (F : Fun K x qual st f fd) (S : FnScope N ps (defScope st)) (hlen : ∀ W es P, C W es P → es.length = ps.length)
    (hbody : ∀ (cdv : Value) (A : Around) (outer : List Env) (s : Shared) (H : Hp) (E : XK), RoomG k (A.deeper (envOfC qual (defScope st) s.heap.objs.size f cdv)) →
      ∃ t, PSs (cxOf CX0 P w K mg base N qual (defScope st) f cdv A outer s H E).nox (defBody st) t ∧ Keeps K N C t) : GOk P w K mg base (k + 1) f fd ps (SpC K C) := by
  refine gfn_of F S (fun vs H Q E h => ?_) fun cdv A outer s H vs Q E hr h => ?_
  · obtain ⟨W, es, P, hC, _, r, _⟩ := h
    rw [reps_len r, hlen W es P hC]
  · obtain ⟨t, ht, hk⟩ := hbody cdv A outer s H E hr
    exact ⟨t, ht, keeps_run hk h⟩
end Ka

namespace Ka
open PySem PySem.Spec PyProof.Rows L2 Evl
section
variable {X : Cx} {CX : CXT} {k : Nat} {f : Addr} {fd : FuncData} {ps ks : List Str} {sp : Sp} {E : XK} {x : Str} {p pos : Pos} {kws : List Keyword} {tk : TA}
variable {g : List Value → List Value → List Value} {gV : List V → List V → List V}
/-- f(k = v, ..), by keywords alone -/
theorem pe_callKw (F : FnOk X.prog X.w X.K X.mg X.base CX k f fd ps sp) (hr : Room k X.A) (hg : Gl X x) (hm : X.mg x = some (.ref f)) (hk : PySem.W.keepIn X.K (.ref f) = true) (hb : KBinds X.K fd ps ks g gV) (hx : Passes CX X E)
    (hkw : PK X kws tk) (hall : (backToKw pos (keywordEach kws X.env)).all (·.1.isSome) = true := by rfl) (hks : (backToKw pos (keywordEach kws X.env)).filterMap (·.1) = ks := by rfl)
    (hdb : (x == ("__debug__" : Str)) = false := by decide) (hpl : ((backTo pos (starEach [] X.env)).any (·.1) || (backToKw pos (keywordEach kws X.env)).any (·.1.isNone)) = false := by rfl) :
    PE X (.Call (.Name x p) [] kws pos) (tCallK sp gV E tNil tk) := by
  constructor
  intro pins s σ H Q I h
  apply wpAny_Call_Name_kw
  apply ld_glob I hg hm ?_ hdb
  apply PySem.W.callWith_KW0 (h₀ := X.base) I.ok.mod.kin hk hall ?_ hpl
  apply thn (hkw.run pos pins s σ H _ I h)
  rintro ws s2 ⟨zs, H2, I2, rz, q2⟩
  refine ⟨I2.kIn, ?_⟩
  rw [hks]
  exact run_fnk (us := []) F hr hb hx I2 .nil rz q2
end
theorem Fun_kbinds {K : PySem.W.Frag} {x qual : Str} {st : Stmt} {f : Addr} {fd : FuncData} {ps ks : List Str} {g : List Value → List Value → List Value} {gV : List V → List V → List V} (F : Fun K x qual st f fd)
    (h : ∀ (kV doc pm : Value) (an : Option Addr) (cdv ct : Value) (us ws : List Value), (g us ws).length = ps.length → bindArgs (PySem.W.fnOf x qual (defArgs st) (defBody st) (defScope st) .none kV doc pm an cdv ct) ⟨us, ks.zip ws⟩ = pure (ps.zip (g us ws)))
    (rel : ∀ {vs : List V} {us : List Value} {zs : List V} {ws : List Value}, Vals vs us → Vals zs ws → Vals (gV vs zs) (g us ws)) : KBinds K fd ps ks g gV := by
  have ⟨oc, od, kV, doc, pm, an, cdv, ct, osl, hfd, lk, hcd⟩ := F.ex
  subst hfd
  exact ⟨fun s us ws _ hl => .of_eq (h kV doc pm an cdv ct us ws hl), rel⟩
/-- keywords in another order: i names the place of the parameter's value -/
def perm (n : Nat) (ix : List Nat) {α : Type} (us ws : List α) : List α := if us.length = 0 ∧ ws.length = n then ix.filterMap fun i => ws[i]? else []
theorem perm_rel {α β : Type} {R : α → β → Prop} (n : Nat) (ix : List Nat) {us ws : List α} {us' ws' : List β} (h1 : Paired R us us') (h2 : Paired R ws ws') : Paired R (perm n ix us ws) (perm n ix us' ws') := by
  have e1 := h1.length
  have e2 := h2.length
  unfold perm
  by_cases c : us.length = 0 ∧ ws.length = n
  · rw [if_pos c, if_pos ⟨by omega, by omega⟩]
    induction ix with
    | nil => exact .nil
    | cons i ix ih =>
      rw [List.filterMap_cons, List.filterMap_cons]
      have look : ∀ {l : List α} {l' : List β} (i : Nat), Paired R l l' → (l[i]? = none ∧ l'[i]? = none) ∨ ∃ a b, l[i]? = some a ∧ l'[i]? = some b ∧ R a b := by
        intro l l' i h
        induction h generalizing i with
        | nil => exact .inl ⟨by simp, by simp⟩
        | cons r _ ih =>
          cases i with
          | zero => exact .inr ⟨_, _, rfl, rfl, r⟩
          | succ i =>
            rcases ih i with ⟨a, b⟩ | ⟨a, b, c, d, e⟩
            · exact .inl ⟨by simpa using a, by simpa using b⟩
            · exact .inr ⟨a, b, by simpa using c, by simpa using d, e⟩
      rcases look i h2 with ⟨a, b⟩ | ⟨a, b, ea, eb, r⟩
      · rw [a, b]
        exact ih
      · rw [ea, eb]
        exact .cons r ih
  · rw [if_neg c, if_neg (fun z => c ⟨by omega, by omega⟩)]
    exact .nil
section
variable {X : Cx} {tg : Expr}
/-- sorted of a list of data, or of a set of ints -/
def rSortedX (w : World) (K : PySem.W.Frag) : List V → Hp → VK → Prop := fun vs H Q => rSortedQ K vs H Q ∨ rSortedSet w vs H Q
theorem cr_sortedX (hc : X.calm = true) (hu : X.A.units + 64 < cLine) : CallR X (.builtin "sorted") (rSortedX X.w X.K) := (cr_sortedQ hu).or (cr_sortedSet hc)
/-- for x in l, l a list or a tuple -/
def iSeq (K : PySem.W.Frag) (tl : TE) : TI := fun σ H R => tl σ H fun x H1 => (∃ a, x = .ref a ∧ (∃ xs, SqL K H1 a xs) ∧ R (Itl K a) H1) ∨ ∃ a, x = .ref a ∧ (∃ xs, SqT K H1 a xs) ∧ R (Itt K a) H1
end
section
variable {K : PySem.W.Frag} {w : World} {W : Wd} {Δ : DEnv} {te : TE} {P : DV → Prop}
theorem cal_sortedXL {ds : List PyData} (h1 : PySem.W.AllAlike ds) (h2 : PySem.W.Sortable ds) (h3 : ∀ d ∈ ds, d.depth ≤ 60) (k : P (.dat (.list (ds.mergeSort (PySem.W.dataLe false id))))) : CalD K W (rSortedX w K) [.dat (.list ds)] P := fun xs H iv r Q q => .inl (cal_sorted h1 h2 h3 k xs H iv r Q q)
theorem cal_sortedXS {S : Int → Bool} {n : Nat} (hn : n < 64) (k : ∀ ns : List Int, ns.Pairwise (· < ·) → (∀ k : Int, k ∈ ns ↔ S k = true) → ns.length = n → P (.dat (.list (ns.map PyData.int)))) : CalD K W (rSortedX w K) [.obj fun q => SetO w q S n] P := fun xs H iv r Q q => .inr (cal_sortedSet hn k xs H iv r Q q)
theorem di_seqL {PL : List DV → Prop} (h : DE K W Δ te fun e => ∃ ds, e = .dat (.list ds) ∧ PL (ds.map DV.dat)) : DI K W Δ (iSeq K te) PL := fun σ H v i R q => by
  refine h σ H v i _ fun x H1 e i1 x1 p1 r1 => ?_
  obtain ⟨ds, rfl, k⟩ := p1
  cases r1 with
  | @lst a vs _ ha hv => exact .inl ⟨a, rfl, ⟨vs, SqL.of (Wd.view_le _ _ ha)⟩, q _ H1 _ i1 x1 k (yl_list ha hv)⟩
theorem di_seqT {PL : List DV → Prop} (h : DE K W Δ te fun e => ∃ ds, e = .dat (.tuple ds) ∧ PL (ds.map DV.dat)) : DI K W Δ (iSeq K te) PL := fun σ H v i R q => by
  refine h σ H v i _ fun x H1 e i1 x1 p1 r1 => ?_
  obtain ⟨ds, rfl, k⟩ := p1
  cases r1 with
  | @tup a vs _ ha hv => exact .inr ⟨a, rfl, ⟨vs, ex_t Wd.view_le ha⟩, q _ H1 _ i1 x1 k (yl_tup ha hv)⟩
end
section
variable {X : Cx} {tg : Expr}
theorem pi_seq {l : Expr} {tl : TE} (hl : PE X l tl) : PI X tg l (iSeq X.K tl) := by
  constructor
  intro pins s σ H R I h
  apply thn (hl.run pins s σ H _ I h)
  rintro v s1 ⟨x, H1, I1, r1, q1⟩
  rcases q1 with ⟨a, rfl, ⟨xs, hq⟩, q⟩ | ⟨a, rfl, ⟨xs, hq⟩, q⟩
  · obtain rfl : v = .ref a := r1
    obtain ⟨its, rv, p, hz⟩ := I1.list hq
    refine wpAny_pyIter_list p.isList ?_
    have hn : H1 s1.heap.objs.size = none := I1.hok.fresh (Nat.le_refl _)
    exact ⟨s1.heap.objs.size, [s1.heap.objs.size], _, _, H1, rfl, I1.kept (t' := s1.toks) (fun b o e => Heap.get?_push_of_some _ e), turn_list a _, ⟨_, Heap.get?_push_size _ rfl, rfl, rfl⟩, fun b hb => by
      have e : b = s1.heap.objs.size := by simpa using hb
      rw [e]
      exact I1.fpOk (Nat.le_refl _) hn, q⟩
  · obtain rfl : v = .ref a := r1
    obtain ⟨its, rv, p, hz⟩ := I1.tuple hq
    have hn : H1 s1.heap.objs.size = none := I1.hok.fresh (Nat.le_refl _)
    refine wpAny_pyIter_tuple (show s1.heap.IsTuple a its.toArray from p) ?_
    exact ⟨s1.heap.objs.size, [s1.heap.objs.size], _, _, H1, rfl, I1.kept (t' := s1.toks) (fun b o e => Heap.get?_push_of_some _ e), turn_tuple a _, ⟨_, Heap.get?_push_size _ rfl, rfl, rfl⟩, fun b hb => by
      have e : b = s1.heap.objs.size := by simpa using hb
      rw [e]
      exact I1.fpOk (Nat.le_refl _) hn, q⟩
/-- products of ints, repeated lists -/
def rMulX : R2 := fun x y H Q => (rI CMul fun i j => .int (i * j)) x y H Q ∨ rRep x y H Q
theorem op_mulX : OpR X (binaryOp .Mult) rMulX := op_mul.or op_rep
theorem hu65 {k : Nat} {A : Around} (r : Room k A) : A.units + 65 < cLine := by
  have := r.un
  omega
theorem pe_revX {e : Expr} {te : TE} {k : Nat} {p1 p2 p3 pos : Pos} (he : PE X e te) : PE X (.Subscript e (.Slice none none (some (.UnaryOp .USub (.Constant (.int 1) k p1) p2)) p3) pos) (tRevL X.K te) := pe_revL he
end
section
variable {K : PySem.W.Frag} {w : World} {W : Wd} {Δ : DEnv} {te : TE} {P : DV → Prop}
theorem opd_mulI {i j : Int} (hc : CMul i j) (k : P (.dat (.int (i * j)))) : OpD K W rMulX (.dat (.int i)) (.dat (.int j)) P := fun x y H iv rx ry Q q => .inl (opd_IC hc k x y H iv rx ry Q q)
end
end Ka
namespace Ka
theorem perm_len {α : Type} {n m : Nat} {ix : List Nat} {us ws : List α} (hm : m ≠ 0) (h : (perm n ix us ws).length = m) : us = [] ∧ ws.length = n := by
  unfold perm at h
  by_cases c : us.length = 0 ∧ ws.length = n
  · exact ⟨List.eq_nil_of_length_eq_zero c.1, c.2⟩
  · rw [if_neg c] at h
    exact absurd h.symm hm
end Ka
namespace Ka
open PySem PySem.Spec PyProof.Rows L2
section
variable {CX : CXT} {P : Program} {w : World} {K : PySem.W.Frag} {mg : Str → Option Value} {base : Heap} {N : List Str} {qual : Str} {scope : Scope} {f : Addr} {cd : Value} {A : Around} {outer : List Env} {s : Shared} {H : Hp} {E : XK}
theorem cx_K : (cxOf CX P w K mg base N qual scope f cd A outer s H E).nox.K = K := rfl
theorem cx_w : (cxOf CX P w K mg base N qual scope f cd A outer s H E).nox.w = w := rfl
end
end Ka
namespace Ka
open PySem PySem.Spec PyProof.Rows L2 Evl
section
variable {K : PySem.W.Frag} {W : Wd} {Δ : DEnv} {te : TE} {nx bk ct : Wd → DEnv → Prop} {rt : Wd → DV → Prop}
theorem ds_asg {g : TG} (h : DE K W Δ te fun e => ∃ Δ' js, Tg K g e Δ Δ' js ∧ nx W Δ') : DS K W Δ (tAsg te g) nx rt bk ct := fun σ H D v i' c =>
  h σ H v i' _ fun x H1 e i1 x1 p1 r1 => by
    obtain ⟨Δ', js, ht, k⟩ := p1
    exact ht W σ H1 x _ (v.mono x1) r1 fun σ' v' _ => c.nx W Δ' σ' H1 k i1 x1 v'
/-- x, y = e, f -/
theorem ds_par {i j : Nat} {ta : TA} (h : DA K W Δ ta fun es => ∃ a b, es = [a, b] ∧ nx W ((Δ.set i (some a)).set j (some b))) : DS K W Δ (tPar i j ta) nx rt bk ct := fun σ H D v i' c =>
  h σ H v i' _ fun xs H1 es i1 x1 p1 r1 => by
    obtain ⟨a, b, rfl, k⟩ := p1
    obtain ⟨x, y, rfl, rx, ry⟩ := reps2 r1
    exact ⟨x, y, rfl, c.nx W _ _ H1 k i1 x1 (((v.mono x1).set rx).set ry)⟩
theorem tg_tup3 {i j k : Nat} {a b c : PyData} : Tg K (gTup K 3 (gCons (gName i) (gCons (gName j) (gCons (gName k) gNil)))) (.dat (.tuple [a, b, c])) Δ (((Δ.set i (some (.dat a))).set j (some (.dat b))).set k (some (.dat c))) ([i] ++ ([j] ++ ([k] ++ []))) :=
  tg_tup rfl (tgs_cons tg_name (tgs_cons tg_name (tgs_cons tg_name tgs_nil)))
theorem tg_tup2 {i j : Nat} {a b : PyData} : Tg K (gTup K 2 (gCons (gName i) (gCons (gName j) gNil))) (.dat (.tuple [a, b])) Δ ((Δ.set i (some (.dat a))).set j (some (.dat b))) ([i] ++ ([j] ++ [])) :=
  tg_tup rfl (tgs_cons tg_name (tgs_cons tg_name tgs_nil))
end
end Ka
namespace Ka
open PySem PySem.Spec PyProof.Rows L2 Evl
section
variable {X : Cx} {K : PySem.W.Frag} {w : World}
theorem op_addK (e : X.K = K) : OpR X (binaryOp .Add) (rAddX K) := by subst e; exact op_addX
/-- equal: data that are laid out, or two texts -/
def rEqS (K : PySem.W.Frag) : R2 := fun x y H Q => rEqD K x y H Q ∨ rEq x y H Q
def rNeS (K : PySem.W.Frag) : R2 := fun x y H Q => rNeD K x y H Q ∨ rNe x y H Q
theorem op_eqK (e : X.K = K) (hu : X.A.units + 64 < cLine) : OpR X (compareOp .Eq) (rEqS K) := by
  subst e
  intro pins s σ H x y v u Q I rx ry h
  rcases h with h | h
  · exact op_eqD hu pins s σ H x y v u Q I rx ry h
  · exact op_eq pins s σ H x y v u Q I rx ry h
theorem op_neK (e : X.K = K) (hu : X.A.units + 64 < cLine) : OpR X (compareOp .NotEq) (rNeS K) := by
  subst e
  intro pins s σ H x y v u Q I rx ry h
  rcases h with h | h
  · exact op_neD hu pins s σ H x y v u Q I rx ry h
  · exact op_ne pins s σ H x y v u Q I rx ry h
theorem opd_eq {W : Wd} {P : DV → Prop} {d e : PyData} (h1 : SeqAt.shaped d = true) (h2 : SeqAt.shaped e = true) (k : P (.dat (.bool (PyData.eqv d e)))) : OpD K W (rEqS K) (.dat d) (.dat e) P := fun x y H iv rx ry Q q => .inl (opd_eq0 h1 h2 k x y H iv rx ry Q q)
theorem opd_ne {W : Wd} {P : DV → Prop} {d e : PyData} (h1 : SeqAt.shaped d = true) (h2 : SeqAt.shaped e = true) (k : P (.dat (.bool (!PyData.eqv d e)))) : OpD K W (rNeS K) (.dat d) (.dat e) P := fun x y H iv rx ry Q q => .inl (opd_ne0 h1 h2 k x y H iv rx ry Q q)
theorem opd_eqS {W : Wd} {P : DV → Prop} {a b : Str} (k : P (.dat (.bool (decide (a = b))))) : OpD K W (rEqS K) (.dat (.str a)) (.dat (.str b)) P := fun x y H iv rx ry Q q => by
  cases rx
  cases ry
  refine .inr ⟨rfl, q _ H _ iv (Ex.refl _) k ?_⟩
  rw [show decide (V.str a = V.str b) = decide (a = b) from decide_eq_decide.mpr (by rw [V.str.injEq])]
  exact .bl _
theorem opd_neS {W : Wd} {P : DV → Prop} {a b : Str} (k : P (.dat (.bool (!decide (a = b))))) : OpD K W (rNeS K) (.dat (.str a)) (.dat (.str b)) P := fun x y H iv rx ry Q q => by
  cases rx
  cases ry
  refine .inr ⟨rfl, q _ H _ iv (Ex.refl _) k ?_⟩
  rw [show decide (V.str a = V.str b) = decide (a = b) from decide_eq_decide.mpr (by rw [V.str.injEq])]
  exact .bl _
theorem op_inK (e : X.K = K) (hu : X.A.units + 65 < cLine) : OpR X (compareOp .In) (rInQ K false) := by subst e; exact op_inQ hu
theorem op_notInK (e : X.K = K) (hu : X.A.units + 65 < cLine) : OpR X (compareOp .NotIn) (rInQ K true) := by subst e; exact op_notInQ hu
theorem sl_K (e : X.K = K) : SlR X (rSlX K) := by subst e; exact sl_X
theorem cr_lenK (e : X.K = K) : CallR X (.builtin "len") (rLenX K) := by subst e; exact cr_lenX
theorem cr_tupK (e : X.K = K) : CallR X (.type "tuple") (rTupX K) := by subst e; exact cr_tupX
theorem cr_lstK (e : X.K = K) : CallR X (.type "list") (rLstX K) := by subst e; exact cr_lstX
theorem cr_allK (e : X.K = K) (hc : X.calm = true) : CallR X (.builtin "all") (rAll K) := by subst e; exact cr_all hc
theorem cr_anyK (e : X.K = K) (hc : X.calm = true) : CallR X (.builtin "any") (rAny K) := by subst e; exact cr_any hc
theorem cr_sumK (e : X.K = K) (hc : X.calm = true) : CallR X (.builtin "sum") (rSum K) := by subst e; exact cr_sum hc
theorem cr_isiK (e : X.K = K) : CallR X (.builtin "isinstance") (rIsi K) := by subst e; exact call_isi
theorem cr_reprK (e : X.K = K) (hg : X.A.guards = some []) (hu : X.A.units + 64 < cLine) : CallR X (.builtin "repr") (rRepr K) := by subst e; exact cr_repr hg hu
theorem cr_sortedK (e : X.K = K) (e2 : X.w = w) (hc : X.calm = true) (hu : X.A.units + 64 < cLine) : CallR X (.builtin "sorted") (rSortedX w K) := by subst e; subst e2; exact cr_sortedX hc hu
theorem cr_setK (e : X.K = K) (e2 : X.w = w) (hc : X.calm = true) : CallR X (.type "set") (rSetI w K) := by subst e; subst e2; exact cr_setI hc
theorem ix_K (e : X.K = K) : IxR X (rIx K) := by subst e; exact ix_seq
theorem pi_seqK {tg l : Expr} {tl : TE} (e : X.K = K) (hl : PE X l tl) : PI X tg l (iSeq K tl) := by subst e; exact pi_seq hl
theorem pg_tupK {ts : List Expr} {t : TGs} {n : Nat} {x1 : Nat} {pos : Pos} (e : X.K = K) (h : PG X (.Tuple ts x1 pos) (gTup X.K n t)) : PG X (.Tuple ts x1 pos) (gTup K n t) := by subst e; exact h
theorem pe_revK {e : Expr} {te : TE} {k : Nat} {p1 p2 p3 pos : Pos} (e1 : X.K = K) (he : PE X e te) : PE X (.Subscript e (.Slice none none (some (.UnaryOp .USub (.Constant (.int 1) k p1) p2)) p3) pos) (tRevL K te) := by subst e1; exact pe_revX he
theorem pe_toK {e : Expr} {t : PySem.W.Frag → TE} (e1 : X.K = K) (h : PE X e (t X.K)) : PE X e (t K) := by subst e1; exact h
end
end Ka

/-! Ka7: the deck: a dict with a list of ints, apart from all else; what a draw does to it is of no matter. -/
namespace Ka
open PySem PySem.Spec PyProof.Rows L2 Evl
def deckO (c : Addr) (m k : Int) : HO := .dK [(Sum.inr ("cells" : Str), .ref c), (Sum.inr ("mixed" : Str), .int m), (Sum.inr ("draws" : Str), .int k)]
structure HasDeck (W : Wd) (d c : Addr) : Prop where
  hd : W.hid d = true
  hc : W.hid c = true
  ne : d ≠ c
  get : ∀ H, W.inv H → ∃ (ns : List Int) (m k : Int), H d = some (deckO c m k) ∧ H c = some (.lst (ns.map V.int)) ∧ ns.length ≤ 64
  put : ∀ (H H' : Hp) (ns : List Int) (m k : Int), W.inv H → (∀ a, a ≠ d → a ≠ c → H' a = H a) → H' d = some (deckO c m k) → H' c = some (.lst (ns.map V.int)) → ns.length ≤ 64 → W.inv H'
theorem vw_off {hid : Addr → Bool} {d c : Addr} (hd : hid d = true) (hc : hid c = true) {H H' : Hp} (h : ∀ a, a ≠ d → a ≠ c → H' a = H a) : vw hid H' = vw hid H := by
  funext a
  unfold vw
  by_cases e1 : a = d
  · rw [e1, if_pos hd, if_pos hd]
  · by_cases e2 : a = c
    · rw [e2, if_pos hc, if_pos hc]
    · rw [h a e1 e2]
theorem HasDeck.hide {W : Wd} {d c : Addr} (h : HasDeck W d c) {l : Addr} {φ : Kn} : HasDeck (W.hide l φ) d c where
  hd := hidAnd_of h.hd
  hc := hidAnd_of h.hc
  ne := h.ne
  get H i := by
    obtain ⟨i1, _⟩ := i
    obtain ⟨ns, m, k, h1, h2, h3⟩ := h.get _ i1
    exact ⟨ns, m, k, del_le _ _ h1, del_le _ _ h2, h3⟩
  put H H' ns m k i off h1 h2 h3 := by
    obtain ⟨i1, o, ho, p⟩ := i
    obtain ⟨ns0, m0, k0, g1, g2, _⟩ := h.get _ i1
    have nd : d ≠ l := fun e => by
      rw [e, del_self] at g1
      cases g1
    have nc : c ≠ l := fun e => by
      rw [e, del_self] at g2
      cases g2
    have off' : ∀ a, a ≠ d → a ≠ c → del H' l a = del H l a := fun a e1 e2 => by
      by_cases e : a = l
      · rw [e, del_self, del_self]
      · rw [del_ne e, del_ne e, off a e1 e2]
    refine ⟨h.put (del H l) (del H' l) ns m k i1 off' (by rw [del_ne nd]; exact h1) (by rw [del_ne nc]; exact h2) h3, o, by rw [off l nd.symm nc.symm]; exact ho, ?_⟩
    rw [vw_off h.hd h.hc off']
    exact p
theorem HasDeck.hid {W W' : Wd} {d c : Addr} (h : HasDeck W d c) (e : Hid W W') : HasDeck W' d c := by
  obtain ⟨p, φ, rfl, _⟩ := e
  exact h.hide
/-- the deck as it stands -/
def Wd.exact (W : Wd) {d c : Addr} (h : HasDeck W d c) (ns : List Int) (m k : Int) : Wd where
  hid := W.hid
  inv H := W.inv H ∧ H d = some (deckO c m k) ∧ H c = some (.lst (ns.map V.int))
  loc H H' e x i := ⟨W.loc H H' e x i.1, by rw [e d h.hd]; exact i.2.1, by rw [e c h.hc]; exact i.2.2⟩
  live H a i q := W.live H a i.1 q
section
variable {K : PySem.W.Frag} {W : Wd} {d c : Addr} (hk : HasDeck W d c) {ns : List Int} {m k : Int} {Δ : DEnv} {te ta tb : TE} {t : TS} {P : DV → Prop} {nx bk ct : Wd → DEnv → Prop} {rt : Wd → DV → Prop} {i j : Nat}
theorem Le.exact : Wd.Le W (W.exact hk ns m k) := fun H i => ⟨i.1, Ex.refl _⟩
theorem ds_exact (h : ∀ ns m k, ns.length ≤ 64 → DS K (W.exact hk ns m k) Δ t nx rt bk ct) : DS K W Δ t nx rt bk ct := fun σ H D v i cn => by
  obtain ⟨ns, m, k, h1, h2, h3⟩ := hk.get H i
  exact h ns m k h3 σ H D v ⟨i, h1, h2⟩ ⟨cn.nx, cn.rt, cn.bk, cn.ct⟩
theorem exact_put {H H' : Hp} {ns' : List Int} {m' k' : Int} (i : (W.exact hk ns m k).inv H) (off : ∀ a, a ≠ d → a ≠ c → H' a = H a) (h1 : H' d = some (deckO c m' k')) (h2 : H' c = some (.lst (ns'.map V.int))) (h3 : ns'.length ≤ 64) :
    (W.exact hk ns' m' k').inv H' ∧ (W.exact hk ns' m' k').view H' = (W.exact hk ns m k).view H :=
  ⟨⟨hk.put H H' ns' m' k' i.1 off h1 h2 h3, h1, h2⟩, vw_off hk.hd hk.hc off⟩
theorem de_mixed (hi : Δ[i]? = some (some (.raw (.ref d)))) (q : P (.dat (.int m))) : DE K (W.exact hk ns m k) Δ (tDGet (tVar i) (tC (.str "mixed"))) P := fun σ H v iv Q qq => by
  obtain ⟨x, h1, h2⟩ := v.at_ i _ hi
  have h2 : x = .ref d := h2
  subst h2
  exact ⟨.ref d, h1, d, .int m, rfl, .inl ⟨_, Sum.inr "mixed", .inl iv.2.1, rfl, rfl⟩, qq _ H _ iv (Ex.refl _) q (.int m)⟩
theorem de_draws (hi : Δ[i]? = some (some (.raw (.ref d)))) (q : P (.dat (.int k))) : DE K (W.exact hk ns m k) Δ (tDGet (tVar i) (tC (.str "draws"))) P := fun σ H v iv Q qq => by
  obtain ⟨x, h1, h2⟩ := v.at_ i _ hi
  have h2 : x = .ref d := h2
  subst h2
  exact ⟨.ref d, h1, d, .int k, rfl, .inl ⟨_, Sum.inr "draws", .inl iv.2.1, rfl, rfl⟩, qq _ H _ iv (Ex.refl _) q (.int k)⟩
theorem de_cells (hi : Δ[i]? = some (some (.raw (.ref d)))) (q : P (.raw (.ref c))) : DE K (W.exact hk ns m k) Δ (tDGet (tVar i) (tC (.str "cells"))) P := fun σ H v iv Q qq => by
  obtain ⟨x, h1, h2⟩ := v.at_ i _ hi
  have h2 : x = .ref d := h2
  subst h2
  exact ⟨.ref d, h1, d, .ref c, rfl, .inl ⟨_, Sum.inr "cells", .inl iv.2.1, rfl, rfl⟩, qq _ H _ iv (Ex.refl _) q rfl⟩
theorem ds_draws (hi : Δ[i]? = some (some (.raw (.ref d)))) (hl : ns.length ≤ 64) (h : DE K (W.exact hk ns m k) Δ te fun e => ∃ n, e = .dat (.int n) ∧ nx (W.exact hk ns m n) Δ) : DS K (W.exact hk ns m k) Δ (sDPut (tVar i) (tC (.str "draws")) te) nx rt bk ct := fun σ H D v iv cn => by
  refine h σ H v iv _ fun y H1 e i1 x1 p1 r1 => ?_
  obtain ⟨n, rfl, q⟩ := p1
  cases r1
  obtain ⟨x, h1, h2⟩ := (v.mono x1).at_ i _ hi
  have h2 : x = .ref d := h2
  subst h2
  obtain ⟨z1, z2⟩ := exact_put hk (ns' := ns) (m' := m) (k' := n) i1 (H' := upd H1 d (deckO c m n)) (fun a e1 _ => upd_ne e1) upd_same (by rw [upd_ne hk.ne.symm]; exact i1.2.2) hl
  refine ⟨.ref d, h1, d, upd H1 d (deckO c m n), rfl, .inl ⟨_, Sum.inr "draws", i1.2.1, rfl, by show 3 < sizeLine; decide, ?_⟩, ?_⟩
  · congr 1
  · refine cn.nx _ Δ σ _ q z1 ?_ ?_
    · rw [z2]; exact x1
    · rw [z2]; exact v.mono x1
theorem opd_cells (q : P (.dat (.bool (!decide (ns = []))))) : OpD K (W.exact hk ns m k) (rNeS K) (.raw (.ref c)) (.dat (.list [])) P := fun x y H iv rx ry Q qq => by
  have rx : x = .ref c := rx
  subst rx
  have e : PyData.eqv (.list (ns.map PyData.int)) (.list []) = decide (ns = []) := by
    cases ns with
    | nil => simp [PyData.eqv, PyData.eqvAll]
    | cons a r => simp [PyData.eqv, PyData.eqvAll]
  have lay : ∀ l : List Int, PyData.canLayAll0 (l.map PyData.int) = true ∧ PyData.depthAll (l.map PyData.int) = 0 := fun l => by
    induction l with
    | nil => exact ⟨rfl, rfl⟩
    | cons a r ih =>
      refine ⟨?_, ?_⟩
      · show (PyData.canLay0 (.int a) && PyData.canLayAll0 (r.map PyData.int)) = true
        rw [ih.1]
        rfl
      · show max (PyData.depth (.int a)) (PyData.depthAll (r.map PyData.int)) = 0
        rw [ih.2]
        rfl
  refine .inl ⟨.list (ns.map PyData.int), .list [], .lst (SqL.of iv.2.2) (Dqs.dp (Dqs.ints ns)), Dq.dp (Dq.le ry), ?_, by rfl, ?_⟩
  · simp [SeqAt.shaped, PyData.canLay0, (lay ns).1, PyData.depth, (lay ns).2]
  · rw [e]
    exact qq _ H _ iv (Ex.refl _) q (.bl _)
theorem ds_pop {z : Int} (hi : Δ[i]? = some (some (.raw (.ref d)))) (hl : (ns ++ [z]).length ≤ 64) (q : nx (W.exact hk ns m k) (Δ.set j (some (.dat (.int z))))) :
    DS K (W.exact hk (ns ++ [z]) m k) Δ (tAsg (tBM0 K "list" rPop (tDGet (tVar i) (tC (.str "cells")))) (gName j)) nx rt bk ct := fun σ H D v iv cn => by
  obtain ⟨x, h1, h2⟩ := v.at_ i _ hi
  have h2 : x = .ref d := h2
  subst h2
  have hl2 : ns.length ≤ 64 := by
    rw [List.length_append] at hl
    omega
  refine ⟨.ref d, h1, d, .ref c, rfl, .inl ⟨_, Sum.inr "cells", .inl iv.2.1, rfl, rfl⟩, .inl ⟨rfl, _, SqL.of iv.2.2⟩, c, _, .int z, rfl, rfl, iv.2.2, ?_, ?_⟩
  · rw [List.map_append]
    simp
  · have e : ((ns ++ [z]).map V.int).dropLast = ns.map V.int := by
      rw [List.map_append]
      simp
    rw [e]
    obtain ⟨z1, z2⟩ := exact_put hk (ns' := ns) (m' := m) (k' := k) iv (H' := upd H c (.lst (ns.map V.int))) (fun a _ e2 => upd_ne e2) (by rw [upd_ne hk.ne]; exact iv.2.1) upd_same hl2
    refine cn.nx _ _ _ _ q z1 ?_ ?_
    · rw [z2]; exact Ex.refl _
    · rw [z2]; exact v.set (.int z)
theorem ds_push (hi : Δ[i]? = some (some (.raw (.ref d)))) (hl : ns.length < 64) (h : DE K (W.exact hk ns m k) Δ te fun e => ∃ z, e = .dat (.int z) ∧ nx (W.exact hk (ns ++ [z]) m k) Δ) :
    DS K (W.exact hk ns m k) Δ (tDrop (tBM K "list" rAppend (tDGet (tVar i) (tC (.str "cells"))) (tCons te tNil))) nx rt bk ct := fun σ H D v iv cn => by
  obtain ⟨x, h1, h2⟩ := v.at_ i _ hi
  have h2 : x = .ref d := h2
  subst h2
  refine ⟨.ref d, h1, d, .ref c, rfl, .inl ⟨_, Sum.inr "cells", .inl iv.2.1, rfl, rfl⟩, .inl ⟨rfl, _, SqL.of iv.2.2⟩, ?_⟩
  refine h σ H v iv _ fun y H1 e i1 x1 p1 r1 => ?_
  obtain ⟨z, rfl, q⟩ := p1
  cases r1
  refine ⟨c, _, .int z, rfl, rfl, i1.2.2, by rw [List.length_map]; exact sz_lt (by omega), ?_⟩
  have e : ns.map V.int ++ [V.int z] = (ns ++ [z]).map V.int := by rw [List.map_append]; rfl
  rw [e]
  obtain ⟨z1, z2⟩ := exact_put hk (ns' := ns ++ [z]) (m' := m) (k' := k) i1 (H' := upd H1 c (.lst ((ns ++ [z]).map V.int))) (fun a _ e2 => upd_ne e2) (by rw [upd_ne hk.ne]; exact i1.2.1) upd_same (by rw [List.length_append]; show ns.length + 1 ≤ 64; omega)
  refine cn.nx _ Δ σ _ q z1 ?_ ?_
  · rw [z2]; exact x1
  · rw [z2]; exact v.mono x1
end
/-- what _law_deck promises -/
def spDeck (K : PySem.W.Frag) : Sp := fun vs H Q _ => ∃ (a : Addr) (ns : List Int), vs = [.ref a] ∧ SqL K H a (ns.map V.int) ∧ ns.length ≤ 63 ∧
  ∀ (d c : Addr) (m k : Int) (cs : List Int) (H' : Hp), d ≠ c → H d = none → H c = none → Ex H H' → H' d = some (deckO c m k) → H' c = some (.lst (cs.map V.int)) → cs.length ≤ 64 → Q (.ref d) H'
/-- the script stands, nothing is hidden -/
def Wd.script (K : PySem.W.Frag) (a : Addr) (ns : List Int) : Wd where
  hid _ := false
  inv H := SqL K H a (ns.map V.int)
  loc H H' _ e i := ex_l (fun b o h => by
    have := e b o (by unfold vw; rw [if_neg Bool.false_ne_true]; exact h)
    unfold vw at this
    rw [if_neg Bool.false_ne_true] at this
    exact this) i
  live _ _ _ h := by cases h
def knI : Kn := ⟨fun _ o => ∃ ns : List Int, o = .lst (ns.map V.int) ∧ ns.length ≤ 64, fun _ h => h⟩
def knDeck (c : Addr) : Kn := ⟨fun _ o => ∃ m k, o = deckO c m k, fun _ h => h⟩
theorem deck_new {W : Wd} {d c : Addr} (hd : W.hid d = false) (hc : W.hid c = false) (ne : d ≠ c) : HasDeck ((W.hide c knI).hide d (knDeck c)) d c where
  hd := hidAnd_self
  hc := hidAnd_of hidAnd_self
  ne := ne
  get H i := by
    obtain ⟨⟨_, o1, h1, ns, rfl, hl⟩, o2, h2, m, k, rfl⟩ := i
    exact ⟨ns, m, k, h2, del_le _ _ h1, hl⟩
  put H H' ns m k i off h1 h2 h3 := by
    obtain ⟨⟨i1, _⟩, _⟩ := i
    refine ⟨⟨?_, _, by rw [del_ne ne.symm]; exact h2, ns, rfl, h3⟩, _, h1, m, k, rfl⟩
    have e : del (del H' d) c = del (del H d) c := by
      funext a
      by_cases e1 : a = c
      · rw [e1, del_self, del_self]
      · rw [del_ne e1, del_ne e1]
        by_cases e2 : a = d
        · rw [e2, del_self, del_self]
        · rw [del_ne e2, del_ne e2, off a e2 e1]
    rw [e]
    exact i1
theorem ds_deck {K : PySem.W.Frag} {a : Addr} {ns : List Int} {Δ : DEnv} {nx bk ct : Wd → DEnv → Prop} {rt : Wd → DV → Prop} {i j : Nat} (hj : Δ[j]? = some (some (.raw (.ref a)))) (hl : ns.length ≤ 63)
    (k : ∀ W d c, HasDeck W d c → Wd.Le (Wd.script K a ns) W → nx W (Δ.set i (some (.raw (.ref d))))) : DS K (Wd.script K a ns) Δ (tAsg (tCall (spDeck K) [] E0 (tCons (tVar j) tNil)) (gName i)) nx rt bk ct := fun σ H D v iv cn => by
  obtain ⟨x, h1, h2⟩ := v.at_ j _ hj
  have h2 : x = .ref a := h2
  subst h2
  refine ⟨.ref a, h1, a, ns, rfl, iv, hl, fun d c m q cs H' ne hd hc e g1 g2 g3 => ?_⟩
  have no : ∀ b, (Wd.script K a ns).hid b = false := fun _ => rfl
  have hk := deck_new (no d) (no c) ne
  have view : ∀ U : Hp, (Wd.script K a ns).view U = U := fun U => by
    funext b
    show vw _ U b = U b
    rw [vw_of (no b)]
  have i1 : (Wd.script K a ns).inv (del (del H' d) c) := by
    have : Ex H (del (del H' d) c) := fun b o ho => by
      rw [del_ne (ne_of_none ho hc), del_ne (ne_of_none ho hd)]
      exact e b o ho
    exact (Wd.script K a ns).inv_ex iv this
  have i2 : (((Wd.script K a ns).hide c knI).hide d (knDeck c)).inv H' := ⟨⟨i1, _, by rw [del_ne ne.symm]; exact g2, cs, rfl, g3⟩, _, g1, m, q, rfl⟩
  have x2 : Ex ((Wd.script K a ns).view H) ((((Wd.script K a ns).hide c knI).hide d (knDeck c)).view H') := fun b o ho => by
    rw [view] at ho
    show vw (hidAnd (hidAnd (Wd.script K a ns).hid c) d) H' b = some o
    rw [vw_del, vw_del, vw_of (no b), del_ne (ne_of_none ho hc), del_ne (ne_of_none ho hd)]
    exact e b o ho
  refine cn.nx _ _ _ H' (k _ d c hk ?_) i2 x2 ((v.mono x2).set rfl)
  exact ((Wd.Le.refl _).hide (no c)).hide (by
    show hidAnd (Wd.script K a ns).hid c d = false
    exact hidAnd_ne (no d) ne)
end Ka
namespace Ka
open PySem PySem.Spec PyProof.Rows L2 Evl
section
variable {K : PySem.W.Frag} {a : Addr} {ns : List Int} {P : DV → Prop}
theorem cutV_map (ns : List Int) (lo hi : Option Int) : cutV (ns.map V.int) lo hi = (cutG ns lo hi).map V.int := by
  unfold cutV cutG
  rw [List.length_map, List.map_take, List.map_drop]
theorem sld_script {lo hi : Option Int} (k : P (.dat (.list ((cutG ns lo hi).map PyData.int)))) : SlD K (Wd.script K a ns) (rSlX K) (.raw (.ref a)) lo hi P := fun x H iv rx Q q => by
  have rx : x = .ref a := rx
  subst rx
  refine .inl ⟨a, _, rfl, iv, fun p hp => ?_⟩
  rw [cutV_map]
  exact q _ _ _ (Wd.inv_new iv hp) (Wd.view_ex (Ex.new hp)) k (Dq.newL iv hp (Dqs.ints _))
theorem cut_len {α : Type} (xs : List α) (lo hi : Option Int) : (cutG xs lo hi).length ≤ xs.length := by
  unfold cutG
  rw [List.length_take, List.length_drop]
  omega
/-- the last row of _law_deck: the dict and its list -/
theorem ret_deck {σ : L2.St} {H : Hp} {Q : VK} {m : Int} (hl : ns.length ≤ 63) (iv : SqL K H a (ns.map V.int)) (g1 : σ[0]? = some (some (.ref a))) (g3 : σ[1]? = some (some (.int m)))
    (q : ∀ (d c : Addr) (m k : Int) (cs : List Int) (H' : Hp), d ≠ c → H d = none → H c = none → Ex H H' → H' d = some (deckO c m k) → H' c = some (.lst (cs.map V.int)) → cs.length ≤ 64 → Q (.ref d) H') :
    tDisp [(tC (.str "cells"), tRevL K (tCB (rLstX K) (tCons (tSl (rSlX K) (tVar 0) tNoPart (tPart (tC (.int 63)))) tNil))), (tC (.str "mixed"), tVar 1), (tC (.str "draws"), tC (.int 0))] σ H Q := by
  intro d hd
  refine ⟨.ref a, g1, 63, rfl, .inl ⟨a, ns.map V.int, rfl, ex_l (Ex.new hd) iv, fun p hp => ?_⟩⟩
  rw [cutV_map]
  have pd : p ≠ d := fun e => by
    rw [e, upd_same] at hp
    cases hp
  refine ⟨p, _, rfl, .inl (SqL.of upd_same), fun l hl2 => ?_⟩
  have ld : l ≠ d := fun e => by
    rw [e, upd_ne pd.symm, upd_same] at hl2
    cases hl2
  refine ⟨l, _, rfl, SqL.of upd_same, fun c hc => ?_⟩
  have cd : c ≠ d := fun e => by
    rw [e, upd_ne ld.symm, upd_ne pd.symm, upd_same] at hc
    cases hc
  have e1 := Ex.new (o := HO.dK []) hd
  have e2 := Ex.new (o := HO.lst ((cutG ns none (some 63)).map V.int)) hp
  have e3 := Ex.new (o := HO.lst ((cutG ns none (some 63)).map V.int)) hl2
  have e4 := Ex.new (o := HO.lst ((cutG ns none (some 63)).map V.int).reverse) hc
  have all := ((e1.trans e2).trans e3).trans e4
  refine ⟨.int m, g3, ?_, [(Sum.inr "cells", .ref c), (Sum.inr "mixed", .int m), (Sum.inr "draws", .int 0)], rfl, by show 3 ≤ 15; decide, ?_⟩
  · rw [upd_ne cd.symm, upd_ne ld.symm, upd_ne pd.symm, upd_same]
  · refine q d c m 0 (cutG ns none (some 63)).reverse _ cd.symm hd (fresh_back ((e1.trans e2).trans e3) hc) (all.mut hd) ?_ ?_ ?_
    · rw [upd_same]
      rfl
    · rw [upd_ne cd, upd_same, List.map_reverse]
    · rw [List.length_reverse]
      have := cut_len ns none (some 63)
      omega
theorem asg_by {te : TE} {i : Nat} {D : Ends} {σ : L2.St} {H : Hp} (h : te σ H fun x H1 => D.nx (σ.set i (some x)) H1) : tAsg te (gName i) D σ H := h
theorem top_view {H : Hp} : Wd.top.view H = H := by
  funext b
  exact vw_of rfl
end
end Ka
namespace Ka
open PySem PySem.Spec PyProof.Rows L2 Evl
section
variable {K : PySem.W.Frag} {W : Wd} {Δ : DEnv} {te : TE} {ta : TA} {u : TS} {nx bk ct : Wd → DEnv → Prop} {rt : Wd → DV → Prop} {i j : Nat} {g : TG}
theorem dq_set (h : DE K W Δ te fun e => DS K W (Δ.set i (some e)) u nx rt bk ct) : DS K W Δ (tSeq (tAsg te (gName i)) u) nx rt bk ct := ds_seq (ds_set h)
theorem dq_asg (h : DE K W Δ te fun e => ∃ Δ' js, Tg K g e Δ Δ' js ∧ DS K W Δ' u nx rt bk ct) : DS K W Δ (tSeq (tAsg te g) u) nx rt bk ct := ds_seq (ds_asg h)
theorem dq_par (h : DA K W Δ ta fun es => ∃ a b, es = [a, b] ∧ DS K W ((Δ.set i (some a)).set j (some b)) u nx rt bk ct) : DS K W Δ (tSeq (tPar i j ta) u) nx rt bk ct := ds_seq (ds_par h)
theorem dq_drop (h : DE K W Δ te fun _ => DS K W Δ u nx rt bk ct) : DS K W Δ (tSeq (tDrop te) u) nx rt bk ct := ds_seq (ds_drop h)
end
end Ka
namespace Ka
open PySem PySem.Spec PyProof.Rows L2 Evl
section
variable {X : Cx}
theorem cr_max2 (hc : X.calm = true) : CallR X (.builtin "max") rMax2 := call_max2 hc
theorem cr_min2 (hc : X.calm = true) : CallR X (.builtin "min") rMin2 := call_min2 hc
theorem cr_abs : CallR X (.builtin "abs") rAbs := call_abs
end
end Ka
namespace Ka
open PySem PySem.Spec PyProof.Rows L2 Evl
section
variable {K : PySem.W.Frag} {W : Wd} {Δ : DEnv} {tt : TT} {t u : TS} {nx bk ct : Wd → DEnv → Prop} {rt : Wd → DV → Prop}
/-- if tt: t, then the rest, which is shown once: from φ where the test fails -/
theorem dq_when (φ : Prop) (h : DT K W Δ tt fun b => (b = true → DS K W Δ t (fun W' Δ' => DS K W' Δ' u nx rt bk ct) rt bk ct) ∧ (b = false → φ)) (rest : φ → DS K W Δ u nx rt bk ct) : DS K W Δ (tSeq (tIfS tt t tNext) u) nx rt bk ct :=
  ds_seq (ds_if (h.mono fun b hb => ⟨hb.1, fun e => ds_next (rest (hb.2 e))⟩))
end
end Ka
namespace Ka
open PySem PySem.Spec PyProof.Rows L2 Evl
/-- a value as a test -/
def tTru (K : PySem.W.Frag) (ta : TE) : TT := fun σ H Q => ta σ H fun x H' => ∃ k, TruV K x H' k ∧ Q k H'
theorem pt_truK {X : Cx} {K : PySem.W.Frag} {a : Expr} {ta : TE} (e : X.K = K) (ha : PE X a ta) (he : ∀ whole, isTrue a X.env whole = (do let v ← whole; standAt a.pos; holding [v] (truthy v))) : PT X a (tTru K ta) := by
  subst e
  exact pt_truth ha he
def truD : PyData → Bool
  | .none => false
  | .bool b => b
  | .int i => i != 0
  | .str z => (z.length : Int) != 0
  | .list ds => !ds.isEmpty
  | .tuple ds => !ds.isEmpty
  | .dict _ => false
theorem dqs_empty {K : PySem.W.Frag} {H : Hp} {vs : List V} {ds : List PyData} (h : Dqs K H vs ds) : vs.isEmpty = ds.isEmpty := by
  cases h <;> rfl
theorem dt_tru {K : PySem.W.Frag} {W : Wd} {Δ : DEnv} {te : TE} {PB : Bool → Prop} (h : DE K W Δ te fun e => ∃ d, e = .dat d ∧ (∀ z, d = .str z → z.length ≤ 100000) ∧ PB (truD d)) : DT K W Δ (tTru K te) PB := fun σ H v i Q q =>
  h σ H v i _ fun x H1 e i1 x1 p1 r1 => by
    obtain ⟨d, rfl, hz, k⟩ := p1
    refine ⟨truD d, ?_, q _ H1 i1 x1 k⟩
    cases r1 with
    | non => rfl
    | bl b => rfl
    | int i => rfl
    | str z => exact ⟨sz_of (hz z rfl), rfl⟩
    | @lst a vs ds ha hv => exact .inl ⟨vs, SqL.of (Wd.view_le _ _ ha), by rw [dqs_empty hv]; rfl⟩
    | @tup a vs ds ha hv => exact .inr (.inl ⟨vs, ex_t Wd.view_le ha, by rw [dqs_empty hv]; rfl⟩)
theorem perm_reps {K : PySem.W.Frag} (n : Nat) (ix : List Nat) : ∀ (H : Hp) (vs zs : List V) (es fs : List DV), Reps K H vs es → Reps K H zs fs → Reps K H (perm n ix vs zs) (perm n ix es fs) := fun _ _ _ _ _ h1 h2 => perm_rel n ix h1 h2
theorem law_start {K : PySem.W.Frag} {C : Con} (hC : ∀ a ns, ns.length ≤ 63 → C (Wd.script K a ns) [.raw (.ref a)] fun e => e = .dat (.bool true)) {H : Hp} {a : Addr} {ns : List Int} (hl : ns.length ≤ 63) (hS : SqL K H a (ns.map V.int)) :
    SpC K C [.ref a] H (fun v _ => v = .bl true) fun _ _ _ => False :=
  ⟨Wd.script K a ns, _, _, hC a ns hl, hS, .cons rfl .nil, fun v H' e _ _ h r => by
    subst h
    cases r
    rfl⟩
end Ka


namespace Law
open PySem PySem.Spec PyProof.Rows L2 Evl Ka
def topS (i : Nat) : Stmt := PySem.Challenge.pw_keptarcs_k08_arcs_within_arcs.main.body.getD i (.Pass ⟨0, 0, 0, 0⟩)
abbrev s_is_number : Stmt := topS 4
abbrev N_is_number : List Str := ["thing"]
theorem sc_is_number : FnScope N_is_number ["thing"] (defScope s_is_number) := ⟨rfl, rfl, rfl, by decide +kernel, rfl, by decide +kernel, by decide +kernel⟩
abbrev s_is_number_from : Stmt := topS 5
abbrev N_is_number_from : List Str := ["thing", "low", "high"]
theorem sc_is_number_from : FnScope N_is_number_from ["thing", "low", "high"] (defScope s_is_number_from) := ⟨rfl, rfl, rfl, by decide +kernel, rfl, by decide +kernel, by decide +kernel⟩
abbrev s_are_numbers : Stmt := topS 6
abbrev N_are_numbers : List Str := ["thing", "part"]
theorem sc_are_numbers : FnScope N_are_numbers ["thing"] (defScope s_are_numbers) := ⟨rfl, rfl, rfl, by decide +kernel, rfl, by decide +kernel, by decide +kernel⟩
abbrev s_are_ascending_numbers : Stmt := topS 7
abbrev N_are_ascending_numbers : List Str := ["thing"]
theorem sc_are_ascending_numbers : FnScope N_are_ascending_numbers ["thing"] (defScope s_are_ascending_numbers) := ⟨rfl, rfl, rfl, by decide +kernel, rfl, by decide +kernel, by decide +kernel⟩
abbrev s_is_arc : Stmt := topS 9
abbrev N_is_arc : List Str := ["n", "thing", "a", "b", "ahead", "p"]
theorem sc_is_arc : FnScope N_is_arc ["n", "thing"] (defScope s_is_arc) := ⟨rfl, rfl, rfl, by decide +kernel, rfl, by decide +kernel, by decide +kernel⟩
abbrev s_check_arc : Stmt := topS 10
abbrev N_check_arc : List Str := ["n", "arc"]
theorem sc_check_arc : FnScope N_check_arc ["n", "arc"] (defScope s_check_arc) := ⟨rfl, rfl, rfl, by decide +kernel, rfl, by decide +kernel, by decide +kernel⟩
abbrev s_narrowed : Stmt := topS 11
abbrev N_narrowed : List Str := ["arc", "c", "d", "p"]
theorem sc_narrowed : FnScope N_narrowed ["arc", "c", "d"] (defScope s_narrowed) := ⟨rfl, rfl, rfl, by decide +kernel, rfl, by decide +kernel, by decide +kernel⟩
abbrev s_arcs_within : Stmt := topS 12
abbrev N_arcs_within : List Str := ["n", "arc", "a", "b", "_", "found", "c", "d"]
theorem sc_arcs_within : FnScope N_arcs_within ["n", "arc"] (defScope s_arcs_within) := ⟨rfl, rfl, rfl, by decide +kernel, rfl, by decide +kernel, by decide +kernel⟩
abbrev s_lies_within : Stmt := topS 13
abbrev N_lies_within : List Str := ["n", "one", "other", "c", "d", "_"]
theorem sc_lies_within : FnScope N_lies_within ["n", "one", "other"] (defScope s_lies_within) := ⟨rfl, rfl, rfl, by decide +kernel, rfl, by decide +kernel, by decide +kernel⟩
abbrev s__law_deck : Stmt := topS 15
abbrev N__law_deck : List Str := ["script", "mixed", "cell"]
theorem sc__law_deck : FnScope N__law_deck ["script"] (defScope s__law_deck) := ⟨rfl, rfl, rfl, by decide +kernel, rfl, by decide +kernel, by decide +kernel⟩
abbrev s__law_draw : Stmt := topS 16
abbrev N__law_draw : List Str := ["deck", "many", "number", "cell"]
theorem sc__law_draw : FnScope N__law_draw ["deck", "many"] (defScope s__law_draw) := ⟨rfl, rfl, rfl, by decide +kernel, rfl, by decide +kernel, by decide +kernel⟩
abbrev s__law_pick : Stmt := topS 17
abbrev N__law_pick : List Str := ["deck", "some"]
theorem sc__law_pick : FnScope N__law_pick ["deck", "some"] (defScope s__law_pick) := ⟨rfl, rfl, rfl, by decide +kernel, rfl, by decide +kernel, by decide +kernel⟩
abbrev s__law_arc : Stmt := topS 18
abbrev N__law_arc : List Str := ["deck", "n", "a", "b", "few", "x"]
theorem sc__law_arc : FnScope N__law_arc ["deck", "n"] (defScope s__law_arc) := ⟨rfl, rfl, rfl, by decide +kernel, rfl, by decide +kernel, by decide +kernel⟩
abbrev s__law_within : Stmt := topS 19
abbrev N__law_within : List Str := ["arc", "a", "b", "ahead", "found", "c", "d", "x"]
theorem sc__law_within : FnScope N__law_within ["arc"] (defScope s__law_within) := ⟨rfl, rfl, rfl, by decide +kernel, rfl, by decide +kernel, by decide +kernel⟩
abbrev s__law_lies : Stmt := topS 20
abbrev N__law_lies : List Str := ["one", "other", "c", "d", "some", "x"]
theorem sc__law_lies : FnScope N__law_lies ["one", "other"] (defScope s__law_lies) := ⟨rfl, rfl, rfl, by decide +kernel, rfl, by decide +kernel, by decide +kernel⟩
abbrev s__law_near : Stmt := topS 21
abbrev N__law_near : List Str := ["deck", "arc", "n", "a", "b", "ahead", "way", "x", "y"]
theorem sc__law_near : FnScope N__law_near ["deck", "arc", "n"] (defScope s__law_near) := ⟨rfl, rfl, rfl, by decide +kernel, rfl, by decide +kernel, by decide +kernel⟩
abbrev s_law : Stmt := topS 22
abbrev N_law : List Str := ["script", "deck", "turn", "n", "arc", "text", "due", "told", "look", "one", "other", "right", "some"]
theorem sc_law : FnScope N_law ["script"] (defScope s_law) := ⟨rfl, rfl, rfl, by decide +kernel, rfl, by decide +kernel, by decide +kernel⟩
/-- what the top has left -/
structure Tx (K : PySem.W.Frag) (mg : Str → Option Value) where
  f_is_number : Addr
  d_is_number : FuncData
  F_is_number : Fun K "is_number" "is_number" s_is_number f_is_number d_is_number
  b_is_number : Binds K d_is_number ["thing"] []
  g_is_number : mg "is_number" = some (.ref f_is_number)
  f_is_number_from : Addr
  d_is_number_from : FuncData
  F_is_number_from : Fun K "is_number_from" "is_number_from" s_is_number_from f_is_number_from d_is_number_from
  b_is_number_from : Binds K d_is_number_from ["thing", "low", "high"] []
  g_is_number_from : mg "is_number_from" = some (.ref f_is_number_from)
  f_are_numbers : Addr
  d_are_numbers : FuncData
  F_are_numbers : Fun K "are_numbers" "are_numbers" s_are_numbers f_are_numbers d_are_numbers
  b_are_numbers : Binds K d_are_numbers ["thing"] []
  g_are_numbers : mg "are_numbers" = some (.ref f_are_numbers)
  f_are_ascending_numbers : Addr
  d_are_ascending_numbers : FuncData
  F_are_ascending_numbers : Fun K "are_ascending_numbers" "are_ascending_numbers" s_are_ascending_numbers f_are_ascending_numbers d_are_ascending_numbers
  b_are_ascending_numbers : Binds K d_are_ascending_numbers ["thing"] []
  g_are_ascending_numbers : mg "are_ascending_numbers" = some (.ref f_are_ascending_numbers)
  f_is_arc : Addr
  d_is_arc : FuncData
  F_is_arc : Fun K "is_arc" "is_arc" s_is_arc f_is_arc d_is_arc
  b_is_arc : Binds K d_is_arc ["n", "thing"] []
  g_is_arc : mg "is_arc" = some (.ref f_is_arc)
  f_check_arc : Addr
  d_check_arc : FuncData
  F_check_arc : Fun K "check_arc" "check_arc" s_check_arc f_check_arc d_check_arc
  b_check_arc : Binds K d_check_arc ["n", "arc"] []
  g_check_arc : mg "check_arc" = some (.ref f_check_arc)
  f_narrowed : Addr
  d_narrowed : FuncData
  F_narrowed : Fun K "narrowed" "narrowed" s_narrowed f_narrowed d_narrowed
  b_narrowed : Binds K d_narrowed ["arc", "c", "d"] []
  g_narrowed : mg "narrowed" = some (.ref f_narrowed)
  f_arcs_within : Addr
  d_arcs_within : FuncData
  F_arcs_within : Fun K "arcs_within" "arcs_within" s_arcs_within f_arcs_within d_arcs_within
  b_arcs_within : Binds K d_arcs_within ["n", "arc"] []
  g_arcs_within : mg "arcs_within" = some (.ref f_arcs_within)
  f_lies_within : Addr
  d_lies_within : FuncData
  F_lies_within : Fun K "lies_within" "lies_within" s_lies_within f_lies_within d_lies_within
  b_lies_within : Binds K d_lies_within ["n", "one", "other"] []
  g_lies_within : mg "lies_within" = some (.ref f_lies_within)
  f__law_deck : Addr
  d__law_deck : FuncData
  F__law_deck : Fun K "_law_deck" "_law_deck" s__law_deck f__law_deck d__law_deck
  b__law_deck : Binds K d__law_deck ["script"] []
  g__law_deck : mg "_law_deck" = some (.ref f__law_deck)
  f__law_draw : Addr
  d__law_draw : FuncData
  F__law_draw : Fun K "_law_draw" "_law_draw" s__law_draw f__law_draw d__law_draw
  b__law_draw : Binds K d__law_draw ["deck", "many"] []
  g__law_draw : mg "_law_draw" = some (.ref f__law_draw)
  f__law_pick : Addr
  d__law_pick : FuncData
  F__law_pick : Fun K "_law_pick" "_law_pick" s__law_pick f__law_pick d__law_pick
  b__law_pick : Binds K d__law_pick ["deck", "some"] []
  g__law_pick : mg "_law_pick" = some (.ref f__law_pick)
  f__law_arc : Addr
  d__law_arc : FuncData
  F__law_arc : Fun K "_law_arc" "_law_arc" s__law_arc f__law_arc d__law_arc
  b__law_arc : Binds K d__law_arc ["deck", "n"] []
  g__law_arc : mg "_law_arc" = some (.ref f__law_arc)
  f__law_within : Addr
  d__law_within : FuncData
  F__law_within : Fun K "_law_within" "_law_within" s__law_within f__law_within d__law_within
  b__law_within : Binds K d__law_within ["arc"] []
  g__law_within : mg "_law_within" = some (.ref f__law_within)
  f__law_lies : Addr
  d__law_lies : FuncData
  F__law_lies : Fun K "_law_lies" "_law_lies" s__law_lies f__law_lies d__law_lies
  b__law_lies : Binds K d__law_lies ["one", "other"] []
  g__law_lies : mg "_law_lies" = some (.ref f__law_lies)
  f__law_near : Addr
  d__law_near : FuncData
  F__law_near : Fun K "_law_near" "_law_near" s__law_near f__law_near d__law_near
  b__law_near : Binds K d__law_near ["deck", "arc", "n"] []
  g__law_near : mg "_law_near" = some (.ref f__law_near)
  f_law : Addr
  d_law : FuncData
  F_law : Fun K "law" "law" s_law f_law d_law
  b_law : Binds K d_law ["script"] []
  g_law : mg "law" = some (.ref f_law)
  k_arcs_within__arc_n : KBinds K d_arcs_within ["n", "arc"] ["arc", "n"] (perm 2 [1, 0]) (perm 2 [1, 0])
  k_lies_within__other_one_n : KBinds K d_lies_within ["n", "one", "other"] ["other", "one", "n"] (perm 3 [2, 1, 0]) (perm 3 [2, 1, 0])
  m_all : mg "all" = none
  m_bool : mg "bool" = none
  m_int : mg "int" = none
  m_isinstance : mg "isinstance" = none
  m_len : mg "len" = none
  m_list : mg "list" = none
  m_max : mg "max" = none
  m_range : mg "range" = none
  m_repr : mg "repr" = none
  m_set : mg "set" = none
  m_sorted : mg "sorted" = none
  m_tuple : mg "tuple" = none
section
variable {P : Program} {w : World} {K : PySem.W.Frag} {mg : Str → Option Value} {base : Heap}
/-! one step of the calculus -/
local macro_rules | `(tactic| walk_at "ka1") => `(tactic| first
  | (with_reducible refine dq_set ?_)
  | (with_reducible refine dq_asg ?_)
  | (with_reducible refine dq_par ?_)
  | (with_reducible refine dq_drop ?_)
  | (with_reducible refine ds_set ?_)
  | (with_reducible refine ds_asg ?_)
  | (with_reducible refine ds_par ?_)
  | (with_reducible refine ds_ret ?_)
  | (with_reducible refine ds_drop ?_)
  | (with_reducible refine ds_if ?_)
  | (with_reducible refine ds_next ?_)
  | ((with_reducible refine' de_var ?hv ?kv); (case hv => rfl))
  | (with_reducible refine de_int ?_)
  | (with_reducible refine de_bl ?_)
  | (with_reducible refine de_str ?_)
  | (with_reducible refine de_non ?_)
  | (with_reducible refine de_op ?_)
  | (with_reducible refine de_andV ?_)
  | (with_reducible refine de_orV ?_)
  | (with_reducible refine de_notV ?_)
  | (with_reducible refine de_un ?_)
  | (with_reducible refine de_if ?_)
  | (with_reducible refine de_chain ?_)
  | (with_reducible refine de_cb ?_)
  | (with_reducible refine de_call ?_)
  | (with_reducible refine de_callK (perm_reps _ _) ?_)
  | (with_reducible refine de_tup ?_)
  | (with_reducible refine de_lst ?_)
  | (with_reducible refine de_sl ?_)
  | (with_reducible refine de_raw ?_)
  | (with_reducible refine da_nil ?_)
  | (with_reducible refine da_cons ?_)
  | (with_reducible refine dt_test ?_)
  | (with_reducible refine dt_B ?_)
  | (with_reducible refine dt_and ?_)
  | (with_reducible refine dt_tru ?_)
  | (with_reducible refine dt_or ?_)
  | (with_reducible refine dt_not ?_)
  | (with_reducible refine dt_yes ?_)
  | (with_reducible refine do_none ?_)
  | (with_reducible refine do_some ?_)
  | (with_reducible refine opd_addI ?_)
  | (with_reducible refine opd_I ?_)
  | (with_reducible refine opd_B ?_)
  | (with_reducible refine und_neg ?_)
  | (with_reducible refine sld_L ?_)
  | (with_reducible refine sld_T ?_)
  | (with_reducible refine cal_lenT ?_)
  | (with_reducible refine cal_lenL ?_)
  | (with_reducible refine cal_tupL ?_)
  | (with_reducible refine cal_tupT ?_)
  | (with_reducible refine cal_lstL ?_)
  | (with_reducible refine cal_lstT ?_)
  | (with_reducible refine cal_int ?_)
  | (with_reducible refine cal_max2 ?_)
  | (with_reducible refine cal_min2 ?_)
  | (with_reducible refine di_rng1 ?_)
  | (with_reducible refine di_rng2 ?_)
  | (with_reducible refine ⟨[], rfl, by simp only [List.length_cons, List.length_nil]; decide, ?_⟩)
  | (with_reducible refine ⟨[_], rfl, by simp only [List.length_cons, List.length_nil]; decide, ?_⟩)
  | (with_reducible refine ⟨[_, _], rfl, by simp only [List.length_cons, List.length_nil]; decide, ?_⟩)
  | (with_reducible refine ⟨[_, _, _], rfl, by simp only [List.length_cons, List.length_nil]; decide, ?_⟩)
  | (with_reducible refine ⟨[_, _, _, _], rfl, by simp only [List.length_cons, List.length_nil]; decide, ?_⟩)
  | (with_reducible refine ⟨[_, _, _, _, _], rfl, by simp only [List.length_cons, List.length_nil]; decide, ?_⟩)
  | (with_reducible refine ⟨[_, _, _, _, _, _], rfl, by simp only [List.length_cons, List.length_nil]; decide, ?_⟩)
  | (with_reducible refine ⟨[_, _, _, _, _, _, _], rfl, by simp only [List.length_cons, List.length_nil]; decide, ?_⟩)
  | (with_reducible refine ⟨[_, _, _, _, _, _, _, _], rfl, by simp only [List.length_cons, List.length_nil]; decide, ?_⟩)
  | (with_reducible refine ⟨[_, _, _, _, _, _, _, _, _], rfl, by simp only [List.length_cons, List.length_nil]; decide, ?_⟩)
  | (with_reducible refine ⟨[_, _, _, _, _, _, _, _, _, _], rfl, by simp only [List.length_cons, List.length_nil]; decide, ?_⟩)
  | (with_reducible refine ⟨_, rfl, ?_⟩))
local macro_rules | `(tactic| walk_at "ka") => `(tactic| repeat walk_at "ka1")

/-! data: kinds, intsD, texts that are equal -/
def isInt : PyData → Bool
  | .int _ => true
  | _ => false
def isBool : PyData → Bool
  | .bool _ => true
  | _ => false
def isTup : PyData → Bool
  | .tuple _ => true
  | _ => false
def intOf : PyData → Int
  | .int i => i
  | _ => 0
def intsD (ns : List Int) : List PyData := ns.map PyData.int
theorem isInt_eq : ∀ {d : PyData}, isInt d = true → d = .int (intOf d)
  | .int _, _ => rfl
theorem all_ints : ∀ {ds : List PyData}, ds.all isInt = true → ds = intsD (ds.map intOf)
  | [], _ => rfl
  | d :: ds, h => by
    rw [List.all_cons, Bool.and_eq_true] at h
    show d :: ds = .int (intOf d) :: intsD (ds.map intOf)
    rw [← isInt_eq h.1, ← all_ints h.2]
theorem ints_all (ns : List Int) : (intsD ns).all isInt = true := by
  unfold intsD
  rw [List.all_map]
  exact List.all_eq_true.mpr fun _ _ => rfl
theorem ints_intOf (ns : List Int) : (intsD ns).map intOf = ns := by
  unfold intsD
  rw [List.map_map]
  exact List.map_id _
theorem eqvAll_ints : ∀ (xs ys : List Int), PyData.eqvAll (intsD xs) (intsD ys) = decide (xs = ys)
  | [], [] => by simp [intsD, PyData.eqvAll]
  | [], _ :: _ => by simp [intsD, PyData.eqvAll]
  | _ :: _, [] => by simp [intsD, PyData.eqvAll]
  | x :: xs, y :: ys => by
    have ih := eqvAll_ints xs ys
    show (PyData.eqv (.int x) (.int y) && PyData.eqvAll (intsD xs) (intsD ys)) = _
    rw [ih]
    by_cases h : x = y <;> by_cases h2 : xs = ys <;> simp [PyData.eqv, h, h2]
/-- two ascending lists with the same members are one -/
theorem asc_unique : ∀ {xs ys : List Int}, xs.Pairwise (· < ·) → ys.Pairwise (· < ·) → (∀ k, k ∈ xs ↔ k ∈ ys) → xs = ys
  | [], [], _, _, _ => rfl
  | [], y :: ys, _, _, h => by
    have := (h y).mpr (by simp)
    cases this
  | x :: xs, [], _, _, h => by
    have := (h x).mp (by simp)
    cases this
  | x :: xs, y :: ys, h1, h2, h => by
    rw [List.pairwise_cons] at h1 h2
    have e : x = y := by
      have a1 := (h x).mp (by simp)
      have a2 := (h y).mpr (by simp)
      rcases List.mem_cons.mp a1 with e | m1
      · exact e
      · rcases List.mem_cons.mp a2 with e | m2
        · exact e.symm
        · have := h1.1 y m2
          have := h2.1 x m1
          omega
    subst e
    refine congrArg (x :: ·) (asc_unique h1.2 h2.2 fun k => ⟨fun hk => ?_, fun hk => ?_⟩)
    · rcases List.mem_cons.mp ((h k).mp (List.mem_cons_of_mem _ hk)) with e | m
      · have := h1.1 k hk
        omega
      · exact m
    · rcases List.mem_cons.mp ((h k).mpr (List.mem_cons_of_mem _ hk)) with e | m
      · have := h2.1 k hk
        omega
      · exact m

/-! is_number -/
def C_is_number : Con := fun _ es P => ∃ d, es = [.dat d] ∧ P (.dat (.bool (isInt d)))
theorem kit_int : ∀ d : PyData, kitB (tyD d) "int" = some (isInt d || isBool d)
  | .none => (by decide +kernel : kitB "NoneType" "int" = some false)
  | .bool _ => (by decide +kernel : kitB "bool" "int" = some true)
  | .int _ => (by decide +kernel : kitB "int" "int" = some true)
  | .str _ => (by decide +kernel : kitB "str" "int" = some false)
  | .list _ => (by decide +kernel : kitB "list" "int" = some false)
  | .tuple _ => (by decide +kernel : kitB "tuple" "int" = some false)
  | .dict _ => (by decide +kernel : kitB "dict" "int" = some false)
theorem kit_bool : ∀ d : PyData, kitB (tyD d) "bool" = some (isBool d)
  | .none => (by decide +kernel : kitB "NoneType" "bool" = some false)
  | .bool _ => (by decide +kernel : kitB "bool" "bool" = some true)
  | .int _ => (by decide +kernel : kitB "int" "bool" = some false)
  | .str _ => (by decide +kernel : kitB "str" "bool" = some false)
  | .list _ => (by decide +kernel : kitB "list" "bool" = some false)
  | .tuple _ => (by decide +kernel : kitB "tuple" "bool" = some false)
  | .dict _ => (by decide +kernel : kitB "dict" "bool" = some false)
theorem kit_tuple : ∀ d : PyData, kitB (tyD d) "tuple" = some (isTup d)
  | .none => (by decide +kernel : kitB "NoneType" "tuple" = some false)
  | .bool _ => (by decide +kernel : kitB "bool" "tuple" = some false)
  | .int _ => (by decide +kernel : kitB "int" "tuple" = some false)
  | .str _ => (by decide +kernel : kitB "str" "tuple" = some false)
  | .list _ => (by decide +kernel : kitB "list" "tuple" = some false)
  | .tuple _ => (by decide +kernel : kitB "tuple" "tuple" = some true)
  | .dict _ => (by decide +kernel : kitB "dict" "tuple" = some false)
theorem ok_is_number (T : Tx K mg) : FnOk P w K mg base CX0 1 T.f_is_number T.d_is_number ["thing"] (SpC K C_is_number) := by
  refine kfn T.F_is_number sc_is_number (fun W es P ⟨d, h, _⟩ => by rw [h]; rfl) fun cdv A outer s H E hr => ⟨_, (pss_one (ps_ret (pe_and (pe_callB (cr_isiK (K := K) rfl) (by rfl) T.m_isinstance (by decide +kernel) (pa_cons (pv 0) (pa_cons (pe_bltn (v := .ty "int") (by rfl) T.m_int (by decide +kernel) rfl) pa_nil))) (pe_one (pe_not (pe_callB (cr_isiK (K := K) rfl) (by rfl) T.m_isinstance (by decide +kernel) (pa_cons (pv 0) (pa_cons (pe_bltn (v := .ty "bool") (by rfl) T.m_bool (by decide +kernel) rfl) pa_nil)))))))), fun W es P hC => ?_⟩
  obtain ⟨d, rfl, q⟩ := hC
  try dsimp only [cx_K, cx_w]
  walk_at "ka"
  refine cal_isi (kit_int d) ?_
  refine ⟨_, rfl, fun e => ?_, fun e => ⟨Wd.Le.refl W, ?_⟩⟩
  · walk_at "ka"
    refine cal_isi (kit_bool d) ⟨_, rfl, Wd.Le.refl W, ?_⟩
    cases d <;> first | exact q | (cases e)
  · cases d <;> first | exact q | (cases e)

def numIn (d : PyData) (lo hi : Int) : Bool := isInt d && (decide (lo ≤ intOf d) && decide (intOf d ≤ hi))
def C_is_number_from : Con := fun _ es P => ∃ d lo hi, es = [.dat d, .dat (.int lo), .dat (.int hi)] ∧ P (.dat (.bool (numIn d lo hi)))
theorem ok_is_number_from (T : Tx K mg) : FnOk P w K mg base CX0 2 T.f_is_number_from T.d_is_number_from ["thing", "low", "high"] (SpC K C_is_number_from) := by
  refine kfn T.F_is_number_from sc_is_number_from (fun W es P ⟨d, _, _, h, _⟩ => by rw [h]; rfl) fun cdv A outer s H E hr => ⟨_, (pss_one (ps_ret (pe_and (pe_call (ok_is_number T) hr (by rfl) T.g_is_number T.F_is_number.kp T.b_is_number .nil pass0 (pa_cons (pv 0) pa_nil)) (pe_one (pe_chain op_le op_le (pv 1) (pv 0) (pv 2)))))), fun W es P hC => ?_⟩
  obtain ⟨d, lo, hi, rfl, q⟩ := hC
  try dsimp only [cx_K, cx_w]
  walk_at "ka"
  refine ⟨d, rfl, _, rfl, fun e => ?_, fun e => ⟨Wd.Le.refl W, ?_⟩⟩
  · obtain ⟨i, rfl⟩ : ∃ i, d = .int i := ⟨_, isInt_eq e⟩
    walk_at "ka"
    refine ⟨fun e2 => ?_, fun e2 => ⟨Wd.Le.refl W, ?_⟩⟩
    · walk_at "ka"
      refine ⟨Wd.Le.refl W, ?_⟩
      have q' : P (.dat (.bool (true && (decide (lo ≤ i) && decide (i ≤ hi))))) := q
      rw [e2] at q'
      exact q'
    · have q' : P (.dat (.bool (true && (decide (lo ≤ i) && decide (i ≤ hi))))) := q
      rw [e2] at q'
      exact q'
  · unfold numIn at q
    rw [e] at q
    exact q

def itemsOf : PyData → List PyData
  | .tuple ds => ds
  | _ => []
theorem isTup_eq : ∀ {d : PyData}, isTup d = true → d = .tuple (itemsOf d)
  | .tuple _, _ => rfl
def areInts (d : PyData) : Bool := isTup d && (itemsOf d).all isInt
def C_are_numbers : Con := fun _ es P => ∃ d, es = [.dat d] ∧ (itemsOf d).length ≤ 50000 ∧ P (.dat (.bool (areInts d)))
theorem ok_are_numbers (T : Tx K mg) : FnOk P w K mg base CX0 2 T.f_are_numbers T.d_are_numbers ["thing"] (SpC K C_are_numbers) := by
  refine kfn T.F_are_numbers sc_are_numbers (fun W es P ⟨d, h, _⟩ => by rw [h]; rfl) fun cdv A outer s H E hr => ⟨_, (pss_one (ps_ret (pe_and (pe_callB (cr_isiK (K := K) rfl) (by rfl) T.m_isinstance (by decide +kernel) (pa_cons (pv 0) (pa_cons (pe_bltn (v := .ty "tuple") (by rfl) T.m_tuple (by decide +kernel) rfl) pa_nil))) (pe_one (pe_callB (cr_allK (K := K) rfl rfl) (by rfl) T.m_all (by decide +kernel) (pa_cons (pe_lc (own := [("part", 1)]) rfl sc_are_numbers.nd (pi_seqK (K := K) rfl (pv 0)) (blkOk_by (N := N_are_numbers) (sc := defScope s_are_numbers) (by decide +kernel)) (fun _ _ _ _ _ => (pg_name (i := 1) sc_are_numbers.nd rfl (by first | exact Or.inl rfl | exact Or.inr rfl))) (fun _ _ _ _ _ => pts_nil) (fun _ _ _ _ _ => (pe_call (ok_is_number T) hr (by rfl) T.g_is_number T.F_is_number.kp T.b_is_number .nil pass0 (pa_cons (pv 1) pa_nil)))) pa_nil)))))), fun W es P hC => ?_⟩
  obtain ⟨d, rfl, hz, q⟩ := hC
  try dsimp only [cx_K, cx_w]
  walk_at "ka"
  refine cal_isi (kit_tuple d) ⟨_, rfl, fun e => ?_, fun e => ⟨Wd.Le.refl W, ?_⟩⟩
  · obtain ⟨ds, rfl⟩ : ∃ ds, d = .tuple ds := ⟨_, isTup_eq e⟩
    walk_at "ka"
    refine de_lcM ds DV.dat (fun _ => true) (fun d => .bool (isInt d)) (di_seqT ?_) hz ?_ ?_
    · walk_at "ka"
      rfl
    · intro d hd W' hW
      refine ⟨_, _, tg_name, by simp, ?_⟩
      walk_at "ka"
      refine ⟨rfl, fun _ => ?_⟩
      walk_at "ka"
      exact ⟨d, rfl, rfl⟩
    · walk_at "ka"
      rw [List.filter_eq_self.mpr (fun _ _ => rfl)]
      have e2 : ds.map (fun d => PyData.bool (isInt d)) = (ds.map isInt).map PyData.bool := by rw [List.map_map]; rfl
      rw [e2]
      refine cal_all ⟨Wd.Le.refl W, ?_⟩
      rw [List.all_map]
      exact q
  · unfold areInts at q
    rw [e] at q
    exact q

def ascNums (d : PyData) : Bool := areInts d && decide (((itemsOf d).map intOf).Pairwise (· < ·))
def C_are_ascending_numbers : Con := fun _ es P => ∃ d, es = [.dat d] ∧ (itemsOf d).length < 64 ∧ P (.dat (.bool (ascNums d)))
theorem canLay_ints : ∀ ns : List Int, PyData.canLayAll0 (intsD ns) = true
  | [] => rfl
  | n :: ns => by
    show (PyData.canLay0 (.int n) && PyData.canLayAll0 (intsD ns)) = true
    rw [canLay_ints ns]
    rfl
theorem depth_intsD : ∀ ns : List Int, PyData.depthAll (intsD ns) = 0
  | [] => rfl
  | n :: ns => by
    show max (PyData.depth (.int n)) (PyData.depthAll (intsD ns)) = 0
    rw [depth_intsD ns]
    rfl
theorem shaped_listI (ns : List Int) : SeqAt.shaped (.list (intsD ns)) = true := by
  simp [SeqAt.shaped, PyData.canLay0, canLay_ints, PyData.depth, depth_intsD]
theorem shaped_tupI (ns : List Int) : SeqAt.shaped (.tuple (intsD ns)) = true := by
  simp [SeqAt.shaped, PyData.canLay0, canLay_ints, PyData.depth, depth_intsD]
theorem ok_are_ascending_numbers (T : Tx K mg) : FnOk P w K mg base CX0 3 T.f_are_ascending_numbers T.d_are_ascending_numbers ["thing"] (SpC K C_are_ascending_numbers) := by
  refine kfn T.F_are_ascending_numbers sc_are_ascending_numbers (fun W es P ⟨d, h, _⟩ => by rw [h]; rfl) fun cdv A outer s H E hr => ⟨_, (pss_one (ps_ret (pe_and (pe_call (ok_are_numbers T) hr (by rfl) T.g_are_numbers T.F_are_numbers.kp T.b_are_numbers .nil pass0 (pa_cons (pv 0) pa_nil)) (pe_one (pe_cmpR (op_eqK (K := K) rfl hr.units) (pe_callTy (cr_lstK (K := K) rfl) (by rfl) T.m_list (by decide +kernel) (pa_cons (pv 0) pa_nil)) (pe_callB (cr_sortedK (K := K) (w := w) rfl rfl rfl hr.units) (by rfl) T.m_sorted (by decide +kernel) (pa_cons (pe_callTy (cr_setK (K := K) (w := w) rfl rfl rfl) (by rfl) T.m_set (by decide +kernel) (pa_cons (pv 0) pa_nil)) pa_nil)) (nomark _)))))), fun W es P hC => ?_⟩
  obtain ⟨d, rfl, hz, q⟩ := hC
  try dsimp only [cx_K, cx_w]
  walk_at "ka"
  refine ⟨d, rfl, by omega, _, rfl, fun e => ?_, fun e => ⟨Wd.Le.refl W, ?_⟩⟩
  · obtain ⟨ns, rfl⟩ : ∃ ns, d = .tuple (intsD ns) := by
      unfold areInts at e
      rw [Bool.and_eq_true] at e
      exact ⟨(itemsOf d).map intOf, by rw [← all_ints e.2]; exact isTup_eq e.1⟩
    have hl : ns.length < 64 := by
      have : (itemsOf (.tuple (intsD ns))).length = ns.length := List.length_map ..
      omega
    walk_at "ka"
    refine cal_setI (by omega) fun c hc => ?_
    walk_at "ka"
    refine cal_sortedXS (by omega) fun ss h1 h2 _ => ?_
    refine opd_eq (shaped_listI _) (shaped_listI _) ⟨Wd.Le.refl W, ?_⟩
    have h3 : ∀ k, k ∈ ss ↔ k ∈ ns := fun k => by rw [h2 k]; exact decide_eq_true_iff
    have e1 : PyData.eqv (.list (intsD ns)) (.list (intsD ss)) = decide (ns.Pairwise (· < ·)) := by
      show PyData.eqvAll (intsD ns) (intsD ss) = _
      rw [eqvAll_ints]
      refine decide_eq_decide.mpr ⟨fun z => by rw [z]; exact h1, fun z => asc_unique z h1 fun k => (h3 k).symm⟩
    have q' : P (.dat (.bool (areInts (.tuple (intsD ns)) && decide (((intsD ns).map intOf).Pairwise (· < ·))))) := q
    rw [e, ints_intOf] at q'
    show P (.dat (.bool (PyData.eqv (.list (intsD ns)) (.list (intsD ss)))))
    rw [e1]
    exact q'
  · unfold ascNums at q
    rw [e] at q
    exact q

/-! arcs -/
def arcD (a b : Int) (S : List Int) : PyData := .tuple [.int a, .int b, .tuple (intsD S)]
structure ArcOk (n a b : Int) (S : List Int) : Prop where
  lo : 1 ≤ a
  lt : a < b
  hi : b ≤ n
  asc : S.Pairwise (· < ·)
  mem : ∀ p ∈ S, a < p ∧ p < b
/-- the numbers of S between c and d -/
def betw (c d : Int) (S : List Int) : List Int := S.filter fun p => decide (c < p) && decide (p < d)
theorem betw_mem {c d p : Int} {S : List Int} : p ∈ betw c d S ↔ p ∈ S ∧ c < p ∧ p < d := by
  unfold betw
  rw [List.mem_filter, Bool.and_eq_true, decide_eq_true_iff, decide_eq_true_iff]
theorem betw_asc {c d : Int} {S : List Int} (h : S.Pairwise (· < ·)) : (betw c d S).Pairwise (· < ·) := h.sublist List.filter_sublist
theorem asc_len : ∀ {S : List Int} {a b : Int}, S.Pairwise (· < ·) → (∀ p ∈ S, a < p ∧ p < b) → S.length ≤ (b - a - 1).toNat
  | [], _, _, _, _ => Nat.zero_le _
  | p :: S, a, b, h, hm => by
    rw [List.pairwise_cons] at h
    have h0 := hm p (by simp)
    have ih := asc_len (a := p) (b := b) h.2 fun q hq => ⟨h.1 q hq, (hm q (List.mem_cons_of_mem _ hq)).2⟩
    rw [List.length_cons]
    omega
theorem ArcOk.len {n a b : Int} {S : List Int} (h : ArcOk n a b S) : S.length ≤ (b - a - 1).toNat := asc_len h.asc h.mem
theorem ArcOk.inner {n a b c d : Int} {S : List Int} (h : ArcOk n a b S) (h1 : a ≤ c) (h2 : c < d) (h3 : d ≤ b) : ArcOk n c d (betw c d S) :=
  ⟨by have := h.lo; omega, h2, by have := h.hi; omega, betw_asc h.asc, fun p hp => (betw_mem.mp hp).2⟩
theorem eqv_arcs {a b c d : Int} {S R : List Int} : PyData.eqv (arcD a b S) (arcD c d R) = (decide (a = c) && (decide (b = d) && decide (S = R))) := by
  show (PyData.eqv (.int a) (.int c) && (PyData.eqv (.int b) (.int d) && (PyData.eqvAll (intsD S) (intsD R) && true))) = _
  rw [eqvAll_ints, Bool.and_true]
  congr 1

def isArcD (n : Int) : PyData → Bool
  | .tuple [x, y, z] => (numIn x 1 n && numIn y (intOf x + 1) n) && (ascNums z && ((itemsOf z).map intOf).all fun p => decide (intOf x < p) && decide (p < intOf y))
  | _ => false
/-- the size of what stands third -/
def thirdOf : PyData → List PyData
  | .tuple [_, _, z] => itemsOf z
  | _ => []
theorem isArcD_of {n a b : Int} {S : List Int} (h : ArcOk n a b S) : isArcD n (arcD a b S) = true := by
  have h1 := h.lo
  have h2 := h.lt
  have h3 := h.hi
  show ((numIn (.int a) 1 n && numIn (.int b) (a + 1) n) && (ascNums (.tuple (intsD S)) && ((intsD S).map intOf).all fun p => decide (a < p) && decide (p < b))) = true
  have e1 : numIn (.int a) 1 n = true := by
    show (true && (decide (1 ≤ a) && decide (a ≤ n))) = true
    rw [decide_eq_true h1, decide_eq_true (by omega : a ≤ n)]
    rfl
  have e2 : numIn (.int b) (a + 1) n = true := by
    show (true && (decide (a + 1 ≤ b) && decide (b ≤ n))) = true
    rw [decide_eq_true (by omega : a + 1 ≤ b), decide_eq_true h3]
    rfl
  have e3 : ascNums (.tuple (intsD S)) = true := by
    show ((true && (intsD S).all isInt) && decide (((intsD S).map intOf).Pairwise (· < ·))) = true
    rw [ints_all, ints_intOf, decide_eq_true h.asc]
    rfl
  rw [e1, e2, e3, ints_intOf]
  refine List.all_eq_true.mpr fun p hp => ?_
  have := h.mem p hp
  rw [decide_eq_true this.1, decide_eq_true this.2]
  rfl
theorem isArcD_not {n : Int} {d : PyData} (h : ¬ ∃ x y z, d = .tuple [x, y, z]) : isArcD n d = false := by
  unfold isArcD
  split
  · rename_i x y z
    exact absurd ⟨x, y, z, rfl⟩ h
  · rfl
def C_is_arc : Con := fun _ es P => ∃ n d, es = [.dat (.int n), .dat d] ∧ (thirdOf d).length < 64 ∧ SeqAt.shaped d = true ∧ P (.dat (.bool (isArcD n d)))
theorem ok_is_arc (T : Tx K mg) : FnOk P w K mg base CX0 4 T.f_is_arc T.d_is_arc ["n", "thing"] (SpC K C_is_arc) := by
  refine kfn T.F_is_arc sc_is_arc (fun W es P ⟨_, _, h, _⟩ => by rw [h]; rfl) fun cdv A outer s H E hr => ⟨_, (pss_cons (ps_if (PW.pt (pw_or (pt_not (pt_val (pe_callB (cr_isiK (K := K) rfl) (by rfl) T.m_isinstance (by decide +kernel) (pa_cons (pv 1) (pa_cons (pe_bltn (v := .ty "tuple") (by rfl) T.m_tuple (by decide +kernel) rfl) pa_nil))))) (pw_or1 (pt_cmpR (op_neK (K := K) rfl hr.units) (pe_callB (cr_lenK (K := K) rfl) (by rfl) T.m_len (by decide +kernel) (pa_cons (pv 1) pa_nil)) pe_int (nomark _))))) (pss_one (ps_ret pe_bl)) pss_nil)
      (pss_cons (ps_asg (pv 1) (pg_tupK (K := K) rfl (pg_tup rfl (pgs_cons (pg_name (i := 2) sc_is_arc.nd rfl (by first | exact Or.inl rfl | exact Or.inr rfl)) (pgs_cons (pg_name (i := 3) sc_is_arc.nd rfl (by first | exact Or.inl rfl | exact Or.inr rfl)) (pgs_cons (pg_name (i := 4) sc_is_arc.nd rfl (by first | exact Or.inl rfl | exact Or.inr rfl)) pgs_nil))))))
      (pss_cons (ps_if (PW.pt (pw_or (pt_not (pt_val (pe_call (ok_is_number_from T) (hr.mono (by decide)) (by rfl) T.g_is_number_from T.F_is_number_from.kp T.b_is_number_from .nil pass0 (pa_cons (pv 2) (pa_cons pe_int (pa_cons (pv 0) pa_nil)))))) (pw_or1 (pt_not (pt_val (pe_call (ok_is_number_from T) (hr.mono (by decide)) (by rfl) T.g_is_number_from T.F_is_number_from.kp T.b_is_number_from .nil pass0 (pa_cons (pv 3) (pa_cons (pe_op (op_addK (K := K) rfl) (pv 2) pe_int) (pa_cons (pv 0) pa_nil))))))))) (pss_one (ps_ret pe_bl)) pss_nil)
      (pss_one (ps_ret (pe_and (pe_call (ok_are_ascending_numbers T) hr (by rfl) T.g_are_ascending_numbers T.F_are_ascending_numbers.kp T.b_are_ascending_numbers .nil pass0 (pa_cons (pv 4) pa_nil)) (pe_one (pe_callB (cr_allK (K := K) rfl rfl) (by rfl) T.m_all (by decide +kernel) (pa_cons (pe_lc (own := [("p", 5)]) rfl sc_is_arc.nd (pi_seqK (K := K) rfl (pv 4)) (blkOk_by (N := N_is_arc) (sc := defScope s_is_arc) (by decide +kernel)) (fun _ _ _ _ _ => (pg_name (i := 5) sc_is_arc.nd rfl (by first | exact Or.inl rfl | exact Or.inr rfl))) (fun _ _ _ _ _ => pts_nil) (fun _ _ _ _ _ => (pe_chain op_lt op_lt (pv 2) (pv 5) (pv 3)))) pa_nil))))))))), fun W es P hC => ?_⟩
  obtain ⟨n, d, rfl, hz, hsh, q⟩ := hC
  try dsimp only [cx_K, cx_w]
  refine ds_seq ?_
  walk_at "ka"
  refine cal_isi (kit_tuple d) ⟨_, rfl, fun e => ?_, fun e => ?_⟩
  · obtain ⟨ds, rfl⟩ : ∃ ds, d = .tuple ds := ⟨_, isTup_eq (by cases h : isTup d with | true => rfl | false => rw [h] at e; cases e)⟩
    walk_at "ka"
    refine opd_ne (by rfl) (by rfl) ⟨_, rfl, fun e2 => ?_, fun e2 => ?_⟩
    · walk_at "ka"
      have hn : ¬ ∃ x y z, (PyData.tuple ds) = .tuple [x, y, z] := fun ⟨x, y, z, h⟩ => by
        cases h
        simp [PyData.eqv] at e2
      rw [isArcD_not hn] at q
      exact ⟨Wd.Le.refl W, q⟩
    · have h3 : ds.length = 3 := by
        have z : (!decide ((ds.length : Int) = 3)) = false := e2
        simp only [Bool.not_eq_false', decide_eq_true_eq] at z
        omega
      obtain ⟨x, y, z, rfl⟩ : ∃ x y z, ds = [x, y, z] := by
        match ds, h3 with
        | [x, y, z], _ => exact ⟨x, y, z, rfl⟩
      walk_at "ka"
      refine ⟨_, _, tg_tup3, ?_⟩
      refine ds_seq ?_
      walk_at "ka"
      refine ⟨x, 1, n, rfl, _, rfl, fun e3 => ?_, fun e3 => ⟨fun _ => ?_, nofun⟩⟩
      · -- a is a number from 1 to n
        have e3 : numIn x 1 n = true := by simpa using e3
        obtain ⟨a, rfl⟩ : ∃ a, x = .int a := ⟨_, isInt_eq (by unfold numIn at e3; rw [Bool.and_eq_true] at e3; exact e3.1)⟩
        walk_at "ka"
        refine ⟨y, a + 1, n, rfl, _, rfl, fun e4 => ?_, fun e4 => ?_⟩
        · walk_at "ka"
          have q' : P (.dat (.bool ((numIn (.int a) 1 n && numIn y (a + 1) n) && (ascNums z && ((itemsOf z).map intOf).all fun p => decide (a < p) && decide (p < intOf y))))) := q
          have e4 : numIn y (a + 1) n = false := by simpa using e4
          rw [e4, Bool.and_false, Bool.false_and] at q'
          exact ⟨Wd.Le.refl W, q'⟩
        · have e4 : numIn y (a + 1) n = true := by simpa using e4
          obtain ⟨b, rfl⟩ : ∃ b, y = .int b := ⟨_, isInt_eq (by unfold numIn at e4; rw [Bool.and_eq_true] at e4; exact e4.1)⟩
          have q' : P (.dat (.bool ((numIn (.int a) 1 n && numIn (.int b) (a + 1) n) && (ascNums z && ((itemsOf z).map intOf).all fun p => decide (a < p) && decide (p < b))))) := q
          rw [e3, e4, Bool.true_and] at q'
          walk_at "ka"
          refine ⟨z, rfl, hz, _, rfl, fun e5 => ?_, fun e5 => ⟨Wd.Le.refl W, ?_⟩⟩
          · obtain ⟨ns, rfl⟩ : ∃ ns, z = .tuple (intsD ns) := by
              unfold ascNums areInts at e5
              rw [Bool.and_eq_true, Bool.and_eq_true] at e5
              exact ⟨(itemsOf z).map intOf, by rw [← all_ints e5.1.2]; exact isTup_eq e5.1.1⟩
            have hl : ns.length < 64 := by
              have e : (itemsOf (.tuple (intsD ns))).length = ns.length := List.length_map ..
              have hz : (itemsOf (.tuple (intsD ns))).length < 64 := hz
              omega
            walk_at "ka"
            refine de_lcM ns (fun p => DV.dat (.int p)) (fun _ => true) (fun p => .bool (decide (a < p) && decide (p < b))) (di_seqT ?_) (by omega) ?_ ?_
            · walk_at "ka"
              show (intsD ns).map DV.dat = _
              unfold intsD
              rw [List.map_map]
              rfl
            · intro p hp W' hW
              refine ⟨_, _, tg_name, by simp, ?_⟩
              walk_at "ka"
              refine ⟨rfl, fun _ => ?_⟩
              walk_at "ka"
              refine ⟨fun e6 => ?_, fun e6 => by rw [e6]; rfl⟩
              walk_at "ka"
              rw [e6]
              rfl
            · walk_at "ka"
              rw [List.filter_eq_self.mpr (fun _ _ => rfl)]
              have e2 : ns.map (fun p => PyData.bool (decide (a < p) && decide (p < b))) = (ns.map fun p => decide (a < p) && decide (p < b)).map PyData.bool := by rw [List.map_map]; rfl
              rw [e2]
              refine cal_all ⟨Wd.Le.refl W, ?_⟩
              rw [List.all_map]
              have e7 : (itemsOf (.tuple (intsD ns))).map intOf = ns := ints_intOf ns
              rw [e7, e5, Bool.true_and] at q'
              exact q'
          · rw [e5] at q'
            exact q'
      · walk_at "ka"
        have e3 : numIn x 1 n = false := by simpa using e3
        have q' : P (.dat (.bool ((numIn x 1 n && numIn y (intOf x + 1) n) && (ascNums z && ((itemsOf z).map intOf).all fun p => decide (intOf x < p) && decide (p < intOf y))))) := q
        rw [e3, Bool.false_and, Bool.false_and] at q'
        exact ⟨Wd.Le.refl W, q'⟩
  · have hn : ¬ ∃ x y z, d = .tuple [x, y, z] := fun ⟨x, y, z, h⟩ => by
      subst h
      cases e
    rw [isArcD_not hn] at q
    refine ⟨fun _ => ?_, nofun⟩
    walk_at "ka"
    exact ⟨Wd.Le.refl W, q⟩

theorem depth_tupI (ns : List Int) : (PyData.tuple (intsD ns)).depth = 1 := by
  simp [PyData.depth, depth_intsD]
theorem shaped_arc {a b : Int} {S : List Int} : SeqAt.shaped (arcD a b S) = true := by
  simp [SeqAt.shaped, arcD, PyData.canLay0, PyData.canLayAll0, canLay_ints, PyData.depth, PyData.depthAll, depth_intsD]
theorem third_arc {a b : Int} {S : List Int} : (thirdOf (arcD a b S)).length = S.length := List.length_map ..
def C_check_arc : Con := fun _ es P => ∃ n d, es = [.dat (.int n), .dat d] ∧ (thirdOf d).length < 64 ∧ SeqAt.shaped d = true ∧ isArcD n d = true ∧ P (.dat .none)
theorem ok_check_arc (T : Tx K mg) : FnOk P w K mg base CX0 5 T.f_check_arc T.d_check_arc ["n", "arc"] (SpC K C_check_arc) := by
  refine kfn T.F_check_arc sc_check_arc (fun W es P ⟨_, _, h, _⟩ => by rw [h]; rfl) fun cdv A outer s H E hr => ⟨_, (pss_one (ps_if (pt_not (pt_val (pe_call (ok_is_arc T) hr (by rfl) T.g_is_arc T.F_is_arc.kp T.b_is_arc .nil pass0 (pa_cons (pv 0) (pa_cons (pv 1) pa_nil))))) (pss_one ps_never) pss_nil)), fun W es P hC => ?_⟩
  obtain ⟨n, d, rfl, hz, hsh, ha, q⟩ := hC
  try dsimp only [cx_K, cx_w]
  walk_at "ka"
  refine ⟨n, d, rfl, hz, hsh, _, rfl, fun e => ?_, fun _ => ds_next ⟨Wd.Le.refl W, q⟩⟩
  rw [ha] at e
  cases e

def C_narrowed : Con := fun _ es P => ∃ a b S c d, es = [.dat (arcD a b S), .dat (.int c), .dat (.int d)] ∧ S.length ≤ 1000 ∧ P (.dat (arcD c d (betw c d S)))
theorem intsD_dat (ns : List Int) : (intsD ns).map DV.dat = ns.map fun p => DV.dat (.int p) := by
  unfold intsD
  rw [List.map_map]
  rfl
theorem ok_narrowed (T : Tx K mg) : FnOk P w K mg base CX0 1 T.f_narrowed T.d_narrowed ["arc", "c", "d"] (SpC K C_narrowed) := by
  refine kfn T.F_narrowed sc_narrowed (fun W es P ⟨_, _, _, _, _, h, _⟩ => by rw [h]; rfl) fun cdv A outer s H E hr => ⟨_, (pss_one (ps_ret (pe_tup (pa_cons (pv 1) (pa_cons (pv 2) (pa_cons (pe_callTy (cr_tupK (K := K) rfl) (by rfl) T.m_tuple (by decide +kernel) (pa_cons (pe_lc (own := [("p", 3)]) rfl sc_narrowed.nd (pi_seqK (K := K) rfl (pe_ix (ix_K (K := K) rfl) (pv 0) pe_int (fun _ _ => rfl))) (blkOk_by (N := N_narrowed) (sc := defScope s_narrowed) (by decide +kernel)) (fun _ _ _ _ _ => (pg_name (i := 3) sc_narrowed.nd rfl (by first | exact Or.inl rfl | exact Or.inr rfl))) (fun _ _ _ _ _ => (pts_one (pt_chain op_lt op_lt (pv 1) (pv 3) (pv 2)))) (fun _ _ _ _ _ => (pv 3))) pa_nil)) pa_nil)))))), fun W es P hC => ?_⟩
  obtain ⟨a, b, S, c, d, rfl, hz, q⟩ := hC
  try dsimp only [cx_K, cx_w]
  walk_at "ka"
  refine de_lcM S (fun p => DV.dat (.int p)) (fun p => decide (c < p) && decide (p < d)) (fun p => .int p) (di_seqT ?_) (by omega) ?_ ?_
  · unfold arcD
    walk_at "ka"
    refine opd_ixT (atI_nat (j := 2) rfl) ⟨_, rfl, intsD_dat S⟩
  · intro p hp W' hW
    refine ⟨_, _, tg_name, by simp, ?_⟩
    walk_at "ka"
    refine ⟨fun e => ?_, fun e => ⟨_, rfl, ?_⟩⟩
    · walk_at "ka"
      refine ⟨by rw [e, Bool.true_and], fun e2 => ?_⟩
      walk_at "ka"
      rfl
    · rw [e, Bool.false_and]
      exact ⟨rfl, nofun⟩
  · walk_at "ka"
    exact ⟨Wd.Le.refl W, q⟩

/-- the arcs within, in the order in which they are found -/
def withinL (a b : Int) (S : List Int) : List PyData := (rgN a (b - a).toNat).flatMap fun c => (rgN (c + 1) (b + 1 - (c + 1)).toNat).map fun d => arcD c d (betw c d S)
def withinD (a b : Int) (S : List Int) : List PyData := (withinL a b S).mergeSort (PySem.W.dataLe false id)
theorem rgN_mem {lo x : Int} {n : Nat} : x ∈ rgN lo n ↔ lo ≤ x ∧ x < lo + n := by
  unfold rgN
  rw [List.mem_map]
  constructor
  · rintro ⟨i, hi, rfl⟩
    rw [List.mem_range] at hi
    omega
  · rintro ⟨h1, h2⟩
    exact ⟨(x - lo).toNat, List.mem_range.mpr (by omega), by omega⟩
theorem withinL_mem {a b : Int} {S : List Int} {x : PyData} (h : x ∈ withinL a b S) : ∃ c d, a ≤ c ∧ c < d ∧ d ≤ b ∧ x = arcD c d (betw c d S) := by
  unfold withinL at h
  obtain ⟨c, hc, h⟩ := List.mem_flatMap.mp h
  obtain ⟨d, hd, rfl⟩ := List.mem_map.mp h
  rw [rgN_mem] at hc hd
  exact ⟨c, d, by omega, by omega, by omega, rfl⟩
theorem withinL_of {a b c d : Int} {S : List Int} (h1 : a ≤ c) (h2 : c < d) (h3 : d ≤ b) : arcD c d (betw c d S) ∈ withinL a b S := by
  unfold withinL
  refine List.mem_flatMap.mpr ⟨c, rgN_mem.mpr ⟨h1, by omega⟩, List.mem_map.mpr ⟨d, rgN_mem.mpr ⟨by omega, by omega⟩, rfl⟩⟩
theorem alike_intsD : ∀ (xs ys : List Int), PySem.W.alikeAll (intsD xs) (intsD ys) = true
  | [], _ => by simp [intsD, PySem.W.alikeAll]
  | _ :: _, [] => by simp [intsD, PySem.W.alikeAll]
  | x :: xs, y :: ys => by
    show PySem.W.alikeAll (.int x :: intsD xs) (.int y :: intsD ys) = true
    rw [PySem.W.alikeAll, alike_intsD xs ys]
    simp [PySem.W.alike]
theorem alike_arcs {a b c d : Int} {S R : List Int} : PySem.W.alike (arcD a b S) (arcD c d R) = true := by
  show PySem.W.alike (.tuple [.int a, .int b, .tuple (intsD S)]) (.tuple [.int c, .int d, .tuple (intsD R)]) = true
  simp only [PySem.W.alike, PySem.W.alikeAll, alike_intsD, Bool.and_true]
theorem depth_arc {a b : Int} {S : List Int} : (arcD a b S).depth = 2 := by
  simp [arcD, PyData.depth, PyData.depthAll, depth_intsD]
theorem within_alike (a b : Int) (S : List Int) : PySem.W.AllAlike (withinL a b S) := fun x hx y hy => by
  obtain ⟨_, _, _, _, _, rfl⟩ := withinL_mem hx
  obtain ⟨_, _, _, _, _, rfl⟩ := withinL_mem hy
  exact alike_arcs
theorem within_sortable (a b : Int) (S : List Int) : PySem.W.Sortable (withinL a b S) := .inl fun x hx => by
  obtain ⟨c, d, _, _, _, rfl⟩ := withinL_mem hx
  exact ⟨_, _, rfl⟩
theorem within_depth {a b : Int} {S : List Int} : ∀ x ∈ withinL a b S, x.depth ≤ 60 := fun x hx => by
  obtain ⟨c, d, _, _, _, rfl⟩ := withinL_mem hx
  rw [depth_arc]
  decide
def C_arcs_within : Con := fun _ es P => ∃ n a b S, es = [.dat (.int n), .dat (arcD a b S)] ∧ n ≤ 40 ∧ ArcOk n a b S ∧ P (.dat (.tuple (withinD a b S)))
theorem ok_arcs_within (T : Tx K mg) : FnOk P w K mg base CX0 6 T.f_arcs_within T.d_arcs_within ["n", "arc"] (SpC K C_arcs_within) := by
  refine kfn T.F_arcs_within sc_arcs_within (fun W es P ⟨_, _, _, _, h, _⟩ => by rw [h]; rfl) fun cdv A outer s H E hr => ⟨_, (pss_cons (ps_expr (pe_call (ok_check_arc T) hr (by rfl) T.g_check_arc T.F_check_arc.kp T.b_check_arc .nil pass0 (pa_cons (pv 0) (pa_cons (pv 1) pa_nil))))
      (pss_cons (ps_asg (pv 1) (pg_tupK (K := K) rfl (pg_tup rfl (pgs_cons (pg_name (i := 2) sc_arcs_within.nd rfl (by first | exact Or.inl rfl | exact Or.inr rfl)) (pgs_cons (pg_name (i := 3) sc_arcs_within.nd rfl (by first | exact Or.inl rfl | exact Or.inr rfl)) (pgs_cons (pg_name (i := 4) sc_arcs_within.nd rfl (by first | exact Or.inl rfl | exact Or.inr rfl)) pgs_nil))))))
      (pss_cons (ps_setLc2 (i := 5) (own := [("c", 6), ("d", 7)]) (vs1 := [7]) rfl sc_arcs_within.nd rfl rfl (sw_true rfl rfl rfl (by decide +kernel)) (pi_range2 rfl T.m_range (pa_cons (pv 2) (pa_cons (pv 3) pa_nil))) (blkOk_by (N := N_arcs_within) (sc := defScope s_arcs_within) (by decide +kernel)) (by decide) (fun _ _ _ _ _ => (pg_name (i := 6) sc_arcs_within.nd rfl (by first | exact Or.inl rfl | exact Or.inr rfl))) (fun _ _ _ _ _ => pts_nil) (fun _ _ _ _ _ => (pi_range2 rfl T.m_range (pa_cons (pe_op (op_addK (K := K) rfl) (pv 6) pe_int) (pa_cons (pe_op (op_addK (K := K) rfl) (pv 3) pe_int) pa_nil)))) (fun _ _ _ _ _ => (pg_name (i := 7) sc_arcs_within.nd rfl (by first | exact Or.inl rfl | exact Or.inr rfl))) (fun _ _ _ _ _ => pts_nil) (fun _ _ _ _ _ => (pe_call (ok_narrowed T) (hr.mono (by decide)) (by rfl) T.g_narrowed T.F_narrowed.kp T.b_narrowed .nil pass0 (pa_cons (pv 1) (pa_cons (pv 6) (pa_cons (pv 7) pa_nil))))))
      (pss_one (ps_ret (pe_callTy (cr_tupK (K := K) rfl) (by rfl) T.m_tuple (by decide +kernel) (pa_cons (pe_callB (cr_sortedK (K := K) (w := w) rfl rfl rfl hr.units) (by rfl) T.m_sorted (by decide +kernel) (pa_cons (pv 5) pa_nil)) pa_nil))))))), fun W es P hC => ?_⟩
  obtain ⟨n, a, b, S, rfl, hn, ha, q⟩ := hC
  have h1 := ha.lo
  have h2 := ha.lt
  have h3 := ha.hi
  have hS := ha.len
  try dsimp only [cx_K, cx_w]
  walk_at "ka"
  refine ⟨n, _, rfl, by rw [third_arc]; omega, shaped_arc, isArcD_of ha, ?_⟩
  walk_at "ka"
  refine ⟨_, _, tg_tup3, ?_⟩
  walk_at "ka"
  refine de_lc2M (rgN a (b - a).toNat) (fun c => DV.dat (.int c)) (fun _ => true) (fun c => rgN (c + 1) (b + 1 - (c + 1)).toNat) (fun _ d => DV.dat (.int d)) (fun _ _ => true) (fun c d => arcD c d (betw c d S)) 40 ?_ ?_ ?_ ?_ ?_
  · walk_at "ka"
    exact ⟨a, b, rfl, by omega, by omega, rfl⟩
  · rw [rgN_length]
    omega
  · intro c hc
    rw [rgN_mem] at hc
    rw [rgN_length]
    omega
  · intro c hc W' hW
    rw [rgN_mem] at hc
    refine ⟨_, _, tg_name, by simp, ?_⟩
    walk_at "ka"
    refine ⟨rfl, fun _ => ⟨?_, fun d hd W'' hW2 => ?_⟩⟩
    · walk_at "ka"
      exact ⟨c + 1, b + 1, rfl, by omega, by omega, rfl⟩
    · refine ⟨_, _, tg_name, by simp, ?_⟩
      walk_at "ka"
      refine ⟨rfl, fun _ => ?_⟩
      walk_at "ka"
      exact ⟨a, b, S, c, d, rfl, by omega, rfl⟩
  · walk_at "ka"
    rw [List.filter_eq_self.mpr (fun _ _ => rfl)]
    have e : (rgN a (b - a).toNat).flatMap (fun c => ((rgN (c + 1) (b + 1 - (c + 1)).toNat).filter fun _ => true).map fun d => arcD c d (betw c d S)) = withinL a b S := by
      unfold withinL
      congr 1
      funext c
      rw [List.filter_eq_self.mpr (fun _ _ => rfl)]
    rw [e]
    refine cal_sortedXL (within_alike a b S) (within_sortable a b S) within_depth ?_
    walk_at "ka"
    exact ⟨Wd.Le.refl W, q⟩

/-- whether the first arc lies within the second one -/
def liesB (c d : Int) (R : List Int) (a b : Int) (S : List Int) : Bool := decide (a ≤ c) && (decide (d ≤ b) && decide (betw c d S = R))
def C_lies_within : Con := fun _ es P => ∃ n c d R a b S, es = [.dat (.int n), .dat (arcD c d R), .dat (arcD a b S)] ∧ n ≤ 40 ∧ ArcOk n c d R ∧ ArcOk n a b S ∧ P (.dat (.bool (liesB c d R a b S)))
theorem ok_lies_within (T : Tx K mg) : FnOk P w K mg base CX0 6 T.f_lies_within T.d_lies_within ["n", "one", "other"] (SpC K C_lies_within) := by
  refine kfn T.F_lies_within sc_lies_within (fun W es P ⟨_, _, _, _, _, _, _, h, _⟩ => by rw [h]; rfl) fun cdv A outer s H E hr => ⟨_, (pss_cons (ps_expr (pe_call (ok_check_arc T) hr (by rfl) T.g_check_arc T.F_check_arc.kp T.b_check_arc .nil pass0 (pa_cons (pv 0) (pa_cons (pv 1) pa_nil))))
      (pss_cons (ps_expr (pe_call (ok_check_arc T) hr (by rfl) T.g_check_arc T.F_check_arc.kp T.b_check_arc .nil pass0 (pa_cons (pv 0) (pa_cons (pv 2) pa_nil))))
      (pss_cons (ps_asg (pv 1) (pg_tupK (K := K) rfl (pg_tup rfl (pgs_cons (pg_name (i := 3) sc_lies_within.nd rfl (by first | exact Or.inl rfl | exact Or.inr rfl)) (pgs_cons (pg_name (i := 4) sc_lies_within.nd rfl (by first | exact Or.inl rfl | exact Or.inr rfl)) (pgs_cons (pg_name (i := 5) sc_lies_within.nd rfl (by first | exact Or.inl rfl | exact Or.inr rfl)) pgs_nil))))))
      (pss_one (ps_ret (pe_and (pe_cmpR op_le (pe_ix (ix_K (K := K) rfl) (pv 2) pe_int (fun _ _ => rfl)) (pv 3) (nomark _)) (pe_and (pe_cmpR op_le (pv 4) (pe_ix (ix_K (K := K) rfl) (pv 2) pe_int (fun _ _ => rfl)) (nomark _)) (pe_one (pe_cmpR (op_eqK (K := K) rfl hr.units) (pe_call (ok_narrowed T) (hr.mono (by decide)) (by rfl) T.g_narrowed T.F_narrowed.kp T.b_narrowed .nil pass0 (pa_cons (pv 2) (pa_cons (pv 3) (pa_cons (pv 4) pa_nil)))) (pv 1) (nomark _)))))))))), fun W es P hC => ?_⟩
  obtain ⟨n, c, d, R, a, b, S, rfl, hn, ha, hb, q⟩ := hC
  have h1 := ha.lo
  have h2 := ha.lt
  have h3 := ha.hi
  have hR := ha.len
  have g1 := hb.lo
  have g2 := hb.lt
  have g3 := hb.hi
  have hS := hb.len
  try dsimp only [cx_K, cx_w]
  walk_at "ka"
  refine ⟨n, _, rfl, by rw [third_arc]; omega, shaped_arc, isArcD_of ha, ?_⟩
  walk_at "ka"
  refine ⟨n, _, rfl, by rw [third_arc]; omega, shaped_arc, isArcD_of hb, ?_⟩
  walk_at "ka"
  refine ⟨_, _, tg_tup3, ?_⟩
  walk_at "ka"
  refine opd_ixT (atI_nat (j := 0) rfl) ?_
  walk_at "ka"
  unfold liesB at q
  refine ⟨fun e => ?_, fun e => ?_⟩
  · walk_at "ka"
    refine opd_ixT (atI_nat (j := 1) rfl) ?_
    walk_at "ka"
    refine ⟨fun e2 => ?_, fun e2 => ?_⟩
    · walk_at "ka"
      refine ⟨a, b, S, c, d, rfl, by omega, ?_⟩
      walk_at "ka"
      refine opd_eq shaped_arc shaped_arc ⟨Wd.Le.refl W, ?_⟩
      rw [eqv_arcs, decide_eq_true rfl, decide_eq_true rfl, Bool.true_and, Bool.true_and]
      rw [e, e2, Bool.true_and, Bool.true_and] at q
      exact q
    · rw [e, e2] at q
      exact ⟨Wd.Le.refl W, q⟩
  · rw [e] at q
    exact ⟨Wd.Le.refl W, q⟩

theorem ok__law_deck (T : Tx K mg) : FnOk P w K mg base CX0 1 T.f__law_deck T.d__law_deck ["script"] (spDeck K) := by
  refine T.F__law_deck.ok sc__law_deck (fun vs H Q E h => ?_) (fun cdv A outer s H vs Q E hr h => ?_)
  · obtain ⟨a, ns, rfl, _⟩ := h
    rfl
  · obtain ⟨a, ns, rfl, hS, hl, q⟩ := h
    refine ⟨_, (pss_cons (ps_set (i := 1) sc__law_deck.nd rfl (by first | exact Or.inl rfl | exact Or.inr rfl) pe_int)
      (pss_cons (ps_for PassesOwn.never rfl (pi_seqK (K := K) rfl (pe_slice (sl_K (K := K) rfl) (pv 0) po_none (po_some pe_int))) (pg_name (i := 2) sc__law_deck.nd rfl (by first | exact Or.inl rfl | exact Or.inr rfl)) (pss_one (ps_set (i := 1) sc__law_deck.nd rfl (by first | exact Or.inl rfl | exact Or.inr rfl) (pe_op op_mod (pe_callTy cr_intX (by rfl) T.m_int (by decide +kernel) (pa_cons (pe_op (op_addK (K := K) rfl) (pe_op (op_addK (K := K) rfl) (pe_op op_mulX (pv 1) pe_int) (pe_op op_mod (pe_callTy cr_intX (by rfl) T.m_int (by decide +kernel) (pa_cons (pv 2) pa_nil)) pe_int)) pe_int) pa_nil)) pe_int))))
      (pss_one (ps_ret (pe_disp (pps_cons pe_str (pe_revK (K := K) rfl (pe_callTy (cr_lstK (K := K) rfl) (by rfl) T.m_list (by decide +kernel) (pa_cons (pe_slice (sl_K (K := K) rfl) (pv 0) po_none (po_some pe_int)) pa_nil))) (pps_cons pe_str (pv 1) (pps_cons pe_str pe_int pps_nil))) (by rfl) (by rfl) (fun z => by cases z) (by decide)))))), ?_⟩
    try dsimp only [cx_K, cx_w]
    refine ⟨.ref a, rfl, 63, rfl, .inl ⟨a, ns.map V.int, rfl, hS, fun p hp => .inl ⟨p, rfl, ⟨_, SqL.of upd_same⟩, for_list (xs := cutV (ns.map V.int) none (some 63)) (fun i σ H' => Ex H H' ∧ H' p = some (.lst (cutV (ns.map V.int) none (some 63))) ∧ ∃ m y, σ = [some (.ref a), some (.int m), y])
      ⟨Ex.new hp, upd_same, _, none, rfl⟩ (fun i σ H' _ h => SqL.of h.2.1) (fun i x σ H' hx h => ?_) (fun σ H' h => ?_)⟩⟩⟩
    · obtain ⟨e, hp', m, y, rfl⟩ := h
      rw [cutV_map, List.getElem?_map] at hx
      obtain ⟨z, hz, rfl⟩ : ∃ z, (cutG ns none (some 63))[i]? = some z ∧ V.int z = x := by
        cases h : (cutG ns none (some 63))[i]? with
        | none =>
          rw [h] at hx
          cases hx
        | some z =>
          rw [h] at hx
          exact ⟨z, rfl, Option.some.inj hx⟩
      have env : EnvOk K (Wd.top.view H') [some (.ref a), some (.int m), some (.int z)] [none, some (.dat (.int m)), some (.dat (.int z))] := by
        refine ⟨rfl, fun j e he => ?_⟩
        match j, he with
        | 1, he =>
          cases he
          exact ⟨_, rfl, .int m⟩
        | 2, he =>
          cases he
          exact ⟨_, rfl, .int z⟩
      have body := fun te (h : DE K Wd.top [none, some (.dat (.int m)), some (.dat (.int z))] te fun e => ∃ n, e = .dat (.int n)) => h _ _ env trivial
      refine asg_by (σ := [some (.ref a), some (.int m), some (.int z)]) ?_
      refine body _ ?_ _ fun v H2 en _ x2 pe re => ?_
      · walk_at "ka"
        refine opd_mulI (.inr (by decide)) ?_
        walk_at "ka"
        refine opd_IC (by decide) ?_
        walk_at "ka"
        refine opd_IC (by decide) ⟨_, rfl⟩
      · obtain ⟨n, rfl⟩ := pe
        cases re
        rw [top_view, top_view] at x2
        exact ⟨e.trans x2, x2 _ _ hp', n, some (.int z), rfl⟩
    · obtain ⟨e, hp', m, y, rfl⟩ := h
      exact ret_deck hl (ex_l e hS) rfl rfl fun d c m k cs H2 ne hd hc e2 g1 g2 g3 => q d c m k cs H2 ne (fresh_back e hd) (fresh_back e hc) (e.trans e2) g1 g2 g3

def C__law_draw : Con := fun W es P => ∃ d c m, es = [.raw (.ref d), .dat (.int m)] ∧ HasDeck W d c ∧ 1 ≤ m ∧ m < 1000000 ∧ ∀ r, 0 ≤ r → r < m → P (.dat (.int r))
theorem mod_lt {z m : Int} (h : 1 ≤ m) : 0 ≤ z % m ∧ z % m < m := ⟨Int.emod_nonneg _ (by omega), Int.emod_lt_of_pos _ (by omega)⟩
theorem ok__law_draw (T : Tx K mg) : FnOk P w K mg base CX0 1 T.f__law_draw T.d__law_draw ["deck", "many"] (SpC K C__law_draw) := by
  refine kfn T.F__law_draw sc__law_draw (fun W es P ⟨_, _, _, h, _⟩ => by rw [h]; rfl) fun cdv A outer s H E hr => ⟨_, (pss_cons (ps_dput (hu_of hr) (pv 0) pe_str (pe_op (op_addK (K := K) rfl) (pe_dget (hu_of hr) (pv 0) pe_str (fun _ _ => rfl)) pe_int) rfl)
      (pss_cons (ps_set (i := 2) sc__law_draw.nd rfl (by first | exact Or.inl rfl | exact Or.inr rfl) (pe_op (op_addK (K := K) rfl) (pe_dget (hu_of hr) (pv 0) pe_str (fun _ _ => rfl)) (pe_op op_mulX pe_int (pe_dget (hu_of hr) (pv 0) pe_str (fun _ _ => rfl)))))
      (pss_cons (ps_if (pt_cmpR (op_neK (K := K) rfl hr.units) (pe_dget (hu_of hr) (pv 0) pe_str (fun _ _ => rfl)) (pe_lst pa_nil) (nomark _)) (pss_cons (ps_set (i := 3) sc__law_draw.nd rfl (by first | exact Or.inl rfl | exact Or.inr rfl) (pe_bm0 PySem.F.plainAttrs_list PySem.F.slot_list_pop PySem.F.type_list_pop mt_pop (pe_dget (hu_of hr) (pv 0) pe_str (fun _ _ => rfl))))
      (pss_cons (ps_if (pt_cmpR op_ge (pv 3) (pe_op op_pow pe_int pe_int) (nomark _)) (pss_cons (ps_expr (pe_bm PySem.F.plainAttrs_list PySem.F.slot_list_append PySem.F.type_list_append mt_append (pe_dget (hu_of hr) (pv 0) pe_str (fun _ _ => rfl)) (pa_cons (pe_op op_fdivN (pv 3) (pe_callB (cr_max2 rfl) (by rfl) T.m_max (by decide +kernel) (pa_cons pe_int (pa_cons (pv 1) pa_nil)))) pa_nil)))
      (pss_one (ps_ret (pe_op op_mod (pe_callTy cr_intX (by rfl) T.m_int (by decide +kernel) (pa_cons (pv 3) pa_nil)) (pv 1))))) pss_nil)
      (pss_one (ps_set (i := 2) sc__law_draw.nd rfl (by first | exact Or.inl rfl | exact Or.inr rfl) (pe_op (op_addK (K := K) rfl) (pv 2) (pe_op op_mod (pe_callTy cr_intX (by rfl) T.m_int (by decide +kernel) (pa_cons (pv 3) pa_nil)) pe_int)))))) pss_nil)
      (pss_cons (ps_set (i := 2) sc__law_draw.nd rfl (by first | exact Or.inl rfl | exact Or.inr rfl) (pe_op op_mod (pe_callTy cr_intX (by rfl) T.m_int (by decide +kernel) (pa_cons (pe_op (op_addK (K := K) rfl) (pe_op op_mulX (pv 2) pe_int) pe_int) pa_nil)) pe_int))
      (pss_cons (ps_set (i := 2) sc__law_draw.nd rfl (by first | exact Or.inl rfl | exact Or.inr rfl) (pe_op op_mod (pe_callTy cr_intX (by rfl) T.m_int (by decide +kernel) (pa_cons (pe_op (op_addK (K := K) rfl) (pe_op (op_addK (K := K) rfl) (pe_op op_mulX (pv 2) (pv 2)) (pe_op op_mulX pe_int (pe_dget (hu_of hr) (pv 0) pe_str (fun _ _ => rfl)))) pe_int) pa_nil)) pe_int))
      (pss_cons (ps_set (i := 2) sc__law_draw.nd rfl (by first | exact Or.inl rfl | exact Or.inr rfl) (pe_op op_mod (pe_callTy cr_intX (by rfl) T.m_int (by decide +kernel) (pa_cons (pe_op op_mulX (pv 2) pe_int) pa_nil)) pe_int))
      (pss_one (ps_ret (pe_op op_mod (pe_callTy cr_intX (by rfl) T.m_int (by decide +kernel) (pa_cons (pe_op op_fdivN (pv 2) pe_int) pa_nil)) (pv 1)))))))))), fun W es P hC => ?_⟩
  obtain ⟨d, c, m, rfl, hk, h1, h2, q⟩ := hC
  try dsimp only [cx_K, cx_w]
  refine ds_exact hk fun ns mm kk hl => ?_
  refine ds_seq (ds_draws hk rfl hl ?_)
  walk_at "ka"
  refine de_draws hk rfl ?_
  walk_at "ka"
  refine de_mixed hk rfl ?_
  walk_at "ka"
  refine de_draws hk rfl ?_
  refine opd_mulI (.inl ⟨by decide, by decide⟩) ?_
  walk_at "ka"
  refine ds_cut (fun W' Δ' => ∃ ns' x y, ns'.length ≤ 64 ∧ W' = W.exact hk ns' mm (kk + 1) ∧ Δ' = [some (.raw (.ref d)), some (.dat (.int m)), some (.dat (.int x)), y]) ?_ ?_
  · walk_at "ka"
    refine de_cells hk rfl ?_
    walk_at "ka"
    refine opd_cells hk ?_
    refine ⟨_, rfl, fun e => ?_, fun e => ds_next ⟨ns, _, none, hl, rfl, rfl⟩⟩
    obtain ⟨ns', z, rfl⟩ : ∃ ns' z, ns = ns' ++ [z] := by
      rcases List.eq_nil_or_concat ns with h | ⟨a, b, h⟩
      · rw [h] at e
        simp at e
      · exact ⟨a, b, by rw [h, List.concat_eq_append]⟩
    have hl' : ns'.length < 64 := by
      rw [List.length_append] at hl
      have : [z].length = 1 := rfl
      omega
    refine ds_seq (ds_pop hk rfl hl ?_)
    refine ds_seq ?_
    walk_at "ka"
    refine opd_IC ⟨by decide, by decide, by decide⟩ ?_
    walk_at "ka"
    refine ⟨fun e2 => ?_, fun e2 => ?_⟩
    · refine ds_seq (ds_push hk rfl hl' ?_)
      walk_at "ka"
      refine opd_IC ⟨?_, ?_⟩ ⟨_, rfl, ?_⟩
      · omega
      · omega
      · walk_at "ka"
        refine opd_IC (by omega) ?_
        exact ⟨Le.exact hk, q _ (mod_lt h1).1 (mod_lt h1).2⟩
    · refine ds_next ?_
      walk_at "ka"
      refine opd_IC (by decide) ?_
      walk_at "ka"
      exact ⟨ns', _, _, by omega, rfl, rfl⟩
  · rintro W' Δ' ⟨ns', x, y, hl', rfl, rfl⟩
    walk_at "ka"
    refine opd_mulI (.inr (by decide)) ?_
    walk_at "ka"
    refine opd_IC (by decide) ?_
    walk_at "ka"
    have b1 := mod_lt (z := x * 39373 + 83) (m := 2147483647) (by decide)
    refine opd_mulI (.inl ⟨by omega, by omega⟩) ?_
    walk_at "ka"
    refine de_draws hk rfl ?_
    refine opd_mulI (.inl ⟨by decide, by decide⟩) ?_
    walk_at "ka"
    refine opd_IC (by decide) ?_
    walk_at "ka"
    refine opd_mulI (.inr (by decide)) ?_
    walk_at "ka"
    refine opd_IC (by decide) ?_
    walk_at "ka"
    refine opd_IC ⟨by decide, by decide⟩ ?_
    walk_at "ka"
    refine opd_IC (by omega) ?_
    exact ⟨Le.exact hk, q _ (mod_lt h1).1 (mod_lt h1).2⟩

def C__law_pick : Con := fun W es P => ∃ d c s ds, es = [.raw (.ref d), .dat s] ∧ (s = .list ds ∨ s = .tuple ds) ∧ HasDeck W d c ∧ 1 ≤ ds.length ∧ ds.length < 100000 ∧ ∀ x ∈ ds, P (.dat x)
theorem ok__law_pick (T : Tx K mg) : FnOk P w K mg base CX0 2 T.f__law_pick T.d__law_pick ["deck", "some"] (SpC K C__law_pick) := by
  refine kfn T.F__law_pick sc__law_pick (fun W es P ⟨_, _, _, _, h, _⟩ => by rw [h]; rfl) fun cdv A outer s H E hr => ⟨_, (pss_one (ps_ret (pe_ix (ix_K (K := K) rfl) (pv 1) (pe_call (ok__law_draw T) hr (by rfl) T.g__law_draw T.F__law_draw.kp T.b__law_draw .nil pass0 (pa_cons (pv 0) (pa_cons (pe_callB (cr_lenK (K := K) rfl) (by rfl) T.m_len (by decide +kernel) (pa_cons (pv 1) pa_nil)) pa_nil))) (fun _ _ => rfl)))), fun W es P hC => ?_⟩
  obtain ⟨d, c, x, ds, rfl, hx, hk, h1, h2, q⟩ := hC
  try dsimp only [cx_K, cx_w]
  have at_ : ∀ r : Int, 0 ≤ r → r < (ds.length : Int) → ∃ y, atI ds r = some y ∧ y ∈ ds := fun r r1 r2 => by
    have hl : r.toNat < ds.length := by omega
    refine ⟨ds[r.toNat], ?_, List.getElem_mem hl⟩
    have := atI_nat (List.getElem?_eq_getElem hl)
    rw [Int.toNat_of_nonneg r1] at this
    exact this
  rcases hx with rfl | rfl
  · walk_at "ka"
    refine ⟨d, c, _, rfl, hk, by omega, by omega, fun r r1 r2 => ?_⟩
    obtain ⟨y, e, m⟩ := at_ r r1 r2
    exact opd_ixL e ⟨Wd.Le.refl W, q y m⟩
  · walk_at "ka"
    refine ⟨d, c, _, rfl, hk, by omega, by omega, fun r r1 r2 => ?_⟩
    obtain ⟨y, e, m⟩ := at_ r r1 r2
    exact opd_ixT e ⟨Wd.Le.refl W, q y m⟩

def C__law_arc : Con := fun W es P => ∃ d c n, es = [.raw (.ref d), .dat (.int n)] ∧ HasDeck W d c ∧ 2 ≤ n ∧ n ≤ 40 ∧ ∀ a b S, ArcOk n a b S → P (.dat (arcD a b S))
theorem ok__law_arc (T : Tx K mg) : FnOk P w K mg base CX0 3 T.f__law_arc T.d__law_arc ["deck", "n"] (SpC K C__law_arc) := by
  refine kfn T.F__law_arc sc__law_arc (fun W es P ⟨_, _, _, h, _⟩ => by rw [h]; rfl) fun cdv A outer s H E hr => ⟨_, (pss_cons (ps_set (i := 2) sc__law_arc.nd rfl (by first | exact Or.inl rfl | exact Or.inr rfl) (pe_op (op_addK (K := K) rfl) pe_int (pe_call (ok__law_draw T) (hr.mono (by decide)) (by rfl) T.g__law_draw T.F__law_draw.kp T.b__law_draw .nil pass0 (pa_cons (pv 0) (pa_cons (pe_op op_sub (pv 1) pe_int) pa_nil)))))
      (pss_cons (ps_set (i := 3) sc__law_arc.nd rfl (by first | exact Or.inl rfl | exact Or.inr rfl) (pe_call (ok__law_pick T) hr (by rfl) T.g__law_pick T.F__law_pick.kp T.b__law_pick .nil pass0 (pa_cons (pv 0) (pa_cons (pe_lst (pa_cons (pv 1) (pa_cons (pe_op (op_addK (K := K) rfl) (pe_op (op_addK (K := K) rfl) (pv 2) pe_int) (pe_call (ok__law_draw T) (hr.mono (by decide)) (by rfl) T.g__law_draw T.F__law_draw.kp T.b__law_draw .nil pass0 (pa_cons (pv 0) (pa_cons (pe_op op_sub (pv 1) (pv 2)) pa_nil)))) (pa_cons (pe_op (op_addK (K := K) rfl) (pe_op (op_addK (K := K) rfl) (pv 2) pe_int) (pe_call (ok__law_draw T) (hr.mono (by decide)) (by rfl) T.g__law_draw T.F__law_draw.kp T.b__law_draw .nil pass0 (pa_cons (pv 0) (pa_cons (pe_op op_sub (pv 1) (pv 2)) pa_nil)))) pa_nil)))) pa_nil))))
      (pss_cons (ps_set (i := 4) sc__law_arc.nd rfl (by first | exact Or.inl rfl | exact Or.inr rfl) (pe_call (ok__law_draw T) (hr.mono (by decide)) (by rfl) T.g__law_draw T.F__law_draw.kp T.b__law_draw .nil pass0 (pa_cons (pv 0) (pa_cons pe_int pa_nil))))
      (pss_one (ps_ret (pe_tup (pa_cons (pv 2) (pa_cons (pv 3) (pa_cons (pe_callTy (cr_tupK (K := K) rfl) (by rfl) T.m_tuple (by decide +kernel) (pa_cons (pe_lc (own := [("x", 5)]) rfl sc__law_arc.nd (pi_range2 rfl T.m_range (pa_cons (pe_op (op_addK (K := K) rfl) (pv 2) pe_int) (pa_cons (pv 3) pa_nil))) (blkOk_by (N := N__law_arc) (sc := defScope s__law_arc) (by decide +kernel)) (fun _ _ _ _ _ => (pg_name (i := 5) sc__law_arc.nd rfl (by first | exact Or.inl rfl | exact Or.inr rfl))) (fun _ _ _ _ _ => (pts_one (PW.pt (pw_or (pt_cmpR (op_eqK (K := K) rfl hr.units) (pv 4) pe_int (nomark _)) (pw_or1 (PW.pt (pw_and (pt_cmpR op_gt (pv 4) pe_int (nomark _)) (pw_and1 (pt_cmpR (op_eqK (K := K) rfl hr.units) (pe_call (ok__law_draw T) (hr.mono (by decide)) (by rfl) T.g__law_draw T.F__law_draw.kp T.b__law_draw .nil pass0 (pa_cons (pv 0) (pa_cons pe_int pa_nil))) pe_int (nomark _)))))))))) (fun _ _ _ _ _ => (pv 5))) pa_nil)) pa_nil))))))))), fun W es P hC => ?_⟩
  obtain ⟨d, c, n, rfl, hk, h1, h2, q⟩ := hC
  try dsimp only [cx_K, cx_w]
  walk_at "ka"
  refine ⟨d, c, _, rfl, hk, by omega, by omega, fun r1 ra rb => ?_⟩
  walk_at "ka"
  refine ⟨d, c, _, rfl, hk, by omega, by omega, fun r2 rc rd => ?_⟩
  walk_at "ka"
  refine ⟨d, c, _, rfl, hk, by omega, by omega, fun r3 re rf => ?_⟩
  walk_at "ka"
  refine ⟨d, c, _, _, rfl, .inl rfl, hk, by simp, by simp, fun x hx => ?_⟩
  obtain ⟨b, rfl, hb1, hb2⟩ : ∃ b, x = .int b ∧ 1 + r1 < b ∧ b ≤ n := by
    simp only [List.mem_cons, List.not_mem_nil, or_false] at hx
    rcases hx with rfl | rfl | rfl
    · exact ⟨_, rfl, by omega, by omega⟩
    · exact ⟨_, rfl, by omega, by omega⟩
    · exact ⟨_, rfl, by omega, by omega⟩
  walk_at "ka"
  refine ⟨d, c, _, rfl, hk, by omega, by omega, fun few rg rh => ?_⟩
  walk_at "ka"
  refine de_lc ?_
  walk_at "ka"
  refine ⟨1 + r1 + 1, b, rfl, by omega, by omega, by rw [List.length_map, rgN_length]; omega, fun i acc => ∃ S : List Int, acc = intsD S ∧ S.Pairwise (· < ·) ∧ ∀ p ∈ S, 1 + r1 < p ∧ p < 1 + r1 + 1 + i, ⟨[], rfl, .nil, by simp⟩, fun i e acc W' he hA hW => ?_, fun acc hA => ?_⟩
  · obtain ⟨S, rfl, hs1, hs2⟩ := hA
    rw [List.getElem?_map] at he
    have hi : i < (b - (1 + r1 + 1)).toNat := by
      refine Nat.lt_of_not_le fun z => ?_
      rw [List.getElem?_eq_none (by rw [rgN_length]; exact z)] at he
      cases he
    rw [rgN_get hi] at he
    cases he
    refine ⟨_, _, tg_name, by simp, ?_⟩
    have yes : ∃ S' : List Int, intsD S ++ [PyData.int (1 + r1 + 1 + i)] = intsD S' ∧ S'.Pairwise (· < ·) ∧ ∀ p ∈ S', 1 + r1 < p ∧ p < 1 + r1 + 1 + (i + 1 : Nat) := by
      refine ⟨S ++ [1 + r1 + 1 + i], by unfold intsD; rw [List.map_append]; rfl, ?_, fun p hp => ?_⟩
      · rw [List.pairwise_append]
        refine ⟨hs1, List.pairwise_singleton .., fun p hp x hx => ?_⟩
        rw [List.mem_singleton] at hx
        have := hs2 p hp
        omega
      · rcases List.mem_append.mp hp with hp | hp
        · have := hs2 p hp
          omega
        · rw [List.mem_singleton] at hp
          omega
    have no : ∃ S' : List Int, intsD S = intsD S' ∧ S'.Pairwise (· < ·) ∧ ∀ p ∈ S', 1 + r1 < p ∧ p < 1 + r1 + 1 + (i + 1 : Nat) := ⟨S, rfl, hs1, fun p hp => by have := hs2 p hp; omega⟩
    walk_at "ka"
    refine opd_eq (by rfl) (by rfl) ⟨_, rfl, fun e => ?_, fun e => ⟨fun _ => ?_, nofun⟩⟩
    · walk_at "ka"
      refine ⟨fun e2 => ?_, fun e2 => ⟨nofun, fun _ => no⟩⟩
      walk_at "ka"
      refine ⟨d, c, _, rfl, hk.hid hW, by omega, by omega, fun r4 ri rj => ?_⟩
      walk_at "ka"
      refine opd_eq (by rfl) (by rfl) ⟨_, rfl, fun e3 => ?_, fun e3 => no⟩
      walk_at "ka"
      exact yes
    · walk_at "ka"
      exact yes
  · obtain ⟨S, rfl, hs1, hs2⟩ := hA
    walk_at "ka"
    refine ⟨Wd.Le.refl W, q (1 + r1) b S ⟨by omega, by omega, by omega, hs1, fun p hp => ?_⟩⟩
    have := hs2 p hp
    rw [List.length_map, rgN_length] at this
    omega

def C__law_within : Con := fun _ es P => ∃ a b S, es = [.dat (arcD a b S)] ∧ a.natAbs ≤ 1000 ∧ b.natAbs ≤ 1000 ∧ b - a ≤ 40 ∧ S.length ≤ 1000 ∧ P (.dat (.tuple (withinD a b S)))
theorem rgN_take {lo : Int} {n i : Nat} (h : i ≤ n) : (rgN lo n).take i = rgN lo i := by
  unfold rgN
  rw [← List.map_take, List.take_range, Nat.min_eq_left h]
theorem rgN_succ {lo : Int} {i : Nat} : rgN lo (i + 1) = rgN lo i ++ [lo + (i : Int)] := by
  unfold rgN
  rw [List.range_succ, List.map_append]
  rfl
theorem rgN_at {lo : Int} {n i : Nat} {e : DV} (h : ((rgN lo n).map fun i => DV.dat (.int i))[i]? = some e) : i < n ∧ e = .dat (.int (lo + i)) := by
  rw [List.getElem?_map] at h
  by_cases hi : i < n
  · rw [rgN_get hi] at h
    cases h
    exact ⟨hi, rfl⟩
  · rw [List.getElem?_eq_none (by rw [rgN_length]; omega)] at h
    cases h
/-- what is found before the row of c, and in it before d -/
def foundAt (b : Int) (S : List Int) (a : Int) (i : Nat) : List PyData := (rgN a i).flatMap fun c => (rgN (c + 1) (b + 1 - (c + 1)).toNat).map fun d => arcD c d (betw c d S)
theorem foundAt_len {b a : Int} {S : List Int} : ∀ {i : Nat}, 1 ≤ 1 → b - a ≤ 40 → (foundAt b S a i).length ≤ i * 40
  | 0, _, _ => Nat.zero_le _
  | i + 1, h1, h2 => by
    have ih := foundAt_len (b := b) (a := a) (S := S) (i := i) h1 h2
    unfold foundAt at ih ⊢
    rw [rgN_succ, List.flatMap_append, List.length_append]
    have e : (List.flatMap (fun c => (rgN (c + 1) (b + 1 - (c + 1)).toNat).map fun d => arcD c d (betw c d S)) [a + (i : Int)]).length = (b + 1 - (a + (i : Int) + 1)).toNat := by
      simp [rgN_length]
    rw [e]
    omega
theorem ok__law_within (T : Tx K mg) : FnOk P w K mg base CX0 1 T.f__law_within T.d__law_within ["arc"] (SpC K C__law_within) := by
  refine kfn T.F__law_within sc__law_within (fun W es P ⟨_, _, _, h, _⟩ => by rw [h]; rfl) fun cdv A outer s H E hr => ⟨_, (pss_cons (ps_asg (pv 0) (pg_tupK (K := K) rfl (pg_tup rfl (pgs_cons (pg_name (i := 1) sc__law_within.nd rfl (by first | exact Or.inl rfl | exact Or.inr rfl)) (pgs_cons (pg_name (i := 2) sc__law_within.nd rfl (by first | exact Or.inl rfl | exact Or.inr rfl)) (pgs_cons (pg_name (i := 3) sc__law_within.nd rfl (by first | exact Or.inl rfl | exact Or.inr rfl)) pgs_nil))))))
      (pss_cons (ps_set (i := 4) sc__law_within.nd rfl (by first | exact Or.inl rfl | exact Or.inr rfl) (pe_lst pa_nil))
      (pss_cons (ps_for PassesOwn.never rfl (pi_range2 rfl T.m_range (pa_cons (pv 1) (pa_cons (pv 2) pa_nil))) (pg_name (i := 5) sc__law_within.nd rfl (by first | exact Or.inl rfl | exact Or.inr rfl)) (pss_one (ps_for PassesOwn.never rfl (pi_range2 rfl T.m_range (pa_cons (pe_op (op_addK (K := K) rfl) (pv 5) pe_int) (pa_cons (pe_op (op_addK (K := K) rfl) (pv 2) pe_int) pa_nil))) (pg_name (i := 6) sc__law_within.nd rfl (by first | exact Or.inl rfl | exact Or.inr rfl)) (pss_one (ps_expr (pe_bm PySem.F.plainAttrs_list PySem.F.slot_list_append PySem.F.type_list_append mt_append (pv 4) (pa_cons (pe_tup (pa_cons (pv 5) (pa_cons (pv 6) (pa_cons (pe_callTy (cr_tupK (K := K) rfl) (by rfl) T.m_tuple (by decide +kernel) (pa_cons (pe_lc (own := [("x", 7)]) rfl sc__law_within.nd (pi_seqK (K := K) rfl (pv 3)) (blkOk_by (N := N__law_within) (sc := defScope s__law_within) (by decide +kernel)) (fun _ _ _ _ _ => (pg_name (i := 7) sc__law_within.nd rfl (by first | exact Or.inl rfl | exact Or.inr rfl))) (fun _ _ _ _ _ => (pts_one (pt_chain op_lt op_lt (pv 5) (pv 7) (pv 6)))) (fun _ _ _ _ _ => (pv 7))) pa_nil)) pa_nil)))) pa_nil)))))))
      (pss_one (ps_ret (pe_callTy (cr_tupK (K := K) rfl) (by rfl) T.m_tuple (by decide +kernel) (pa_cons (pe_callB (cr_sortedK (K := K) (w := w) rfl rfl rfl hr.units) (by rfl) T.m_sorted (by decide +kernel) (pa_cons (pv 4) pa_nil)) pa_nil))))))), fun W es P hC => ?_⟩
  obtain ⟨a, b, S, rfl, ha, hb, hab, hS, q⟩ := hC
  try dsimp only [cx_K, cx_w]
  walk_at "ka"
  refine ⟨_, _, tg_tup3, ?_⟩
  refine ds_seq (ds_newL fun p hp => ?_)
  refine ds_seq (ds_for ?_)
  walk_at "ka"
  refine ⟨a, b, rfl, by omega, by omega, fun i W' Δ' => W' = W.hide p (knL K (foundAt b S a i)) ∧ ∃ x y, Δ' = [some (.dat (arcD a b S)), some (.dat (.int a)), some (.dat (.int b)), some (.dat (.tuple (intsD S))), some (.raw (.ref p)), x, y, none], ⟨rfl, none, none, rfl⟩, ?_, ?_⟩
  · rintro i e W' Δ' he ⟨rfl, x, y, rfl⟩
    obtain ⟨hi, rfl⟩ := rgN_at he
    refine ⟨_, _, tg_name, ?_⟩
    refine ds_for ?_
    walk_at "ka"
    refine ⟨a + i + 1, b + 1, rfl, by omega, by omega, fun j W' Δ' => W' = W.hide p (knL K (foundAt b S a i ++ (rgN (a + i + 1) j).map fun d => arcD (a + i) d (betw (a + i) d S))) ∧ ∃ y, Δ' = [some (.dat (arcD a b S)), some (.dat (.int a)), some (.dat (.int b)), some (.dat (.tuple (intsD S))), some (.raw (.ref p)), some (.dat (.int (a + i))), y, none], ⟨?_, y, rfl⟩, ?_, ?_⟩
    · rw [show rgN (a + i + 1) 0 = [] from rfl, List.map_nil, List.append_nil]
    · rintro j e W' Δ' he2 ⟨rfl, y', rfl⟩
      obtain ⟨hj, rfl⟩ := rgN_at he2
      refine ⟨_, _, tg_name, ?_⟩
      have hl1 := foundAt_len (b := b) (a := a) (S := S) (i := i) (Nat.le_refl _) hab
      refine ds_app rfl ?_ ?_
      · rw [List.length_append, List.length_map, rgN_length]
        omega
      · walk_at "ka"
        refine de_lcM S (fun q => DV.dat (.int q)) (fun q => decide (a + i < q) && decide (q < a + i + 1 + j)) (fun q => .int q) (di_seqT ?_) (by omega) ?_ ?_
        · walk_at "ka"
          exact intsD_dat S
        · intro q hq W' hW
          refine ⟨_, _, tg_name, by simp, ?_⟩
          walk_at "ka"
          refine ⟨fun e => ?_, fun e => ⟨_, rfl, ?_⟩⟩
          · walk_at "ka"
            refine ⟨by rw [e, Bool.true_and], fun e2 => ?_⟩
            walk_at "ka"
            rfl
          · rw [e, Bool.false_and]
            exact ⟨rfl, nofun⟩
        · walk_at "ka"
          refine ⟨?_, _, rfl⟩
          rw [rgN_succ, List.map_append, List.append_assoc]
          rfl
    · rintro W' Δ' ⟨rfl, y', rfl⟩
      rw [List.length_map, rgN_length]
      refine ⟨?_, _, y', rfl⟩
      congr 1
      congr 1
      unfold foundAt
      rw [rgN_succ, List.flatMap_append]
      simp
  · rintro W' Δ' ⟨rfl, x, y, rfl⟩
    rw [List.length_map, rgN_length]
    have e : foundAt b S a (b - a).toNat = withinL a b S := rfl
    rw [e]
    refine ds_see (i := 4) hp rfl ?_
    walk_at "ka"
    refine cal_sortedXL (within_alike a b S) (within_sortable a b S) within_depth ?_
    walk_at "ka"
    exact ⟨Wd.Le.refl W, q⟩

def C__law_lies : Con := fun _ es P => ∃ c d R a b S, es = [.dat (arcD c d R), .dat (arcD a b S)] ∧ S.length ≤ 1000 ∧ P (.dat (.bool (liesB c d R a b S)))
theorem ok__law_lies (T : Tx K mg) : FnOk P w K mg base CX0 1 T.f__law_lies T.d__law_lies ["one", "other"] (SpC K C__law_lies) := by
  refine kfn T.F__law_lies sc__law_lies (fun W es P ⟨_, _, _, _, _, _, h, _⟩ => by rw [h]; rfl) fun cdv A outer s H E hr => ⟨_, (pss_cons (ps_asg (pv 0) (pg_tupK (K := K) rfl (pg_tup rfl (pgs_cons (pg_name (i := 2) sc__law_lies.nd rfl (by first | exact Or.inl rfl | exact Or.inr rfl)) (pgs_cons (pg_name (i := 3) sc__law_lies.nd rfl (by first | exact Or.inl rfl | exact Or.inr rfl)) (pgs_cons (pg_name (i := 4) sc__law_lies.nd rfl (by first | exact Or.inl rfl | exact Or.inr rfl)) pgs_nil))))))
      (pss_one (ps_ret (pe_and (pe_cmpR op_ge (pv 2) (pe_ix (ix_K (K := K) rfl) (pv 1) pe_int (fun _ _ => rfl)) (nomark _)) (pe_and (pe_cmpR op_le (pv 3) (pe_ix (ix_K (K := K) rfl) (pv 1) pe_int (fun _ _ => rfl)) (nomark _)) (pe_one (pe_cmpR (op_eqK (K := K) rfl hr.units) (pv 4) (pe_callTy (cr_tupK (K := K) rfl) (by rfl) T.m_tuple (by decide +kernel) (pa_cons (pe_lc (own := [("x", 5)]) rfl sc__law_lies.nd (pi_seqK (K := K) rfl (pe_ix (ix_K (K := K) rfl) (pv 1) pe_int (fun _ _ => rfl))) (blkOk_by (N := N__law_lies) (sc := defScope s__law_lies) (by decide +kernel)) (fun _ _ _ _ _ => (pg_name (i := 5) sc__law_lies.nd rfl (by first | exact Or.inl rfl | exact Or.inr rfl))) (fun _ _ _ _ _ => (pts_one (pt_chain op_lt op_lt (pv 2) (pv 5) (pv 3)))) (fun _ _ _ _ _ => (pv 5))) pa_nil)) (nomark _)))))))), fun W es P hC => ?_⟩
  obtain ⟨c, d, R, a, b, S, rfl, hS, q⟩ := hC
  try dsimp only [cx_K, cx_w]
  walk_at "ka"
  refine ⟨_, _, tg_tup3, ?_⟩
  walk_at "ka"
  refine opd_ixT (atI_nat (j := 0) rfl) ?_
  walk_at "ka"
  unfold liesB at q
  refine ⟨fun e => ?_, fun e => ?_⟩
  · walk_at "ka"
    refine opd_ixT (atI_nat (j := 1) rfl) ?_
    walk_at "ka"
    refine ⟨fun e2 => ?_, fun e2 => ?_⟩
    · walk_at "ka"
      refine de_lcM S (fun p => DV.dat (.int p)) (fun p => decide (c < p) && decide (p < d)) (fun p => .int p) (di_seqT ?_) (by omega) ?_ ?_
      · unfold arcD
        walk_at "ka"
        exact opd_ixT (atI_nat (j := 2) rfl) ⟨_, rfl, intsD_dat S⟩
      · intro p hp W' hW
        refine ⟨_, _, tg_name, by simp, ?_⟩
        walk_at "ka"
        refine ⟨fun e => ?_, fun e => ⟨_, rfl, ?_⟩⟩
        · walk_at "ka"
          refine ⟨by rw [e, Bool.true_and], fun e2 => ?_⟩
          walk_at "ka"
          rfl
        · rw [e, Bool.false_and]
          exact ⟨rfl, nofun⟩
      · walk_at "ka"
        refine opd_eq (shaped_tupI R) (shaped_tupI (betw c d S)) ⟨Wd.Le.refl W, ?_⟩
        have e3 : PyData.eqv (.tuple (intsD R)) (.tuple (intsD (betw c d S))) = decide (betw c d S = R) := by
          show PyData.eqvAll (intsD R) (intsD (betw c d S)) = _
          rw [eqvAll_ints]
          exact decide_eq_decide.mpr eq_comm
        show P (.dat (.bool (PyData.eqv (.tuple (intsD R)) (.tuple (intsD (betw c d S))))))
        rw [e3]
        rw [e, e2, Bool.true_and, Bool.true_and] at q
        exact q
    · rw [e, e2] at q
      exact ⟨Wd.Le.refl W, q⟩
  · rw [e] at q
    exact ⟨Wd.Le.refl W, q⟩

def C__law_near : Con := fun W es P => ∃ d c n a b S, es = [.raw (.ref d), .dat (arcD a b S), .dat (.int n)] ∧ HasDeck W d c ∧ 2 ≤ n ∧ n ≤ 40 ∧ ArcOk n a b S ∧ ∀ a b S, ArcOk n a b S → P (.dat (arcD a b S))
theorem eqv_int {i j : Int} : PyData.eqv (.int i) (.int j) = decide (i = j) := by
  simp only [PyData.eqv]
  by_cases h : i = j <;> simp [h]
theorem eqv_bool {i j : Bool} : PyData.eqv (.bool i) (.bool j) = decide (i = j) := by
  simp only [PyData.eqv]
  by_cases h : i = j <;> simp [h]
theorem any_eqv (S : List Int) (y : Int) : ((intsD S).any fun z => PyData.eqv z (.int y)) = decide (y ∈ S) := by
  unfold intsD
  rw [List.any_map]
  induction S with
  | nil => simp
  | cons p S ih =>
    rw [List.any_cons, ih]
    show (PyData.eqv (.int p) (.int y) || decide (y ∈ S)) = _
    rw [eqv_int]
    by_cases h : p = y <;> by_cases h2 : y ∈ S <;> simp [h, h2, eq_comm]
    exact fun e => h e.symm
theorem rgN_asc {lo : Int} : ∀ {n : Nat}, (rgN lo n).Pairwise (· < ·)
  | 0 => .nil
  | n + 1 => by
    rw [rgN_succ, List.pairwise_append]
    refine ⟨rgN_asc, List.pairwise_singleton .., fun p hp x hx => ?_⟩
    rw [List.mem_singleton] at hx
    rw [rgN_mem] at hp
    omega
theorem withinD_len {a b : Int} {S : List Int} : (withinD a b S).length = (withinL a b S).length := List.length_mergeSort ..
theorem withinL_pos {a b : Int} {S : List Int} (h : a < b) : 1 ≤ (withinL a b S).length := by
  have := withinL_of (S := S) (Int.le_refl a) h (Int.le_refl b)
  exact List.length_pos_of_mem this
theorem withinL_le {a b : Int} {S : List Int} (h : b - a ≤ 40) : (withinL a b S).length ≤ (b - a).toNat * 40 := foundAt_len (b := b) (a := a) (S := S) (i := (b - a).toNat) (Nat.le_refl _) h
theorem ok__law_near (T : Tx K mg) : FnOk P w K mg base CX0 4 T.f__law_near T.d__law_near ["deck", "arc", "n"] (SpC K C__law_near) := by
  refine kfn T.F__law_near sc__law_near (fun W es P ⟨_, _, _, _, _, _, h, _⟩ => by rw [h]; rfl) fun cdv A outer s H E hr => ⟨_, (pss_cons (ps_asg (pe_ifExp (pt_cmpR op_lt (pe_op op_sub (pe_ix (ix_K (K := K) rfl) (pv 1) pe_int (fun _ _ => rfl)) (pe_ix (ix_K (K := K) rfl) (pv 1) pe_int (fun _ _ => rfl))) pe_int (nomark _)) (pe_call (ok__law_pick T) (hr.mono (by decide)) (by rfl) T.g__law_pick T.F__law_pick.kp T.b__law_pick .nil pass0 (pa_cons (pv 0) (pa_cons (pe_call (ok__law_within T) (hr.mono (by decide)) (by rfl) T.g__law_within T.F__law_within.kp T.b__law_within .nil pass0 (pa_cons (pv 1) pa_nil)) pa_nil))) (pv 1)) (pg_tupK (K := K) rfl (pg_tup rfl (pgs_cons (pg_name (i := 3) sc__law_near.nd rfl (by first | exact Or.inl rfl | exact Or.inr rfl)) (pgs_cons (pg_name (i := 4) sc__law_near.nd rfl (by first | exact Or.inl rfl | exact Or.inr rfl)) (pgs_cons (pg_name (i := 5) sc__law_near.nd rfl (by first | exact Or.inl rfl | exact Or.inr rfl)) pgs_nil))))))
      (pss_cons (ps_set (i := 6) sc__law_near.nd rfl (by first | exact Or.inl rfl | exact Or.inr rfl) (pe_call (ok__law_draw T) (hr.mono (by decide)) (by rfl) T.g__law_draw T.F__law_draw.kp T.b__law_draw .nil pass0 (pa_cons (pv 0) (pa_cons pe_int pa_nil))))
      (pss_cons (ps_if (pt_cmpR (op_eqK (K := K) rfl hr.units) (pv 6) pe_int (nomark _)) (pss_one (ps_ret (pe_call (ok__law_arc T) hr (by rfl) T.g__law_arc T.F__law_arc.kp T.b__law_arc .nil pass0 (pa_cons (pv 0) (pa_cons (pv 2) pa_nil))))) pss_nil)
      (pss_cons (ps_if (PW.pt (pw_and (pt_cmpR (op_eqK (K := K) rfl hr.units) (pv 6) pe_int (nomark _)) (pw_and1 (pt_cmpR op_gt (pe_op op_sub (pv 4) (pv 3)) pe_int (nomark _))))) (pss_cons (ps_set (i := 7) sc__law_near.nd rfl (by first | exact Or.inl rfl | exact Or.inr rfl) (pe_op (op_addK (K := K) rfl) (pe_op (op_addK (K := K) rfl) (pv 3) pe_int) (pe_call (ok__law_draw T) (hr.mono (by decide)) (by rfl) T.g__law_draw T.F__law_draw.kp T.b__law_draw .nil pass0 (pa_cons (pv 0) (pa_cons (pe_op op_sub (pe_op op_sub (pv 4) (pv 3)) pe_int) pa_nil)))))
      (pss_one (ps_ret (pe_tup (pa_cons (pv 3) (pa_cons (pv 4) (pa_cons (pe_callTy (cr_tupK (K := K) rfl) (by rfl) T.m_tuple (by decide +kernel) (pa_cons (pe_lc (own := [("y", 8)]) rfl sc__law_near.nd (pi_range2 rfl T.m_range (pa_cons (pe_op (op_addK (K := K) rfl) (pv 3) pe_int) (pa_cons (pv 4) pa_nil))) (blkOk_by (N := N__law_near) (sc := defScope s__law_near) (by decide +kernel)) (fun _ _ _ _ _ => (pg_name (i := 8) sc__law_near.nd rfl (by first | exact Or.inl rfl | exact Or.inr rfl))) (fun _ _ _ _ _ => (pts_one (pt_cmpR (op_neK (K := K) rfl hr.units) (pe_cmpR (op_inK (K := K) rfl (hu65 hr)) (pv 8) (pv 5) (by rfl)) (pe_cmpR (op_eqK (K := K) rfl hr.units) (pv 7) (pv 8) (nomark _)) (nomark _)))) (fun _ _ _ _ _ => (pv 8))) pa_nil)) pa_nil))))))) pss_nil)
      (pss_cons (ps_if (PW.pt (pw_and (pt_cmpR (op_eqK (K := K) rfl hr.units) (pv 6) pe_int (nomark _)) (pw_and1 (pt_cmpR op_lt (pv 4) (pv 2) (nomark _))))) (pss_one (ps_ret (pe_tup (pa_cons (pv 3) (pa_cons (pe_op (op_addK (K := K) rfl) (pv 4) pe_int) (pa_cons (pe_op (op_addK (K := K) rfl) (pv 5) (pe_ifExp (pt_cmpR (op_eqK (K := K) rfl hr.units) (pe_call (ok__law_draw T) (hr.mono (by decide)) (by rfl) T.g__law_draw T.F__law_draw.kp T.b__law_draw .nil pass0 (pa_cons (pv 0) (pa_cons pe_int pa_nil))) pe_int (nomark _)) (pe_tup (pa_cons (pv 4) pa_nil)) (pe_tup pa_nil))) pa_nil)))))) pss_nil)
      (pss_one (ps_ret (pe_tup (pa_cons (pv 3) (pa_cons (pv 4) (pa_cons (pv 5) pa_nil))))))))))), fun W es P hC => ?_⟩
  obtain ⟨d, c, n, a, b, S, rfl, hk, h1, h2, ha, q⟩ := hC
  have g1 := ha.lo
  have g2 := ha.lt
  have g3 := ha.hi
  have gl := ha.len
  try dsimp only [cx_K, cx_w]
  refine ds_cut (fun W' Δ' => W' = W ∧ ∃ x a b S, ArcOk n a b S ∧ Δ' = [some (.raw (.ref d)), x, some (.dat (.int n)), some (.dat (.int a)), some (.dat (.int b)), some (.dat (.tuple (intsD S))), none, none, none]) ?_ ?_
  · walk_at "ka"
    refine opd_ixT (atI_nat (j := 1) rfl) ?_
    walk_at "ka"
    refine opd_ixT (atI_nat (j := 0) rfl) ?_
    walk_at "ka"
    refine ⟨fun e => ?_, fun e => ?_⟩
    · have e : b - a < 12 := of_decide_eq_true e
      walk_at "ka"
      refine ⟨a, b, S, rfl, by omega, by omega, by omega, by omega, ?_⟩
      have l1 := withinL_pos (S := S) g2
      have l2 := withinL_le (S := S) (a := a) (b := b) (by omega)
      walk_at "ka"
      refine ⟨d, c, _, withinD a b S, rfl, .inr rfl, hk, by rw [withinD_len]; exact l1, by rw [withinD_len]; omega, fun x hx => ?_⟩
      obtain ⟨a', b', i1, i2, i3, rfl⟩ := withinL_mem (List.mem_mergeSort.mp hx)
      exact ⟨_, _, tg_tup3, rfl, _, a', b', _, ha.inner i1 i2 i3, rfl⟩
    · walk_at "ka"
      exact ⟨_, _, tg_tup3, rfl, _, a, b, S, ha, rfl⟩
  · clear ha g1 g2 g3 gl
    rintro W' Δ' ⟨rfl, x0, a, b, S, ha, rfl⟩
    have g1 := ha.lo
    have g2 := ha.lt
    have g3 := ha.hi
    have gl := ha.len
    walk_at "ka"
    refine ⟨d, c, _, rfl, hk, by omega, by omega, fun way w1 w2 => ?_⟩
    refine dq_when True ?_ fun _ => ?_
    · walk_at "ka"
      refine opd_eq (by rfl) (by rfl) ⟨_, rfl, fun e => ?_, fun e => trivial⟩
      walk_at "ka"
      exact ⟨d, c, n, rfl, hk, h1, h2, fun a b S h => ⟨Wd.Le.refl _, q a b S h⟩⟩
    refine dq_when True ?_ fun _ => ?_
    · walk_at "ka"
      refine opd_eq (by rfl) (by rfl) ⟨_, rfl, fun e => ?_, fun e => ⟨nofun, fun _ => trivial⟩⟩
      walk_at "ka"
      refine ⟨fun e2 => ?_, fun _ => trivial⟩
      have e2 : 1 < b - a := of_decide_eq_true e2
      walk_at "ka"
      refine ⟨d, c, _, rfl, hk, by omega, by omega, fun r r1 r2 => ?_⟩
      walk_at "ka"
      refine de_lcM (rgN (a + 1) (b - (a + 1)).toNat) (fun y => DV.dat (.int y)) (fun y => !decide (decide (y ∈ S) = decide (a + 1 + r = y))) (fun y => .int y) ?_ (by rw [rgN_length]; omega) ?_ ?_
      · walk_at "ka"
        exact ⟨_, _, rfl, by omega, by omega, rfl⟩
      · intro y hy W'' hW
        refine ⟨_, _, tg_name, by simp, ?_⟩
        walk_at "ka"
        refine opd_inT (by rfl) (canLay_ints S) ?_
        walk_at "ka"
        refine opd_eq (by rfl) (by rfl) ?_
        rw [any_eqv, eqv_int]
        refine opd_ne (by rfl) (by rfl) ⟨_, rfl, ?_, fun _ => ?_⟩
        · rw [eqv_bool]
        · walk_at "ka"
          rfl
      · walk_at "ka"
        refine ⟨Wd.Le.refl _, q a b ((rgN (a + 1) (b - (a + 1)).toNat).filter fun y => !decide (decide (y ∈ S) = decide (a + 1 + r = y))) ⟨g1, g2, g3, rgN_asc.sublist List.filter_sublist, fun p hp => ?_⟩⟩
        have := (rgN_mem.mp (List.mem_filter.mp hp).1)
        omega
    refine dq_when True ?_ fun _ => ?_
    · walk_at "ka"
      refine opd_eq (by rfl) (by rfl) ⟨_, rfl, fun e => ?_, fun e => ⟨nofun, fun _ => trivial⟩⟩
      walk_at "ka"
      refine ⟨fun e2 => ?_, fun _ => trivial⟩
      have e2 : b < n := of_decide_eq_true e2
      walk_at "ka"
      refine ⟨d, c, _, rfl, hk, by omega, by omega, fun r r1 r2 => ?_⟩
      walk_at "ka"
      refine opd_eq (by rfl) (by rfl) ⟨_, rfl, fun e3 => ?_, fun e3 => ?_⟩
      · walk_at "ka"
        refine opd_addT (by simp [intsD]; omega) ?_
        walk_at "ka"
        have z := q a (b + 1) (S ++ [b]) ⟨g1, by omega, by omega, ?_, fun p hp => ?_⟩
        · refine ⟨Wd.Le.refl _, ?_⟩
          unfold arcD intsD at z
          rw [List.map_append] at z
          exact z
        · rw [List.pairwise_append]
          refine ⟨ha.asc, List.pairwise_singleton .., fun p hp x hx => ?_⟩
          rw [List.mem_singleton] at hx
          have := ha.mem p hp
          omega
        · rcases List.mem_append.mp hp with hp | hp
          · have := ha.mem p hp
            omega
          · rw [List.mem_singleton] at hp
            omega
      · walk_at "ka"
        refine opd_addT (by simp [intsD]; omega) ?_
        walk_at "ka"
        have z := q a (b + 1) S ⟨g1, by omega, by omega, ha.asc, fun p hp => by have := ha.mem p hp; omega⟩
        rw [List.append_nil]
        exact ⟨Wd.Le.refl _, z⟩
    · walk_at "ka"
      exact ⟨Wd.Le.refl _, q a b S ha⟩

/-! data that are shown: their size -/
structure Sh (d : PyData) (k m : Nat) : Prop where
  lay : d.canLay0 = true
  short : d.intsShort 13 = true
  dep : d.depth ≤ k
  wt : d.weight ≤ m
  sho : d.showable = true
structure Shs (ds : List PyData) (k m : Nat) : Prop where
  lay : PyData.canLayAll0 ds = true
  short : PyData.intsShortAll 13 ds = true
  dep : PyData.depthAll ds ≤ k
  wt : PyData.weightAll ds ≤ ds.length * (m + 1)
  sho : PyData.showableAll ds = true
theorem log2_small {n : Nat} (h : n < 1000000) : n.log2 < 20 := by
  by_cases h0 : n = 0
  · rw [h0]
    decide
  · exact (Nat.log2_lt h0).mpr (by omega)
theorem sh_int {i : Int} (h : i.natAbs < 1000000) (k : Nat) : Sh (.int i) k 20 := by
  have hl := log2_small h
  refine ⟨rfl, ?_, Nat.zero_le _, ?_, ?_⟩
  · simp only [PyData.intsShort, decide_eq_true_eq]
    exact PyData.shown_int_le (by omega)
  · show (if i == 0 then 0 else i.natAbs.log2 + 1) ≤ 20
    split <;> omega
  · simp only [PyData.showable, decide_eq_true_eq]
    omega
theorem sh_bool (b : Bool) (k m : Nat) : Sh (.bool b) k m := ⟨rfl, rfl, Nat.zero_le _, Nat.zero_le _, rfl⟩
theorem sh_none (k m : Nat) : Sh .none k m := ⟨rfl, rfl, Nat.zero_le _, Nat.zero_le _, rfl⟩
theorem Sh.up {d : PyData} {k k' m m' : Nat} (h : Sh d k m) (hk : k ≤ k') (hm : m ≤ m') : Sh d k' m' := ⟨h.lay, h.short, Nat.le_trans h.dep hk, Nat.le_trans h.wt hm, h.sho⟩
theorem shs_of {k m : Nat} : ∀ {ds : List PyData}, (∀ d ∈ ds, Sh d k m) → Shs ds k m
  | [], _ => ⟨rfl, rfl, Nat.zero_le _, Nat.zero_le _, rfl⟩
  | d :: ds, h => by
    have h1 := h d (by simp)
    have h2 := shs_of (ds := ds) fun x hx => h x (List.mem_cons_of_mem _ hx)
    refine ⟨?_, ?_, ?_, ?_, ?_⟩
    · simp only [PyData.canLayAll0, h1.lay, h2.lay, Bool.and_self]
    · simp only [PyData.intsShortAll, h1.short, h2.short, Bool.and_self]
    · have a := h1.dep
      have b := h2.dep
      simp only [PyData.depthAll]
      omega
    · have a := h1.wt
      have b := h2.wt
      simp only [PyData.weightAll, List.length_cons, Nat.add_mul]
      omega
    · simp only [PyData.showableAll, h1.sho, h2.sho, Bool.and_self]
theorem sh_tup {ds : List PyData} {k m : Nat} (h : ∀ d ∈ ds, Sh d k m) : Sh (.tuple ds) (k + 1) (ds.length * (m + 1)) := by
  have s := shs_of h
  have a := s.dep
  exact ⟨by simpa only [PyData.canLay0] using s.lay, by simpa only [PyData.intsShort] using s.short, by simp only [PyData.depth]; omega, by simpa only [PyData.weight] using s.wt, by simpa only [PyData.showable] using s.sho⟩
theorem sh_lst {ds : List PyData} {k m : Nat} (h : ∀ d ∈ ds, Sh d k m) : Sh (.list ds) (k + 1) (ds.length * (m + 1)) := by
  have s := shs_of h
  have a := s.dep
  exact ⟨by simpa only [PyData.canLay0] using s.lay, by simpa only [PyData.intsShort] using s.short, by simp only [PyData.depth]; omega, by simpa only [PyData.weight] using s.wt, by simpa only [PyData.showable] using s.sho⟩
theorem sh_intsT {ns : List Int} (h : ∀ n ∈ ns, n.natAbs < 1000000) : Sh (.tuple (intsD ns)) 1 (ns.length * 21) := by
  have s := sh_tup (ds := intsD ns) (k := 0) (m := 20) fun d hd => by
    obtain ⟨n, hn, rfl⟩ := List.mem_map.mp hd
    exact sh_int (h n hn) 0
  have e : (intsD ns).length = ns.length := List.length_map ..
  rw [e] at s
  exact s
theorem cal_reprS {d : PyData} {k m : Nat} (h : Sh d k m) (hk : k ≤ 60) (hm : m ≤ 1048576) {W : Wd} {P : DV → Prop} (q : P (.dat (.str d.shown))) : CalD K W (rRepr K) [.dat d] P :=
  cal_repr h.sho (PyData.hasDict_of_canLay d h.lay) (Nat.le_trans h.dep hk) (PyData.shown_fits (B := 13) (by decide) (by decide) (PyData.leavesShort_of_canLay0 13 d h.lay h.short) (by have := h.wt; omega)) q
theorem Sh.shaped {d : PyData} {k m : Nat} (h : Sh d k m) (hk : k ≤ 64) : SeqAt.shaped d = true := by
  unfold SeqAt.shaped
  rw [h.lay, decide_eq_true (Nat.le_trans h.dep hk)]
  rfl
theorem canLay_all {ds : List PyData} (h : ∀ d ∈ ds, d.canLay0 = true) : PyData.canLayAll0 ds = true := by
  induction ds with
  | nil => rfl
  | cons d ds ih =>
    simp only [PyData.canLayAll0, h d (by simp), ih fun x hx => h x (List.mem_cons_of_mem _ hx), Bool.and_self]

def C_law (K : PySem.W.Frag) : Con := fun W es P => ∃ a ns, es = [.raw (.ref a)] ∧ ns.length ≤ 63 ∧ W = Wd.script K a ns ∧ P (.dat (.bool true))
theorem dq_pass {W : Wd} {Δ : DEnv} {tt : TT} {t u : TS} {nx bk ct : Wd → DEnv → Prop} {rt : Wd → DV → Prop} (h : DT K W Δ tt fun b => b = false) (rest : DS K W Δ u nx rt bk ct) : DS K W Δ (tSeq (tIfS tt t tNext) u) nx rt bk ct :=
  dq_when True (h.mono fun b hb => ⟨fun e => absurd (hb.symm.trans e) Bool.false_ne_true, fun _ => trivial⟩) fun _ => rest
theorem ds_pass {W : Wd} {Δ : DEnv} {tt : TT} {t : TS} {nx bk ct : Wd → DEnv → Prop} {rt : Wd → DV → Prop} (h : DT K W Δ tt fun b => b = false) (k : nx W Δ) : DS K W Δ (tIfS tt t tNext) nx rt bk ct :=
  ds_if (h.mono fun b hb => ⟨fun e => absurd (hb.symm.trans e) Bool.false_ne_true, fun _ => ds_next k⟩)
theorem opd_neI {W : Wd} {x y : Int} {PX : DV → Prop} (k : PX (.dat (.bool (!decide (x = y))))) : OpD K W (rNeS K) (.dat (.int x)) (.dat (.int y)) PX := opd_ne rfl rfl (by rw [eqv_int]; exact k)
theorem opd_neB {W : Wd} {x y : Bool} {PX : DV → Prop} (k : PX (.dat (.bool (!decide (x = y))))) : OpD K W (rNeS K) (.dat (.bool x)) (.dat (.bool y)) PX := opd_ne rfl rfl (by rw [eqv_bool]; exact k)
theorem rgN_front {lo : Int} {n : Nat} : rgN lo (n + 1) = lo :: rgN (lo + 1) n := by
  unfold rgN
  rw [List.range_succ_eq_map, List.map_cons, List.map_map]
  refine List.cons_eq_cons.mpr ⟨by simp, List.map_congr_left fun i _ => ?_⟩
  show lo + ((i + 1 : Nat) : Int) = lo + 1 + (i : Int)
  omega
/-- how many arcs lie within an arc of m numbers of way -/
theorem tri_len {b : Int} {S : List Int} : ∀ {m : Nat} {a : Int}, b - a = m → 2 * (((rgN a m).flatMap fun c => (rgN (c + 1) (b + 1 - (c + 1)).toNat).map fun d => arcD c d (betw c d S)).length : Int) = m * (m + 1)
  | 0, a, _ => by simp [rgN]
  | m + 1, a, h => by
    have ih := tri_len (b := b) (S := S) (m := m) (a := a + 1) (by omega)
    rw [rgN_front, List.flatMap_cons, List.length_append, List.length_map, rgN_length]
    have e : (b + 1 - (a + 1)).toNat = m + 1 := by omega
    have n1 : ((m + 1 : Nat) : Int) = m + 1 := Int.natCast_succ m
    have r : ((m : Int) + 1) * (m + 1 + 1) = m * (m + 1) + 2 * (m + 1) := by
      simp only [Int.mul_add, Int.add_mul]
      omega
    rw [e, n1, r]
    omega
theorem within_len {a b : Int} {S : List Int} (h : a < b) : 2 * ((withinD a b S).length : Int) = (b - a) * (b - a + 1) := by
  have t := tri_len (b := b) (a := a) (S := S) (m := (b - a).toNat) (by omega)
  rw [withinD_len]
  have e : ((b - a).toNat : Int) = b - a := Int.toNat_of_nonneg (by omega)
  rw [e] at t
  exact t
theorem sh_arc {a b : Int} {S : List Int} (ha : a.natAbs ≤ 40) (hb : b.natAbs ≤ 40) (hS : S.length ≤ 8) (hm : ∀ p ∈ S, p.natAbs ≤ 40) : Sh (arcD a b S) 2 507 := by
  have s3 := sh_intsT (ns := S) fun n hn => by have := hm n hn; omega
  have := sh_tup (ds := [.int a, .int b, .tuple (intsD S)]) (k := 1) (m := 168) fun d hd => by
    simp only [List.mem_cons, List.not_mem_nil, or_false] at hd
    rcases hd with rfl | rfl | rfl
    · exact (sh_int (by omega) 1).up (Nat.le_refl _) (by decide)
    · exact (sh_int (by omega) 1).up (Nat.le_refl _) (by decide)
    · exact s3.up (Nat.le_refl _) (by omega)
  exact this
/-- an arc whose answers are shown -/
structure ArcSmall (n a b : Int) (S : List Int) : Prop where
  ok : ArcOk n a b S
  top : n ≤ 40
  way : b - a ≤ 18
  few : S.length ≤ 8
theorem ArcSmall.mem {n a b p : Int} {S : List Int} (h : ArcSmall n a b S) (hp : p ∈ S) : p.natAbs ≤ 40 := by
  have h1 := h.ok.mem p hp
  have h2 := h.ok.lo
  have h3 := h.ok.hi
  have h4 := h.top
  omega
theorem sh_within {n a b : Int} {S : List Int} (h : ArcSmall n a b S) : Sh (.tuple (withinD a b S)) 3 365760 := by
  have h2 := h.ok.lo
  have h3 := h.ok.hi
  have h4 := h.top
  have h5 := h.ok.lt
  have h6 := h.way
  have l := withinL_le (S := S) (a := a) (b := b) (by omega)
  refine (sh_tup (k := 2) (m := 507) fun d hd => ?_).up (Nat.le_refl _) ?_
  · obtain ⟨c, d, i1, i2, i3, rfl⟩ := withinL_mem (List.mem_mergeSort.mp hd)
    refine sh_arc (by omega) (by omega) (Nat.le_trans (List.length_filter_le ..) h.few) fun p hp => h.mem (betw_mem.mp hp).1
  · rw [withinD_len]
    have : (withinL a b S).length ≤ 18 * 40 := by omega
    exact Nat.le_trans (Nat.mul_le_mul_right 508 this) (by decide)
theorem sh_pair {d e : PyData} {k m : Nat} (h1 : Sh d k m) (h2 : Sh e k m) : Sh (.tuple [d, e]) (k + 1) (2 * (m + 1)) := sh_tup fun x hx => by
  simp only [List.mem_cons, List.not_mem_nil, or_false] at hx
  rcases hx with rfl | rfl
  · exact h1
  · exact h2
theorem betw_twice {c d c' d' : Int} {S : List Int} (h1 : c ≤ c') (h2 : d' ≤ d) : betw c' d' (betw c d S) = betw c' d' S := by
  unfold betw
  rw [List.filter_filter]
  refine List.filter_congr fun p _ => ?_
  by_cases e1 : c' < p <;> by_cases e2 : p < d' <;> simp [e1, e2]
  constructor <;> omega
theorem liesB_iff {c d a b : Int} {R S : List Int} : liesB c d R a b S = true ↔ a ≤ c ∧ d ≤ b ∧ betw c d S = R := by
  unfold liesB
  rw [Bool.and_eq_true, Bool.and_eq_true, decide_eq_true_iff, decide_eq_true_iff, decide_eq_true_iff]
theorem betw_all {n a b : Int} {S : List Int} (h : ArcOk n a b S) : betw a b S = S := List.filter_eq_self.mpr fun p hp => by
  have := h.mem p hp
  rw [decide_eq_true this.1, decide_eq_true this.2]
  rfl
theorem liesB_both {n c d a b : Int} {R S : List Int} (h1 : ArcOk n c d R) (h2 : ArcOk n a b S) : (liesB c d R a b S && liesB a b S c d R) = PyData.eqv (arcD c d R) (arcD a b S) := by
  rw [eqv_arcs, Bool.eq_iff_iff, Bool.and_eq_true, liesB_iff, liesB_iff, Bool.and_eq_true, Bool.and_eq_true, decide_eq_true_iff, decide_eq_true_iff, decide_eq_true_iff]
  constructor
  · rintro ⟨⟨g1, g2, g3⟩, g4, g5, g6⟩
    have e1 : c = a := by omega
    have e2 : d = b := by omega
    subst e1 e2
    rw [betw_all h2] at g3
    exact ⟨rfl, rfl, g3.symm⟩
  · rintro ⟨rfl, rfl, rfl⟩
    exact ⟨⟨Int.le_refl _, Int.le_refl _, betw_all h2⟩, Int.le_refl _, Int.le_refl _, betw_all h2⟩
theorem canLay_arc {a b : Int} {S : List Int} : (arcD a b S).canLay0 = true := by
  simp [arcD, PyData.canLay0, PyData.canLayAll0, canLay_ints]
theorem within_sub {c d a b : Int} {R S : List Int} (h : liesB c d R a b S = true) : ∀ x ∈ withinL c d R, x ∈ withinL a b S := fun x hx => by
  obtain ⟨h1, h2, rfl⟩ := liesB_iff.mp h
  obtain ⟨c', d', i1, i2, i3, rfl⟩ := withinL_mem hx
  rw [betw_twice i1 i3]
  exact withinL_of (by omega) i2 (by omega)
set_option maxHeartbeats 0 in
theorem ok_law (T : Tx K mg) : GOk P w K mg base 7 T.f_law T.d_law ["script"] (SpC K (C_law K)) := by
  refine gfn T.F_law sc_law (fun W es P ⟨_, _, h, _⟩ => by rw [h]; rfl) fun cdv A outer s H E hr => ⟨_, (pss_cons (ps_set (i := 1) sc_law.nd rfl (by first | exact Or.inl rfl | exact Or.inr rfl) (pe_call (ok__law_deck T) (hr.room.mono (by decide)) (by rfl) T.g__law_deck T.F__law_deck.kp T.b__law_deck .nil pass0 (pa_cons (pv 0) pa_nil)))
      (pss_cons (ps_for PassesOwn.never rfl (pi_range1 rfl T.m_range (pa_cons pe_int pa_nil)) (pg_name (i := 2) sc_law.nd rfl (by first | exact Or.inl rfl | exact Or.inr rfl)) (pss_cons (ps_set (i := 3) sc_law.nd rfl (by first | exact Or.inl rfl | exact Or.inr rfl) (pe_call (ok__law_pick T) (hr.room.mono (by decide)) (by rfl) T.g__law_pick T.F__law_pick.kp T.b__law_pick .nil pass0 (pa_cons (pv 1) (pa_cons (pe_lst (pa_cons pe_int (pa_cons pe_int (pa_cons pe_int (pa_cons pe_int (pa_cons pe_int (pa_cons pe_int (pa_cons pe_int (pa_cons pe_int (pa_cons pe_int (pa_cons (pe_call (ok__law_pick T) (hr.room.mono (by decide)) (by rfl) T.g__law_pick T.F__law_pick.kp T.b__law_pick .nil pass0 (pa_cons (pv 1) (pa_cons (pe_lst (pa_cons pe_int (pa_cons pe_int (pa_cons pe_int pa_nil)))) pa_nil))) pa_nil))))))))))) pa_nil))))
      (pss_cons (ps_set (i := 4) sc_law.nd rfl (by first | exact Or.inl rfl | exact Or.inr rfl) (pe_ifExp (pt_cmpR op_lt (pv 3) pe_int (nomark _)) (pe_call (ok__law_arc T) (hr.room.mono (by decide)) (by rfl) T.g__law_arc T.F__law_arc.kp T.b__law_arc .nil pass0 (pa_cons (pv 1) (pa_cons (pv 3) pa_nil))) (pe_tup (pa_cons pe_int (pa_cons (pe_op (op_addK (K := K) rfl) pe_int (pe_call (ok__law_draw T) (hr.room.mono (by decide)) (by rfl) T.g__law_draw T.F__law_draw.kp T.b__law_draw .nil pass0 (pa_cons (pv 1) (pa_cons pe_int pa_nil)))) (pa_cons (pe_tup (pa_cons pe_int (pa_cons pe_int pa_nil))) pa_nil))))))
      (pss_cons (ps_par (i := 5) (j := 6) (by rfl) sc_law.nd rfl rfl (by decide) rfl rfl (pa_cons (pe_callB (cr_reprK (K := K) rfl hr.calm hr.room.units) (by rfl) T.m_repr (by decide +kernel) (pa_cons (pv 4) pa_nil)) (pa_cons (pe_call (ok__law_within T) (hr.room.mono (by decide)) (by rfl) T.g__law_within T.F__law_within.kp T.b__law_within .nil pass0 (pa_cons (pv 4) pa_nil)) pa_nil)) (by rfl))
      (pss_cons (ps_set (i := 7) sc_law.nd rfl (by first | exact Or.inl rfl | exact Or.inr rfl) (pe_call (ok_arcs_within T) hr.room (by rfl) T.g_arcs_within T.F_arcs_within.kp T.b_arcs_within .nil pass0 (pa_cons (pv 3) (pa_cons (pv 4) pa_nil))))
      (pss_cons (ps_if (PW.pt (pw_or (pt_cmpR (op_neK (K := K) rfl hr.room.units) (pe_callB (cr_reprK (K := K) rfl hr.calm hr.room.units) (by rfl) T.m_repr (by decide +kernel) (pa_cons (pe_tup (pa_cons (pv 7) (pa_cons (pe_callKw (ok_arcs_within T) hr.room (by rfl) T.g_arcs_within T.F_arcs_within.kp (T.k_arcs_within__arc_n) pass0 (pk_cons (pv 4) (pk_cons (pv 3) pk_nil))) pa_nil))) pa_nil)) (pe_callB (cr_reprK (K := K) rfl hr.calm hr.room.units) (by rfl) T.m_repr (by decide +kernel) (pa_cons (pe_tup (pa_cons (pv 6) (pa_cons (pv 6) pa_nil))) pa_nil)) (nomark _)) (pw_or1 (pt_cmpR (op_neK (K := K) rfl hr.room.units) (pe_op op_mulX pe_int (pe_callB (cr_lenK (K := K) rfl) (by rfl) T.m_len (by decide +kernel) (pa_cons (pv 7) pa_nil))) (pe_op op_mulX (pe_op op_sub (pe_ix (ix_K (K := K) rfl) (pv 4) pe_int (fun _ _ => rfl)) (pe_ix (ix_K (K := K) rfl) (pv 4) pe_int (fun _ _ => rfl))) (pe_op (op_addK (K := K) rfl) (pe_op op_sub (pe_ix (ix_K (K := K) rfl) (pv 4) pe_int (fun _ _ => rfl)) (pe_ix (ix_K (K := K) rfl) (pv 4) pe_int (fun _ _ => rfl))) pe_int)) (nomark _))))) (pss_one (ps_ret pe_bl)) pss_nil)
      (pss_cons (ps_for PassesOwn.never rfl (pi_range1 rfl T.m_range (pa_cons pe_int pa_nil)) (pg_name (i := 8) sc_law.nd rfl (by first | exact Or.inl rfl | exact Or.inr rfl)) (pss_cons (ps_par (i := 9) (j := 10) (by rfl) sc_law.nd rfl rfl (by decide) rfl rfl (pa_cons (pe_call (ok__law_near T) (hr.room.mono (by decide)) (by rfl) T.g__law_near T.F__law_near.kp T.b__law_near .nil pass0 (pa_cons (pv 1) (pa_cons (pv 4) (pa_cons (pv 3) pa_nil)))) (pa_cons (pv 4) pa_nil)) (by rfl))
      (pss_cons (ps_if (pt_cmpR op_gt (pv 8) pe_int (nomark _)) (pss_one (ps_set (i := 10) sc_law.nd rfl (by first | exact Or.inl rfl | exact Or.inr rfl) (pe_call (ok__law_near T) (hr.room.mono (by decide)) (by rfl) T.g__law_near T.F__law_near.kp T.b__law_near .nil pass0 (pa_cons (pv 1) (pa_cons (pv 4) (pa_cons (pv 3) pa_nil)))))) pss_nil)
      (pss_cons (ps_set (i := 11) sc_law.nd rfl (by first | exact Or.inl rfl | exact Or.inr rfl) (pe_call (ok__law_lies T) (hr.room.mono (by decide)) (by rfl) T.g__law_lies T.F__law_lies.kp T.b__law_lies .nil pass0 (pa_cons (pv 9) (pa_cons (pv 10) pa_nil))))
      (pss_cons (ps_if (pt_cmpR (op_neK (K := K) rfl hr.room.units) (pe_callB (cr_reprK (K := K) rfl hr.calm hr.room.units) (by rfl) T.m_repr (by decide +kernel) (pa_cons (pe_tup (pa_cons (pe_call (ok_lies_within T) hr.room (by rfl) T.g_lies_within T.F_lies_within.kp T.b_lies_within .nil pass0 (pa_cons (pv 3) (pa_cons (pv 9) (pa_cons (pv 10) pa_nil)))) (pa_cons (pe_callKw (ok_lies_within T) hr.room (by rfl) T.g_lies_within T.F_lies_within.kp (T.k_lies_within__other_one_n) pass0 (pk_cons (pv 10) (pk_cons (pv 9) (pk_cons (pv 3) pk_nil)))) pa_nil))) pa_nil)) (pe_callB (cr_reprK (K := K) rfl hr.calm hr.room.units) (by rfl) T.m_repr (by decide +kernel) (pa_cons (pe_tup (pa_cons (pv 11) (pa_cons (pv 11) pa_nil))) pa_nil)) (nomark _)) (pss_one (ps_ret pe_bl)) pss_nil)
      (pss_cons (ps_if (PW.pt (pw_and (pt_cmpR op_lt (pv 8) pe_int (nomark _)) (pw_and (pt_truK (K := K) rfl (pv 11) (by intro _; rfl)) (pw_and1 (pt_cmpR (op_neK (K := K) rfl hr.room.units) (pe_lc (own := [("some", 12)]) rfl sc_law.nd (pi_seqK (K := K) rfl (pe_call (ok_arcs_within T) hr.room (by rfl) T.g_arcs_within T.F_arcs_within.kp T.b_arcs_within .nil pass0 (pa_cons (pv 3) (pa_cons (pv 9) pa_nil)))) (blkOk_by (N := N_law) (sc := defScope s_law) (by decide +kernel)) (fun _ _ _ _ _ => (pg_name (i := 12) sc_law.nd rfl (by first | exact Or.inl rfl | exact Or.inr rfl))) (fun _ _ _ _ _ => (pts_one (pt_cmpR (op_notInK (K := K) rfl (hu65 hr.room)) (pv 12) (pv 7) (by rfl)))) (fun _ _ _ _ _ => pe_int)) (pe_lst pa_nil) (nomark _)))))) (pss_one (ps_ret pe_bl)) pss_nil)
      (pss_one (ps_if (pt_cmpR (op_neK (K := K) rfl hr.room.units) (pe_and (pv 11) (pe_one (pe_call (ok_lies_within T) hr.room (by rfl) T.g_lies_within T.F_lies_within.kp T.b_lies_within .nil pass0 (pa_cons (pv 3) (pa_cons (pv 10) (pa_cons (pv 9) pa_nil)))))) (pe_cmpR (op_eqK (K := K) rfl hr.room.units) (pv 9) (pv 10) (nomark _)) (nomark _)) (pss_one (ps_ret pe_bl)) pss_nil))))))))
      (pss_one (ps_if (pt_cmpR (op_neK (K := K) rfl hr.room.units) (pe_callB (cr_reprK (K := K) rfl hr.calm hr.room.units) (by rfl) T.m_repr (by decide +kernel) (pa_cons (pv 4) pa_nil)) (pv 5) (nomark _)) (pss_one (ps_ret pe_bl)) pss_nil)))))))))
      (pss_one (ps_ret pe_bl)))), fun W es P hC => ?_⟩
  obtain ⟨a0, ns, rfl, hl, rfl, q⟩ := hC
  try dsimp only [cx_K, cx_w]
  refine ds_seq (ds_deck rfl hl fun W dk ck hk hle => ?_)
  refine ds_seq (ds_for ?_)
  walk_at "ka"
  refine ⟨by decide, fun i W' Δ' => W' = W ∧ ∃ x2 x3 x4 x5 x6 x7 x8 x9 x10 x11, Δ' = [some (.raw (.ref a0)), some (.raw (.ref dk)), x2, x3, x4, x5, x6, x7, x8, x9, x10, x11, none], ⟨rfl, none, none, none, none, none, none, none, none, none, none, rfl⟩, ?_, ?_⟩
  · rintro i e W' Δ' he ⟨rfl, x2, x3, x4, x5, x6, x7, x8, x9, x10, x11, rfl⟩
    obtain ⟨hi, rfl⟩ := rgN_at he
    refine ⟨_, _, tg_name, ?_⟩
    refine ds_cut (fun W2 Δ2 => W2 = W' ∧ ∃ n : Int, (n = 40 ∨ 2 ≤ n ∧ n ≤ 9) ∧ Δ2 = [some (.raw (.ref a0)), some (.raw (.ref dk)), some (.dat (.int (0 + i))), some (.dat (.int n)), x4, x5, x6, x7, x8, x9, x10, x11, none]) ?_ ?_
    · walk_at "ka"
      refine ⟨dk, ck, _, _, rfl, .inl rfl, hk, by simp, by simp, fun x hx => ?_⟩
      walk_at "ka"
      refine ⟨dk, ck, _, _, rfl, .inl rfl, hk, by simp, by simp, fun y hy => ⟨rfl, ?_⟩⟩
      obtain ⟨n, rfl, hn⟩ : ∃ n : Int, y = .int n ∧ (n = 40 ∨ 2 ≤ n ∧ n ≤ 9) := by
        simp only [List.mem_cons, List.not_mem_nil, or_false] at hx hy
        rcases hy with rfl | rfl | rfl | rfl | rfl | rfl | rfl | rfl | rfl | rfl
        all_goals first
          | exact ⟨_, rfl, .inr ⟨by decide, by decide⟩⟩
          | skip
        rcases hx with rfl | rfl | rfl
        · exact ⟨_, rfl, .inr ⟨by decide, by decide⟩⟩
        · exact ⟨_, rfl, .inl rfl⟩
        · exact ⟨_, rfl, .inr ⟨by decide, by decide⟩⟩
      exact ⟨n, hn, rfl⟩
    · rintro W2 Δ2 ⟨rfl, n, hn, rfl⟩
      refine ds_cut (fun W3 Δ3 => W3 = W2 ∧ ∃ a b S, ArcSmall n a b S ∧ Δ3 = [some (.raw (.ref a0)), some (.raw (.ref dk)), some (.dat (.int (0 + i))), some (.dat (.int n)), some (.dat (arcD a b S)), x5, x6, x7, x8, x9, x10, x11, none]) ?_ ?_
      · walk_at "ka"
        refine ⟨fun e => ?_, fun e => ?_⟩
        · have e : n < 40 := of_decide_eq_true e
          walk_at "ka"
          refine ⟨dk, ck, n, rfl, hk, by omega, by omega, fun a b S ha => ⟨rfl, a, b, S, ⟨ha, by omega, ?_, ?_⟩, rfl⟩⟩
          · have h1 := ha.lo
            have h2 := ha.hi
            omega
          · have h0 := ha.len
            have h1 := ha.lo
            have h2 := ha.hi
            omega
        · have e : ¬ n < 40 := of_decide_eq_false e
          walk_at "ka"
          refine ⟨dk, ck, 8, rfl, hk, by omega, by omega, fun r r1 r2 => ?_⟩
          walk_at "ka"
          refine ⟨rfl, 1, 12 + r, [5, 9], ⟨⟨by omega, by omega, by omega, by simp, fun p hp => ?_⟩, by omega, by omega, by simp⟩, rfl⟩
          simp only [List.mem_cons, List.not_mem_nil, or_false] at hp
          omega
      · rintro W3 Δ3 ⟨rfl, a, b, S, ha, rfl⟩
        walk_at "ka"
        have g1 := ha.ok.lo
        have g2 := ha.ok.lt
        have g3 := ha.ok.hi
        have g4 := ha.top
        have g5 := ha.way
        have g6 := ha.few
        have hs := sh_arc (a := a) (b := b) (S := S) (by omega) (by omega) g6 fun p hp => ha.mem hp
        have hw := sh_within ha
        have hl2 : (withinD a b S).length ≤ 720 := by
          rw [withinD_len]
          have := withinL_le (S := S) (a := a) (b := b) (by omega)
          omega
        refine cal_reprS hs (by decide) (by decide) ?_
        walk_at "ka"
        refine ⟨a, b, S, rfl, by omega, by omega, by omega, by omega, ?_⟩
        walk_at "ka"
        refine ⟨_, _, rfl, ?_⟩
        walk_at "ka"
        refine ⟨n, a, b, S, rfl, g4, ha.ok, ?_⟩
        refine dq_pass ?_ ?_
        · walk_at "ka"
          refine ⟨n, a, b, S, rfl, g4, ha.ok, ?_⟩
          walk_at "ka"
          refine cal_reprS (sh_pair hw hw) (by decide) (by decide) ?_
          walk_at "ka"
          refine cal_reprS (sh_pair hw hw) (by decide) (by decide) ?_
          refine opd_neS ⟨_, rfl, fun _ => ?_, fun e => ?_⟩
          · walk_at "ka"
            refine opd_mulI (.inl ⟨by decide, by decide⟩) ?_
            walk_at "ka"
            refine opd_ixT (atI_nat (j := 1) rfl) ?_
            walk_at "ka"
            refine opd_ixT (atI_nat (j := 0) rfl) ?_
            walk_at "ka"
            refine opd_ixT (atI_nat (j := 1) rfl) ?_
            walk_at "ka"
            refine opd_ixT (atI_nat (j := 0) rfl) ?_
            walk_at "ka"
            refine opd_mulI (.inl ⟨by omega, by omega⟩) ?_
            refine opd_neI ⟨_, rfl, ?_⟩
            rw [within_len g2, decide_eq_true rfl]
            rfl
          · rw [decide_eq_true rfl] at e
            cases e
        refine ds_seq (ds_for ?_)
        walk_at "ka"
        refine ⟨by decide, fun j W' Δ' => W' = W3 ∧ ∃ y8 y9 y10 y11, Δ' = [some (.raw (.ref a0)), some (.raw (.ref dk)), some (.dat (.int (0 + i))), some (.dat (.int n)), some (.dat (arcD a b S)), some (.dat (.str (arcD a b S).shown)), some (.dat (.tuple (withinD a b S))), some (.dat (.tuple (withinD a b S))), y8, y9, y10, y11, none], ⟨rfl, x8, x9, x10, x11, rfl⟩, ?_, ?_⟩
        · rintro j e W' Δ' he ⟨rfl, y8, y9, y10, y11, rfl⟩
          obtain ⟨hj, rfl⟩ := rgN_at he
          refine ⟨_, _, tg_name, ?_⟩
          walk_at "ka"
          refine ⟨dk, ck, n, a, b, S, rfl, hk, by omega, g4, ha.ok, fun c1 d1 R ho => ?_⟩
          walk_at "ka"
          refine ⟨_, _, rfl, ?_⟩
          refine ds_cut (fun W5 Δ5 => W5 = W' ∧ ∃ a' b' S', ArcOk n a' b' S' ∧ ((j : Int) ≤ 4 → a' = a ∧ b' = b ∧ S' = S) ∧ Δ5 = [some (.raw (.ref a0)), some (.raw (.ref dk)), some (.dat (.int (0 + i))), some (.dat (.int n)), some (.dat (arcD a b S)), some (.dat (.str (arcD a b S).shown)), some (.dat (.tuple (withinD a b S))), some (.dat (.tuple (withinD a b S))), some (.dat (.int (0 + j))), some (.dat (arcD c1 d1 R)), some (.dat (arcD a' b' S')), y11, none]) ?_ ?_
          · walk_at "ka"
            refine ⟨fun e => ?_, fun e => ?_⟩
            · walk_at "ka"
              have e : (4 : Int) < 0 + j := of_decide_eq_true e
              refine ⟨dk, ck, n, a, b, S, rfl, hk, by omega, g4, ha.ok, fun a' b' S' h' => ⟨rfl, a', b', S', h', fun z => ?_, rfl⟩⟩
              omega
            · exact ds_next ⟨rfl, a, b, S, ha.ok, fun _ => ⟨rfl, rfl, rfl⟩, rfl⟩
          · rintro W5 Δ5 ⟨rfl, a', b', S', ho', hsame, rfl⟩
            have k6 := ho'.len
            have k2 := ho'.lo
            have k3 := ho'.hi
            walk_at "ka"
            refine ⟨c1, d1, R, a', b', S', rfl, by omega, ?_⟩
            refine dq_pass ?_ ?_
            · walk_at "ka"
              refine ⟨n, c1, d1, R, a', b', S', rfl, g4, ho, ho', ?_⟩
              walk_at "ka"
              refine ⟨n, c1, d1, R, a', b', S', rfl, g4, ho, ho', ?_⟩
              walk_at "ka"
              refine cal_reprS (sh_pair (sh_bool _ 0 0) (sh_bool _ 0 0)) (by decide) (by decide) ?_
              walk_at "ka"
              refine cal_reprS (sh_pair (sh_bool _ 0 0) (sh_bool _ 0 0)) (by decide) (by decide) ?_
              refine opd_neS ⟨_, rfl, ?_⟩
              rw [decide_eq_true rfl]
              rfl
            refine dq_pass ?_ ?_
            · walk_at "ka"
              refine ⟨fun e => ?_, fun e => rfl⟩
              have e : (0 : Int) + j < 2 := of_decide_eq_true e
              obtain ⟨rfl, rfl, rfl⟩ := hsame (by omega)
              walk_at "ka"
              refine ⟨nofun, fun e2 => ?_, fun _ => rfl⟩
              have e2 : liesB c1 d1 R a' b' S' = true := e2
              have o1 := ho.lo
              have o2 := ho.hi
              walk_at "ka"
              refine de_lcM (withinD c1 d1 R) (fun x => DV.dat x) (fun _ => false) (fun _ => .int 1) (di_seqT ?_) ?_ ?_ ?_
              · walk_at "ka"
                exact ⟨n, c1, d1, R, rfl, g4, ho, _, rfl, rfl⟩
              · rw [withinD_len]
                have := withinL_le (S := R) (a := c1) (b := d1) (by omega)
                omega
              · intro x hx W' hW
                refine ⟨_, _, tg_name, by simp, ?_⟩
                walk_at "ka"
                have hx := List.mem_mergeSort.mp hx
                have hx2 := within_sub e2 x hx
                obtain ⟨c, d, _, _, _, rfl⟩ := withinL_mem hx
                refine opd_niT shaped_arc (canLay_all fun z hz => ?_) ⟨_, rfl, ?_, nofun⟩
                · obtain ⟨c, d, _, _, _, rfl⟩ := withinL_mem (List.mem_mergeSort.mp hz)
                  exact canLay_arc
                · have : ((withinD a' b' S').any fun z => PyData.eqv z (arcD c d (betw c d R))) = true := List.any_eq_true.mpr ⟨_, List.mem_mergeSort.mpr hx2, by rw [eqv_arcs, decide_eq_true rfl, decide_eq_true rfl, decide_eq_true rfl]; rfl⟩
                  rw [this]
                  rfl
              · walk_at "ka"
                rw [List.filter_eq_nil_iff.mpr (fun _ _ => Bool.false_ne_true)]
                exact opd_ne (by rfl) (by rfl) ⟨_, rfl, rfl⟩
            refine ds_pass ?_ ⟨rfl, _, _, _, _, rfl⟩
            walk_at "ka"
            have both := liesB_both ho ho'
            refine ⟨fun e => ?_, fun e => ?_⟩
            · walk_at "ka"
              refine ⟨n, a', b', S', c1, d1, R, rfl, g4, ho', ho, ?_⟩
              walk_at "ka"
              refine opd_eq shaped_arc shaped_arc (opd_neB ⟨_, rfl, ?_⟩)
              rw [e, Bool.true_and] at both
              rw [both, decide_eq_true rfl]
              rfl
            · walk_at "ka"
              refine opd_eq shaped_arc shaped_arc (opd_neB ⟨_, rfl, ?_⟩)
              rw [e, Bool.false_and] at both
              rw [← both, decide_eq_true rfl]
              rfl
        · rintro W' Δ' ⟨rfl, y8, y9, y10, y11, rfl⟩
          refine ds_pass ?_ ⟨rfl, _, _, _, _, _, _, _, _, _, _, rfl⟩
          walk_at "ka"
          refine cal_reprS hs (by decide) (by decide) ?_
          walk_at "ka"
          refine opd_neS ⟨_, rfl, ?_⟩
          rw [decide_eq_true rfl]
          rfl
  · rintro W' Δ' ⟨rfl, x2, x3, x4, x5, x6, x7, x8, x9, x10, x11, rfl⟩
    walk_at "ka"
    exact ⟨hle, q⟩
theorem law_starts : ∀ (K : PySem.W.Frag) (H : Hp) (a : Addr) (ns : List Int), ns.length ≤ 63 → Only H → SqL K H a (ns.map V.int) → SpC K (C_law K) [.ref a] H (fun v _ => v = .bl true) fun _ _ _ => False :=
  fun K H a ns hl _ hS => law_start (fun a ns hl => ⟨a, ns, rfl, hl, rfl, rfl⟩) hl hS

end
theorem all_mk {l : PySem.W.OpenLaw} {w : World} {K : PySem.W.Frag} {h : Heap} {mg : Str → Option Value} {fa : Addr} (X : K.In h) (G : h.Ns mainGlobals mg) (hfa : mg "law" = some (.ref fa))
    {f0 : Addr} {od0 an0 : Option Addr} {sl0 : Array (Option Value)} {oc0 kV0 dc0 pm0 cd0 ct0 : Value}
    (a0 : PySem.W.nsIn K mainGlobals "is_number" = some (some (.ref f0))) (l0 : K.lookup f0 = some ⟨oc0, od0, .func (PySem.W.fnOf "is_number" "is_number" (defArgs s_is_number) (defBody s_is_number) (defScope s_is_number) .none kV0 dc0 pm0 an0 cd0 ct0), sl0⟩) (c0 : PySem.W.codeIn K cd0 "is_number" = true) (k0 : PySem.W.keepIn K (.ref f0) = true)
    {f1 : Addr} {od1 an1 : Option Addr} {sl1 : Array (Option Value)} {oc1 kV1 dc1 pm1 cd1 ct1 : Value}
    (a1 : PySem.W.nsIn K mainGlobals "is_number_from" = some (some (.ref f1))) (l1 : K.lookup f1 = some ⟨oc1, od1, .func (PySem.W.fnOf "is_number_from" "is_number_from" (defArgs s_is_number_from) (defBody s_is_number_from) (defScope s_is_number_from) .none kV1 dc1 pm1 an1 cd1 ct1), sl1⟩) (c1 : PySem.W.codeIn K cd1 "is_number_from" = true) (k1 : PySem.W.keepIn K (.ref f1) = true)
    {f2 : Addr} {od2 an2 : Option Addr} {sl2 : Array (Option Value)} {oc2 kV2 dc2 pm2 cd2 ct2 : Value}
    (a2 : PySem.W.nsIn K mainGlobals "are_numbers" = some (some (.ref f2))) (l2 : K.lookup f2 = some ⟨oc2, od2, .func (PySem.W.fnOf "are_numbers" "are_numbers" (defArgs s_are_numbers) (defBody s_are_numbers) (defScope s_are_numbers) .none kV2 dc2 pm2 an2 cd2 ct2), sl2⟩) (c2 : PySem.W.codeIn K cd2 "are_numbers" = true) (k2 : PySem.W.keepIn K (.ref f2) = true)
    {f3 : Addr} {od3 an3 : Option Addr} {sl3 : Array (Option Value)} {oc3 kV3 dc3 pm3 cd3 ct3 : Value}
    (a3 : PySem.W.nsIn K mainGlobals "are_ascending_numbers" = some (some (.ref f3))) (l3 : K.lookup f3 = some ⟨oc3, od3, .func (PySem.W.fnOf "are_ascending_numbers" "are_ascending_numbers" (defArgs s_are_ascending_numbers) (defBody s_are_ascending_numbers) (defScope s_are_ascending_numbers) .none kV3 dc3 pm3 an3 cd3 ct3), sl3⟩) (c3 : PySem.W.codeIn K cd3 "are_ascending_numbers" = true) (k3 : PySem.W.keepIn K (.ref f3) = true)
    {f4 : Addr} {od4 an4 : Option Addr} {sl4 : Array (Option Value)} {oc4 kV4 dc4 pm4 cd4 ct4 : Value}
    (a4 : PySem.W.nsIn K mainGlobals "is_arc" = some (some (.ref f4))) (l4 : K.lookup f4 = some ⟨oc4, od4, .func (PySem.W.fnOf "is_arc" "is_arc" (defArgs s_is_arc) (defBody s_is_arc) (defScope s_is_arc) .none kV4 dc4 pm4 an4 cd4 ct4), sl4⟩) (c4 : PySem.W.codeIn K cd4 "is_arc" = true) (k4 : PySem.W.keepIn K (.ref f4) = true)
    {f5 : Addr} {od5 an5 : Option Addr} {sl5 : Array (Option Value)} {oc5 kV5 dc5 pm5 cd5 ct5 : Value}
    (a5 : PySem.W.nsIn K mainGlobals "check_arc" = some (some (.ref f5))) (l5 : K.lookup f5 = some ⟨oc5, od5, .func (PySem.W.fnOf "check_arc" "check_arc" (defArgs s_check_arc) (defBody s_check_arc) (defScope s_check_arc) .none kV5 dc5 pm5 an5 cd5 ct5), sl5⟩) (c5 : PySem.W.codeIn K cd5 "check_arc" = true) (k5 : PySem.W.keepIn K (.ref f5) = true)
    {f6 : Addr} {od6 an6 : Option Addr} {sl6 : Array (Option Value)} {oc6 kV6 dc6 pm6 cd6 ct6 : Value}
    (a6 : PySem.W.nsIn K mainGlobals "narrowed" = some (some (.ref f6))) (l6 : K.lookup f6 = some ⟨oc6, od6, .func (PySem.W.fnOf "narrowed" "narrowed" (defArgs s_narrowed) (defBody s_narrowed) (defScope s_narrowed) .none kV6 dc6 pm6 an6 cd6 ct6), sl6⟩) (c6 : PySem.W.codeIn K cd6 "narrowed" = true) (k6 : PySem.W.keepIn K (.ref f6) = true)
    {f7 : Addr} {od7 an7 : Option Addr} {sl7 : Array (Option Value)} {oc7 kV7 dc7 pm7 cd7 ct7 : Value}
    (a7 : PySem.W.nsIn K mainGlobals "arcs_within" = some (some (.ref f7))) (l7 : K.lookup f7 = some ⟨oc7, od7, .func (PySem.W.fnOf "arcs_within" "arcs_within" (defArgs s_arcs_within) (defBody s_arcs_within) (defScope s_arcs_within) .none kV7 dc7 pm7 an7 cd7 ct7), sl7⟩) (c7 : PySem.W.codeIn K cd7 "arcs_within" = true) (k7 : PySem.W.keepIn K (.ref f7) = true)
    {f8 : Addr} {od8 an8 : Option Addr} {sl8 : Array (Option Value)} {oc8 kV8 dc8 pm8 cd8 ct8 : Value}
    (a8 : PySem.W.nsIn K mainGlobals "lies_within" = some (some (.ref f8))) (l8 : K.lookup f8 = some ⟨oc8, od8, .func (PySem.W.fnOf "lies_within" "lies_within" (defArgs s_lies_within) (defBody s_lies_within) (defScope s_lies_within) .none kV8 dc8 pm8 an8 cd8 ct8), sl8⟩) (c8 : PySem.W.codeIn K cd8 "lies_within" = true) (k8 : PySem.W.keepIn K (.ref f8) = true)
    {f9 : Addr} {od9 an9 : Option Addr} {sl9 : Array (Option Value)} {oc9 kV9 dc9 pm9 cd9 ct9 : Value}
    (a9 : PySem.W.nsIn K mainGlobals "_law_deck" = some (some (.ref f9))) (l9 : K.lookup f9 = some ⟨oc9, od9, .func (PySem.W.fnOf "_law_deck" "_law_deck" (defArgs s__law_deck) (defBody s__law_deck) (defScope s__law_deck) .none kV9 dc9 pm9 an9 cd9 ct9), sl9⟩) (c9 : PySem.W.codeIn K cd9 "_law_deck" = true) (k9 : PySem.W.keepIn K (.ref f9) = true)
    {f10 : Addr} {od10 an10 : Option Addr} {sl10 : Array (Option Value)} {oc10 kV10 dc10 pm10 cd10 ct10 : Value}
    (a10 : PySem.W.nsIn K mainGlobals "_law_draw" = some (some (.ref f10))) (l10 : K.lookup f10 = some ⟨oc10, od10, .func (PySem.W.fnOf "_law_draw" "_law_draw" (defArgs s__law_draw) (defBody s__law_draw) (defScope s__law_draw) .none kV10 dc10 pm10 an10 cd10 ct10), sl10⟩) (c10 : PySem.W.codeIn K cd10 "_law_draw" = true) (k10 : PySem.W.keepIn K (.ref f10) = true)
    {f11 : Addr} {od11 an11 : Option Addr} {sl11 : Array (Option Value)} {oc11 kV11 dc11 pm11 cd11 ct11 : Value}
    (a11 : PySem.W.nsIn K mainGlobals "_law_pick" = some (some (.ref f11))) (l11 : K.lookup f11 = some ⟨oc11, od11, .func (PySem.W.fnOf "_law_pick" "_law_pick" (defArgs s__law_pick) (defBody s__law_pick) (defScope s__law_pick) .none kV11 dc11 pm11 an11 cd11 ct11), sl11⟩) (c11 : PySem.W.codeIn K cd11 "_law_pick" = true) (k11 : PySem.W.keepIn K (.ref f11) = true)
    {f12 : Addr} {od12 an12 : Option Addr} {sl12 : Array (Option Value)} {oc12 kV12 dc12 pm12 cd12 ct12 : Value}
    (a12 : PySem.W.nsIn K mainGlobals "_law_arc" = some (some (.ref f12))) (l12 : K.lookup f12 = some ⟨oc12, od12, .func (PySem.W.fnOf "_law_arc" "_law_arc" (defArgs s__law_arc) (defBody s__law_arc) (defScope s__law_arc) .none kV12 dc12 pm12 an12 cd12 ct12), sl12⟩) (c12 : PySem.W.codeIn K cd12 "_law_arc" = true) (k12 : PySem.W.keepIn K (.ref f12) = true)
    {f13 : Addr} {od13 an13 : Option Addr} {sl13 : Array (Option Value)} {oc13 kV13 dc13 pm13 cd13 ct13 : Value}
    (a13 : PySem.W.nsIn K mainGlobals "_law_within" = some (some (.ref f13))) (l13 : K.lookup f13 = some ⟨oc13, od13, .func (PySem.W.fnOf "_law_within" "_law_within" (defArgs s__law_within) (defBody s__law_within) (defScope s__law_within) .none kV13 dc13 pm13 an13 cd13 ct13), sl13⟩) (c13 : PySem.W.codeIn K cd13 "_law_within" = true) (k13 : PySem.W.keepIn K (.ref f13) = true)
    {f14 : Addr} {od14 an14 : Option Addr} {sl14 : Array (Option Value)} {oc14 kV14 dc14 pm14 cd14 ct14 : Value}
    (a14 : PySem.W.nsIn K mainGlobals "_law_lies" = some (some (.ref f14))) (l14 : K.lookup f14 = some ⟨oc14, od14, .func (PySem.W.fnOf "_law_lies" "_law_lies" (defArgs s__law_lies) (defBody s__law_lies) (defScope s__law_lies) .none kV14 dc14 pm14 an14 cd14 ct14), sl14⟩) (c14 : PySem.W.codeIn K cd14 "_law_lies" = true) (k14 : PySem.W.keepIn K (.ref f14) = true)
    {f15 : Addr} {od15 an15 : Option Addr} {sl15 : Array (Option Value)} {oc15 kV15 dc15 pm15 cd15 ct15 : Value}
    (a15 : PySem.W.nsIn K mainGlobals "_law_near" = some (some (.ref f15))) (l15 : K.lookup f15 = some ⟨oc15, od15, .func (PySem.W.fnOf "_law_near" "_law_near" (defArgs s__law_near) (defBody s__law_near) (defScope s__law_near) .none kV15 dc15 pm15 an15 cd15 ct15), sl15⟩) (c15 : PySem.W.codeIn K cd15 "_law_near" = true) (k15 : PySem.W.keepIn K (.ref f15) = true)
    {f16 : Addr} {od16 an16 : Option Addr} {sl16 : Array (Option Value)} {oc16 kV16 dc16 pm16 cd16 ct16 : Value}
    (a16 : PySem.W.nsIn K mainGlobals "law" = some (some (.ref f16))) (l16 : K.lookup f16 = some ⟨oc16, od16, .func (PySem.W.fnOf "law" "law" (defArgs s_law) (defBody s_law) (defScope s_law) .none kV16 dc16 pm16 an16 cd16 ct16), sl16⟩) (c16 : PySem.W.codeIn K cd16 "law" = true) (k16 : PySem.W.keepIn K (.ref f16) = true)
    (z0 : PySem.W.nsIn K mainGlobals "all" = some none)
    (z1 : PySem.W.nsIn K mainGlobals "bool" = some none)
    (z2 : PySem.W.nsIn K mainGlobals "int" = some none)
    (z3 : PySem.W.nsIn K mainGlobals "isinstance" = some none)
    (z4 : PySem.W.nsIn K mainGlobals "len" = some none)
    (z5 : PySem.W.nsIn K mainGlobals "list" = some none)
    (z6 : PySem.W.nsIn K mainGlobals "max" = some none)
    (z7 : PySem.W.nsIn K mainGlobals "range" = some none)
    (z8 : PySem.W.nsIn K mainGlobals "repr" = some none)
    (z9 : PySem.W.nsIn K mainGlobals "set" = some none)
    (z10 : PySem.W.nsIn K mainGlobals "sorted" = some none)
    (z11 : PySem.W.nsIn K mainGlobals "tuple" = some none)
    : ∃ fd : FuncData, (∀ (s : Shared) (v : Value), BindsTo s fd ⟨[v], []⟩ [("script", v)]) ∧ ∀ base : Heap, K.In base → base.Ns mainGlobals mg → GOk l.prog w K mg base 7 fa fd ["script"] (SpC K (C_law K)) := by
  have e := hfa.symm.trans (PySem.W.mg_of X G a16)
  cases e
  have F0 := fun_mk (st := s_is_number) l0 c0 k0
  have F1 := fun_mk (st := s_is_number_from) l1 c1 k1
  have F2 := fun_mk (st := s_are_numbers) l2 c2 k2
  have F3 := fun_mk (st := s_are_ascending_numbers) l3 c3 k3
  have F4 := fun_mk (st := s_is_arc) l4 c4 k4
  have F5 := fun_mk (st := s_check_arc) l5 c5 k5
  have F6 := fun_mk (st := s_narrowed) l6 c6 k6
  have F7 := fun_mk (st := s_arcs_within) l7 c7 k7
  have F8 := fun_mk (st := s_lies_within) l8 c8 k8
  have F9 := fun_mk (st := s__law_deck) l9 c9 k9
  have F10 := fun_mk (st := s__law_draw) l10 c10 k10
  have F11 := fun_mk (st := s__law_pick) l11 c11 k11
  have F12 := fun_mk (st := s__law_arc) l12 c12 k12
  have F13 := fun_mk (st := s__law_within) l13 c13 k13
  have F14 := fun_mk (st := s__law_lies) l14 c14 k14
  have F15 := fun_mk (st := s__law_near) l15 c15 k15
  have F16 := fun_mk (st := s_law) l16 c16 k16
  have kb_arcs_within__arc_n : ∀ (kV doc pm : Value) (an : Option Addr) (cdv ct : Value) (us ws : List Value), (perm 2 [1, 0] us ws).length = (["n", "arc"] : List Str).length → bindArgs (PySem.W.fnOf "arcs_within" "arcs_within" (defArgs s_arcs_within) (defBody s_arcs_within) (defScope s_arcs_within) .none kV doc pm an cdv ct) ⟨us, (["arc", "n"] : List Str).zip ws⟩ = pure ((["n", "arc"] : List Str).zip (perm 2 [1, 0] us ws)) := by
    intro kV doc pm an cdv ct us ws hl
    obtain ⟨rfl, hw⟩ := perm_len (by decide) hl
    match ws, hw with
    | [_, _], _ => rfl
  have kb_lies_within__other_one_n : ∀ (kV doc pm : Value) (an : Option Addr) (cdv ct : Value) (us ws : List Value), (perm 3 [2, 1, 0] us ws).length = (["n", "one", "other"] : List Str).length → bindArgs (PySem.W.fnOf "lies_within" "lies_within" (defArgs s_lies_within) (defBody s_lies_within) (defScope s_lies_within) .none kV doc pm an cdv ct) ⟨us, (["other", "one", "n"] : List Str).zip ws⟩ = pure ((["n", "one", "other"] : List Str).zip (perm 3 [2, 1, 0] us ws)) := by
    intro kV doc pm an cdv ct us ws hl
    obtain ⟨rfl, hw⟩ := perm_len (by decide) hl
    match ws, hw with
    | [_, _, _], _ => rfl
  let T : Tx K mg := {
    f_is_number := f0, d_is_number := _, F_is_number := F0, b_is_number := F0.binds (fun _ _ _ _ _ _ us hl => match us, hl with | [_], _ => rfl), g_is_number := PySem.W.mg_of X G a0,
    f_is_number_from := f1, d_is_number_from := _, F_is_number_from := F1, b_is_number_from := F1.binds (fun _ _ _ _ _ _ us hl => match us, hl with | [_, _, _], _ => rfl), g_is_number_from := PySem.W.mg_of X G a1,
    f_are_numbers := f2, d_are_numbers := _, F_are_numbers := F2, b_are_numbers := F2.binds (fun _ _ _ _ _ _ us hl => match us, hl with | [_], _ => rfl), g_are_numbers := PySem.W.mg_of X G a2,
    f_are_ascending_numbers := f3, d_are_ascending_numbers := _, F_are_ascending_numbers := F3, b_are_ascending_numbers := F3.binds (fun _ _ _ _ _ _ us hl => match us, hl with | [_], _ => rfl), g_are_ascending_numbers := PySem.W.mg_of X G a3,
    f_is_arc := f4, d_is_arc := _, F_is_arc := F4, b_is_arc := F4.binds (fun _ _ _ _ _ _ us hl => match us, hl with | [_, _], _ => rfl), g_is_arc := PySem.W.mg_of X G a4,
    f_check_arc := f5, d_check_arc := _, F_check_arc := F5, b_check_arc := F5.binds (fun _ _ _ _ _ _ us hl => match us, hl with | [_, _], _ => rfl), g_check_arc := PySem.W.mg_of X G a5,
    f_narrowed := f6, d_narrowed := _, F_narrowed := F6, b_narrowed := F6.binds (fun _ _ _ _ _ _ us hl => match us, hl with | [_, _, _], _ => rfl), g_narrowed := PySem.W.mg_of X G a6,
    f_arcs_within := f7, d_arcs_within := _, F_arcs_within := F7, b_arcs_within := F7.binds (fun _ _ _ _ _ _ us hl => match us, hl with | [_, _], _ => rfl), g_arcs_within := PySem.W.mg_of X G a7,
    f_lies_within := f8, d_lies_within := _, F_lies_within := F8, b_lies_within := F8.binds (fun _ _ _ _ _ _ us hl => match us, hl with | [_, _, _], _ => rfl), g_lies_within := PySem.W.mg_of X G a8,
    f__law_deck := f9, d__law_deck := _, F__law_deck := F9, b__law_deck := F9.binds (fun _ _ _ _ _ _ us hl => match us, hl with | [_], _ => rfl), g__law_deck := PySem.W.mg_of X G a9,
    f__law_draw := f10, d__law_draw := _, F__law_draw := F10, b__law_draw := F10.binds (fun _ _ _ _ _ _ us hl => match us, hl with | [_, _], _ => rfl), g__law_draw := PySem.W.mg_of X G a10,
    f__law_pick := f11, d__law_pick := _, F__law_pick := F11, b__law_pick := F11.binds (fun _ _ _ _ _ _ us hl => match us, hl with | [_, _], _ => rfl), g__law_pick := PySem.W.mg_of X G a11,
    f__law_arc := f12, d__law_arc := _, F__law_arc := F12, b__law_arc := F12.binds (fun _ _ _ _ _ _ us hl => match us, hl with | [_, _], _ => rfl), g__law_arc := PySem.W.mg_of X G a12,
    f__law_within := f13, d__law_within := _, F__law_within := F13, b__law_within := F13.binds (fun _ _ _ _ _ _ us hl => match us, hl with | [_], _ => rfl), g__law_within := PySem.W.mg_of X G a13,
    f__law_lies := f14, d__law_lies := _, F__law_lies := F14, b__law_lies := F14.binds (fun _ _ _ _ _ _ us hl => match us, hl with | [_, _], _ => rfl), g__law_lies := PySem.W.mg_of X G a14,
    f__law_near := f15, d__law_near := _, F__law_near := F15, b__law_near := F15.binds (fun _ _ _ _ _ _ us hl => match us, hl with | [_, _, _], _ => rfl), g__law_near := PySem.W.mg_of X G a15,
    f_law := fa, d_law := _, F_law := F16, b_law := F16.binds (fun _ _ _ _ _ _ us hl => match us, hl with | [_], _ => rfl), g_law := PySem.W.mg_of X G a16,
    k_arcs_within__arc_n := Fun_kbinds F7 (kb_arcs_within__arc_n) (perm_rel _ _),
    k_lies_within__other_one_n := Fun_kbinds F8 (kb_lies_within__other_one_n) (perm_rel _ _),
    m_all := PySem.W.mg_none_of X G z0,
    m_bool := PySem.W.mg_none_of X G z1,
    m_int := PySem.W.mg_none_of X G z2,
    m_isinstance := PySem.W.mg_none_of X G z3,
    m_len := PySem.W.mg_none_of X G z4,
    m_list := PySem.W.mg_none_of X G z5,
    m_max := PySem.W.mg_none_of X G z6,
    m_range := PySem.W.mg_none_of X G z7,
    m_repr := PySem.W.mg_none_of X G z8,
    m_set := PySem.W.mg_none_of X G z9,
    m_sorted := PySem.W.mg_none_of X G z10,
    m_tuple := PySem.W.mg_none_of X G z11 }
  exact ⟨_, fun s v => .of_eq rfl, fun base _ _ => ok_law T⟩
end Law
open PySem PySem.W PyProof.Rows
set_option maxHeartbeats 0 in
theorem PySem.Challenge.cw_keptarcs_k08_arcs_within_arcs_holds : PySem.Challenge.rw_keptarcs_k08_arcs_within_arcs.Holds := by
  w_on; o_law; k_head; (case hw => w_witness2)
  k_fill
  refine Ka.walkG (l := PySem.Challenge.rw_keptarcs_k08_arcs_within_arcs) (n := 63) (k := 7) (x := "script") (sp := fun K => Ka.SpC K (Law.C_law K)) rfl (by decide) rfl ⟨⟨rfl, by decide, by decide⟩, rfl⟩ (fun w h Y => PySem.W.kIn_of Y) ?F Law.law_starts
  case F =>
    intro w mg fa h KX G hmg
    refine' Law.all_mk KX G hmg ?a0 ?l0 ?c0 ?k0 ?a1 ?l1 ?c1 ?k1 ?a2 ?l2 ?c2 ?k2 ?a3 ?l3 ?c3 ?k3 ?a4 ?l4 ?c4 ?k4 ?a5 ?l5 ?c5 ?k5 ?a6 ?l6 ?c6 ?k6 ?a7 ?l7 ?c7 ?k7 ?a8 ?l8 ?c8 ?k8 ?a9 ?l9 ?c9 ?k9 ?a10 ?l10 ?c10 ?k10 ?a11 ?l11 ?c11 ?k11 ?a12 ?l12 ?c12 ?k12 ?a13 ?l13 ?c13 ?k13 ?a14 ?l14 ?c14 ?k14 ?a15 ?l15 ?c15 ?k15 ?a16 ?l16 ?c16 ?k16 ?z0 ?z1 ?z2 ?z3 ?z4 ?z5 ?z6 ?z7 ?z8 ?z9 ?z10 ?z11
    (case a0 => k_is); (case l0 => k_is); (case c0 => k_is); (case k0 => k_is); (case a1 => k_is); (case l1 => k_is); (case c1 => k_is); (case k1 => k_is); (case a2 => k_is); (case l2 => k_is); (case c2 => k_is); (case k2 => k_is); (case a3 => k_is); (case l3 => k_is); (case c3 => k_is); (case k3 => k_is); (case a4 => k_is); (case l4 => k_is); (case c4 => k_is); (case k4 => k_is); (case a5 => k_is); (case l5 => k_is); (case c5 => k_is); (case k5 => k_is); (case a6 => k_is); (case l6 => k_is); (case c6 => k_is); (case k6 => k_is); (case a7 => k_is); (case l7 => k_is); (case c7 => k_is); (case k7 => k_is); (case a8 => k_is); (case l8 => k_is); (case c8 => k_is); (case k8 => k_is); (case a9 => k_is); (case l9 => k_is); (case c9 => k_is); (case k9 => k_is); (case a10 => k_is); (case l10 => k_is); (case c10 => k_is); (case k10 => k_is); (case a11 => k_is); (case l11 => k_is); (case c11 => k_is); (case k11 => k_is); (case a12 => k_is); (case l12 => k_is); (case c12 => k_is); (case k12 => k_is); (case a13 => k_is); (case l13 => k_is); (case c13 => k_is); (case k13 => k_is); (case a14 => k_is); (case l14 => k_is); (case c14 => k_is); (case k14 => k_is); (case a15 => k_is); (case l15 => k_is); (case c15 => k_is); (case k15 => k_is); (case a16 => k_is); (case l16 => k_is); (case c16 => k_is); (case k16 => k_is); (case z0 => k_is); (case z1 => k_is); (case z2 => k_is); (case z3 => k_is); (case z4 => k_is); (case z5 => k_is); (case z6 => k_is); (case z7 => k_is); (case z8 => k_is); (case z9 => k_is); (case z10 => k_is); (case z11 => k_is)
