import PyProof.Rows.All
import Wide.All
import OpenK.AllK
import HandS.TupSets
import KE.KeyNested
import KE.KDictKeyed
import HandS.Strs
import KE.SortData
import HandS.Iter
import HandS.Conv
import KE.GoesMore
import HandS.Style
import HandS.List
import HandS.TupAny
import HandS.DictComp
import HandS.DictTup
import PyProof.DictFindH
import Wide.FinOn
import HandS.ForMost
import HandS.Evl
import HandS.Deep
import HandS.IsInst
import HandS.Flow
import HandS.SetFor
import HandS.TupMul
import KE.DataCmp
import HandS.Zip
import KE.GoesSet
import HandS.MapObj
import HandS.RepeatKit
import PySem.Challenge.RW_keptarcs_k14_whole_all_lots
set_option Elab.async false
set_option linter.all false
set_option maxRecDepth 100000
/-! sets of keys of any depth: the table -/
namespace Ks
open PySem PySem.Spec PyProof.Rows L2
/-- a mask of one of the sizes that a table takes -/
def Mk (m : Nat) : Prop := ∃ k, 3 ≤ k ∧ k ≤ 13 ∧ m + 1 = 2 ^ k
/-- n times: five times and one more -/
def fv : Nat → Nat → Nat
  | 0, x => x
  | n + 1, x => 5 * fv n x + 1
theorem fv_add (x a : Nat) : ∀ b, fv (a + b) x = fv b (fv a x)
  | 0 => rfl
  | b + 1 => by
    show 5 * fv (a + b) x + 1 = 5 * fv b (fv a x) + 1
    rw [fv_add x a b]
theorem fv_lin (x : Nat) : ∀ n, fv n x = 5 ^ n * x + fv n 0
  | 0 => by simp [fv]
  | n + 1 => by
    show 5 * fv n x + 1 = 5 ^ (n + 1) * x + (5 * fv n 0 + 1)
    rw [fv_lin x n, Nat.pow_succ, Nat.mul_add, Nat.mul_comm (5 ^ n) 5, Nat.mul_assoc]
    omega
theorem five_pow : ∀ k, ∃ u, 5 ^ 2 ^ k = 1 + 4 * (2 ^ k * u)
  | 0 => ⟨1, rfl⟩
  | k + 1 => by
    obtain ⟨u, e⟩ := five_pow k
    refine ⟨u + 2 * (2 ^ k * (u * u)), ?_⟩
    have h1 : 5 ^ 2 ^ (k + 1) = 5 ^ 2 ^ k * 5 ^ 2 ^ k := by rw [Nat.pow_succ, Nat.mul_comm, Nat.two_mul, Nat.pow_add]
    have h2 : 2 ^ (k + 1) = 2 * 2 ^ k := by rw [Nat.pow_succ, Nat.mul_comm]
    rw [h1, e, h2]
    generalize 2 ^ k = q
    have h3 : q * u * (q * u) = q * (q * (u * u)) := by rw [Nat.mul_mul_mul_comm, Nat.mul_assoc]
    have h4 : 2 * q * (u + 2 * (q * (u * u))) = 2 * (q * u) + 4 * (q * (q * (u * u))) := by
      rw [Nat.mul_assoc, Nat.mul_add, ← Nat.mul_assoc q 2, Nat.mul_comm q 2, Nat.mul_assoc 2 q]
      omega
    have h5 : (1 + 4 * (q * u)) * (1 + 4 * (q * u)) = 1 + 8 * (q * u) + 16 * (q * u * (q * u)) := by
      generalize q * u = t
      have : 4 * t * (4 * t) = 16 * (t * t) := by rw [Nat.mul_mul_mul_comm]
      rw [Nat.add_mul, Nat.mul_add (4 * t), this]
      omega
    rw [h5, h3, h4]
    omega
theorem fv_pow : ∀ k, ∃ v, fv (2 ^ k) 0 = 2 ^ k * (2 * v + 1)
  | 0 => ⟨0, rfl⟩
  | k + 1 => by
    obtain ⟨v, e⟩ := fv_pow k
    obtain ⟨u, e2⟩ := five_pow k
    have h2 : 2 ^ (k + 1) = 2 ^ k + 2 ^ k := by rw [Nat.pow_succ, Nat.mul_comm, Nat.two_mul]
    have h1 : fv (2 ^ (k + 1)) 0 = (2 + 4 * (2 ^ k * u)) * fv (2 ^ k) 0 := by
      rw [h2, fv_add, fv_lin, e2]
      generalize fv (2 ^ k) 0 = c
      rw [Nat.add_mul, Nat.add_mul, Nat.one_mul]
      omega
    refine ⟨v + 2 ^ k * u * (2 * v + 1), ?_⟩
    rw [h1, e, h2]
    generalize 2 ^ k * u = t
    generalize 2 ^ k = q
    generalize hw : 2 * v + 1 = z
    have h3 : 2 * (v + t * z) + 1 = z + 2 * (t * z) := by omega
    rw [h3]
    have h4 : (2 + 4 * t) * (q * z) = 2 * (q * z) + 4 * (t * (q * z)) := by rw [Nat.add_mul, Nat.mul_assoc]
    have h5 : (q + q) * (z + 2 * (t * z)) = 2 * (q * z) + 4 * (q * (t * z)) := by
      rw [Nat.mul_add, ← Nat.two_mul, Nat.mul_assoc, Nat.mul_assoc, ← Nat.mul_assoc q 2, Nat.mul_comm q 2, Nat.mul_assoc 2 q]
      omega
    rw [h4, h5, Nat.mul_left_comm t q z]
/-- after a round the same, and one bit more is turned -/
theorem fv_round (k x : Nat) : fv (2 ^ k) x % 2 ^ (k + 1) = (x + 2 ^ k) % 2 ^ (k + 1) := by
  obtain ⟨v, e⟩ := fv_pow k
  obtain ⟨u, e2⟩ := five_pow k
  have h2 : 2 ^ (k + 1) = 2 * 2 ^ k := by rw [Nat.pow_succ, Nat.mul_comm]
  rw [fv_lin, e2, e, h2]
  generalize 2 ^ k = q
  have h3 : (1 + 4 * (q * u)) * x + q * (2 * v + 1) = x + q + 2 * q * (2 * (u * x) + v) := by
    have a1 : 4 * (q * u) * x = 4 * (q * (u * x)) := by rw [Nat.mul_assoc, Nat.mul_assoc]
    have a2 : q * (2 * v + 1) = 2 * (q * v) + q := by rw [Nat.mul_add, Nat.mul_one, ← Nat.mul_assoc, Nat.mul_comm q 2, Nat.mul_assoc]
    have a3 : 2 * q * (2 * (u * x) + v) = 4 * (q * (u * x)) + 2 * (q * v) := by
      rw [Nat.mul_add, Nat.mul_assoc, Nat.mul_assoc, ← Nat.mul_assoc q 2, Nat.mul_comm q 2, Nat.mul_assoc 2 q]
      omega
    rw [Nat.add_mul, Nat.one_mul, a1, a2, a3]
    omega
  rw [h3, Nat.add_mul_mod_self_left]
/-- each number is met within a round -/
theorem fv_cover : ∀ (k x j : Nat), j < 2 ^ k → ∃ n, n < 2 ^ k ∧ fv n x % 2 ^ k = j
  | 0, x, j, h => ⟨0, by decide, by
    have : j = 0 := by simpa using h
    rw [this]
    exact Nat.mod_one _⟩
  | k + 1, x, j, h => by
    have h2 : 2 ^ (k + 1) = 2 * 2 ^ k := by rw [Nat.pow_succ, Nat.mul_comm]
    have hp : 0 < 2 ^ k := Nat.two_pow_pos k
    obtain ⟨n, hn, e⟩ := fv_cover k x (j % 2 ^ k) (Nat.mod_lt _ hp)
    have r := fv_round k (fv n x)
    rw [← fv_add] at r
    rw [h2] at h r ⊢
    generalize hy : fv n x = y at e r
    have s : ∀ z, z % (2 * 2 ^ k) = z % 2 ^ k ∨ z % (2 * 2 ^ k) = z % 2 ^ k + 2 ^ k := fun z => by
      have a : z % (2 * 2 ^ k) = z % 2 ^ k + 2 ^ k * (z / 2 ^ k % 2) := by rw [Nat.mul_comm 2, Nat.mod_mul]
      rcases Nat.mod_two_eq_zero_or_one (z / 2 ^ k) with b | b
      · left
        rw [a, b]
        omega
      · right
        rw [a, b]
        omega
    by_cases c : y % (2 * 2 ^ k) = j
    · exact ⟨n, by omega, by rw [hy]; exact c⟩
    · refine ⟨n + 2 ^ k, by omega, ?_⟩
      rw [r]
      have hj := s j
      rw [Nat.mod_eq_of_lt h] at hj
      have hm := s y
      have hl : y % 2 ^ k < 2 ^ k := Nat.mod_lt _ hp
      rw [Nat.add_mod, Nat.mod_eq_of_lt (show 2 ^ k < 2 * 2 ^ k by omega)]
      rcases hm with m1 | m1 <;> rcases hj with j1 | j1
      · omega
      · rw [Nat.mod_eq_of_lt (by omega)]
        omega
      · have : y % (2 * 2 ^ k) + 2 ^ k = y % 2 ^ k + 2 * 2 ^ k := by omega
        rw [this, Nat.add_mod_right, Nat.mod_eq_of_lt (by omega)]
        omega
      · omega
theorem lcg_fv (m i : Nat) (hi : i ≤ m) : ∀ k, lcgI m i k = fv k i % (m + 1)
  | 0 => (Nat.mod_eq_of_lt (Nat.lt_succ_of_le hi)).symm
  | k + 1 => by
    show (lcgI m i k * 5 + 1) % (m + 1) = (5 * fv k i + 1) % (m + 1)
    rw [lcg_fv m i hi k, Nat.add_mod, Nat.mod_mul_mod, ← Nat.add_mod, Nat.mul_comm]
theorem Mk.all {m i j : Nat} (hm : Mk m) (hi : i ≤ m) (hj : j ≤ m) : ∃ k, k ≤ m ∧ lcgI m i k = j := by
  obtain ⟨k, _, _, e⟩ := hm
  obtain ⟨n, h1, h2⟩ := fv_cover k i j (by omega)
  exact ⟨n, by omega, by rw [lcg_fv m i hi, e]; exact h2⟩
theorem Mk.run {m : Nat} (hm : Mk m) (h : Int) {j : Nat} (hj : j ≤ m) : ∃ n, n ≤ m + 12 ∧ runI m (SetTable.bits h) n = j := by
  obtain ⟨k, hk, e⟩ := hm.all (runI_le m (SetTable.bits h) 12) hj
  exact ⟨12 + k, by omega, (runI_tail (bits_lt h) k).trans e⟩
theorem Mk.met {m : Nat} (hm : Mk m) (h : Int) {j : Nat} (hj : j ≤ m) : ∃ k, k < 10 * SetTable.turns m ∧ way m h k = j := by
  obtain ⟨n, hn, e⟩ := hm.run h hj
  obtain ⟨k, hk, e2⟩ := run_nth m (SetTable.bits h) n
  exact ⟨k, by unfold SetTable.turns; omega, (congrArg SetTable.Probe.j e2).trans e⟩
theorem Mk.lt {m : Nat} (hm : Mk m) : m < 8192 ∧ 7 ≤ m := by
  obtain ⟨k, h1, h2, e⟩ := hm
  have a : 2 ^ k ≤ 2 ^ 13 := Nat.pow_le_pow_right (by decide) h2
  have b : 2 ^ 3 ≤ 2 ^ k := Nat.pow_le_pow_right (by decide) h1
  have c : (2 : Nat) ^ 13 = 8192 := by decide
  have d : (2 : Nat) ^ 3 = 8 := by decide
  omega
theorem Mk.odd {m : Nat} (hm : Mk m) : m % 2 = 1 := by
  obtain ⟨k, h1, h2, e⟩ := hm
  obtain ⟨k, rfl⟩ : ∃ k', k = k' + 1 := ⟨k - 1, by omega⟩
  rw [Nat.pow_succ] at e
  omega
theorem way_in (m : Nat) (h : Int) (k : Nat) : way m h k ≤ m := by
  have h1 : SetTable.bits h % (m + 1) ≤ m := Nat.le_of_lt_succ (Nat.mod_lt _ (Nat.succ_pos _))
  have h2 := runEnd_bd h1
  have h3 := nth_in (m := m) k (runAt m (SetTable.bits h % (m + 1)) (SetTable.bits h)) (by
    show SetTable.bits h % (m + 1) + (SetTable.runEnd m (SetTable.bits h % (m + 1)) - SetTable.bits h % (m + 1)) ≤ m
    omega)
  exact Nat.le_trans (Nat.le_add_right ..) h3
end Ks

/-! the places of a table, each found again by its hash -/
namespace Ks
open PySem PySem.Spec PyProof.Rows L2
structure Tb (t : SetTable) (hs : List Int) : Prop where
  ris : Ris t.place.toList
  dum : t.dummies = #[]
  len : t.place.size = hs.length
  msk : Mk t.mask
  low : ∀ j ∈ t.place.toList, j ≤ t.mask
  found : ∀ (i : Nat) (h : Int) (j : Nat), hs[i]? = some h → t.place.toList[i]? = some j → ∃ c, way t.mask h c = j ∧ ∀ b, b < c → way t.mask h b ∈ t.place.toList
theorem Tb.stop {t : SetTable} {hs : List Int} (T : Tb t hs) (hl : hs.length ≤ t.mask) (h : Int) : ∃ c, c < 10 * SetTable.turns t.mask ∧ way t.mask h c ∉ t.place.toList ∧ ∀ b, b < c → way t.mask h b ∈ t.place.toList := by
  obtain ⟨j, hj, hn⟩ := st_missing t.place.toList (t.mask + 1) (by rw [Array.length_toList, T.len]; omega)
  obtain ⟨k, hk, e⟩ := T.msk.met h (Nat.le_of_lt_succ hj)
  obtain ⟨c, h1, h2, h3⟩ := st_least (p := fun z => way t.mask h z ∉ t.place.toList) k (by simpa only [e] using hn)
  exact ⟨c, by omega, h2, fun b hb => Classical.byContradiction fun z => h3 b hb z⟩
theorem Tb.ahead {t : SetTable} {hs : List Int} (T : Tb t hs) {h : Int} {c i j : Nat} (hc : way t.mask h c ∉ t.place.toList) (hi : hs[i]? = some h) (hj : t.place.toList[i]? = some j) : ∃ b, b < c ∧ way t.mask h b = j := by
  obtain ⟨b, e, g⟩ := T.found i h j hi hj
  refine ⟨b, Classical.byContradiction fun z => hc ?_, e⟩
  by_cases y : c = b
  · rw [y, e]
    exact List.mem_of_getElem? hj
  · exact g c (by omega)
theorem ins_at {α : Type} {l : List α} {p : Nat} (hp : p ≤ l.length) {x y : α} {i : Nat} (h : (l.take p ++ x :: l.drop p)[i]? = some y) : (i = p ∧ y = x) ∨ (i ≠ p ∧ ∃ i', l[i']? = some y ∧ i' = if i < p then i else i - 1) := by
  rw [tins_get l hp] at h
  by_cases a : i < p
  · rw [if_pos a] at h
    exact .inr ⟨by omega, i, h, by rw [if_pos a]⟩
  · rw [if_neg a] at h
    by_cases b : i = p
    · rw [if_pos b] at h
      exact .inl ⟨b, (Option.some.inj h).symm⟩
    · rw [if_neg b] at h
      exact .inr ⟨b, i - 1, h, by rw [if_neg a]⟩
theorem Tb.put {t : SetTable} {hs : List Int} (T : Tb t hs) {h : Int} {c : Nat} (hc : way t.mask h c ∉ t.place.toList) (hb : ∀ b, b < c → way t.mask h b ∈ t.place.toList) :
    ∃ t1 p, t.put (way t.mask h c) = (t1, p) ∧ p ≤ hs.length ∧ Tb t1 (hs.take p ++ h :: hs.drop p) ∧ t1.mask = t.mask ∧ t1.led = t.led ∧ t1.plain = t.plain ∧ t1.fill = hs.length + 1 := by
  have hw := way_in t.mask h c
  generalize hj : way t.mask h c = j at hc hw
  obtain ⟨c1, _, _⟩ := below_cut T.ris j
  have hl : t.place.toList.length = hs.length := by rw [Array.length_toList, T.len]
  have c1' : SetTable.below t.place j ≤ t.place.size := c1
  have p1 : SetTable.below t.place j ≤ t.place.toList.length := by rw [Array.length_toList]; exact c1'
  have p2 : SetTable.below t.place j ≤ hs.length := by rw [← T.len]; exact c1'
  have hn : t.place[SetTable.below t.place j]? ≠ some j := fun e => hc (List.mem_of_getElem? (by rw [Array.getElem?_toList]; exact e))
  have pl := put_place t j
  have dm := put_dm T.dum j
  have rs := ris_insert T.ris hn
  have sz : (t.put j).1.place.size = hs.length + 1 := by rw [← Array.length_toList, pl, len_ins _ p1, hl]
  refine ⟨(t.put j).1, SetTable.below t.place j, rfl, p2, ⟨rs, dm, by rw [len_ins _ p2, sz], T.msk, fun x hx => ?_, fun i h' j' e1 e2 => ?_⟩, rfl, rfl, rfl, ?_⟩
  · rw [pl] at hx
    rcases mem_ins.mp hx with e | m
    · rw [e]
      exact hw
    · exact T.low x m
  · show ∃ k, way t.mask h' k = j' ∧ ∀ b, b < k → way t.mask h' b ∈ (t.put j).1.place.toList
    have up : ∀ x, x ∈ t.place.toList → x ∈ (t.put j).1.place.toList := fun x m => by
      rw [pl]
      exact mem_ins.mpr (.inr m)
    rw [pl] at e2
    rcases ins_at p2 e1 with ⟨a1, a2⟩ | ⟨a1, i1, a2, a3⟩
    · rcases ins_at p1 e2 with ⟨b1, b2⟩ | ⟨b1, _⟩
      · rw [a2, b2]
        exact ⟨c, hj, fun b z => up _ (hb b z)⟩
      · exact absurd a1 b1
    · rcases ins_at p1 e2 with ⟨b1, _⟩ | ⟨_, i2, b2, b3⟩
      · exact absurd b1 a1
      · rw [← a3] at b3
        rw [b3] at b2
        obtain ⟨k, e, g⟩ := T.found i1 h' j' a2 b2
        exact ⟨k, e, fun b z => up _ (g b z)⟩
  · show (t.put j).1.place.size + (t.put j).1.dummies.size = hs.length + 1
    rw [sz, dm]
    rfl
/-! laid anew -/
theorem free_at {m : Nat} (hm : Mk m) (owner : Array (Option Nat)) (h : Int) {j : Nat} (hj : j ≤ m) (hf : oAt owner j = none) :
    ∃ c, SetTable.layClean.free m owner (SetTable.turns m) (SetTable.bits h % (m + 1)) (SetTable.bits h) = some (way m h c) ∧ oAt owner (way m h c) = none ∧ ∀ b, b < c → oAt owner (way m h b) ≠ none := by
  obtain ⟨n, hn, e⟩ := hm.run h hj
  have e2 : way m h (off m (SetTable.bits h % (m + 1)) (SetTable.bits h) n) = j := by
    unfold way
    rw [nth_off, itL_run]
    exact e
  obtain ⟨c, c1, c2, c3⟩ := st_least (p := fun k => oAt owner (way m h k) = none) (off m (SetTable.bits h % (m + 1)) (SetTable.bits h) n) (by simpa only [e2] using hf)
  refine ⟨c, free_spec m owner _ n _ _ c (by unfold SetTable.turns; omega) c1 (fun b hb => ?_) (by rw [c2]; rfl), c2, c3⟩
  exact Option.isNone_eq_false_iff.mpr (Option.ne_none_iff_isSome.mp (c3 b hb))
theorem own_more {m : Nat} (hm : Mk m) {done : List Int} {owner : Array (Option Nat)} (W : Own m done owner) (hl : done.length ≤ m) (h : Int) :
    ∃ j, SetTable.layClean.free m owner (SetTable.turns m) (SetTable.bits h % (m + 1)) (SetTable.bits h) = some j ∧ Own m (done ++ [h]) (owner.setIfInBounds j (some done.length)) := by
  obtain ⟨ps, p1, p2⟩ := W.ps
  obtain ⟨j0, a0, n0⟩ := st_missing ps (m + 1) (by omega)
  have f0 : oAt owner j0 = none := Classical.byContradiction fun z => n0 (p2 j0 (Nat.le_of_lt_succ a0) z)
  obtain ⟨c, e1, e2, e3⟩ := free_at hm owner h (Nat.le_of_lt_succ a0) f0
  have hw := way_in m h c
  generalize hj : way m h c = j at e1 e2 hw
  have self : oAt (owner.setIfInBounds j (some done.length)) j = some done.length := oAt_set_self _ (by rw [W.sz]; omega)
  have other : ∀ i, i ≠ j → oAt (owner.setIfInBounds j (some done.length)) i = oAt owner i := fun i z => oAt_set_ne _ (fun y => z y)
  have grow : ∀ i, oAt owner i ≠ none → oAt (owner.setIfInBounds j (some done.length)) i ≠ none := fun i z => by
    by_cases y : i = j
    · rw [y, self]
      exact nofun
    · rw [other i y]
      exact z
  refine ⟨j, e1, ⟨by rw [Array.size_setIfInBounds, W.sz], fun i k hi hk => ?_, fun k hk => ?_, j :: ps, by simp [p1], fun i hi hk => ?_⟩⟩
  · by_cases y : i = j
    · rw [y, self] at hk
      refine ⟨h, c, ?_, by rw [hj, y], fun b hb => grow _ (e3 b hb)⟩
      rw [← Option.some.inj hk]
      simp
    · rw [other i y] at hk
      obtain ⟨h', c', g1, g2, g3⟩ := W.at_ i k hi hk
      refine ⟨h', c', ?_, g2, fun b hb => grow _ (g3 b hb)⟩
      rw [List.getElem?_append_left (by exact (List.getElem?_eq_some_iff.mp g1).1), g1]
  · by_cases y : k = done.length
    · exact ⟨j, hw, by rw [self, y]⟩
    · obtain ⟨i, g1, g2⟩ := W.all k (by simp at hk; omega)
      refine ⟨i, g1, ?_⟩
      rw [other i (fun z => by rw [z, e2] at g2; cases g2), g2]
  · by_cases y : i = j
    · rw [y]
      simp
    · rw [other i y] at hk
      exact List.mem_cons_of_mem _ (p2 i hi hk)
theorem own_fold {m : Nat} (hm : Mk m) (rest : List Int) : ∀ (done : List Int) (owner : Array (Option Nat)), Own m done owner → done.length + rest.length ≤ m →
    ∃ o2 n2, rest.foldl (stepF m) (some (owner, done.length)) = some (o2, n2) ∧ Own m (done ++ rest) o2 := by
  induction rest with
  | nil => exact fun done owner W _ => ⟨owner, _, rfl, by rw [List.append_nil]; exact W⟩
  | cons h rest ih =>
    intro done owner W hl
    rw [List.length_cons] at hl
    obtain ⟨j, e, W1⟩ := own_more hm W (by omega) h
    obtain ⟨o2, n2, f, W2⟩ := ih (done ++ [h]) _ W1 (by rw [List.length_append, List.length_singleton]; omega)
    refine ⟨o2, n2, ?_, by rw [List.append_assoc] at W2; exact W2⟩
    rw [List.foldl_cons, stepF_some e, ← f, List.length_append, List.length_singleton]
theorem lay_own {m : Nat} (hm : Mk m) {hs : Array Int} (hn : hs.size ≤ m) : ∃ owner, SetTable.layClean m hs = some owner ∧ Own m hs.toList owner := by
  obtain ⟨o2, n2, f, W⟩ := own_fold hm hs.toList [] _ (Own.init m) (by rw [Array.length_toList]; simpa using hn)
  refine ⟨o2, ?_, by simpa using W⟩
  rw [layClean_eq, show some (Array.replicate (m + 1) none, 0) = some (Array.replicate (m + 1) (none : Option Nat), ([] : List Int).length) from rfl, f]
  rfl
theorem relaid_tb (t : SetTable) {hs : Array Int} {wanted M : Nat} (hw : SetTable.sizeAbove wanted - 1 = M) (hM : Mk M) (hn : hs.size ≤ M) :
    ∃ t1 order, t.relaid hs wanted = some (t1, order) ∧ order.toList.Perm (List.range hs.size) ∧ Tb t1 (order.toList.map fun i => hs.getD i 0) ∧ t1.mask = M ∧ t1.led = t.led ∧ t1.plain = t.plain := by
  obtain ⟨owner, e, W⟩ := lay_own hM hn
  have both := ris_live (fun j => owner.getD j none) (List.range (M + 1)) (show (List.range (M + 1)).Pairwise (· < ·) from List.pairwise_lt_range)
  have live : ∀ j k, (j, k) ∈ liveOf M owner ↔ j ≤ M ∧ oAt owner j = some k := fun j k => mem_live W.sz
  have firsts : ((liveOf M owner).map (·.1)).Pairwise (· < ·) := both.1
  have within : ∀ x ∈ (liveOf M owner).map (·.1), x ≤ M := fun x hx => Nat.le_of_lt_succ (List.mem_range.mp (both.2 x hx))
  have seconds : ∀ k, k < hs.size → k ∈ (liveOf M owner).map (·.2) := fun k hk => by
    obtain ⟨j, b1, b2⟩ := W.all k (by simpa using hk)
    exact List.mem_map.mpr ⟨(j, k), (live j k).mpr ⟨b1, b2⟩, rfl⟩
  have many : (liveOf M owner).length = hs.size := by
    obtain ⟨ps, p1, p2⟩ := W.ps
    have nd : ((liveOf M owner).map (·.1)).Nodup := List.Pairwise.imp (fun z => Nat.ne_of_lt z) firsts
    have up := nat_nodup_len ((liveOf M owner).map (·.1)) ps nd fun x hx => by
      obtain ⟨⟨y, k⟩, hq, rfl⟩ := List.mem_map.mp hx
      have := (live y k).mp hq
      exact p2 y this.1 (by rw [this.2]; exact nofun)
    have down := nat_nodup_len (List.range hs.size) ((liveOf M owner).map (·.2)) List.nodup_range fun k hk => seconds k (List.mem_range.mp hk)
    simp only [List.length_map, List.length_range, p1, Array.length_toList] at up down
    omega
  refine ⟨tabOf t M owner, ((liveOf M owner).map (·.2)).toArray, by rw [relaid_eq, hw, e]; rfl, perm_range _ _ (by simpa using many) (by simpa using seconds), ⟨firsts, rfl, ?_, hM, within, ?_⟩, rfl, rfl, rfl⟩
  · simp [tabOf]
  · intro i h j h1 h2
    have g1 : (((liveOf M owner).map (·.2)).map fun i => hs.getD i 0)[i]? = some h := h1
    have g2 : ((liveOf M owner).map (·.1))[i]? = some j := h2
    rw [List.map_map, List.getElem?_map] at g1
    rw [List.getElem?_map] at g2
    cases hq : (liveOf M owner)[i]? with
    | none =>
      rw [hq] at g2
      cases g2
    | some q =>
      rw [hq] at g1 g2
      obtain ⟨y, k⟩ := q
      cases g1
      cases g2
      obtain ⟨b1, b2⟩ := (live y k).mp (List.mem_of_getElem? hq)
      obtain ⟨h0, c, a1, a2, a3⟩ := W.at_ y k b1 b2
      have e0 : hs.getD k 0 = h0 := by
        rw [Array.getD_eq_getD_getElem?, ← Array.getElem?_toList, a1]
        rfl
      show ∃ c, way M (hs.getD k 0) c = y ∧ ∀ b, b < c → way M (hs.getD k 0) b ∈ (liveOf M owner).map (·.1)
      rw [e0]
      refine ⟨c, a2, fun b hb => ?_⟩
      obtain ⟨k2, z⟩ := Option.ne_none_iff_exists'.mp (a3 b hb)
      exact List.mem_map.mpr ⟨(way M h0 b, k2), (live _ _).mpr ⟨way_in M h0 b, z⟩, rfl⟩
end Ks

/-! a set of keys of any depth: what is asked of it -/
namespace Ks
open PySem PySem.Spec PyProof.Rows L2
section
variable {P : Program} {w : World} {A : Around} {E : Value → Shared → Prop} {s : Shared}
/-- no class statement stands in the value -/
def Clear (P : Program) (w : World) (n : Nat) (s : Shared) (v : Value) : Prop := ∀ (A : Around) (E : Value → Shared → Prop) (Q : Bool → Shared → Prop), Q false s → wpAny (model P w) A (ofAClassStatement n v) Q E s
/-- the value's hash is known, whatever it hangs on -/
def Hashed (P : Program) (w : World) (n : Nat) (s : Shared) (v : Value) : Prop := ∀ (A : Around) (E : Value → Shared → Prop) (Q : Bool → Shared → Prop), (∀ b, Q b s) → wpAny (model P w) A (hashByValue n v) Q E s
theorem clear_tup {n : Nat} {a : Addr} {o : Obj} {vs : Array Value} {m : Nat} (ho : s.heap.get? a = some o) (hc : o.cls = .type "tuple") (hd : o.data = .seq vs m) (hq : ∀ v ∈ vs.toList, Clear P w n s v) : Clear P w (n + 1) s (.ref a) := fun A E Q h => by
  have hT : s.TypeIs (.ref a) "tuple" := ⟨o, ho, hc⟩
  unfold ofAClassStatement
  refine wpAny_bind (wpAny_typeOf hT ?_)
  dsimp only
  rw [if_pos (show (("tuple" : String) == "tuple") = true by decide)]
  try refine wpAny_bind (wpAny_pure ?_)
  simp only [Bool.not_true, Bool.false_eq_true, if_false, pure_bind]
  refine wpAny_bind (wpAny_seqItems ho hd ?_)
  dsimp only
  refine wpAny_bind ?_
  rw [← Array.forIn_toList]
  refine wpAny_forIn_list _ (fun rest r s' => r.1 = none ∧ s' = s ∧ ∀ v ∈ rest, Clear P w n s v) _ ?_ ?_ _ _ ⟨rfl, rfl, hq⟩
  · rintro v rest r s' ⟨_, rfl, g⟩
    refine wpAny_bind (g v (by simp) _ _ _ ?_)
    simp only [Bool.false_eq_true, if_false]
    exact wpAny_pure ⟨rfl, rfl, fun u m => g u (List.mem_cons_of_mem _ m)⟩
  · rintro ⟨_, _⟩ s' ⟨z, rfl, _⟩
    cases z
    exact wpAny_pure h
theorem hashed_tup {n : Nat} {a : Addr} {o : Obj} {vs : Array Value} {m : Nat} (ho : s.heap.get? a = some o) (hc : o.cls = .type "tuple") (hd : o.data = .seq vs m) (hq : ∀ v ∈ vs.toList, Hashed P w n s v) : Hashed P w (n + 1) s (.ref a) := fun A E Q h => by
  have hT : s.TypeIs (.ref a) "tuple" := ⟨o, ho, hc⟩
  unfold hashByValue
  refine wpAny_bind (wpAny_specialOf hT F.slot_tuple_hash.lookup ?_)
  refine wpAny_bind (wpAny_seqItems ho hd ?_)
  refine wpAny_bind ?_
  simp only [Option.getD_some]
  rw [← Array.forIn_toList]
  refine wpAny_forIn_list _ (fun rest r s' => s' = s ∧ ∀ v ∈ rest, Hashed P w n s v) _ ?_ ?_ _ _ ⟨rfl, hq⟩
  · rintro v rest r s' ⟨rfl, g⟩
    refine wpAny_bind (g v (by simp) _ _ _ fun b => ?_)
    cases b with
    | true =>
      simp only [Bool.not_true, Bool.false_eq_true, if_false]
      exact wpAny_pure ⟨rfl, fun u m => g u (List.mem_cons_of_mem _ m)⟩
    | false =>
      simp only [Bool.not_false, if_true]
      exact wpAny_pure (wpAny_pure (h false))
  · rintro ⟨r1, _⟩ s' ⟨rfl, _⟩
    cases r1 with
    | none => exact wpAny_pure (h true)
    | some b => exact wpAny_pure (h b)
theorem clear_val {n : Nat} {v : Value} (h : ofAClassStatement n v = pure false) : Clear P w n s v := fun A E Q q => by
  rw [h]
  exact wpAny_pure q
theorem hashed_val {n : Nat} {v : Value} {b : Bool} (h : hashByValue n v = pure b) : Hashed P w n s v := fun A E Q q => by
  rw [h]
  exact wpAny_pure (q b)
mutual
theorem clear_key : ∀ (k : NestedKey) (v : Value) (n : Nat), NestedIs s.heap k v → k.depth ≤ n → Clear P w n s v
  | .none, _, n, x, _ => by
    cases x
    exact clear_val (by cases n <;> rfl)
  | .num i, _, n, x, _ => by
    cases x <;> exact clear_val (by cases n <;> rfl)
  | .text y, _, n, x, _ => by
    cases x
    exact clear_val (by cases n <;> rfl)
  | .tup ks, _, n, x, hn => by
    cases x with
    | tup hg hc hd hk =>
      simp only [NestedKey.depth] at hn
      cases n with
      | zero => omega
      | succ n => exact clear_tup hg hc hd (clear_keys ks _ n hk (by omega))
theorem clear_keys : ∀ (ks : List NestedKey) (vs : List Value) (n : Nat), NestedAll s.heap ks vs → NestedKey.depthAll ks ≤ n → ∀ v ∈ vs, Clear P w n s v
  | [], _, n, x, _, v, hv => by
    cases x
    cases hv
  | k :: ks, _, n, x, hn, v, hv => by
    cases x with
    | cons x1 x2 =>
      simp only [NestedKey.depthAll] at hn
      rcases List.mem_cons.mp hv with rfl | hv
      · exact clear_key k _ n x1 (by omega)
      · exact clear_keys ks _ n x2 (by omega) v hv
end
mutual
theorem hashed_key : ∀ (k : NestedKey) (v : Value) (n : Nat), NestedIs s.heap k v → k.depth ≤ n → Hashed P w n s v
  | .none, _, n, x, _ => by
    cases x
    exact hashed_val (b := true) (by cases n <;> rfl)
  | .num i, _, n, x, _ => by
    cases x <;> exact hashed_val (b := true) (by cases n <;> rfl)
  | .text y, _, n, x, _ => by
    cases x
    exact hashed_val (b := false) (by cases n <;> rfl)
  | .tup ks, _, n, x, hn => by
    cases x with
    | tup hg hc hd hk =>
      simp only [NestedKey.depth] at hn
      cases n with
      | zero => omega
      | succ n => exact hashed_tup hg hc hd (hashed_keys ks _ n hk (by omega))
theorem hashed_keys : ∀ (ks : List NestedKey) (vs : List Value) (n : Nat), NestedAll s.heap ks vs → NestedKey.depthAll ks ≤ n → ∀ v ∈ vs, Hashed P w n s v
  | [], _, n, x, _, v, hv => by
    cases x
    cases hv
  | k :: ks, _, n, x, hn, v, hv => by
    cases x with
    | cons x1 x2 =>
      simp only [NestedKey.depthAll] at hn
      rcases List.mem_cons.mp hv with rfl | hv
      · exact hashed_key k _ n x1 (by omega)
      · exact hashed_keys ks _ n x2 (by omega) v hv
end
/-- the tuple at b is the key k -/
def KeyAt (h : Heap) (k : NestedKey) (b : Addr) : Prop := NestedIs h k (.ref b) ∧ k.depth ≤ 8
theorem KeyAt.keep {h h' : Heap} {k : NestedKey} {b : Addr} (x : KeyAt h k b) (g : ∀ c o, h.get? c = some o → h'.get? c = some o) : KeyAt h' k b := ⟨NestedIs.at (fun a o _ _ e _ => g a o e) k _ x.1, x.2⟩
theorem KeyAt.same {h h' : Heap} {k : NestedKey} {a b : Addr} {o : Obj} {es : Array (Int × Value)} {ep : Nat} {t : SetTable} (x : KeyAt h k b) (ho : h.get? a = some o) (hd : o.data = .set es ep t) (sb : Heap.SameBut a h h') : KeyAt h' k b :=
  ⟨NestedIs.at (fun c o' vs n e e2 => (sb.2 c fun z => by
    rw [z, ho] at e
    rw [← Option.some.inj e, hd] at e2
    cases e2).trans e) k _ x.1, x.2⟩
theorem seen_key {k : NestedKey} {b : Addr} {Q : Bool → Shared → Prop} (hk : KeyAt s.heap k b) {ys : List Value} (hy : ∀ y ∈ ys, ∃ k' c, y = Value.ref c ∧ KeyAt s.heap k' c) (h : Q false s) : wpAny (model P w) A (searchCouldBeSeen (.ref b) ys) Q E s := by
  unfold searchCouldBeSeen
  refine wpAny_bind ?_
  refine wpAny_forIn_list _ (fun rest r s' => r.1 = none ∧ s' = s ∧ ∀ y ∈ rest, ∃ k' c, y = Value.ref c ∧ KeyAt s.heap k' c) _ ?_ ?_ _ _ ⟨rfl, rfl, hy⟩
  · rintro v rest r s' ⟨_, rfl, g⟩
    obtain ⟨k', c, rfl, hc⟩ := g v (by simp)
    have more := fun y m => g y (List.mem_cons_of_mem _ m)
    dsimp only
    by_cases very : (b == c || (carriedByValue (.ref b) && carriedByValue (.ref c))) = true
    · exact wp_if_pos very (wpAny_pure ⟨rfl, rfl, more⟩)
    · refine wp_if_neg very ?_
      refine wpAny_bind (quiet_key k _ 8 _ hk.1 hk.2 _ _ _ ?_)
      simp only [Bool.not_true, Bool.false_eq_true, if_false]
      refine wpAny_bind (quiet_key k' _ 8 _ hc.1 hc.2 _ _ _ ?_)
      simp only [Bool.not_true, Bool.false_eq_true, if_false]
      refine wpAny_bind (clear_key k _ 8 hk.1 hk.2 _ _ _ ?_)
      simp only [Bool.false_eq_true, if_false]
      refine wpAny_bind (clear_key k' _ 8 hc.1 hc.2 _ _ _ ?_)
      simp only [Bool.false_eq_true, if_false]
      exact wpAny_pure ⟨rfl, rfl, more⟩
  · rintro ⟨_, _⟩ s' ⟨z, rfl, _⟩
    cases z
    exact wpAny_pure h
/-- the set at a holds the keys of L, at their places -/
def rowsK (w : World) (L : List (Addr × NestedKey)) : List (Int × Value) := L.map fun p => (p.2.hash w, Value.ref p.1)
structure SN (w : World) (h : Heap) (a : Addr) (L : List (Addr × NestedKey)) (es : Array (Int × Value)) (ep : Nat) (t : SetTable) : Prop where
  ob : ∃ o, h.get? a = some o ∧ o.ExactSet ∧ o.data = .set es ep t
  rows : es.toList = rowsK w L
  tab : Tb t (L.map fun p => p.2.hash w)
  nd : (L.map (·.2)).Nodup
  room : L.length * 5 < t.mask * 3
  led : w.params.followText "set-order" = true ∨ t.led = true
variable {a : Addr} {L : List (Addr × NestedKey)} {es : Array (Int × Value)} {ep : Nat} {t : SetTable}
theorem rowsK_size (h : es.toList = rowsK w L) : es.size = L.length := by
  have := congrArg List.length h
  simpa [rowsK] using this
theorem SN.size (R : SN w s.heap a L es ep t) : es.size = L.length := rowsK_size R.rows
theorem fits_of {n : Nat} (h1 : t.place.size = n) (h2 : t.dummies = #[]) (h3 : n ≤ t.mask) : t.fits n = true := by
  unfold SetTable.fits SetTable.fill
  rw [h2, h1, beq_self_eq_true, Bool.true_and, decide_eq_true_eq]
  exact h3
theorem SN.fits (R : SN w s.heap a L es ep t) : t.fits es.size = true := by
  have h1 := R.tab.len
  have h2 := R.size
  have h3 := R.room
  rw [List.length_map] at h1
  exact fits_of (h1.trans h2.symm) R.tab.dum (by omega)
theorem SN.entry (R : SN w s.heap a L es ep t) {i : Nat} {p : Addr × NestedKey} (h : L[i]? = some p) : es[i]? = some (p.2.hash w, Value.ref p.1) := by
  rw [← Array.getElem?_toList, R.rows, rowsK, List.getElem?_map, h]
  rfl
theorem SN.at_place (R : SN w s.heap a L es ep t) {i j : Nat} (h : t.place.toList[i]? = some j) : ∃ p, L[i]? = some p := by
  have h1 := R.tab.len
  rw [List.length_map, ← Array.length_toList] at h1
  have h2 := (List.getElem?_eq_some_iff.mp h).1
  exact ⟨_, List.getElem?_eq_getElem (by omega)⟩
/-- the search, from the b-th step of the way on -/
theorem search_way (R : SN w s.heap a L es ep t) (hL : ∀ p ∈ L, KeyAt s.heap p.2 p.1) {x : Addr} {k : NestedKey} (hx : KeyAt s.heap k x) (hu : A.units + 8 < cLine) (ad : Bool) {c : Nat} (hcf : c < 10 * SetTable.turns t.mask)
    (hc : way t.mask (k.hash w) c ∉ t.place.toList) (hcb : ∀ b, b < c → way t.mask (k.hash w) b ∈ t.place.toList) {Q : SetFound → Shared → Prop}
    (hin : ∀ y, k ∈ L.map (·.2) → (ad = false → y.isSome = true) → Q (.there y) s) (hout : k ∉ L.map (·.2) → Q (.free (way t.mask (k.hash w) c) false) s) :
    ∀ (f b : Nat) (stand : Option SetTable.Probe), stand.getD (t.probeStart (k.hash w)) = nth t.mask (runAt t.mask (SetTable.bits (k.hash w) % (t.mask + 1)) (SetTable.bits (k.hash w))) b → b ≤ c → c - b < f →
      (∀ (i : Nat) p, L[i]? = some p → p.2 = k → ∃ b', b ≤ b' ∧ b' < c ∧ t.place.toList[i]? = some (way t.mask (k.hash w) b')) →
      wpAny (model P w) A (setSearchFrom a (.ref x) (k.hash w) ad f stand) Q E s := by
  obtain ⟨o, ho, hex, hd⟩ := R.ob
  generalize hst : runAt t.mask (SetTable.bits (k.hash w) % (t.mask + 1)) (SetTable.bits (k.hash w)) = st
  have wayE : ∀ q, way t.mask (k.hash w) q = (nth t.mask st q).j := fun q => by rw [← hst]
  have dum0 : ∀ (n : Nat) (p : SetTable.Probe), p.dummy = none → (nth t.mask p n).dummy = none := by
    intro n
    induction n with
    | zero => exact fun p e => e
    | succ n ih =>
      intro p e
      refine ih (adv t.mask p) ?_
      unfold adv
      split
      · exact e
      · exact e
  have hashes : ∀ (i : Nat) p, L[i]? = some p → (es[i]?.map (·.1)).getD 0 = p.2.hash w := fun i p e => by
    rw [R.entry e]
    rfl
  intro f
  induction f with
  | zero => exact fun b stand _ _ z _ => absurd z (Nat.not_lt_zero _)
  | succ f ih =>
    intro b stand hs hb hf hre
    rw [setSearchFrom_succ]
    refine wpAny_bind (wpAny_setState_of ho hd R.fits ?_)
    dsimp only
    refine wp_if_neg (by unfold SetTable.gaveWay; rw [R.tab.msk.odd]; decide) ?_
    try refine wpAny_bind (wpAny_pure ?_)
    have step : ∀ q, (nth t.mask (nth t.mask st b) q).j = way t.mask (k.hash w) (b + q) := fun q => by rw [wayE, nth_add]
    have known : ∀ i q, b + q ≤ c → t.place.toList[i]? = some (way t.mask (k.hash w) (b + q)) → ∃ p, L[i]? = some p := fun i q _ e => R.at_place e
    have spec := go_spec t R.tab.ris R.tab.dum (fun i => (es[i]?.map (·.1)).getD 0) (k.hash w) (10 * SetTable.turns t.mask) (c - b) (nth t.mask st b) (by rw [← hst]; exact dum0 b _ rfl) (by omega)
      (fun q hq => by rw [step]; exact hcb _ (by omega)) (by rw [step, show b + (c - b) = c by omega]; exact hc)
    have later : ∀ q, (∀ q' i', q' < q → t.place.toList[i']? = some (nth t.mask (nth t.mask st b) q').j → (Option.map (fun e : Int × Value => e.1) es[i']?).getD 0 ≠ k.hash w) → ∀ (i : Nat) p, L[i]? = some p → p.2 = k → ∃ b', b + q ≤ b' ∧ b' < c ∧ t.place.toList[i]? = some (way t.mask (k.hash w) b') := fun q hno i p e1 e2 => by
      obtain ⟨b', g1, g2, g3⟩ := hre i p e1 e2
      refine ⟨b', Classical.byContradiction fun z => ?_, g2, g3⟩
      refine hno (b' - b) i (by omega) (by rw [step, show b + (b' - b) = b' by omega]; exact g3) ?_
      rw [hashes i p e1, e2]
    rw [← hst] at hs
    rcases spec with ⟨q, i, hq, hi, hh, hno, hpr⟩ | ⟨hno, hpr⟩
    · have hpr2 : t.probe (fun i => (es[i]?.map (·.1)).getD 0) (k.hash w) (stand.getD (t.probeStart (k.hash w))) = some (.candidate (way t.mask (k.hash w) (b + q)) i (nth t.mask (nth t.mask st b) (q + 1))) := by
        rw [hs, ← step, hst]
        exact hpr
      rw [hpr2]
      dsimp only
      rw [step] at hi
      obtain ⟨p, hp⟩ := R.at_place hi
      have hm := List.mem_of_getElem? hp
      have hsl : t.slot (way t.mask (k.hash w) (b + q)) = .live i := slot_live R.tab.ris hi
      have rest : wpAny (model P w) A (searchRest a (.ref x) (k.hash w) ad f es t (way t.mask (k.hash w) (b + q)) i (nth t.mask (nth t.mask st b) (q + 1))) Q E s := by
        unfold searchRest
        rw [R.entry hp]
        dsimp only
        refine wpAny_bind (wpAny_holding ((nestedKind P w).eqBool (show A.units + 8 < cLine from hu) (hL p hm) hx ?_))
        refine wpAny_bind (wpAny_setState_of ho hd R.fits ?_)
        dsimp only
        by_cases hkk : p.2 = k
        · have here : k ∈ L.map (·.2) := List.mem_map.mpr ⟨p, hm, hkk⟩
          cases ad with
          | true =>
            refine wp_if_pos (by simp [hkk]) ?_
            exact wpAny_pure (hin _ here nofun)
          | false =>
            refine wp_if_neg (by simp) ?_
            try refine wpAny_bind (wpAny_pure ?_)
            rw [sameMem]
            dsimp only
            simp only [if_true, hsl, R.entry hp]
            refine wpAny_bind (wpAny_isSame_ref_self (wpAny_bind (wpAny_pure ?_)))
            simp only [if_true]
            refine wp_if_pos (by simp [hkk]) ?_
            exact wpAny_pure (hin _ here fun _ => rfl)
        · refine wp_if_neg (by simp [hkk]) ?_
          try refine wpAny_bind (wpAny_pure ?_)
          rw [sameMem]
          dsimp only
          simp only [if_true, hsl, R.entry hp]
          refine wpAny_bind (wpAny_isSame_ref_self (wpAny_bind (wpAny_pure ?_)))
          simp only [if_true]
          refine wp_if_neg (by simp [hkk]) ?_
          refine ih (b + (q + 1)) _ (by rw [Option.getD_some, ← nth_add]) (by omega) (by omega) fun i0 p0 h0 hk0 => ?_
          obtain ⟨b', g1, g2, g3⟩ := later q hno i0 p0 h0 hk0
          refine ⟨b', Classical.byContradiction fun z => ?_, g2, g3⟩
          rw [show b' = b + q by omega] at g3
          have same := slot_live R.tab.ris g3
          rw [hsl] at same
          injection same with same
          rw [← same, hp] at h0
          exact hkk ((congrArg Prod.snd (Option.some.inj h0)).trans hk0)
      by_cases hl : t.led = true
      · refine wp_if_neg (by simp [hl]) ?_
        try refine wpAny_bind (wpAny_pure ?_)
        exact rest
      · refine wp_if_pos (by simp [hl]) ?_
        refine wpAny_bind (seen_key hx (fun y hy => ?_) ?_)
        · obtain ⟨e, he, rfl⟩ := List.mem_map.mp hy
          have he2 : e ∈ es.toList := by
            have : e ∈ es ∧ e.1 = k.hash w := by simpa using he
            simpa using this.1
          rw [R.rows] at he2
          obtain ⟨p2, hp2, rfl⟩ := List.mem_map.mp he2
          exact ⟨p2.2, p2.1, rfl, hL p2 hp2⟩
        · refine wp_if_neg (by decide) ?_
          try refine wpAny_bind (wpAny_pure ?_)
          exact rest
    · have hpr2 : t.probe (fun i => (es[i]?.map (·.1)).getD 0) (k.hash w) (stand.getD (t.probeStart (k.hash w))) = some (.empty (way t.mask (k.hash w) c) none) := by
        rw [hs, show way t.mask (k.hash w) c = (nth t.mask (nth t.mask st b) (c - b)).j by rw [step, show b + (c - b) = c by omega], hst]
        exact hpr
      rw [hpr2]
      dsimp only
      refine wpAny_pure (hout fun hm => ?_)
      obtain ⟨p0, m0, hk0⟩ := List.mem_map.mp hm
      obtain ⟨i0, hi0⟩ := List.getElem?_of_mem m0
      obtain ⟨b', g1, g2, g3⟩ := later (c - b) hno i0 p0 hi0 hk0
      omega
theorem search_key (R : SN w s.heap a L es ep t) (hL : ∀ p ∈ L, KeyAt s.heap p.2 p.1) {x : Addr} {k : NestedKey} (hx : KeyAt s.heap k x) (hu : A.units + 8 < cLine) (ad : Bool) {Q : SetFound → Shared → Prop}
    (hin : ∀ y, k ∈ L.map (·.2) → (ad = false → y.isSome = true) → Q (.there y) s)
    (hout : ∀ c, k ∉ L.map (·.2) → way t.mask (k.hash w) c ∉ t.place.toList → (∀ b, b < c → way t.mask (k.hash w) b ∈ t.place.toList) → Q (.free (way t.mask (k.hash w) c) false) s) :
    wpAny (model P w) A (setSearch a (.ref x) (k.hash w) ad) Q E s := by
  have hr := R.room
  obtain ⟨c, hcf, hc, hcb⟩ := R.tab.stop (by rw [List.length_map]; omega) (k.hash w)
  have hb : c < 100000 := by
    have h1 := R.tab.msk.lt
    unfold SetTable.turns at hcf
    omega
  unfold setSearch
  refine search_way R hL hx hu ad hcf hc hcb hin (fun hn => hout c hn hc hcb) 100000 0 none rfl (Nat.zero_le _) (by omega) fun i p hp hk => ?_
  have hi : (L.map fun p => p.2.hash w)[i]? = some (k.hash w) := by
    rw [List.getElem?_map, hp, ← hk]
    rfl
  have hil : i < t.place.toList.length := by
    have h2 := R.tab.len
    rw [List.length_map, ← Array.length_toList] at h2
    have := (List.getElem?_eq_some_iff.mp hp).1
    omega
  obtain ⟨b, g1, g2⟩ := R.tab.ahead hc hi (List.getElem?_eq_getElem hil)
  exact ⟨b, Nat.zero_le _, g1, by rw [List.getElem?_eq_getElem hil, g2]⟩
end
end Ks

/-! a set of keys: one more in it, and whether it has one -/
namespace Ks
open PySem PySem.Spec PyProof.Rows L2
theorem size_go (n : Nat) : ∀ f k, n < 2 ^ (k + f) → ∃ k', k ≤ k' ∧ SetTable.sizeAbove.go n f (2 ^ k) = 2 ^ k' ∧ n < 2 ^ k' ∧ (k' = k ∨ 2 ^ k' ≤ 2 * n)
  | 0, k, h => ⟨k, Nat.le_refl _, rfl, h, .inl rfl⟩
  | f + 1, k, h => by
    unfold SetTable.sizeAbove.go
    by_cases c : 2 ^ k ≤ n
    · rw [if_pos c, show 2 ^ k * 2 = 2 ^ (k + 1) from (Nat.pow_succ ..).symm]
      obtain ⟨k', a1, a2, a3, a4⟩ := size_go n f (k + 1) (by rw [show k + 1 + f = k + (f + 1) by omega]; exact h)
      refine ⟨k', by omega, a2, a3, .inr ?_⟩
      rcases a4 with e | e
      · rw [e, Nat.pow_succ]
        omega
      · exact e
    · rw [if_neg c]
      exact ⟨k, Nat.le_refl _, rfl, by omega, .inl rfl⟩
theorem grown_size {n : Nat} (h0 : 1 ≤ n) (h : n ≤ 1000) : ∃ M, SetTable.sizeAbove (SetTable.grown n) = M + 1 ∧ Mk M ∧ 4 * n ≤ M ∧ M + 1 ≤ 8192 := by
  have g : SetTable.grown n = n * 4 := by
    unfold SetTable.grown
    rw [if_neg (by omega)]
  have big : n * 4 < 2 ^ (3 + 64) := by
    have : (2 : Nat) ^ (3 + 64) = 147573952589676412928 := by decide
    omega
  obtain ⟨k, a1, a2, a3, a4⟩ := size_go (n * 4) 64 3 big
  have hk : k ≤ 12 := Classical.byContradiction fun z => by
    have : 2 ^ 13 ≤ 2 ^ k := Nat.pow_le_pow_right (by decide) (by omega)
    have e : (2 : Nat) ^ 13 = 8192 := by decide
    rcases a4 with b | b
    · omega
    · omega
  have up : 2 ^ k ≤ 2 ^ 12 := Nat.pow_le_pow_right (by decide) hk
  have e12 : (2 : Nat) ^ 12 = 4096 := by decide
  have hp : 0 < 2 ^ k := Nat.two_pow_pos k
  refine ⟨2 ^ k - 1, ?_, ⟨k, a1, by omega, by omega⟩, by omega, by omega⟩
  rw [g]
  show SetTable.sizeAbove.go (n * 4) 64 8 = _
  rw [show (8 : Nat) = 2 ^ 3 by decide, a2]
  omega
theorem range_all {α : Type} : ∀ l : List α, (List.range l.length).filterMap (fun i => l[i]?) = l
  | [] => rfl
  | x :: l => by
    rw [List.length_cons, List.range_succ_eq_map, List.filterMap_cons_some (f := fun i => (x :: l)[i]?) (a := 0) (b := x) rfl, List.filterMap_map]
    exact congrArg (x :: ·) (range_all l)
theorem rows_order {w : World} {L : List (Addr × NestedKey)} {es : Array (Int × Value)} {order : Array Nat} (hr : es.toList = rowsK w L) (hp : order.toList.Perm (List.range L.length)) :
    ∃ L2, (order.filterMap (es[·]?)).toList = rowsK w L2 ∧ L2.Perm L ∧ (L2.map fun p => p.2.hash w) = order.toList.map fun i => (es.map (·.1)).getD i 0 := by
  have ent : ∀ i : Nat, es[i]? = (L[i]?).map fun p => (p.2.hash w, Value.ref p.1) := fun i => by
    rw [← Array.getElem?_toList, hr, rowsK, List.getElem?_map]
  have some_ : ∀ l : List Nat, (∀ i ∈ l, i < L.length) → ((l.filterMap fun i => L[i]?).map fun p => p.2.hash w) = l.map fun i => (es.map (·.1)).getD i 0 := by
    intro l
    induction l with
    | nil => exact fun _ => rfl
    | cons i l ih =>
      intro h
      have hi := h i (by simp)
      have e := List.getElem?_eq_getElem hi
      rw [List.filterMap_cons_some e, List.map_cons, List.map_cons, ih fun j hj => h j (List.mem_cons_of_mem _ hj)]
      refine congrArg (· :: _) ?_
      have e2 : (es.map (·.1))[i]? = some (L[i].2.hash w) := by
        rw [Array.getElem?_map, ent, e]
        rfl
      rw [Array.getD_eq_getD_getElem?, e2]
      rfl
  refine ⟨order.toList.filterMap fun i => L[i]?, ?_, ?_, some_ _ fun i hi => List.mem_range.mp (hp.mem_iff.mp hi)⟩
  · rw [Array.toList_filterMap, rowsK, List.map_filterMap]
    exact congrArg (List.filterMap · order.toList) (funext ent)
  · have := hp.filterMap fun i => L[i]?
    rw [range_all] at this
    exact this
section
variable {P : Program} {w : World} {A : Around} {E : Value → Shared → Prop} {s : Shared} {a : Addr} {L : List (Addr × NestedKey)} {es : Array (Int × Value)} {ep : Nat} {t : SetTable}
theorem relay_key {o : Obj} (ho : s.heap.get? a = some o) (hex : o.ExactSet) (hd : o.data = .set es ep t) (hrows : es.toList = rowsK w L) (T : Tb t (L.map fun p => p.2.hash w)) (nd : (L.map (·.2)).Nodup) (hled : w.params.followText "set-order" = true ∨ t.led = true) (hfl : L.length ≤ t.mask)
    (few : L.length ≤ 1000) (h0 : 1 ≤ L.length) {Q : Unit → Shared → Prop} (hQ : ∀ h' L' es' ep' t', Heap.SameBut a s.heap h' → SN w h' a L' es' ep' t' → L'.Perm L → Q () { s with heap := h' }) :
    wpAny (model P w) A (setRelay a (SetTable.grown L.length)) Q E s := by
  have hsl := rowsK_size hrows
  obtain ⟨M, m1, m2, m3, m4⟩ := grown_size h0 few
  have hfits : t.fits es.size = true := fits_of (by have := T.len; rw [List.length_map] at this; omega) T.dum (by omega)
  obtain ⟨t1, order, e, hp, T1, em, el, _⟩ := relaid_tb t (hs := es.map (·.1)) (wanted := SetTable.grown L.length) (M := M) (by omega) m2 (by rw [Array.size_map, hsl]; omega)
  rw [Array.size_map, hsl] at hp
  obtain ⟨L2, r1, r2, r3⟩ := rows_order hrows hp
  rw [← r3] at T1
  have hz : (order.filterMap (es[·]?)).size = es.size := by rw [rowsK_size r1, r2.length_eq, hsl]
  rw [setRelay_eq]
  refine wpAny_bind (wpAny_setState_of ho hd hfits ?_)
  dsimp only
  refine wp_if_neg (by rw [sizeLine_eq]; omega) ?_
  try refine wpAny_bind (wpAny_pure ?_)
  rw [e]
  dsimp only
  refine wpAny_bind ?_
  refine wp_if_neg (by rw [hz]; simp) ?_
  try refine wpAny_bind (wpAny_pure ?_)
  refine wpAny_pure ?_
  dsimp only
  refine wpAny_storeSet_of ho hd ?_ (by rw [hz, hsl, sizeLine_eq]; omega)
  refine hQ _ L2 (order.filterMap (es[·]?)) (ep + 1) t1 (Heap.SameBut.update ..) ⟨⟨_, store_at ho hd, ⟨hex.1, hex.2.1, hex.2.2⟩, rfl⟩, r1, T1, (r2.map (·.2)).nodup_iff.mpr nd, ?_, hled.imp id fun z => by rw [el]; exact z⟩ r2
  rw [r2.length_eq, em]
  omega
theorem add_key (R : SN w s.heap a L es ep t) (hL : ∀ p ∈ L, KeyAt s.heap p.2 p.1) {x : Addr} {k : NestedKey} (hx : KeyAt s.heap k x) (hu : A.units + 8 < cLine) (few : L.length + 1 ≤ 1000) {Q : Bool → Shared → Prop}
    (hQ : ∀ b h' L' es' ep' t', Heap.SameBut a s.heap h' → SN w h' a L' es' ep' t' → (k ∈ L.map (·.2) → L' = L) → (k ∉ L.map (·.2) → L'.Perm ((x, k) :: L)) → Q b { s with heap := h' }) :
    wpAny (model P w) A (setAddHashed a (.ref x) (k.hash w)) Q E s := by
  obtain ⟨o, ho, hex, hd⟩ := R.ob
  have hsl := R.size
  have hroom := R.room
  unfold setAddHashed
  refine wpAny_holding ?_
  rw [show (100000 : Nat) = 99999 + 1 from rfl, setAddHashedIn_succ]
  refine wpAny_bind (wpAny_setState_of ho hd R.fits ?_)
  dsimp only
  refine wp_if_neg (by simp [byScan, Value.scannable]) ?_
  try refine wpAny_bind (wpAny_pure ?_)
  refine wpAny_bind (search_key R hL hx hu true (fun y hm _ => ?_) fun c hm hc hb => ?_)
  · dsimp only
    exact wpAny_pure (hQ false s.heap L es ep t (Heap.SameBut.refl a s.heap) R (fun _ => rfl) fun z => absurd hm z)
  dsimp only
  refine wpAny_bind (wpAny_setState_of ho hd R.fits ?_)
  dsimp only
  obtain ⟨t1, p, q1, q2, q3, q4, q5, q6, q7⟩ := R.tab.put hc hb
  rw [List.length_map] at q2 q7
  rw [q1]
  dsimp only
  have pm : (L.take p ++ (x, k) :: L.drop p).Perm ((x, k) :: L) := put_perm L p (x, k)
  have hlen := pm.length_eq
  rw [List.length_cons] at hlen
  have hh : (L.take p ++ (x, k) :: L.drop p).map (fun p => p.2.hash w) = (L.map fun p => p.2.hash w).take p ++ k.hash w :: (L.map fun p => p.2.hash w).drop p := by
    simp only [List.map_append, List.map_cons, List.map_take, List.map_drop]
  have hin : (SetTable.insertAt es p (k.hash w, Value.ref x)).toList = rowsK w (L.take p ++ (x, k) :: L.drop p) := by
    rw [SetTable.toList_insertAt, R.rows]
    simp only [rowsK, List.map_append, List.map_cons, List.map_take, List.map_drop]
  rw [← hh] at q3
  have nd1 : ((L.take p ++ (x, k) :: L.drop p).map (·.2)).Nodup := by
    refine (pm.map (·.2)).nodup_iff.mpr ?_
    exact List.nodup_cons.mpr ⟨hm, R.nd⟩
  generalize hes1 : SetTable.insertAt es p (k.hash w, Value.ref x) = es1 at hin ⊢
  generalize hL1 : L.take p ++ (x, k) :: L.drop p = L1 at pm hlen q3 nd1 hin
  have hes : es1.size = L1.length := rowsK_size hin
  have led1 : w.params.followText "set-order" = true ∨ t1.led = true := R.led.imp id fun z => by rw [q5]; exact z
  have go : ∀ t2 : SetTable, Tb t2 (L1.map fun p => p.2.hash w) → t2.mask = t.mask → t2.fill = L.length + 1 → t2.led = t1.led →
      wpAny (model P w) A (do
        storeSet a es1 t2
        if !false && t2.tooFull then setRelay a (SetTable.grown (es.size + 1))
        return true) Q E s := by
    intro t2 T2 em ef el2
    have led2 : w.params.followText "set-order" = true ∨ t2.led = true := led1.imp id fun z => by rw [el2]; exact z
    refine wpAny_bind (wpAny_storeSet_of ho hd ?_ (by rw [hes, sizeLine_eq]; omega))
    have sb : Heap.SameBut a s.heap (s.heap.update a (Obj.putSet es1 t2)) := Heap.SameBut.update ..
    have ho1 := store_at (es' := es1) (t' := t2) ho hd
    generalize s.heap.update a (Obj.putSet es1 t2) = h1 at sb ho1 ⊢
    by_cases hf : t2.tooFull = true
    · have next : wpAny (model P w) A (setRelay a (SetTable.grown L1.length)) (fun _ s' => wpAny (model P w) A (pure true) Q E s') E { s with heap := h1 } :=
        relay_key (s := { s with heap := h1 }) ho1 ⟨hex.1, hex.2.1, hex.2.2⟩ rfl hin T2 nd1 led2 (by omega) (by omega) (by omega) fun h2 L2 es2 ep2 t3 sb2 R2 pm2 =>
          wpAny_pure (hQ true h2 L2 es2 ep2 t3 (sb.trans sb2) R2 (fun z => absurd z hm) fun _ => pm2.trans pm)
      rw [hlen, ← hsl] at next
      first
        | (refine wpAny_bind ?_; refine wp_if_pos (by simp [hf]) ?_; exact next)
        | (refine wp_if_pos (by simp [hf]) ?_; exact wpAny_bind next)
    · have room1 : L1.length * 5 < t2.mask * 3 := by
        have z := hf
        unfold SetTable.tooFull at z
        rw [decide_eq_true_eq, ef] at z
        omega
      have last : Q true { s with heap := h1 } := hQ true h1 L1 es1 (ep + 1) t2 sb ⟨⟨_, ho1, ⟨hex.1, hex.2.1, hex.2.2⟩, rfl⟩, hin, T2, nd1, room1, led2⟩ (fun z => absurd z hm) fun _ => pm
      first
        | (refine wp_if_neg (by simp [hf]) ?_; exact wpAny_pure last)
        | (refine wpAny_bind ?_; refine wp_if_neg (by simp [hf]) ?_; exact wpAny_pure (wpAny_pure last))
  have any : ∀ b : Bool, wpAny (model P w) A (do
        storeSet a es1 (if b then t1 else { t1 with plain := false })
        if !false && (if b then t1 else { t1 with plain := false }).tooFull then setRelay a (SetTable.grown (es.size + 1))
        return true) Q E s := fun b => by
    cases b with
    | true => exact go t1 q3 q4 q7 rfl
    | false => exact go { t1 with plain := false } ⟨q3.ris, q3.dum, q3.len, q3.msk, q3.low, q3.found⟩ q4 q7 rfl
  by_cases hpl : t1.plain = true
  · first
      | (refine wpAny_bind ?_; refine wp_if_pos hpl ?_; exact hashed_key k _ 8 hx.1 hx.2 _ _ _ any)
      | (refine wp_if_pos hpl ?_; exact wpAny_bind (hashed_key k _ 8 hx.1 hx.2 _ _ _ any))
  · first
      | (refine wpAny_bind ?_; refine wp_if_neg hpl ?_; exact wpAny_pure (any true))
      | (refine wp_if_neg hpl ?_; exact wpAny_bind (wpAny_pure (any true)))
end
end Ks

/-! a set of keys: made of a list or a tuple; in and not in -/
namespace Ks
open PySem PySem.Spec PyProof.Rows L2
/-- what has come in from the first i -/
def Gets (ks : List (Addr × NestedKey)) (i : Nat) (L : List (Addr × NestedKey)) : Prop := (∀ p ∈ L, p ∈ ks.take i) ∧ (∀ p ∈ ks.take i, p.2 ∈ L.map (·.2)) ∧ L.length ≤ i
theorem Gets.next {ks L L2 : List (Addr × NestedKey)} {i : Nat} {x : Addr × NestedKey} (g : Gets ks i L) (h : ks[i]? = some x) (same : x.2 ∈ L.map (·.2) → L2 = L) (more : x.2 ∉ L.map (·.2) → L2.Perm (x :: L)) : Gets ks (i + 1) L2 := by
  obtain ⟨g1, g2, g3⟩ := g
  have e : ks.take (i + 1) = ks.take i ++ [x] := take_next h
  by_cases c : x.2 ∈ L.map (·.2)
  · rw [same c]
    refine ⟨fun p m => by rw [e]; exact List.mem_append_left _ (g1 p m), fun p m => ?_, by omega⟩
    rw [e] at m
    rcases List.mem_append.mp m with m | m
    · exact g2 p m
    · rw [List.mem_singleton.mp m]
      exact c
  · have pm := more c
    refine ⟨fun p m => ?_, fun p m => ?_, by rw [pm.length_eq, List.length_cons]; omega⟩
    · rw [e]
      rcases List.mem_cons.mp (pm.mem_iff.mp m) with rfl | m
      · exact List.mem_append_right _ (by simp)
      · exact List.mem_append_left _ (g1 p m)
    · rw [(pm.map (·.2)).mem_iff, List.map_cons]
      rw [e] at m
      rcases List.mem_append.mp m with m | m
      · exact List.mem_cons_of_mem _ (g2 p m)
      · rw [List.mem_singleton.mp m]
        simp
section
variable {P : Program} {w : World} {A : Around} {E : Value → Shared → Prop} {s : Shared}
theorem SN.keep {h h' : Heap} {a : Addr} {L : List (Addr × NestedKey)} {es : Array (Int × Value)} {ep : Nat} {t : SetTable} (R : SN w h a L es ep t) (g : ∀ o, h.get? a = some o → h'.get? a = some o) : SN w h' a L es ep t := by
  obtain ⟨o, ho, r⟩ := R.ob
  exact ⟨⟨o, g o ho, r⟩, R.rows, R.tab, R.nd, R.room, R.led⟩
theorem sn_new {h : Heap} {a : Addr} {led : Bool} (ho : h.get? a = some { cls := .type "set", dict := none, data := .set #[] 0 (.fresh 0 0 led) }) (hl : w.params.followText "set-order" = true ∨ led = true) : SN w h a [] #[] 0 (.fresh 0 0 led) where
  ob := ⟨_, ho, ⟨rfl, rfl, rfl⟩, rfl⟩
  rows := rfl
  tab := ⟨.nil, rfl, rfl, ⟨3, by decide, by decide, rfl⟩, nofun, fun i h j e => by simp at e⟩
  nd := .nil
  room := show 0 * 5 < 7 * 3 by decide
  led := hl
theorem loop_keys {I : Addr} {fp wr : List Addr} {G : Array GenState → Array GenState → Prop} {n : Nat} {Pv : Nat → Value → Prop} {St : Nat → Shared → Prop} {R : Result → Shared → Prop} (W : WalksS P w A.in1 I fp wr G n Pv St) (S : Addr) (hS : S ∉ fp)
    {ks : List (Addr × NestedKey)} (hn : n = ks.length) (few : ks.length < 1000) (hv : ∀ i v, Pv i v → ∃ p, ks[i]? = some p ∧ v = .ref p.1) (h0 : Heap) (hk : ∀ p ∈ ks, KeyAt h0 p.2 p.1) (hS0 : h0.get? S = none) (hw0 : ∀ b ∈ wr, h0.get? b = none) (hu : A.in1.units + 8 < cLine) :
    ∀ (k i : Nat) (s : Shared), n - i = k → i ≤ n → St i s → (∀ b o, h0.get? b = some o → s.heap.get? b = some o) → (∃ L es ep t, SN w s.heap S L es ep t ∧ Gets ks i L) →
      (∀ s' L es ep t, Moved (S :: wr) G s s' → SN w s'.heap S L es ep t → Gets ks n L → (∀ b o, h0.get? b = some o → s'.heap.get? b = some o) → R (.ok (.ret .none)) s') →
      codeAny (model P w) A (.builtin "set.update.loop" ⟨[.ref S, .ref I], []⟩) R s := by
  have out : S ∉ wr := fun z => hS (W.sub _ z)
  have still : ∀ {s s' : Shared}, Moved wr G s s' → (∀ b o, h0.get? b = some o → s.heap.get? b = some o) → ∀ b o, h0.get? b = some o → s'.heap.get? b = some o := fun m g b o e =>
    m.heap b o (fun z => by rw [hw0 b z] at e; cases e) (g b o e)
  intro k
  induction k with
  | zero =>
    rintro i s hz hi hst g ⟨L, es, ep, t, hN, hG⟩ hR
    obtain rfl : i = n := by omega
    refine codeAny_builtin F.entry_set_update_loop ?_
    rw [Around.under_plainId F.plain_set_update_loop _]
    refine wpAny_bind (W.done s _ _ hst fun s' hm => ?_)
    exact wpAny_pure (hR s' L es ep t (hm.mono fun b m => List.mem_cons_of_mem _ m) (hN.keep fun o e => hm.heap S o out e) hG (still hm g))
  | succ k ih =>
    rintro i s hz hi hst g ⟨L, es, ep, t, hN, hG⟩ hR
    refine codeAny_builtin F.entry_set_update_loop ?_
    rw [Around.under_plainId F.plain_set_update_loop _]
    refine wpAny_bind (W.item i s _ _ (by omega) hst fun v s' hP hst' hm => ?_)
    obtain ⟨p, hp, rfl⟩ := hv i v hP
    have g' := still hm g
    have hN' := hN.keep (h' := s'.heap) fun o e => hm.heap S o out e
    have at_ : ∀ q ∈ ks, KeyAt s'.heap q.2 q.1 := fun q m => (hk q m).keep g'
    have hx := at_ p (List.mem_of_getElem? hp)
    have hL : ∀ q ∈ L, KeyAt s'.heap q.2 q.1 := fun q m => at_ q (List.mem_of_mem_take (hG.1 q m))
    have hl := hG.2.2
    refine wpAny_bind (wpAny_holding ?_)
    unfold setAdd
    refine wpAny_holding ?_
    refine wpAny_bind ((nestedKind P w).pyHash (show A.in1.units + 8 < cLine from hu) hx ?_)
    refine add_key (s := { s' with toks := s'.toks + p.2.draws }) hN' hL hx hu (by omega) fun b h' L' es' ep' t' sb hN2 c1 c2 => ?_
    have g2 : ∀ b o, h0.get? b = some o → h'.get? b = some o := fun b o e => (sb.2 b fun z => by rw [z, hS0] at e; cases e).trans (g' b o e)
    refine wpAny_pure ⟨plainId_quiet F.plain_set_update_loop _, ih (i + 1) _ (by omega) (by omega) (W.frame _ s' _ _ hst' (Nat.le_add_right ..) fun b m o e => (sb.2 b fun z => hS (z ▸ m)).trans e) g2 ⟨L', es', ep', t', hN2, hG.next hp c1 c2⟩ fun s2 L2 es2 ep2 t2 hm2 hN3 hG2 g3 => ?_⟩
    refine hR s2 L2 es2 ep2 t2 (Moved.trans W.gtrans ((hm.mono fun b m => List.mem_cons_of_mem _ m).then_heap (Nat.le_add_right ..) fun b o m e => ?_) hm2) hN3 hG2 g3
    exact (sb.2 b fun z => m (by rw [z]; simp)).trans e
set_option maxHeartbeats 3200000 in
theorem set_of_keys {l : Addr} {items : Array Value} (ks : List (Addr × NestedKey)) {Q : Value → Shared → Prop} (hh : A.handled = none) (hl : s.heap.IsList l items ∨ s.heap.IsTuple l items) (hit : items.toList = ks.map fun p => Value.ref p.1)
    (hk : ∀ p ∈ ks, KeyAt s.heap p.2 p.1) (few : ks.length < 1000) (hu : A.units + 16 < cLine)
    (h : ∀ (h' : Heap) (tk : Nat) L es ep t, SN w h' s.heap.objs.size L es ep t → Gets ks ks.length L → (∀ b o, s.heap.get? b = some o → h'.get? b = some o) → Q (.ref s.heap.objs.size) { s with heap := h', toks := tk }) :
    wpAny (model P w) A (call (.type "set") [.ref l]) Q E s := by
  have many : items.size = ks.length := by simpa using congrArg List.length hit
  obtain ⟨c, tl, hmro⟩ := F.called_set.mro
  have hmade := F.called_set.made; have hsub := F.called_set.sub
  refine wpAny_call (codeAny_of_tree (show wpAny _ _ (callAny (.type "set") _) _ _ _ from wpAny_pure ⟨Code.quiet_builtin _ (by decide +kernel), codeAny_builtin F.entry_type_call ?_⟩))
  rw [Around.under_plain (weight_type_call_type "set" [.ref l] []) rfl]
  have h1 := F.called_set.notType; have h2 := F.called_set.canCreate; have hct := F.typeCall_set_1 (.ref l)
  repeat (any_goals (first | assumption | wp_step))
  generalize hled : (!w.params.followText "set-order") = led
  have hlw : w.params.followText "set-order" = true ∨ led = true := by
    rw [← hled]
    cases w.params.followText "set-order" <;> simp
  refine codeAny_mono (code_set_led1 (.ref l) (E := E) (Q₁ := fun obj s₁ => obj = .ref s.heap.objs.size ∧ s₁ = { s with heap := s.heap.push { cls := .type "set", dict := none, data := .set #[] 0 (.fresh 0 0 led) } }) ⟨rfl, by rw [← hled]⟩) fun r s₁ hr => ?_
  match r, hr with
  | .error e, hr => exact hr
  | .ok (.ret obj), hr =>
    obtain ⟨rfl, rfl⟩ := hr
    have hS : (s.heap.push { cls := .type "set", dict := none, data := .set #[] 0 (.fresh 0 0 led) }).get? s.heap.objs.size = some { cls := .type "set", dict := none, data := .set #[] 0 (.fresh 0 0 led) } := Heap.get?_push_size _ rfl
    have hT : Shared.TypeIs { s with heap := s.heap.push { cls := .type "set", dict := none, data := .set #[] 0 (.fresh 0 0 led) } } (.ref s.heap.objs.size) "set" := ⟨_, hS, rfl⟩
    have hli := F.called_set.init.lookup; have hbi := F.called_set.init.bind (.ref s.heap.objs.size)
    repeat (any_goals (first | assumption | wp_step))
    have none_of : ∀ b, s.heap.objs.size ≤ b → s.heap.get? b = none := fun b z => by
      cases q : s.heap.get? b with
      | none => rfl
      | some o => exact absurd (Nat.lt_of_lt_of_le (Heap.lt_size q) z) (Nat.lt_irrefl _)
    have val : ∀ (i : Nat) (v : Value), items[i]? = some v → ∃ p, ks[i]? = some p ∧ v = .ref p.1 := fun i v e => by
      rw [← Array.getElem?_toList, hit, List.getElem?_map] at e
      obtain ⟨p, e1, e2⟩ := Option.map_eq_some_iff.mp e
      exact ⟨p, e1, e2.symm⟩
    have hh3 : A.in1.in1.in1.handled = none := by simp [hh]
    have two : ∀ o, l < s.heap.objs.size → l ≠ (s.heap.push { cls := .type "set", dict := none, data := .set #[] 0 (.fresh 0 0 led) }).objs.size ∧ s.heap.objs.size ∉ [(s.heap.push { cls := .type "set", dict := none, data := .set #[] 0 (.fresh 0 0 led) }).objs.size, l] ∧ ((s.heap.push { cls := .type "set", dict := none, data := .set #[] 0 (.fresh 0 0 led) }).push o).get? s.heap.objs.size = some { cls := .type "set", dict := none, data := .set #[] 0 (.fresh 0 0 led) } ∧ (∀ b ∈ [(s.heap.push { cls := .type "set", dict := none, data := .set #[] 0 (.fresh 0 0 led) }).objs.size], s.heap.get? b = none) ∧ ∀ b o', s.heap.get? b = some o' → ((s.heap.push { cls := .type "set", dict := none, data := .set #[] 0 (.fresh 0 0 led) }).push o).get? b = some o' := fun o z => by
      have e1 : (s.heap.push { cls := .type "set", dict := none, data := .set #[] 0 (.fresh 0 0 led) }).objs.size = s.heap.objs.size + 1 := Heap.size_push ..
      refine ⟨by rw [e1]; exact Nat.ne_of_lt (Nat.lt_succ_of_lt z), ?_, Heap.get?_push_of_some _ hS, fun b m => none_of b (by rw [List.mem_singleton.mp m, e1]; exact Nat.le_succ _), fun b o' e => Heap.get?_push_of_some _ (Heap.get?_push_of_some _ e)⟩
      intro m
      simp only [List.mem_cons, List.not_mem_nil, or_false] at m
      rw [e1] at m
      rcases m with m | m
      · exact absurd m (Nat.ne_of_lt (Nat.lt_succ_self _))
      · rw [m] at z
        exact Nat.lt_irrefl _ z
    have fin : ∀ {wr G} {s0 s' : Shared} {L es ep t} {Q2 : Value → Shared → Prop}, Moved (s.heap.objs.size :: wr) G s0 s' → s0.gens = s.gens → s0.drawn = s.drawn → s0.os = s.os → (∀ a b, G a b → b = a) → SN w s'.heap s.heap.objs.size L es ep t → Gets ks items.size L → (∀ b o, s.heap.get? b = some o → s'.heap.get? b = some o) →
        ∃ h' tk L es ep t, s' = { s with heap := h', toks := tk } ∧ SN w h' s.heap.objs.size L es ep t ∧ Gets ks ks.length L ∧ ∀ b o, s.heap.get? b = some o → h'.get? b = some o := fun {wr G s0 s' L es ep t Q2} hm e1 e2 e3 hG hN hg hkp => by
      obtain ⟨h', g', d', tk', os'⟩ := s'
      have a1 : g' = s.gens := (hG _ _ hm.gens).trans e1
      have a2 : d' = s.drawn := hm.drawn.trans e2
      have a3 : os' = s.os := hm.os.trans e3
      subst a1 a2 a3
      rw [many] at hg
      exact ⟨h', tk', L, es, ep, t, rfl, hN, hg, hkp⟩
    refine codeAny_mono (codeAny_call_builtin (R := wants (fun r s₂ => r = .none ∧ ∃ h' tk L es ep t, s₂ = { s with heap := h', toks := tk } ∧ SN w h' s.heap.objs.size L es ep t ∧ Gets ks ks.length L ∧ ∀ b o, s.heap.get? b = some o → h'.get? b = some o) E) F.called_set.init.plain F.entry_set_init (check_set_init_1 hT ?_)) fun r₂ s₂ hr₂ => ?_
    · rcases hl with hl | hl
      · obtain ⟨⟨ocls, odict, odata, oslots⟩, hol, hcl, nl, hdl⟩ := hl
        simp only at hcl hdl; subst hcl hdl
        have hol' : (s.heap.push { cls := .type "set", dict := none, data := .set #[] 0 (.fresh 0 0 led) }).get? l = some _ := Heap.get?_push_of_some _ hol
        have hsls := F.sub_list_set; have hslf := F.sub_list_frozenset
        have hne : (Value.type "list" == Value.type "dict") = false := by decide
        have hl1 : (s.heap.push { cls := .type "set", dict := none, data := .set #[] 0 (.fresh 0 0 led) }).IsList l items := ⟨_, hol', rfl, nl, rfl⟩
        unfold Builtin.«set.__init__» noKeywords Builtin.Frozenset.updateFrom
        generalize hPI : pyIter = PI
        wp_walk
        subst hPI
        refine wpAny_pyIter_list hl1 ?_; refine wpAny_bind (wpAny_runValue ?_)
        obtain ⟨b1, b2, b3, b4, b5⟩ := two { cls := .type "list_iterator", data := .fields #[.ref l, .int 0 0] } (Heap.lt_size hol)
        refine loop_keys ((Walks.list hh3 _ l b1 items).toS) s.heap.objs.size b2 many few val s.heap hk (none_of _ (Nat.le_refl _)) b4 (by show A.units + 3 + 8 < cLine; omega) (items.size - 0) 0 _ (by omega) (Nat.zero_le _) ⟨⟨_, Heap.get?_push_size _ rfl, rfl, rfl⟩, hl1.push _⟩ b5 ⟨[], #[], 0, _, sn_new (led := led) b3 hlw, nofun, by simp, by simp⟩ fun s' L es ep t hm hN hg hkp => ?_
        exact wpAny_pure (wpAny_pure ⟨rfl, fin (Q2 := Q) hm rfl rfl rfl (fun _ _ z => z) hN hg hkp⟩)
      · obtain ⟨⟨ocls, odict, odata, oslots⟩, hol, hcl, nl, hdl⟩ := hl
        simp only at hcl hdl; subst hcl hdl
        have hol' : (s.heap.push { cls := .type "set", dict := none, data := .set #[] 0 (.fresh 0 0 led) }).get? l = some _ := Heap.get?_push_of_some _ hol
        have hsls := F.sub_tuple_set; have hslf := F.sub_tuple_frozenset
        have hne : (Value.type "tuple" == Value.type "dict") = false := by decide
        have hl1 : (s.heap.push { cls := .type "set", dict := none, data := .set #[] 0 (.fresh 0 0 led) }).IsTuple l items := ⟨_, hol', rfl, nl, rfl⟩
        unfold Builtin.«set.__init__» noKeywords Builtin.Frozenset.updateFrom
        generalize hPI : pyIter = PI
        wp_walk
        subst hPI
        refine wpAny_pyIter_tuple hl1 ?_; refine wpAny_bind (wpAny_runValue ?_)
        obtain ⟨b1, b2, b3, b4, b5⟩ := two { cls := .type "tuple_iterator", data := .fields #[.ref l, .int 0 0] } (Heap.lt_size hol)
        refine loop_keys ((Walks.tuple hh3 _ l b1 items).toS) s.heap.objs.size b2 many few val s.heap hk (none_of _ (Nat.le_refl _)) b4 (by show A.units + 3 + 8 < cLine; omega) (items.size - 0) 0 _ (by omega) (Nat.zero_le _) ⟨⟨_, Heap.get?_push_size _ rfl, rfl, rfl⟩, hl1.push _⟩ b5 ⟨[], #[], 0, _, sn_new (led := led) b3 hlw, nofun, by simp, by simp⟩ fun s' L es ep t hm hN hg hkp => ?_
        exact wpAny_pure (wpAny_pure ⟨rfl, fin (Q2 := Q) hm rfl rfl rfl (fun _ _ z => z) hN hg hkp⟩)
    · match r₂, hr₂ with
      | .error e, hr₂ => exact hr₂
      | .ok (.ret r), hr₂ =>
        obtain ⟨rfl, h', tk, L, es, ep, t, rfl, hN, hg, hkp⟩ := hr₂
        repeat (any_goals (first | assumption | wp_step))
        exact h _ _ _ _ _ _ hN hg hkp
      | .ok .next, hr₂ => exact hr₂.elim
      | .ok .brk, hr₂ => exact hr₂.elim
      | .ok .cont, hr₂ => exact hr₂.elim
  | .ok .next, hr => exact hr.elim
  | .ok .brk, hr => exact hr.elim
  | .ok .cont, hr => exact hr.elim
end
end Ks

/-! sorted(a tuple) -/
namespace Ks
open PySem PySem.W PyProof.Rows
section
variable {prog : Program} {w : World} {A : Around} {E : Value → Shared → Prop} {s : Shared}
theorem gather_tup {l : Addr} {vs : List Value} {Q : List Value → Shared → Prop} (hl : s.heap.IsTuple l vs.toArray)
    (h : Q vs { s with heap := (s.heap.push (seqObj "list" #[] 0)).update s.heap.objs.size (Obj.mapSeq (· ++ vs.toArray)) }) (hz : vs.length ≤ sizeLine) : wpAny (model prog w) A (collect (.ref l)) Q E s := by
  obtain ⟨o, ho, hc, n, hd⟩ := id hl
  unfold collect
  refine wpAny_bind (wpAny_runValue (codeAny_builtin entry_proto_collect' (show wpAny _ _ (do again (.builtin "list.__iadd__" ⟨[← newList [], .ref l], []⟩)) _ _ s from ?_)))
  refine wpAny_bind (wpAny_newList (wpAny_pure ⟨Code.quiet_builtin _ (by decide +kernel), codeAny_builtin entry_list_iadd' (show wpAny _ _ (Builtin.List.listExtendWith (.ref s.heap.objs.size) (.ref l) (.ref s.heap.objs.size)) _ _ { s with heap := s.heap.push (seqObj "list" #[] 0) } from ?_)⟩))
  have hl2 : (s.heap.push (seqObj "list" #[] 0)).get? l = some o := Heap.get?_push_of_some _ ho
  have h0 : (s.heap.push (seqObj "list" #[] 0)).get? s.heap.objs.size = some (seqObj "list" #[] 0) := Heap.get?_push_size _ rfl
  unfold Builtin.List.listExtendWith
  refine wpAny_bind (wpAny_typeOf (T := "tuple") ⟨o, hl2, hc⟩ ?_)
  rw [if_pos (by rw [show (Value.type "tuple" == Value.type "tuple") = true from rfl, Bool.or_true])]
  refine wpAny_bind (listItems_at hl2 hd (wpAny_bind (listItems_at (xs := #[]) (n := 0) h0 rfl ?_)))
  rw [if_neg (by simp)]
  refine wpAny_bind (listUpdate_at (xs := #[]) (n := 0) h0 rfl (wpAny_pure ?_) (Nat.zero_le _) (by simpa using Nat.le_succ_of_le hz))
  refine wpAny_bind (wpAny_load (get?_update_seq h0 _) ?_)
  exact wpAny_pure (by simpa using h)
theorem sorted_tup_by {l : Addr} {vs : List Value} {Q : Value → Shared → Prop} (hl : s.heap.IsTuple l vs.toArray) (hz : vs.length ≤ sizeLine)
    (body : ∀ E' : Value → Shared → Prop, wpAny (model prog w) A.in1.in1 (Builtin.«list.sort» ⟨[.ref (s.heap.objs.size + 1)], []⟩) (fun f s' => f = .done (.ret .none) ∧ Q (.ref (s.heap.objs.size + 1)) s') E' { s with heap := copyHeap s.heap vs }) :
    wpAny (model prog w) A (call (.builtin "sorted") [.ref l]) Q E s := by
  refine call_function_entry_kw kind_sorted plain_sorted entry_sorted (args_sorted1 _) ?_
  unfold Builtin.«sorted»
  refine wpAny_bind (m := checkCount "sorted" 1 1 _) (wpAny_pure (wpAny_bind (gather_tup hl (wpAny_bind (wpAny_newList ?_ hz)) hz)))
  have two : ((s.heap.push (seqObj "list" #[] 0)).update s.heap.objs.size (Obj.mapSeq (· ++ vs.toArray))).objs.size = s.heap.objs.size + 1 := by rw [Heap.size_update, size_push']
  show wpAny _ _ _ _ _ { s with heap := copyHeap s.heap vs }
  rw [two]
  refine wpAny_bind (wpAny_holding (wpAny_call_entry_kw slot_list_sort ⟨_, copyHeap_at s.heap vs, rfl⟩ entry_list_sort ?_ (args_list_sort _)))
  show wpAny (model prog w) A.in1.in1 (Builtin.«list.sort» ⟨[.ref (s.heap.objs.size + 1)], []⟩) _ _ _
  refine wpAny_mono (body _) (fun f s' hf => ?_) fun _ _ e => e
  obtain ⟨rfl, hq⟩ := hf
  exact ⟨_, rfl, wpAny_pure ⟨_, rfl, hq⟩⟩
theorem sorted_tup {α : Type} {R : Value → α → Prop} {bs : List α} {enc : α → PyData} {l : Addr} {vs : List Value} {Q : Value → Shared → Prop} (hl : s.heap.IsTuple l vs.toArray) (e : EachIs R vs bs) (er : EachIs (fun v b => ∃ as, Reads s.heap v (enc b) as) vs bs) (hal : AllAlike (bs.map enc)) (hk : Sortable (bs.map enc)) (hL : bs.length ≤ sizeLine)
    (hu : ∀ b, b ∈ bs → A.units + 2 + (enc b).depth < cLine) (h : ∀ out, out.length = bs.length → EachIs R out (bs.mergeSort (dataLe false enc)) → Q (.ref (s.heap.objs.size + 1)) { s with heap := sortedAll s.heap vs (List.toArray out) }) :
    wpAny (model prog w) A (call (.builtin "sorted") [.ref l]) Q E s := by
  have er' : EachIs (fun v b => ∃ as, Reads (sortingHeap (copyHeap s.heap vs) (s.heap.objs.size + 1) vs) v (enc b) as) vs bs := er.mono fun _ _ ⟨as, r⟩ => ⟨as, PyProof.Rows.Reads.keeps (fun _ _ => sorting_copy_old) r⟩
  have hz : vs.length ≤ sizeLine := by rw [e.length]; exact hL
  have S := SortsAt.data (prog := prog) (w := w) (A := A.in1.in1) (s := { s with heap := sortingHeap (copyHeap s.heap vs) (s.heap.objs.size + 1) vs }) (each_map (R := fun v d => ∃ as, Reads (sortingHeap (copyHeap s.heap vs) (s.heap.objs.size + 1) vs) v d as) enc er') hal hk (bound_map hu)
  refine sorted_tup_by hl hz fun E' => list_sort_vals (s := { s with heap := copyHeap s.heap vs }) (copyHeap_at s.heap vs) S hz ⟨rfl, ?_⟩
  exact h _ (by rw [sortVals_length false rfl]; exact e.length) (sortVals_data false e er' hal)
end
end Ks

/-! whether a set has a key -/
namespace Ks
open PySem PySem.Spec PyProof.Rows L2
theorem find_succ (a : Addr) (x : Value) (h : Int) (fuel : Nat) : setFindIn a x h (fuel + 1) = (do
    let (es, _, _) ← setState a
    if byScan x es then
      rule "set.find.by-scan"
      match ← setScan a x h false es with
      | .found i => return some i
      | .absent => return none
      | .anew => return ← setFindIn a x h fuel
    match ← setSearch a x h with
    | .there i => return i
    | .free .. => return none) := by rfl
section
variable {P : Program} {w : World} {A : Around} {E : Value → Shared → Prop} {s : Shared} {a : Addr} {L : List (Addr × NestedKey)} {es : Array (Int × Value)} {ep : Nat} {t : SetTable}
theorem find_key (R : SN w s.heap a L es ep t) (hL : ∀ p ∈ L, KeyAt s.heap p.2 p.1) {x : Addr} {k : NestedKey} (hx : KeyAt s.heap k x) (hu : A.units + 8 < cLine) {Q : Option Nat → Shared → Prop} (hQ : ∀ y, y.isSome = decide (k ∈ L.map (·.2)) → Q y s) :
    wpAny (model P w) A (setFind a (.ref x) (k.hash w)) Q E s := by
  obtain ⟨o, ho, hex, hd⟩ := R.ob
  unfold setFind
  rw [show (100000 : Nat) = 99999 + 1 from rfl, find_succ]
  refine wpAny_bind (wpAny_setState_of ho hd R.fits ?_)
  dsimp only
  refine wp_if_neg (by simp [byScan, Value.scannable]) ?_
  try refine wpAny_bind (wpAny_pure ?_)
  refine wpAny_bind (search_key R hL hx hu false (fun y hm hy => ?_) fun c hm _ _ => ?_)
  · exact wpAny_pure (hQ y (by rw [hy rfl, decide_eq_true hm]))
  · exact wpAny_pure (hQ none (by rw [decide_eq_false hm]; rfl))
theorem has_key (R : SN w s.heap a L es ep t) (hL : ∀ p ∈ L, KeyAt s.heap p.2 p.1) {x : Addr} {k : NestedKey} (hx : KeyAt s.heap k x) (hu : A.units + 16 < cLine) {Q : Bool → Shared → Prop} (hQ : Q (decide (k ∈ L.map (·.2))) { s with toks := s.toks + k.draws }) :
    wpAny (model P w) A (contains (.ref a) (.ref x)) Q E s := by
  have hT : s.TypeIs (.ref a) "set" := let ⟨o, ho, hc, _⟩ := R.ob; ⟨o, ho, hc.1⟩
  unfold contains
  try with_reducible refine wpAny_holding ?_
  refine wpAny_bind (wpAny_specialOf hT F.slot_set_contains.lookup (show wpAny _ _ (if (some (Value.builtin "set.__contains__") == some Value.none) = true then _ else _) _ E s from ?_))
  rw [if_neg (by rw [beq_builtin_none]; exact Bool.false_ne_true)]
  refine wpAny_bind (wpAny_callSpecialUnlessNone?_slot (name := Str.ofString "__contains__") hT F.slot_set_contains (wpAny_call_entry F.slot_set_contains hT entry_set_contains ?_ (F.args_set_contains_2 _ _)))
  unfold Builtin.«frozenset.__contains__» Builtin.Frozenset.oneOther Builtin.Frozenset.addrOf Builtin.Frozenset.withSetAsKey setContains
  simp only [List.isEmpty_nil, bind_assoc]
  refine wpAny_bind (wpAny_pure ?_); try dsimp only
  refine wpAny_bind (wpAny_pure ?_); try dsimp only
  refine wpAny_bind (wpAny_tryCatch (wpAny_holding (wpAny_bind ((nestedKind P w).pyHash (show _ + 8 < cLine from ?_) hx ?_))))
  · show A.units + 1 + 8 < cLine
    omega
  refine wpAny_bind (find_key (s := { s with toks := s.toks + k.draws }) R hL hx (show A.units + 1 + 8 < cLine by omega) fun y hy => wpAny_pure ?_)
  show wpAny _ _ (ret (Value.bool y.isSome)) _ _ _
  rw [hy]
  exact wpAny_pure ⟨_, rfl, wpAny_truthy_bool hQ⟩
end
end Ks

/-! enumerate(a tuple) -/
namespace Ks
open PySem PySem.Spec PyProof.Rows L2
section
open AutoSeq1 (wpAny_loadPart')
theorem made_of_tup (l : Addr) (items : Array Value) (n : Nat) (dct : Option Addr) (sl : Array (Option Value)) :
    Meets (Builtin.«enumerate.__new__» ⟨[.type "enumerate", .ref l], []⟩) (fun _ R s => s.heap.get? l = some { cls := .type "tuple", dict := dct, data := .seq items n, slots := sl } ∧
      R (.ok (.ret (.ref (s.heap.push { cls := .type "tuple_iterator", data := .fields #[.ref l, .int 0 0] }).objs.size)))
        { s with heap := (s.heap.push { cls := .type "tuple_iterator", data := .fields #[.ref l, .int 0 0] }).push { cls := .type "enumerate", data := .fields #[.none, .bool false, .ref s.heap.objs.size, rawInt 0, .none, .none] } }) :=
  .of_wp fun prog w A R s h => by
    obtain ⟨hp, g, d, tk, os⟩ := s
    obtain ⟨hl, h⟩ := h
    have hsub := sub_enumerate
    have hT : Heap.IsTuple (Shared.heap ⟨hp, g, d, tk, os⟩) l items := ⟨_, hl, rfl, n, rfl⟩
    wp_walk using wpAny_loadPart' hl
    refine wpAny_stack_any fun st => wpAny_pure ?_
    split
    · rename_i c _ _ _ _ _
      cases (c == Value.type "enumerate") <;> wp_walk using wpAny_loadPart' hl, wpAny_pyIter_tuple hT <;> exact ⟨_, rfl, h⟩
    · wp_walk using wpAny_loadPart' hl, wpAny_pyIter_tuple hT
      exact ⟨_, rfl, h⟩
end
section
variable {prog : Program} {w : World} {A : Around} {E : Value → Shared → Prop} {s : Shared}
theorem enum_tup {l : Addr} {items : Array Value} {Q : Value → Shared → Prop} (hL : s.heap.IsTuple l items)
    (h : ∀ h', IsEnum h' (s.heap.objs.size + 1) s.heap.objs.size 0 .none → h'.IsTupleIter s.heap.objs.size l 0 → (∀ b o, s.heap.get? b = some o → h'.get? b = some o) → Q (.ref (s.heap.objs.size + 1)) { s with heap := h' }) :
    wpAny (model prog w) A (call (.type "enumerate") [.ref l]) Q E s := by
  obtain ⟨⟨c, dct, dt, sl⟩, hl, hc, n, hd⟩ := hL
  obtain rfl : c = .type "tuple" := hc
  obtain rfl : dt = .seq items n := hd
  refine callType_new F.called_enumerate (by decide) (F.typeCall_enumerate_1 _) (F.newCall_enumerate_1 _) (fun obj => F.args_object_init_2 obj _) F.entry_enumerate_new (made_of_tup l items n dct sl) ⟨hl, ?_⟩
  have hz : (s.heap.push { cls := .type "tuple_iterator", data := .fields #[.ref l, .int 0 0] }).objs.size = s.heap.objs.size + 1 := Heap.size_push ..
  show _ ∧ _
  rw [hz]
  have he := Heap.get?_push_size (s.heap.push { cls := .type "tuple_iterator", data := .fields #[.ref l, .int 0 0] }) (o := { cls := .type "enumerate", data := .fields #[.none, .bool false, .ref s.heap.objs.size, rawInt 0, .none, .none] }) rfl
  rw [hz] at he
  exact ⟨⟨_, he, rfl⟩, h _ he ⟨_, Heap.get?_push_of_some _ (Heap.get?_push_size _ rfl), rfl, rfl⟩ fun b o x => Heap.get?_push_of_some _ (Heap.get?_push_of_some _ x)⟩
end
def Ett (K : PySem.W.Frag) (a : Addr) : It :=
  ⟨fun i H => ∃ (xs : List V) (x : V), SqT K H a xs ∧ xs[i]? = some x, fun i H v H' => ∃ T x, v = .ref T ∧ H T = none ∧ H' = upd H T (.tup [.int (i : Nat), x]) ∧ ∀ xs, SqT K H a xs → xs[i]? = some x, fun i H => ∃ xs : List V, SqT K H a xs ∧ xs.length ≤ i⟩
theorem turn_ett {P : Program} {w : World} {K : PySem.W.Frag} {elts : List Expr} {kk : Nat} {tpos : Pos} (a e it : Addr) (hne : e ≠ it) (hae : e ≠ a) (hai : a ≠ it) :
    Turn P w K (.Tuple elts kk tpos) (Ett K a) [e, it] e (fun i h => (∃ old, IsEnum h e it ((i : Nat) : Int) old) ∧ h.IsTupleIter it a i) where
  mem := by simp
  obj := fun i h st b hb => by
    obtain ⟨⟨old, he⟩, ⟨o, ho, hc, hd⟩⟩ := st
    simp only [List.mem_cons, List.not_mem_nil, or_false] at hb
    rcases hb with rfl | rfl
    · exact ⟨_, he, fun v q => nomatch q⟩
    · exact ⟨o, ho, fun v q => by rw [hd] at q; cases q⟩
  keep := fun i h h' st k => let ⟨⟨old, he⟩, hi⟩ := st; ⟨⟨old, k e (by simp) _ he⟩, hi.at fun o q => k it (by simp) o q⟩
  item := by
    intro X hP hw hK hc i pins s σ H E I hf st hg
    subst hP hw hK
    obtain ⟨⟨old, he⟩, hit⟩ := st
    obtain ⟨xs, x, hq, hx⟩ := hg
    obtain ⟨its, rv, p, hz⟩ := I.tuple hq
    obtain ⟨u, hu, ru⟩ := rv.get hx
    have hel : e < s.heap.objs.size := Heap.lt_size he
    have hil : it < s.heap.objs.size := by
      obtain ⟨_, q, _⟩ := hit
      exact Heap.lt_size q
    have hlt : i < its.toArray.size := by
      have := (List.getElem?_eq_some_iff.mp hu).1
      simpa using this
    refine wpAny_pyNext_enum_itemD (Draws.tuple (by simpa using I.ok.hd hc) it a hai its.toArray) he ⟨hit, p⟩ hlt hne (by simp [hne, hae]) fun v h' tk hv ho hit' hT hsz hk => ?_
    have ev : v = u := by
      have h1 : its[i]? = some v := by simpa using hv
      rw [hu] at h1
      exact (Option.some.inj h1).symm
    subst ev
    refine ⟨_, rfl, wpAny_letOwnedTupleGo_enum (s := { s with heap := h', toks := tk + 1 }) ho fun h'' he' sb => ?_⟩
    have hT2 : h''.get? s.heap.objs.size = some { cls := .type "tuple", data := .seq #[.int i tk, v] } := (sb.2 _ (Nat.ne_of_gt hel)).trans hT
    have new : ObjOk X.prog X.w (upd H s.heap.objs.size (.tup [.int (i : Nat), x])) h'' s.heap.objs.size (.tup [.int (i : Nat), x]) := ⟨show 2 ≤ sizeLine by decide, [.int i tk, v], .cons ⟨_, rfl⟩ (.cons ru .nil), ⟨_, hT2, rfl, _, rfl⟩⟩
    have I1 : Inv X pins σ (upd H s.heap.objs.size (.tup [.int (i : Nat), x])) { s with heap := h'', toks := tk + 1 } :=
      I.turnedNew (ch := [e, it]) (fun b ob hb q => (sb.2 b fun z => hb (by simp [z])).trans (hk b ob (fun z => hb (by simp [z])) (fun z => hb (by simp [z])) q)) hf (Nat.le_refl _) new
    refine ⟨.ref s.heap.objs.size, _, I1, rfl, ⟨_, x, rfl, I.hok.fresh (Nat.le_refl _), rfl, fun ys hy => by rw [I.tuple_inj hy hq]; exact hx⟩, ⟨⟨v, ?_⟩, hit'.1.at fun o q => (sb.2 it (Ne.symm hne)).trans q⟩, fun b hb => ?_⟩
    · rw [show ((i + 1 : Nat) : Int) = (i : Int) + 1 by omega]
      exact he'
    · simp only [List.mem_cons, List.not_mem_nil, or_false] at hb
      have hb' : b < s.heap.objs.size := by rcases hb with rfl | rfl <;> assumption
      rw [upd_ne (Nat.ne_of_lt hb')]
      exact (hf b (by simpa using hb)).1
  done := by
    intro X hP hw hK hc i pins s σ H E I hf st hg
    subst hP hw hK
    obtain ⟨⟨old, he⟩, hit⟩ := st
    obtain ⟨xs, hq, hx⟩ := hg
    obtain ⟨its, rv, p, hz⟩ := I.tuple hq
    obtain ⟨f0, f1, f2, f3, f4, f5⟩ := hf it (by simp)
    have hl := rv.length
    have over : its.toArray[i]? = none := by simp; omega
    have hT : s.TypeIs (.ref e) "enumerate" := ⟨_, he, rfl⟩
    unfold pyNext
    refine wpAny_bind (wpAny_attempt (wpAny_callSpecial?_slot (name := Str.ofString "__next__") hT F.slot_enumerate_next (wpAny_call_entry F.slot_enumerate_next hT F.entry_enumerate_next ?_ (F.args_enumerate_next_1 _))))
    show wpAny _ _ (field (.ref e) 2 >>= _) _ _ _
    refine wpAny_bind (wpAny_field he rfl (x := .ref it) rfl (wpAny_bind (wpAny_nextOf_tuple_end (by simpa using I.ok.hd hc) hit p over fun h' x eb hx' => ?_)))
    obtain ⟨o, ho, hc'⟩ := hx'
    refine wpAny_bind (wpAny_isInstance (T := "StopIteration") (b := true) ⟨o, ho, hc'⟩ isSubtype_stop ?_)
    exact wpAny_pure ⟨rfl, I.turned (t' := s.toks) (fun b o hb q => eb b o hb q) f0 f1 f3 f4 f5⟩
  self := fun A i s Q E st h => let ⟨⟨_, he⟩, _⟩ := st; wpAny_pyIter_enum he h
def iEnT (K : PySem.W.Frag) (ta : TA) : TI := fun σ H R => ta σ H fun vs H1 => ∃ a xs, vs = [.ref a] ∧ SqT K H1 a xs ∧ R (Ett K a) H1
theorem pi_enT {X : Cx} {e : Expr} {ta : TA} {p pos tpos : Pos} {elts : List Expr} {kk : Nat} (hg : Gl X "enumerate") (hm : X.mg "enumerate" = none) (ha : PA X [e] ta) (hs : starEach [e] X.env = [(false, eval e X.env)] := by rfl) :
    PI X (.Tuple elts kk tpos) (.Call (.Name "enumerate" p) [e] [] pos) (iEnT X.K ta) := by
  refine ⟨fun pins s σ H R I h => Call_ (ld_blt I hg hm boot_enumerate (PyProof.Rows.callWith_type1 (thn (ha.run pos pins s σ H _ I h) fun us s1 ⟨vs, H1, I1, r1, q1⟩ => ?_) hs rfl))⟩
  obtain ⟨a, xs, rfl, hq, q⟩ := q1
  cases r1 with
  | cons r rr =>
    cases rr
    cases r
    obtain ⟨its, rv, p', hz⟩ := I1.tuple hq
    have hal : a < s1.heap.objs.size := by
      obtain ⟨o, ho, _⟩ := p'
      exact Heap.lt_size ho
    refine enum_tup p' fun h' he hit hk => wpAny_pyIter_enum he ?_
    refine ⟨s1.heap.objs.size + 1, [s1.heap.objs.size + 1, s1.heap.objs.size], _, _, H1, rfl, I1.kept (t' := s1.toks) hk, turn_ett a (s1.heap.objs.size + 1) s1.heap.objs.size (Nat.succ_ne_self _) (Nat.ne_of_gt (Nat.lt_succ_of_lt hal)) (Nat.ne_of_lt hal), ⟨⟨.none, he⟩, hit⟩, fun b hb => ?_, q⟩
    simp only [List.mem_cons, List.not_mem_nil, or_false] at hb
    have hle : s1.heap.objs.size ≤ b := by
      rcases hb with rfl | rfl
      · exact Nat.le_succ _
      · exact Nat.le_refl _
    exact I1.fpOk hle (I1.hok.fresh hle)
end Ks

/-! a tuple the other way round -/
namespace Ks
open PySem PySem.Spec PyProof.Rows L2 HT
section
variable {prog : Program} {w : World} {A : Around} {E : Value → Shared → Prop} {s : Shared}
theorem back_steps {sl : Addr} {vl vu vs : Value} {n : Nat} {Q : Int × Int × Nat → Shared → Prop} (hs : s.heap.IsSliceOf sl vl vu vs) (pl : IsPart vl none) (pu : IsPart vu none) (ps : IsPart vs (some (-1)))
    (h : Q ((n : Int) - 1, -1, n) s) : wpAny (model prog w) A (Builtin.Slice.sliceApplied (.ref sl) (pure (n : Int))) Q E s := by
  obtain ⟨os, hos, hcs, hds⟩ := id hs
  unfold Builtin.Slice.sliceApplied Builtin.Slice.sliceFields
  refine wpAny_bind (wpAny_bind (wpAny_field hos hds (x := vl) rfl (wpAny_bind (wpAny_field hos hds (x := vu) rfl (wpAny_bind (wpAny_field hos hds (x := vs) rfl (wpAny_pure ?_)))))))
  refine wpAny_bind (slicePart_ ps ?_)
  show wpAny _ _ (if ((-1 : Int) == 0) = true then _ else _) _ _ s
  rw [if_neg (by decide)]
  refine wpAny_bind (slicePart_ pl (wpAny_bind (slicePart_ pu (wpAny_bind (wpAny_pure ?_)))))
  have e : Builtin.Slice.sliceAdjust none none (-1) (n : Int) = ((n : Int) - 1, -1) := rfl
  show wpAny _ _ (match Builtin.Slice.sliceAdjust none none (-1) (n : Int) with | (lo, hi) => pure (lo, (-1 : Int), Builtin.Slice.slicePlaces lo hi (-1))) _ _ s
  rw [e]
  have e2 : Builtin.Slice.slicePlaces ((n : Int) - 1) (-1) (-1) = n := by
    unfold Builtin.Slice.slicePlaces
    simp
    omega
  show wpAny _ _ (pure ((n : Int) - 1, (-1 : Int), Builtin.Slice.slicePlaces ((n : Int) - 1) (-1) (-1))) _ _ s
  rw [e2]
  exact wpAny_pure h
theorem filterMap_same {α β : Type} {f g : α → Option β} : ∀ {l : List α}, (∀ x ∈ l, f x = g x) → l.filterMap f = l.filterMap g
  | [], _ => rfl
  | x :: l, h => by
    rw [List.filterMap_cons, List.filterMap_cons, h x (by simp), filterMap_same fun y m => h y (List.mem_cons_of_mem _ m)]
theorem back_pick (xs : Array Value) : (List.range xs.size).filterMap (fun (k : Nat) => xs[(((xs.size : Int) - 1) + (k : Int) * (-1)).toNat]?) = xs.toList.reverse := by
  have a := range_all xs.toList.reverse
  rw [List.length_reverse, Array.length_toList] at a
  refine Eq.trans (filterMap_same fun k hk => ?_) a
  rw [List.mem_range] at hk
  rw [List.getElem?_reverse (by simpa using hk), Array.getElem?_toList, Array.length_toList, show (((xs.size : Int) - 1) + (k : Int) * (-1)).toNat = xs.size - 1 - k by omega]
theorem get_back {t sl : Addr} {items : Array Value} {vl vu vs : Value} {Q : Value → Shared → Prop} (ht : IsTup s.heap t items) (hs : s.heap.IsSliceOf sl vl vu vs) (pl : IsPart vl none) (pu : IsPart vu none) (ps : IsPart vs (some (-1)))
    (h : Q (.ref s.heap.objs.size) { s with heap := s.heap.push { cls := .type "tuple", data := .seq items.toList.reverse.toArray } }) (hz : items.size ≤ sizeLine) : wpAny (model prog w) A (getItem (.ref t) (.ref sl)) Q E s := by
  have fits : sizeOk (.seq items.toList.reverse.toArray) := by
    show items.toList.reverse.toArray.size ≤ sizeLine
    simpa using hz
  obtain ⟨os, hos, hcs, hds⟩ := id hs
  have hTs : s.TypeIs (.ref sl) "slice" := ⟨os, hos, hcs⟩
  unfold getItem
  try with_reducible refine wpAny_holding ?_
  first | refine wpAny_bind (wpAny_pure ?_) | skip
  refine wpAny_bind (wpAny_sequenceKey ht.typeIs (by decide) (wpAny_bind (wpAny_callSpecial?_slot (name := Str.ofString "__getitem__") ht.typeIs PyProof.Rows.slot_tuple_getitem (wpAny_call_entry PyProof.Rows.slot_tuple_getitem ht.typeIs entry_tuple_getitem ?_ (args_tuple_getitem _ _)))))
  show wpAny _ _ (Builtin.Tuple.tupleItemsOf (.ref t) >>= _) _ _ s
  refine wpAny_bind (tupleItemsOf_ ht (wpAny_bind (wpAny_typeOf hTs ?_)))
  rw [if_pos (by decide)]
  refine wpAny_bind (back_steps hs pl pu ps ?_)
  show wpAny _ _ (if (((items.size : Int) - 1) == 0 && (-1 : Int) == 1 && items.size == items.size) = true then _ else _) _ _ s
  rw [if_neg (by rw [show ((-1 : Int) == 1) = false from rfl, Bool.and_false, Bool.false_and]; exact Bool.false_ne_true), back_pick]
  first
    | exact wpAny_bind (m := Builtin.Tuple.tupleExact _) (wpAny_newObj_type (wpAny_pure ⟨_, rfl, wpAny_pure h⟩) fits)
    | exact wpAny_bind (m := Builtin.Tuple.tupleExact _) (wpAny_newObj_type (wpAny_bind (wpAny_pure (wpAny_pure ⟨_, rfl, wpAny_pure h⟩))) fits)
    | exact wpAny_bind (wpAny_bind (m := Builtin.Tuple.tupleExact _) (wpAny_newObj_type (wpAny_pure (wpAny_pure ⟨_, rfl, wpAny_pure h⟩)) fits))
    | exact wpAny_bind (wpAny_bind (m := Builtin.Tuple.tupleExact _) (wpAny_newObj_type (wpAny_pure ⟨_, rfl, wpAny_pure h⟩) fits))
end
section
variable {X : Cx}
def tRevT (K : PySem.W.Frag) (te : TE) : TE := fun σ H Q => te σ H fun x H1 => ∃ a xs, x = .ref a ∧ SqT K H1 a xs ∧ ∀ p, H1 p = none → Q (.ref p) (upd H1 p (.tup xs.reverse))
theorem pe_revT {e : Expr} {te : TE} {k : Nat} {p1 p2 p3 pos : Pos} (he : PE X e te) : PE X (.Subscript e (.Slice none none (some (.UnaryOp .USub (.Constant (.int 1) k p1) p2)) p3) pos) (tRevT X.K te) := by
  refine ⟨fun pins s σ H Q I h => Subscript_ (thn (he.run pins s σ H _ I h) fun v s1 ⟨x, H1, I1, r1, q1⟩ => ?_)⟩
  obtain ⟨a, xs, rfl, hx, q⟩ := q1
  cases r1
  have hst : PO X (some (.UnaryOp .USub (.Constant (.int 1) k p1) p2)) (tPart (tUn (rU fun i => .int (-i)) (tC (.int 1)))) := po_some (pe_un un_neg pe_int)
  refine wpAny_Slice (thn (po_none.run pins s1 σ H1 (fun o H2 => o = none ∧ H2 = H1) I1 ⟨rfl, rfl⟩) fun vl s2 ⟨l, H2, I2, pl, el, e2⟩ => ?_)
  subst el e2
  refine thn (po_none.run pins s2 σ H2 (fun o H3 => o = none ∧ H3 = H2) I2 ⟨rfl, rfl⟩) fun vu s3 ⟨u, H3, I3, pu, eu, e3⟩ => ?_
  subst eu e3
  refine thn (hst.run pins s3 σ H3 (fun o H4 => o = some (-1) ∧ H4 = H3) I3 ⟨1, rfl, -1, rfl, rfl, rfl⟩) fun vs s4 ⟨o, H4, I4, ps, eo, e4⟩ => ?_
  subst eo e4
  have I5 : Inv X pins σ H4 { s4 with heap := s4.heap.push { cls := .type "slice", data := .fields #[vl, vu, vs] } } := I4.kept (t' := s4.toks) fun b ob q => Heap.get?_push_of_some _ q
  obtain ⟨its, r, ht, hz⟩ := I5.tuple hx
  have hlen := r.length
  refine tail_any (ops := [.ref a, .ref s4.heap.objs.size]) ht.typeIs PyProof.Rows.slot_tuple_getitem.lookup ?_ (by with_unfolding_all rfl)
  refine get_back ht (Heap.IsSliceOf.new _ vl vu vs) pl pu ps ?_ (by rw [List.size_toArray]; omega)
  refine ⟨.ref _, _, I5.laid (t' := s4.toks) (o := .tup xs.reverse) (fun b ob q => Heap.get?_push_of_some _ q) (Nat.le_refl _) ?_, rfl, q _ (I5.hok.fresh (Nat.le_refl _))⟩
  exact ⟨by rw [List.length_reverse]; exact hz, _, r.reverse, IsTup.new _ _⟩
end
end Ks

/-! {k: v for target in iter if ..}, the keys tuples of ints and texts -/
namespace Kd
open PySem PySem.Spec PyProof.Rows L2
section
variable {X : Cx}
/-- one entry: the key, the tuple that is it, the value -/
abbrev Ent := NestedKey × Addr × V
def EntRel (x : Ent) (y : NestedKey × Addr × Value) : Prop := x.1 = y.1 ∧ x.2.1 = y.2.1 ∧ RelV x.2.2 y.2.2
def DicO (P : Program) (w : World) (a : Addr) (xs : List Ent) : HO := .ext fun h => (xs.length ≤ sizeLine ∧ (a == sysModules) = false) ∧ ∃ ys, Paired EntRel xs ys ∧ ∃ o es ep, h.get? a = some o ∧ o.ExactDict ∧ o.data = .dict es ep ∧ es.toList = ys.map (entryOfKey (nestedKind P w)) ∧ (ys.map (·.1)).Nodup
theorem dicO_ok {P : Program} {w : World} {H : Hp} {h : Heap} {a : Addr} {xs : List Ent} (hz : xs.length ≤ sizeLine) (hs : (a == sysModules) = false) {ys : List (NestedKey × Addr × Value)} (r : Paired EntRel xs ys) {o : Obj} {es : Array DictEntry} {ep : Nat} (ho : h.get? a = some o) (h1 : o.ExactDict) (h2 : o.data = .dict es ep) (h3 : es.toList = ys.map (entryOfKey (nestedKind P w))) (h4 : (ys.map (·.1)).Nodup) : ObjOk P w H h a (DicO P w a xs) :=
  ⟨⟨⟨hz, hs⟩, ys, r, o, es, ep, ho, h1, h2, h3, h4⟩, ⟨o, ho⟩, fun h1 h2 ⟨z, ys, r, o, es, ep, ho, q⟩ k => ⟨z, ys, r, o, es, ep, k o ho, q⟩⟩
/-- what the dict holds at a key -/
def entV (xs : List Ent) (k : NestedKey) : Option V := (xs.find? fun x => decide (x.1 = k)).map (·.2.2)
def entPut (xs : List Ent) (k : NestedKey) (b : Addr) (v : V) : List Ent := if (entV xs k).isSome then xs.map fun x => if x.1 = k then (x.1, x.2.1, v) else x else xs ++ [(k, b, v)]
theorem ent_at {k : NestedKey} : ∀ {xs : List Ent} {ys : List (NestedKey × Addr × Value)}, Paired EntRel xs ys → (entV xs k = none ∧ atKey ys k = none) ∨ ∃ v p, entV xs k = some v ∧ atKey ys k = some p ∧ RelV v p.2
  | [], _, .nil => .inl ⟨rfl, rfl⟩
  | x :: xs, _, .cons (b := y) h t => by
    obtain ⟨e1, e2, e3⟩ := h
    unfold entV atKey
    by_cases c : x.1 = k
    · rw [List.find?_cons_of_pos (by simpa using c), List.find?_cons_of_pos (by rw [← e1]; simpa using c)]
      exact .inr ⟨_, _, rfl, rfl, e3⟩
    · rw [List.find?_cons_of_neg (by simpa using c), List.find?_cons_of_neg (by rw [← e1]; simpa using c)]
      exact ent_at t
theorem ent_map {k : NestedKey} {v : V} {r : Value} (rv : RelV v r) : ∀ {xs : List Ent} {ys : List (NestedKey × Addr × Value)}, Paired EntRel xs ys → Paired EntRel (xs.map fun x => if x.1 = k then (x.1, x.2.1, v) else x) (ys.map (putAt k r))
  | [], _, .nil => .nil
  | x :: xs, _, .cons (b := y) h t => by
    refine .cons ?_ (ent_map rv t)
    obtain ⟨e1, e2, e3⟩ := h
    show EntRel (if x.1 = k then (x.1, x.2.1, v) else x) (if y.1 = k then (y.1, y.2.1, r) else y)
    by_cases c : x.1 = k
    · rw [if_pos c, if_pos (by rw [← e1]; exact c)]
      exact ⟨e1, e2, rv⟩
    · rw [if_neg c, if_neg (by rw [← e1]; exact c)]
      exact ⟨e1, e2, e3⟩
theorem ent_put {k : NestedKey} {b : Addr} {v : V} {r : Value} {xs : List Ent} {ys : List (NestedKey × Addr × Value)} (h : Paired EntRel xs ys) (rv : RelV v r) : Paired EntRel (entPut xs k b v) (storedH ys k b r) := by
  unfold entPut storedH
  rcases ent_at (k := k) h with ⟨e1, e2⟩ | ⟨z, p, e1, e2, _⟩
  · rw [e1, e2]
    exact Paired.snoc h ⟨rfl, rfl, rv⟩
  · rw [e1, e2]
    exact ent_map rv h
theorem entPut_len (xs : List Ent) (k : NestedKey) (b : Addr) (v : V) : (entPut xs k b v).length ≤ xs.length + 1 := by
  unfold entPut
  split
  · rw [List.length_map]
    omega
  · rw [List.length_append]
    exact Nat.le_refl _
theorem dic_of {pins : List (Addr × Obj)} {σ : L2.St} {H : Hp} {s : Shared} {a : Addr} {xs : List Ent} (I : Inv X pins σ H s) (e : H a = some (DicO X.prog X.w a xs)) (hk : ∀ x ∈ xs, (nestedKind X.prog X.w).is s.heap x.1 x.2.1) : xs.length ≤ sizeLine ∧ (a == sysModules) = false ∧ ∃ ys, Paired EntRel xs ys ∧ s.heap.DictOfH (nestedKind X.prog X.w) a ys := by
  obtain ⟨⟨z1, z2⟩, ys, r, o, es, ep, ho, h1, h2, h3, h4⟩ := (I.hok a _ e).1
  refine ⟨z1, z2, ys, r, o, es, ep, ho, h1, h2, h3, ?_, h4⟩
  have all : ∀ {l : List Ent} {m : List (NestedKey × Addr × Value)}, Paired EntRel l m → (∀ x ∈ l, (nestedKind X.prog X.w).is s.heap x.1 x.2.1) → ∀ y ∈ m, (nestedKind X.prog X.w).is s.heap y.1 y.2.1 := by
    intro l m q
    induction q with
    | nil => exact fun _ _ h => nomatch h
    | cons hq t ih =>
      intro hl y hy
      rcases List.mem_cons.mp hy with rfl | hy
      · rw [← hq.1, ← hq.2.1]
        exact hl _ (by simp)
      · exact ih (fun x m => hl x (List.mem_cons_of_mem _ m)) y hy
  exact all r hk
theorem dict_put {pins : List (Addr × Obj)} {σ : L2.St} {H : Hp} {s : Shared} {E : Value → Shared → Prop} {a b : Addr} {xs : List Ent} {k : NestedKey} {v : V} {r : Value} {Q : Unit → Shared → Prop} (hu : X.A.units + 8 < cLine) (I : Inv X pins σ H s) (e : H a = some (DicO X.prog X.w a xs)) (hk : ∀ x ∈ xs, (nestedKind X.prog X.w).is s.heap x.1 x.2.1) (eb : (nestedKind X.prog X.w).is s.heap k b) (hl : xs.length < sizeLine) (rv : RelV v r)
    (h : ∀ s', Inv X pins σ (upd H a (DicO X.prog X.w a (entPut xs k b v))) s' → Q () s') : wpAny (model X.prog X.w) X.A (dictSet a (.ref b) r) Q E s := by
  obtain ⟨z, hd, ys, rel, dd⟩ := dic_of I e hk
  have hz : ys.length ≤ sizeLine := by rw [← Paired.length rel]; exact z
  have hl2 := entPut_len xs k b v
  refine wpAny_dictSet_heap (hsz := hz) (show X.A.units + 8 < cLine from hu) eb dd fun h' ⟨q, es, ep, hq, h2, h3, h4, _, h5⟩ hs => h _ ?_
  exact d_write I (by rw [e]; exact True.intro) hs ⟨q, hq⟩ (dicO_ok (by omega) hd (ent_put rel rv) hq h2 h3 h4 h5)
def tDcT (P : Program) (w : World) (K : PySem.W.Frag) (okd : PySem.W.Frag → Hp → Ent → Prop) (wi : TI) (g : TG) (tt : TT) (tk tv : TE) (vs : List Nat) : TE := fun σ H Q => wi σ H fun J H1 => ∀ D, H1 D = none → ∃ W : Nat → Nat → Hp → Prop, (∃ m, W 0 m (upd H1 D (DicO P w D []))) ∧ ∀ i m H, W i m H →
  (J.stop i H ∧ Q (.ref D) H) ∨ (J.go i H ∧ ∃ Nx : Hp → Prop, (∀ H', Nx H' → ∃ m', m' < m ∧ W (i + 1) m' H') ∧ ∀ x H', J.yld i H x H' → g x (wipe σ vs) H' fun σ2 H2 => wipe σ2 vs = wipe σ vs ∧ tt σ2 H2 fun b H3 =>
    if b = true then tk σ2 H3 fun y H4 => tv σ2 H4 fun z H5 => ∃ xs k c, y = .ref c ∧ H5 D = some (DicO P w D xs) ∧ (∀ x ∈ xs, okd K H5 x) ∧ okd K H5 (k, c, z) ∧ xs.length < sizeLine ∧ Nx (upd H5 D (DicO P w D (entPut xs k c z))) else Nx H3)
theorem dcT_core {okd : PySem.W.Frag → Hp → Ent → Prop} (key : ∀ {Y : Cx} {pins : List (Addr × Obj)} {σ : L2.St} {H : Hp} {s : Shared} {x : Ent}, Y.prog = X.prog → Y.w = X.w → Y.K = X.K → Inv Y pins σ H s → okd X.K H x → (nestedKind X.prog X.w).is s.heap x.1 x.2.1) {pins : List (Addr × Obj)} {s : Shared} {σ : L2.St} {H : Hp} {Q : VK} {kx vx tg iter : Expr} {ifs : List Expr} {scope : Scope} {own : List (Str × Nat)} {pos pos' : Pos} {wi : TI} {g : TG} {tt : TT} {tk tv : TE} {use : Option (Value → Sem Unit)} {Qf : Value → Shared → Prop}
    (hu : X.A.units + 8 < cLine) (hc : X.calm = true) (hN : X.N.Nodup) (I : Inv X pins σ H s) (hi : PI X tg iter wi) (ok : BlkOk X.N X.env.scope scope own)
    (hg : ∀ (s : Shared) (H : Hp) (C : Addr) (cl : List (Str × Addr)) (fp : List Addr), PG (X.blk s H scope (compEnvC scope cl C X.env) fp) tg g) (ht : ∀ (s : Shared) (H : Hp) (C : Addr) (cl : List (Str × Addr)) (fp : List Addr), PTs (X.blk s H scope (compEnvC scope cl C X.env) fp) ifs tt)
    (hk : ∀ (s : Shared) (H : Hp) (C : Addr) (cl : List (Str × Addr)) (fp : List Addr), PE (X.blk s H scope (compEnvC scope cl C X.env) fp) kx tk) (he : ∀ (s : Shared) (H : Hp) (C : Addr) (cl : List (Str × Addr)) (fp : List Addr), PE (X.blk s H scope (compEnvC scope cl C X.env) fp) vx tv)
    (hs : ∀ x, foldedSetIterable iter X.env x = pure x) (h : tDcT X.prog X.w X.K okd wi g tt tk tv (own.map (·.2)) σ H Q)
    (last : ∀ D C s' m H', Inv X pins σ H' s' → Q (.ref D) H' → s'.heap.Ns C m → FpOk X pins H' C → compPost (model X.prog X.w) X.A X.xe use Qf (.ref D) C (.ok .next) s') :
    wpAny (model X.prog X.w) X.A (comprehension (.DictComp kx vx [⟨tg, iter, ifs, 0⟩] scope pos) scope X.env pos' newDict false (eval iter X.env) use) Qf X.xe s := by
  have free_ : ∀ y ∈ scope.names, y.2 = .free → ∃ c, X.env.cells.lookup y.1 = some c := fun y hy e => (ok.free y hy e).elim (fun k => I.ok.has _ (.inl k)) fun k => I.ok.has _ (.inr k)
  refine wpAny_comprehension_free (use := use) rfl hs (closure_ok free_) ok.kind (fun y hy e => by rw [ok.uniq y hy, e]) (thn (hi.run pins s σ H _ I h) fun xv s1 hx => thn hx fun itv s2 ⟨it, fp, tn, J, H2, e, I2, T, st2, f2, q⟩ => ?_)
  subst e
  refine wpAny_newObj_type (newEnv_comp ?_)
  generalize hD : s2.heap.objs.size = D
  obtain ⟨W, ⟨m0, w0⟩, turn⟩ := q D (I2.hok.fresh (Nat.le_of_eq hD))
  generalize hs3 : ({ s2 with heap := s2.heap.push { cls := .type "dict", data := .dict #[] } } : Shared) = s3
  have I3 : Inv X pins σ (upd H2 D (DicO X.prog X.w D [])) s3 := by
    rw [← hs3]
    refine I2.laid (t' := s2.toks) (fun b o e => Heap.get?_push_of_some _ e) (Nat.le_of_eq hD) ?_
    rw [← hD]
    exact dicO_ok (Nat.zero_le _) (by have := I2.big; simpa using Nat.ne_of_gt this) .nil (Heap.get?_push_size _ rfl) ⟨rfl, rfl, rfl⟩ rfl rfl .nil
  have h3 : s3.heap = s2.heap.push { cls := .type "dict", data := .dict #[] } := by rw [← hs3]
  have sz : ∀ b ∈ fp, b < s2.heap.objs.size := fun b hb => let ⟨o, e, _⟩ := T.obj _ _ st2 b hb; Heap.lt_size e
  have f3 : ∀ b ∈ fp, FpOk X pins (upd H2 D (DicO X.prog X.w D [])) b ∧ b < s3.heap.objs.size := fun b hb => by
    have hlt := sz b hb
    exact ⟨⟨by rw [upd_ne (by rw [← hD]; exact Nat.ne_of_lt hlt)]; exact (f2 b hb).1, (f2 b hb).2⟩, by rw [h3, Heap.size_push]; exact Nat.lt_succ_of_lt hlt⟩
  have st3 : tn 0 s3.heap := T.keep _ _ _ st2 fun b _ o e => by rw [h3]; exact Heap.get?_push_of_some _ e
  have I4 := block_start I3 ok hN f3
  generalize hcl : cellsFrom (s3.heap.objs.size + 1) scope.names (cloFrom X.env.cells scope.names []) = cl at I4
  have pg := hg s3 (upd H2 D (DicO X.prog X.w D [])) s3.heap.objs.size cl fp
  have pt := ht s3 (upd H2 D (DicO X.prog X.w D [])) s3.heap.objs.size cl fp
  have pk := hk s3 (upd H2 D (DicO X.prog X.w D [])) s3.heap.objs.size cl fp
  have pe := he s3 (upd H2 D (DicO X.prog X.w D [])) s3.heap.objs.size cl fp
  show codeAny _ _ (.compStart (.DictComp kx vx [⟨tg, iter, ifs, 0⟩] scope pos) 0 (.ref it) (.ref D) (compEnvC scope cl s3.heap.objs.size X.env)) (compPost (model X.prog X.w) X.A X.xe use Qf (.ref D) s3.heap.objs.size) { s3 with heap := pushCells (s3.heap.push { cls := .type "dict", data := .dict #[] }) scope.names }
  have nfp : ∀ b ∈ fp, (upd H2 D (DicO X.prog X.w D [])) b = none := fun b hb => (f3 b hb).1.1
  generalize hce : compEnvC scope cl s3.heap.objs.size X.env = ce at I4 pg pt pk pe ⊢
  have cL : ce.locals = s3.heap.objs.size := by subst hce; rfl
  generalize hH3 : upd H2 D (DicO X.prog X.w D []) = H3 at I3 I4 pg pt pk pe w0 nfp f3
  generalize hs4 : ({ s3 with heap := pushCells (s3.heap.push { cls := .type "dict", data := .dict #[] }) scope.names } : Shared) = s4 at I4 ⊢
  have st4 : tn 0 s4.heap := T.keep _ _ _ st3 fun b _ o e => by rw [← hs4]; exact pushCells_keeps _ _ _ _ (Heap.get?_push_of_some _ e)
  generalize hB : X.blk s3 H3 scope ce fp = B at I4 pg pt pk pe
  have stat : ∀ {σ' : L2.St} {H' : Hp} {s' : Shared}, Inv B [] σ' H' s' → (∀ b ∈ fp, H' b = none) → ∀ b ∈ fp, FpOk B [] H' b := by
    subst hB
    exact fun {σ' H' s'} I' hn b hb => ⟨hn b hb, (I'.ok.exf b hb).1, I'.ok.exfs b hb, .inl hb, fun x c e => (I'.ok.exf b hb).2 x c e, fun p hp => absurd (show p ∈ ([] : List (Addr × Obj)) ++ [] from hp) (by simp)⟩
  have loop : codeAny (model X.prog X.w) X.A (.compLoop (.DictComp kx vx [⟨tg, iter, ifs, 0⟩] scope pos) 0 (.ref it) (.ref D) ce) (compPost (model X.prog X.w) X.A X.xe use Qf (.ref D) s3.heap.objs.size) s4 := by
    refine compLoop_anyD (fun n s' => ∃ i H', Inv B [] (wipe σ (own.map (·.2))) H' s' ∧ tn i s'.heap ∧ (∀ b ∈ fp, H' b = none) ∧ W i n H') ?_ m0 ⟨0, H3, I4, st4, nfp, w0⟩
    rintro n s5 ⟨i, H5, I5, st5, n5, w5⟩
    subst hB
    rcases turn i n H5 w5 with ⟨stop, qq⟩ | ⟨go, Nx, hNx, step⟩
    · refine thnF (T.done (X.blk s3 H3 scope ce fp) rfl rfl rfl hc i [] s5 _ H5 (fun _ _ => False) I5 (stat I5 n5) st5 stop) fun r s6 ⟨hr, I6⟩ => ?_
      subst hr
      have I7 : Inv X pins σ H5 s6 := I3.call' (ch := fp) I6.os I6.base I6.hok I6.bare fun b hb => ⟨(f3 b hb).1.2.2.2.1, (f3 b hb).1.2.1, (f3 b hb).1.2.2.2.2.1, (f3 b hb).1.2.2.2.2.2⟩
      have nC : H5 s3.heap.objs.size = none := by rw [← cL]; exact I6.free
      obtain ⟨m, hn, _⟩ := I6.loc
      have hn : s6.heap.Ns ce.locals m := hn
      rw [cL] at hn
      exact last D s3.heap.objs.size s6 m H5 I7 qq hn (I3.fpOk (Nat.le_refl _) nC)
    · refine thnF (T.item (X.blk s3 H3 scope ce fp) rfl rfl rfl hc i [] s5 _ H5 (fun _ _ => False) I5 (stat I5 n5) st5 go) fun r s6 ⟨u, hr, h6⟩ => ?_
      subst hr
      refine thnF h6 fun _ s7 ⟨x, H7, I7, r7, y7, st7, n7⟩ => ?_
      have I7' := I7.pinned (stat I7 n7) (T.obj _ _ st7)
      refine thnF (pg.run _ s7 _ H7 x u _ I7' r7 (step x H7 y7)) fun _ s8 ⟨σ8, H8, I8, hw8, q8⟩ => thnF (pt.run _ s8 σ8 H8 _ I8 q8) fun b s9 ⟨H9, I9, q9⟩ => ?_
      have fin : ∀ {s' : Shared} {H' : Hp}, Inv (X.blk s3 H3 scope ce fp) ([] ++ pinsAt fp s7.heap) σ8 H' s' → Nx H' → ∃ m, m < n ∧ ∃ i H', Inv (X.blk s3 H3 scope ce fp) [] (wipe σ (own.map (·.2))) H' s' ∧ tn i s'.heap ∧ (∀ b ∈ fp, H' b = none) ∧ W i m H' := fun {s' H'} I' nx => by
        obtain ⟨m', hm, w'⟩ := hNx H' nx
        have pin' : ∀ b ∈ fp, ∀ o, s7.heap.get? b = some o → s'.heap.get? b = some o ∧ H' b = none := fun b hb o e => let z := I'.pin (b, o) (List.mem_append_right _ (List.mem_append_right _ (mem_pinsAt hb e))); ⟨z.1, z.2.1⟩
        refine ⟨m', hm, i + 1, H', (I'.unpinned (pins := [])).weak (by rw [← hw8, wipe_length]) (fun j v e => ?_), T.keep _ _ _ st7 fun b hb o e => (pin' b hb o e).1, fun b hb => ?_, w'⟩
        · rw [← hw8] at e
          exact (wipe_some e).1
        · obtain ⟨o, e, _⟩ := T.obj _ _ st7 b hb
          exact (pin' b hb o e).2
      cases b with
      | false =>
        simp only [Bool.false_eq_true, if_false] at q9 ⊢
        exact fin I9 q9
      | true =>
        simp only [if_true] at q9 ⊢
        refine thnF (pk.run _ s9 σ8 H9 _ I9 q9) fun z s10 ⟨yk, H10, I10, r10, q10⟩ => thnF (pe.run _ s10 σ8 H10 _ I10 q10) fun z2 s11 ⟨yv, H11, I11, r11, xs, k, c, ek, hD11, hx11, hc11, hz11, nx⟩ => ?_
        subst ek
        cases r10
        exact dict_put (X := X.blk s3 H3 scope ce fp) hu I11 hD11 (fun x m => key (Y := X.blk s3 H3 scope ce fp) rfl rfl rfl I11 (hx11 x m)) (key (Y := X.blk s3 H3 scope ce fp) rfl rfl rfl I11 hc11) hz11 r11 fun s12 I12 => fin I12 nx
  exact codeAny_compStart_dict loop (T.self X.A 0 _ _ _ st4 loop)
theorem pe_dcT {okd : PySem.W.Frag → Hp → Ent → Prop} (key : ∀ {Y : Cx} {pins : List (Addr × Obj)} {σ : L2.St} {H : Hp} {s : Shared} {x : Ent}, Y.prog = X.prog → Y.w = X.w → Y.K = X.K → Inv Y pins σ H s → okd X.K H x → (nestedKind X.prog X.w).is s.heap x.1 x.2.1) {kx vx tg iter : Expr} {ifs : List Expr} {scope : Scope} {own : List (Str × Nat)} {pos : Pos} {wi : TI} {g : TG} {tt : TT} {tk tv : TE} (hu : X.A.units + 8 < cLine) (hc : X.calm = true) (hN : X.N.Nodup) (hi : PI X tg iter wi) (ok : BlkOk X.N X.env.scope scope own)
    (hg : ∀ (s : Shared) (H : Hp) (C : Addr) (cl : List (Str × Addr)) (fp : List Addr), PG (X.blk s H scope (compEnvC scope cl C X.env) fp) tg g) (ht : ∀ (s : Shared) (H : Hp) (C : Addr) (cl : List (Str × Addr)) (fp : List Addr), PTs (X.blk s H scope (compEnvC scope cl C X.env) fp) ifs tt)
    (hk : ∀ (s : Shared) (H : Hp) (C : Addr) (cl : List (Str × Addr)) (fp : List Addr), PE (X.blk s H scope (compEnvC scope cl C X.env) fp) kx tk) (he : ∀ (s : Shared) (H : Hp) (C : Addr) (cl : List (Str × Addr)) (fp : List Addr), PE (X.blk s H scope (compEnvC scope cl C X.env) fp) vx tv)
    (hs : ∀ x, foldedSetIterable iter X.env x = pure x := by intro _; rfl) : PE X (.DictComp kx vx [⟨tg, iter, ifs, 0⟩] scope pos) (tDcT X.prog X.w X.K okd wi g tt tk tv (own.map (·.2))) := by
  refine ⟨fun pins s σ H Q I h => ?_⟩
  rw [arm_eval_DictComp]
  refine dcT_core key hu hc hN I hi ok hg ht hk he hs h fun D C s' m H' I' q hn ⟨f0, f1, f2, f3, f4, f5⟩ => ⟨m, hn, fun h'' sb => ?_⟩
  exact ⟨.ref D, H', I'.turned (t' := s'.toks) (fun b o hb e => (sb.2 b hb).trans e) f0 f1 f3 f4 f5, rfl, q⟩
end
end Kd

/-! Ka: a calculus over data. A def's body is run over data (PyData), not over addresses: W tells which objects are kept apart (hidden) and what is known of them. -/
namespace Ka
open PySem PySem.Spec PyProof.Rows L2 Evl

/-! ### what is hidden -/
def vw (hid : Addr → Bool) (H : Hp) : Hp := fun a => if hid a = true then none else H a
theorem vw_of {hid : Addr → Bool} {H : Hp} {a : Addr} (h : hid a = false) : vw hid H a = H a := by
  unfold vw
  rw [h]
  rfl
theorem vw_hid {hid : Addr → Bool} {H : Hp} {a : Addr} (h : hid a = true) : vw hid H a = none := by
  unfold vw
  rw [if_pos h]
theorem vw_some {hid : Addr → Bool} {H : Hp} {a : Addr} {o : HO} (h : vw hid H a = some o) : hid a = false ∧ H a = some o := by
  cases e : hid a with
  | true =>
    rw [vw_hid e] at h
    cases h
  | false =>
    rw [vw_of e] at h
    exact ⟨rfl, h⟩
theorem vw_ex {hid : Addr → Bool} {H H' : Hp} (e : Ex H H') : Ex (vw hid H) (vw hid H') := fun a o h => by
  obtain ⟨h1, h2⟩ := vw_some h
  rw [vw_of h1]
  exact e a o h2
/-- fewer hidden -/
theorem vw_less {hid hid' : Addr → Bool} {H : Hp} (h : ∀ a, hid' a = true → hid a = true) : Ex (vw hid H) (vw hid' H) := fun a o q => by
  obtain ⟨h1, h2⟩ := vw_some q
  cases e : hid' a with
  | true =>
    rw [h a e] at h1
    cases h1
  | false =>
    rw [vw_of e]
    exact h2
structure Wd where
  hid : Addr → Bool
  inv : Hp → Prop
  loc : ∀ H H' : Hp, (∀ a, hid a = true → H' a = H a) → Ex (vw hid H) (vw hid H') → inv H → inv H'
  live : ∀ (H : Hp) (a : Addr), inv H → hid a = true → H a ≠ none
abbrev Wd.view (W : Wd) (H : Hp) : Hp := vw W.hid H
theorem Wd.view_of {W : Wd} {H : Hp} {a : Addr} (h : W.hid a = false) : W.view H a = H a := vw_of h
theorem Wd.view_le {W : Wd} {H : Hp} : Ex (W.view H) H := fun _ _ h => (vw_some h).2
theorem Wd.hid_none {W : Wd} {H : Hp} {a : Addr} (i : W.inv H) (h : H a = none) : W.hid a = false := by
  cases e : W.hid a with
  | true => exact absurd h (W.live H a i e)
  | false => rfl
/-- nothing is hidden -/
def Wd.top : Wd := ⟨fun _ => false, fun _ => True, fun _ _ _ _ _ => trivial, fun _ _ _ h => by cases h⟩
/-- what is known of a hidden object -/
structure Kn where
  of : Hp → HO → Prop
  mono : ∀ {H H' : Hp} {o : HO}, Ex H H' → of H o → of H' o
abbrev hidAnd (hid : Addr → Bool) (l : Addr) : Addr → Bool := fun a => hid a || decide (a = l)
theorem hidAnd_self {hid : Addr → Bool} {l : Addr} : hidAnd hid l l = true := by simp [hidAnd]
theorem hidAnd_ne {hid : Addr → Bool} {l a : Addr} (h : hid a = false) (hn : a ≠ l) : hidAnd hid l a = false := by simp [hidAnd, h, hn]
theorem hidAnd_of {hid : Addr → Bool} {l a : Addr} (h : hid a = true) : hidAnd hid l a = true := by simp [hidAnd, h]
/-- the heap without l -/
def del (H : Hp) (l : Addr) : Hp := fun a => if a = l then none else H a
theorem del_self {H : Hp} {l : Addr} : del H l l = none := by
  unfold del
  rw [if_pos rfl]
theorem del_ne {H : Hp} {l a : Addr} (h : a ≠ l) : del H l a = H a := by
  unfold del
  rw [if_neg h]
theorem del_le {H : Hp} {l : Addr} : Ex (del H l) H := fun a o h => by
  by_cases e : a = l
  · rw [e, del_self] at h
    cases h
  · rw [del_ne e] at h
    exact h
theorem del_upd {H : Hp} {l : Addr} {o : HO} : del (upd H l o) l = del H l := by
  funext a
  by_cases e : a = l
  · rw [e, del_self, del_self]
  · rw [del_ne e, del_ne e, upd_ne e]
theorem del_none {H : Hp} {l : Addr} (h : H l = none) : del H l = H := by
  funext a
  by_cases e : a = l
  · rw [e, del_self, h]
  · rw [del_ne e]
theorem vw_del {hid : Addr → Bool} {H : Hp} {l : Addr} : vw (hidAnd hid l) H = vw hid (del H l) := by
  funext a
  by_cases e : a = l
  · rw [e, vw_hid hidAnd_self]
    unfold vw
    rw [del_self]
    split <;> rfl
  · unfold vw hidAnd
    rw [decide_eq_false e, Bool.or_false, del_ne e]
/-- the object at l stands apart; φ is known of it -/
def Wd.hide (W : Wd) (l : Addr) (φ : Kn) : Wd where
  hid := hidAnd W.hid l
  inv H := W.inv (del H l) ∧ ∃ o, H l = some o ∧ φ.of (vw W.hid (del H l)) o
  loc H H' h e i := by
    obtain ⟨i1, o, ho, p⟩ := i
    rw [vw_del, vw_del] at e
    refine ⟨W.loc (del H l) (del H' l) (fun a ha => ?_) e i1, o, by rw [h l hidAnd_self]; exact ho, φ.mono e p⟩
    by_cases hl : a = l
    · rw [hl, del_self, del_self]
    · rw [del_ne hl, del_ne hl]
      exact h a (hidAnd_of ha)
  live H a i h := by
    obtain ⟨i1, o, ho, _⟩ := i
    rcases Bool.or_eq_true_iff.mp h with q | q
    · exact fun z => W.live (del H l) a i1 q (by
        by_cases hl : a = l
        · rw [hl, del_self]
        · rw [del_ne hl]
          exact z)
    · have e : a = l := of_decide_eq_true q
      rw [e, ho]
      exact fun z => by cases z
/-- all that was there stands: the hidden things too -/
theorem Wd.inv_ex {W : Wd} {H H' : Hp} (i : W.inv H) (e : Ex H H') : W.inv H' := W.loc H H' (fun a ha => by
  cases q : H a with
  | none => exact absurd q (W.live H a i ha)
  | some o => exact e a o q) (vw_ex e) i
theorem Wd.view_ex {W : Wd} {H H' : Hp} (e : Ex H H') : Ex (W.view H) (W.view H') := vw_ex e
/-- a new object -/
theorem Wd.inv_new {W : Wd} {H : Hp} {p : Addr} {o : HO} (i : W.inv H) (hp : H p = none) : W.inv (upd H p o) := Wd.inv_ex i (Ex.new hp)
theorem Wd.view_new {W : Wd} {H : Hp} {p : Addr} {o : HO} (i : W.inv H) (hp : H p = none) : W.view (upd H p o) p = some o := by
  rw [Wd.view_of (Wd.hid_none i hp)]
  exact upd_same
/-- a new object is hidden at once -/
theorem Wd.hide_new {W : Wd} {H : Hp} {p : Addr} {o : HO} {φ : Kn} (i : W.inv H) (hp : H p = none) (h : φ.of (W.view H) o) : (W.hide p φ).inv (upd H p o) ∧ (W.hide p φ).view (upd H p o) = W.view H := by
  have e : (W.hide p φ).view (upd H p o) = W.view H := by
    show vw (hidAnd W.hid p) (upd H p o) = vw W.hid H
    rw [vw_del, del_upd, del_none hp]
  refine ⟨⟨?_, o, upd_same, ?_⟩, e⟩
  · rw [del_upd, del_none hp]
    exact i
  · rw [del_upd, del_none hp]
    exact h
/-- a hidden object is written -/
theorem Wd.hide_put {W : Wd} {H : Hp} {p : Addr} {u : HO} {φ ψ : Kn} (i : (W.hide p φ).inv H) (h : ψ.of ((W.hide p φ).view H) u) : (W.hide p ψ).inv (upd H p u) ∧ (W.hide p ψ).view (upd H p u) = (W.hide p φ).view H := by
  obtain ⟨i1, o, ho, k⟩ := i
  have e1 : (W.hide p φ).view H = vw W.hid (del H p) := vw_del
  have e : (W.hide p ψ).view (upd H p u) = (W.hide p φ).view H := by
    rw [e1]
    show vw (hidAnd W.hid p) (upd H p u) = _
    rw [vw_del, del_upd]
  rw [e1] at h
  refine ⟨⟨?_, u, upd_same, ?_⟩, e⟩
  · rw [del_upd]
    exact i1
  · rw [del_upd]
    exact h
theorem Wd.hide_at {W : Wd} {H : Hp} {p : Addr} {φ : Kn} (i : (W.hide p φ).inv H) : ∃ o, H p = some o ∧ φ.of ((W.hide p φ).view H) o := by
  obtain ⟨i1, o, ho, k⟩ := i
  refine ⟨o, ho, ?_⟩
  show φ.of (vw (hidAnd W.hid p) H) o
  rw [vw_del]
  exact k
/-- it is seen again -/
theorem Wd.unhide {W : Wd} {H : Hp} {p : Addr} {φ : Kn} (hp : W.hid p = false) (i : (W.hide p φ).inv H) : W.inv H ∧ Ex ((W.hide p φ).view H) (W.view H) ∧ ∃ o, W.view H p = some o ∧ φ.of (W.view H) o := by
  have k := Wd.hide_at i
  obtain ⟨i1, _⟩ := i
  have e : Ex ((W.hide p φ).view H) (W.view H) := vw_less fun a h => hidAnd_of h
  obtain ⟨o, ho, k⟩ := k
  refine ⟨W.inv_ex i1 del_le, e, o, ?_, φ.mono e k⟩
  rw [Wd.view_of hp]
  exact ho

/-! ### data in the heap -/
mutual
inductive Dq (K : PySem.W.Frag) (H : Hp) : V → PyData → Prop
  | non : Dq K H .non .none
  | bl (b : Bool) : Dq K H (.bl b) (.bool b)
  | int (i : Int) : Dq K H (.int i) (.int i)
  | str (x : Str) : Dq K H (.str x) (.str x)
  | lst {a : Addr} {xs : List V} {ds : List PyData} : H a = some (.lst xs) → Dqs K H xs ds → Dq K H (.ref a) (.list ds)
  | tup {a : Addr} {xs : List V} {ds : List PyData} : SqT K H a xs → Dqs K H xs ds → Dq K H (.ref a) (.tuple ds)
inductive Dqs (K : PySem.W.Frag) (H : Hp) : List V → List PyData → Prop
  | nil : Dqs K H [] []
  | cons {v : V} {vs : List V} {d : PyData} {ds : List PyData} : Dq K H v d → Dqs K H vs ds → Dqs K H (v :: vs) (d :: ds)
end
section
variable {K : PySem.W.Frag} {H H' : Hp}
mutual
theorem Dq.mono (e : Ex H H') : ∀ {v : V} {d : PyData}, Dq K H v d → Dq K H' v d
  | _, _, .non => .non
  | _, _, .bl b => .bl b
  | _, _, .int i => .int i
  | _, _, .str x => .str x
  | _, _, .lst h hs => .lst (e _ _ h) (Dqs.mono e hs)
  | _, _, .tup h hs => .tup (ex_t e h) (Dqs.mono e hs)
theorem Dqs.mono (e : Ex H H') : ∀ {vs : List V} {ds : List PyData}, Dqs K H vs ds → Dqs K H' vs ds
  | _, _, .nil => .nil
  | _, _, .cons h hs => .cons (Dq.mono e h) (Dqs.mono e hs)
end
mutual
theorem Dq.dp : ∀ {v : V} {d : PyData}, Dq K H v d → Dp K H v d
  | _, _, .non => .non
  | _, _, .bl b => .bl b
  | _, _, .int i => .int i
  | _, _, .str x => .str x
  | _, _, .lst h hs => .lst (SqL.of h) (Dqs.dp hs)
  | _, _, .tup h hs => .tup h (Dqs.dp hs)
theorem Dqs.dp : ∀ {vs : List V} {ds : List PyData}, Dqs K H vs ds → DpAll K H vs ds
  | _, _, .nil => .nil
  | _, _, .cons h hs => .cons (Dq.dp h) (Dqs.dp hs)
end
theorem Dqs.length : ∀ {vs : List V} {ds : List PyData}, Dqs K H vs ds → vs.length = ds.length
  | _, _, .nil => rfl
  | _, _, .cons _ hs => by rw [List.length_cons, List.length_cons, Dqs.length hs]
theorem Dqs.get : ∀ {vs : List V} {ds : List PyData} {i : Nat} {v : V}, Dqs K H vs ds → vs[i]? = some v → ∃ d, ds[i]? = some d ∧ Dq K H v d
  | _, _, _, _, .nil, e => by simp at e
  | _, _, 0, _, .cons h _, e => by
    simp at e
    subst e
    exact ⟨_, rfl, h⟩
  | _, _, i + 1, v, .cons _ hs, e => by
    obtain ⟨d, h1, h2⟩ := Dqs.get (i := i) (v := v) hs (by simpa using e)
    exact ⟨d, by simpa using h1, h2⟩
theorem Dqs.getd : ∀ {vs : List V} {ds : List PyData} {i : Nat} {d : PyData}, Dqs K H vs ds → ds[i]? = some d → ∃ v, vs[i]? = some v ∧ Dq K H v d
  | _, _, _, _, .nil, e => by simp at e
  | _, _, 0, _, .cons h _, e => by
    simp at e
    subst e
    exact ⟨_, rfl, h⟩
  | _, _, i + 1, v, .cons _ hs, e => by
    obtain ⟨d, h1, h2⟩ := Dqs.getd (i := i) (d := v) hs (by simpa using e)
    exact ⟨d, by simpa using h1, h2⟩
theorem Dqs.append : ∀ {vs us : List V} {ds es : List PyData}, Dqs K H vs ds → Dqs K H us es → Dqs K H (vs ++ us) (ds ++ es)
  | _, _, _, _, .nil, h => h
  | _, _, _, _, .cons h1 h2, h => .cons h1 (Dqs.append h2 h)
theorem Dqs.take : ∀ {vs : List V} {ds : List PyData} (n : Nat), Dqs K H vs ds → Dqs K H (vs.take n) (ds.take n)
  | _, _, 0, _ => .nil
  | _, _, _ + 1, .nil => .nil
  | _, _, n + 1, .cons h hs => .cons h (Dqs.take n hs)
theorem Dqs.drop : ∀ {vs : List V} {ds : List PyData} (n : Nat), Dqs K H vs ds → Dqs K H (vs.drop n) (ds.drop n)
  | _, _, 0, h => h
  | _, _, _ + 1, .nil => .nil
  | _, _, n + 1, .cons _ hs => Dqs.drop n hs
theorem Dqs.reverse : ∀ {vs : List V} {ds : List PyData}, Dqs K H vs ds → Dqs K H vs.reverse ds.reverse
  | _, _, .nil => .nil
  | _, _, .cons h hs => by
    rw [List.reverse_cons, List.reverse_cons]
    exact Dqs.append (Dqs.reverse hs) (.cons h .nil)
theorem Dqs.ints : ∀ (ns : List Int), Dqs K H (ns.map V.int) (ns.map PyData.int)
  | [] => .nil
  | n :: ns => .cons (.int n) (Dqs.ints ns)
theorem Dqs.ints_inv : ∀ {ns : List Int} {vs : List V}, Dqs K H vs (ns.map PyData.int) → vs = ns.map V.int
  | [], _, h => by
    cases h
    rfl
  | n :: ns, _, h => by
    cases h with
    | cons h1 h2 =>
      cases h1
      rw [Dqs.ints_inv (ns := ns) h2]
      rfl
end

/-! ### a slot's content: data, a bare value, an object -/
inductive DV where
  | dat (d : PyData)
  | raw (v : V)
  | obj (f : Addr → HO)
  | rel (R : PySem.W.Frag → Hp → V → Prop) (up : ∀ {K : PySem.W.Frag} {H H' : Hp} {v : V}, Ex H H' → R K H v → R K H' v)
def RepV (K : PySem.W.Frag) (H : Hp) (v : V) : DV → Prop
  | .dat d => Dq K H v d
  | .raw u => v = u
  | .obj f => ∃ p, v = .ref p ∧ H p = some (f p)
  | .rel R _ => R K H v
theorem RepV.mono {K : PySem.W.Frag} {H H' : Hp} {v : V} (x : Ex H H') : ∀ {e : DV}, RepV K H v e → RepV K H' v e
  | .dat _, h => Dq.mono x h
  | .raw _, h => h
  | .obj _, ⟨p, h1, h2⟩ => ⟨p, h1, x _ _ h2⟩
  | .rel _ up, h => up x h
abbrev DEnv := List (Option DV)
abbrev Reps (K : PySem.W.Frag) (H : Hp) : List V → List DV → Prop := Paired fun v e => RepV K H v e
theorem Reps.mono {K : PySem.W.Frag} {H H' : Hp} (x : Ex H H') : ∀ {vs : List V} {es : List DV}, Reps K H vs es → Reps K H' vs es
  | _, _, .nil => .nil
  | _, _, .cons h t => .cons (RepV.mono x h) (Reps.mono x t)
/-- the slots hold what the data environment says -/
structure EnvOk (K : PySem.W.Frag) (H : Hp) (σ : L2.St) (Δ : DEnv) : Prop where
  len : σ.length = Δ.length
  at_ : ∀ (i : Nat) (e : DV), Δ[i]? = some (some e) → ∃ v, σ[i]? = some (some v) ∧ RepV K H v e
theorem EnvOk.mono {K : PySem.W.Frag} {H H' : Hp} {σ : L2.St} {Δ : DEnv} (x : Ex H H') (h : EnvOk K H σ Δ) : EnvOk K H' σ Δ :=
  ⟨h.len, fun i e q => by
    obtain ⟨v, h1, h2⟩ := h.at_ i e q
    exact ⟨v, h1, h2.mono x⟩⟩
theorem EnvOk.set {K : PySem.W.Frag} {H : Hp} {σ : L2.St} {Δ : DEnv} (h : EnvOk K H σ Δ) {i : Nat} {v : V} {e : DV} (r : RepV K H v e) : EnvOk K H (σ.set i (some v)) (Δ.set i (some e)) :=
  ⟨by rw [List.length_set, List.length_set, h.len], fun j u q => by
    by_cases hj : i = j
    · subst hj
      by_cases hl : i < Δ.length
      · rw [List.getElem?_set_self hl] at q
        cases q
        exact ⟨v, by rw [List.getElem?_set_self (by rw [h.len]; exact hl)], r⟩
      · rw [List.getElem?_eq_none (by simpa using hl)] at q
        cases q
    · rw [List.getElem?_set_ne hj] at q ⊢
      exact h.at_ j u q⟩
/-- slots forgotten -/
def wipeD (Δ : DEnv) : List Nat → DEnv
  | [] => Δ
  | v :: vs => (wipeD Δ vs).set v none
theorem EnvOk.forget {K : PySem.W.Frag} {H : Hp} {σ : L2.St} {Δ : DEnv} (h : EnvOk K H σ Δ) {i : Nat} : EnvOk K H (σ.set i none) (Δ.set i none) :=
  ⟨by rw [List.length_set, List.length_set, h.len], fun j u q => by
    by_cases hj : i = j
    · subst hj
      by_cases hl : i < Δ.length
      · rw [List.getElem?_set_self hl] at q
        cases q
      · rw [List.getElem?_eq_none (by simpa using hl)] at q
        cases q
    · rw [List.getElem?_set_ne hj] at q ⊢
      exact h.at_ j u q⟩
theorem EnvOk.wipe {K : PySem.W.Frag} {H : Hp} {σ : L2.St} {Δ : DEnv} (h : EnvOk K H σ Δ) : ∀ {vs : List Nat}, EnvOk K H (wipe σ vs) (wipeD Δ vs)
  | [] => h
  | v :: vs => (EnvOk.wipe h (vs := vs)).forget
/-- what one no longer asks about -/
theorem EnvOk.less {K : PySem.W.Frag} {H : Hp} {σ : L2.St} {Δ Δ' : DEnv} (h : EnvOk K H σ Δ) (hl : Δ'.length = Δ.length) (hs : ∀ (i : Nat) (e : DV), Δ'[i]? = some (some e) → Δ[i]? = some (some e)) : EnvOk K H σ Δ' :=
  ⟨by rw [h.len, hl], fun i e q => h.at_ i e (hs i e q)⟩

/-! ### the judgements -/
section
variable (K : PySem.W.Frag)
/-- an expression gives a content of which P -/
def DE (W : Wd) (Δ : DEnv) (te : TE) (P : DV → Prop) : Prop :=
  ∀ (σ : L2.St) (H : Hp), EnvOk K (W.view H) σ Δ → W.inv H → ∀ Q : VK, (∀ v H' e, W.inv H' → Ex (W.view H) (W.view H') → P e → RepV K (W.view H') v e → Q v H') → te σ H Q
def DT (W : Wd) (Δ : DEnv) (tt : TT) (P : Bool → Prop) : Prop :=
  ∀ (σ : L2.St) (H : Hp), EnvOk K (W.view H) σ Δ → W.inv H → ∀ Q : Bool → Hp → Prop, (∀ b H', W.inv H' → Ex (W.view H) (W.view H') → P b → Q b H') → tt σ H Q
def DA (W : Wd) (Δ : DEnv) (ta : TA) (P : List DV → Prop) : Prop :=
  ∀ (σ : L2.St) (H : Hp), EnvOk K (W.view H) σ Δ → W.inv H → ∀ Q : List V → Hp → Prop, (∀ vs H' es, W.inv H' → Ex (W.view H) (W.view H') → P es → Reps K (W.view H') vs es → Q vs H') → ta σ H Q
/-- an operation by values -/
def OpD (W : Wd) (r : R2) (a b : DV) (P : DV → Prop) : Prop :=
  ∀ (x y : V) (H : Hp), W.inv H → RepV K (W.view H) x a → RepV K (W.view H) y b → ∀ Q : VK, (∀ v H' e, W.inv H' → Ex (W.view H) (W.view H') → P e → RepV K (W.view H') v e → Q v H') → r x y H Q
def UnD (W : Wd) (r : V → Hp → VK → Prop) (a : DV) (P : DV → Prop) : Prop :=
  ∀ (x : V) (H : Hp), W.inv H → RepV K (W.view H) x a → ∀ Q : VK, (∀ v H' e, W.inv H' → Ex (W.view H) (W.view H') → P e → RepV K (W.view H') v e → Q v H') → r x H Q
def CalD (W : Wd) (r : List V → Hp → VK → Prop) (as : List DV) (P : DV → Prop) : Prop :=
  ∀ (xs : List V) (H : Hp), W.inv H → Reps K (W.view H) xs as → ∀ Q : VK, (∀ v H' e, W.inv H' → Ex (W.view H) (W.view H') → P e → RepV K (W.view H') v e → Q v H') → r xs H Q
/-- a statement: nx what follows, rt the return, bk, ct -/
structure Cnt (W : Wd) (H : Hp) (D : Ends) (nx : Wd → DEnv → Prop) (rt : Wd → DV → Prop) (bk ct : Wd → DEnv → Prop) : Prop where
  nx : ∀ W' Δ' σ' H', nx W' Δ' → W'.inv H' → Ex (W.view H) (W'.view H') → EnvOk K (W'.view H') σ' Δ' → D.nx σ' H'
  rt : ∀ W' e v H', rt W' e → W'.inv H' → Ex (W.view H) (W'.view H') → RepV K (W'.view H') v e → D.rt v H'
  bk : ∀ W' Δ' σ' H', bk W' Δ' → W'.inv H' → Ex (W.view H) (W'.view H') → EnvOk K (W'.view H') σ' Δ' → D.bk σ' H'
  ct : ∀ W' Δ' σ' H', ct W' Δ' → W'.inv H' → Ex (W.view H) (W'.view H') → EnvOk K (W'.view H') σ' Δ' → D.ct σ' H'
def DS (W : Wd) (Δ : DEnv) (t : TS) (nx : Wd → DEnv → Prop) (rt : Wd → DV → Prop) (bk ct : Wd → DEnv → Prop) : Prop :=
  ∀ (σ : L2.St) (H : Hp) (D : Ends), EnvOk K (W.view H) σ Δ → W.inv H → Cnt K W H D nx rt bk ct → t D σ H
end
section
variable {K : PySem.W.Frag} {W W1 : Wd} {Δ Δ1 : DEnv} {te ta tb tc tx : TE} {tt tu : TT} {t u : TS} {r r' : R2} {P P' : DV → Prop} {PB : Bool → Prop} {PL : List DV → Prop}
  {nx nx' : Wd → DEnv → Prop} {rt : Wd → DV → Prop} {bk ct : Wd → DEnv → Prop} {H H1 : Hp} {D : Ends}
theorem Cnt.step (c : Cnt K W H D nx rt bk ct) (x : Ex (W.view H) (W1.view H1)) : Cnt K W1 H1 D nx rt bk ct :=
  ⟨fun W' Δ' σ' H' n i e v => c.nx W' Δ' σ' H' n i (x.trans e) v, fun W' e v H' n i x2 r => c.rt W' e v H' n i (x.trans x2) r, fun W' Δ' σ' H' n i e v => c.bk W' Δ' σ' H' n i (x.trans e) v, fun W' Δ' σ' H' n i e v => c.ct W' Δ' σ' H' n i (x.trans e) v⟩
theorem DE.mono (h : DE K W Δ te P) (k : ∀ e, P e → P' e) : DE K W Δ te P' := fun σ H v i Q q => h σ H v i Q fun v' H' e i' x p r => q v' H' e i' x (k e p) r
theorem DT.mono {PB' : Bool → Prop} (h : DT K W Δ tt PB) (k : ∀ b, PB b → PB' b) : DT K W Δ tt PB' := fun σ H v i Q q => h σ H v i Q fun b H' i' x p => q b H' i' x (k b p)
theorem DA.mono {ta : TA} {PL' : List DV → Prop} (h : DA K W Δ ta PL) (k : ∀ es, PL es → PL' es) : DA K W Δ ta PL' := fun σ H v i Q q => h σ H v i Q fun vs H' es i' x p r => q vs H' es i' x (k es p) r
theorem DS.mono {rt' : Wd → DV → Prop} {bk' ct' : Wd → DEnv → Prop} (h : DS K W Δ t nx rt bk ct) (k1 : ∀ W Δ, nx W Δ → nx' W Δ) (k2 : ∀ W e, rt W e → rt' W e) (k3 : ∀ W Δ, bk W Δ → bk' W Δ) (k4 : ∀ W Δ, ct W Δ → ct' W Δ) : DS K W Δ t nx' rt' bk' ct' :=
  fun σ H D v i c => h σ H D v i ⟨fun W' Δ' σ' H' n => c.nx W' Δ' σ' H' (k1 _ _ n), fun W' e v H' n => c.rt W' e v H' (k2 _ _ n), fun W' Δ' σ' H' n => c.bk W' Δ' σ' H' (k3 _ _ n), fun W' Δ' σ' H' n => c.ct W' Δ' σ' H' (k4 _ _ n)⟩
/-- fewer things known -/
theorem DS.less {Δ' : DEnv} (h : DS K W Δ' t nx rt bk ct) (hl : Δ'.length = Δ.length) (hs : ∀ (i : Nat) (e : DV), Δ'[i]? = some (some e) → Δ[i]? = some (some e)) : DS K W Δ t nx rt bk ct :=
  fun σ H D v i c => h σ H D (v.less hl hs) i c

/-! ### expressions -/
theorem de_var {i : Nat} {e : DV} (h : Δ[i]? = some (some e)) (k : P e) : DE K W Δ (tVar i) P := fun σ H v i Q q => by
  obtain ⟨x, h1, h2⟩ := v.at_ _ e h
  exact ⟨x, h1, q x H e i (Ex.refl _) k h2⟩
theorem de_int {n : Int} (k : P (.dat (.int n))) : DE K W Δ (tC (.int n)) P := fun σ H v i Q q => q _ H _ i (Ex.refl _) k (.int n)
theorem de_str {x : Str} (k : P (.dat (.str x))) : DE K W Δ (tC (.str x)) P := fun σ H v i Q q => q _ H _ i (Ex.refl _) k (.str x)
theorem de_bl {b : Bool} (k : P (.dat (.bool b))) : DE K W Δ (tC (.bl b)) P := fun σ H v i Q q => q _ H _ i (Ex.refl _) k (.bl b)
theorem de_raw {x : V} (k : P (.raw x)) : DE K W Δ (tC x) P := fun σ H v i Q q => q _ H _ i (Ex.refl _) k rfl
theorem de_op (h : DE K W Δ ta fun a => DE K W Δ tb fun b => OpD K W r a b P) : DE K W Δ (tOp r ta tb) P := fun σ H v i Q q =>
  h σ H v i _ fun x H1 a i1 x1 p1 r1 => p1 σ H1 (v.mono x1) i1 _ fun y H2 b i2 x2 p2 r2 => p2 x y H2 i2 (r1.mono x2) r2 Q fun z H3 e i3 x3 p r3 => q z H3 e i3 ((x1.trans x2).trans x3) p r3
theorem de_un {r : V → Hp → VK → Prop} (h : DE K W Δ ta fun a => UnD K W r a P) : DE K W Δ (tUn r ta) P := fun σ H v i Q q =>
  h σ H v i _ fun x H1 a i1 x1 p1 r1 => p1 x H1 i1 r1 Q fun z H3 e i3 x3 p r3 => q z H3 e i3 (x1.trans x3) p r3
theorem de_if (h : DT K W Δ tt fun b => (b = true → DE K W Δ ta P) ∧ (b = false → DE K W Δ tb P)) : DE K W Δ (tIf tt ta tb) P := fun σ H v i Q q =>
  h σ H v i _ fun b H1 i1 x1 p1 => by
    cases b with
    | true =>
      show ta σ H1 Q
      exact p1.1 rfl σ H1 (v.mono x1) i1 Q fun z H3 e i3 x3 p r3 => q z H3 e i3 (x1.trans x3) p r3
    | false =>
      show tb σ H1 Q
      exact p1.2 rfl σ H1 (v.mono x1) i1 Q fun z H3 e i3 x3 p r3 => q z H3 e i3 (x1.trans x3) p r3
theorem de_andV (h : DE K W Δ ta fun a => ∃ b, a = .dat (.bool b) ∧ (b = true → DE K W Δ tb P) ∧ (b = false → P (.dat (.bool false)))) : DE K W Δ (tAndV ta tb) P := fun σ H v i Q q =>
  h σ H v i _ fun x H1 a i1 x1 p1 r1 => by
    obtain ⟨b, rfl, k1, k2⟩ := p1
    cases r1
    cases b with
    | true => exact ⟨true, rfl, k1 rfl σ H1 (v.mono x1) i1 Q fun z H3 e i3 x3 p r3 => q z H3 e i3 (x1.trans x3) p r3⟩
    | false => exact ⟨false, rfl, q _ H1 _ i1 x1 (k2 rfl) (.bl false)⟩
theorem de_orV (h : DE K W Δ ta fun a => ∃ b, a = .dat (.bool b) ∧ (b = false → DE K W Δ tb P) ∧ (b = true → P (.dat (.bool true)))) : DE K W Δ (tOrV ta tb) P := fun σ H v i Q q =>
  h σ H v i _ fun x H1 a i1 x1 p1 r1 => by
    obtain ⟨b, rfl, k1, k2⟩ := p1
    cases r1
    cases b with
    | true => exact ⟨true, rfl, q _ H1 _ i1 x1 (k2 rfl) (.bl true)⟩
    | false => exact ⟨false, rfl, k1 rfl σ H1 (v.mono x1) i1 Q fun z H3 e i3 x3 p r3 => q z H3 e i3 (x1.trans x3) p r3⟩
theorem de_notV (h : DE K W Δ ta fun a => ∃ b, a = .dat (.bool b) ∧ P (.dat (.bool (!b)))) : DE K W Δ (tNotV ta) P := fun σ H v i Q q =>
  h σ H v i _ fun x H1 a i1 x1 p1 r1 => by
    obtain ⟨b, rfl, k1⟩ := p1
    cases r1
    exact ⟨b, rfl, q _ H1 _ i1 x1 k1 (.bl _)⟩
theorem da_nil (k : PL []) : DA K W Δ tNil PL := fun σ H v i Q q => q [] H [] i (Ex.refl _) k .nil
theorem da_cons {tr : TA} (h : DE K W Δ te fun e => DA K W Δ tr fun es => PL (e :: es)) : DA K W Δ (tCons te tr) PL := fun σ H v i Q q =>
  h σ H v i _ fun x H1 e i1 x1 p1 r1 => p1 σ H1 (v.mono x1) i1 _ fun xs H2 es i2 x2 p2 r2 => q _ H2 _ i2 (x1.trans x2) p2 (.cons (r1.mono x2) r2)
theorem Reps.dats : ∀ {vs : List V} {ds : List PyData}, Reps K H vs (ds.map DV.dat) → Dqs K H vs ds
  | _, [], h => by
    cases h
    exact .nil
  | _, d :: ds, h => by
    cases h with
    | cons h1 h2 => exact .cons h1 (Reps.dats h2)
theorem Dqs.reps : ∀ {vs : List V} {ds : List PyData}, Dqs K H vs ds → Reps K H vs (ds.map DV.dat)
  | _, _, .nil => .nil
  | _, _, .cons h hs => .cons h (Dqs.reps hs)
/-- a new tuple, a new list of data -/
theorem Dq.newT {p : Addr} {vs : List V} {ds : List PyData} (i : W.inv H) (hp : H p = none) (h : Dqs K (W.view H) vs ds) : Dq K (W.view (upd H p (.tup vs))) (.ref p) (.tuple ds) :=
  .tup (SqT.of (Wd.view_new i hp)) (h.mono (Wd.view_ex (Ex.new hp)))
theorem Dq.newL {p : Addr} {vs : List V} {ds : List PyData} (i : W.inv H) (hp : H p = none) (h : Dqs K (W.view H) vs ds) : Dq K (W.view (upd H p (.lst vs))) (.ref p) (.list ds) :=
  .lst (Wd.view_new i hp) (h.mono (Wd.view_ex (Ex.new hp)))
theorem de_tup {ta : TA} (h : DA K W Δ ta fun es => ∃ ds, es = ds.map DV.dat ∧ ds.length ≤ 100000 ∧ P (.dat (.tuple ds))) : DE K W Δ (tTup ta) P := fun σ H v i Q q =>
  h σ H v i _ fun xs H1 es i1 x1 p1 r1 => by
    obtain ⟨ds, rfl, hl, k⟩ := p1
    have hd := Reps.dats r1
    exact ⟨sz_of (by rw [hd.length]; exact hl), fun p hp => q _ _ _ (Wd.inv_new i1 hp) (x1.trans (Wd.view_ex (Ex.new hp))) k (Dq.newT i1 hp hd)⟩
theorem de_lst {ta : TA} (h : DA K W Δ ta fun es => ∃ ds, es = ds.map DV.dat ∧ ds.length ≤ 100000 ∧ P (.dat (.list ds))) : DE K W Δ (tLst ta) P := fun σ H v i Q q =>
  h σ H v i _ fun xs H1 es i1 x1 p1 r1 => by
    obtain ⟨ds, rfl, hl, k⟩ := p1
    have hd := Reps.dats r1
    exact ⟨sz_of (by rw [hd.length]; exact hl), fun p hp => q _ _ _ (Wd.inv_new i1 hp) (x1.trans (Wd.view_ex (Ex.new hp))) k (Dq.newL i1 hp hd)⟩
theorem de_cb {r : List V → Hp → VK → Prop} {ta : TA} (h : DA K W Δ ta fun es => CalD K W r es P) : DE K W Δ (tCB r ta) P := fun σ H v i Q q =>
  h σ H v i _ fun xs H1 es i1 x1 p1 r1 => p1 xs H1 i1 r1 Q fun z H3 e i3 x3 p r3 => q z H3 e i3 (x1.trans x3) p r3
theorem de_chain (h : DE K W Δ ta fun a => DE K W Δ tb fun b => OpD K W r a b fun z => ∃ k, z = .dat (.bool k) ∧ (k = true → DE K W Δ tc fun c => OpD K W r' b c P) ∧ (k = false → P (.dat (.bool false)))) : DE K W Δ (tChain r r' ta tb tc) P := fun σ H v i Q q =>
  h σ H v i _ fun x H1 a i1 x1 p1 r1 => p1 σ H1 (v.mono x1) i1 _ fun y H2 b i2 x2 p2 r2 => p2 x y H2 i2 (r1.mono x2) r2 _ fun z H3 e i3 x3 p r3 => by
    obtain ⟨k, rfl, k1, k2⟩ := p
    cases r3
    cases k with
    | true => exact ⟨true, rfl, k1 rfl σ H3 (v.mono ((x1.trans x2).trans x3)) i3 _ fun c H4 e4 i4 x4 p4 r4 => p4 y c H4 i4 (r2.mono (x3.trans x4)) r4 Q fun z5 H5 e5 i5 x5 p5 r5 => q z5 H5 e5 i5 ((((x1.trans x2).trans x3).trans x4).trans x5) p5 r5⟩
    | false => exact ⟨false, rfl, q _ H3 _ i3 ((x1.trans x2).trans x3) (k2 rfl) (.bl false)⟩

/-! ### tests -/
theorem dt_test (h : DE K W Δ te fun e => ∃ b, e = .dat (.bool b) ∧ PB b) : DT K W Δ (tTest te) PB := fun σ H v i Q q =>
  h σ H v i _ fun x H1 e i1 x1 p1 r1 => by
    obtain ⟨b, rfl, k⟩ := p1
    cases r1
    exact ⟨b, rfl, q b H1 i1 x1 k⟩
theorem dt_B (h : DE K W Δ te fun e => ∃ b, e = .dat (.bool b) ∧ PB b) : DT K W Δ (tB te) PB := fun σ H v i Q q =>
  h σ H v i _ fun x H1 e i1 x1 p1 r1 => by
    obtain ⟨b, rfl, k⟩ := p1
    cases r1
    exact ⟨b, rfl, q b H1 i1 x1 k⟩
theorem dt_and (h : DT K W Δ tt fun a => (a = true → DT K W Δ tu PB) ∧ (a = false → PB false)) : DT K W Δ (tAnd tt tu) PB := fun σ H v i Q q =>
  h σ H v i _ fun b H1 i1 x1 p1 => by
    cases b with
    | true =>
      show tu σ H1 Q
      exact p1.1 rfl σ H1 (v.mono x1) i1 Q fun b H3 i3 x3 p => q b H3 i3 (x1.trans x3) p
    | false =>
      show Q false H1
      exact q false H1 i1 x1 (p1.2 rfl)
theorem dt_or (h : DT K W Δ tt fun a => (a = false → DT K W Δ tu PB) ∧ (a = true → PB true)) : DT K W Δ (tOr tt tu) PB := fun σ H v i Q q =>
  h σ H v i _ fun b H1 i1 x1 p1 => by
    cases b with
    | true =>
      show Q true H1
      exact q true H1 i1 x1 (p1.2 rfl)
    | false =>
      show tu σ H1 Q
      exact p1.1 rfl σ H1 (v.mono x1) i1 Q fun b H3 i3 x3 p => q b H3 i3 (x1.trans x3) p
theorem dt_not (h : DT K W Δ tt fun a => PB (!a)) : DT K W Δ (tNot tt) PB := fun σ H v i Q q => h σ H v i _ fun b H1 i1 x1 p1 => q (!b) H1 i1 x1 p1
theorem dt_yes (k : PB true) : DT K W Δ tYes PB := fun σ H v i Q q => q true H i (Ex.refl _) k

/-! ### statements -/
theorem ds_next (k : nx W Δ) : DS K W Δ tNext nx rt bk ct := fun σ H D v i c => c.nx W Δ σ H k i (Ex.refl _) v
theorem ds_seq (h : DS K W Δ t (fun W' Δ' => DS K W' Δ' u nx rt bk ct) rt bk ct) : DS K W Δ (tSeq t u) nx rt bk ct := fun σ H D v i c =>
  h σ H { D with nx := u D } v i ⟨fun W' Δ' σ' H' n i' x v' => n σ' H' D v' i' (c.step x), c.rt, c.bk, c.ct⟩
theorem ds_set {i : Nat} (h : DE K W Δ te fun e => nx W (Δ.set i (some e))) : DS K W Δ (tAsg te (gName i)) nx rt bk ct := fun σ H D v i' c =>
  h σ H v i' _ fun x H1 e i1 x1 p1 r1 => c.nx W _ _ H1 p1 i1 x1 ((v.mono x1).set r1)
theorem ds_ret (h : DE K W Δ te fun e => rt W e) : DS K W Δ (tRet te) nx rt bk ct := fun σ H D v i' c =>
  h σ H v i' _ fun x H1 e i1 x1 p1 r1 => c.rt W e x H1 p1 i1 x1 r1
theorem ds_drop (h : DE K W Δ te fun _ => nx W Δ) : DS K W Δ (tDrop te) nx rt bk ct := fun σ H D v i' c =>
  h σ H v i' _ fun x H1 e i1 x1 p1 r1 => c.nx W Δ σ H1 p1 i1 x1 (v.mono x1)
theorem ds_if (h : DT K W Δ tt fun b => (b = true → DS K W Δ t nx rt bk ct) ∧ (b = false → DS K W Δ u nx rt bk ct)) : DS K W Δ (tIfS tt t u) nx rt bk ct := fun σ H D v i c =>
  h σ H v i _ fun b H1 i1 x1 p1 => by
    cases b with
    | true =>
      show t D σ H1
      exact p1.1 rfl σ H1 D (v.mono x1) i1 (c.step x1)
    | false =>
      show u D σ H1
      exact p1.2 rfl σ H1 D (v.mono x1) i1 (c.step x1)
/-- a word between -/
theorem ds_cut (Mid : Wd → DEnv → Prop) (h : DS K W Δ t Mid rt bk ct) (k : ∀ W' Δ', Mid W' Δ' → DS K W' Δ' u nx rt bk ct) : DS K W Δ (tSeq t u) nx rt bk ct :=
  ds_seq (h.mono k (fun _ _ q => q) (fun _ _ q => q) fun _ _ q => q)
end
end Ka

namespace Ka
open PySem PySem.Spec PyProof.Rows L2 Evl
/-! ### rules of our own over the machine -/
section
variable {X : Cx}
/-- repr of data -/
def rRepr (K : PySem.W.Frag) : List V → Hp → VK → Prop := fun xs H Q => ∃ v d, xs = [v] ∧ Dq K H v d ∧ d.showable = true ∧ d.hasDict = false ∧ d.depth ≤ 60 ∧ d.shown.length ≤ sizeLine ∧ Q (.str d.shown) H
theorem cr_repr (hg : X.A.guards = some []) (hu : X.A.units + 64 < cLine) : CallR X (.builtin "repr") (rRepr X.K) := by
  intro pins s σ H xs us Q I r h
  obtain ⟨v, d, rfl, hd, hs, hn, hp, hz, q⟩ := h
  obtain ⟨u, rfl, rv⟩ := vals1 r
  obtain ⟨as, rd⟩ := Dp.reads I d v u hd.dp rv
  cases hd with
  | non => 
    cases rv
    simp only [PyData.shown] at q
    exact PySem.P.repr_of_none ⟨.str _, H, I.tok _, ⟨_, rfl⟩, q⟩
  | bl b =>
    cases rv
    simp only [PyData.shown] at q
    exact PySem.P.repr_of_bool ⟨.str _, H, I.tok _, ⟨_, rfl⟩, q⟩
  | int i =>
    obtain ⟨t, rfl⟩ := rv
    simp only [PyData.shown] at q
    exact PySem.P.repr_of_int (by simpa [PyData.showable] using hs) ⟨.str _, H, I.tok _, ⟨_, rfl⟩, q⟩
  | str x =>
    obtain ⟨t, rfl⟩ := rv
    simp only [PyData.shown] at q hz
    exact PySem.P.repr_of_str ⟨.str _, H, I.tok _, ⟨_, rfl⟩, q⟩ hz
  | lst _ _ =>
    cases rv
    exact repr_of_reads' rd hs (PyData.noDict_hsm hn) hg (by omega) (fun _ _ e => e) (fun h' u tk hk => ⟨.str _, H, I.kept hk, ⟨_, rfl⟩, q⟩) hz
  | tup _ _ =>
    cases rv
    exact repr_of_reads' rd hs (PyData.noDict_hsm hn) hg (by omega) (fun _ _ e => e) (fun h' u tk hk => ⟨.str _, H, I.kept hk, ⟨_, rfl⟩, q⟩) hz

/-- x in c, x not in c: c a list or a tuple of data -/
def rInQ (K : PySem.W.Frag) (neg : Bool) : R2 := fun x y H Q => ∃ d ds, Dq K H x d ∧ (Dq K H y (.list ds) ∨ Dq K H y (.tuple ds)) ∧ SeqAt.shaped d = true ∧ PyData.canLayAll0 ds = true ∧
  Q (.bl (if neg then !ds.any fun z => PyData.eqv z d else ds.any fun z => PyData.eqv z d)) H
theorem min_room {A : Around} {d : PyData} {n : Nat} (sd : SeqAt.shaped d = true) (hu : A.units + 65 < cLine) : A.units + 1 + min n d.depth < cLine := by
  have h1 := SeqAt.depth_of_shaped sd
  have h2 : min n d.depth ≤ d.depth := Nat.min_le_right _ _
  omega
theorem op_inQ (hu : X.A.units + 65 < cLine) : OpR X (compareOp .In) (rInQ X.K false) := by
  intro pins s σ H x y v u Q I rx ry h
  obtain ⟨d, ds, hd, he, sd, se, q⟩ := h
  obtain ⟨as, r1⟩ := Dp.reads I d x v hd.dp rx
  rcases he with he | he
  · obtain ⟨bs, r2⟩ := Dp.reads I (.list ds) y u he.dp ry
    exact SeqAt.in_list_reads r2 r1 se (SeqAt.canLay_of_shaped sd) (min_room sd hu) ⟨.bl _, H, I, rfl, q⟩
  · obtain ⟨bs, r2⟩ := Dp.reads I (.tuple ds) y u he.dp ry
    exact SeqAt.in_tuple_reads r2 r1 se (SeqAt.canLay_of_shaped sd) (min_room sd hu) ⟨.bl _, H, I, rfl, q⟩
theorem op_notInQ (hu : X.A.units + 65 < cLine) : OpR X (compareOp .NotIn) (rInQ X.K true) := by
  intro pins s σ H x y v u Q I rx ry h
  obtain ⟨d, ds, hd, he, sd, se, q⟩ := h
  obtain ⟨as, r1⟩ := Dp.reads I d x v hd.dp rx
  rcases he with he | he
  · obtain ⟨bs, r2⟩ := Dp.reads I (.list ds) y u he.dp ry
    exact SeqAt.notIn_list_reads r2 r1 se (SeqAt.canLay_of_shaped sd) (min_room sd hu) ⟨.bl _, H, I, rfl, q⟩
  · obtain ⟨bs, r2⟩ := Dp.reads I (.tuple ds) y u he.dp ry
    exact SeqAt.notIn_tuple_reads r2 r1 se (SeqAt.canLay_of_shaped sd) (min_room sd hu) ⟨.bl _, H, I, rfl, q⟩

/-- + of ints, texts, tuples, lists -/
def rAddX (K : PySem.W.Frag) : R2 := fun x y H Q => ((rI0 fun i j => .int (i + j)) x y H Q ∨ ∃ i j, x = .str i ∧ y = .str j ∧ i.length + j.length ≤ sizeLine ∧ Q (.str (i ++ j)) H) ∨ (rCatA K x y H Q ∨ rCat x y H Q)
theorem op_addX : OpR X (binaryOp .Add) (rAddX X.K) := (op_add.or op_add_str).or (op_catA.or op_cat)

/-- slices of lists, tuples -/
def rSlX (K : PySem.W.Frag) : V → Option Int → Option Int → Hp → VK → Prop := fun x lo hi H Q => rSlL K x lo hi H Q ∨ rSlA K x lo hi H Q
theorem sl_X : SlR X (rSlX X.K) := sl_list.or sl_tupA

/-- len of a list, a tuple, a text -/
def rLenX (K : PySem.W.Frag) : List V → Hp → VK → Prop := fun xs H Q => (∃ p ys, xs = [.ref p] ∧ (SqL K H p ys ∨ SqT K H p ys) ∧ Q (.int ys.length) H) ∨ ∃ z, xs = [.str z] ∧ z.length ≤ sizeLine ∧ Q (.int z.length) H
theorem cr_lenX : CallR X (.builtin "len") (rLenX X.K) := call_len_seq.or call_len_str

/-- tuple(x), list(x) -/
def rTupX (K : PySem.W.Frag) : List V → Hp → VK → Prop := fun xs H Q => ∃ p ys, xs = [.ref p] ∧ ((SqL K H p ys ∧ ∀ l, H l = none → Q (.ref l) (upd H l (.tup ys))) ∨ (SqT K H p ys ∧ Q (.ref p) H))
theorem cr_tupX : CallR X (.type "tuple") (rTupX X.K) := call_tuple_of
def rLstX (K : PySem.W.Frag) : List V → Hp → VK → Prop := fun xs H Q => ∃ p ys, xs = [.ref p] ∧ (SqL K H p ys ∨ SqT K H p ys) ∧ ∀ l, H l = none → Q (.ref l) (upd H l (.lst ys))
theorem cr_lstX : CallR X (.type "list") (rLstX X.K) := call_list_of
/-- int(n) -/
def rIntX : List V → Hp → VK → Prop := fun xs H Q => (∃ i, xs = [.int i] ∧ Q (.int i) H) ∨ ∃ k, xs = [.bl k] ∧ Q (.int (if k then 1 else 0)) H
theorem cr_intX : CallR X (.type "int") rIntX := call_int1

/-- the values of a data list, each with what it stands for -/
theorem each_three {K : PySem.W.Frag} {H : Hp} : ∀ {vs : List V} {us : List Value} {ds : List PyData}, Vals vs us → Dqs K H vs ds → PySem.W.EachIs (fun u d => ∃ v, RelV v u ∧ Dq K H v d) us ds
  | _, _, _, .nil, .nil => .nil
  | _, _, _, .cons r rs, .cons h hs => .cons ⟨_, r, h⟩ (each_three rs hs)
theorem three_back {K : PySem.W.Frag} {H : Hp} : ∀ {us : List Value} {ds : List PyData}, PySem.W.EachIs (fun u d => ∃ v, RelV v u ∧ Dq K H v d) us ds → ∃ vs, Vals vs us ∧ Dqs K H vs ds
  | _, _, .nil => ⟨[], .nil, .nil⟩
  | _, _, .cons ⟨v, r, h⟩ t => by
    obtain ⟨vs, r', h'⟩ := three_back t
    exact ⟨v :: vs, .cons r r', .cons h h'⟩
theorem each_reads {h : Heap} : ∀ {us : List Value} {ds : List PyData} {as : List Addr}, ReadsAll h us ds as → PySem.W.EachIs (fun u d => ∃ as, Reads h u d as) us ds
  | _, [], _, r => by
    cases r
    exact .nil
  | _, d :: ds, _, r => by
    cases r with
    | cons h1 h2 => exact .cons ⟨_, h1⟩ (each_reads h2)
theorem sortedAll_get (h : Heap) (vs : List Value) (out : List Value) : ∃ c, (sortedAll h vs out.toArray).get? (h.objs.size + 1) = some { cls := .type "list", data := .seq out.toArray c } := by
  obtain ⟨c, hc⟩ := PyProof.Rows.sortedAll_at h vs out.toArray
  exact ⟨c, hc⟩
def rSortedQ (K : PySem.W.Frag) : List V → Hp → VK → Prop := fun vs H Q => ∃ (a : Addr) (xs : List V) (ds : List PyData) (U : Hp), vs = [V.ref a] ∧ H a = some (.lst xs) ∧ Ex U H ∧ Dqs K U xs ds ∧ PySem.W.AllAlike ds ∧ PySem.W.Sortable ds ∧ (∀ d ∈ ds, d.depth ≤ 60) ∧
  ∀ (ys : List V) (p : Addr), Dqs K U ys (ds.mergeSort (PySem.W.dataLe false id)) → H p = none → Q (.ref p) (upd H p (.lst ys))
theorem cr_sortedQ (hu : X.A.units + 64 < cLine) : CallR X (.builtin "sorted") (rSortedQ X.K) := by
  intro pins s σ H vs us Q I r h
  obtain ⟨a, xs, ds, U, rfl, ha, hU, hd, al, so, dep, q⟩ := h
  rw [Vals.ref1 r]
  obtain ⟨its, n, rv, ho, hz⟩ := I.lst ha
  obtain ⟨as, rs⟩ := Dp.readsAll I ds xs its (hd.mono hU).dp rv
  have hlen : its.length = ds.length := by
    rw [← rv.length, hd.length]
  have e3 := each_three rv hd
  have er : PySem.W.EachIs (fun u d => ∃ as, Reads s.heap u (id d) as) its ds := each_reads rs
  refine PySem.W.sorted_data (vs := its) (bs := ds) (enc := id) (R := fun u d => ∃ v, RelV v u ∧ Dq X.K U v d) ⟨_, ho, rfl, n, rfl⟩ e3 er (by simpa using al) (by simpa using so) (by rw [← hlen, ← rv.length]; exact hz) (fun d hd' => by have := dep d hd'; show X.A.units + 2 + d.depth < cLine; omega) fun out hol e => ?_
  obtain ⟨ys, ry, hy⟩ := three_back e
  obtain ⟨c, hc⟩ := sortedAll_get s.heap its out
  have hn : H (s.heap.objs.size + 1) = none := I.hok.fresh (Nat.le_succ _)
  refine ⟨.ref (s.heap.objs.size + 1), upd H (s.heap.objs.size + 1) (.lst ys), I.laid (t' := s.toks) (fun b o e => PyProof.Rows.sortedAll_old e) (Nat.le_succ _) ⟨?_, out, c, ry, hc⟩, rfl, q ys _ hy hn⟩
  rw [ry.length, hol, ← hlen, ← rv.length]
  exact hz
/-- set(t), t a tuple of ints; sorted(set) -/
def rSetI (w : World) (K : PySem.W.Frag) : List V → Hp → VK → Prop := fun vs H Q => ∃ (p : Addr) (ns : List Int), vs = [.ref p] ∧ SqT K H p (ns.map V.int) ∧ ns.length ≤ 1000 ∧ ∀ (q : Addr) (c : Nat), c ≤ ns.length → H q = none → Q (.ref q) (upd H q (SetO w q (fun j => decide (j ∈ ns)) c))
theorem cr_setI (hc : X.calm = true) : CallR X (.type "set") (rSetI X.w X.K) := by
  intro pins s σ H vs us Q I r h
  obtain ⟨p, ns, rfl, hs, hl, q⟩ := h
  rw [Vals.ref1 r]
  obtain ⟨its, rv, pt, hz⟩ := I.tuple hs
  refine call_set_tupI ns (I.ok.hd hc) (show s.heap.IsTuple p its.toArray from pt) (ints_of_vals rv) (by unfold scanBound; omega) fun h' tk c R1 hcn k => ?_
  have hn : H s.heap.objs.size = none := I.hok.fresh (Nat.le_refl _)
  exact ⟨.ref s.heap.objs.size, _, I.laid (t' := tk) k (Nat.le_refl _) (setO_new R1), rfl, q _ c hcn hn⟩
end
end Ka

namespace Ka
open PySem PySem.Spec PyProof.Rows L2 Evl
/-! ### operations on data -/
section
variable {K : PySem.W.Frag} {W W1 : Wd} {Δ Δ1 : DEnv} {te ta tb tc tx : TE} {tt tu : TT} {t u : TS} {r r' : R2} {P P' : DV → Prop} {PB : Bool → Prop} {PL : List DV → Prop}
  {nx nx' : Wd → DEnv → Prop} {rt : Wd → DV → Prop} {bk ct : Wd → DEnv → Prop} {H H1 : Hp} {D : Ends}
theorem opd_I {f : Int → Int → Int} {i j : Int} (k : P (.dat (.int (f i j)))) : OpD K W (rI0 fun i j => .int (f i j)) (.dat (.int i)) (.dat (.int j)) P := fun x y H iv rx ry Q q => by
  cases rx
  cases ry
  exact ⟨i, j, rfl, rfl, q _ H _ iv (Ex.refl _) k (.int _)⟩
theorem opd_B {f : Int → Int → Bool} {i j : Int} (k : P (.dat (.bool (f i j)))) : OpD K W (rI0 fun i j => .bl (f i j)) (.dat (.int i)) (.dat (.int j)) P := fun x y H iv rx ry Q q => by
  cases rx
  cases ry
  exact ⟨i, j, rfl, rfl, q _ H _ iv (Ex.refl _) k (.bl _)⟩
theorem opd_IC {C : Int → Int → Prop} {f : Int → Int → Int} {i j : Int} (hc : C i j) (k : P (.dat (.int (f i j)))) : OpD K W (rI C fun i j => .int (f i j)) (.dat (.int i)) (.dat (.int j)) P := fun x y H iv rx ry Q q => by
  cases rx
  cases ry
  exact ⟨i, j, rfl, rfl, hc, q _ H _ iv (Ex.refl _) k (.int _)⟩
theorem opd_addI {i j : Int} (k : P (.dat (.int (i + j)))) : OpD K W (rAddX K) (.dat (.int i)) (.dat (.int j)) P := fun x y H iv rx ry Q q => by
  cases rx
  cases ry
  exact .inl (.inl ⟨i, j, rfl, rfl, q _ H _ iv (Ex.refl _) k (.int _)⟩)
theorem opd_addT {xs ys : List PyData} (hl : xs.length + ys.length ≤ 100000) (k : P (.dat (.tuple (xs ++ ys)))) : OpD K W (rAddX K) (.dat (.tuple xs)) (.dat (.tuple ys)) P := fun x y H iv rx ry Q q => by
  cases rx with
  | @tup a vs _ ha hv =>
    cases ry with
    | @tup b us _ hb hu =>
      have la := hv.length
      have lb := hu.length
      refine .inr (.inl ⟨a, b, vs, us, rfl, rfl, ex_t (Wd.view_le) ha, ex_t (Wd.view_le) hb, sz_of (by omega), fun e => ?_, fun e1 e2 => ?_, fun _ _ p hp => ?_⟩)
      · subst e
        cases hv
        exact q _ H _ iv (Ex.refl _) k (.tup hb hu)
      · subst e2
        cases hu
        rw [List.append_nil] at k
        exact q _ H _ iv (Ex.refl _) k (.tup ha hv)
      · exact q _ _ _ (Wd.inv_new iv hp) (Wd.view_ex (Ex.new hp)) k (Dq.newT iv hp (hv.append hu))
theorem opd_addL {xs ys : List PyData} (hl : xs.length + ys.length ≤ 100000) (k : P (.dat (.list (xs ++ ys)))) : OpD K W (rAddX K) (.dat (.list xs)) (.dat (.list ys)) P := fun x y H iv rx ry Q q => by
  cases rx with
  | @lst a vs _ ha hv =>
    cases ry with
    | @lst b us _ hb hu =>
      have la := hv.length
      have lb := hu.length
      refine .inr (.inr ⟨a, b, vs, us, rfl, rfl, Wd.view_le _ _ ha, Wd.view_le _ _ hb, sz_of (by omega), fun p hp => ?_⟩)
      exact q _ _ _ (Wd.inv_new iv hp) (Wd.view_ex (Ex.new hp)) k (Dq.newL iv hp (hv.append hu))
theorem Dq.le {v : V} {d : PyData} (h : Dq K (W.view H) v d) : Dq K H v d := h.mono Wd.view_le
theorem opd_eq0 {d e : PyData} (h1 : SeqAt.shaped d = true) (h2 : SeqAt.shaped e = true) (k : P (.dat (.bool (PyData.eqv d e)))) : OpD K W (rEqD K) (.dat d) (.dat e) P := fun x y H iv rx ry Q q =>
  ⟨d, e, Dq.dp (Dq.le rx), Dq.dp (Dq.le ry), h1, h2, q _ H _ iv (Ex.refl _) k (.bl _)⟩
theorem opd_ne0 {d e : PyData} (h1 : SeqAt.shaped d = true) (h2 : SeqAt.shaped e = true) (k : P (.dat (.bool (!PyData.eqv d e)))) : OpD K W (rNeD K) (.dat d) (.dat e) P := fun x y H iv rx ry Q q =>
  ⟨d, e, Dq.dp (Dq.le rx), Dq.dp (Dq.le ry), h1, h2, q _ H _ iv (Ex.refl _) k (.bl _)⟩
theorem opd_inL {d : PyData} {ds : List PyData} (h1 : SeqAt.shaped d = true) (h2 : PyData.canLayAll0 ds = true) (k : P (.dat (.bool (ds.any fun z => PyData.eqv z d)))) : OpD K W (rInQ K false) (.dat d) (.dat (.list ds)) P := fun x y H iv rx ry Q q =>
  ⟨d, ds, Dq.le rx, .inl (Dq.le ry), h1, h2, q _ H _ iv (Ex.refl _) k (.bl _)⟩
theorem opd_inT {d : PyData} {ds : List PyData} (h1 : SeqAt.shaped d = true) (h2 : PyData.canLayAll0 ds = true) (k : P (.dat (.bool (ds.any fun z => PyData.eqv z d)))) : OpD K W (rInQ K false) (.dat d) (.dat (.tuple ds)) P := fun x y H iv rx ry Q q =>
  ⟨d, ds, Dq.le rx, .inr (Dq.le ry), h1, h2, q _ H _ iv (Ex.refl _) k (.bl _)⟩
theorem opd_niT {d : PyData} {ds : List PyData} (h1 : SeqAt.shaped d = true) (h2 : PyData.canLayAll0 ds = true) (k : P (.dat (.bool (!ds.any fun z => PyData.eqv z d)))) : OpD K W (rInQ K true) (.dat d) (.dat (.tuple ds)) P := fun x y H iv rx ry Q q =>
  ⟨d, ds, Dq.le rx, .inr (Dq.le ry), h1, h2, q _ H _ iv (Ex.refl _) k (.bl _)⟩
theorem Dqs.atI {vs : List V} {ds : List PyData} {i : Int} {d : PyData} (h : Dqs K H vs ds) (e : atI ds i = some d) : ∃ v, atI vs i = some v ∧ Dq K H v d := by
  unfold L2.atI at e ⊢
  rw [h.length]
  cases q : ixN ds.length i with
  | none =>
    rw [q] at e
    cases e
  | some j =>
    rw [q] at e
    obtain ⟨v, h1, h2⟩ := h.getd (show ds[j]? = some d from e)
    exact ⟨v, h1, h2⟩
theorem opd_ixT {ds : List PyData} {i : Int} {d : PyData} (h : atI ds i = some d) (k : P (.dat d)) : OpD K W (rIx K) (.dat (.tuple ds)) (.dat (.int i)) P := fun x y H iv rx ry Q q => by
  cases ry
  cases rx with
  | @tup a vs _ ha hv =>
    obtain ⟨v, h1, h2⟩ := hv.atI h
    exact .inr (.inl ⟨a, vs, i, v, rfl, rfl, ex_t Wd.view_le ha, h1, q _ H _ iv (Ex.refl _) k h2⟩)
theorem opd_ixL {ds : List PyData} {i : Int} {d : PyData} (h : atI ds i = some d) (k : P (.dat d)) : OpD K W (rIx K) (.dat (.list ds)) (.dat (.int i)) P := fun x y H iv rx ry Q q => by
  cases ry
  cases rx with
  | @lst a vs _ ha hv =>
    obtain ⟨v, h1, h2⟩ := hv.atI h
    exact .inl ⟨a, vs, i, v, rfl, rfl, SqL.of (Wd.view_le _ _ ha), h1, q _ H _ iv (Ex.refl _) k h2⟩
theorem und_neg {i : Int} (k : P (.dat (.int (-i)))) : UnD K W (rU fun i => .int (-i)) (.dat (.int i)) P := fun x H iv rx Q q => by
  cases rx
  exact ⟨i, rfl, q _ H _ iv (Ex.refl _) k (.int _)⟩

/-! ### slices -/
def cutG {α : Type} (xs : List α) (lo hi : Option Int) : List α := (xs.drop (HT.sIx xs.length 0 lo)).take (HT.sIx xs.length xs.length hi - HT.sIx xs.length 0 lo)
theorem Dqs.cut {vs : List V} {ds : List PyData} (h : Dqs K H vs ds) (lo hi : Option Int) : Dqs K H (cutV vs lo hi) (cutG ds lo hi) := by
  unfold cutV cutG
  rw [h.length]
  exact (h.drop _).take _
def DO (K : PySem.W.Frag) (W : Wd) (Δ : DEnv) (to : TO) (P : Option Int → Prop) : Prop :=
  ∀ (σ : L2.St) (H : Hp), EnvOk K (W.view H) σ Δ → W.inv H → ∀ Q : Option Int → Hp → Prop, (∀ o H', W.inv H' → Ex (W.view H) (W.view H') → P o → Q o H') → to σ H Q
theorem do_none {PO : Option Int → Prop} (k : PO none) : DO K W Δ tNoPart PO := fun σ H v i Q q => q none H i (Ex.refl _) k
theorem do_some {PO : Option Int → Prop} (h : DE K W Δ te fun e => ∃ n, e = .dat (.int n) ∧ PO (some n)) : DO K W Δ (tPart te) PO := fun σ H v i Q q =>
  h σ H v i _ fun x H1 e i1 x1 p1 r1 => by
    obtain ⟨n, rfl, k⟩ := p1
    cases r1
    exact ⟨n, rfl, q _ H1 i1 x1 k⟩
/-- what a slice of a content is -/
def SlD (K : PySem.W.Frag) (W : Wd) (r : V → Option Int → Option Int → Hp → VK → Prop) (a : DV) (lo hi : Option Int) (P : DV → Prop) : Prop :=
  ∀ (x : V) (H : Hp), W.inv H → RepV K (W.view H) x a → ∀ Q : VK, (∀ v H' e, W.inv H' → Ex (W.view H) (W.view H') → P e → RepV K (W.view H') v e → Q v H') → r x lo hi H Q
theorem de_sl {rs : V → Option Int → Option Int → Hp → VK → Prop} {tl th : TO} (h : DE K W Δ te fun a => DO K W Δ tl fun lo => DO K W Δ th fun hi => SlD K W rs a lo hi P) : DE K W Δ (tSl rs te tl th) P := fun σ H v i Q q =>
  h σ H v i _ fun x H1 a i1 x1 p1 r1 => p1 σ H1 (v.mono x1) i1 _ fun lo H2 i2 x2 p2 => p2 σ H2 (v.mono (x1.trans x2)) i2 _ fun hi H3 i3 x3 p3 => p3 x H3 i3 (r1.mono (x2.trans x3)) Q fun z H4 e i4 x4 p r => q z H4 e i4 (((x1.trans x2).trans x3).trans x4) p r
theorem cut_whole {α : Type} {xs : List α} {lo hi : Option Int} (h : HT.sIx xs.length 0 lo = 0 ∧ HT.sIx xs.length xs.length hi = xs.length) : cutG xs lo hi = xs := by
  unfold cutG
  rw [h.1, h.2]
  simp
theorem sld_T {ds : List PyData} {lo hi : Option Int} (k : P (.dat (.tuple (cutG ds lo hi)))) : SlD K W (rSlX K) (.dat (.tuple ds)) lo hi P := fun x H iv rx Q q => by
  cases rx with
  | @tup a vs _ ha hv =>
    refine .inr ⟨a, vs, rfl, ex_t Wd.view_le ha, fun hw => ?_, fun _ p hp => q _ _ _ (Wd.inv_new iv hp) (Wd.view_ex (Ex.new hp)) k (Dq.newT iv hp (hv.cut lo hi))⟩
    rw [hv.length] at hw
    rw [cut_whole hw] at k
    exact q _ H _ iv (Ex.refl _) k (.tup ha hv)

/-! ### calls of built-ins -/
theorem reps1 {xs : List V} {a : DV} (h : Reps K H xs [a]) : ∃ x, xs = [x] ∧ RepV K H x a := by
  cases h with
  | cons h1 h2 =>
    cases h2
    exact ⟨_, rfl, h1⟩
theorem reps2 {xs : List V} {a b : DV} (h : Reps K H xs [a, b]) : ∃ x y, xs = [x, y] ∧ RepV K H x a ∧ RepV K H y b := by
  cases h with
  | cons h1 h2 =>
    cases h2 with
    | cons h2 h3 =>
      cases h3
      exact ⟨_, _, rfl, h1, h2⟩
theorem cal_lenT {ds : List PyData} (k : P (.dat (.int (ds.length : Int)))) : CalD K W (rLenX K) [.dat (.tuple ds)] P := fun xs H iv r Q q => by
  obtain ⟨x, rfl, rx⟩ := reps1 r
  cases rx with
  | @tup a vs _ ha hv =>
    rw [← hv.length] at k
    exact .inl ⟨a, vs, rfl, .inr (ex_t Wd.view_le ha), q _ H _ iv (Ex.refl _) k (.int _)⟩
theorem cal_lenL {ds : List PyData} (k : P (.dat (.int (ds.length : Int)))) : CalD K W (rLenX K) [.dat (.list ds)] P := fun xs H iv r Q q => by
  obtain ⟨x, rfl, rx⟩ := reps1 r
  cases rx with
  | @lst a vs _ ha hv =>
    rw [← hv.length] at k
    exact .inl ⟨a, vs, rfl, .inl (SqL.of (Wd.view_le _ _ ha)), q _ H _ iv (Ex.refl _) k (.int _)⟩
theorem cal_tupL {ds : List PyData} (k : P (.dat (.tuple ds))) : CalD K W (rTupX K) [.dat (.list ds)] P := fun xs H iv r Q q => by
  obtain ⟨x, rfl, rx⟩ := reps1 r
  cases rx with
  | @lst a vs _ ha hv => exact ⟨a, vs, rfl, .inl ⟨SqL.of (Wd.view_le _ _ ha), fun p hp => q _ _ _ (Wd.inv_new iv hp) (Wd.view_ex (Ex.new hp)) k (Dq.newT iv hp hv)⟩⟩
theorem cal_lstT {ds : List PyData} (k : P (.dat (.list ds))) : CalD K W (rLstX K) [.dat (.tuple ds)] P := fun xs H iv r Q q => by
  obtain ⟨x, rfl, rx⟩ := reps1 r
  cases rx with
  | @tup a vs _ ha hv => exact ⟨a, vs, rfl, .inr (ex_t Wd.view_le ha), fun p hp => q _ _ _ (Wd.inv_new iv hp) (Wd.view_ex (Ex.new hp)) k (Dq.newL iv hp hv)⟩
theorem cal_int {i : Int} (k : P (.dat (.int i))) : CalD K W rIntX [.dat (.int i)] P := fun xs H iv r Q q => by
  obtain ⟨x, rfl, rx⟩ := reps1 r
  cases rx
  exact .inl ⟨i, rfl, q _ H _ iv (Ex.refl _) k (.int _)⟩
theorem Dqs.bls : ∀ {bs : List Bool} {vs : List V}, Dqs K H vs (bs.map PyData.bool) → vs = bs.map V.bl
  | [], _, h => by
    cases h
    rfl
  | b :: bs, _, h => by
    cases h with
    | cons h1 h2 =>
      cases h1
      rw [Dqs.bls (bs := bs) h2]
      rfl
theorem cal_all {bs : List Bool} (k : P (.dat (.bool (bs.all id)))) : CalD K W (rAll K) [.dat (.list (bs.map PyData.bool))] P := fun xs H iv r Q q => by
  obtain ⟨x, rfl, rx⟩ := reps1 r
  cases rx with
  | @lst a vs _ ha hv => 
    obtain rfl := hv.bls
    exact ⟨a, bs, rfl, SqL.of (Wd.view_le _ _ ha), q _ H _ iv (Ex.refl _) k (.bl _)⟩
def rMax2 : List V → Hp → VK → Prop := fun xs H Q => ∃ i j, xs = [.int i, .int j] ∧ Q (.int (if j > i then j else i)) H
def rMin2 : List V → Hp → VK → Prop := fun xs H Q => ∃ i j, xs = [.int i, .int j] ∧ Q (.int (if j < i then j else i)) H
theorem cal_max2 {i j : Int} (k : P (.dat (.int (max i j)))) : CalD K W rMax2 [.dat (.int i), .dat (.int j)] P := fun xs H iv r Q q => by
  obtain ⟨x, y, rfl, rx, ry⟩ := reps2 r
  cases rx
  cases ry
  refine ⟨i, j, rfl, q _ H _ iv (Ex.refl _) k ?_⟩
  have e : (if j > i then j else i) = max i j := by
    split <;> omega
  rw [e]
  exact .int _
theorem cal_min2 {i j : Int} (k : P (.dat (.int (min i j)))) : CalD K W rMin2 [.dat (.int i), .dat (.int j)] P := fun xs H iv r Q q => by
  obtain ⟨x, y, rfl, rx, ry⟩ := reps2 r
  cases rx
  cases ry
  refine ⟨i, j, rfl, q _ H _ iv (Ex.refl _) k ?_⟩
  have e : (if j < i then j else i) = min i j := by
    split <;> omega
  rw [e]
  exact .int _
/-- the class of data -/
def tyD : PyData → String
  | .none => "NoneType"
  | .bool _ => "bool"
  | .int _ => "int"
  | .str _ => "str"
  | .list _ => "list"
  | .tuple _ => "tuple"
  | .dict _ => "dict"
theorem sqt_ty {a : Addr} {xs : List V} (h : SqT K H a xs) : TyX K H (.ref a) (.type "tuple") := by
  rcases h with (h | ⟨o, h⟩) | ⟨o, its, n, hk, hc, _⟩
  · exact .base (.tup h)
  · exact .fTuple h
  · exact .kTuple hk hc
theorem Dq.ty {v : V} {d : PyData} (h : Dq K H v d) : TyX K H v (.type (tyD d)) := by
  cases h with
  | non => exact .base .non
  | bl b => exact .base (.bl b)
  | int i => exact .base (.int i)
  | str x => exact .base (.str x)
  | lst h _ => exact .base (.lst h)
  | tup h _ => exact sqt_ty h
theorem cal_isi {d : PyData} {T : String} {b : Bool} (h : kitB (tyD d) T = some b) (k : P (.dat (.bool b))) : CalD K W (rIsi K) [.dat d, .raw (.ty T)] P := fun xs H iv r Q q => by
  obtain ⟨x, y, rfl, rx, ry⟩ := reps2 r
  have e : y = .ty T := ry
  subst e
  exact ⟨x, .ty T, _, _, b, rfl, .ty T, Dq.ty (Dq.le rx), kit_ty h, q _ H _ iv (Ex.refl _) k (.bl b)⟩
theorem cal_repr {d : PyData} (h1 : d.showable = true) (h2 : d.hasDict = false) (h3 : d.depth ≤ 60) (h4 : d.shown.length ≤ sizeLine) (k : P (.dat (.str d.shown))) : CalD K W (rRepr K) [.dat d] P := fun xs H iv r Q q => by
  obtain ⟨x, rfl, rx⟩ := reps1 r
  exact ⟨x, d, rfl, Dq.le rx, h1, h2, h3, h4, q _ H _ iv (Ex.refl _) k (.str _)⟩
theorem cal_sorted {ds : List PyData} (h1 : PySem.W.AllAlike ds) (h2 : PySem.W.Sortable ds) (h3 : ∀ d ∈ ds, d.depth ≤ 60) (k : P (.dat (.list (ds.mergeSort (PySem.W.dataLe false id))))) : CalD K W (rSortedQ K) [.dat (.list ds)] P := fun xs H iv r Q q => by
  obtain ⟨x, rfl, rx⟩ := reps1 r
  cases rx with
  | @lst a vs _ ha hv =>
    refine ⟨a, vs, ds, W.view H, rfl, Wd.view_le _ _ ha, Wd.view_le, hv, h1, h2, h3, fun ys p hy hp => ?_⟩
    exact q _ _ _ (Wd.inv_new iv hp) (Wd.view_ex (Ex.new hp)) k (Dq.newL iv hp hy)
/-- sorted(set(ns)) -/
theorem cal_setI {w : World} {ns : List Int} (hl : ns.length ≤ 1000) (k : ∀ c, c ≤ ns.length → P (.obj fun q => SetO w q (fun j => decide (j ∈ ns)) c)) : CalD K W (rSetI w K) [.dat (.tuple (ns.map PyData.int))] P := fun xs H iv r Q q => by
  obtain ⟨x, rfl, rx⟩ := reps1 r
  cases rx with
  | @tup a vs _ ha hv =>
    obtain rfl := hv.ints_inv
    exact ⟨a, ns, rfl, ex_t Wd.view_le ha, hl, fun p c hc hp => q _ _ _ (Wd.inv_new iv hp) (Wd.view_ex (Ex.new hp)) (k c hc) ⟨p, rfl, Wd.view_new iv hp⟩⟩
theorem cal_sortedSet {w : World} {S : Int → Bool} {n : Nat} (hn : n < 64) (k : ∀ ns : List Int, ns.Pairwise (· < ·) → (∀ k : Int, k ∈ ns ↔ S k = true) → ns.length = n → P (.dat (.list (ns.map PyData.int)))) : CalD K W (rSortedSet w) [.obj fun q => SetO w q S n] P := fun xs H iv r Q q => by
  obtain ⟨x, rfl, p, rfl, hp⟩ := reps1 r
  exact ⟨p, S, n, rfl, Wd.view_le _ _ hp, hn, fun ns l h1 h2 h3 hl => q _ _ _ (Wd.inv_new iv hl) (Wd.view_ex (Ex.new hl)) (k ns h1 h2 h3) (Dq.newL iv hl (Dqs.ints ns))⟩

/-! ### what is walked -/
/-- the iterator J gives es, whatever else happens -/
def Yl (K : PySem.W.Frag) (V1 : Hp) (J : It) (es : List DV) : Prop := ∀ (W' : Wd) (H2 : Hp), Ex V1 (W'.view H2) → W'.inv H2 →
  (∀ i e, es[i]? = some e → J.go i H2 ∧ ∀ x H3, J.yld i H2 x H3 → W'.inv H3 ∧ Ex (W'.view H2) (W'.view H3) ∧ RepV K (W'.view H3) x e) ∧ J.stop es.length H2
def DI (K : PySem.W.Frag) (W : Wd) (Δ : DEnv) (wi : TI) (P : List DV → Prop) : Prop :=
  ∀ (σ : L2.St) (H : Hp), EnvOk K (W.view H) σ Δ → W.inv H → ∀ R : It → Hp → Prop, (∀ J H' es, W.inv H' → Ex (W.view H) (W.view H') → P es → Yl K (W.view H') J es → R J H') → wi σ H R
theorem yl_list {a : Addr} {vs : List V} {ds : List PyData} {V1 : Hp} (ha : V1 a = some (.lst vs)) (hv : Dqs K V1 vs ds) : Yl K V1 (Itl K a) (ds.map DV.dat) := fun W' H2 x iv => by
  have h2 : SqL K H2 a vs := SqL.of (Wd.view_le _ _ (x a _ ha))
  have hv2 := hv.mono x
  refine ⟨fun i e he => ?_, vs, h2, by rw [List.length_map, hv.length]; exact Nat.le_refl _⟩
  rw [List.getElem?_map] at he
  cases q : ds[i]? with
  | none =>
    rw [q] at he
    cases he
  | some d =>
    rw [q] at he
    cases he
    obtain ⟨v, q1, q2⟩ := hv2.getd q
    refine ⟨⟨vs, v, h2, q1⟩, fun y H3 hy => ?_⟩
    obtain ⟨rfl, hy⟩ := hy
    have e := hy vs h2
    rw [q1] at e
    cases e
    exact ⟨iv, Ex.refl _, q2⟩
theorem yl_tup {a : Addr} {vs : List V} {ds : List PyData} {V1 : Hp} (ha : SqT K V1 a vs) (hv : Dqs K V1 vs ds) : Yl K V1 (Itt K a) (ds.map DV.dat) := fun W' H2 x iv => by
  have h2 : SqT K H2 a vs := ex_t Wd.view_le (ex_t x ha)
  have hv2 := hv.mono x
  refine ⟨fun i e he => ?_, vs, h2, by rw [List.length_map, hv.length]; exact Nat.le_refl _⟩
  rw [List.getElem?_map] at he
  cases q : ds[i]? with
  | none =>
    rw [q] at he
    cases he
  | some d =>
    rw [q] at he
    cases he
    obtain ⟨v, q1, q2⟩ := hv2.getd q
    refine ⟨⟨vs, v, h2, q1⟩, fun y H3 hy => ?_⟩
    obtain ⟨rfl, hy⟩ := hy
    have e := hy vs h2
    rw [q1] at e
    cases e
    exact ⟨iv, Ex.refl _, q2⟩
/-- lo, lo + 1, .. -/
def rgN (lo : Int) (n : Nat) : List Int := (List.range n).map fun (i : Nat) => lo + (i : Int)
theorem rgN_length {lo : Int} {n : Nat} : (rgN lo n).length = n := by simp [rgN]
theorem rgN_get {lo : Int} {n i : Nat} (h : i < n) : (rgN lo n)[i]? = some (lo + (i : Int)) := by simp [rgN, h]
theorem yl_range {lo : Int} {n : Nat} {V1 : Hp} : Yl K V1 (Itr lo n) ((rgN lo n).map fun i => DV.dat (.int i)) := fun W' H2 x iv => by
  refine ⟨fun i e he => ?_, ?_⟩
  · rw [List.getElem?_map] at he
    by_cases hi : i < n
    · rw [rgN_get hi] at he
      cases he
      refine ⟨hi, fun y H3 hy => ?_⟩
      obtain ⟨rfl, rfl⟩ := hy
      exact ⟨iv, Ex.refl _, .int _⟩
    · rw [List.getElem?_eq_none (by rw [rgN_length]; omega)] at he
      cases he
  · show n ≤ _
    rw [List.length_map, rgN_length]
    exact Nat.le_refl _
theorem di_rng1 {ta : TA} {PL : List DV → Prop} (h : DA K W Δ ta fun es => ∃ n : Int, es = [.dat (.int n)] ∧ n.natAbs ≤ 100000 ∧ PL ((rgN 0 n.toNat).map fun i => DV.dat (.int i))) : DI K W Δ (iRng1 ta) PL := fun σ H v i R q =>
  h σ H v i _ fun xs H1 es i1 x1 p1 r1 => by
    obtain ⟨n, rfl, hn, k⟩ := p1
    obtain ⟨x, rfl, rx⟩ := reps1 r1
    cases rx
    exact ⟨n, rfl, by omega, by omega, q _ H1 _ i1 x1 k yl_range⟩
theorem di_rng2 {ta : TA} {PL : List DV → Prop} (h : DA K W Δ ta fun es => ∃ lo n : Int, es = [.dat (.int lo), .dat (.int n)] ∧ lo.natAbs ≤ 100000 ∧ n.natAbs ≤ 100000 ∧ PL ((rgN lo (n - lo).toNat).map fun i => DV.dat (.int i))) : DI K W Δ (iRng2 ta) PL := fun σ H v i R q =>
  h σ H v i _ fun xs H1 es i1 x1 p1 r1 => by
    obtain ⟨lo, n, rfl, h1, h2, k⟩ := p1
    obtain ⟨x, y, rfl, rx, ry⟩ := reps2 r1
    cases rx
    cases ry
    exact ⟨lo, n, rfl, ⟨by omega, by omega, by omega, by omega⟩, q _ H1 _ i1 x1 k yl_range⟩

/-! ### targets -/
/-- what a target does to the slots: e stored, Δ becomes Δ', only the slots js change -/
def Tg (K : PySem.W.Frag) (g : TG) (e : DV) (Δ Δ' : DEnv) (js : List Nat) : Prop :=
  ∀ (W : Wd) (σ : L2.St) (H : Hp) (v : V) (Q : L2.St → Hp → Prop), EnvOk K (W.view H) σ Δ → RepV K (W.view H) v e → (∀ σ', EnvOk K (W.view H) σ' Δ' → (∀ vs, (∀ j ∈ js, j ∈ vs) → wipe σ' vs = wipe σ vs) → Q σ' H) → g v σ H Q
def Tgs (K : PySem.W.Frag) (g : TGs) (es : List DV) (Δ Δ' : DEnv) (js : List Nat) : Prop :=
  ∀ (W : Wd) (σ : L2.St) (H : Hp) (vs : List V) (Q : L2.St → Hp → Prop), EnvOk K (W.view H) σ Δ → Reps K (W.view H) vs es → (∀ σ', EnvOk K (W.view H) σ' Δ' → (∀ ws, (∀ j ∈ js, j ∈ ws) → wipe σ' ws = wipe σ ws) → Q σ' H) → g vs σ H Q
theorem set_comm_opt {α : Type} (l : List α) {i j : Nat} (h : i ≠ j) (x y : α) : (l.set i x).set j y = (l.set j y).set i x := List.set_comm _ _ h
theorem wipe_set : ∀ {vs : List Nat} {σ : L2.St} {j : Nat} {x : Option V}, j ∈ vs → wipe (σ.set j x) vs = wipe σ vs
  | v :: vs, σ, j, x, h => by
    show (wipe (σ.set j x) vs).set v none = (wipe σ vs).set v none
    by_cases hm : j ∈ vs
    · rw [wipe_set hm]
    · have e : j = v := by
        rcases List.mem_cons.mp h with e | e
        · exact e
        · exact absurd e hm
      subst e
      rw [wipe_keep hm, List.set_set]
where
  wipe_keep : ∀ {vs : List Nat} {σ : L2.St} {j : Nat} {x : Option V}, j ∉ vs → wipe (σ.set j x) vs = (wipe σ vs).set j x
    | [], _, _, _, _ => rfl
    | v :: vs, σ, j, x, h => by
      have h1 : j ≠ v := fun e => h (by simp [e])
      have h2 : j ∉ vs := fun e => h (by simp [e])
      show (wipe (σ.set j x) vs).set v none = ((wipe σ vs).set v none).set j x
      rw [wipe_keep h2, set_comm_opt _ h1]
theorem wipe_none : ∀ {vs : List Nat} {σ : L2.St}, wipe (wipe σ vs) vs = wipe σ vs
  | vs, σ => wipe_sub (vs := vs) fun _ h => h
where
  wipe_sub : ∀ {us vs : List Nat} {σ : L2.St}, (∀ j ∈ us, j ∈ vs) → wipe (wipe σ us) vs = wipe σ vs
    | [], _, _, _ => rfl
    | u :: us, vs, σ, h => by
      show wipe ((wipe σ us).set u none) vs = wipe σ vs
      rw [wipe_set (h u (by simp)), wipe_sub fun j hj => h j (by simp [hj])]
theorem tg_name {i : Nat} {e : DV} : Tg K (gName i) e Δ (Δ.set i (some e)) [i] := fun W σ H v Q en r q => q _ (en.set r) fun vs h => wipe_set (h i (by simp))
theorem tgs_nil : Tgs K gNil [] Δ Δ [] := fun W σ H vs Q en r q => by
  cases r
  exact ⟨rfl, q σ en fun _ _ => rfl⟩
theorem tgs_cons {g : TG} {gs : TGs} {e : DV} {es : List DV} {Δ2 : DEnv} {js ks : List Nat} (h : Tg K g e Δ Δ1 js) (hs : Tgs K gs es Δ1 Δ2 ks) : Tgs K (gCons g gs) (e :: es) Δ Δ2 (js ++ ks) := fun W σ H vs Q en r q => by
  cases r with
  | cons r1 r2 =>
    exact ⟨_, _, rfl, h W σ H _ _ en r1 fun σ1 en1 w1 => hs W σ1 H _ _ en1 r2 fun σ2 en2 w2 => q σ2 en2 fun ws hw => by
      rw [w2 ws fun j hj => hw j (List.mem_append_right _ hj), w1 ws fun j hj => hw j (List.mem_append_left _ hj)]⟩
theorem tg_tup {n : Nat} {gs : TGs} {ds : List PyData} {js : List Nat} (hn : ds.length = n) (h : Tgs K gs (ds.map DV.dat) Δ Δ1 js) : Tg K (gTup K n gs) (.dat (.tuple ds)) Δ Δ1 js := fun W σ H v Q en r q => by
  cases r with
  | @tup a vs _ ha hv =>
    exact ⟨a, vs, rfl, ex_t Wd.view_le ha, by rw [hv.length]; exact hn, h W σ H vs Q en (Dqs.reps hv) q⟩

/-! ### loops -/
theorem ds_for {wi : TI} {g : TG} {tb : TS}
    (hi : DI K W Δ wi fun es => ∃ I : Nat → Wd → DEnv → Prop, I 0 W Δ ∧ (∀ i e W' Δ', es[i]? = some e → I i W' Δ' → ∃ Δ1 js, Tg K g e Δ' Δ1 js ∧ DS K W' Δ1 tb (I (i + 1)) rt nx (I (i + 1))) ∧ ∀ W' Δ', I es.length W' Δ' → nx W' Δ') :
    DS K W Δ (tFor wi g tb) nx rt bk ct := fun σ H D v i c => hi σ H v i _ fun J H1 es i1 x1 p1 y1 => by
  obtain ⟨I, h0, hs, hd⟩ := p1
  refine ⟨fun k m σ' H' => m = es.length - k ∧ k ≤ es.length ∧ ∃ W' Δ', I k W' Δ' ∧ W'.inv H' ∧ Ex (W.view H1) (W'.view H') ∧ EnvOk K (W'.view H') σ' Δ', ⟨_, rfl, Nat.zero_le _, W, Δ, h0, i1, Ex.refl _, v.mono x1⟩, ?_⟩
  rintro k m σ' H' ⟨rfl, hk, W', Δ', hI, i', x', v'⟩
  obtain ⟨yg, ys⟩ := y1 W' H' x' i'
  by_cases hlt : k < es.length
  · obtain ⟨g1, g2⟩ := yg k es[k] (List.getElem?_eq_getElem hlt)
    refine .inr ⟨g1, fun σ2 H2 => k + 1 ≤ es.length ∧ ∃ W' Δ', I (k + 1) W' Δ' ∧ W'.inv H2 ∧ Ex (W.view H1) (W'.view H2) ∧ EnvOk K (W'.view H2) σ2 Δ', fun σ2 H2 ⟨q1, q2⟩ => ⟨es.length - (k + 1), by omega, rfl, q1, q2⟩, fun x H2 hy => ?_⟩
    obtain ⟨i2, x2, r2⟩ := g2 x H2 hy
    obtain ⟨Δ1, js, ht, hb⟩ := hs k es[k] W' Δ' (List.getElem?_eq_getElem hlt) hI
    refine ht W' σ' H2 x _ (v'.mono x2) r2 fun σ3 v3 _ => ?_
    refine hb σ3 H2 _ v3 i2 ⟨fun W4 Δ4 σ4 H4 n4 i4 x4 v4 => ⟨by omega, W4, Δ4, n4, i4, (x'.trans x2).trans x4, v4⟩, fun W4 e4 v4 H4 n4 i4 x4 r4 => c.rt W4 e4 v4 H4 n4 i4 (((x1.trans x').trans x2).trans x4) r4, fun W4 Δ4 σ4 H4 n4 i4 x4 v4 => c.nx W4 Δ4 σ4 H4 n4 i4 (((x1.trans x').trans x2).trans x4) v4, fun W4 Δ4 σ4 H4 n4 i4 x4 v4 => ⟨by omega, W4, Δ4, n4, i4, (x'.trans x2).trans x4, v4⟩⟩
  · have e : k = es.length := by omega
    subst e
    exact .inl ⟨ys, c.nx W' Δ' σ' H' (hd W' Δ' hI) i' (x1.trans x') v'⟩

/-! ### comprehensions -/
/-- a list of data, apart -/
def knL (K : PySem.W.Frag) (ds : List PyData) : Kn where
  of U o := ∃ xs, o = .lst xs ∧ Dqs K U xs ds
  mono e h := by
    obtain ⟨xs, h1, h2⟩ := h
    exact ⟨xs, h1, h2.mono e⟩
theorem de_lc {wi : TI} {g : TG} {ws : List Nat}
    (hi : DI K W Δ wi fun es => es.length ≤ 50000 ∧ ∃ A : Nat → List PyData → Prop, A 0 [] ∧ (∀ i e acc W', es[i]? = some e → A i acc → (∃ p φ, W' = W.hide p φ ∧ W.hid p = false) → ∃ Δ1 js, Tg K g e (wipeD Δ ws) Δ1 js ∧ (∀ j ∈ js, j ∈ ws) ∧
      DT K W' Δ1 tt fun b => (b = true → DE K W' Δ1 te fun z => ∃ d, z = .dat d ∧ A (i + 1) (acc ++ [d])) ∧ (b = false → A (i + 1) acc)) ∧ ∀ acc, A es.length acc → P (.dat (.list acc))) :
    DE K W Δ (tLc wi g tt te ws) P := fun σ H v i Q q => hi σ H v i _ fun J H1 es i1 x1 p1 y1 => by
  obtain ⟨hz, A, h0, hs, hd⟩ := p1
  intro Dl hD
  have hp := Wd.hid_none i1 hD
  obtain ⟨n1, n2⟩ := Wd.hide_new (φ := knL K []) (o := .lst []) i1 hD ⟨[], rfl, .nil⟩
  refine ⟨fun k m H' => m = es.length - k ∧ k ≤ es.length ∧ ∃ acc, A k acc ∧ acc.length ≤ k ∧ (W.hide Dl (knL K acc)).inv H' ∧ Ex (W.view H1) ((W.hide Dl (knL K acc)).view H'), ⟨_, rfl, Nat.zero_le _, [], h0, Nat.le_refl _, n1, by rw [n2]; exact Ex.refl _⟩, ?_⟩
  rintro k m H' ⟨rfl, hk, acc, hA, hl, i', x'⟩
  obtain ⟨yg, ys⟩ := y1 _ H' x' i'
  by_cases hlt : k < es.length
  · obtain ⟨g1, g2⟩ := yg k es[k] (List.getElem?_eq_getElem hlt)
    refine .inr ⟨g1, fun H2 => k + 1 ≤ es.length ∧ ∃ acc, A (k + 1) acc ∧ acc.length ≤ k + 1 ∧ (W.hide Dl (knL K acc)).inv H2 ∧ Ex (W.view H1) ((W.hide Dl (knL K acc)).view H2), fun H2 ⟨q1, q2⟩ => ⟨es.length - (k + 1), by omega, rfl, q1, q2⟩, fun x H2 hy => ?_⟩
    obtain ⟨i2, x2, r2⟩ := g2 x H2 hy
    obtain ⟨Δ1, js, ht, hjs, hb⟩ := hs k es[k] acc _ (List.getElem?_eq_getElem hlt) hA ⟨Dl, _, rfl, hp⟩
    have v2 : EnvOk K ((W.hide Dl (knL K acc)).view H2) (wipe σ ws) (wipeD Δ ws) := (v.mono ((x1.trans x').trans x2)).wipe
    refine ht (W.hide Dl (knL K acc)) (wipe σ ws) H2 x _ v2 r2 fun σ3 v3 w3 => ⟨by rw [w3 ws hjs, wipe_none], ?_⟩
    refine hb σ3 H2 v3 i2 _ fun b H3 i3 x3 p3 => ?_
    cases b with
    | true =>
      show te σ3 H3 _
      refine p3.1 rfl σ3 H3 (v3.mono x3) i3 _ fun y H4 e4 i4 x4 p4 r4 => ?_
      obtain ⟨d, rfl, hA4⟩ := p4
      obtain ⟨o, ho, xs, rfl, hx⟩ := Wd.hide_at i4
      have hlen := hx.length
      refine ⟨xs, ho, sz_lt (by omega), by omega, acc ++ [d], hA4, by rw [List.length_append]; show acc.length + 1 ≤ k + 1; omega, ?_⟩
      obtain ⟨z1, z2⟩ := Wd.hide_put (ψ := knL K (acc ++ [d])) (u := .lst (xs ++ [y])) i4 ⟨_, rfl, hx.append (.cons r4 .nil)⟩
      refine ⟨z1, ?_⟩
      rw [z2]
      exact ((x'.trans x2).trans x3).trans x4
    | false =>
      show _ ∧ _
      exact ⟨by omega, acc, p3.2 rfl, by omega, i3, (x'.trans x2).trans x3⟩
  · have e : k = es.length := by omega
    subst e
    refine .inl ⟨ys, ?_⟩
    obtain ⟨u1, u2, o, ho, xs, rfl, hx⟩ := Wd.unhide hp i'
    exact q _ H' _ u1 ((x1.trans x').trans u2) (hd acc hA) (.lst ho hx)
end
end Ka

namespace Ka
open PySem PySem.Spec PyProof.Rows L2 Evl
section
variable {K : PySem.W.Frag} {W W1 : Wd} {Δ Δ1 : DEnv} {te ta tb tc tx : TE} {tt tu : TT} {t u : TS} {r r' : R2} {P P' : DV → Prop} {PB : Bool → Prop} {PL : List DV → Prop}
  {nx nx' : Wd → DEnv → Prop} {rt : Wd → DV → Prop} {bk ct : Wd → DEnv → Prop} {H H1 : Hp} {D : Ends}
/-- W' is W, one more thing apart -/
def Hid (W W' : Wd) : Prop := ∃ p φ, W' = W.hide p φ ∧ W.hid p = false
theorem DI.mono {wi : TI} {PL' : List DV → Prop} (h : DI K W Δ wi PL) (k : ∀ es, PL es → PL' es) : DI K W Δ wi PL' := fun σ H v i R q => h σ H v i R fun J H' es i' x p y => q J H' es i' x (k es p) y
theorem de_lc2 {wi wi1 : TI} {g g1 : TG} {tt1 : TT} {ws ws1 : List Nat}
    (hi : DI K W Δ wi fun es => ∃ A : Nat → List PyData → Prop, A 0 [] ∧ (∀ i e acc W', es[i]? = some e → A i acc → Hid W W' → ∃ Δ1 js, Tg K g e (wipeD Δ ws) Δ1 js ∧ (∀ j ∈ js, j ∈ ws) ∧
      DT K W' Δ1 tt fun b => (b = true → DI K W' Δ1 wi1 fun es1 => ∃ B : Nat → List PyData → Prop, B 0 acc ∧ (∀ j e1 acc1 W'', es1[j]? = some e1 → B j acc1 → Hid W W'' → acc1.length < 100000 ∧ ∃ Δ2 ks, Tg K g1 e1 (wipeD Δ1 ws1) Δ2 ks ∧ (∀ k ∈ ks, k ∈ ws1) ∧
          DT K W'' Δ2 tt1 fun b => (b = true → DE K W'' Δ2 te fun z => ∃ d, z = .dat d ∧ B (j + 1) (acc1 ++ [d])) ∧ (b = false → B (j + 1) acc1)) ∧ ∀ acc1, B es1.length acc1 → A (i + 1) acc1) ∧ (b = false → A (i + 1) acc)) ∧ ∀ acc, A es.length acc → P (.dat (.list acc))) :
    DE K W Δ (tLc2 wi g tt wi1 g1 tt1 te ws ws1) P := fun σ H v i Q q => hi σ H v i _ fun J H1 es i1 x1 p1 y1 => by
  obtain ⟨A, h0, hs, hd⟩ := p1
  intro Dl hD
  have hp := Wd.hid_none i1 hD
  obtain ⟨n1, n2⟩ := Wd.hide_new (φ := knL K []) (o := .lst []) i1 hD ⟨[], rfl, .nil⟩
  refine ⟨fun k m H' => m = es.length - k ∧ k ≤ es.length ∧ ∃ acc, A k acc ∧ (W.hide Dl (knL K acc)).inv H' ∧ Ex (W.view H1) ((W.hide Dl (knL K acc)).view H'), ⟨_, rfl, Nat.zero_le _, [], h0, n1, by rw [n2]; exact Ex.refl _⟩, ?_⟩
  rintro k m H' ⟨rfl, hk, acc, hA, i', x'⟩
  obtain ⟨yg, ys⟩ := y1 _ H' x' i'
  by_cases hlt : k < es.length
  · obtain ⟨g1', g2'⟩ := yg k es[k] (List.getElem?_eq_getElem hlt)
    refine .inr ⟨g1', fun H2 => k + 1 ≤ es.length ∧ ∃ acc, A (k + 1) acc ∧ (W.hide Dl (knL K acc)).inv H2 ∧ Ex (W.view H1) ((W.hide Dl (knL K acc)).view H2), fun H2 ⟨q1, q2⟩ => ⟨es.length - (k + 1), by omega, rfl, q1, q2⟩, fun x H2 hy => ?_⟩
    obtain ⟨i2, x2, r2⟩ := g2' x H2 hy
    obtain ⟨Δ1, js, ht, hjs, hb⟩ := hs k es[k] acc _ (List.getElem?_eq_getElem hlt) hA ⟨Dl, _, rfl, hp⟩
    have v2 : EnvOk K ((W.hide Dl (knL K acc)).view H2) (wipe σ ws) (wipeD Δ ws) := (v.mono ((x1.trans x').trans x2)).wipe
    refine ht (W.hide Dl (knL K acc)) (wipe σ ws) H2 x _ v2 r2 fun σ3 v3 w3 => ⟨by rw [w3 ws hjs, wipe_none], ?_⟩
    refine hb σ3 H2 v3 i2 _ fun b H3 i3 x3 p3 => ?_
    cases b with
    | false =>
      show _ ∧ _
      exact ⟨by omega, acc, p3.2 rfl, i3, (x'.trans x2).trans x3⟩
    | true =>
      show wi1 σ3 H3 _
      refine p3.1 rfl σ3 H3 (v3.mono x3) i3 _ fun J1 H4 es1 i4 x4 p4 y4 => ?_
      obtain ⟨B, b0, bs, bd⟩ := p4
      have v4 : EnvOk K ((W.hide Dl (knL K acc)).view H4) σ3 Δ1 := v3.mono (x3.trans x4)
      have x14 : Ex (W.view H1) ((W.hide Dl (knL K acc)).view H4) := ((x'.trans x2).trans x3).trans x4
      refine ⟨fun l n H5 => n = es1.length - l ∧ l ≤ es1.length ∧ ∃ acc1, B l acc1 ∧ (W.hide Dl (knL K acc1)).inv H5 ∧ Ex ((W.hide Dl (knL K acc)).view H4) ((W.hide Dl (knL K acc1)).view H5), ⟨_, rfl, Nat.zero_le _, acc, b0, i4, Ex.refl _⟩, ?_⟩
      rintro l n H5 ⟨rfl, hl, acc1, hB, i5, x5⟩
      obtain ⟨yg1, ys1⟩ := y4 _ H5 x5 i5
      by_cases hlt1 : l < es1.length
      · obtain ⟨g3, g4⟩ := yg1 l es1[l] (List.getElem?_eq_getElem hlt1)
        refine .inr ⟨g3, fun H6 => l + 1 ≤ es1.length ∧ ∃ acc1, B (l + 1) acc1 ∧ (W.hide Dl (knL K acc1)).inv H6 ∧ Ex ((W.hide Dl (knL K acc)).view H4) ((W.hide Dl (knL K acc1)).view H6), fun H6 ⟨q1, q2⟩ => ⟨es1.length - (l + 1), by omega, rfl, q1, q2⟩, fun x H6 hy1 => ?_⟩
        obtain ⟨i6, x6, r6⟩ := g4 x H6 hy1
        obtain ⟨hz, Δ2, ks, ht1, hks, hb1⟩ := bs l es1[l] acc1 _ (List.getElem?_eq_getElem hlt1) hB ⟨Dl, _, rfl, hp⟩
        have v6 : EnvOk K ((W.hide Dl (knL K acc1)).view H6) (wipe σ3 ws1) (wipeD Δ1 ws1) := (v4.mono (x5.trans x6)).wipe
        refine ht1 (W.hide Dl (knL K acc1)) (wipe σ3 ws1) H6 x _ v6 r6 fun σ7 v7 w7 => ⟨by rw [w7 ws1 hks, wipe_none], ?_⟩
        refine hb1 σ7 H6 v7 i6 _ fun b H7 i7 x7 p7 => ?_
        cases b with
        | true =>
          show te σ7 H7 _
          refine p7.1 rfl σ7 H7 (v7.mono x7) i7 _ fun y H8 e8 i8 x8 p8 r8 => ?_
          obtain ⟨d, rfl, hB8⟩ := p8
          obtain ⟨o, ho, xs, rfl, hx⟩ := Wd.hide_at i8
          have hlen := hx.length
          refine ⟨xs, ho, sz_lt (by omega), by omega, acc1 ++ [d], hB8, ?_⟩
          obtain ⟨z1, z2⟩ := Wd.hide_put (ψ := knL K (acc1 ++ [d])) (u := .lst (xs ++ [y])) i8 ⟨_, rfl, hx.append (.cons r8 .nil)⟩
          refine ⟨z1, ?_⟩
          rw [z2]
          exact ((x5.trans x6).trans x7).trans x8
        | false =>
          show _ ∧ _
          exact ⟨by omega, acc1, p7.2 rfl, i7, (x5.trans x6).trans x7⟩
      · have e : l = es1.length := by omega
        subst e
        exact .inl ⟨ys1, by omega, acc1, bd acc1 hB, i5, x14.trans x5⟩
  · have e : k = es.length := by omega
    subst e
    refine .inl ⟨ys, ?_⟩
    obtain ⟨u1, u2, o, ho, xs, rfl, hx⟩ := Wd.unhide hp i'
    exact q _ H' _ u1 ((x1.trans x').trans u2) (hd acc hA) (.lst ho hx)

/-! ### the same told by a list of things -/
theorem de_lcM {α : Type} {wi : TI} {g : TG} {ws : List Nat} (xs : List α) (enc : α → DV) (c : α → Bool) (f : α → PyData) (hi : DI K W Δ wi fun es => es = xs.map enc) (hz : xs.length ≤ 50000)
    (h : ∀ x ∈ xs, ∀ W', Hid W W' → ∃ Δ1 js, Tg K g (enc x) (wipeD Δ ws) Δ1 js ∧ (∀ j ∈ js, j ∈ ws) ∧ DT K W' Δ1 tt fun b => b = c x ∧ (c x = true → DE K W' Δ1 te fun z => z = .dat (f x)))
    (k : P (.dat (.list ((xs.filter c).map f)))) : DE K W Δ (tLc wi g tt te ws) P := de_lc <| hi.mono fun es he => by
  subst he
  refine ⟨by rw [List.length_map]; exact hz, fun i acc => acc = ((xs.take i).filter c).map f, rfl, fun i e acc W' he ha hW => ?_, fun acc ha => ?_⟩
  · rw [List.getElem?_map] at he
    cases hx : xs[i]? with
    | none =>
      rw [hx] at he
      cases he
    | some x =>
      rw [hx] at he
      cases he
      obtain ⟨Δ1, js, h1, h2, h3⟩ := h x (List.mem_of_getElem? hx) W' hW
      refine ⟨Δ1, js, h1, h2, h3.mono fun b hb => ?_⟩
      obtain ⟨hb, hE⟩ := hb
      have tk : xs.take (i + 1) = xs.take i ++ [x] := by rw [List.take_add_one, hx]; rfl
      refine ⟨fun e => (hE (by rw [← hb, e])).mono fun z hz => ⟨f x, hz, ?_⟩, fun e => ?_⟩
      · have hc : c x = true := by rw [← hb, e]
        show acc ++ [f x] = _
        rw [tk, List.filter_append, List.map_append, ha, List.filter_cons, if_pos hc]
        rfl
      · have hc : c x = false := by rw [← hb, e]
        show acc = _
        rw [tk, List.filter_append, List.map_append, ha, List.filter_cons, if_neg (by rw [hc]; decide)]
        exact (List.append_nil _).symm
  · subst ha
    rw [List.length_map, List.take_length]
    exact k
theorem de_lc2M {α β : Type} {wi wi1 : TI} {g g1 : TG} {tt1 : TT} {ws ws1 : List Nat} (xs : List α) (enc : α → DV) (c : α → Bool) (ys : α → List β) (enc1 : α → β → DV) (c1 : α → β → Bool) (f : α → β → PyData) (m : Nat) (hi : DI K W Δ wi fun es => es = xs.map enc) (hz : xs.length * m ≤ 50000) (hm : ∀ x ∈ xs, (ys x).length ≤ m)
    (h : ∀ x ∈ xs, ∀ W', Hid W W' → ∃ Δ1 js, Tg K g (enc x) (wipeD Δ ws) Δ1 js ∧ (∀ j ∈ js, j ∈ ws) ∧ DT K W' Δ1 tt fun b => b = c x ∧ (c x = true → DI K W' Δ1 wi1 (fun es => es = (ys x).map (enc1 x)) ∧
      ∀ y ∈ ys x, ∀ W'', Hid W W'' → ∃ Δ2 ks, Tg K g1 (enc1 x y) (wipeD Δ1 ws1) Δ2 ks ∧ (∀ k ∈ ks, k ∈ ws1) ∧ DT K W'' Δ2 tt1 fun b => b = c1 x y ∧ (c1 x y = true → DE K W'' Δ2 te fun z => z = .dat (f x y))))
    (k : P (.dat (.list ((xs.filter c).flatMap fun x => ((ys x).filter (c1 x)).map (f x))))) : DE K W Δ (tLc2 wi g tt wi1 g1 tt1 te ws ws1) P := de_lc2 <| hi.mono fun es he => by
  subst he
  refine ⟨fun i acc => acc = ((xs.take i).filter c).flatMap (fun x => ((ys x).filter (c1 x)).map (f x)) ∧ acc.length ≤ i * m, ⟨rfl, Nat.zero_le _⟩, fun i e acc W' he ⟨ha, hl⟩ hW => ?_, fun acc ⟨ha, _⟩ => ?_⟩
  · rw [List.getElem?_map] at he
    cases hx : xs[i]? with
    | none =>
      rw [hx] at he
      cases he
    | some x =>
      rw [hx] at he
      cases he
      have hxm : x ∈ xs := List.mem_of_getElem? hx
      have hil : i < xs.length := (List.getElem?_eq_some_iff.mp hx).1
      have him : (i + 1) * m ≤ 50000 := Nat.le_trans (Nat.mul_le_mul_right m hil) hz
      rw [Nat.add_mul, Nat.one_mul] at him
      obtain ⟨Δ1, js, h1, h2, h3⟩ := h x hxm W' hW
      refine ⟨Δ1, js, h1, h2, h3.mono fun b hb => ?_⟩
      obtain ⟨hb, hE⟩ := hb
      have tk : xs.take (i + 1) = xs.take i ++ [x] := by rw [List.take_add_one, hx]; rfl
      refine ⟨fun e => ?_, fun e => ?_⟩
      · have hc : c x = true := by rw [← hb, e]
        obtain ⟨hi1, hin⟩ := hE hc
        refine hi1.mono fun es1 he1 => ?_
        subst he1
        refine ⟨fun j acc1 => acc1 = acc ++ (((ys x).take j).filter (c1 x)).map (f x) ∧ acc1.length ≤ i * m + j, ⟨by simp, hl⟩, fun j e1 acc1 W'' he1 ⟨hb1, hl1⟩ hW2 => ?_, fun acc1 ⟨hb1, hl1⟩ => ?_⟩
        · rw [List.getElem?_map] at he1
          cases hy : (ys x)[j]? with
          | none =>
            rw [hy] at he1
            cases he1
          | some y =>
            rw [hy] at he1
            cases he1
            have hjl : j < (ys x).length := (List.getElem?_eq_some_iff.mp hy).1
            have hmx := hm x hxm
            obtain ⟨Δ2, ks, k1, k2, k3⟩ := hin y (List.mem_of_getElem? hy) W'' hW2
            refine ⟨by omega, Δ2, ks, k1, k2, k3.mono fun b2 hb2 => ?_⟩
            obtain ⟨hb2, hE2⟩ := hb2
            have tk1 : (ys x).take (j + 1) = (ys x).take j ++ [y] := by rw [List.take_add_one, hy]; rfl
            refine ⟨fun e2 => (hE2 (by rw [← hb2, e2])).mono fun z hz => ⟨f x y, hz, ?_, ?_⟩, fun e2 => ⟨?_, by omega⟩⟩
            · have hc2 : c1 x y = true := by rw [← hb2, e2]
              rw [tk1, List.filter_append, List.map_append, hb1, List.append_assoc, List.filter_cons, if_pos hc2]
              rfl
            · rw [List.length_append]
              show acc1.length + 1 ≤ _
              omega
            · have hc2 : c1 x y = false := by rw [← hb2, e2]
              rw [tk1, List.filter_append, List.map_append, hb1, List.filter_cons, if_neg (by rw [hc2]; decide)]
              show _ = acc ++ (_ ++ [])
              rw [List.append_nil]
        · rw [List.length_map, List.take_length] at hb1
          refine ⟨?_, ?_⟩
          · rw [tk, List.filter_append, List.flatMap_append, ← ha, List.filter_cons, if_pos hc, hb1]
            simp
          · have hmx := hm x hxm
            rw [List.length_map] at hl1
            rw [Nat.add_mul, Nat.one_mul]
            omega
      · have hc : c x = false := by rw [← hb, e]
        refine ⟨?_, by rw [Nat.add_mul, Nat.one_mul]; omega⟩
        rw [tk, List.filter_append, List.flatMap_append, ← ha, List.filter_cons, if_neg (by rw [hc]; decide)]
        show acc = acc ++ []
        rw [List.append_nil]
  · subst ha
    rw [List.length_map, List.take_length]
    exact k

/-! ### lists that change -/
theorem EnvOk.vw {σ : L2.St} (h : W.view H = W1.view H1) (v : EnvOk K (W.view H) σ Δ) : EnvOk K (W1.view H1) σ Δ := by
  rw [← h]
  exact v
/-- x = [], the list apart -/
theorem ds_newL {i : Nat} (k : ∀ p, W.hid p = false → nx (W.hide p (knL K [])) (Δ.set i (some (.raw (.ref p))))) : DS K W Δ (tAsg (tLst tNil) (gName i)) nx rt bk ct := fun σ H D v iv c => by
  refine ⟨Nat.zero_le _, fun p hp => ?_⟩
  obtain ⟨n1, n2⟩ := Wd.hide_new (φ := knL K []) (o := .lst []) iv hp ⟨[], rfl, .nil⟩
  refine c.nx _ _ _ _ (k p (Wd.hid_none iv hp)) n1 (by rw [n2]; exact Ex.refl _) ?_
  rw [n2]
  exact v.set rfl
/-- a name's list is put apart: it was made here and no one else has it; known by its data -/
theorem ds_app {i p : Nat} {ds : List PyData} (hi : Δ[i]? = some (some (.raw (.ref p)))) (hz : ds.length < 100000) (h : DE K (W.hide p (knL K ds)) Δ te fun e => ∃ d, e = .dat d ∧ nx (W.hide p (knL K (ds ++ [d]))) Δ) :
    DS K (W.hide p (knL K ds)) Δ (tDrop (tBM K "list" rAppend (tVar i) (tCons te tNil))) nx rt bk ct := fun σ H D v iv c => by
  obtain ⟨x, hx, rx⟩ := v.at_ i _ hi
  have rx : x = .ref p := rx
  subst rx
  obtain ⟨o, ho, xs, rfl, hxs⟩ := Wd.hide_at iv
  refine ⟨.ref p, hx, .inl ⟨rfl, xs, SqL.of ho⟩, ?_⟩
  refine h σ H v iv _ fun y H1 e i1 x1 p1 r1 => ?_
  obtain ⟨d, rfl, hn⟩ := p1
  obtain ⟨o1, ho1, ys, rfl, hys⟩ := Wd.hide_at i1
  have hl := hys.length
  refine ⟨p, ys, y, rfl, rfl, ho1, sz_lt (by omega), ?_⟩
  obtain ⟨z1, z2⟩ := Wd.hide_put (ψ := knL K (ds ++ [d])) (u := .lst (ys ++ [y])) i1 ⟨_, rfl, hys.append (.cons r1 .nil)⟩
  refine c.nx _ Δ σ _ hn z1 (by rw [z2]; exact x1) ?_
  rw [z2]
  exact v.mono x1
theorem ds_ext {i p : Nat} {ds : List PyData} (hi : Δ[i]? = some (some (.raw (.ref p)))) (h : DE K (W.hide p (knL K ds)) Δ te fun e => ∃ es, e = .dat (.list es) ∧ ds.length + es.length ≤ 100000 ∧ nx (W.hide p (knL K (ds ++ es))) Δ) :
    DS K (W.hide p (knL K ds)) Δ (tDrop (tBM K "list" rExtend (tVar i) (tCons te tNil))) nx rt bk ct := fun σ H D v iv c => by
  obtain ⟨x, hx, rx⟩ := v.at_ i _ hi
  have rx : x = .ref p := rx
  subst rx
  obtain ⟨o, ho, xs, rfl, hxs⟩ := Wd.hide_at iv
  refine ⟨.ref p, hx, .inl ⟨rfl, xs, SqL.of ho⟩, ?_⟩
  refine h σ H v iv _ fun y H1 e i1 x1 p1 r1 => ?_
  obtain ⟨es, rfl, hz, hn⟩ := p1
  obtain ⟨o1, ho1, ys, rfl, hys⟩ := Wd.hide_at i1
  have hl := hys.length
  cases r1 with
  | @lst b zs _ hb hzs =>
    have hl2 := hzs.length
    refine ⟨p, b, ys, zs, rfl, rfl, ho1, Wd.view_le _ _ hb, sz_of (by omega), ?_⟩
    obtain ⟨z1, z2⟩ := Wd.hide_put (ψ := knL K (ds ++ es)) (u := .lst (ys ++ zs)) i1 ⟨_, rfl, hys.append hzs⟩
    refine c.nx _ Δ σ _ hn z1 (by rw [z2]; exact x1) ?_
    rw [z2]
    exact v.mono x1
/-- the list is seen again, as data -/
theorem ds_see {i p : Nat} {ds : List PyData} (hp : W.hid p = false) (hi : Δ[i]? = some (some (.raw (.ref p)))) (h : DS K W (Δ.set i (some (.dat (.list ds)))) t nx rt bk ct) : DS K (W.hide p (knL K ds)) Δ t nx rt bk ct := fun σ H D v iv c => by
  obtain ⟨x, hx, rx⟩ := v.at_ i _ hi
  have rx : x = .ref p := rx
  subst rx
  obtain ⟨u1, u2, o, ho, xs, rfl, hxs⟩ := Wd.unhide hp iv
  refine h σ H D ⟨by rw [List.length_set]; exact v.len, fun j e q => ?_⟩ u1 (c.step u2)
  by_cases hj : i = j
  · subst hj
    by_cases hl : i < Δ.length
    · rw [List.getElem?_set_self hl] at q
      cases q
      exact ⟨.ref p, hx, .lst ho hxs⟩
    · rw [List.getElem?_eq_none (by simpa using hl)] at q
      cases q
  · rw [List.getElem?_set_ne hj] at q
    obtain ⟨y, h1, h2⟩ := v.at_ j e q
    exact ⟨y, h1, h2.mono u2⟩
end

/-! ### what a def promises -/
abbrev Con := Wd → List DV → (DV → Prop) → Prop
def SpC (K : PySem.W.Frag) (C : Con) : Sp := fun vs H Q _ => ∃ W es P, C W es P ∧ W.inv H ∧ Reps K (W.view H) vs es ∧ ∀ v H' e, W.inv H' → Ex (W.view H) (W.view H') → P e → RepV K (W.view H') v e → Q v H'
/-- W1 keeps apart what W does -/
def Wd.Le (W W1 : Wd) : Prop := ∀ H, W1.inv H → W.inv H ∧ Ex (W1.view H) (W.view H)
theorem Wd.Le.refl (W : Wd) : Wd.Le W W := fun _ i => ⟨i, Ex.refl _⟩
theorem Wd.Le.hide {W W1 : Wd} {p : Addr} {φ : Kn} (h : Wd.Le W W1) (hp : W1.hid p = false) : Wd.Le W (W1.hide p φ) := fun H i => by
  obtain ⟨u1, u2, _⟩ := Wd.unhide hp i
  obtain ⟨v1, v2⟩ := h H u1
  exact ⟨v1, u2.trans v2⟩
def startD (N : List Str) (es : List DV) : DEnv := es.map some ++ List.replicate (N.length - es.length) none
theorem reps_len {K : PySem.W.Frag} {H : Hp} {vs : List V} {es : List DV} (h : Reps K H vs es) : vs.length = es.length := Paired.length h
theorem reps_get {K : PySem.W.Frag} {H : Hp} : ∀ {vs : List V} {es : List DV} {i : Nat} {e : DV}, Reps K H vs es → es[i]? = some e → ∃ v, vs[i]? = some v ∧ RepV K H v e
  | _, _, _, _, .nil, h => by simp at h
  | _, _, 0, _, .cons r _, h => by
    simp at h
    subst h
    exact ⟨_, rfl, r⟩
  | _, _, i + 1, e, .cons _ t, h => by
    obtain ⟨v, h1, h2⟩ := reps_get (i := i) (e := e) t (by simpa using h)
    exact ⟨v, by simpa using h1, h2⟩
theorem env_start {K : PySem.W.Frag} {H : Hp} {N : List Str} {vs : List V} {es : List DV} (h : Reps K H vs es) : EnvOk K H (L2.start N vs) (startD N es) := by
  have hl := reps_len h
  refine ⟨by unfold L2.start startD; simp [hl], fun i e q => ?_⟩
  unfold startD at q
  unfold L2.start
  by_cases hi : i < es.length
  · rw [List.getElem?_append_left (by simpa using hi), List.getElem?_map] at q
    rw [List.getElem?_append_left (by simpa [hl] using hi), List.getElem?_map]
    cases e1 : es[i]? with
    | none =>
      rw [e1] at q
      cases q
    | some z =>
      rw [e1] at q
      cases q
      obtain ⟨v, h1, h2⟩ := reps_get h e1
      exact ⟨v, by rw [h1]; rfl, h2⟩
  · rw [List.getElem?_append_right (by simpa using hi), List.getElem?_replicate] at q
    split at q <;> cases q
section
variable {P : Program} {w : World} {K : PySem.W.Frag} {mg : Str → Option Value} {base : Heap} {C : Con}
/-- what a body that keeps the contract is to do -/
def Keeps (K : PySem.W.Frag) (N : List Str) (C : Con) (t : TS) : Prop := ∀ W es P, C W es P → DS K W (startD N es) t (fun W' _ => Wd.Le W W' ∧ P (.dat .none)) (fun W' e => Wd.Le W W' ∧ P e) (fun _ _ => False) (fun _ _ => False)
theorem keeps_run {N : List Str} {t : TS} (h : Keeps K N C t) {vs : List V} {H : Hp} {Q : VK} {E : XK} (hs : SpC K C vs H Q E) : t { nx := fun _ H' => Q .non H', rt := Q } (L2.start N vs) H := by
  obtain ⟨W, es, P, hC, iv, r, q⟩ := hs
  refine h W es P hC (L2.start N vs) H _ (env_start r) iv ⟨fun W' Δ' σ' H' n i' x' v' => ?_, fun W' e v H' n i' x' r' => ?_, fun _ _ _ _ n => n.elim, fun _ _ _ _ n => n.elim⟩
  · obtain ⟨u1, u2⟩ := n.1 H' i'
    exact q _ H' _ u1 (x'.trans u2) n.2 .non
  · obtain ⟨u1, u2⟩ := n.1 H' i'
    exact q _ H' _ u1 (x'.trans u2) n.2 (r'.mono u2)
theorem kfn {x qual : Str} {st : Stmt} {f : Addr} {fd : FuncData} {N ps : List Str} {k : Nat} (F : Fun K x qual st f fd) (S : FnScope N ps (defScope st)) (hlen : ∀ W es P, C W es P → es.length = ps.length)
    (hbody : ∀ (cdv : Value) (A : Around) (outer : List Env) (s : Shared) (H : Hp) (E : XK), Room k (A.deeper (envOfC qual (defScope st) s.heap.objs.size f cdv)) →
      ∃ t, PSs (cxOf CX0 P w K mg base N qual (defScope st) f cdv A outer s H E).nox (defBody st) t ∧ Keeps K N C t) : FnOk P w K mg base CX0 (k + 1) f fd ps (SpC K C) := by
  refine F.ok S (fun vs H Q E h => ?_) fun cdv A outer s H vs Q E hr h => ?_
  · obtain ⟨W, es, P, hC, _, r, _⟩ := h
    rw [reps_len r, hlen W es P hC]
  · obtain ⟨t, ht, hk⟩ := hbody cdv A outer s H E hr
    exact ⟨t, ht, keeps_run hk h⟩
end
section
variable {K : PySem.W.Frag} {W : Wd} {Δ : DEnv} {P : DV → Prop} {C : Con}
theorem de_call {ta : TA} {E : XK} (h : DA K W Δ ta fun es => C W es P) : DE K W Δ (tCall (SpC K C) [] E ta) P := fun σ H v i Q q =>
  h σ H v i _ fun vs H1 es i1 x1 p1 r1 => by
    show SpC K C (vs ++ []) H1 Q E
    rw [List.append_nil]
    exact ⟨W, es, P, p1, i1, r1, fun z H2 e i2 x2 p2 r2 => q z H2 e i2 (x1.trans x2) p2 r2⟩
/-- a call by keywords alone, or with some -/
theorem de_callK {ta tk : TA} {E : XK} {gV : List V → List V → List V} {gD : List DV → List DV → List DV} (hg : ∀ H vs zs es fs, Reps K H vs es → Reps K H zs fs → Reps K H (gV vs zs) (gD es fs))
    (h : DA K W Δ ta fun es => DA K W Δ tk fun fs => C W (gD es fs) P) : DE K W Δ (tCallK (SpC K C) gV E ta tk) P := fun σ H v i Q q =>
  h σ H v i _ fun vs H1 es i1 x1 p1 r1 => p1 σ H1 (v.mono x1) i1 _ fun zs H2 fs i2 x2 p2 r2 =>
    ⟨W, gD es fs, P, p2, i2, hg _ _ _ _ _ (r1.mono x2) r2, fun z H3 e i3 x3 p3 r3 => q z H3 e i3 ((x1.trans x2).trans x3) p3 r3⟩
end
end Ka

/-! Ka5: defs that ask for repr: nothing is being shown around them. -/
namespace Ka
open PySem PySem.Spec PyProof.Rows L2 Evl
/-- room, and nothing is being shown -/
structure RoomG (k : Nat) (A : Around) : Prop where
  room : Room k A
  calm : A.guards = some []
theorem RoomG.mono {j k : Nat} {A : Around} (r : RoomG k A) (h : j ≤ k) : RoomG j A := ⟨r.room.mono h, r.calm⟩
/-- the same promise where nothing is being shown -/
structure GOk (P : Program) (w : World) (K : PySem.W.Frag) (mg : Str → Option Value) (base : Heap) (k : Nat) (f : Addr) (fd : FuncData) (ps : List Str) (sp : Sp) : Prop where
  len : ∀ vs H Q E, sp vs H Q E → vs.length = ps.length
  run : ∀ (A : Around) (outer : List Env) (s : Shared) (H : Hp) (args : Args) (us : List Value) (vs : List V) (Q : VK) (E : XK),
    RoomG k A → Env0 P w K mg base A outer s H → BindsTo s fd args (ps.zip us) → Vals vs us → sp vs H Q E →
      codeAny (model P w) A (.call (.ref f) args) (CR CX0 outer P w H s Q E) s
section
variable {P : Program} {w : World} {K : PySem.W.Frag} {mg : Str → Option Value} {base : Heap}
/-- the frame's end, from the body's -/
theorem body_end {N : List Str} {qual : Str} {scope : Scope} {f : Addr} {cd : Value} {A : Around} {outer : List Env} {s s' : Shared} {H : Hp} {Q : VK} {E : XK} {fl : Flow}
    (h : SP (cxOf CX0 P w K mg base N qual scope f cd A outer s H E) [] { nx := fun _ H' => Q .non H', rt := Q } fl s') :
    match fl with
    | .ret u => CE outer P w H s Q u s'
    | .next => CE outer P w H s Q Value.none s'
    | .brk => False
    | .cont => False := by
  cases fl with
  | next =>
    have ⟨σ', H', J, q⟩ := h
    exact ⟨V.non, H', J.os, J.bare, J.base, J.hok, rfl, q⟩
  | ret u =>
    have ⟨v, σ', H', J, rv, q⟩ := h
    exact ⟨v, H', J.os, J.bare, J.base, J.hok, rv, q⟩
  | brk =>
    have ⟨_, _, _, q⟩ := h
    exact q
  | cont =>
    have ⟨_, _, _, q⟩ := h
    exact q
theorem gfn_of {k : Nat} {f : Addr} {x qual : Str} {st : Stmt} {fd : FuncData} {N ps : List Str} {sp : Sp} (F : Fun K x qual st f fd) (S : FnScope N ps (defScope st)) (len : ∀ vs H Q E, sp vs H Q E → vs.length = ps.length)
    (hbody : ∀ (cdv : Value) (A : Around) (outer : List Env) (s : Shared) (H : Hp) (vs : List V) (Q : VK) (E : XK), RoomG k (A.deeper (envOfC qual (defScope st) s.heap.objs.size f cdv)) → sp vs H Q E →
      ∃ t, PSs (cxOf CX0 P w K mg base N qual (defScope st) f cdv A outer s H E).nox (defBody st) t ∧ t { nx := fun _ H' => Q .non H', rt := Q } (L2.start N vs) H) : GOk P w K mg base (k + 1) f fd ps sp := by
  have ⟨oc, od, kV, doc, pm, an, cdv, ct, osl, hfd, lk, hcd⟩ := F.ex
  subst hfd
  refine ⟨len, ?_⟩
  intro A outer s H args us vs Q E ⟨hr, hg⟩ e0 hb r hsp
  have here : ∀ b o, base.get? b = some o → s.heap.get? b = some o := fun b o e => (e0.bs b o e).1
  have kin : K.In s.heap := e0.mod.kin.keeps here
  have cells : ∀ y ∈ ps.zip us, (defScope st).names.lookup y.1 = some .local ∨ ((defScope st).names.lookup y.1 = some .cell ∧ ((cellsFrom (s.heap.objs.size + 1) (defScope st).names []).lookup y.1).isSome = true) := by
    rintro ⟨n, v⟩ hy
    cases S.par n (List.of_mem_zip hy).1 with
    | inl q => exact .inl q
    | inr q => exact .inr ⟨q, PySem.W.cellsFrom_some _ _ _ (.inl q)⟩
  refine codeAny_call_function hr.depth (kin _ _ lk) rfl S.co S.gen rfl (PySem.W.codeRec_of kin hcd) (hb _ _ _ _ ?enter)
  case enter =>
    refine wpAny_newFunctionEnv_cells S.kind cells ?_
    intro env he s1 x1
    subst he
    refine ⟨(e0.mod.nolimit.keeps here).keeps x1.toInCall.keep, codeAny_func ?_⟩
    have ⟨t, ht, hq⟩ := hbody cdv A outer s H vs Q E ⟨hr.deeper _, hg⟩ hsp
    have I := inv_start (CX := CX0) (E := E) (qual := qual) (f := f) (cd := cdv) S hr.hd e0 (len _ _ _ _ hsp) r x1
    refine wpAny_mono (ht.nox.run [] s1 (L2.start N vs) H _ I hq) ?_ (fun e s' hs => hs)
    intro fl s' hs
    have fin := body_end hs
    cases fl with
    | next => exact fin
    | ret u => exact fin
    | brk => exact False.elim fin
    | cont => exact False.elim fin
end
section
variable {X : Cx} {k : Nat} {f : Addr} {fd : FuncData} {ps : List Str} {sp : Sp} {dvs : List V} {ds : List Value} {E : XK} {x : Str} {p pos : Pos} {e : Expr} {es : List Expr} {t : TA}
end
section
variable {P : Program} {w : World} {K : PySem.W.Frag} {mg mb : Str → Option Value}
/-- the law's call, at the heap behind the top: H tracks the script alone (or nothing, where the script is the module's own) -/
theorem law_at {k : Nat} {fa a : Addr} {fd : FuncData} {x : Str} {sp : Sp} {s₁ : Shared} {vs : List Value} {H : Hp}
    (KX : K.In s₁.heap) (hns : s₁.heap.Ns mainGlobals mg) (hb : s₁.heap.Ns builtinsNs mb) (hbb : ∀ x : Str, x ≠ "__name__" → mb x = bootBuiltins x) (hlim : s₁.heap.NoLimit) (hg : s₁.gens = #[])
    (ha : s₁.heap.get? a = some { cls := .type "list", data := .seq vs.toArray }) (hr : RoomG k callerA)
    (F : ∀ base : Heap, K.In base → base.Ns mainGlobals mg → GOk P w K mg base k fa fd [x] sp) (hbind : ∀ (s : Shared) (u : Value), BindsTo s fd ⟨[u], []⟩ [(x, u)])
    (hsp : sp [.ref a] H (fun v _ => v = .bl true) fun _ _ _ => False) (hO : Only H) (hok : HOk P w H s₁.heap) (hA : ∀ b, H b ≠ none → b = a) (hK : H a ≠ none → K.lookup a = none) :
    codeAny (model P w) callerA (.call (.ref fa) ⟨[.ref a], []⟩) (fun r s' => r = .ok (.ret (.bool true)) ∧ OldK s₁.heap s'.heap ∧ s'.os = s₁.os ∧ AllBare s'.gens) s₁ := by
  -- the heap of the module: all but the script
  have seen : ∀ {b : Addr} {o : Obj}, s₁.heap.get? b = some o → H b = none → (hidT s₁.heap H).get? b = some o := fun e n => hidT_get e n
  have dictNot : ∀ {b : Addr} {m : Str → Option Value}, s₁.heap.Ns b m → H b = none := by
    rintro b m ⟨o, es, ep, e, d, _⟩
    cases q : H b with
    | none => rfl
    | some u =>
      have e' := hA b (by rw [q]; exact Option.some_ne_none u)
      rw [e', ha] at e
      have e2 := Option.some.inj e
      rw [← e2] at d
      exact nomatch d
  have ns' : ∀ {b : Addr} {m : Str → Option Value}, s₁.heap.Ns b m → (hidT s₁.heap H).Ns b m := by
    intro b m h
    have n := dictNot h
    obtain ⟨o, es, ep, e, d, r⟩ := h
    exact ⟨o, es, ep, seen e n, d, r⟩
  have kin' : K.In (hidT s₁.heap H) := by
    intro b o e
    refine seen (KX b o e) ?_
    cases q : H b with
    | none => rfl
    | some u =>
      have e' := hA b (by rw [q]; exact Option.some_ne_none u)
      rw [e'] at q e
      rw [hK (by rw [q]; exact Option.some_ne_none u)] at e
      exact nomatch e
  obtain ⟨mc, c1, c2⟩ := hlim
  have e0 : Env0 P w K mg (hidT s₁.heap H) callerA [] s₁ H :=
    ⟨rfl, ⟨kin', ns' hns, ⟨mb, ns' hb, hbb⟩, mc, ns' c1, c2⟩, fun b o e => of_hidT e, Nat.le_of_eq (hidT_size _ _), trivial,
      fun b hb => (nomatch (show b ∈ ([] : List Addr) from hb)), hok, .of_eq hg⟩
  refine codeAny_mono ((F _ kin' (ns' hns)).run callerA [] s₁ H ⟨[.ref a], []⟩ [.ref a] [.ref a] _ _ hr e0 (hbind s₁ (.ref a)) (.cons rfl .nil) hsp) ?_
  intro r s' h
  match r with
  | .error e => exact False.elim h
  | .ok .next => exact False.elim h
  | .ok .brk => exact False.elim h
  | .ok .cont => exact False.elim h
  | .ok (.ret u) =>
    obtain ⟨v, H', os, bare, un, hok', r', q⟩ := h
    have q' : v = .bl true := q
    subst q'
    have r2 : u = Value.bool true := r'
    subst r2
    refine ⟨rfl, OldK.of_keep ?_, os, bare⟩
    intro b o e
    cases q : H b with
    | none => exact un.keep b o e q (fun z => nomatch (show b ∈ ([] : List Addr) from z)) (fun z => nomatch z)
    | some u =>
      cases hO b with
      | inl z => exact nomatch q.symm.trans z
      | inr z =>
        obtain ⟨ob, xs, z⟩ := z
        obtain ⟨e1, _⟩ := hok b _ z
        obtain ⟨e2, _⟩ := hok' b _ (un.frzs b ob _ z)
        rw [e] at e1
        rw [Option.some.inj e1]
        exact e2
theorem law_callG {k : Nat} {fa a : Addr} {fd : FuncData} {x : Str} {sp : Sp} {s₁ : Shared} {vs : List Value} {ns : List Int}
    (KX : K.In s₁.heap) (hns : s₁.heap.Ns mainGlobals mg) (hb : s₁.heap.Ns builtinsNs mb) (hbb : ∀ x : Str, x ≠ "__name__" → mb x = bootBuiltins x) (hlim : s₁.heap.NoLimit) (hg : s₁.gens = #[])
    (ha : s₁.heap.get? a = some { cls := .type "list", data := .seq vs.toArray }) (hi : IntsAre vs ns) (hl : ns.length ≤ sizeLine) (hr : RoomG k callerA)
    (F : ∀ base : Heap, K.In base → base.Ns mainGlobals mg → GOk P w K mg base k fa fd [x] sp) (hbind : ∀ (s : Shared) (u : Value), BindsTo s fd ⟨[u], []⟩ [(x, u)])
    (hsp : ∀ H : Hp, Only H → SqL K H a (ns.map V.int) → sp [.ref a] H (fun v _ => v = .bl true) fun _ _ _ => False) :
    codeAny (model P w) callerA (.call (.ref fa) ⟨[.ref a], []⟩) (fun r s' => r = .ok (.ret (.bool true)) ∧ OldK s₁.heap s'.heap ∧ s'.os = s₁.os ∧ AllBare s'.gens) s₁ := by
  have rv := vals_ints hi
  have lenV := hi.length
  cases hk : K.lookup a with
  | some o =>
    have e := Option.some.inj ((KX a o hk).symm.trans ha)
    subst e
    have none1 : Only (fun _ => none) := fun _ => .inl rfl
    refine law_at KX hns hb hbb hlim hg ha hr F hbind (hsp (fun _ => none) none1 ?_) none1 (fun b u z => (nomatch (show (none : Option HO) = some u from z))) (fun b z => absurd rfl z) (fun z => absurd rfl z)
    exact .inr ⟨_, vs.toArray, _, hk, rfl, rfl, rfl, by rw [List.size_toArray, lenV]; exact hl, by simpa using rv⟩
  | none =>
    let H : Hp := fun b => if b = a then some (.frz { cls := .type "list", data := .seq vs.toArray } (.lst (ns.map V.int))) else none
    have at_a : H a = some (.frz { cls := .type "list", data := .seq vs.toArray } (.lst (ns.map V.int))) := if_pos rfl
    have off : ∀ b, b ≠ a → H b = none := fun b h => if_neg h
    have only : Only H := fun b => by
      by_cases h : b = a
      · exact .inr ⟨_, _, by rw [h]; exact at_a⟩
      · exact .inl (off b h)
    refine law_at KX hns hb hbb hlim hg ha hr F hbind (hsp H only (.inl (.inr ⟨_, at_a⟩))) only (fun b u z => ?_) (fun b z => ?_) (fun _ => hk)
    · by_cases h : b = a
      · rw [h, at_a] at z
        rw [h, ← Option.some.inj z]
        exact ⟨ha, by rw [List.length_map]; exact hl, vs, _, rv, ha⟩
      · rw [off b h] at z
        exact nomatch z
    · by_cases h : b = a
      · exact h
      · exact absurd (off b h) z
/-- the goal that the head leaves -/
theorem walkG {l : PySem.W.OpenLaw} {n k : Nat} {q : Program} {loose : List Str} {XP : (Str → Option Value) → Heap → Prop} {YP : World → Heap → Prop} {d : DefRec} {K : Params → PySem.W.Frag} {sp : PySem.W.Frag → Sp} {x : Str}
    (hn : l.most = some n) (hn2 : n ≤ sizeLine) (hdf : d.params.defaults = []) (hr : RoomG k callerA)
    (hY : ∀ (w : World) (h : Heap), YP w h → (K w.params).In h)
    (F : ∀ (w : World) (mg : Str → Option Value) (fa : Addr) (h : Heap), (K w.params).In h → h.Ns mainGlobals mg → mg d.name = some (.ref fa) →
      ∃ fd : FuncData, (∀ (s : Shared) (u : Value), BindsTo s fd ⟨[u], []⟩ [(x, u)]) ∧
        ∀ base : Heap, (K w.params).In base → base.Ns mainGlobals mg → GOk l.prog w (K w.params) mg base k fa fd [x] (sp (K w.params)))
    (hsp : ∀ (K : PySem.W.Frag) (H : Hp) (a : Addr) (ns : List Int), ns.length ≤ n → Only H → SqL K H a (ns.map V.int) → sp K [.ref a] H (fun v _ => v = .bl true) fun _ _ _ => False) :
    PySem.W.WalkO q loose XP YP l.row.toRowW d [] (fun f vs => PySem.call f vs) := by
  refine Att.attach_call hn hdf ?_
  intro w s₀ s₁ mg mb fa o pm cd doc a vs ns G Y ho hd hcd hmg hobj hints hlen hg
  have KX := hY w _ Y
  have ⟨fd, hb, hF⟩ := F w mg fa _ KX G.T.g hmg
  exact law_callG KX G.T.g G.T.b G.T.builtins G.T.nolimit hg hobj hints (Nat.le_trans hlen hn2) hr hF hb (fun H hO hS => hsp _ H a ns hlen hO hS)
end
/-- such a def, by its contract -/
theorem gfn {P : Program} {w : World} {K : PySem.W.Frag} {mg : Str → Option Value} {base : Heap} {C : Con} {x qual : Str} {st : Stmt} {f : Addr} {fd : FuncData} {N ps : List Str} {k : Nat} (F : Fun K x qual st f fd) (S : FnScope N ps (defScope st)) (hlen : ∀ W es P, C W es P → es.length = ps.length)
    (hbody : ∀ (cdv : Value) (A : Around) (outer : List Env) (s : Shared) (H : Hp) (E : XK), RoomG k (A.deeper (envOfC qual (defScope st) s.heap.objs.size f cdv)) →
      ∃ t, PSs (cxOf CX0 P w K mg base N qual (defScope st) f cdv A outer s H E).nox (defBody st) t ∧ Keeps K N C t) : GOk P w K mg base (k + 1) f fd ps (SpC K C) := by
  refine gfn_of F S (fun vs H Q E h => ?_) fun cdv A outer s H vs Q E hr h => ?_
  · obtain ⟨W, es, P, hC, _, r, _⟩ := h
    rw [reps_len r, hlen W es P hC]
  · obtain ⟨t, ht, hk⟩ := hbody cdv A outer s H E hr
    exact ⟨t, ht, keeps_run hk h⟩
end Ka

namespace Ka
open PySem PySem.Spec PyProof.Rows L2 Evl
section
variable {X : Cx} {CX : CXT} {k : Nat} {f : Addr} {fd : FuncData} {ps ks : List Str} {sp : Sp} {E : XK} {x : Str} {p pos : Pos} {kws : List Keyword} {tk : TA}
variable {g : List Value → List Value → List Value} {gV : List V → List V → List V}
/-- f(k = v, ..), by keywords alone -/
theorem pe_callKw (F : FnOk X.prog X.w X.K X.mg X.base CX k f fd ps sp) (hr : Room k X.A) (hg : Gl X x) (hm : X.mg x = some (.ref f)) (hk : PySem.W.keepIn X.K (.ref f) = true) (hb : KBinds X.K fd ps ks g gV) (hx : Passes CX X E)
    (hkw : PK X kws tk) (hall : (backToKw pos (keywordEach kws X.env)).all (·.1.isSome) = true := by rfl) (hks : (backToKw pos (keywordEach kws X.env)).filterMap (·.1) = ks := by rfl)
    (hdb : (x == ("__debug__" : Str)) = false := by decide) (hpl : ((backTo pos (starEach [] X.env)).any (·.1) || (backToKw pos (keywordEach kws X.env)).any (·.1.isNone)) = false := by rfl) :
    PE X (.Call (.Name x p) [] kws pos) (tCallK sp gV E tNil tk) := by
  constructor
  intro pins s σ H Q I h
  apply wpAny_Call_Name_kw
  apply ld_glob I hg hm ?_ hdb
  apply PySem.W.callWith_KW0 (h₀ := X.base) I.ok.mod.kin hk hall ?_ hpl
  apply thn (hkw.run pos pins s σ H _ I h)
  rintro ws s2 ⟨zs, H2, I2, rz, q2⟩
  refine ⟨I2.kIn, ?_⟩
  rw [hks]
  exact run_fnk (us := []) F hr hb hx I2 .nil rz q2
end
theorem Fun_kbinds {K : PySem.W.Frag} {x qual : Str} {st : Stmt} {f : Addr} {fd : FuncData} {ps ks : List Str} {g : List Value → List Value → List Value} {gV : List V → List V → List V} (F : Fun K x qual st f fd)
    (h : ∀ (kV doc pm : Value) (an : Option Addr) (cdv ct : Value) (us ws : List Value), (g us ws).length = ps.length → bindArgs (PySem.W.fnOf x qual (defArgs st) (defBody st) (defScope st) .none kV doc pm an cdv ct) ⟨us, ks.zip ws⟩ = pure (ps.zip (g us ws)))
    (rel : ∀ {vs : List V} {us : List Value} {zs : List V} {ws : List Value}, Vals vs us → Vals zs ws → Vals (gV vs zs) (g us ws)) : KBinds K fd ps ks g gV := by
  have ⟨oc, od, kV, doc, pm, an, cdv, ct, osl, hfd, lk, hcd⟩ := F.ex
  subst hfd
  exact ⟨fun s us ws _ hl => .of_eq (h kV doc pm an cdv ct us ws hl), rel⟩
/-- keywords in another order: i names the place of the parameter's value -/
def perm (n : Nat) (ix : List Nat) {α : Type} (us ws : List α) : List α := if us.length = 0 ∧ ws.length = n then ix.filterMap fun i => ws[i]? else []
theorem perm_rel {α β : Type} {R : α → β → Prop} (n : Nat) (ix : List Nat) {us ws : List α} {us' ws' : List β} (h1 : Paired R us us') (h2 : Paired R ws ws') : Paired R (perm n ix us ws) (perm n ix us' ws') := by
  have e1 := h1.length
  have e2 := h2.length
  unfold perm
  by_cases c : us.length = 0 ∧ ws.length = n
  · rw [if_pos c, if_pos ⟨by omega, by omega⟩]
    induction ix with
    | nil => exact .nil
    | cons i ix ih =>
      rw [List.filterMap_cons, List.filterMap_cons]
      have look : ∀ {l : List α} {l' : List β} (i : Nat), Paired R l l' → (l[i]? = none ∧ l'[i]? = none) ∨ ∃ a b, l[i]? = some a ∧ l'[i]? = some b ∧ R a b := by
        intro l l' i h
        induction h generalizing i with
        | nil => exact .inl ⟨by simp, by simp⟩
        | cons r _ ih =>
          cases i with
          | zero => exact .inr ⟨_, _, rfl, rfl, r⟩
          | succ i =>
            rcases ih i with ⟨a, b⟩ | ⟨a, b, c, d, e⟩
            · exact .inl ⟨by simpa using a, by simpa using b⟩
            · exact .inr ⟨a, b, by simpa using c, by simpa using d, e⟩
      rcases look i h2 with ⟨a, b⟩ | ⟨a, b, ea, eb, r⟩
      · rw [a, b]
        exact ih
      · rw [ea, eb]
        exact .cons r ih
  · rw [if_neg c, if_neg (fun z => c ⟨by omega, by omega⟩)]
    exact .nil
section
variable {X : Cx} {tg : Expr}
/-- sorted of a list of data, or of a set of ints -/
def rSortedX (w : World) (K : PySem.W.Frag) : List V → Hp → VK → Prop := fun vs H Q => rSortedQ K vs H Q ∨ rSortedSet w vs H Q
theorem cr_sortedX (hc : X.calm = true) (hu : X.A.units + 64 < cLine) : CallR X (.builtin "sorted") (rSortedX X.w X.K) := (cr_sortedQ hu).or (cr_sortedSet hc)
/-- for x in l, l a list or a tuple -/
def iSeq (K : PySem.W.Frag) (tl : TE) : TI := fun σ H R => tl σ H fun x H1 => (∃ a, x = .ref a ∧ (∃ xs, SqL K H1 a xs) ∧ R (Itl K a) H1) ∨ ∃ a, x = .ref a ∧ (∃ xs, SqT K H1 a xs) ∧ R (Itt K a) H1
end
section
variable {K : PySem.W.Frag} {w : World} {W : Wd} {Δ : DEnv} {te : TE} {P : DV → Prop}
theorem cal_sortedXL {ds : List PyData} (h1 : PySem.W.AllAlike ds) (h2 : PySem.W.Sortable ds) (h3 : ∀ d ∈ ds, d.depth ≤ 60) (k : P (.dat (.list (ds.mergeSort (PySem.W.dataLe false id))))) : CalD K W (rSortedX w K) [.dat (.list ds)] P := fun xs H iv r Q q => .inl (cal_sorted h1 h2 h3 k xs H iv r Q q)
theorem cal_sortedXS {S : Int → Bool} {n : Nat} (hn : n < 64) (k : ∀ ns : List Int, ns.Pairwise (· < ·) → (∀ k : Int, k ∈ ns ↔ S k = true) → ns.length = n → P (.dat (.list (ns.map PyData.int)))) : CalD K W (rSortedX w K) [.obj fun q => SetO w q S n] P := fun xs H iv r Q q => .inr (cal_sortedSet hn k xs H iv r Q q)
theorem di_seqL {PL : List DV → Prop} (h : DE K W Δ te fun e => ∃ ds, e = .dat (.list ds) ∧ PL (ds.map DV.dat)) : DI K W Δ (iSeq K te) PL := fun σ H v i R q => by
  refine h σ H v i _ fun x H1 e i1 x1 p1 r1 => ?_
  obtain ⟨ds, rfl, k⟩ := p1
  cases r1 with
  | @lst a vs _ ha hv => exact .inl ⟨a, rfl, ⟨vs, SqL.of (Wd.view_le _ _ ha)⟩, q _ H1 _ i1 x1 k (yl_list ha hv)⟩
theorem di_seqT {PL : List DV → Prop} (h : DE K W Δ te fun e => ∃ ds, e = .dat (.tuple ds) ∧ PL (ds.map DV.dat)) : DI K W Δ (iSeq K te) PL := fun σ H v i R q => by
  refine h σ H v i _ fun x H1 e i1 x1 p1 r1 => ?_
  obtain ⟨ds, rfl, k⟩ := p1
  cases r1 with
  | @tup a vs _ ha hv => exact .inr ⟨a, rfl, ⟨vs, ex_t Wd.view_le ha⟩, q _ H1 _ i1 x1 k (yl_tup ha hv)⟩
end
section
variable {X : Cx} {tg : Expr}
theorem pi_seq {l : Expr} {tl : TE} (hl : PE X l tl) : PI X tg l (iSeq X.K tl) := by
  constructor
  intro pins s σ H R I h
  apply thn (hl.run pins s σ H _ I h)
  rintro v s1 ⟨x, H1, I1, r1, q1⟩
  rcases q1 with ⟨a, rfl, ⟨xs, hq⟩, q⟩ | ⟨a, rfl, ⟨xs, hq⟩, q⟩
  · obtain rfl : v = .ref a := r1
    obtain ⟨its, rv, p, hz⟩ := I1.list hq
    refine wpAny_pyIter_list p.isList ?_
    have hn : H1 s1.heap.objs.size = none := I1.hok.fresh (Nat.le_refl _)
    exact ⟨s1.heap.objs.size, [s1.heap.objs.size], _, _, H1, rfl, I1.kept (t' := s1.toks) (fun b o e => Heap.get?_push_of_some _ e), turn_list a _, ⟨_, Heap.get?_push_size _ rfl, rfl, rfl⟩, fun b hb => by
      have e : b = s1.heap.objs.size := by simpa using hb
      rw [e]
      exact I1.fpOk (Nat.le_refl _) hn, q⟩
  · obtain rfl : v = .ref a := r1
    obtain ⟨its, rv, p, hz⟩ := I1.tuple hq
    have hn : H1 s1.heap.objs.size = none := I1.hok.fresh (Nat.le_refl _)
    refine wpAny_pyIter_tuple (show s1.heap.IsTuple a its.toArray from p) ?_
    exact ⟨s1.heap.objs.size, [s1.heap.objs.size], _, _, H1, rfl, I1.kept (t' := s1.toks) (fun b o e => Heap.get?_push_of_some _ e), turn_tuple a _, ⟨_, Heap.get?_push_size _ rfl, rfl, rfl⟩, fun b hb => by
      have e : b = s1.heap.objs.size := by simpa using hb
      rw [e]
      exact I1.fpOk (Nat.le_refl _) hn, q⟩
/-- products of ints, repeated lists -/
def rMulX : R2 := fun x y H Q => (rI CMul fun i j => .int (i * j)) x y H Q ∨ rRep x y H Q
theorem op_mulX : OpR X (binaryOp .Mult) rMulX := op_mul.or op_rep
theorem hu65 {k : Nat} {A : Around} (r : Room k A) : A.units + 65 < cLine := by
  have := r.un
  omega
theorem pe_revX {e : Expr} {te : TE} {k : Nat} {p1 p2 p3 pos : Pos} (he : PE X e te) : PE X (.Subscript e (.Slice none none (some (.UnaryOp .USub (.Constant (.int 1) k p1) p2)) p3) pos) (tRevL X.K te) := pe_revL he
end
section
variable {K : PySem.W.Frag} {w : World} {W : Wd} {Δ : DEnv} {te : TE} {P : DV → Prop}
theorem opd_mulI {i j : Int} (hc : CMul i j) (k : P (.dat (.int (i * j)))) : OpD K W rMulX (.dat (.int i)) (.dat (.int j)) P := fun x y H iv rx ry Q q => .inl (opd_IC hc k x y H iv rx ry Q q)
end
end Ka
namespace Ka
theorem perm_len {α : Type} {n m : Nat} {ix : List Nat} {us ws : List α} (hm : m ≠ 0) (h : (perm n ix us ws).length = m) : us = [] ∧ ws.length = n := by
  unfold perm at h
  by_cases c : us.length = 0 ∧ ws.length = n
  · exact ⟨List.eq_nil_of_length_eq_zero c.1, c.2⟩
  · rw [if_neg c] at h
    exact absurd h.symm hm
end Ka
namespace Ka
open PySem PySem.Spec PyProof.Rows L2
section
variable {CX : CXT} {P : Program} {w : World} {K : PySem.W.Frag} {mg : Str → Option Value} {base : Heap} {N : List Str} {qual : Str} {scope : Scope} {f : Addr} {cd : Value} {A : Around} {outer : List Env} {s : Shared} {H : Hp} {E : XK}
theorem cx_K : (cxOf CX P w K mg base N qual scope f cd A outer s H E).nox.K = K := rfl
theorem cx_w : (cxOf CX P w K mg base N qual scope f cd A outer s H E).nox.w = w := rfl
end
end Ka
namespace Ka
open PySem PySem.Spec PyProof.Rows L2 Evl
section
variable {K : PySem.W.Frag} {W : Wd} {Δ : DEnv} {te : TE} {nx bk ct : Wd → DEnv → Prop} {rt : Wd → DV → Prop}
theorem ds_asg {g : TG} (h : DE K W Δ te fun e => ∃ Δ' js, Tg K g e Δ Δ' js ∧ nx W Δ') : DS K W Δ (tAsg te g) nx rt bk ct := fun σ H D v i' c =>
  h σ H v i' _ fun x H1 e i1 x1 p1 r1 => by
    obtain ⟨Δ', js, ht, k⟩ := p1
    exact ht W σ H1 x _ (v.mono x1) r1 fun σ' v' _ => c.nx W Δ' σ' H1 k i1 x1 v'
/-- x, y = e, f -/
theorem ds_par {i j : Nat} {ta : TA} (h : DA K W Δ ta fun es => ∃ a b, es = [a, b] ∧ nx W ((Δ.set i (some a)).set j (some b))) : DS K W Δ (tPar i j ta) nx rt bk ct := fun σ H D v i' c =>
  h σ H v i' _ fun xs H1 es i1 x1 p1 r1 => by
    obtain ⟨a, b, rfl, k⟩ := p1
    obtain ⟨x, y, rfl, rx, ry⟩ := reps2 r1
    exact ⟨x, y, rfl, c.nx W _ _ H1 k i1 x1 (((v.mono x1).set rx).set ry)⟩
theorem tg_tup3 {i j k : Nat} {a b c : PyData} : Tg K (gTup K 3 (gCons (gName i) (gCons (gName j) (gCons (gName k) gNil)))) (.dat (.tuple [a, b, c])) Δ (((Δ.set i (some (.dat a))).set j (some (.dat b))).set k (some (.dat c))) ([i] ++ ([j] ++ ([k] ++ []))) :=
  tg_tup rfl (tgs_cons tg_name (tgs_cons tg_name (tgs_cons tg_name tgs_nil)))
theorem tg_tup2 {i j : Nat} {a b : PyData} : Tg K (gTup K 2 (gCons (gName i) (gCons (gName j) gNil))) (.dat (.tuple [a, b])) Δ ((Δ.set i (some (.dat a))).set j (some (.dat b))) ([i] ++ ([j] ++ [])) :=
  tg_tup rfl (tgs_cons tg_name (tgs_cons tg_name tgs_nil))
end
end Ka
namespace Ka
open PySem PySem.Spec PyProof.Rows L2 Evl
section
variable {X : Cx} {K : PySem.W.Frag} {w : World}
theorem op_addK (e : X.K = K) : OpR X (binaryOp .Add) (rAddX K) := by subst e; exact op_addX
/-- equal: data that are laid out, or two texts -/
def rEqS (K : PySem.W.Frag) : R2 := fun x y H Q => rEqD K x y H Q ∨ rEq x y H Q
def rNeS (K : PySem.W.Frag) : R2 := fun x y H Q => rNeD K x y H Q ∨ rNe x y H Q
theorem op_eqK (e : X.K = K) (hu : X.A.units + 64 < cLine) : OpR X (compareOp .Eq) (rEqS K) := by
  subst e
  intro pins s σ H x y v u Q I rx ry h
  rcases h with h | h
  · exact op_eqD hu pins s σ H x y v u Q I rx ry h
  · exact op_eq pins s σ H x y v u Q I rx ry h
theorem op_neK (e : X.K = K) (hu : X.A.units + 64 < cLine) : OpR X (compareOp .NotEq) (rNeS K) := by
  subst e
  intro pins s σ H x y v u Q I rx ry h
  rcases h with h | h
  · exact op_neD hu pins s σ H x y v u Q I rx ry h
  · exact op_ne pins s σ H x y v u Q I rx ry h
theorem opd_eq {W : Wd} {P : DV → Prop} {d e : PyData} (h1 : SeqAt.shaped d = true) (h2 : SeqAt.shaped e = true) (k : P (.dat (.bool (PyData.eqv d e)))) : OpD K W (rEqS K) (.dat d) (.dat e) P := fun x y H iv rx ry Q q => .inl (opd_eq0 h1 h2 k x y H iv rx ry Q q)
theorem opd_ne {W : Wd} {P : DV → Prop} {d e : PyData} (h1 : SeqAt.shaped d = true) (h2 : SeqAt.shaped e = true) (k : P (.dat (.bool (!PyData.eqv d e)))) : OpD K W (rNeS K) (.dat d) (.dat e) P := fun x y H iv rx ry Q q => .inl (opd_ne0 h1 h2 k x y H iv rx ry Q q)
theorem opd_eqS {W : Wd} {P : DV → Prop} {a b : Str} (k : P (.dat (.bool (decide (a = b))))) : OpD K W (rEqS K) (.dat (.str a)) (.dat (.str b)) P := fun x y H iv rx ry Q q => by
  cases rx
  cases ry
  refine .inr ⟨rfl, q _ H _ iv (Ex.refl _) k ?_⟩
  rw [show decide (V.str a = V.str b) = decide (a = b) from decide_eq_decide.mpr (by rw [V.str.injEq])]
  exact .bl _
theorem opd_neS {W : Wd} {P : DV → Prop} {a b : Str} (k : P (.dat (.bool (!decide (a = b))))) : OpD K W (rNeS K) (.dat (.str a)) (.dat (.str b)) P := fun x y H iv rx ry Q q => by
  cases rx
  cases ry
  refine .inr ⟨rfl, q _ H _ iv (Ex.refl _) k ?_⟩
  rw [show decide (V.str a = V.str b) = decide (a = b) from decide_eq_decide.mpr (by rw [V.str.injEq])]
  exact .bl _
theorem sl_K (e : X.K = K) : SlR X (rSlX K) := by subst e; exact sl_X
theorem cr_lenK (e : X.K = K) : CallR X (.builtin "len") (rLenX K) := by subst e; exact cr_lenX
theorem cr_tupK (e : X.K = K) : CallR X (.type "tuple") (rTupX K) := by subst e; exact cr_tupX
theorem cr_lstK (e : X.K = K) : CallR X (.type "list") (rLstX K) := by subst e; exact cr_lstX
theorem cr_allK (e : X.K = K) (hc : X.calm = true) : CallR X (.builtin "all") (rAll K) := by subst e; exact cr_all hc
theorem cr_isiK (e : X.K = K) : CallR X (.builtin "isinstance") (rIsi K) := by subst e; exact call_isi
theorem cr_reprK (e : X.K = K) (hg : X.A.guards = some []) (hu : X.A.units + 64 < cLine) : CallR X (.builtin "repr") (rRepr K) := by subst e; exact cr_repr hg hu
theorem ix_K (e : X.K = K) : IxR X (rIx K) := by subst e; exact ix_seq
theorem pi_seqK {tg l : Expr} {tl : TE} (e : X.K = K) (hl : PE X l tl) : PI X tg l (iSeq K tl) := by subst e; exact pi_seq hl
theorem pg_tupK {ts : List Expr} {t : TGs} {n : Nat} {x1 : Nat} {pos : Pos} (e : X.K = K) (h : PG X (.Tuple ts x1 pos) (gTup X.K n t)) : PG X (.Tuple ts x1 pos) (gTup K n t) := by subst e; exact h
theorem pe_revK {e : Expr} {te : TE} {k : Nat} {p1 p2 p3 pos : Pos} (e1 : X.K = K) (he : PE X e te) : PE X (.Subscript e (.Slice none none (some (.UnaryOp .USub (.Constant (.int 1) k p1) p2)) p3) pos) (tRevL K te) := by subst e1; exact pe_revX he
end
end Ka

/-! Ka7: the deck: a dict with a list of ints, apart from all else; what a draw does to it is of no matter. -/
namespace Ka
open PySem PySem.Spec PyProof.Rows L2 Evl
def deckO (c : Addr) (m k : Int) : HO := .dK [(Sum.inr ("cells" : Str), .ref c), (Sum.inr ("mixed" : Str), .int m), (Sum.inr ("draws" : Str), .int k)]
structure HasDeck (W : Wd) (d c : Addr) : Prop where
  hd : W.hid d = true
  hc : W.hid c = true
  ne : d ≠ c
  get : ∀ H, W.inv H → ∃ (ns : List Int) (m k : Int), H d = some (deckO c m k) ∧ H c = some (.lst (ns.map V.int)) ∧ ns.length ≤ 64
  put : ∀ (H H' : Hp) (ns : List Int) (m k : Int), W.inv H → (∀ a, a ≠ d → a ≠ c → H' a = H a) → H' d = some (deckO c m k) → H' c = some (.lst (ns.map V.int)) → ns.length ≤ 64 → W.inv H'
theorem vw_off {hid : Addr → Bool} {d c : Addr} (hd : hid d = true) (hc : hid c = true) {H H' : Hp} (h : ∀ a, a ≠ d → a ≠ c → H' a = H a) : vw hid H' = vw hid H := by
  funext a
  unfold vw
  by_cases e1 : a = d
  · rw [e1, if_pos hd, if_pos hd]
  · by_cases e2 : a = c
    · rw [e2, if_pos hc, if_pos hc]
    · rw [h a e1 e2]
theorem HasDeck.hide {W : Wd} {d c : Addr} (h : HasDeck W d c) {l : Addr} {φ : Kn} : HasDeck (W.hide l φ) d c where
  hd := hidAnd_of h.hd
  hc := hidAnd_of h.hc
  ne := h.ne
  get H i := by
    obtain ⟨i1, _⟩ := i
    obtain ⟨ns, m, k, h1, h2, h3⟩ := h.get _ i1
    exact ⟨ns, m, k, del_le _ _ h1, del_le _ _ h2, h3⟩
  put H H' ns m k i off h1 h2 h3 := by
    obtain ⟨i1, o, ho, p⟩ := i
    obtain ⟨ns0, m0, k0, g1, g2, _⟩ := h.get _ i1
    have nd : d ≠ l := fun e => by
      rw [e, del_self] at g1
      cases g1
    have nc : c ≠ l := fun e => by
      rw [e, del_self] at g2
      cases g2
    have off' : ∀ a, a ≠ d → a ≠ c → del H' l a = del H l a := fun a e1 e2 => by
      by_cases e : a = l
      · rw [e, del_self, del_self]
      · rw [del_ne e, del_ne e, off a e1 e2]
    refine ⟨h.put (del H l) (del H' l) ns m k i1 off' (by rw [del_ne nd]; exact h1) (by rw [del_ne nc]; exact h2) h3, o, by rw [off l nd.symm nc.symm]; exact ho, ?_⟩
    rw [vw_off h.hd h.hc off']
    exact p
theorem HasDeck.hid {W W' : Wd} {d c : Addr} (h : HasDeck W d c) (e : Hid W W') : HasDeck W' d c := by
  obtain ⟨p, φ, rfl, _⟩ := e
  exact h.hide
/-- the deck as it stands -/
def Wd.exact (W : Wd) {d c : Addr} (h : HasDeck W d c) (ns : List Int) (m k : Int) : Wd where
  hid := W.hid
  inv H := W.inv H ∧ H d = some (deckO c m k) ∧ H c = some (.lst (ns.map V.int))
  loc H H' e x i := ⟨W.loc H H' e x i.1, by rw [e d h.hd]; exact i.2.1, by rw [e c h.hc]; exact i.2.2⟩
  live H a i q := W.live H a i.1 q
section
variable {K : PySem.W.Frag} {W : Wd} {d c : Addr} (hk : HasDeck W d c) {ns : List Int} {m k : Int} {Δ : DEnv} {te ta tb : TE} {t : TS} {P : DV → Prop} {nx bk ct : Wd → DEnv → Prop} {rt : Wd → DV → Prop} {i j : Nat}
theorem Le.exact : Wd.Le W (W.exact hk ns m k) := fun H i => ⟨i.1, Ex.refl _⟩
theorem ds_exact (h : ∀ ns m k, ns.length ≤ 64 → DS K (W.exact hk ns m k) Δ t nx rt bk ct) : DS K W Δ t nx rt bk ct := fun σ H D v i cn => by
  obtain ⟨ns, m, k, h1, h2, h3⟩ := hk.get H i
  exact h ns m k h3 σ H D v ⟨i, h1, h2⟩ ⟨cn.nx, cn.rt, cn.bk, cn.ct⟩
theorem exact_put {H H' : Hp} {ns' : List Int} {m' k' : Int} (i : (W.exact hk ns m k).inv H) (off : ∀ a, a ≠ d → a ≠ c → H' a = H a) (h1 : H' d = some (deckO c m' k')) (h2 : H' c = some (.lst (ns'.map V.int))) (h3 : ns'.length ≤ 64) :
    (W.exact hk ns' m' k').inv H' ∧ (W.exact hk ns' m' k').view H' = (W.exact hk ns m k).view H :=
  ⟨⟨hk.put H H' ns' m' k' i.1 off h1 h2 h3, h1, h2⟩, vw_off hk.hd hk.hc off⟩
theorem de_mixed (hi : Δ[i]? = some (some (.raw (.ref d)))) (q : P (.dat (.int m))) : DE K (W.exact hk ns m k) Δ (tDGet (tVar i) (tC (.str "mixed"))) P := fun σ H v iv Q qq => by
  obtain ⟨x, h1, h2⟩ := v.at_ i _ hi
  have h2 : x = .ref d := h2
  subst h2
  exact ⟨.ref d, h1, d, .int m, rfl, .inl ⟨_, Sum.inr "mixed", .inl iv.2.1, rfl, rfl⟩, qq _ H _ iv (Ex.refl _) q (.int m)⟩
theorem de_draws (hi : Δ[i]? = some (some (.raw (.ref d)))) (q : P (.dat (.int k))) : DE K (W.exact hk ns m k) Δ (tDGet (tVar i) (tC (.str "draws"))) P := fun σ H v iv Q qq => by
  obtain ⟨x, h1, h2⟩ := v.at_ i _ hi
  have h2 : x = .ref d := h2
  subst h2
  exact ⟨.ref d, h1, d, .int k, rfl, .inl ⟨_, Sum.inr "draws", .inl iv.2.1, rfl, rfl⟩, qq _ H _ iv (Ex.refl _) q (.int k)⟩
theorem de_cells (hi : Δ[i]? = some (some (.raw (.ref d)))) (q : P (.raw (.ref c))) : DE K (W.exact hk ns m k) Δ (tDGet (tVar i) (tC (.str "cells"))) P := fun σ H v iv Q qq => by
  obtain ⟨x, h1, h2⟩ := v.at_ i _ hi
  have h2 : x = .ref d := h2
  subst h2
  exact ⟨.ref d, h1, d, .ref c, rfl, .inl ⟨_, Sum.inr "cells", .inl iv.2.1, rfl, rfl⟩, qq _ H _ iv (Ex.refl _) q rfl⟩
theorem ds_draws (hi : Δ[i]? = some (some (.raw (.ref d)))) (hl : ns.length ≤ 64) (h : DE K (W.exact hk ns m k) Δ te fun e => ∃ n, e = .dat (.int n) ∧ nx (W.exact hk ns m n) Δ) : DS K (W.exact hk ns m k) Δ (sDPut (tVar i) (tC (.str "draws")) te) nx rt bk ct := fun σ H D v iv cn => by
  refine h σ H v iv _ fun y H1 e i1 x1 p1 r1 => ?_
  obtain ⟨n, rfl, q⟩ := p1
  cases r1
  obtain ⟨x, h1, h2⟩ := (v.mono x1).at_ i _ hi
  have h2 : x = .ref d := h2
  subst h2
  obtain ⟨z1, z2⟩ := exact_put hk (ns' := ns) (m' := m) (k' := n) i1 (H' := upd H1 d (deckO c m n)) (fun a e1 _ => upd_ne e1) upd_same (by rw [upd_ne hk.ne.symm]; exact i1.2.2) hl
  refine ⟨.ref d, h1, d, upd H1 d (deckO c m n), rfl, .inl ⟨_, Sum.inr "draws", i1.2.1, rfl, by show 3 < sizeLine; decide, ?_⟩, ?_⟩
  · congr 1
  · refine cn.nx _ Δ σ _ q z1 ?_ ?_
    · rw [z2]; exact x1
    · rw [z2]; exact v.mono x1
theorem opd_cells (q : P (.dat (.bool (!decide (ns = []))))) : OpD K (W.exact hk ns m k) (rNeS K) (.raw (.ref c)) (.dat (.list [])) P := fun x y H iv rx ry Q qq => by
  have rx : x = .ref c := rx
  subst rx
  have e : PyData.eqv (.list (ns.map PyData.int)) (.list []) = decide (ns = []) := by
    cases ns with
    | nil => simp [PyData.eqv, PyData.eqvAll]
    | cons a r => simp [PyData.eqv, PyData.eqvAll]
  have lay : ∀ l : List Int, PyData.canLayAll0 (l.map PyData.int) = true ∧ PyData.depthAll (l.map PyData.int) = 0 := fun l => by
    induction l with
    | nil => exact ⟨rfl, rfl⟩
    | cons a r ih =>
      refine ⟨?_, ?_⟩
      · show (PyData.canLay0 (.int a) && PyData.canLayAll0 (r.map PyData.int)) = true
        rw [ih.1]
        rfl
      · show max (PyData.depth (.int a)) (PyData.depthAll (r.map PyData.int)) = 0
        rw [ih.2]
        rfl
  refine .inl ⟨.list (ns.map PyData.int), .list [], .lst (SqL.of iv.2.2) (Dqs.dp (Dqs.ints ns)), Dq.dp (Dq.le ry), ?_, by rfl, ?_⟩
  · simp [SeqAt.shaped, PyData.canLay0, (lay ns).1, PyData.depth, (lay ns).2]
  · rw [e]
    exact qq _ H _ iv (Ex.refl _) q (.bl _)
theorem ds_pop {z : Int} (hi : Δ[i]? = some (some (.raw (.ref d)))) (hl : (ns ++ [z]).length ≤ 64) (q : nx (W.exact hk ns m k) (Δ.set j (some (.dat (.int z))))) :
    DS K (W.exact hk (ns ++ [z]) m k) Δ (tAsg (tBM0 K "list" rPop (tDGet (tVar i) (tC (.str "cells")))) (gName j)) nx rt bk ct := fun σ H D v iv cn => by
  obtain ⟨x, h1, h2⟩ := v.at_ i _ hi
  have h2 : x = .ref d := h2
  subst h2
  have hl2 : ns.length ≤ 64 := by
    rw [List.length_append] at hl
    omega
  refine ⟨.ref d, h1, d, .ref c, rfl, .inl ⟨_, Sum.inr "cells", .inl iv.2.1, rfl, rfl⟩, .inl ⟨rfl, _, SqL.of iv.2.2⟩, c, _, .int z, rfl, rfl, iv.2.2, ?_, ?_⟩
  · rw [List.map_append]
    simp
  · have e : ((ns ++ [z]).map V.int).dropLast = ns.map V.int := by
      rw [List.map_append]
      simp
    rw [e]
    obtain ⟨z1, z2⟩ := exact_put hk (ns' := ns) (m' := m) (k' := k) iv (H' := upd H c (.lst (ns.map V.int))) (fun a _ e2 => upd_ne e2) (by rw [upd_ne hk.ne]; exact iv.2.1) upd_same hl2
    refine cn.nx _ _ _ _ q z1 ?_ ?_
    · rw [z2]; exact Ex.refl _
    · rw [z2]; exact v.set (.int z)
theorem ds_push (hi : Δ[i]? = some (some (.raw (.ref d)))) (hl : ns.length < 64) (h : DE K (W.exact hk ns m k) Δ te fun e => ∃ z, e = .dat (.int z) ∧ nx (W.exact hk (ns ++ [z]) m k) Δ) :
    DS K (W.exact hk ns m k) Δ (tDrop (tBM K "list" rAppend (tDGet (tVar i) (tC (.str "cells"))) (tCons te tNil))) nx rt bk ct := fun σ H D v iv cn => by
  obtain ⟨x, h1, h2⟩ := v.at_ i _ hi
  have h2 : x = .ref d := h2
  subst h2
  refine ⟨.ref d, h1, d, .ref c, rfl, .inl ⟨_, Sum.inr "cells", .inl iv.2.1, rfl, rfl⟩, .inl ⟨rfl, _, SqL.of iv.2.2⟩, ?_⟩
  refine h σ H v iv _ fun y H1 e i1 x1 p1 r1 => ?_
  obtain ⟨z, rfl, q⟩ := p1
  cases r1
  refine ⟨c, _, .int z, rfl, rfl, i1.2.2, by rw [List.length_map]; exact sz_lt (by omega), ?_⟩
  have e : ns.map V.int ++ [V.int z] = (ns ++ [z]).map V.int := by rw [List.map_append]; rfl
  rw [e]
  obtain ⟨z1, z2⟩ := exact_put hk (ns' := ns ++ [z]) (m' := m) (k' := k) i1 (H' := upd H1 c (.lst ((ns ++ [z]).map V.int))) (fun a _ e2 => upd_ne e2) (by rw [upd_ne hk.ne]; exact i1.2.1) upd_same (by rw [List.length_append]; show ns.length + 1 ≤ 64; omega)
  refine cn.nx _ Δ σ _ q z1 ?_ ?_
  · rw [z2]; exact x1
  · rw [z2]; exact v.mono x1
end
/-- what _law_deck promises -/
def spDeck (K : PySem.W.Frag) : Sp := fun vs H Q _ => ∃ (a : Addr) (ns : List Int), vs = [.ref a] ∧ SqL K H a (ns.map V.int) ∧ ns.length ≤ 63 ∧
  ∀ (d c : Addr) (m k : Int) (cs : List Int) (H' : Hp), d ≠ c → H d = none → H c = none → Ex H H' → H' d = some (deckO c m k) → H' c = some (.lst (cs.map V.int)) → cs.length ≤ 64 → Q (.ref d) H'
/-- the script stands, nothing is hidden -/
def Wd.script (K : PySem.W.Frag) (a : Addr) (ns : List Int) : Wd where
  hid _ := false
  inv H := SqL K H a (ns.map V.int)
  loc H H' _ e i := ex_l (fun b o h => by
    have := e b o (by unfold vw; rw [if_neg Bool.false_ne_true]; exact h)
    unfold vw at this
    rw [if_neg Bool.false_ne_true] at this
    exact this) i
  live _ _ _ h := by cases h
def knI : Kn := ⟨fun _ o => ∃ ns : List Int, o = .lst (ns.map V.int) ∧ ns.length ≤ 64, fun _ h => h⟩
def knDeck (c : Addr) : Kn := ⟨fun _ o => ∃ m k, o = deckO c m k, fun _ h => h⟩
theorem deck_new {W : Wd} {d c : Addr} (hd : W.hid d = false) (hc : W.hid c = false) (ne : d ≠ c) : HasDeck ((W.hide c knI).hide d (knDeck c)) d c where
  hd := hidAnd_self
  hc := hidAnd_of hidAnd_self
  ne := ne
  get H i := by
    obtain ⟨⟨_, o1, h1, ns, rfl, hl⟩, o2, h2, m, k, rfl⟩ := i
    exact ⟨ns, m, k, h2, del_le _ _ h1, hl⟩
  put H H' ns m k i off h1 h2 h3 := by
    obtain ⟨⟨i1, _⟩, _⟩ := i
    refine ⟨⟨?_, _, by rw [del_ne ne.symm]; exact h2, ns, rfl, h3⟩, _, h1, m, k, rfl⟩
    have e : del (del H' d) c = del (del H d) c := by
      funext a
      by_cases e1 : a = c
      · rw [e1, del_self, del_self]
      · rw [del_ne e1, del_ne e1]
        by_cases e2 : a = d
        · rw [e2, del_self, del_self]
        · rw [del_ne e2, del_ne e2, off a e2 e1]
    rw [e]
    exact i1
theorem ds_deck {K : PySem.W.Frag} {a : Addr} {ns : List Int} {Δ : DEnv} {nx bk ct : Wd → DEnv → Prop} {rt : Wd → DV → Prop} {i j : Nat} (hj : Δ[j]? = some (some (.raw (.ref a)))) (hl : ns.length ≤ 63)
    (k : ∀ W d c, HasDeck W d c → Wd.Le (Wd.script K a ns) W → nx W (Δ.set i (some (.raw (.ref d))))) : DS K (Wd.script K a ns) Δ (tAsg (tCall (spDeck K) [] E0 (tCons (tVar j) tNil)) (gName i)) nx rt bk ct := fun σ H D v iv cn => by
  obtain ⟨x, h1, h2⟩ := v.at_ j _ hj
  have h2 : x = .ref a := h2
  subst h2
  refine ⟨.ref a, h1, a, ns, rfl, iv, hl, fun d c m q cs H' ne hd hc e g1 g2 g3 => ?_⟩
  have no : ∀ b, (Wd.script K a ns).hid b = false := fun _ => rfl
  have hk := deck_new (no d) (no c) ne
  have view : ∀ U : Hp, (Wd.script K a ns).view U = U := fun U => by
    funext b
    show vw _ U b = U b
    rw [vw_of (no b)]
  have i1 : (Wd.script K a ns).inv (del (del H' d) c) := by
    have : Ex H (del (del H' d) c) := fun b o ho => by
      rw [del_ne (ne_of_none ho hc), del_ne (ne_of_none ho hd)]
      exact e b o ho
    exact (Wd.script K a ns).inv_ex iv this
  have i2 : (((Wd.script K a ns).hide c knI).hide d (knDeck c)).inv H' := ⟨⟨i1, _, by rw [del_ne ne.symm]; exact g2, cs, rfl, g3⟩, _, g1, m, q, rfl⟩
  have x2 : Ex ((Wd.script K a ns).view H) ((((Wd.script K a ns).hide c knI).hide d (knDeck c)).view H') := fun b o ho => by
    rw [view] at ho
    show vw (hidAnd (hidAnd (Wd.script K a ns).hid c) d) H' b = some o
    rw [vw_del, vw_del, vw_of (no b), del_ne (ne_of_none ho hc), del_ne (ne_of_none ho hd)]
    exact e b o ho
  refine cn.nx _ _ _ H' (k _ d c hk ?_) i2 x2 ((v.mono x2).set rfl)
  exact ((Wd.Le.refl _).hide (no c)).hide (by
    show hidAnd (Wd.script K a ns).hid c d = false
    exact hidAnd_ne (no d) ne)
end Ka
namespace Ka
open PySem PySem.Spec PyProof.Rows L2 Evl
section
variable {K : PySem.W.Frag} {a : Addr} {ns : List Int} {P : DV → Prop}
theorem cutV_map (ns : List Int) (lo hi : Option Int) : cutV (ns.map V.int) lo hi = (cutG ns lo hi).map V.int := by
  unfold cutV cutG
  rw [List.length_map, List.map_take, List.map_drop]
theorem cut_len {α : Type} (xs : List α) (lo hi : Option Int) : (cutG xs lo hi).length ≤ xs.length := by
  unfold cutG
  rw [List.length_take, List.length_drop]
  omega
/-- the last row of _law_deck: the dict and its list -/
theorem ret_deck {σ : L2.St} {H : Hp} {Q : VK} {m : Int} (hl : ns.length ≤ 63) (iv : SqL K H a (ns.map V.int)) (g1 : σ[0]? = some (some (.ref a))) (g3 : σ[1]? = some (some (.int m)))
    (q : ∀ (d c : Addr) (m k : Int) (cs : List Int) (H' : Hp), d ≠ c → H d = none → H c = none → Ex H H' → H' d = some (deckO c m k) → H' c = some (.lst (cs.map V.int)) → cs.length ≤ 64 → Q (.ref d) H') :
    tDisp [(tC (.str "cells"), tRevL K (tCB (rLstX K) (tCons (tSl (rSlX K) (tVar 0) tNoPart (tPart (tC (.int 63)))) tNil))), (tC (.str "mixed"), tVar 1), (tC (.str "draws"), tC (.int 0))] σ H Q := by
  intro d hd
  refine ⟨.ref a, g1, 63, rfl, .inl ⟨a, ns.map V.int, rfl, ex_l (Ex.new hd) iv, fun p hp => ?_⟩⟩
  rw [cutV_map]
  have pd : p ≠ d := fun e => by
    rw [e, upd_same] at hp
    cases hp
  refine ⟨p, _, rfl, .inl (SqL.of upd_same), fun l hl2 => ?_⟩
  have ld : l ≠ d := fun e => by
    rw [e, upd_ne pd.symm, upd_same] at hl2
    cases hl2
  refine ⟨l, _, rfl, SqL.of upd_same, fun c hc => ?_⟩
  have cd : c ≠ d := fun e => by
    rw [e, upd_ne ld.symm, upd_ne pd.symm, upd_same] at hc
    cases hc
  have e1 := Ex.new (o := HO.dK []) hd
  have e2 := Ex.new (o := HO.lst ((cutG ns none (some 63)).map V.int)) hp
  have e3 := Ex.new (o := HO.lst ((cutG ns none (some 63)).map V.int)) hl2
  have e4 := Ex.new (o := HO.lst ((cutG ns none (some 63)).map V.int).reverse) hc
  have all := ((e1.trans e2).trans e3).trans e4
  refine ⟨.int m, g3, ?_, [(Sum.inr "cells", .ref c), (Sum.inr "mixed", .int m), (Sum.inr "draws", .int 0)], rfl, by show 3 ≤ 15; decide, ?_⟩
  · rw [upd_ne cd.symm, upd_ne ld.symm, upd_ne pd.symm, upd_same]
  · refine q d c m 0 (cutG ns none (some 63)).reverse _ cd.symm hd (fresh_back ((e1.trans e2).trans e3) hc) (all.mut hd) ?_ ?_ ?_
    · rw [upd_same]
      rfl
    · rw [upd_ne cd, upd_same, List.map_reverse]
    · rw [List.length_reverse]
      have := cut_len ns none (some 63)
      omega
theorem asg_by {te : TE} {i : Nat} {D : Ends} {σ : L2.St} {H : Hp} (h : te σ H fun x H1 => D.nx (σ.set i (some x)) H1) : tAsg te (gName i) D σ H := h
theorem top_view {H : Hp} : Wd.top.view H = H := by
  funext b
  exact vw_of rfl
end
end Ka
namespace Ka
open PySem PySem.Spec PyProof.Rows L2 Evl
section
variable {K : PySem.W.Frag} {W : Wd} {Δ : DEnv} {te : TE} {ta : TA} {u : TS} {nx bk ct : Wd → DEnv → Prop} {rt : Wd → DV → Prop} {i j : Nat} {g : TG}
theorem dq_set (h : DE K W Δ te fun e => DS K W (Δ.set i (some e)) u nx rt bk ct) : DS K W Δ (tSeq (tAsg te (gName i)) u) nx rt bk ct := ds_seq (ds_set h)
theorem dq_asg (h : DE K W Δ te fun e => ∃ Δ' js, Tg K g e Δ Δ' js ∧ DS K W Δ' u nx rt bk ct) : DS K W Δ (tSeq (tAsg te g) u) nx rt bk ct := ds_seq (ds_asg h)
theorem dq_par (h : DA K W Δ ta fun es => ∃ a b, es = [a, b] ∧ DS K W ((Δ.set i (some a)).set j (some b)) u nx rt bk ct) : DS K W Δ (tSeq (tPar i j ta) u) nx rt bk ct := ds_seq (ds_par h)
theorem dq_drop (h : DE K W Δ te fun _ => DS K W Δ u nx rt bk ct) : DS K W Δ (tSeq (tDrop te) u) nx rt bk ct := ds_seq (ds_drop h)
end
end Ka
namespace Ka
open PySem PySem.Spec PyProof.Rows L2 Evl
section
variable {X : Cx}
theorem cr_max2 (hc : X.calm = true) : CallR X (.builtin "max") rMax2 := call_max2 hc
theorem cr_min2 (hc : X.calm = true) : CallR X (.builtin "min") rMin2 := call_min2 hc
end
end Ka
namespace Ka
open PySem PySem.Spec PyProof.Rows L2 Evl
section
variable {K : PySem.W.Frag} {W : Wd} {Δ : DEnv} {tt : TT} {t u : TS} {nx bk ct : Wd → DEnv → Prop} {rt : Wd → DV → Prop}
/-- if tt: t, then the rest, which is shown once: from φ where the test fails -/
theorem dq_when (φ : Prop) (h : DT K W Δ tt fun b => (b = true → DS K W Δ t (fun W' Δ' => DS K W' Δ' u nx rt bk ct) rt bk ct) ∧ (b = false → φ)) (rest : φ → DS K W Δ u nx rt bk ct) : DS K W Δ (tSeq (tIfS tt t tNext) u) nx rt bk ct :=
  ds_seq (ds_if (h.mono fun b hb => ⟨hb.1, fun e => ds_next (rest (hb.2 e))⟩))
end
end Ka
namespace Ka
open PySem PySem.Spec PyProof.Rows L2 Evl
/-- a value as a test -/
def tTru (K : PySem.W.Frag) (ta : TE) : TT := fun σ H Q => ta σ H fun x H' => ∃ k, TruV K x H' k ∧ Q k H'
theorem pt_truK {X : Cx} {K : PySem.W.Frag} {a : Expr} {ta : TE} (e : X.K = K) (ha : PE X a ta) (he : ∀ whole, isTrue a X.env whole = (do let v ← whole; standAt a.pos; holding [v] (truthy v))) : PT X a (tTru K ta) := by
  subst e
  exact pt_truth ha he
def truD : PyData → Bool
  | .none => false
  | .bool b => b
  | .int i => i != 0
  | .str z => (z.length : Int) != 0
  | .list ds => !ds.isEmpty
  | .tuple ds => !ds.isEmpty
  | .dict _ => false
theorem dqs_empty {K : PySem.W.Frag} {H : Hp} {vs : List V} {ds : List PyData} (h : Dqs K H vs ds) : vs.isEmpty = ds.isEmpty := by
  cases h <;> rfl
theorem dt_tru {K : PySem.W.Frag} {W : Wd} {Δ : DEnv} {te : TE} {PB : Bool → Prop} (h : DE K W Δ te fun e => ∃ d, e = .dat d ∧ (∀ z, d = .str z → z.length ≤ 100000) ∧ PB (truD d)) : DT K W Δ (tTru K te) PB := fun σ H v i Q q =>
  h σ H v i _ fun x H1 e i1 x1 p1 r1 => by
    obtain ⟨d, rfl, hz, k⟩ := p1
    refine ⟨truD d, ?_, q _ H1 i1 x1 k⟩
    cases r1 with
    | non => rfl
    | bl b => rfl
    | int i => rfl
    | str z => exact ⟨sz_of (hz z rfl), rfl⟩
    | @lst a vs ds ha hv => exact .inl ⟨vs, SqL.of (Wd.view_le _ _ ha), by rw [dqs_empty hv]; rfl⟩
    | @tup a vs ds ha hv => exact .inr (.inl ⟨vs, ex_t Wd.view_le ha, by rw [dqs_empty hv]; rfl⟩)
theorem perm_reps {K : PySem.W.Frag} (n : Nat) (ix : List Nat) : ∀ (H : Hp) (vs zs : List V) (es fs : List DV), Reps K H vs es → Reps K H zs fs → Reps K H (perm n ix vs zs) (perm n ix es fs) := fun _ _ _ _ _ h1 h2 => perm_rel n ix h1 h2
theorem law_start {K : PySem.W.Frag} {C : Con} (hC : ∀ a ns, ns.length ≤ 63 → C (Wd.script K a ns) [.raw (.ref a)] fun e => e = .dat (.bool true)) {H : Hp} {a : Addr} {ns : List Int} (hl : ns.length ≤ 63) (hS : SqL K H a (ns.map V.int)) :
    SpC K C [.ref a] H (fun v _ => v = .bl true) fun _ _ _ => False :=
  ⟨Wd.script K a ns, _, _, hC a ns hl, hS, .cons rfl .nil, fun v H' e _ _ h r => by
    subst h
    cases r
    rfl⟩
end Ka

namespace Ka
open PySem PySem.Spec PyProof.Rows L2 Evl
/-! ### data as keys -/
mutual
def kd : PyData → NestedKey
  | .none => .none
  | .bool b => .num (if b = true then 1 else 0)
  | .int i => .num i
  | .str x => .text x
  | .tuple ds => .tup (kds ds)
  | .list _ => .none
  | .dict _ => .none
def kds : List PyData → List NestedKey
  | [] => []
  | d :: ds => kd d :: kds ds
end
mutual
def okKey : PyData → Bool
  | .tuple ds => okKeys ds
  | .list _ => false
  | .dict _ => false
  | .none => true
  | .bool _ => true
  | .int _ => true
  | .str _ => true
def okKeys : List PyData → Bool
  | [] => true
  | d :: ds => okKey d && okKeys ds
end
/-- a tuple that may be a key -/
def TupKey (d : PyData) : Prop := (∃ ds, d = .tuple ds) ∧ okKey d = true ∧ (kd d).depth ≤ 8
section
variable {X : Cx} {pins : List (Addr × Obj)} {σ : L2.St} {H : Hp} {s : Shared}
mutual
theorem key_is (I : Inv X pins σ H s) : ∀ {v : V} {d : PyData} {u : Value}, Dq X.K H v d → okKey d = true → RelV v u → NestedIs s.heap (kd d) u
  | _, _, _, .non, _, r => by
    cases r
    exact .none
  | _, _, _, .bl b, _, r => by
    cases r
    exact .bool rfl
  | _, _, _, .int i, _, r => by
    obtain ⟨t, rfl⟩ := r
    exact .int i t
  | _, _, _, .str x, _, r => by
    obtain ⟨t, rfl⟩ := r
    exact .text x t
  | _, _, _, .tup h hs, o, r => by
    cases r
    obtain ⟨its, rv, ⟨ob, ho, hc, n, hd⟩, _⟩ := I.tuple h
    exact .tup ho hc hd (keys_are I hs o rv)
theorem keys_are (I : Inv X pins σ H s) : ∀ {vs : List V} {ds : List PyData} {us : List Value}, Dqs X.K H vs ds → okKeys ds = true → Vals vs us → NestedAll s.heap (kds ds) us
  | _, _, _, .nil, _, r => by
    cases r
    exact .nil
  | _, _, _, .cons h hs, o, r => by
    cases r with
    | cons r1 r2 =>
      rw [okKeys, Bool.and_eq_true] at o
      exact .cons (key_is I h o.1 r1) (keys_are I hs o.2 r2)
end
theorem key_at (I : Inv X pins σ H s) {b : Addr} {d : PyData} (h : Dq X.K H (.ref b) d) (t : TupKey d) : Ks.KeyAt s.heap (kd d) b := ⟨key_is I h t.2.1 rfl, t.2.2⟩
/-- the set at a -/
def SetKO (w : World) (a : Addr) (L : List (Addr × NestedKey)) : HO := .ext fun h => ∃ es ep t, Ks.SN w h a L es ep t
theorem setKO_new {w : World} {P : Program} {h : Heap} {a : Addr} {L : List (Addr × NestedKey)} {es : Array (Int × Value)} {ep : Nat} {t : SetTable} (R : Ks.SN w h a L es ep t) : ObjOk P w H h a (SetKO w a L) := by
  obtain ⟨o, ho, r⟩ := R.ob
  exact ⟨⟨es, ep, t, R⟩, ⟨o, ho⟩, fun h1 h2 ⟨es, ep, t, p⟩ k => ⟨es, ep, t, p.keep k⟩⟩
/-- the members, each with what it stands for -/
def SetSays (K : PySem.W.Frag) (U : Hp) (ds : List PyData) (L : List (Addr × NestedKey)) : Prop := (∀ p ∈ L, ∃ d ∈ ds, p.2 = kd d ∧ Dq K U (.ref p.1) d) ∧ ∀ d ∈ ds, kd d ∈ L.map (·.2)
theorem keys_split {K : PySem.W.Frag} {U : Hp} : ∀ {vs : List V} {ds : List PyData}, Dqs K U vs ds → (∀ d ∈ ds, TupKey d) → ∃ ks : List (Addr × NestedKey), vs = ks.map (fun p => V.ref p.1) ∧ ks.map (·.2) = ds.map kd ∧ ∀ p ∈ ks, ∃ d ∈ ds, p.2 = kd d ∧ Dq K U (.ref p.1) d
  | _, _, .nil, _ => ⟨[], rfl, rfl, nofun⟩
  | _, _, .cons (v := v) (d := d) h hs, t => by
    obtain ⟨ks, e1, e2, e3⟩ := keys_split hs fun x m => t x (List.mem_cons_of_mem _ m)
    obtain ⟨⟨es, rfl⟩, _, _⟩ := t d (by simp)
    cases h with
    | @tup a xs _ h1 h2 =>
      refine ⟨(a, kd (.tuple es)) :: ks, by rw [e1]; rfl, by rw [List.map_cons, List.map_cons, e2], fun p m => ?_⟩
      rcases List.mem_cons.mp m with rfl | m
      · exact ⟨_, by simp, rfl, .tup h1 h2⟩
      · obtain ⟨d, m1, m2⟩ := e3 p m
        exact ⟨d, List.mem_cons_of_mem _ m1, m2⟩
/-- set(xs), xs a list or a tuple of tuples -/
def rSetN (w : World) (K : PySem.W.Frag) : List V → Hp → VK → Prop := fun xs H Q => ∃ (l : Addr) (vs : List V) (ds : List PyData) (U : Hp), xs = [.ref l] ∧ (SqL K H l vs ∨ SqT K H l vs) ∧ Ex U H ∧ Dqs K U vs ds ∧ (∀ d ∈ ds, TupKey d) ∧ ds.length < 1000 ∧
  ∀ (a : Addr) (L : List (Addr × NestedKey)), H a = none → SetSays K U ds L → Q (.ref a) (upd H a (SetKO w a L))
theorem vals_refs : ∀ {ks : List (Addr × NestedKey)} {us : List Value}, Vals (ks.map fun p => V.ref p.1) us → us = ks.map fun p => Value.ref p.1
  | [], _, .nil => rfl
  | p :: ks, _, .cons r t => by
    cases r
    rw [vals_refs t]
    rfl
theorem cr_setN (hc : X.calm = true) (hu : X.A.units + 64 < cLine) : CallR X (.type "set") (rSetN X.w X.K) := by
  intro pins s σ H xs us Q I r h
  obtain ⟨l, vs, ds, U, rfl, hl, hU, hd, ht, hz, q⟩ := h
  rw [Vals.ref1 r]
  obtain ⟨ks, e1, e2, e3⟩ := keys_split hd ht
  have hn : H s.heap.objs.size = none := I.hok.fresh (Nat.le_refl _)
  have hk : ∀ p ∈ ks, Ks.KeyAt s.heap p.2 p.1 := fun p m => by
    obtain ⟨d, m1, e, h1⟩ := e3 p m
    rw [e]
    exact key_at I (h1.mono hU) (ht d m1)
  have hlen : ks.length = ds.length := by simpa using congrArg List.length e2
  obtain ⟨its, rv, both⟩ : ∃ its : List Value, Vals vs its ∧ (s.heap.IsList l its.toArray ∨ s.heap.IsTuple l its.toArray) := by
    rcases hl with hl | hl
    · obtain ⟨its, rv, pl, _⟩ := I.list hl
      exact ⟨its, rv, .inl pl.isList⟩
    · obtain ⟨its, rv, pt, _⟩ := I.tuple hl
      exact ⟨its, rv, .inr pt⟩
  rw [e1] at rv
  refine Ks.set_of_keys (P := X.prog) (w := X.w) ks (I.ok.hd hc) both (by simpa using vals_refs rv) hk (by omega) (by omega) fun h' tk L es ep t R g keep => ?_
  refine ⟨.ref s.heap.objs.size, _, I.laid (t' := tk) keep (Nat.le_refl _) (setKO_new R), rfl, q _ L hn ⟨fun p m => e3 p (List.mem_of_mem_take (g.1 p m)), fun d m => ?_⟩⟩
  have : kd d ∈ ks.map (·.2) := by
    rw [e2]
    exact List.mem_map.mpr ⟨d, m, rfl⟩
  obtain ⟨p, m1, m2⟩ := List.mem_map.mp this
  rw [← m2]
  exact g.2.1 p (by rw [List.take_length]; exact m1)
/-- x in s, s a set of tuples -/
def rInN (w : World) (K : PySem.W.Frag) (neg : Bool) : R2 := fun x y H Q => ∃ (b a : Addr) (L : List (Addr × NestedKey)) (ds : List PyData) (d : PyData) (U : Hp), x = .ref b ∧ y = .ref a ∧ H a = some (SetKO w a L) ∧ Ex U H ∧ SetSays K U ds L ∧ (∀ d ∈ ds, TupKey d) ∧ Dq K U (.ref b) d ∧ TupKey d ∧
  Q (.bl (if neg then !decide (kd d ∈ ds.map kd) else decide (kd d ∈ ds.map kd))) H
theorem says_mem {K : PySem.W.Frag} {U : Hp} {ds : List PyData} {L : List (Addr × NestedKey)} (h : SetSays K U ds L) (k : NestedKey) : k ∈ L.map (·.2) ↔ k ∈ ds.map kd := by
  constructor
  · intro m
    obtain ⟨p, m1, rfl⟩ := List.mem_map.mp m
    obtain ⟨d, m2, e, _⟩ := h.1 p m1
    rw [e]
    exact List.mem_map.mpr ⟨d, m2, rfl⟩
  · intro m
    obtain ⟨d, m1, rfl⟩ := List.mem_map.mp m
    exact h.2 d m1
theorem in_any (hu : X.A.units + 64 < cLine) {K : PySem.W.Frag} (eK : X.K = K) {b a : Addr} {L : List (Addr × NestedKey)} {ds : List PyData} {d : PyData} {U : Hp} (I : Inv X pins σ H s) (ha : H a = some (SetKO X.w a L)) (hU : Ex U H) (hs : SetSays K U ds L) (ht : ∀ d ∈ ds, TupKey d) (hd : Dq K U (.ref b) d) (h1 : TupKey d) {E : Value → Shared → Prop} {Q : Bool → Shared → Prop}
    (q : ∀ tk, Q (decide (kd d ∈ ds.map kd)) { s with toks := s.toks + tk }) : wpAny (model X.prog X.w) X.A (contains (.ref a) (.ref b)) Q E s := by
  subst eK
  obtain ⟨es, ep, t, R⟩ := (I.hok a _ ha).1
  refine Ks.has_key R (fun p m => ?_) (key_at I (hd.mono hU) h1) (by omega) ?_
  · obtain ⟨d', m1, e, h2⟩ := hs.1 p m
    rw [e]
    exact key_at I (h2.mono hU) (ht d' m1)
  · rw [show decide (kd d ∈ L.map (·.2)) = decide (kd d ∈ ds.map kd) from decide_eq_decide.mpr (says_mem hs _)]
    exact q _
theorem op_inN (hu : X.A.units + 64 < cLine) : OpR X (compareOp .In) (rInN X.w X.K false) := by
  intro pins s σ H x y v u Q I rx ry h
  obtain ⟨b, a, L, ds, d, U, rfl, rfl, ha, hU, hs, ht, hd, h1, q⟩ := h
  cases rx
  cases ry
  show wpAny _ _ (do return Value.bool (← contains (.ref a) (.ref b))) _ _ s
  exact wpAny_bind (in_any hu rfl I ha hU hs ht hd h1 fun tk => wpAny_pure ⟨.bl _, H, I.tok _, rfl, q⟩)
theorem op_notInN (hu : X.A.units + 64 < cLine) : OpR X (compareOp .NotIn) (rInN X.w X.K true) := by
  intro pins s σ H x y v u Q I rx ry h
  obtain ⟨b, a, L, ds, d, U, rfl, rfl, ha, hU, hs, ht, hd, h1, q⟩ := h
  cases rx
  cases ry
  show wpAny _ _ (do return Value.bool (!(← contains (.ref a) (.ref b)))) _ _ s
  exact wpAny_bind (in_any hu rfl I ha hU hs ht hd h1 fun tk => wpAny_pure ⟨.bl _, H, I.tok _, rfl, q⟩)
/-- sorted(t), t a tuple -/
def rSortedT (K : PySem.W.Frag) : List V → Hp → VK → Prop := fun vs H Q => ∃ (a : Addr) (xs : List V) (ds : List PyData) (U : Hp), vs = [V.ref a] ∧ SqT K H a xs ∧ Ex U H ∧ Dqs K U xs ds ∧ PySem.W.AllAlike ds ∧ PySem.W.Sortable ds ∧ (∀ d ∈ ds, d.depth ≤ 60) ∧
  ∀ (ys : List V) (p : Addr), Dqs K U ys (ds.mergeSort (PySem.W.dataLe false id)) → H p = none → Q (.ref p) (upd H p (.lst ys))
theorem cr_sortedT (hu : X.A.units + 64 < cLine) : CallR X (.builtin "sorted") (rSortedT X.K) := by
  intro pins s σ H vs us Q I r h
  obtain ⟨a, xs, ds, U, rfl, ha, hU, hd, al, so, dep, q⟩ := h
  rw [Vals.ref1 r]
  obtain ⟨its, rv, pt, hz⟩ := I.tuple ha
  obtain ⟨as, rs⟩ := Dp.readsAll I ds xs its (hd.mono hU).dp rv
  have hlen : its.length = ds.length := by rw [← rv.length, hd.length]
  refine Ks.sorted_tup (vs := its) (bs := ds) (enc := id) (R := fun u d => ∃ v, RelV v u ∧ Dq X.K U v d) pt (each_three rv hd) (each_reads rs) (by simpa using al) (by simpa using so) (by rw [← hlen, ← rv.length]; exact hz) (fun d hd' => by have := dep d hd'; show X.A.units + 2 + d.depth < cLine; omega) fun out hol e => ?_
  obtain ⟨ys, ry, hy⟩ := three_back e
  obtain ⟨c, hc⟩ := sortedAll_get s.heap its out
  refine ⟨.ref (s.heap.objs.size + 1), upd H (s.heap.objs.size + 1) (.lst ys), I.laid (t' := s.toks) (fun b o e => PyProof.Rows.sortedAll_old e) (Nat.le_succ _) ⟨?_, out, c, ry, hc⟩, rfl, q ys _ hy (I.hok.fresh (Nat.le_succ _))⟩
  rw [ry.length, hol, ← hlen, ← rv.length]
  exact hz
end
section
variable {X : Cx} {K : PySem.W.Frag} {w : World} {W : Wd} {Δ : DEnv} {P : DV → Prop}
def rSetX (w : World) (K : PySem.W.Frag) : List V → Hp → VK → Prop := fun xs H Q => rSetI w K xs H Q ∨ rSetN w K xs H Q
theorem cr_setX (e : X.K = K) (e2 : X.w = w) (hc : X.calm = true) (hu : X.A.units + 64 < cLine) : CallR X (.type "set") (rSetX w K) := by
  subst e e2
  exact (cr_setI hc).or (cr_setN hc hu)
def rInX (w : World) (K : PySem.W.Frag) (neg : Bool) : R2 := fun x y H Q => rInQ K neg x y H Q ∨ rInN w K neg x y H Q
theorem op_inX (e : X.K = K) (e2 : X.w = w) (hu : X.A.units + 65 < cLine) : OpR X (compareOp .In) (rInX w K false) := by
  subst e e2
  exact (op_inQ hu).or (op_inN (by omega))
theorem op_notInX (e : X.K = K) (e2 : X.w = w) (hu : X.A.units + 65 < cLine) : OpR X (compareOp .NotIn) (rInX w K true) := by
  subst e e2
  exact (op_notInQ hu).or (op_notInN (by omega))
def rSortedY (w : World) (K : PySem.W.Frag) : List V → Hp → VK → Prop := fun vs H Q => rSortedX w K vs H Q ∨ rSortedT K vs H Q
theorem cr_sortedY (e : X.K = K) (e2 : X.w = w) (hc : X.calm = true) (hu : X.A.units + 64 < cLine) : CallR X (.builtin "sorted") (rSortedY w K) := by
  subst e e2
  exact (cr_sortedX hc hu).or (cr_sortedT hu)
theorem tup_ref {H : Hp} {v : V} {d : PyData} (h : Dq K H v d) (t : TupKey d) : ∃ b, v = .ref b := by
  obtain ⟨⟨es, rfl⟩, _⟩ := t
  cases h with
  | tup _ _ => exact ⟨_, rfl⟩
theorem opd_inXL {d : PyData} {ds : List PyData} (h1 : SeqAt.shaped d = true) (h2 : PyData.canLayAll0 ds = true) (k : P (.dat (.bool (ds.any fun z => PyData.eqv z d)))) : OpD K W (rInX w K false) (.dat d) (.dat (.list ds)) P := fun x y H iv rx ry Q q => .inl (opd_inL h1 h2 k x y H iv rx ry Q q)
theorem opd_inXT {d : PyData} {ds : List PyData} (h1 : SeqAt.shaped d = true) (h2 : PyData.canLayAll0 ds = true) (k : P (.dat (.bool (ds.any fun z => PyData.eqv z d)))) : OpD K W (rInX w K false) (.dat d) (.dat (.tuple ds)) P := fun x y H iv rx ry Q q => .inl (opd_inT h1 h2 k x y H iv rx ry Q q)
theorem opd_niXT {d : PyData} {ds : List PyData} (h1 : SeqAt.shaped d = true) (h2 : PyData.canLayAll0 ds = true) (k : P (.dat (.bool (!ds.any fun z => PyData.eqv z d)))) : OpD K W (rInX w K true) (.dat d) (.dat (.tuple ds)) P := fun x y H iv rx ry Q q => .inl (opd_niT h1 h2 k x y H iv rx ry Q q)
theorem cal_setXI {ns : List Int} (hl : ns.length ≤ 1000) (k : ∀ c, c ≤ ns.length → P (.obj fun q => SetO w q (fun j => decide (j ∈ ns)) c)) : CalD K W (rSetX w K) [.dat (.tuple (ns.map PyData.int))] P := fun xs H iv r Q q => .inl (cal_setI hl k xs H iv r Q q)
theorem cal_sortedYL {ds : List PyData} (h1 : PySem.W.AllAlike ds) (h2 : PySem.W.Sortable ds) (h3 : ∀ d ∈ ds, d.depth ≤ 60) (k : P (.dat (.list (ds.mergeSort (PySem.W.dataLe false id))))) : CalD K W (rSortedY w K) [.dat (.list ds)] P := fun xs H iv r Q q => .inl (cal_sortedXL h1 h2 h3 k xs H iv r Q q)
theorem cal_sortedYS {S : Int → Bool} {n : Nat} (hn : n < 64) (k : ∀ ns : List Int, ns.Pairwise (· < ·) → (∀ k : Int, k ∈ ns ↔ S k = true) → ns.length = n → P (.dat (.list (ns.map PyData.int)))) : CalD K W (rSortedY w K) [.obj fun q => SetO w q S n] P := fun xs H iv r Q q => .inl (cal_sortedXS hn k xs H iv r Q q)
theorem cal_sortedYT {ds : List PyData} (h1 : PySem.W.AllAlike ds) (h2 : PySem.W.Sortable ds) (h3 : ∀ d ∈ ds, d.depth ≤ 60) (k : P (.dat (.list (ds.mergeSort (PySem.W.dataLe false id))))) : CalD K W (rSortedY w K) [.dat (.tuple ds)] P := fun xs H iv r Q q => by
  obtain ⟨x, rfl, rx⟩ := reps1 r
  cases rx with
  | @tup a vs _ ha hv =>
    exact .inr ⟨a, vs, ds, W.view H, rfl, ex_t Wd.view_le ha, Wd.view_le, hv, h1, h2, h3, fun ys p hy hp => q _ _ _ (Wd.inv_new iv hp) (Wd.view_ex (Ex.new hp)) k (Dq.newL iv hp hy)⟩
end
end Ka

namespace Ka
open PySem PySem.Spec PyProof.Rows L2 Evl
section
variable {K : PySem.W.Frag} {W : Wd} {Δ : DEnv} {te ta tb : TE} {P : DV → Prop} {nx bk ct : Wd → DEnv → Prop} {rt : Wd → DV → Prop}
theorem Dqs.rev {H : Hp} {vs : List V} {ds : List PyData} (h : Dqs K H vs ds) : Dqs K H vs.reverse ds.reverse := by
  induction vs generalizing ds with
  | nil =>
    cases h
    exact .nil
  | cons v vs ih =>
    cases h with
    | cons h hs =>
      rw [List.reverse_cons, List.reverse_cons]
      exact (ih hs).append (.cons h .nil)
theorem de_revL (h : DE K W Δ te fun e => ∃ ds, e = .dat (.list ds) ∧ P (.dat (.list ds.reverse))) : DE K W Δ (tRevL K te) P := fun σ H v i Q q =>
  h σ H v i _ fun x H1 e i1 x1 p1 r1 => by
    obtain ⟨ds, rfl, k⟩ := p1
    cases r1 with
    | @lst a vs _ ha hv => exact ⟨a, vs, rfl, SqL.of (Wd.view_le _ _ ha), fun p hp => q _ _ _ (Wd.inv_new i1 hp) (x1.trans (Wd.view_ex (Ex.new hp))) k (Dq.newL i1 hp hv.rev)⟩
theorem de_revT (h : DE K W Δ te fun e => ∃ ds, e = .dat (.tuple ds) ∧ P (.dat (.tuple ds.reverse))) : DE K W Δ (Ks.tRevT K te) P := fun σ H v i Q q =>
  h σ H v i _ fun x H1 e i1 x1 p1 r1 => by
    obtain ⟨ds, rfl, k⟩ := p1
    cases r1 with
    | @tup a vs _ ha hv => exact ⟨a, vs, rfl, ex_t Wd.view_le ha, fun p hp => q _ _ _ (Wd.inv_new i1 hp) (x1.trans (Wd.view_ex (Ex.new hp))) k (Dq.newT i1 hp hv.rev)⟩
theorem rgV_ints {a b : Int} : rgV a b = (rgN a (b - a).toNat).map V.int := by
  unfold rgV rgN
  rw [List.map_map]
  rfl
theorem de_lstRg2 (h : DE K W Δ ta fun a => ∃ i, a = .dat (.int i) ∧ DE K W Δ tb fun b => ∃ j, b = .dat (.int j) ∧ RgOk i j ∧ P (.dat (.list ((rgN i (j - i).toNat).map PyData.int)))) : DE K W Δ (tLstRg (tRg2 ta tb)) P := fun σ H v i Q q =>
  h σ H v i _ fun x H1 e i1 x1 p1 r1 => by
    obtain ⟨a, rfl, p1⟩ := p1
    cases r1
    refine p1 σ H1 (v.mono x1) i1 _ fun y H2 e2 i2 x2 p2 r2 => ?_
    obtain ⟨b, rfl, hr, k⟩ := p2
    cases r2
    refine ⟨a, b, rfl, rfl, hr, fun p hp => ?_⟩
    rw [rgV_ints]
    exact q _ _ _ (Wd.inv_new i2 hp) ((x1.trans x2).trans (Wd.view_ex (Ex.new hp))) k (Dq.newL i2 hp (Dqs.ints _))
/-! enumerate -/
def enumD (ds : List PyData) : List DV := ds.zipIdx.map fun p => DV.dat (.tuple [.int p.2, p.1])
theorem yl_ett {a : Addr} {vs : List V} {ds : List PyData} {V1 : Hp} (ha : SqT K V1 a vs) (hv : Dqs K V1 vs ds) : Yl K V1 (Ks.Ett K a) (enumD ds) := fun W' H2 x iv => by
  have h2 : SqT K H2 a vs := ex_t Wd.view_le (ex_t x ha)
  have hv2 := hv.mono x
  refine ⟨fun i e he => ?_, vs, h2, by unfold enumD; rw [List.length_map, List.length_zipIdx, hv.length]; exact Nat.le_refl _⟩
  unfold enumD at he
  rw [List.getElem?_map, List.getElem?_zipIdx] at he
  cases q : ds[i]? with
  | none =>
    rw [q] at he
    cases he
  | some d =>
    rw [q] at he
    cases he
    obtain ⟨v, q1, q2⟩ := hv2.getd q
    refine ⟨⟨vs, v, h2, q1⟩, fun y H3 hy => ?_⟩
    obtain ⟨T, x', rfl, hT, rfl, hx'⟩ := hy
    have e := hx' vs h2
    rw [q1] at e
    cases e
    refine ⟨Wd.inv_new iv hT, Wd.view_ex (Ex.new hT), ?_⟩
    rw [show 0 + i = i from Nat.zero_add i]
    exact Dq.newT iv hT (.cons (.int _) (.cons q2 .nil))
theorem di_enT {ta : TA} {PL : List DV → Prop} (h : DA K W Δ ta fun es => ∃ ds, es = [.dat (.tuple ds)] ∧ PL (enumD ds)) : DI K W Δ (Ks.iEnT K ta) PL := fun σ H v i R q =>
  h σ H v i _ fun xs H1 es i1 x1 p1 r1 => by
    obtain ⟨ds, rfl, k⟩ := p1
    obtain ⟨x, rfl, rx⟩ := reps1 r1
    cases rx with
    | @tup a vs _ ha hv => exact ⟨a, vs, rfl, ex_t Wd.view_le ha, q _ _ _ i1 x1 k (yl_ett ha hv)⟩
/-! ### lists that stand apart -/
def Wd.Keeps (W : Wd) (p : Addr) (φ : Kn) : Prop := ∀ H, W.inv H → ∃ o, H p = some o ∧ φ.of (W.view H) o
theorem Wd.Keeps.self {p : Addr} {φ : Kn} : (W.hide p φ).Keeps p φ := fun H i => Wd.hide_at i
theorem Wd.Keeps.hide {p q : Addr} {φ ψ : Kn} (k : W.Keeps p φ) : (W.hide q ψ).Keeps p φ := fun H i => by
  obtain ⟨i1, _⟩ := i
  obtain ⟨o, ho, h⟩ := k _ i1
  refine ⟨o, del_le _ _ ho, ?_⟩
  show φ.of (vw (hidAnd W.hid q) H) o
  rw [vw_del]
  exact h
theorem Dqs.erase {H : Hp} : ∀ {vs : List V} {ds : List PyData} {k : Nat}, Dqs K H vs ds → Dqs K H (vs.eraseIdx k) (ds.eraseIdx k)
  | _, _, 0, .cons h hs => hs
  | _, _, _ + 1, .cons h hs => .cons h (Dqs.erase hs)
  | _, _, _, .nil => by
    simp
    exact .nil
end
section
variable {X : Cx} {K : PySem.W.Frag}
theorem pi_enTK {e : Expr} {ta : TA} {p pos tpos : Pos} {elts : List Expr} {kk : Nat} (eK : X.K = K) (hg : Gl X "enumerate") (hm : X.mg "enumerate" = none) (ha : PA X [e] ta) (hs : starEach [e] X.env = [(false, eval e X.env)] := by rfl) :
    PI X (.Tuple elts kk tpos) (.Call (.Name "enumerate" p) [e] [] pos) (Ks.iEnT K ta) := by
  subst eK
  exact Ks.pi_enT hg hm ha hs
theorem pe_revTK {e : Expr} {te : TE} {k : Nat} {p1 p2 p3 pos : Pos} (e1 : X.K = K) (he : PE X e te) : PE X (.Subscript e (.Slice none none (some (.UnaryOp .USub (.Constant (.int 1) k p1) p2)) p3) pos) (Ks.tRevT K te) := by
  subst e1
  exact Ks.pe_revT he
end
def relab (env : Env) (p : Str × NameKind) : Str × NameKind := (p.1, if (p.2 == NameKind.free && env.scope.kind == .function && env.kindOf p.1 == some NameKind.cell) = true then .cell else p.2)
theorem relabel_eq (sc : Scope) (env : Env) : (relabel sc env).names = sc.names.map (relab env) := by
  show sc.names.map _ = _
  refine List.map_congr_left fun p _ => ?_
  obtain ⟨n, k⟩ := p
  unfold relab
  dsimp only
  split
  · rfl
  · rfl
theorem look_map {env : Env} {y : Str} : ∀ {names : List (Str × NameKind)} {k : NameKind}, names.lookup y = some k → (k = .cell ∨ k = .free) → (names.map (relab env)).lookup y = some .cell ∨ (names.map (relab env)).lookup y = some .free
  | [], _, h, _ => by simp at h
  | (n, k') :: r, k, h, hk => by
    rw [List.lookup_cons] at h
    rw [List.map_cons, show relab env (n, k') = (n, (relab env (n, k')).2) from rfl, List.lookup_cons]
    by_cases e : (y == n) = true
    · rw [e] at h ⊢
      have h : k' = k := Option.some.inj h
      subst h
      show some (relab env (n, k')).2 = some .cell ∨ some (relab env (n, k')).2 = some .free
      unfold relab
      dsimp only
      split
      · exact .inl rfl
      · rcases hk with rfl | rfl
        · exact .inl rfl
        · exact .inr rfl
    · have e : (y == n) = false := by simpa using e
      rw [e] at h ⊢
      exact look_map h hk
/-- a block in a block -/
theorem blk_deep {N : List Str} {sc scope : Scope} {env : Env} {own : List (Str × Nat)} (h : blkC N sc scope own = true) : BlkOk N (relabel sc env) scope own := by
  have b := blkOk_by h
  refine ⟨b.kind, b.uniq, b.ix, fun y hy e => ?_, b.own⟩
  rw [relabel_eq]
  rcases b.free y hy e with z | z
  · exact look_map z (.inl rfl)
  · exact look_map z (.inr rfl)
end Ka

namespace Ka
open PySem PySem.Spec PyProof.Rows L2 Evl Kd
/-! ### dicts that stand apart, by their data -/
def okd (K : PySem.W.Frag) (H : Hp) (x : Ent) : Prop := ∃ d, Dq K H (.ref x.2.1) d ∧ TupKey d ∧ x.1 = kd d
theorem okd.le {K : PySem.W.Frag} {U H : Hp} {x : Ent} (e : Ex U H) (h : okd K U x) : okd K H x := by
  obtain ⟨d, h1, h2, h3⟩ := h
  exact ⟨d, h1.mono e, h2, h3⟩
theorem okd_key {X Y : Cx} {pins : List (Addr × Obj)} {σ : L2.St} {H : Hp} {s : Shared} {x : Ent} (e1 : Y.prog = X.prog) (e2 : Y.w = X.w) (e3 : Y.K = X.K) (I : Inv Y pins σ H s) (h : okd X.K H x) : (nestedKind X.prog X.w).is s.heap x.1 x.2.1 := by
  obtain ⟨d, h1, h2, h3⟩ := h
  rw [← e3] at h1
  rw [h3]
  exact key_at I h1 h2
def DicIs (K : PySem.W.Frag) (U : Hp) (xs : List Ent) (m : List (PyData × PyData)) : Prop := Paired (fun x p => x.1 = kd p.1 ∧ Dq K U (.ref x.2.1) p.1 ∧ TupKey p.1 ∧ Dq K U x.2.2 p.2) xs m
theorem DicIs.mono {K : PySem.W.Frag} {U H : Hp} (e : Ex U H) : ∀ {xs : List Ent} {m : List (PyData × PyData)}, DicIs K U xs m → DicIs K H xs m
  | _, _, .nil => .nil
  | _, _, .cons ⟨h1, h2, h3, h4⟩ t => .cons ⟨h1, h2.mono e, h3, h4.mono e⟩ (DicIs.mono e t)
theorem DicIs.okd {K : PySem.W.Frag} {U : Hp} : ∀ {xs : List Ent} {m : List (PyData × PyData)}, DicIs K U xs m → ∀ x ∈ xs, okd K U x
  | _, _, .nil, x, h => nomatch h
  | _, _, .cons ⟨h1, h2, h3, h4⟩ t, x, h => by
    rcases List.mem_cons.mp h with rfl | h
    · exact ⟨_, h2, h3, h1⟩
    · exact DicIs.okd t x h
def getM (m : List (PyData × PyData)) (k : NestedKey) : Option PyData := (m.find? fun p => decide (kd p.1 = k)).map (·.2)
def putM (m : List (PyData × PyData)) (d e : PyData) : List (PyData × PyData) := if (getM m (kd d)).isSome then m.map fun p => if kd p.1 = kd d then (p.1, e) else p else m ++ [(d, e)]
theorem dic_get {K : PySem.W.Frag} {U : Hp} {k : NestedKey} : ∀ {xs : List Ent} {m : List (PyData × PyData)}, DicIs K U xs m → (entV xs k = none ∧ getM m k = none) ∨ ∃ v e, entV xs k = some v ∧ getM m k = some e ∧ Dq K U v e
  | [], _, .nil => .inl ⟨rfl, rfl⟩
  | x :: xs, p :: m, .cons ⟨h1, h2, h3, h4⟩ t => by
    unfold entV getM
    by_cases c : x.1 = k
    · rw [List.find?_cons_of_pos (by simpa using c), List.find?_cons_of_pos (by rw [← h1]; simpa using c)]
      exact .inr ⟨_, _, rfl, rfl, h4⟩
    · rw [List.find?_cons_of_neg (by simpa using c), List.find?_cons_of_neg (by rw [← h1]; simpa using c)]
      exact dic_get t
theorem dic_map {K : PySem.W.Frag} {U : Hp} {k : NestedKey} {v : V} {e : PyData} (hv : Dq K U v e) : ∀ {xs : List Ent} {m : List (PyData × PyData)}, DicIs K U xs m → DicIs K U (xs.map fun x => if x.1 = k then (x.1, x.2.1, v) else x) (m.map fun p => if kd p.1 = k then (p.1, e) else p)
  | [], _, .nil => .nil
  | x :: xs, p :: m, .cons ⟨h1, h2, h3, h4⟩ t => by
    refine .cons ?_ (dic_map hv t)
    show (fun (x : Ent) (p : PyData × PyData) => x.1 = kd p.1 ∧ Dq K U (.ref x.2.1) p.1 ∧ TupKey p.1 ∧ Dq K U x.2.2 p.2) (if x.1 = k then (x.1, x.2.1, v) else x) (if kd p.1 = k then (p.1, e) else p)
    by_cases c : x.1 = k
    · rw [if_pos c, if_pos (by rw [← h1]; exact c)]
      exact ⟨h1, h2, h3, hv⟩
    · rw [if_neg c, if_neg (by rw [← h1]; exact c)]
      exact ⟨h1, h2, h3, h4⟩
theorem dic_put {K : PySem.W.Frag} {U : Hp} {xs : List Ent} {m : List (PyData × PyData)} {b : Addr} {v : V} {d e : PyData} (h : DicIs K U xs m) (hb : Dq K U (.ref b) d) (ht : TupKey d) (hv : Dq K U v e) : DicIs K U (entPut xs (kd d) b v) (putM m d e) := by
  unfold entPut putM
  rcases dic_get (k := kd d) h with ⟨e1, e2⟩ | ⟨z, y, e1, e2, _⟩
  · rw [e1, e2]
    exact Paired.snoc h ⟨rfl, hb, ht, hv⟩
  · rw [e1, e2]
    exact dic_map hv h
theorem putM_len (m : List (PyData × PyData)) (d e : PyData) : (putM m d e).length ≤ m.length + 1 := by
  unfold putM
  split
  · rw [List.length_map]
    omega
  · rw [List.length_append]
    exact Nat.le_refl _
/-- what is known of a dict: its entries, as data -/
def knDic (P : Program) (w : World) (K : PySem.W.Frag) (p : Addr) (m : List (PyData × PyData)) : Kn where
  of U o := ∃ xs, o = DicO P w p xs ∧ DicIs K U xs m
  mono e h := by
    obtain ⟨xs, h1, h2⟩ := h
    exact ⟨xs, h1, h2.mono e⟩
section
variable {K : PySem.W.Frag} {W : Wd} {Δ : DEnv} {tt : TT} {tk tv : TE} {P : Program} {w : World} {nx bk ct : Wd → DEnv → Prop} {rt : Wd → DV → Prop}
/-- x in d, d a dict -/
def rInDic (P : Program) (w : World) (K : PySem.W.Frag) (neg : Bool) : R2 := fun x y H Q => ∃ (b a : Addr) (xs : List Ent) (d : PyData) (U : Hp), x = .ref b ∧ y = .ref a ∧ H a = some (DicO P w a xs) ∧ Ex U H ∧ (∀ z ∈ xs, okd K U z) ∧ Dq K U (.ref b) d ∧ TupKey d ∧
  Q (.bl (if neg then !(entV xs (kd d)).isSome else (entV xs (kd d)).isSome)) H
theorem dic_has {X : Cx} {pins : List (Addr × Obj)} {σ : L2.St} {H U : Hp} {s : Shared} (hu : X.A.units + 64 < cLine) (I : Inv X pins σ H s) {a b : Addr} {xs : List Ent} {d : PyData} (ha : H a = some (DicO X.prog X.w a xs)) (hU : Ex U H) (hx : ∀ z ∈ xs, okd X.K U z) (hb : Dq X.K U (.ref b) d) (ht : TupKey d) {E : Value → Shared → Prop} {Q : Bool → Shared → Prop}
    (q : ∀ tk, Q (entV xs (kd d)).isSome { s with toks := s.toks + tk }) : wpAny (model X.prog X.w) X.A (contains (.ref a) (.ref b)) Q E s := by
  obtain ⟨_, hs, ys, rel, dd⟩ := dic_of I ha fun z m => okd_key (X := X) rfl rfl rfl I ((hx z m).le hU)
  refine wpAny_contains_heap (show X.A.units + 1 + 8 < cLine by omega) (key_at I (hb.mono hU) ht) hs dd ?_
  have e : (atKey ys (kd d)).isSome = (entV xs (kd d)).isSome := by
    rcases ent_at (k := kd d) rel with ⟨e1, e2⟩ | ⟨_, _, e1, e2, _⟩ <;> rw [e1, e2] <;> rfl
  rw [e]
  exact q _
theorem op_inDic {X : Cx} (hu : X.A.units + 64 < cLine) : OpR X (compareOp .In) (rInDic X.prog X.w X.K false) := by
  intro pins s σ H x y v u Q I rx ry h
  obtain ⟨b, a, xs, d, U, rfl, rfl, ha, hU, hx, hb, ht, q⟩ := h
  cases rx
  cases ry
  show wpAny _ _ (do return Value.bool (← contains (.ref a) (.ref b))) _ _ s
  exact wpAny_bind (dic_has hu I ha hU hx hb ht fun tk => wpAny_pure ⟨.bl _, H, I.tok _, rfl, q⟩)
theorem op_notInDic {X : Cx} (hu : X.A.units + 64 < cLine) : OpR X (compareOp .NotIn) (rInDic X.prog X.w X.K true) := by
  intro pins s σ H x y v u Q I rx ry h
  obtain ⟨b, a, xs, d, U, rfl, rfl, ha, hU, hx, hb, ht, q⟩ := h
  cases rx
  cases ry
  show wpAny _ _ (do return Value.bool (!(← contains (.ref a) (.ref b)))) _ _ s
  exact wpAny_bind (dic_has hu I ha hU hx hb ht fun tk => wpAny_pure ⟨.bl _, H, I.tok _, rfl, q⟩)
theorem opd_inD {p : Addr} {m : List (PyData × PyData)} {d : PyData} {PX : DV → Prop} (k : W.Keeps p (knDic P w K p m)) (t : TupKey d) (q0 : PX (.dat (.bool (getM m (kd d)).isSome))) : OpD K W (rInDic P w K false) (.dat d) (.raw (.ref p)) PX := fun x y H iv rx ry Q q => by
  have ry : y = .ref p := ry
  subst ry
  obtain ⟨b, rfl⟩ := tup_ref rx t
  obtain ⟨o, ho, xs, rfl, hx⟩ := k H iv
  have e : (entV xs (kd d)).isSome = (getM m (kd d)).isSome := by
    rcases dic_get (k := kd d) hx with ⟨e1, e2⟩ | ⟨_, _, e1, e2, _⟩ <;> rw [e1, e2] <;> rfl
  refine ⟨b, p, xs, d, W.view H, rfl, rfl, ho, Wd.view_le, hx.okd, rx, t, ?_⟩
  show Q (.bl (entV xs (kd d)).isSome) H
  rw [e]
  exact q _ H _ iv (Ex.refl _) q0 (.bl _)
theorem ds_dic {wi : TI} {g : TG} {ws : List Nat} {ix : Nat}
    (hi : DI K W Δ wi fun es => es.length ≤ 50000 ∧ ∃ A : Nat → List (PyData × PyData) → Prop, A 0 [] ∧ (∀ i e m W', es[i]? = some e → A i m → Hid W W' → ∃ Δ1 js, Tg K g e (wipeD Δ ws) Δ1 js ∧ (∀ j ∈ js, j ∈ ws) ∧
      DT K W' Δ1 tt fun b => (b = true → DE K W' Δ1 tk fun y => ∃ d, y = .dat d ∧ TupKey d ∧ DE K W' Δ1 tv fun z => ∃ e, z = .dat e ∧ A (i + 1) (putM m d e)) ∧ (b = false → A (i + 1) m)) ∧
      ∀ m, A es.length m → m.length ≤ es.length → ∀ p, W.hid p = false → nx (W.hide p (knDic P w K p m)) (Δ.set ix (some (.raw (.ref p))))) :
    DS K W Δ (tAsg (tDcT P w K okd wi g tt tk tv ws) (gName ix)) nx rt bk ct := fun σ H Dn v i c => hi σ H v i _ fun J H1 es i1 x1 p1 y1 => by
  obtain ⟨hz, A, h0, hs, hd⟩ := p1
  intro D hD
  have hp := Wd.hid_none i1 hD
  obtain ⟨n1, n2⟩ := Wd.hide_new (φ := knDic P w K D []) (o := DicO P w D []) i1 hD ⟨[], rfl, .nil⟩
  refine ⟨fun k m' H' => m' = es.length - k ∧ k ≤ es.length ∧ ∃ m, A k m ∧ m.length ≤ k ∧ (W.hide D (knDic P w K D m)).inv H' ∧ Ex (W.view H1) ((W.hide D (knDic P w K D m)).view H'), ⟨_, rfl, Nat.zero_le _, [], h0, Nat.le_refl _, n1, by rw [n2]; exact Ex.refl _⟩, ?_⟩
  rintro k m' H' ⟨rfl, hk, m, hA, hl, i', x'⟩
  obtain ⟨yg, ys⟩ := y1 _ H' x' i'
  by_cases hlt : k < es.length
  · obtain ⟨g1, g2⟩ := yg k es[k] (List.getElem?_eq_getElem hlt)
    refine .inr ⟨g1, fun H2 => k + 1 ≤ es.length ∧ ∃ m, A (k + 1) m ∧ m.length ≤ k + 1 ∧ (W.hide D (knDic P w K D m)).inv H2 ∧ Ex (W.view H1) ((W.hide D (knDic P w K D m)).view H2), fun H2 ⟨q1, q2⟩ => ⟨es.length - (k + 1), by omega, rfl, q1, q2⟩, fun x H2 hy => ?_⟩
    obtain ⟨i2, x2, r2⟩ := g2 x H2 hy
    obtain ⟨Δ1, js, ht, hjs, hb⟩ := hs k es[k] m _ (List.getElem?_eq_getElem hlt) hA ⟨D, _, rfl, hp⟩
    refine ht (W.hide D (knDic P w K D m)) (wipe σ ws) H2 x _ (v.mono ((x1.trans x').trans x2)).wipe r2 fun σ3 v3 w3 => ⟨by rw [w3 ws hjs, wipe_none], ?_⟩
    refine hb σ3 H2 v3 i2 _ fun b H3 i3 x3 p3 => ?_
    cases b with
    | true =>
      show tk σ3 H3 _
      refine p3.1 rfl σ3 H3 (v3.mono x3) i3 _ fun y H4 e4 i4 x4 p4 r4 => ?_
      obtain ⟨d, rfl, td, p4⟩ := p4
      refine p4 σ3 H4 (v3.mono (x3.trans x4)) i4 _ fun z H5 e5 i5 x5 p5 r5 => ?_
      obtain ⟨e, rfl, hA5⟩ := p5
      obtain ⟨o, ho, xs, rfl, hx⟩ := Wd.hide_at i5
      have r4 : Dq K ((W.hide D (knDic P w K D m)).view H5) y d := Dq.mono x5 r4
      obtain ⟨c', rfl⟩ := tup_ref r4 td
      have hlen : xs.length = m.length := Paired.length hx
      have hl2 := putM_len m d e
      refine ⟨xs, kd d, c', rfl, ho, fun x hm => (hx.okd x hm).le Wd.view_le, okd.le Wd.view_le ⟨d, r4, td, rfl⟩, sz_lt (by omega), by omega, putM m d e, hA5, by omega, ?_⟩
      obtain ⟨z1, z2⟩ := Wd.hide_put (ψ := knDic P w K D (putM m d e)) (u := DicO P w D (entPut xs (kd d) c' z)) i5 ⟨_, rfl, dic_put hx r4 td r5⟩
      refine ⟨z1, ?_⟩
      rw [z2]
      exact (((x'.trans x2).trans x3).trans x4).trans x5
    | false =>
      show _ ∧ _
      exact ⟨by omega, m, p3.2 rfl, by omega, i3, (x'.trans x2).trans x3⟩
  · have e : k = es.length := by omega
    subst e
    exact .inl ⟨ys, c.nx _ _ _ _ (hd m hA hl D hp) i' (x1.trans x') ((v.mono (x1.trans x')).set rfl)⟩
/-- d[k] = v -/
def sPutD (P : Program) (w : World) (K : PySem.W.Frag) (td ty tv : TE) : TS := fun D σ H => tv σ H fun z H1 => td σ H1 fun x H2 => ty σ H2 fun y H3 => ∃ (a b : Addr) (xs : List Ent) (k : NestedKey), x = .ref a ∧ y = .ref b ∧ H3 a = some (DicO P w a xs) ∧ (∀ e ∈ xs, okd K H3 e) ∧ okd K H3 (k, b, z) ∧ xs.length < sizeLine ∧
  D.nx σ (upd H3 a (DicO P w a (entPut xs k b z)))
theorem ps_putD {X : Cx} {o i value : Expr} {pos pos' : Pos} {td ty tv : TE} (hu : X.A.units + 64 < cLine) (ho : PE X o td) (hi : PE X i ty) (hv : PE X value tv) (hs : swapsWith value (some (.Subscript o i pos')) pos.line X.env = pure false) :
    PS X (.Assign [.Subscript o i pos'] value pos) (sPutD X.prog X.w X.K td ty tv) := by
  refine ⟨fun pins s σ H D I h => wpAny_Assign_Subscript (thn (hv.run pins s σ H _ I h) fun r s1 ⟨v, H1, I1, rv, q1⟩ => thn (ho.run pins s1 σ H1 _ I1 q1) fun u s2 ⟨x, H2, I2, rx, q2⟩ => thn (hi.run pins s2 σ H2 _ I2 q2) fun iv s3 ⟨y, H3, I3, ry, a, b, xs, k, ex, ey, ha, hx, hk, hl, q3⟩ => ?_) hs⟩
  subst ex ey
  obtain rfl : u = Value.ref a := rx
  obtain rfl : iv = Value.ref b := ry
  obtain ⟨z, hd, ys, rel, dd⟩ := dic_of I3 ha fun e m => okd_key (X := X) rfl rfl rfl I3 (hx e m)
  have hz : ys.length ≤ sizeLine := by rw [← Paired.length rel]; exact z
  have hl2 := entPut_len xs k b v
  have kb : (nestedKind X.prog X.w).is s3.heap k b := okd_key (X := X) rfl rfl rfl I3 hk
  refine wpAny_setItem_heap (hsz := hz) (show X.A.units + 1 + 8 < cLine by omega) kb dd fun h' ⟨q, es, ep, hq, h2, h3, h4, _, h5⟩ hs => ?_
  exact ⟨σ, _, d_write I3 (by rw [ha]; exact True.intro) hs ⟨q, hq⟩ (dicO_ok (by omega) hd (ent_put rel rv) hq h2 h3 h4 h5), q3⟩
theorem ds_putD {p : Addr} {i : Nat} {m : List (PyData × PyData)} {ty : TE} (hi : Δ[i]? = some (some (.raw (.ref p)))) (hz : m.length < 100000)
    (h : DE K (W.hide p (knDic P w K p m)) Δ tv fun z => ∃ e, z = .dat e ∧ DE K (W.hide p (knDic P w K p m)) Δ ty fun y => ∃ d, y = .dat d ∧ TupKey d ∧ nx (W.hide p (knDic P w K p (putM m d e))) Δ) :
    DS K (W.hide p (knDic P w K p m)) Δ (sPutD P w K (tVar i) ty tv) nx rt bk ct := fun σ H D v iv c =>
  h σ H v iv _ fun z H1 e1 i1 x1 p1 r1 => by
    obtain ⟨e, rfl, p1⟩ := p1
    obtain ⟨x, hx, rx⟩ := v.at_ i _ hi
    have rx : x = .ref p := rx
    subst rx
    refine ⟨.ref p, hx, p1 σ H1 (v.mono x1) i1 _ fun y H2 e2 i2 x2 p2 r2 => ?_⟩
    obtain ⟨d, rfl, td, hn⟩ := p2
    obtain ⟨o, ho, xs, rfl, hxs⟩ := Wd.hide_at i2
    have r2 : Dq K _ y d := r2
    obtain ⟨b, rfl⟩ := tup_ref r2 td
    have hlen : xs.length = m.length := Paired.length hxs
    refine ⟨p, b, xs, kd d, rfl, rfl, ho, fun z hm => (hxs.okd z hm).le Wd.view_le, okd.le Wd.view_le ⟨d, r2, td, rfl⟩, sz_lt (by omega), ?_⟩
    obtain ⟨z1, z2⟩ := Wd.hide_put (ψ := knDic P w K p (putM m d e)) (u := DicO P w p (entPut xs (kd d) b z)) i2 ⟨_, rfl, dic_put hxs r2 td (Dq.mono x2 r1)⟩
    refine c.nx _ Δ σ _ hn z1 (by rw [z2]; exact x1.trans x2) ?_
    rw [z2]
    exact v.mono (x1.trans x2)
end
section
variable {X : Cx} {P : Program} {w : World} {K : PySem.W.Frag} {W : Wd} {PX : DV → Prop}
def rInZ (P : Program) (w : World) (K : PySem.W.Frag) (neg : Bool) : R2 := fun x y H Q => rInX w K neg x y H Q ∨ rInDic P w K neg x y H Q
theorem op_inZ (e1 : X.prog = P) (e2 : X.w = w) (e3 : X.K = K) (hu : X.A.units + 65 < cLine) : OpR X (compareOp .In) (rInZ P w K false) := by
  subst e1 e2 e3
  exact (op_inX rfl rfl hu).or (op_inDic (by omega))
theorem op_notInZ (e1 : X.prog = P) (e2 : X.w = w) (e3 : X.K = K) (hu : X.A.units + 65 < cLine) : OpR X (compareOp .NotIn) (rInZ P w K true) := by
  subst e1 e2 e3
  exact (op_notInX rfl rfl hu).or (op_notInDic (by omega))
theorem opd_inZL {d : PyData} {ds : List PyData} (h1 : SeqAt.shaped d = true) (h2 : PyData.canLayAll0 ds = true) (k : PX (.dat (.bool (ds.any fun z => PyData.eqv z d)))) : OpD K W (rInZ P w K false) (.dat d) (.dat (.list ds)) PX := fun x y H iv rx ry Q q => .inl (opd_inXL h1 h2 k x y H iv rx ry Q q)
theorem opd_inZT {d : PyData} {ds : List PyData} (h1 : SeqAt.shaped d = true) (h2 : PyData.canLayAll0 ds = true) (k : PX (.dat (.bool (ds.any fun z => PyData.eqv z d)))) : OpD K W (rInZ P w K false) (.dat d) (.dat (.tuple ds)) PX := fun x y H iv rx ry Q q => .inl (opd_inXT h1 h2 k x y H iv rx ry Q q)
theorem opd_niZT {d : PyData} {ds : List PyData} (h1 : SeqAt.shaped d = true) (h2 : PyData.canLayAll0 ds = true) (k : PX (.dat (.bool (!ds.any fun z => PyData.eqv z d)))) : OpD K W (rInZ P w K true) (.dat d) (.dat (.tuple ds)) PX := fun x y H iv rx ry Q q => .inl (opd_niXT h1 h2 k x y H iv rx ry Q q)
theorem opd_inZD {p : Addr} {m : List (PyData × PyData)} {d : PyData} (k : W.Keeps p (knDic P w K p m)) (t : TupKey d) (q0 : PX (.dat (.bool (getM m (kd d)).isSome))) : OpD K W (rInZ P w K false) (.dat d) (.raw (.ref p)) PX := fun x y H iv rx ry Q q => .inr (opd_inD k t q0 x y H iv rx ry Q q)
theorem pe_dcTK {kx vx tg iter : Expr} {ifs : List Expr} {scope : Scope} {own : List (Str × Nat)} {pos : Pos} {wi : TI} {g : TG} {tt : TT} {tk tv : TE} (e1 : X.prog = P) (e2 : X.w = w) (e3 : X.K = K) (hu : X.A.units + 64 < cLine) (hc : X.calm = true) (hN : X.N.Nodup) (hi : PI X tg iter wi) (ok : BlkOk X.N X.env.scope scope own)
    (hg : ∀ (s : Shared) (H : Hp) (C : Addr) (cl : List (Str × Addr)) (fp : List Addr), PG (X.blk s H scope (compEnvC scope cl C X.env) fp) tg g) (ht : ∀ (s : Shared) (H : Hp) (C : Addr) (cl : List (Str × Addr)) (fp : List Addr), PTs (X.blk s H scope (compEnvC scope cl C X.env) fp) ifs tt)
    (hk : ∀ (s : Shared) (H : Hp) (C : Addr) (cl : List (Str × Addr)) (fp : List Addr), PE (X.blk s H scope (compEnvC scope cl C X.env) fp) kx tk) (he : ∀ (s : Shared) (H : Hp) (C : Addr) (cl : List (Str × Addr)) (fp : List Addr), PE (X.blk s H scope (compEnvC scope cl C X.env) fp) vx tv)
    (hs : ∀ x, foldedSetIterable iter X.env x = pure x := by intro _; rfl) : PE X (.DictComp kx vx [⟨tg, iter, ifs, 0⟩] scope pos) (tDcT P w K okd wi g tt tk tv (own.map (·.2))) := by
  subst e1 e2 e3
  exact pe_dcT (fun e1 e2 e3 I h => okd_key e1 e2 e3 I h) (by omega) hc hN hi ok hg ht hk he hs
theorem ps_putDK {o i value : Expr} {pos pos' : Pos} {td ty tv : TE} (e1 : X.prog = P) (e2 : X.w = w) (e3 : X.K = K) (hu : X.A.units + 64 < cLine) (ho : PE X o td) (hi : PE X i ty) (hv : PE X value tv) (hs : swapsWith value (some (.Subscript o i pos')) pos.line X.env = pure false := by rfl) :
    PS X (.Assign [.Subscript o i pos'] value pos) (sPutD P w K td ty tv) := by
  subst e1 e2 e3
  exact ps_putD hu ho hi hv hs
/-- a dict that nobody changes any more -/
def dicD (P : Program) (w : World) (m : List (PyData × PyData)) : DV := .rel (fun K H v => ∃ a xs, v = .ref a ∧ H a = some (DicO P w a xs) ∧ DicIs K H xs m) fun {K H H' v} x ⟨a, xs, h1, h2, h3⟩ => ⟨a, xs, h1, x _ _ h2, h3.mono x⟩
theorem dic_is {H : Hp} {x y : V} {m : List (PyData × PyData)} {d : PyData} (rx : RepV K (W.view H) x (.dat d)) (ry : RepV K (W.view H) y (dicD P w m)) (t : TupKey d) : ∃ b a xs, x = .ref b ∧ y = .ref a ∧ H a = some (DicO P w a xs) ∧ DicIs K (W.view H) xs m ∧ Dq K (W.view H) (.ref b) d ∧ (entV xs (kd d)).isSome = (getM m (kd d)).isSome := by
  obtain ⟨a, xs, rfl, h2, h3⟩ := ry
  obtain ⟨b, rfl⟩ := tup_ref rx t
  refine ⟨b, a, xs, rfl, rfl, Wd.view_le _ _ h2, h3, rx, ?_⟩
  rcases dic_get (k := kd d) h3 with ⟨e1, e2⟩ | ⟨_, _, e1, e2, _⟩ <;> rw [e1, e2] <;> rfl
theorem opd_inZV {m : List (PyData × PyData)} {d : PyData} (t : TupKey d) (q0 : PX (.dat (.bool (getM m (kd d)).isSome))) : OpD K W (rInZ P w K false) (.dat d) (dicD P w m) PX := fun x y H iv rx ry Q q => by
  obtain ⟨b, a, xs, rfl, rfl, h1, h2, h3, e⟩ := dic_is rx ry t
  refine .inr ⟨b, a, xs, d, W.view H, rfl, rfl, h1, Wd.view_le, h2.okd, h3, t, ?_⟩
  show Q (.bl (entV xs (kd d)).isSome) H
  rw [e]
  exact q _ H _ iv (Ex.refl _) q0 (.bl _)
theorem opd_niZV {m : List (PyData × PyData)} {d : PyData} (t : TupKey d) (q0 : PX (.dat (.bool (!(getM m (kd d)).isSome)))) : OpD K W (rInZ P w K true) (.dat d) (dicD P w m) PX := fun x y H iv rx ry Q q => by
  obtain ⟨b, a, xs, rfl, rfl, h1, h2, h3, e⟩ := dic_is rx ry t
  refine .inr ⟨b, a, xs, d, W.view H, rfl, rfl, h1, Wd.view_le, h2.okd, h3, t, ?_⟩
  show Q (.bl (!(entV xs (kd d)).isSome)) H
  rw [e]
  exact q _ H _ iv (Ex.refl _) q0 (.bl _)
/-- the dict is seen again -/
theorem ds_seeD {Δ : DEnv} {nx bk ct : Wd → DEnv → Prop} {rt : Wd → DV → Prop} {t : TS} {i p : Nat} {m : List (PyData × PyData)} (hp : W.hid p = false) (hi : Δ[i]? = some (some (.raw (.ref p)))) (h : DS K W (Δ.set i (some (dicD P w m))) t nx rt bk ct) : DS K (W.hide p (knDic P w K p m)) Δ t nx rt bk ct := fun σ H D v iv c => by
  obtain ⟨x, hx, rx⟩ := v.at_ i _ hi
  have rx : x = .ref p := rx
  subst rx
  obtain ⟨u1, u2, o, ho, xs, rfl, hxs⟩ := Wd.unhide hp iv
  refine h σ H D ⟨by rw [List.length_set]; exact v.len, fun j e q => ?_⟩ u1 (c.step u2)
  by_cases hj : i = j
  · subst hj
    by_cases hl : i < Δ.length
    · rw [List.getElem?_set_self hl] at q
      cases q
      exact ⟨.ref p, hx, p, xs, rfl, ho, hxs⟩
    · rw [List.getElem?_eq_none (by simpa using hl)] at q
      cases q
  · rw [List.getElem?_set_ne hj] at q
    obtain ⟨y, h1, h2⟩ := v.at_ j e q
    exact ⟨y, h1, h2.mono u2⟩
end
end Ka

namespace Ka
open PySem PySem.Spec PyProof.Rows L2 Evl
section
variable {K : PySem.W.Frag} {W : Wd} {Δ : DEnv} {te ta tb ty : TE} {PL : List PyData → Prop} {nx bk ct : Wd → DEnv → Prop} {rt : Wd → DV → Prop}
/-- an expression that makes a new list that no one else has -/
def DN (K : PySem.W.Frag) (W : Wd) (Δ : DEnv) (te : TE) (PL : List PyData → Prop) : Prop :=
  ∀ (σ : L2.St) (H : Hp), EnvOk K (W.view H) σ Δ → W.inv H → ∀ Q : VK, (∀ ds p H1 vs, W.inv H1 → Ex (W.view H) (W.view H1) → H1 p = none → Dqs K (W.view H1) vs ds → PL ds → Q (.ref p) (upd H1 p (.lst vs))) → te σ H Q
theorem dqs_flat {H : Hp} {vs : List V} {ds : List PyData} (h : Dqs K H vs ds) : ∀ n : Nat, Dqs K H (List.replicate n vs).flatten (List.replicate n ds).flatten
  | 0 => .nil
  | n + 1 => by
    rw [List.replicate_succ, List.replicate_succ, List.flatten_cons, List.flatten_cons]
    exact h.append (dqs_flat h n)
/-- [x, ..] * n -/
theorem dn_mul (h : DE K W Δ te fun e => ∃ ds, e = .dat (.list ds) ∧ DE K W Δ tb fun y => ∃ n : Int, y = .dat (.int n) ∧ n ≤ 100000 ∧ -100000 ≤ n ∧ ds.length * n.toNat ≤ 100000 ∧ PL (List.replicate n.toNat ds).flatten) : DN K W Δ (tOp rMulX te tb) PL := fun σ H v i Q q =>
  h σ H v i _ fun x H1 e i1 x1 p1 r1 => by
    obtain ⟨ds, rfl, p1⟩ := p1
    refine p1 σ H1 (v.mono x1) i1 _ fun y H2 e2 i2 x2 p2 r2 => ?_
    obtain ⟨n, rfl, n1, n0, n2, k⟩ := p2
    cases r2
    have r1 := RepV.mono x2 r1
    cases r1 with
    | @lst a vs _ ha hv =>
      refine .inr ⟨a, n, vs, rfl, rfl, Wd.view_le _ _ ha, by omega, by omega, sz_of (by rw [hv.length]; exact n2), fun p hp => ?_⟩
      exact q _ p H2 _ i2 (x1.trans x2) hp (dqs_flat hv _) k
/-- found[i] = e, the list apart -/
theorem Dqs.set {H : Hp} : ∀ {vs : List V} {ds : List PyData} {j : Nat} {v : V} {d : PyData}, Dqs K H vs ds → Dq K H v d → Dqs K H (vs.set j v) (ds.set j d)
  | _, _, _, _, _, .nil, _ => .nil
  | _, _, 0, _, _, .cons h hs, r => .cons r hs
  | _, _, _ + 1, _, _, .cons h hs, r => .cons h (Dqs.set hs r)
theorem ds_putL {i p : Nat} {ds : List PyData} (hi : Δ[i]? = some (some (.raw (.ref p))))
    (h : DE K (W.hide p (knL K ds)) Δ te fun e => ∃ d, e = .dat d ∧ DE K (W.hide p (knL K ds)) Δ ty fun y => ∃ j : Nat, y = .dat (.int j) ∧ j < ds.length ∧ nx (W.hide p (knL K (ds.set j d))) Δ) :
    DS K (W.hide p (knL K ds)) Δ (tAsg te (gSub (tVar i) ty rSetL)) nx rt bk ct := fun σ H D v iv c =>
  h σ H v iv _ fun z H1 e i1 x1 p1 r1 => by
    obtain ⟨d, rfl, p1⟩ := p1
    obtain ⟨x, hx, rx⟩ := v.at_ i _ hi
    have rx : x = .ref p := rx
    subst rx
    refine ⟨.ref p, hx, p1 σ H1 (v.mono x1) i1 _ fun y H2 e2 i2 x2 p2 r2 => ?_⟩
    obtain ⟨j, rfl, hj, hn⟩ := p2
    cases r2
    obtain ⟨o, ho, xs, rfl, hxs⟩ := Wd.hide_at i2
    have hl := hxs.length
    refine ⟨p, xs, (j : Int), j, rfl, rfl, ho, ixN_nat (by omega), ?_⟩
    obtain ⟨z1, z2⟩ := Wd.hide_put (ψ := knL K (ds.set j d)) (u := .lst (xs.set j z)) i2 ⟨_, rfl, hxs.set (Dq.mono x2 r1)⟩
    refine c.nx _ Δ σ _ hn z1 (by rw [z2]; exact x1.trans x2) ?_
    rw [z2]
    exact v.mono (x1.trans x2)
theorem opd_niB {a b : Bool} {P : DV → Prop} (k : P (.dat (.bool (!decide (a = b))))) : OpD K W rNotB (.dat (.bool a)) (.dat (.bool b)) P := fun x y H iv rx ry Q q => by
  cases rx
  cases ry
  exact ⟨a, b, rfl, rfl, q _ H _ iv (Ex.refl _) k (.bl _)⟩
theorem de_tupRg2 {P : DV → Prop} (h : DE K W Δ ta fun a => ∃ i, a = .dat (.int i) ∧ DE K W Δ tb fun b => ∃ j, b = .dat (.int j) ∧ RgOk i j ∧ P (.dat (.tuple ((rgN i (j - i).toNat).map PyData.int)))) : DE K W Δ (tTupRg (tRg2 ta tb)) P := fun σ H v i Q q =>
  h σ H v i _ fun x H1 e i1 x1 p1 r1 => by
    obtain ⟨a, rfl, p1⟩ := p1
    cases r1
    refine p1 σ H1 (v.mono x1) i1 _ fun y H2 e2 i2 x2 p2 r2 => ?_
    obtain ⟨b, rfl, hr, k⟩ := p2
    cases r2
    refine ⟨a, b, rfl, rfl, hr, fun p hp => ?_⟩
    rw [rgV_ints]
    exact q _ _ _ (Wd.inv_new i2 hp) ((x1.trans x2).trans (Wd.view_ex (Ex.new hp))) k (Dq.newT i2 hp (Dqs.ints _))
/-- if c: return ..: it does not -/
theorem dq_no {tt : TT} {t u : TS} (h : DT K W Δ tt fun b => b = false) (rest : DS K W Δ u nx rt bk ct) : DS K W Δ (tSeq (tIfS tt t tNext) u) nx rt bk ct :=
  dq_when True (h.mono fun b hb => ⟨fun e => absurd (hb.symm.trans e) Bool.false_ne_true, fun _ => trivial⟩) fun _ => rest
theorem ds_no {tt : TT} {t : TS} (h : DT K W Δ tt fun b => b = false) (k : nx W Δ) : DS K W Δ (tIfS tt t tNext) nx rt bk ct :=
  ds_if (h.mono fun b hb => ⟨fun e => absurd (hb.symm.trans e) Bool.false_ne_true, fun _ => ds_next k⟩)
theorem ne_same {α : Type} [DecidableEq α] (x : α) {Q : Prop} : (!decide (x = x)) = true → Q := fun e => by
  rw [decide_eq_true rfl] at e
  cases e
end
end Ka

namespace Ka
open PySem PySem.Spec PyProof.Rows L2 Evl
section
variable {K : PySem.W.Frag} {W : Wd} {Δ : DEnv} {te ta tb : TE} {P : DV → Prop}
end
end Ka

namespace Ka
open PySem PySem.Spec PyProof.Rows L2 Evl
section
variable {X : Cx} {a b c d : Expr} {ta tb tc td : TE} {pos : Pos}
end
section
variable {X : Cx} {K : PySem.W.Frag} {W : Wd} {Δ : DEnv} {ta tb tc td : TE} {P : DV → Prop}
/-- < of data -/
def rLtD (K : PySem.W.Frag) : R2 := fun x y H Q => ∃ d e, Dp K H x d ∧ Dp K H y e ∧ PySem.W.alike d e = true ∧ d ≠ .none ∧ d.depth ≤ 60 ∧ Q (.bl (PySem.W.dataLt d e)) H
theorem op_ltD (eK : X.K = K) (hu : X.A.units + 64 < cLine) : OpR X (compareOp .Lt) (rLtD K) := by
  subst eK
  intro pins s σ H x y v u Q I rx ry h
  obtain ⟨d, e, hd, he, al, hn, hz, q⟩ := h
  obtain ⟨as, r1⟩ := Dp.reads I d x v hd rx
  obtain ⟨bs, r2⟩ := Dp.reads I e y u he ry
  exact PySem.W.lt_data r1 r2 al hn (by have := Nat.min_le_left d.depth e.depth; omega) ⟨.bl _, H, I, rfl, q⟩
theorem opd_ltD {d e : PyData} (al : PySem.W.alike d e = true) (hn : d ≠ .none) (hz : d.depth ≤ 60) (k : P (.dat (.bool (PySem.W.dataLt d e)))) : OpD K W (rLtD K) (.dat d) (.dat e) P := fun x y H iv rx ry Q q =>
  ⟨d, e, Dq.dp (Dq.le rx), Dq.dp (Dq.le ry), al, hn, hz, q _ H _ iv (Ex.refl _) k (.bl _)⟩
end
end Ka

/-! Kc1: the deck of the later laws -/
namespace Ka
open PySem PySem.Spec PyProof.Rows L2 Evl
def deckO2 (c : Addr) (m k : Int) : HO := .dK [(Sum.inr ("cells" : Str), .ref c), (Sum.inr ("mixed" : Str), .int m), (Sum.inr ("turn" : Str), .int k)]
structure HasDeck2 (W : Wd) (d c : Addr) : Prop where
  hd : W.hid d = true
  hc : W.hid c = true
  ne : d ≠ c
  get : ∀ H, W.inv H → ∃ (ns : List Int) (m k : Int), H d = some (deckO2 c m k) ∧ H c = some (.lst (ns.map V.int)) ∧ ns.length ≤ 64
  put : ∀ (H H' : Hp) (ns : List Int) (m k : Int), W.inv H → (∀ a, a ≠ d → a ≠ c → H' a = H a) → H' d = some (deckO2 c m k) → H' c = some (.lst (ns.map V.int)) → ns.length ≤ 64 → W.inv H'
theorem HasDeck2.hide {W : Wd} {d c : Addr} (h : HasDeck2 W d c) {l : Addr} {φ : Kn} : HasDeck2 (W.hide l φ) d c where
  hd := hidAnd_of h.hd
  hc := hidAnd_of h.hc
  ne := h.ne
  get H i := by
    obtain ⟨i1, _⟩ := i
    obtain ⟨ns, m, k, h1, h2, h3⟩ := h.get _ i1
    exact ⟨ns, m, k, del_le _ _ h1, del_le _ _ h2, h3⟩
  put H H' ns m k i off h1 h2 h3 := by
    obtain ⟨i1, o, ho, p⟩ := i
    obtain ⟨ns0, m0, k0, g1, g2, _⟩ := h.get _ i1
    have nd : d ≠ l := fun e => by
      rw [e, del_self] at g1
      cases g1
    have nc : c ≠ l := fun e => by
      rw [e, del_self] at g2
      cases g2
    have off' : ∀ a, a ≠ d → a ≠ c → del H' l a = del H l a := fun a e1 e2 => by
      by_cases e : a = l
      · rw [e, del_self, del_self]
      · rw [del_ne e, del_ne e, off a e1 e2]
    refine ⟨h.put (del H l) (del H' l) ns m k i1 off' (by rw [del_ne nd]; exact h1) (by rw [del_ne nc]; exact h2) h3, o, by rw [off l nd.symm nc.symm]; exact ho, ?_⟩
    rw [vw_off h.hd h.hc off']
    exact p
theorem HasDeck2.hid {W W' : Wd} {d c : Addr} (h : HasDeck2 W d c) (e : Hid W W') : HasDeck2 W' d c := by
  obtain ⟨p, φ, rfl, _⟩ := e
  exact h.hide
section
variable {K : PySem.W.Frag} {W : Wd} {d c : Addr} (hk : HasDeck2 W d c) {ns : List Int} {m k : Int} {Δ : DEnv} {te ta tb : TE} {t : TS} {P : DV → Prop} {nx bk ct : Wd → DEnv → Prop} {rt : Wd → DV → Prop} {i j : Nat}
end
section
variable {K : PySem.W.Frag} {W : Wd} {Δ : DEnv} {te ta tb tx ty : TE} {PL : List PyData → Prop} {P : DV → Prop} {nx bk ct : Wd → DEnv → Prop} {rt : Wd → DV → Prop}
/-- x[i], x a list that stands apart -/
theorem opd_ixH {p : Addr} {ds : List PyData} {i : Int} {d : PyData} (kp : W.Keeps p (knL K ds)) (h : atI ds i = some d) (k : P (.dat d)) : OpD K W (rIx K) (.raw (.ref p)) (.dat (.int i)) P := fun x y H iv rx ry Q q => by
  cases ry
  have rx : x = .ref p := rx
  subst rx
  obtain ⟨o, ho, xs, rfl, hxs⟩ := kp H iv
  obtain ⟨v, h1, h2⟩ := hxs.atI h
  exact .inl ⟨p, xs, i, v, rfl, rfl, SqL.of ho, h1, q _ H _ iv (Ex.refl _) k h2⟩
end
end Ka

/-! Kc2: dicts by tuples: {}, list(d) -/
namespace Ka
open PySem PySem.Spec PyProof.Rows L2 Evl Kd
section
variable {K : PySem.W.Frag} {W : Wd} {Δ : DEnv} {P : Program} {w : World} {nx bk ct : Wd → DEnv → Prop} {rt : Wd → DV → Prop} {PX : DV → Prop}
end
end Ka

/-! sorted(a set of tuples) -/
namespace Ks
open PySem PySem.W PyProof.Rows
theorem perm_of_map {α β : Type} (f : α → β) : ∀ {l m : List β}, l.Perm m → ∀ l2 : List α, m = l2.map f → ∃ l3 : List α, l3.Perm l2 ∧ l = l3.map f := by
  intro l m h
  induction h with
  | nil =>
    intro l2 e
    have : l2 = [] := by simpa using e.symm
    subst this
    exact ⟨[], .nil, rfl⟩
  | cons x h ih =>
    intro l2 e
    cases l2 with
    | nil => cases e
    | cons a l2 =>
      rw [List.map_cons] at e
      injection e with e1 e2
      obtain ⟨l3, p, q⟩ := ih l2 e2
      exact ⟨a :: l3, p.cons a, by rw [List.map_cons, e1, q]⟩
  | swap x y l =>
    intro l2 e
    match l2, e with
    | a :: b :: l2, e =>
      simp only [List.map_cons, List.cons.injEq] at e
      obtain ⟨e1, e2, e3⟩ := e
      exact ⟨b :: a :: l2, List.Perm.swap _ _ _, by simp [e1, e2, e3]⟩
  | trans h1 h2 ih1 ih2 =>
    intro l2 e
    obtain ⟨l3, p, q⟩ := ih2 l2 e
    obtain ⟨l4, p', q'⟩ := ih1 l3 q
    exact ⟨l4, p'.trans p, q'⟩
section
variable {prog : Program} {w : World} {A : Around} {E : Value → Shared → Prop} {s : Shared} {a : Addr} {L : List (Addr × NestedKey)} {es : Array (Int × Value)} {ep : Nat} {t : SetTable}
theorem sorted_setK (R : SN w s.heap a L es ep t) (hh : A.handled = none) (hz : L.length < 1000) {R' : Value → PyData → Prop} {Q : Value → Shared → Prop}
    (h : ∀ L' : List (Addr × NestedKey), L'.Perm L → ∃ ds : List PyData, EachIs (fun v d => ∃ as, Reads s.heap v d as) (L'.map fun p => Value.ref p.1) ds ∧ EachIs R' (L'.map fun p => Value.ref p.1) ds ∧ AllAlike ds ∧ Sortable ds ∧ (∀ d ∈ ds, A.units + 2 + d.depth < cLine) ∧
      ∀ (s' : Shared) (p : Addr) (out : List Value) (c : Nat), (∀ b o, s.heap.get? b = some o → s'.heap.get? b = some o) → s'.gens = s.gens → s'.os = s.os → s.heap.objs.size ≤ p → s'.heap.get? p = some (seqObj "list" out.toArray c) → EachIs R' out (ds.mergeSort (dataLe false id)) → Q (.ref p) s') :
    wpAny (model prog w) A (call (.builtin "sorted") [.ref a]) Q E s := by
  obtain ⟨o, ho, hex, hd⟩ := R.ob
  have hsz := R.size
  refine call_function_entry_kw kind_sorted plain_sorted entry_sorted (args_sorted1 _) ?_
  unfold Builtin.«sorted»
  refine wpAny_bind (m := checkCount "sorted" 1 1 _) (wpAny_pure ?_)
  refine wpAny_bind (L2.collect_set (A := A.in1) hh ⟨o, ho, hex.1, hd⟩ R.fits (by unfold scanBound; omega) R.tab.ris R.led fun s1 vs k1 hz1 g1 o1 pm => ?_)
  have hes : es.toList.map (·.2) = L.map fun q => Value.ref q.1 := by
    rw [R.rows]
    unfold rowsK
    rw [List.map_map] <;> rfl
  rw [hes] at pm
  obtain ⟨L', pL, e⟩ := perm_of_map (fun q : Addr × NestedKey => Value.ref q.1) pm L rfl
  subst e
  obtain ⟨ds, er, eR, hal, hk, hu, hQ⟩ := h L' pL
  have hvl : (L'.map fun q => Value.ref q.1).length ≤ sizeLine := by rw [List.length_map, pL.length_eq, sizeLine_eq]; omega
  refine wpAny_bind (wpAny_newList ?_ hvl)
  have hoL : (s1.heap.push (seqObj "list" (L'.map fun q => Value.ref q.1).toArray 0)).get? s1.heap.objs.size = some (seqObj "list" (L'.map fun q => Value.ref q.1).toArray 0) := Heap.get?_push_size _ rfl
  have k2 : ∀ b u, s.heap.get? b = some u → (sortingHeap (s1.heap.push (seqObj "list" (L'.map fun q => Value.ref q.1).toArray 0)) s1.heap.objs.size (L'.map fun q => Value.ref q.1)).get? b = some u := fun b u e => by
    have q := k1 b u e
    have hlt := Heap.lt_size q
    have z := Heap.get?_push_of_some (seqObj "list" (L'.map fun q => Value.ref q.1).toArray 0) q
    unfold sortingHeap
    have hlt2 : b < (s1.heap.push (seqObj "list" (L'.map fun q => Value.ref q.1).toArray 0)).objs.size := Heap.lt_size z
    refine Heap.get?_push_of_some _ (Heap.get?_push_of_some _ ?_)
    rw [Heap.get?_update_ne _ _ _ _ (Nat.ne_of_lt hlt)]
    exact z
  have er' : EachIs (fun v d => ∃ as, Reads (sortingHeap (s1.heap.push (seqObj "list" (L'.map fun q => Value.ref q.1).toArray 0)) s1.heap.objs.size (L'.map fun q => Value.ref q.1)) v d as) (L'.map fun q => Value.ref q.1) ds := er.mono fun _ _ ⟨as, r⟩ => ⟨as, PyProof.Rows.Reads.keeps k2 r⟩
  have S := SortsAt.data (prog := prog) (w := w) (A := A.in1.in1) (s := { s1 with heap := sortingHeap (s1.heap.push (seqObj "list" (L'.map fun q => Value.ref q.1).toArray 0)) s1.heap.objs.size (L'.map fun q => Value.ref q.1) }) er' hal hk hu
  refine wpAny_bind (wpAny_holding (wpAny_call_entry_kw slot_list_sort ⟨_, hoL, rfl⟩ entry_list_sort ?_ (args_list_sort _)))
  show wpAny (model prog w) A.in1.in1 (Builtin.«list.sort» ⟨[.ref s1.heap.objs.size], []⟩) _ _ { s1 with heap := s1.heap.push (seqObj "list" (L'.map fun q => Value.ref q.1).toArray 0) }
  refine list_sort_vals (s := { s1 with heap := s1.heap.push (seqObj "list" (L'.map fun q => Value.ref q.1).toArray 0) }) hoL S hvl ?_
  refine ⟨_, rfl, wpAny_pure ⟨_, rfl, ?_⟩⟩
  obtain ⟨c, hc⟩ := sortedHeap_at (vs := L'.map fun q => Value.ref q.1) (out := (sortVals (dataKind (sortingHeap (s1.heap.push (seqObj "list" (L'.map fun q => Value.ref q.1).toArray 0)) s1.heap.objs.size (L'.map fun q => Value.ref q.1)) ds) false (L'.map fun q => Value.ref q.1) (L'.map fun q => Value.ref q.1)).toArray) hoL
  refine hQ _ s1.heap.objs.size _ c (fun b u e => ?_) g1 o1 hz1 hc ?_
  · have q := k1 b u e
    have hlt := Heap.lt_size q
    show (sortedHeap (s1.heap.push (seqObj "list" (L'.map fun q => Value.ref q.1).toArray 0)) s1.heap.objs.size (L'.map fun q => Value.ref q.1) _).get? b = some u
    rw [sortedHeap_old (Nat.ne_of_lt hlt) (by rw [size_push']; exact Nat.lt_succ_of_lt hlt)]
    exact Heap.get?_push_of_some _ q
  · have := sortVals_data (h' := sortingHeap (s1.heap.push (seqObj "list" (L'.map fun q => Value.ref q.1).toArray 0)) s1.heap.objs.size (L'.map fun q => Value.ref q.1)) (enc := id) false eR er' (by simpa using hal)
    simpa using this
end
end Ks
namespace Ka
open PySem PySem.Spec PyProof.Rows L2 Evl
section
variable {X : Cx} {pins : List (Addr × Obj)} {σ : L2.St} {H : Hp} {s : Shared}
theorem nodup_le {α : Type} [DecidableEq α] : ∀ {l m : List α}, l.Nodup → (∀ x ∈ l, x ∈ m) → l.length ≤ m.length
  | [], _, _, _ => Nat.zero_le _
  | x :: l, m, hn, h => by
    rw [List.nodup_cons] at hn
    have hx := h x (by simp)
    have := nodup_le (l := l) (m := m.erase x) hn.2 fun y hy => (List.mem_erase_of_ne (fun e => hn.1 (by rw [← e]; exact hy))).mpr (h y (List.mem_cons_of_mem _ hy))
    rw [List.length_erase_of_mem hx] at this
    have hp : 0 < m.length := List.length_pos_of_mem hx
    rw [List.length_cons]
    omega
/-- what the members stand for, in this order -/
theorem says_list {K : PySem.W.Frag} {U : Hp} {ds : List PyData} : ∀ {L : List (Addr × NestedKey)}, (∀ p ∈ L, ∃ d ∈ ds, p.2 = kd d ∧ Dq K U (.ref p.1) d) → ∃ es, es.map kd = L.map (·.2) ∧ Dqs K U (L.map fun p => V.ref p.1) es ∧ ∀ e ∈ es, e ∈ ds
  | [], _ => ⟨[], rfl, .nil, nofun⟩
  | p :: L, h => by
    obtain ⟨d, m, e, r⟩ := h p (by simp)
    obtain ⟨es, e1, e2, e3⟩ := says_list fun q hq => h q (List.mem_cons_of_mem _ hq)
    exact ⟨d :: es, by rw [List.map_cons, List.map_cons, e1, e], .cons r e2, fun x hx => by
      rcases List.mem_cons.mp hx with rfl | hx
      · exact m
      · exact e3 x hx⟩
theorem refs_vals : ∀ L : List (Addr × NestedKey), Vals (L.map fun p => V.ref p.1) (L.map fun p => Value.ref p.1)
  | [] => .nil
  | _ :: L => .cons rfl (refs_vals L)
/-- sorted(s), s a set of tuples -/
def rSortedKs (w : World) (K : PySem.W.Frag) : List V → Hp → VK → Prop := fun vs H Q => ∃ (a : Addr) (L : List (Addr × NestedKey)) (ds : List PyData) (U : Hp), vs = [V.ref a] ∧ H a = some (SetKO w a L) ∧ Ex U H ∧ SetSays K U ds L ∧ ds.length < 1000 ∧ PySem.W.AllAlike ds ∧ PySem.W.Sortable ds ∧ (∀ d ∈ ds, d.depth ≤ 60) ∧
  ∀ (es : List PyData) (ys : List V) (p : Addr), (es.map kd).Nodup → (∀ e ∈ es, e ∈ ds) → (∀ d ∈ ds, kd d ∈ es.map kd) → Dqs K U ys (es.mergeSort (PySem.W.dataLe false id)) → H p = none → Q (.ref p) (upd H p (.lst ys))
theorem cr_sortedKs (hc : X.calm = true) (hu : X.A.units + 64 < cLine) : CallR X (.builtin "sorted") (rSortedKs X.w X.K) := by
  intro pins s σ H vs us Q I r h
  obtain ⟨a, L, ds, U, rfl, ha, hU, hs, hz, al, so, dep, q⟩ := h
  rw [Vals.ref1 r]
  obtain ⟨es, ep, t, R⟩ := (I.hok a _ ha).1
  have hL : L.length < 1000 := by
    have := nodup_le (m := ds.map kd) R.nd fun k m => (says_mem hs k).mp m
    rw [List.length_map, List.length_map] at this
    omega
  refine Ks.sorted_setK R (I.ok.hd hc) hL (R' := fun u d => ∃ v, RelV v u ∧ Dq X.K U v d) fun L' pL => ?_
  obtain ⟨fs, e1, e2, e3⟩ := says_list (L := L') fun p m => hs.1 p (pL.mem_iff.mp m)
  have rv := refs_vals L'
  obtain ⟨as', rs⟩ := Dp.readsAll I fs _ _ (e2.mono hU).dp rv
  refine ⟨fs, each_reads rs, each_three rv e2, fun d hd d' hd' => al d (e3 d hd) d' (e3 d' hd'), ?_, fun d hd => by have := dep d (e3 d hd); omega, fun s' p out c k g o hp hg e => ?_⟩
  · rcases so with so | so
    · exact .inl fun d hd => so d (e3 d hd)
    · exact .inr fun d hd => so d (e3 d hd)
  · obtain ⟨ys, ry, hy⟩ := three_back e
    have hn : H p = none := I.hok.fresh hp
    have hlen : ys.length ≤ sizeLine := by
      have h1 := hy.length
      rw [List.length_mergeSort] at h1
      have h2 := congrArg List.length e1
      rw [List.length_map, List.length_map, pL.length_eq] at h2
      rw [h1, h2, sizeLine_eq]
      omega
    have J : Inv X pins σ (upd H p (.lst ys)) { s with heap := s'.heap, gens := s'.gens, drawn := s'.drawn, toks := s'.toks } :=
      I.call (ch := []) (Un.laid k hp hn) (I.hok.laid k hp ⟨hlen, out, c, ry, hg⟩) (by rw [g]; exact I.bare) (fun _ z => nomatch z)
    have es : s' = { s with heap := s'.heap, gens := s'.gens, drawn := s'.drawn, toks := s'.toks } := by
      cases s'
      cases s
      cases o
      rfl
    rw [es]
    refine ⟨.ref p, _, J, rfl, q fs ys p ?_ e3 (fun d hd => ?_) hy hn⟩
    · rw [e1]
      exact (pL.map (·.2)).nodup_iff.mpr R.nd
    · rw [e1]
      exact (pL.map (·.2)).mem_iff.mpr ((says_mem hs _).mpr (List.mem_map.mpr ⟨d, hd, rfl⟩))
end
section
variable {X : Cx} {K : PySem.W.Frag} {w : World} {W : Wd} {Δ : DEnv} {P : DV → Prop}
def rSortedZ (w : World) (K : PySem.W.Frag) : List V → Hp → VK → Prop := fun vs H Q => rSortedY w K vs H Q ∨ rSortedKs w K vs H Q
theorem cr_sortedZ (e : X.K = K) (e2 : X.w = w) (hc : X.calm = true) (hu : X.A.units + 64 < cLine) : CallR X (.builtin "sorted") (rSortedZ w K) := by
  subst e e2
  exact (cr_sortedY rfl rfl hc hu).or (cr_sortedKs hc hu)
theorem cal_sortedZL {ds : List PyData} (h1 : PySem.W.AllAlike ds) (h2 : PySem.W.Sortable ds) (h3 : ∀ d ∈ ds, d.depth ≤ 60) (k : P (.dat (.list (ds.mergeSort (PySem.W.dataLe false id))))) : CalD K W (rSortedZ w K) [.dat (.list ds)] P := fun xs H iv r Q q => .inl (cal_sortedYL h1 h2 h3 k xs H iv r Q q)
theorem cal_sortedZS {S : Int → Bool} {n : Nat} (hn : n < 64) (k : ∀ ns : List Int, ns.Pairwise (· < ·) → (∀ k : Int, k ∈ ns ↔ S k = true) → ns.length = n → P (.dat (.list (ns.map PyData.int)))) : CalD K W (rSortedZ w K) [.obj fun q => SetO w q S n] P := fun xs H iv r Q q => .inl (cal_sortedYS hn k xs H iv r Q q)
theorem cal_sortedZT {ds : List PyData} (h1 : PySem.W.AllAlike ds) (h2 : PySem.W.Sortable ds) (h3 : ∀ d ∈ ds, d.depth ≤ 60) (k : P (.dat (.list (ds.mergeSort (PySem.W.dataLe false id))))) : CalD K W (rSortedZ w K) [.dat (.tuple ds)] P := fun xs H iv r Q q => .inl (cal_sortedYT h1 h2 h3 k xs H iv r Q q)
end
end Ka

/-! zip of a list and a tuple: the library's way with two tuples, the first one a list -/
namespace Kz
open PySem
open PySem.Sem (wp)
section
variable {w : World} {prog : Program} {A : Around} {s : Shared} {E : Value → Shared → Prop}
end

section
variable {w : World} {prog : Program} {A : Around} {s : Shared} {E : Value → Shared → Prop}

end
end Kz
namespace Kz
open PySem PySem.Spec PyProof.Rows L2
end Kz
namespace Ka
open PySem PySem.Spec PyProof.Rows L2 Evl
section
variable {X : Cx} {K : PySem.W.Frag} {w : World} {W : Wd} {Δ : DEnv} {P : DV → Prop}
def zipD (ds es : List PyData) : List DV := (ds.zip es).map fun p => DV.dat (.tuple [p.1, p.2])
end
end Ka

/-! tuple(range(i, j, -1)) -/
namespace Ks
open PySem PySem.Spec PyProof.Rows L2
section
variable {X : Cx}
end
end Ks
namespace Ka
open PySem PySem.Spec PyProof.Rows L2 Evl
section
variable {K : PySem.W.Frag} {w : World} {W : Wd} {Δ : DEnv} {P : DV → Prop}
end
end Ka

/-! s & t and s - t, sets of keys of any depth -/
namespace Ks
open PySem PySem.Spec PyProof.Rows L2
section
variable {P : Program} {w : World} {A : Around} {E : Value → Shared → Prop} {s : Shared} {a : Addr} {L : List (Addr × NestedKey)} {es : Array (Int × Value)} {ep : Nat} {t : SetTable}
/-- what has been gathered of the members so far: those whose key is, or is not, one of the others -/
def Part (w : World) (h0 : Heap) (s1 : Shared) (r : Addr) (La : List (Addr × NestedKey)) (b : Bool) (Ld : List (Addr × NestedKey)) (s' : Shared) : Prop :=
  (∀ c o, c ≠ r → h0.get? c = some o → s'.heap.get? c = some o) ∧ s'.gens = s1.gens ∧ s'.os = s1.os ∧ s1.heap.objs.size ≤ s'.heap.objs.size ∧
    ∃ Lr es ep t, SN w s'.heap r Lr es ep t ∧ (∀ q ∈ Lr, q ∈ Ld ∧ decide (q.2 ∈ La.map (·.2)) = b) ∧ (∀ q ∈ Ld, decide (q.2 ∈ La.map (·.2)) = b → q.2 ∈ Lr.map (·.2)) ∧ Lr.length ≤ Ld.length
theorem Part.skip {h0 : Heap} {s1 s' : Shared} {r : Addr} {La Ld : List (Addr × NestedKey)} {b : Bool} {p : Addr × NestedKey} (h : Part w h0 s1 r La b Ld s') (hp : decide (p.2 ∈ La.map (·.2)) ≠ b) : Part w h0 s1 r La b (Ld ++ [p]) s' := by
  obtain ⟨g1, g2, g3, g4, Lr, es, ep, t, R, m1, m2, m3⟩ := h
  refine ⟨g1, g2, g3, g4, Lr, es, ep, t, R, fun q hq => ⟨List.mem_append_left _ (m1 q hq).1, (m1 q hq).2⟩, fun q hq e => ?_, by rw [List.length_append]; omega⟩
  rcases List.mem_append.mp hq with hq | hq
  · exact m2 q hq e
  · rw [List.mem_singleton.mp hq] at e
    exact absurd e hp
end
section
variable {P : Program} {w : World} {A : Around} {E : Value → Shared → Prop} {s : Shared} {a b : Addr} {L1 L2 : List (Addr × NestedKey)} {es1 es2 : Array (Int × Value)} {ep1 ep2 : Nat} {t1 t2 : SetTable}
theorem Part.up {h0 : Heap} {s1 s' : Shared} {r : Addr} {La Ld : List (Addr × NestedKey)} {b : Bool} (h : Part w h0 s1 r La b Ld s') (e0 : ∃ o es ep t, h0.get? r = some o ∧ o.data = .set es ep t) {q : Addr × NestedKey} (hq : KeyAt h0 q.2 q.1) : KeyAt s'.heap q.2 q.1 := by
  refine ⟨NestedIs.at (fun c o vs n e ed => ?_) _ _ hq.1, hq.2⟩
  refine h.1 c o (fun z => ?_) e
  obtain ⟨o2, es2, ep2, t2, e2, d2⟩ := e0
  rw [z, e2] at e
  rw [← Option.some.inj e, d2] at ed
  cases ed
end
end Ks

/-! set(x) & set(y), set(x) - set(y) of tuples -/
namespace Ka
open PySem PySem.Spec PyProof.Rows L2 Evl
section
variable {X : Cx} {pins : List (Addr × Obj)} {σ : L2.St} {H : Hp} {s : Shared}
end
section
variable {X : Cx} {K : PySem.W.Frag} {w : World} {W : Wd} {Δ : DEnv} {P : DV → Prop} {ta tb : TE}
end
end Ka

/-! range(i, j, -1) gone through, enumerate(list), list * int -/
namespace Ka
open PySem PySem.Spec PyProof.Rows L2 Evl
section
variable {X : Cx} {K : PySem.W.Frag} {w : World} {W : Wd} {Δ : DEnv} {P : DV → Prop} {ta : TA}
end
end Ka

/-! s | t, sets of keys of any depth -/
namespace Ks
open PySem PySem.Spec PyProof.Rows L2
section
variable {P : Program} {w : World} {A : Around} {E : Value → Shared → Prop} {s : Shared} {a : Addr} {L : List (Addr × NestedKey)} {es : Array (Int × Value)} {ep : Nat} {t : SetTable}
theorem Tb.as {t t' : SetTable} {hs : List Int} (T : Tb t hs) (e1 : t'.mask = t.mask) (e2 : t'.place = t.place) (e3 : t'.dummies = t.dummies) : Tb t' hs := by
  refine ⟨by rw [e2]; exact T.ris, by rw [e3]; exact T.dum, by rw [e2]; exact T.len, by rw [e1]; exact T.msk, by rw [e1, e2]; exact T.low, ?_⟩
  rw [e1, e2]
  exact T.found
end
end Ks

/-! a set some members of which have been taken out: how many are left -/
namespace Ks
open PySem PySem.Spec PyProof.Rows L2
structure WN (w : World) (h : Heap) (a : Addr) (L : List (Addr × NestedKey)) (es : Array (Int × Value)) (ep : Nat) (t : SetTable) : Prop where
  ob : ∃ o, h.get? a = some o ∧ o.ExactSet ∧ o.data = .set es ep t
  rows : es.toList = rowsK w L
  len : t.place.size = L.length
  msk : Mk t.mask
  few : t.place.size + t.dummies.size ≤ t.mask
section
variable {P : Program} {w : World} {A : Around} {E : Value → Shared → Prop} {s : Shared} {a : Addr} {L : List (Addr × NestedKey)} {es : Array (Int × Value)} {ep : Nat} {t : SetTable}
theorem WN.size {h : Heap} (R : WN w h a L es ep t) : es.size = L.length := rowsK_size R.rows
theorem WN.keep {h h' : Heap} (R : WN w h a L es ep t) (g : ∀ o, h.get? a = some o → h'.get? a = some o) : WN w h' a L es ep t := by
  obtain ⟨o, ho, r⟩ := R.ob
  exact ⟨⟨o, g o ho, r⟩, R.rows, R.len, R.msk, R.few⟩
end
end Ks

/-! sorted(set(x) | set(y)), sorted(set(x) & set(y)), len(set(x) - set(y)) -/
namespace Ka
open PySem PySem.Spec PyProof.Rows L2 Evl
section
variable {X : Cx} {pins : List (Addr × Obj)} {σ : L2.St} {H : Hp} {s : Shared}
end
section
variable {X : Cx} {K : PySem.W.Frag} {w : World} {W : Wd} {Δ : DEnv} {P : DV → Prop} {ta tb : TE}
/-- the two kinds, as the sorting asks for -/
structure Sorts (ds es : List PyData) : Prop where
  al : PySem.W.AllAlike (ds ++ es)
  so : PySem.W.Sortable (ds ++ es)
  dep : ∀ d ∈ ds ++ es, d.depth ≤ 60
theorem Sorts.part {ds es fs : List PyData} (h : Sorts ds es) (hf : ∀ f ∈ fs, f ∈ ds ∨ f ∈ es) : PySem.W.AllAlike fs ∧ PySem.W.Sortable fs ∧ ∀ d ∈ fs, d.depth ≤ 60 := by
  have hm : ∀ f ∈ fs, f ∈ ds ++ es := fun f m => List.mem_append.mpr (hf f m)
  refine ⟨fun d hd d' hd' => h.al d (hm d hd) d' (hm d' hd'), ?_, fun d hd => h.dep d (hm d hd)⟩
  rcases h.so with so | so
  · exact .inl fun d hd => so d (hm d hd)
  · exact .inr fun d hd => so d (hm d hd)
end
end Ka

/-! sorting tuples of which some may be empty -/
namespace Ks
open PySem PySem.W PySem.Calls PySem.SeqAt PyProof.Rows
theorem call_tuple_lt {prog : Program} {w : World} {A : Around} {s : Shared} {E : Value → Shared → Prop} {Q : Value → Shared → Prop} {l b : Addr} {items items2 : Array Value} {e r : Nat → Bool} (hl : s.heap.IsTuple l items) (hb : s.heap.IsTuple b items2)
    (he : ∀ j (h1 : j < items.size) (h2 : j < items2.size), EqAt A.in1 s items[j] items2[j] (e j)) (hr : ∀ j (h1 : j < items.size) (h2 : j < items2.size), e j = false → RcLt A.in1 s items[j] items2[j] (r j))
    (h : Q (.bool (firstLt e r (decide (items.size < items2.size)) (List.range (min items.size items2.size)))) s) : wpAny (model prog w) A (call (.builtin "tuple.__lt__") [.ref l, .ref b]) Q E s := by
  obtain ⟨⟨cls, dd, data, sl⟩, ho, hc, n, hd⟩ := id hl
  obtain ⟨⟨cls2, dd2, data2, sl2⟩, ho2, hc2, n2, hd2⟩ := id hb
  simp only at hc hd hc2 hd2
  subst hc hd hc2 hd2
  exact call_meets F.slot_tuple_lt ⟨_, ho, rfl⟩ F.entry_tuple_lt (F.args_tuple_lt_2 _ _) (tuple_ltAt l b items items2 n n2 dd dd2 sl sl2 e r) ⟨ho, ho2, he, hr, h⟩
section
variable {prog : Program} {w : World} {A : Around} {E : Value → Shared → Prop} {s : Shared}
theorem oneLt_tup {xs ys : List PyData} {a b : Value} {as bs : List Addr} {Q : Bool → Shared → Prop} (ra : Reads s.heap a (.tuple xs) as) (rb : Reads s.heap b (.tuple ys) bs) (hal : alikeAll xs ys = true)
    (hu : A.units + min (PyData.tuple xs).depth (PyData.tuple ys).depth < cLine) (hq : Q (dataLt (.tuple xs) (.tuple ys)) s) : wpAny (model prog w) A (oneLt' true a b) Q E s := by
  cases ra with
  | @tuple l o vs n _ as₁ h1 h2 h3 h4 =>
    cases rb with
    | @tuple l' o' vs' n' _ bs₁ k1 k2 k3 k4 =>
      have n1 : vs.size = xs.length := by simpa using ReadsAll.length _ _ _ h4
      have n2 : vs'.size = ys.length := by simpa using ReadsAll.length _ _ _ k4
      rw [dataLt_tuple, ← firstLt_toks xs ys hal, ← n1, ← n2] at hq
      rw [oneLt'_eq]
      simp only [if_true]
      refine wpAny_bind (wpAny_cRoomFor (room_here hu) ?_)
      refine wpAny_bind (wpAny_callSpecialIfBound?_slot (T := "tuple") ⟨_, h1, h2⟩ F.slot_tuple_lt (call_tuple_lt (e := pairEq xs ys) (r := fun j => dataLt (xs.getD j .none) (ys.getD j .none)) ⟨_, h1, h2, _, h3⟩ ⟨_, k1, k2, _, k3⟩ (fun j j1 j2 => ?_) (fun j j1 j2 hj => ?_) ?_))
      · have := eqAt_alikeAll xs ys A.in1 s vs.toList vs'.toList _ _ h4 k4 hal (room_in hu) j (by simpa using j1) (by simpa using j2)
        simpa using this
      · have := rcLt_alikeAll xs ys A.in1 s vs.toList vs'.toList _ _ h4 k4 hal (room_in hu) j (by simpa using j1) (by simpa using j2) hj
        simpa using this
      · exact wpAny_truthy_bool hq
theorem mapM_each {α β : Type} {M : Model} {f : α → Sem β} : ∀ {vs : List α} {rs : List β}, EachIs (fun v r => ∀ (E : Value → Shared → Prop) (Q : β → Shared → Prop), Q r s → wpAny M A (f v) Q E s) vs rs → ∀ {E : Value → Shared → Prop} {Q : List β → Shared → Prop}, Q rs s → wpAny M A (vs.mapM f) Q E s
  | _, _, .nil, E, Q, h => by
    rw [List.mapM_nil]
    exact wpAny_pure h
  | _, _, .cons h t, E, Q, q => by
    rw [List.mapM_cons]
    exact wpAny_bind (h _ _ (wpAny_bind (mapM_each t (wpAny_pure q))))
/-- the first item of a tuple -/
theorem first_reads {M : Model} {v : Value} {xs : List PyData} {as : List Addr} (r : Reads s.heap v (.tuple xs) as) : ∃ o : Option Value, (o.isSome = true ↔ ∃ x t, xs = x :: t) ∧ (∀ (E : Value → Shared → Prop) (Q : Option Value → Shared → Prop), Q o s → wpAny M A (firstOfTuple' v) Q E s) ∧ Looks M s.heap (typeOf v) (.type "tuple") := by
  cases r with
  | @tuple l o vs n _ as₁ h1 h2 h3 h4 =>
    have n1 : vs.size = xs.length := by simpa using ReadsAll.length _ _ _ h4
    have hL : Looks M s.heap (typeOf (.ref l)) (.type "tuple") := h2 ▸ (show Looks M s.heap (typeOf (.ref l)) o.cls from (Looks.ld h1).andThen .now)
    refine ⟨vs[0]?, ?_, fun E Q h => ?_, hL⟩
    · cases xs with
      | nil =>
        have : vs = #[] := Array.eq_empty_of_size_eq_zero n1
        rw [this]
        simp
      | cons x xs =>
        rw [Array.getElem?_eq_getElem (by rw [n1]; simp)]
        simp
    · rw [kas_first_eq]
      refine wpAny_bind (hL.here ?_)
      rw [if_neg (by decide)]
      exact wpAny_bind (listItems_at h1 h3 (wpAny_pure h))
theorem SortsAt.tups {vs : List Value} {ds : List PyData} (e : EachIs (fun v d => ∃ as, Reads s.heap v d as) vs ds) (hal : AllAlike ds) (ht : ∀ d ∈ ds, ∃ xs, d = .tuple xs) (hu : ∀ d, d ∈ ds → A.units + d.depth < cLine) : SortsAt prog w A s (dataKind s.heap ds) vs := by
  by_cases hne : ∀ d ∈ ds, ∃ x r, d = .tuple (x :: r)
  · exact SortsAt.data e hal (.inl hne) hu
  have room : ∀ {d d' : PyData}, d ∈ ds → A.units + min d.depth d'.depth < cLine := fun {d d'} hd => Nat.lt_of_le_of_lt (Nat.add_le_add_left (Nat.min_le_left _ _) _) (hu d hd)
  have lts : ∀ (f : Bool) (E : Value → Shared → Prop) (x y : Value) (a b : (dataKind s.heap ds).α) {Q : Bool → Shared → Prop}, (dataKind s.heap ds).keyOf x = some a → (dataKind s.heap ds).keyOf y = some b → Q ((dataKind s.heap ds).blt a b) s → wpAny (model prog w) A (oneLt' f x y) Q E s := fun f E x y a b Q ha hb hq => by
    obtain ⟨d, as, hd, ra, rfl⟩ := dataKind_inv ha
    obtain ⟨d', as', hd', rb, rfl⟩ := dataKind_inv hb
    have hdd := hal d hd d' hd'
    cases f with
    | false => exact oneLt_alike nofun ra rb hdd (by obtain ⟨xs, rfl⟩ := ht d hd; exact nofun) (room hd) hq
    | true =>
      have hroom := room (d' := d') hd
      obtain ⟨xs, rfl⟩ := ht d hd
      obtain ⟨ys, rfl⟩ := ht d' hd'
      exact oneLt_tup ra rb (by simpa [alike] using hdd) hroom hq
  have firsts : ∃ fs : List (Option Value), EachIs (fun v r => ∀ (E : Value → Shared → Prop) (Q : Option Value → Shared → Prop), Q r s → wpAny (model prog w) A (firstOfTuple' v) Q E s) vs fs ∧ EachIs (fun d (r : Option Value) => r.isSome = true ↔ ∃ x t, d = PyData.tuple (x :: t)) ds fs ∧ ∀ v ∈ vs, Looks (model prog w) s.heap (typeOf v) (.type "tuple") := by
    clear hne hal hu room lts
    induction e with
    | nil => exact ⟨[], .nil, .nil, nofun⟩
    | cons h t ih =>
      rename_i v d vs' ds'
      obtain ⟨as, r⟩ := h
      obtain ⟨fs, f1, f2, f3⟩ := ih fun x hx => ht x (List.mem_cons_of_mem _ hx)
      obtain ⟨xs, rfl⟩ := ht d (List.mem_cons_self ..)
      obtain ⟨o, o1, o2, o3⟩ := first_reads (M := model prog w) (A := A) r
      refine ⟨o :: fs, .cons o2 f1, .cons (by rw [o1]; simp) f2, fun y hy => ?_⟩
      rcases List.mem_cons.mp hy with rfl | hy
      · exact o3
      · exact f3 y hy
  obtain ⟨fs, f1, f2, f3⟩ := firsts
  have notall : ¬ (fs.toArray.all fun x => x.isSome) = true := fun z => by
    refine hne ?_
    replace z : ∀ o ∈ fs, o.isSome = true := by simpa using z
    clear hne hal hu room lts f1 f3 ht e
    induction f2 with
    | nil => exact nofun
    | cons h t ih =>
      intro d hd
      rcases List.mem_cons.mp hd with rfl | hd
      · exact h.mp (z _ (List.mem_cons_self ..))
      · exact ih (fun o ho => z o (List.mem_cons_of_mem _ ho)) d hd
  have keys : ∀ v, v ∈ vs → ∃ a, (dataKind s.heap ds).keyOf v = some a := fun v hv => by
    obtain ⟨d, hd, as, r⟩ := e.left v hv
    exact ⟨_, dataKind_some hal hd r⟩
  by_cases c : (fs.toArray[0]?.bind id).isSome = true
  · refine ⟨keys, general', fun E x y a b Q ha hb hq => lts false E x y a b ha hb hq, fun h2 E Q hq => ?_⟩
    rw [keyKind'_eq, List.mapM_toArray, map_eq_pure_bind]
    refine wpAny_bind (wpAny_bind (mapM_each f1 (wpAny_pure ?_)))
    rw [if_neg notall, if_pos c]
    exact wpAny_pure hq
  · refine ⟨keys, oneType', fun E x y a b Q ha hb hq => ?_, fun h2 E Q hq => ?_⟩
    · rw [keyLt'_oneType]
      exact lts true E x y a b ha hb hq
    rw [keyKind'_eq, List.mapM_toArray, map_eq_pure_bind]
    refine wpAny_bind (wpAny_bind (mapM_each f1 (wpAny_pure ?_)))
    rw [if_neg notall, if_neg c]
    rw [oneTypeOnly'_eq, List.mapM_toArray, map_eq_pure_bind]
    refine wpAny_bind (wpAny_bind (wpAny_bind (kas_mapM (r := Value.type "tuple") _ (fun v hv Q' hq => (f3 v hv).here hq) (wpAny_pure ?_))))
    have hall : ((List.map (fun _ => Value.type "tuple") vs).toArray.all fun x => x == Value.type "tuple") = true := by
      simp only [List.all_toArray, List.all_map, List.all_eq_true]
      intro _ _
      rfl
    have h0 : (List.map (fun _ => Value.type "tuple") vs).toArray[0]? = some (Value.type "tuple") := by
      cases vs with
      | nil => simp at h2
      | cons v vs => simp
    rw [h0]
    simp only [hall, if_true]
    exact wpAny_pure (wpAny_pure hq)
/-- sorted(l), l a list of tuples of any lengths -/
theorem sorted_tups {l : Addr} {vs : List Value} {ds : List PyData} {R : Value → PyData → Prop} {Q : Value → Shared → Prop} (hl : s.heap.IsList l vs.toArray) (e : EachIs R vs ds) (er : EachIs (fun v b => ∃ as, Reads s.heap v (id b) as) vs ds) (hal : AllAlike (ds.map id)) (ht : ∀ d ∈ ds, ∃ xs, d = .tuple xs) (hL : ds.length ≤ sizeLine)
    (hu : ∀ b, b ∈ ds → A.units + 2 + b.depth < cLine) (h : ∀ out, out.length = ds.length → EachIs R out (ds.mergeSort (dataLe false id)) → Q (.ref (s.heap.objs.size + 1)) { s with heap := sortedAll s.heap vs (List.toArray out) }) :
    wpAny (model prog w) A (call (.builtin "sorted") [.ref l]) Q E s := by
  have er' : EachIs (fun v b => ∃ as, Reads (sortingHeap (copyHeap s.heap vs) (s.heap.objs.size + 1) vs) v (id b) as) vs ds := er.mono fun _ _ ⟨as, r⟩ => ⟨as, PyProof.Rows.Reads.keeps (fun _ _ => sorting_copy_old) r⟩
  have er2 := each_map (R := fun v d => ∃ as, Reads (sortingHeap (copyHeap s.heap vs) (s.heap.objs.size + 1) vs) v d as) (id : PyData → PyData) er'
  exact sorted_vals hl (SortsAt.tups (s := { s with heap := sortingHeap (copyHeap s.heap vs) (s.heap.objs.size + 1) vs }) er2 hal (fun d hd => ht d (by simpa using hd)) (fun d hd => hu d (by simpa using hd))) (by rw [e.length]; exact hL)
    (h _ (by rw [sortVals_length false rfl]; exact e.length) (sortVals_data false e er' hal))
end
end Ks
namespace Ka
open PySem PySem.Spec PyProof.Rows L2 Evl
section
variable {X : Cx} {K : PySem.W.Frag} {w : World} {W : Wd} {Δ : DEnv} {P : DV → Prop}
def rSortedV (K : PySem.W.Frag) : List V → Hp → VK → Prop := fun vs H Q => ∃ (a : Addr) (xs : List V) (ds : List PyData) (U : Hp), vs = [V.ref a] ∧ H a = some (.lst xs) ∧ Ex U H ∧ Dqs K U xs ds ∧ PySem.W.AllAlike ds ∧ (∀ d ∈ ds, ∃ ys, d = PyData.tuple ys) ∧ (∀ d ∈ ds, d.depth ≤ 60) ∧
  ∀ (ys : List V) (p : Addr), Dqs K U ys (ds.mergeSort (PySem.W.dataLe false id)) → H p = none → Q (.ref p) (upd H p (.lst ys))
theorem cr_sortedV (hu : X.A.units + 64 < cLine) : CallR X (.builtin "sorted") (rSortedV X.K) := by
  intro pins s σ H vs us Q I r h
  obtain ⟨a, xs, ds, U, rfl, ha, hU, hd, al, tp, dep, q⟩ := h
  rw [Vals.ref1 r]
  obtain ⟨its, n, rv, ho, hz⟩ := I.lst ha
  obtain ⟨as, rs⟩ := Dp.readsAll I ds xs its (hd.mono hU).dp rv
  have hlen : its.length = ds.length := by
    rw [← rv.length, hd.length]
  have e3 := each_three rv hd
  have er : PySem.W.EachIs (fun u d => ∃ as, Reads s.heap u (id d) as) its ds := each_reads rs
  refine Ks.sorted_tups (vs := its) (ds := ds) (R := fun u d => ∃ v, RelV v u ∧ Dq X.K U v d) ⟨_, ho, rfl, n, rfl⟩ e3 er (by simpa using al) tp (by rw [← hlen, ← rv.length]; exact hz) (fun d hd' => by have := dep d hd'; show X.A.units + 2 + d.depth < cLine; omega) fun out hol e => ?_
  obtain ⟨ys, ry, hy⟩ := three_back e
  obtain ⟨c, hc⟩ := sortedAll_get s.heap its out
  have hn : H (s.heap.objs.size + 1) = none := I.hok.fresh (Nat.le_succ _)
  refine ⟨.ref (s.heap.objs.size + 1), upd H (s.heap.objs.size + 1) (.lst ys), I.laid (t' := s.toks) (fun b o e => PyProof.Rows.sortedAll_old e) (Nat.le_succ _) ⟨?_, out, c, ry, hc⟩, rfl, q ys _ hy hn⟩
  rw [ry.length, hol, ← hlen, ← rv.length]
  exact hz
theorem cr_sortedVK (e : X.K = K) (hu : X.A.units + 64 < cLine) : CallR X (.builtin "sorted") (rSortedV K) := by
  subst e
  exact cr_sortedV hu
theorem cal_sortedV {ds : List PyData} (h1 : PySem.W.AllAlike ds) (h2 : ∀ d ∈ ds, ∃ ys, d = PyData.tuple ys) (h3 : ∀ d ∈ ds, d.depth ≤ 60) (k : P (.dat (.list (ds.mergeSort (PySem.W.dataLe false id))))) : CalD K W (rSortedV K) [.dat (.list ds)] P := fun xs H iv r Q q => by
  obtain ⟨x, rfl, rx⟩ := reps1 r
  cases rx with
  | @lst a vs _ ha hv =>
    exact ⟨a, vs, ds, W.view H, rfl, Wd.view_le _ _ ha, Wd.view_le, hv, h1, h2, h3, fun ys p hy hp => q _ _ _ (Wd.inv_new iv hp) (Wd.view_ex (Ex.new hp)) k (Dq.newL iv hp hy)⟩
end
end Ka

namespace Ka
open PySem PySem.Spec PyProof.Rows L2 Evl
section
variable {K : PySem.W.Frag} {W : Wd} {P : DV → Prop}
end
end Ka

/-! Kce: tuple(permutations(range(..))) -/
namespace Kp
open PySem PySem.Spec PyProof.Rows
open Sem (wp)
theorem mro_pm : mroOf (.type "itertools.permutations") = pure [.type "itertools.permutations", .type "object"] := by rw [mroOf_type]; kernel_rfl
theorem lookup_pm_new : typeLookup (.type "itertools.permutations") "__new__" = pure (some (.builtin "itertools.permutations.__new__")) := by rw [typeLookup_type, builtinLookup_eq_fast]; kernel_rfl
theorem slot_pm_init : Slot "itertools.permutations" "__init__" "object.__init__" :=
  .of (owner := "object") (n := "__init__") (by rw [typeLookup_type, builtinLookup_eq_fast]; kernel_rfl) (by decide +kernel) (by decide +kernel) (by decide +kernel)
    (by first | exact .inl (by decide +kernel) | exact .inr (by decide +kernel)) (by rw [isSubtype_type]; kernel_rfl)
theorem sub_pm : isSubtype (.type "itertools.permutations") (.type "itertools.permutations") = pure true := by rw [isSubtype_type]; kernel_rfl
theorem called_pm : TypeCalled "itertools.permutations" "itertools.permutations.__new__" "object.__init__" :=
  ⟨by decide +kernel, by decide +kernel, ⟨_, _, mro_pm⟩, madeBy_type mro_pm lookup_pm_new (by decide +kernel), by decide +kernel, sub_pm, slot_pm_init⟩
theorem typeCall_pm (a : Value) : checkTypeCall "itertools.permutations" ⟨[a], []⟩ = pure () := by kernel_rfl
theorem newCall_pm (a : Value) : checkBuiltinCall "itertools.permutations.__new__" ⟨[.type "itertools.permutations", a], []⟩ = pure () := by kernel_rfl
theorem entry_pm_new : entryFor table "itertools.permutations.__new__" = some Builtin.«itertools.permutations.__new__» := entryFor_of_tree (by kernel_rfl)
theorem slot_pm_iter : Slot "itertools.permutations" "__iter__" "itertools.permutations.__iter__" :=
  .of (owner := "itertools.permutations") (n := "__iter__") (by rw [typeLookup_type, builtinLookup_eq_fast]; kernel_rfl) (by decide +kernel) (by decide +kernel) (by decide +kernel)
    (by first | exact .inl (by decide +kernel) | exact .inr (by decide +kernel)) sub_pm
theorem slot_pm_next : Slot "itertools.permutations" "__next__" "itertools.permutations.__next__" :=
  .of (owner := "itertools.permutations") (n := "__next__") (by rw [typeLookup_type, builtinLookup_eq_fast]; kernel_rfl) (by decide +kernel) (by decide +kernel) (by decide +kernel)
    (by first | exact .inl (by decide +kernel) | exact .inr (by decide +kernel)) sub_pm
theorem entry_pm_iter : entryFor table "itertools.permutations.__iter__" = some Builtin.«dict_keyiterator.__iter__» :=
  entryFor_alias (id' := "dict_keyiterator.__iter__") (by kernel_rfl) (by first | rfl | decide +kernel | (unfold String.splitOn; simp +decide [String.splitOnAux])) (by decide +kernel) (by kernel_rfl)
theorem entry_pm_next : entryFor table "itertools.permutations.__next__" = some Builtin.«itertools.permutations.__next__» := entryFor_of_tree (by kernel_rfl)
theorem owner_pm : Manifest.owners.lookup (String.ofList ['s', 'n', 'o', 'i', 't', 'a', 't', 'u', 'm', 'r', 'e', 'p', '.', 's', 'l', 'o', 'o', 't', 'r', 'e', 't', 'i'].reverse) = some Manifest.sig_itertools_permutations := by kernel_rfl
theorem args_pm_iter (a : Value) : argsOk "itertools.permutations.__iter__" ⟨[a], []⟩ := by
  unfold argsOk; rw [signature?_of (id := "itertools.permutations.__iter__") (n := ['_', '_', 'r', 'e', 't', 'i', '_', '_']) (o := ['s', 'n', 'o', 'i', 't', 'a', 't', 'u', 'm', 'r', 'e', 'p', '.', 's', 'l', 'o', 'o', 't', 'r', 'e', 't', 'i']) (by kernel_rfl) owner_pm]; kernel_rfl
theorem args_pm_next (a : Value) : argsOk "itertools.permutations.__next__" ⟨[a], []⟩ := by
  unfold argsOk; rw [signature?_of (id := "itertools.permutations.__next__") (n := ['_', '_', 't', 'x', 'e', 'n', '_', '_']) (o := ['s', 'n', 'o', 'i', 't', 'a', 't', 'u', 'm', 'r', 'e', 'p', '.', 's', 'l', 'o', 'o', 't', 'r', 'e', 't', 'i']) (by kernel_rfl) owner_pm]; kernel_rfl
theorem nolen_pm : typeLookup (.type "itertools.permutations") "__len__" = pure none := by rw [typeLookup_type, builtinLookup_eq_fast]; kernel_rfl
theorem nohint_pm : typeLookup (.type "itertools.permutations") "__length_hint__" = pure none := by rw [typeLookup_type, builtinLookup_eq_fast]; kernel_rfl
/-- one row to the next -/
def nextP (n : Nat) : (place : Nat) → (indices cycles : List Nat) → Option (List Nat × List Nat)
  | 0, _, _ => none
  | i + 1, indices, cycles =>
    let c := cycles.getD i 0 - 1
    if c == 0 then nextP n i (indices.take i ++ indices.drop (i + 1) ++ [indices.getD i 0]) (cycles.set i (n - i))
    else some ((indices.set i (indices.getD (n - c) 0)).set (n - c) (indices.getD i 0), cycles.set i c)
abbrev IsPm (h : Heap) (m T : Addr) (st : Int) (r : Int) (bf : Value) (nums : List Nat) : Prop := h.get? m = some { cls := .type "itertools.permutations", dict := none, data := .fields (([.ref T, rawInt st, rawInt r, bf] ++ nums.map fun (n : Nat) => rawInt n).toArray), slots := #[] }
abbrev IsT (h : Heap) (T : Addr) (vs : List Value) : Prop := h.get? T = some { cls := .type "tuple", data := .seq vs.toArray }
end Kp

namespace Kp
open PySem PySem.Spec PyProof.Rows
open Sem (wp)
theorem cls_pm (r : Value) : Builtin.Itertools.itClassAndRest "permutations" ⟨[.type "itertools.permutations", r], []⟩ = pure (.type "itertools.permutations", [r]) := by
  unfold Builtin.Itertools.itClassAndRest
  have e : ("itertools." ++ "permutations" : String) = "itertools.permutations" := by decide
  simp only [e, isType, sub_pm, pure_bind, Bool.not_true, Bool.false_eq_true, if_false]
theorem bind_pm (r : Value) : Builtin.Itertools.itBindNamed "permutations" ["iterable", "r"] 1 2 [r] [] = pure [some r, none] := by
  first | rfl | kernel_rfl
theorem noDict_pm : typeHasDict (.type "itertools.permutations") = false := by decide +kernel
section
variable {prog : Program} {w : World} {A : Around} {E : Value → Shared → Prop} {s : Shared}
abbrev pmT (h : Heap) (items : List Value) : Heap := h.push { cls := .type "tuple", data := .seq items.toArray }
abbrev pmM (h : Heap) (items : List Value) : Heap := (pmT h items).push { cls := .type "itertools.permutations", data := .fields (([.ref h.objs.size, rawInt (if (items.length : Int).toNat > items.length then 2 else 0), rawInt ((items.length : Int).toNat : Nat), .none] ++ (List.range items.length).map (fun (i : Nat) => rawInt i) ++ (List.range (items.length : Int).toNat).map fun (i : Nat) => rawInt ((items.length : Int) - i))).toArray }
theorem new_pm (r : Addr) : MeetsIn prog w (Builtin.«itertools.permutations.__new__» ⟨[.type "itertools.permutations", .ref r], []⟩)
    (fun A R s => wpAny (model prog w) A.in1 (collect (.ref r)) (fun items s1 => items.length ≤ 1000 ∧ R (.ok (.ret (.ref (pmT s1.heap items).objs.size))) { s1 with heap := pmM s1.heap items }) (fun e s1 => R (.error e) s1) s) :=
  .of_wp fun A R s h => by
    unfold Builtin.«itertools.permutations.__new__»
    refine wpAny_bind (wpAny_of_eq (cls_pm _) ?_)
    try dsimp only
    refine wpAny_bind (wpAny_of_eq (bind_pm _) ?_)
    try dsimp only
    refine wpAny_bind (wpAny_mono h (fun items s1 hR => ?_) fun _ _ z => z)
    obtain ⟨hl, hR⟩ := hR
    show wpAny _ _ (pure (items.length : Int) >>= _) _ _ _
    refine wpAny_bind (wpAny_pure ?_)
    try dsimp only
    rw [if_neg (show ¬ ((items.length : Int) < 0) by omega), if_neg (show ¬ (Builtin.Itertools.itTooMany (items.length : Int) = true) by unfold Builtin.Itertools.itTooMany; rw [decide_eq_true_iff]; omega)]
    refine wpAny_bind (wpAny_newTuple ?_ (by rw [sizeLine_eq]; omega))
    refine wpAny_bind ?_
    unfold Builtin.Itertools.itNewRecord
    rw [noDict_pm]
    simp only [Bool.not_false, if_true]
    have hsz : ∀ T : Value, sizeOk (.fields (([T, rawInt (if (items.length : Int).toNat > items.length then 2 else 0), rawInt ((items.length : Int).toNat : Nat), .none] ++ (List.range items.length).map (fun (i : Nat) => rawInt i) ++ (List.range (items.length : Int).toNat).map fun (i : Nat) => rawInt ((items.length : Int) - i))).toArray) := fun T => by
      show Array.size _ ≤ sizeLine + 2
      rw [List.size_toArray, List.length_append, List.length_append, List.length_map, List.length_map, List.length_range, List.length_range, sizeLine_eq]
      simp only [List.length_cons, List.length_nil]
      omega
    refine wpAny_newObj_type ?_ (hsz _)
    exact wpAny_pure ⟨_, rfl, hR⟩
theorem call_pm {r : Addr} {Q : Value → Shared → Prop}
    (hx : wpAny (model prog w) A.in1.in1 (collect (.ref r)) (fun items s1 => items.length ≤ 1000 ∧ ∀ h', IsT h' s1.heap.objs.size items → IsPm h' (s1.heap.objs.size + 1) s1.heap.objs.size 0 items.length .none (List.range items.length ++ (List.range items.length).map fun i => items.length - i) → h'.objs.size = s1.heap.objs.size + 2 →
      (∀ c o, s1.heap.get? c = some o → h'.get? c = some o) → Q (.ref (s1.heap.objs.size + 1)) { s1 with heap := h' }) E s) :
    wpAny (model prog w) A (call (.type "itertools.permutations") [.ref r]) Q E s := by
  refine callType_newIn called_pm (by decide +kernel) (typeCall_pm _) (newCall_pm _) (fun obj => F.args_object_init_2 obj _) entry_pm_new (new_pm r) ?_
  show wpAny (model prog w) A.in1.in1 (collect (.ref r)) _ _ _
  refine wpAny_mono hx (fun items s1 h => ?_) fun _ _ z => z
  obtain ⟨hl, h⟩ := h
  have z : (pmT s1.heap items).objs.size = s1.heap.objs.size + 1 := Heap.size_push ..
  have z2 : (pmM s1.heap items).objs.size = s1.heap.objs.size + 2 := by rw [Heap.size_push, z]
  have e1 : (items.length : Int).toNat = items.length := by omega
  have eF : ([.ref s1.heap.objs.size, rawInt (if (items.length : Int).toNat > items.length then 2 else 0), rawInt ((items.length : Int).toNat : Nat), .none] ++ (List.range items.length).map (fun (i : Nat) => rawInt i) ++ (List.range (items.length : Int).toNat).map fun (i : Nat) => rawInt ((items.length : Int) - i)) = [.ref s1.heap.objs.size, rawInt 0, rawInt items.length, .none] ++ (List.range items.length ++ (List.range items.length).map fun i => items.length - i).map fun (n : Nat) => rawInt n := by
    rw [e1, if_neg (by omega), List.map_append, List.map_map, List.append_assoc]
    congr 2
    refine List.map_congr_left fun i hi => ?_
    rw [List.mem_range] at hi
    show rawInt ((items.length : Int) - i) = rawInt ((items.length - i : Nat) : Int)
    congr 1
    omega
  have gm : (pmM s1.heap items).get? (pmT s1.heap items).objs.size = some { cls := .type "itertools.permutations", dict := none, data := .fields (([.ref s1.heap.objs.size, rawInt (if (items.length : Int).toNat > items.length then 2 else 0), rawInt ((items.length : Int).toNat : Nat), .none] ++ (List.range items.length).map (fun (i : Nat) => rawInt i) ++ (List.range (items.length : Int).toNat).map fun (i : Nat) => rawInt ((items.length : Int) - i))).toArray, slots := #[] } := Heap.get?_push_size _ rfl
  have gT : (pmM s1.heap items).get? s1.heap.objs.size = some { cls := .type "tuple", data := .seq items.toArray } := Heap.get?_push_of_some _ (Heap.get?_push_size _ rfl)
  have gm' : IsPm (pmM s1.heap items) (s1.heap.objs.size + 1) s1.heap.objs.size 0 items.length .none (List.range items.length ++ (List.range items.length).map fun i => items.length - i) := by
    rw [z, eF] at gm
    exact gm
  have hq := h _ gT gm' z2 fun c o e => Heap.get?_push_of_some _ (Heap.get?_push_of_some _ e)
  have hq' : Q (.ref (pmT s1.heap items).objs.size) { s1 with heap := pmM s1.heap items } := by rw [z]; exact hq
  show _ ∧ _
  exact ⟨hl, ⟨_, gm, rfl⟩, hq'⟩
end
end Kp

namespace Kp
open PySem PySem.Spec PyProof.Rows
open Sem (wp)
section
variable {prog : Program} {w : World} {A : Around} {E : Value → Shared → Prop} {s : Shared}
theorem nums_back (nums : List Nat) (T : Addr) (st r : Int) (bf : Value) : ((([.ref T, rawInt st, rawInt r, bf] ++ nums.map fun (n : Nat) => rawInt n).drop 4).map fun | .int n _ => n.toNat | _ => 0) = nums := by
  simp only [List.cons_append, List.nil_append, List.drop_succ_cons, List.drop_zero, List.map_map]
  have : ((fun | .int n _ => n.toNat | _ => 0) ∘ fun (n : Nat) => rawInt n : Nat → Nat) = id := by
    funext n
    show ((n : Int)).toNat = n
    omega
  rw [this, List.map_id]
abbrev pmF (T : Addr) (st r : Int) (bf : Value) (nums : List Nat) : Array Value := ([.ref T, rawInt st, rawInt r, bf] ++ nums.map fun (n : Nat) => rawInt n).toArray
theorem pmF_size (T : Addr) (st r : Int) (bf : Value) (nums : List Nat) : (pmF T st r bf nums).size = nums.length + 4 := by
  rw [List.size_toArray, List.length_append, List.length_map]
  simp only [List.length_cons, List.length_nil]
  omega
theorem pmF_0 {T : Addr} {st r : Int} {bf : Value} {nums : List Nat} : (pmF T st r bf nums)[0]? = some (.ref T) := by simp
theorem pmF_1 {T : Addr} {st r : Int} {bf : Value} {nums : List Nat} : (pmF T st r bf nums)[1]? = some (rawInt st) := by simp
theorem pmF_2 {T : Addr} {st r : Int} {bf : Value} {nums : List Nat} : (pmF T st r bf nums)[2]? = some (rawInt r) := by simp
theorem pmF_3 {T : Addr} {st r : Int} {bf : Value} {nums : List Nat} : (pmF T st r bf nums)[3]? = some bf := by simp
theorem pmF_set1 {T : Addr} {st st' r : Int} {bf : Value} {nums : List Nat} : (pmF T st r bf nums).setIfInBounds 1 (rawInt st') = pmF T st' r bf nums := by
  show (List.toArray _).setIfInBounds 1 _ = _
  rw [List.setIfInBounds_toArray]
  rfl
theorem pmF_set3 {T : Addr} {st r : Int} {bf bf' : Value} {nums : List Nat} : (pmF T st r bf nums).setIfInBounds 3 bf' = pmF T st r bf' nums := by
  show (List.toArray _).setIfInBounds 3 _ = _
  rw [List.setIfInBounds_toArray]
  rfl
theorem pm_result {m T : Addr} {items : List Value} {bf : Value} {st : Int} {nums idx : List Nat} {k : Nat} {Q : Value → Shared → Prop} (gm : IsPm s.heap m T st k bf nums) (hk : k ≤ 1000)
    (hQ : ∀ h', IsPm h' m T st k (.ref s.heap.objs.size) nums → IsT h' s.heap.objs.size ((idx.take k).map fun i => items.toArray.getD i .none) → h'.objs.size = s.heap.objs.size + 1 → (∀ c o, c ≠ m → s.heap.get? c = some o → h'.get? c = some o) → Q (.ref s.heap.objs.size) { s with heap := h' }) :
    wpAny (model prog w) A (do
        let t ← newTuple (List.map (fun i => items.toArray.getD i Value.none) (List.take k idx))
        let before ← field (Value.ref m) 3
        setField (Value.ref m) 3 t
        letGo [before] [t]
        ret t) (fun fin s' => ∃ v, fin = .done (.ret v) ∧ Q v s') E s := by
  refine wpAny_bind (wpAny_newTuple ?_ (by rw [List.length_map, List.length_take, sizeLine_eq]; omega))
  have gm₁ : IsPm (s.heap.push { cls := .type "tuple", data := .seq ((idx.take k).map fun i => items.toArray.getD i .none).toArray }) m T st k bf nums := Heap.get?_push_of_some _ gm
  have gT₁ : IsT (s.heap.push { cls := .type "tuple", data := .seq ((idx.take k).map fun i => items.toArray.getD i .none).toArray }) s.heap.objs.size ((idx.take k).map fun i => items.toArray.getD i .none) := Heap.get?_push_size _ rfl
  refine wpAny_bind (wpAny_field gm₁ rfl (x := bf) pmF_3 ?_)
  refine wpAny_bind (wpAny_setField_rec gm₁ (by rw [show ([.ref T, rawInt st, rawInt k, bf] ++ nums.map fun (n : Nat) => rawInt n).toArray = pmF T st k bf nums from rfl, pmF_size]; omega) fun m₂ gm₂ ms₂ => ?_)
  have gm₂' : IsPm m₂ m T st k (.ref s.heap.objs.size) nums := by
    have := gm₂
    rw [show ([.ref T, rawInt st, rawInt k, bf] ++ nums.map fun (n : Nat) => rawInt n).toArray = pmF T st k bf nums from rfl, pmF_set3] at this
    exact this
  refine wpAny_bind (wpAny_letGo ?_)
  have hlt : m < s.heap.objs.size := Heap.lt_size gm
  refine wpAny_pure ⟨_, rfl, hQ m₂ gm₂' (ms₂.extBut _ _ (Nat.ne_of_gt hlt) gT₁) ?_ fun c o c1 e => ms₂.extBut _ _ c1 (Heap.get?_push_of_some _ e)⟩
  rw [ms₂.1, Heap.size_push]
/-- the first row -/
theorem pm_first {m T : Addr} {items : List Value} {bf : Value} {nums : List Nat} {k : Nat} {Q : Value → Shared → Prop} (gT : IsT s.heap T items) (gm : IsPm s.heap m T 0 k bf nums) (hk : k ≤ 1000)
    (hQ : ∀ h', IsPm h' m T 1 k (.ref s.heap.objs.size) nums → IsT h' s.heap.objs.size ((nums.take k).map fun i => items.toArray.getD i .none) → h'.objs.size = s.heap.objs.size + 1 → (∀ c o, c ≠ m → s.heap.get? c = some o → h'.get? c = some o) → Q (.ref s.heap.objs.size) { s with heap := h' }) :
    wpAny (model prog w) A (Builtin.«itertools.permutations.__next__» ⟨[.ref m], []⟩) (fun fin s' => ∃ v, fin = .done (.ret v) ∧ Q v s') E s := by
  show wpAny _ _ (field (.ref m) 0 >>= _) _ _ _
  refine wpAny_bind (wpAny_field gm rfl (x := .ref T) pmF_0 ?_)
  refine wpAny_bind ?_
  unfold Builtin.Itertools.itPoolItems
  refine wpAny_bind (wpAny_seqItems gT rfl ?_)
  try dsimp only
  refine wpAny_pure ?_
  try dsimp only
  refine wpAny_bind ?_
  unfold Builtin.Itertools.itIntField
  refine wpAny_bind (wpAny_field gm rfl (x := rawInt k) pmF_2 (wpAny_pure ?_))
  try dsimp only
  refine wpAny_bind ?_
  unfold Builtin.Itertools.itNumbersFrom
  refine wpAny_bind (wpAny_load gm ?_)
  try dsimp only
  refine wpAny_pure ?_
  generalize hx : List.map _ (List.drop 4 _) = nn
  have hnn : nums = nn := by
    rw [← hx]
    exact (nums_back ..).symm
  subst hnn
  rw [show ((k : Int)).toNat = k by omega]
  refine wpAny_bind ?_
  refine wpAny_bind (wpAny_field gm rfl (x := rawInt 0) pmF_1 (wpAny_pure ?_))
  try dsimp only
  refine wpAny_bind (wpAny_setField_rec gm (by rw [show ([.ref T, rawInt 0, rawInt k, bf] ++ nums.map fun (n : Nat) => rawInt n).toArray = pmF T 0 k bf nums from rfl, pmF_size]; omega) fun m₂ gm₂ ms₂ => ?_)
  have gm₂' : IsPm m₂ m T 1 k bf nums := by
    have := gm₂
    rw [show ([.ref T, rawInt 0, rawInt k, bf] ++ nums.map fun (n : Nat) => rawInt n).toArray = pmF T 0 k bf nums from rfl, pmF_set1] at this
    exact this
  have := pm_result (prog := prog) (w := w) (A := A) (E := E) (s := { s with heap := m₂ }) (items := items) (idx := nums) (Q := Q) gm₂' hk (by
    show ∀ h', _ → _ → _ → _ → _
    rw [show m₂.objs.size = s.heap.objs.size from ms₂.1]
    exact fun h' a b c d => hQ h' a b c fun c o c1 e => d c o c1 (ms₂.extBut _ _ c1 e))
  exact this
end
end Kp

namespace Kp
open PySem PySem.Spec PyProof.Rows
open Sem (wp)
section
variable {prog : Program} {w : World} {A : Around} {E : Value → Shared → Prop} {s : Shared}
theorem pmF_nums {T : Addr} {st r : Int} {bf : Value} {nums nn : List Nat} : (pmF T st r bf nums).extract 0 4 ++ (nn.map fun (n : Nat) => rawInt n).toArray = pmF T st r bf nn := by
  have : (pmF T st r bf nums).extract 0 4 = #[.ref T, rawInt st, rawInt r, bf] := by
    show (List.toArray _).extract 0 4 = _
    rw [List.extract_toArray]
    rfl
  rw [this]
  simp only [List.append_toArray, pmF]
theorem nextP_at {f : Nat → Nat → List Nat → List Nat → Option (List Nat × List Nat)} {n k : Nat} {a b : List Nat} {R : Option (List Nat × List Nat)} (q : f n k a b = R) (h0 : ∀ n ix cy, f n 0 ix cy = none)
    (hs : ∀ n i ix cy, f n (i + 1) ix cy = let c := cy.getD i 0 - 1
      if c == 0 then f n i (ix.take i ++ ix.drop (i + 1) ++ [ix.getD i 0]) (cy.set i (n - i))
      else some ((ix.set i (ix.getD (n - c) 0)).set (n - c) (ix.getD i 0), cy.set i c)) : nextP n k a b = R := by
  rw [← q]
  clear q
  induction k generalizing a b with
  | zero => rw [h0]; rfl
  | succ i ih =>
    rw [hs]
    show (let c := b.getD i 0 - 1; if c == 0 then nextP n i _ _ else some _) = _
    rw [ih]
abbrev pmRes (m : Addr) (items : List Value) (k : Nat) (idx : List Nat) : Sem PySem.Fin := do
        let t ← newTuple (List.map (fun i => items.toArray.getD i Value.none) (List.take k idx))
        let before ← field (Value.ref m) 3
        setField (Value.ref m) 3 t
        letGo [before] [t]
        ret t
/-- a later row -/
theorem pm_more {m T : Addr} {items : List Value} {bf : Value} {nums ix cy : List Nat} {k : Nat} {Q : Value → Shared → Prop} (gT : IsT s.heap T items) (gm : IsPm s.heap m T 1 k bf nums) (hk : k ≤ 1000) (hl : (ix ++ cy).length ≤ 2000) (hl0 : nums.length ≤ 2000)
    (hp : nextP items.length k (nums.take items.length) (nums.drop items.length) = some (ix, cy))
    (hQ : ∀ h', IsPm h' m T 1 k (.ref s.heap.objs.size) (ix ++ cy) → IsT h' s.heap.objs.size ((ix.take k).map fun i => items.toArray.getD i .none) → h'.objs.size = s.heap.objs.size + 1 → (∀ c o, c ≠ m → s.heap.get? c = some o → h'.get? c = some o) → Q (.ref s.heap.objs.size) { s with heap := h' }) :
    wpAny (model prog w) A (Builtin.«itertools.permutations.__next__» ⟨[.ref m], []⟩) (fun fin s' => ∃ v, fin = .done (.ret v) ∧ Q v s') E s := by
  show wpAny _ _ (field (.ref m) 0 >>= _) _ _ _
  refine wpAny_bind (wpAny_field gm rfl (x := .ref T) pmF_0 ?_)
  refine wpAny_bind ?_
  unfold Builtin.Itertools.itPoolItems
  refine wpAny_bind (wpAny_seqItems gT rfl ?_)
  try dsimp only
  refine wpAny_pure ?_
  try dsimp only
  refine wpAny_bind ?_
  unfold Builtin.Itertools.itIntField
  refine wpAny_bind (wpAny_field gm rfl (x := rawInt k) pmF_2 (wpAny_pure ?_))
  try dsimp only
  refine wpAny_bind ?_
  unfold Builtin.Itertools.itNumbersFrom
  refine wpAny_bind (wpAny_load gm ?_)
  try dsimp only
  refine wpAny_pure ?_
  generalize hx : List.map _ (List.drop 4 _) = nn
  have hnn : nums = nn := by
    rw [← hx]
    exact (nums_back ..).symm
  subst hnn
  rw [show ((k : Int)).toNat = k by omega]
  refine wpAny_bind ?_
  refine wpAny_bind (wpAny_field gm rfl (x := rawInt 1) pmF_1 (wpAny_pure ?_))
  try dsimp only
  split
  · rename_i q
    cases q
  · split
    · rename_i ix' cy' q
      have q' : nextP items.length k (nums.take items.length) (nums.drop items.length) = some (ix', cy') := nextP_at q (fun _ _ _ => rfl) (fun _ _ _ _ => rfl)
      rw [hp] at q'
      cases q'
      show wpAny _ _ (Builtin.Itertools.itSetNumbersFrom (.ref m) 4 (ix ++ cy) >>= fun _ => pmRes m items k ix) _ _ _
      refine wpAny_bind ?_
      unfold Builtin.Itertools.itSetNumbersFrom
      try dsimp only
      refine wpAny_updateFields gm rfl ?_ (by
        show ((pmF T 1 k bf nums).extract 0 4 ++ ((ix ++ cy).map fun (n : Nat) => rawInt n).toArray).size ≤ _
        rw [pmF_nums, pmF_size, sizeLine_eq]
        omega)
      have gm₂ := Heap.get?_update_self (Obj.mapFields fun fs => fs.extract 0 4 ++ ((ix ++ cy).map fun (n : Nat) => rawInt n).toArray) gm rfl
      have ms₂ : Heap.SameBut m s.heap (s.heap.update m (Obj.mapFields fun fs => fs.extract 0 4 ++ ((ix ++ cy).map fun (n : Nat) => rawInt n).toArray)) := Heap.SameBut.update ..
      have gm₂' : IsPm (s.heap.update m (Obj.mapFields fun fs => fs.extract 0 4 ++ ((ix ++ cy).map fun (n : Nat) => rawInt n).toArray)) m T 1 k bf (ix ++ cy) := by
        have e : Obj.mapFields (fun fs => fs.extract 0 4 ++ ((ix ++ cy).map fun (n : Nat) => rawInt n).toArray) ⟨.type "itertools.permutations", none, .fields (pmF T 1 k bf nums), #[]⟩ = ⟨.type "itertools.permutations", none, .fields (pmF T 1 k bf (ix ++ cy)), #[]⟩ := by
          show (⟨_, _, .fields ((pmF T 1 k bf nums).extract 0 4 ++ ((ix ++ cy).map fun (n : Nat) => rawInt n).toArray), _⟩ : Obj) = _
          rw [pmF_nums]
        exact gm₂.trans (congrArg some e)
      have := pm_result (prog := prog) (w := w) (A := A) (E := E) (s := { s with heap := s.heap.update m (Obj.mapFields fun fs => fs.extract 0 4 ++ ((ix ++ cy).map fun (n : Nat) => rawInt n).toArray) }) (items := items) (idx := ix) (Q := Q) gm₂' hk (by
        show ∀ h', _ → _ → _ → _ → _
        rw [show (s.heap.update m (Obj.mapFields fun fs => fs.extract 0 4 ++ ((ix ++ cy).map fun (n : Nat) => rawInt n).toArray)).objs.size = s.heap.objs.size from ms₂.1]
        exact fun h' a b c d => hQ h' a b c fun c o c1 e => d c o c1 (ms₂.extBut _ _ c1 e))
      exact this
    · rename_i q
      have q' : nextP items.length k (nums.take items.length) (nums.drop items.length) = none := nextP_at q (fun _ _ _ => rfl) (fun _ _ _ _ => rfl)
      rw [hp] at q'
      cases q'
  · rename_i q1 q2
    exact absurd rfl (q2 ·)
/-- the end -/
theorem pm_over {m T : Addr} {items : List Value} {bf : Value} {nums : List Nat} {k : Nat} {Q : Value → Shared → Prop} (hh : A.handled = none) (gT : IsT s.heap T items) (gm : IsPm s.heap m T 1 k bf nums)
    (hp : nextP items.length k (nums.take items.length) (nums.drop items.length) = none)
    (hQ : ∀ e h', CpRep.StopE e h' → (∀ c o, c ≠ m → s.heap.get? c = some o → h'.get? c = some o) → E e { s with heap := h' }) :
    wpAny (model prog w) A (Builtin.«itertools.permutations.__next__» ⟨[.ref m], []⟩) (fun fin s' => ∃ v, fin = .done (.ret v) ∧ Q v s') E s := by
  show wpAny _ _ (field (.ref m) 0 >>= _) _ _ _
  refine wpAny_bind (wpAny_field gm rfl (x := .ref T) pmF_0 ?_)
  refine wpAny_bind ?_
  unfold Builtin.Itertools.itPoolItems
  refine wpAny_bind (wpAny_seqItems gT rfl ?_)
  try dsimp only
  refine wpAny_pure ?_
  try dsimp only
  refine wpAny_bind ?_
  unfold Builtin.Itertools.itIntField
  refine wpAny_bind (wpAny_field gm rfl (x := rawInt k) pmF_2 (wpAny_pure ?_))
  try dsimp only
  refine wpAny_bind ?_
  unfold Builtin.Itertools.itNumbersFrom
  refine wpAny_bind (wpAny_load gm ?_)
  try dsimp only
  refine wpAny_pure ?_
  generalize hx : List.map _ (List.drop 4 _) = nn
  have hnn : nums = nn := by
    rw [← hx]
    exact (nums_back ..).symm
  subst hnn
  rw [show ((k : Int)).toNat = k by omega]
  refine wpAny_bind ?_
  refine wpAny_bind (wpAny_field gm rfl (x := rawInt 1) pmF_1 (wpAny_pure ?_))
  try dsimp only
  split
  · rename_i q
    cases q
  · split
    · rename_i ix' cy' q
      have q' : nextP items.length k (nums.take items.length) (nums.drop items.length) = some (ix', cy') := nextP_at q (fun _ _ _ => rfl) (fun _ _ _ _ => rfl)
      rw [hp] at q'
      cases q'
    · show wpAny _ _ (setField (.ref m) 1 (rawInt 2) >>= fun _ => Builtin.Itertools.itStop) _ _ _
      refine wpAny_bind (wpAny_setField_rec gm (by rw [show ([.ref T, rawInt 1, rawInt k, bf] ++ nums.map fun (n : Nat) => rawInt n).toArray = pmF T 1 k bf nums from rfl, pmF_size]; omega) fun m₂ gm₂ ms₂ => ?_)
      show wpAny _ _ (newExc (.type "StopIteration") [] >>= _) _ _ _
      refine wpAny_bind ?_
      simp only [newExc, newTuple]
      refine wpAny_bind (wpAny_newObj_type ?_ (by size_fits))
      refine wpAny_bind (m := firstArgMember _ _) (wpAny_of_eq (a := Value.none) (by first | rfl | (simp only [firstArgMember]; rfl)) ?_)
      refine wpAny_newObj_type ?_ (by size_fits)
      simp only [raiseNew]
      refine wpAny_bind (wpAny_handled ?_)
      first | rw [show A.in1.handled = none from hh] | rw [hh]
      refine wpAny_bind (wpAny_pure (wpAny_throw ?_))
      exact hQ _ _ ⟨_, _, _, rfl, Heap.get?_push_size _ rfl, rfl, rfl, rfl⟩ fun c o c1 e => Heap.get?_push_of_some _ (Heap.get?_push_of_some _ (ms₂.extBut _ _ c1 e))
  · rename_i q1 q2
    exact absurd rfl (q2 ·)
end
end Kp

namespace Kp
open PySem PySem.Spec PyProof.Rows
open Sem (wp)
/-- the rows behind the first -/
def runP (n k : Nat) : Nat → List Nat → Option (List (List Nat))
  | 0, _ => none
  | f + 1, nums => match nextP n k (nums.take n) (nums.drop n) with
    | none => some []
    | some (ix, cy) => if (ix ++ cy).length ≤ 2000 then (runP n k f (ix ++ cy)).map (ix.take k :: ·) else none
/-- the rows at their places -/
abbrev RowAt (h : Heap) (items : List Value) (m S : Addr) (v : Value) (row : List Nat) : Prop := ∃ a, v = .ref a ∧ a ≠ m ∧ S < a ∧ IsT h a (row.map fun i => items.toArray.getD i .none)
inductive RowsAt (h : Heap) (items : List Value) (m S : Addr) : List Value → List (List Nat) → Prop
  | nil : RowsAt h items m S [] []
  | cons {v row vs rows} : RowAt h items m S v row → RowsAt h items m S vs rows → RowsAt h items m S (v :: vs) (row :: rows)
theorem RowsAt.snoc {h : Heap} {items : List Value} {m S : Addr} {v : Value} {row : List Nat} : ∀ {vs rows}, RowsAt h items m S vs rows → RowAt h items m S v row → RowsAt h items m S (vs ++ [v]) (rows ++ [row])
  | _, _, .nil, q => .cons q .nil
  | _, _, .cons a r, q => .cons a (r.snoc q)
theorem RowsAt.mono {h h' : Heap} {items : List Value} {m S : Addr} (k : ∀ c o, c ≠ m → c ≠ S → h.get? c = some o → h'.get? c = some o) : ∀ {vs rows}, RowsAt h items m S vs rows → RowsAt h' items m S vs rows
  | _, _, .nil => .nil
  | _, _, .cons ⟨a, e, n1, n2, g⟩ r => .cons ⟨a, e, n1, n2, k a _ n1 (Nat.ne_of_gt n2) g⟩ (r.mono k)
theorem RowsAt.fresh {h : Heap} {items : List Value} {m S x : Addr} (hx : h.objs.size ≤ x) : ∀ {vs rows}, RowsAt h items m S vs rows → Value.ref x ∉ vs
  | _, _, .nil => by simp
  | _, _, .cons ⟨a, e, n1, n2, g⟩ r => by
    intro hm
    rcases List.mem_cons.mp hm with hm | hm
    · rw [e] at hm
      cases hm
      exact absurd (Heap.lt_size g) (Nat.not_lt.mpr hx)
    · exact r.fresh hx hm
section
variable {prog : Program} {w : World} {A : Around} {E : Value → Shared → Prop} {s : Shared}
theorem pm_pyIter {m T : Addr} {st r : Int} {bf : Value} {nums : List Nat} {Q : Value → Shared → Prop} (hm : IsPm s.heap m T st r bf nums) (h : Q (.ref m) s) : wpAny (model prog w) A (pyIter (.ref m)) Q E s := by
  have hT : s.TypeIs (.ref m) "itertools.permutations" := ⟨_, hm, rfl⟩
  refine wpAny_pyIter_slot hT slot_pm_iter (wpAny_call_entry slot_pm_iter hT entry_pm_iter ?_ (args_pm_iter _))
  show wpAny _ _ (ret (.ref m)) _ _ s
  exact wpAny_pure ⟨_, rfl, "itertools.permutations", _, hT, slot_pm_next.lookup, h⟩
theorem pm_pyNext_first {m T : Addr} {items : List Value} {bf : Value} {nums : List Nat} {k : Nat} {Q : Option Value → Shared → Prop} (gT : IsT s.heap T items) (gm : IsPm s.heap m T 0 k bf nums) (hk : k ≤ 1000)
    (hQ : ∀ h', IsPm h' m T 1 k (.ref s.heap.objs.size) nums → IsT h' s.heap.objs.size ((nums.take k).map fun i => items.toArray.getD i .none) → h'.objs.size = s.heap.objs.size + 1 → (∀ c o, c ≠ m → s.heap.get? c = some o → h'.get? c = some o) → Q (some (.ref s.heap.objs.size)) { s with heap := h' }) :
    wpAny (model prog w) A (pyNext (.ref m)) Q E s := by
  have hT0 : s.TypeIs (.ref m) "itertools.permutations" := ⟨_, gm, rfl⟩
  unfold pyNext
  exact wpAny_bind (wpAny_attempt (wpAny_callSpecial?_slot (name := Str.ofString "__next__") hT0 slot_pm_next
    (wpAny_call_entry slot_pm_next hT0 entry_pm_next (pm_first gT gm hk fun h' a b c d => wpAny_pure (hQ h' a b c d)) (args_pm_next _))))
theorem pm_pyNext_more {m T : Addr} {items : List Value} {bf : Value} {nums ix cy : List Nat} {k : Nat} {Q : Option Value → Shared → Prop} (gT : IsT s.heap T items) (gm : IsPm s.heap m T 1 k bf nums) (hk : k ≤ 1000) (hl : (ix ++ cy).length ≤ 2000) (hl0 : nums.length ≤ 2000)
    (hp : nextP items.length k (nums.take items.length) (nums.drop items.length) = some (ix, cy))
    (hQ : ∀ h', IsPm h' m T 1 k (.ref s.heap.objs.size) (ix ++ cy) → IsT h' s.heap.objs.size ((ix.take k).map fun i => items.toArray.getD i .none) → h'.objs.size = s.heap.objs.size + 1 → (∀ c o, c ≠ m → s.heap.get? c = some o → h'.get? c = some o) → Q (some (.ref s.heap.objs.size)) { s with heap := h' }) :
    wpAny (model prog w) A (pyNext (.ref m)) Q E s := by
  have hT0 : s.TypeIs (.ref m) "itertools.permutations" := ⟨_, gm, rfl⟩
  unfold pyNext
  exact wpAny_bind (wpAny_attempt (wpAny_callSpecial?_slot (name := Str.ofString "__next__") hT0 slot_pm_next
    (wpAny_call_entry slot_pm_next hT0 entry_pm_next (pm_more gT gm hk hl hl0 hp fun h' a b c d => wpAny_pure (hQ h' a b c d)) (args_pm_next _))))
theorem pm_pyNext_over {m T : Addr} {items : List Value} {bf : Value} {nums : List Nat} {k : Nat} {Q : Option Value → Shared → Prop} (hh : A.handled = none) (gT : IsT s.heap T items) (gm : IsPm s.heap m T 1 k bf nums)
    (hp : nextP items.length k (nums.take items.length) (nums.drop items.length) = none)
    (hQ : ∀ h', (∀ c o, c ≠ m → s.heap.get? c = some o → h'.get? c = some o) → Q none { s with heap := h' }) :
    wpAny (model prog w) A (pyNext (.ref m)) Q E s := by
  have hT0 : s.TypeIs (.ref m) "itertools.permutations" := ⟨_, gm, rfl⟩
  have hh1 : A.in1.handled = none := hh
  unfold pyNext
  refine wpAny_bind (wpAny_attempt (wpAny_callSpecial?_slot (name := Str.ofString "__next__") hT0 slot_pm_next
    (wpAny_call_entry slot_pm_next hT0 entry_pm_next (pm_over hh1 gT gm hp fun e h' he hk => ?_) (args_pm_next _))))
  obtain ⟨a, o, vs, rfl, ho, hc, _⟩ := he
  refine wpAny_bind (wpAny_isInstance (T := "StopIteration") (b := true) ⟨o, ho, hc⟩ isSubtype_stop ?_)
  exact wpAny_pure (hQ _ hk)
end
section
variable {prog : Program} {w : World} {A : Around} {R : Result → Shared → Prop}
abbrev IsL (h : Heap) (S : Addr) (acc : Array Value) (c : Nat) : Prop := h.get? S = some { cls := .type "list", dict := none, data := .seq acc c, slots := #[] }
theorem pm_loop {m T S : Addr} {items : List Value} {k : Nat} {res : Value} (hh : A.in1.handled = none) (hk : k ≤ 1000) (hmS : m < S) (hTm : T ≠ m) (hTS : T ≠ S) :
    ∀ (f : Nat) (nums : List Nat) (rows done : List (List Nat)) (s : Shared) (acc : Array Value) (c : Nat) (bf : Value), runP items.length k f nums = some rows → nums.length ≤ 2000 → IsT s.heap T items → IsPm s.heap m T 1 k bf nums → IsL s.heap S acc c →
    RowsAt s.heap items m S acc.toList done → acc.toList.Nodup → acc.size + rows.length ≤ 100000 →
    (∀ h' acc' c', (∀ c o, c ≠ m → c ≠ S → s.heap.get? c = some o → h'.get? c = some o) → IsL h' S acc' c' → RowsAt h' items m S acc'.toList (done ++ rows) → acc'.toList.Nodup → R (.ok (.ret res)) { s with heap := h' }) →
    codeAny (model prog w) A (.builtin "list.extend.loop" ⟨[.ref S, .ref m, res], []⟩) R s := by
  intro f
  induction f with
  | zero => intro nums rows done s acc c bf hr; cases hr
  | succ f ih =>
    intro nums rows done s acc c bf hr hl gT gm gS ha nd hsz hR
    refine codeAny_builtin F.entry_extend_loop ?_
    rw [Around.under_plainId F.plain_extend_loop _]
    show wpAny _ A.in1 (pyNext (.ref m) >>= _) _ _ s
    unfold runP at hr
    cases hp : nextP items.length k (nums.take items.length) (nums.drop items.length) with
    | none =>
      rw [hp] at hr
      cases hr
      refine wpAny_bind (pm_pyNext_over hh gT gm hp fun h' hkp => ?_)
      refine wpAny_pure (hR h' acc c (fun c o c1 _ e => hkp c o c1 e) (hkp S _ (Nat.ne_of_gt hmS) gS) ?_ nd)
      rw [List.append_nil]
      exact ha.mono fun c o c1 _ e => hkp c o c1 e
    | some p =>
      obtain ⟨ix, cy⟩ := p
      rw [hp] at hr
      dsimp only at hr
      by_cases hl2 : (ix ++ cy).length ≤ 2000
      · rw [if_pos hl2] at hr
        cases hr2 : runP items.length k f (ix ++ cy) with
        | none => rw [hr2] at hr; cases hr
        | some more =>
          rw [hr2] at hr
          cases hr
          rw [List.length_cons] at hsz
          refine wpAny_bind (pm_pyNext_more gT gm hk hl2 hl hp fun h' gm' gR hs' hkp => ?_)
          have gS' : IsL h' S acc c := hkp S _ (Nat.ne_of_gt hmS) gS
          have lS : S < s.heap.objs.size := Heap.lt_size gS
          have lm : m < s.heap.objs.size := Heap.lt_size gm
          have kp : ∀ c o, c ≠ m → c ≠ S → s.heap.get? c = some o → (h'.update S (Obj.mapSeq (·.push (.ref s.heap.objs.size)))).get? c = some o := fun c o c1 c2 e => (Heap.get?_update_other _ _ (Ne.symm c2)).trans (hkp c o c1 e)
          show wpAny _ A.in1 (updateSeq S (·.push (.ref s.heap.objs.size)) >>= _) _ _ _
          refine wpAny_bind ?_
          refine wpAny_updateSeq gS' rfl (wpAny_pure ⟨plainId_quiet F.plain_extend_loop _, ih (ix ++ cy) more (done ++ [ix.take k]) _ (acc.push (.ref s.heap.objs.size)) _ (.ref s.heap.objs.size) hr2 hl2 ?_ ?_ (Heap.get?_update_self _ gS' rfl) ?_ ?_ ?_ fun h'' acc' c' hk'' gS'' ha'' nd'' => ?_⟩)
            (by rw [sizeLine_eq]; omega) (by show (acc.push _).size ≤ sizeLine + 1; rw [Array.size_push, sizeLine_eq]; omega)
          · exact kp T _ hTm hTS gT
          · exact (Heap.get?_update_other _ _ (Nat.ne_of_gt hmS)).trans gm'
          · rw [Array.toList_push]
            exact (ha.mono kp).snoc ⟨_, rfl, Nat.ne_of_gt lm, lS, (Heap.get?_update_other _ _ (Nat.ne_of_lt lS)).trans gR⟩
          · rw [Array.toList_push, List.nodup_append]
            refine ⟨nd, by simp, fun a ha' b hb => ?_⟩
            rw [List.mem_singleton.mp hb]
            rintro rfl
            exact ha.fresh (Nat.le_refl _) ha'
          · rw [Array.size_push]; omega
          · refine hR h'' acc' c' (fun c o c1 c2 e => hk'' c o c1 c2 (kp c o c1 c2 e)) gS'' ?_ nd''
            rw [show done ++ ix.take k :: more = done ++ [ix.take k] ++ more by simp]
            exact ha''
      · rw [if_neg hl2] at hr; cases hr
end
end Kp

namespace Kp
open PySem PySem.Spec PyProof.Rows
open Sem (wp)
section
variable {prog : Program} {w : World} {A : Around} {E : Value → Shared → Prop} {s : Shared}
theorem pm_collect {m T : Addr} {items : List Value} {k f : Nat} {bf : Value} {nums : List Nat} {rows : List (List Nat)} {Q : List Value → Shared → Prop} (hh : A.in1.handled = none) (hk : k ≤ 1000) (hTm : T ≠ m)
    (hr : runP items.length k f nums = some rows) (hl : nums.length ≤ 2000) (gT : IsT s.heap T items) (gm : IsPm s.heap m T 0 k bf nums) (hsz : rows.length ≤ 90000)
    (hQ : ∀ h' acc, (∀ c o, c ≠ m → s.heap.get? c = some o → h'.get? c = some o) → RowsAt h' items m s.heap.objs.size acc (nums.take k :: rows) → acc.Nodup → Q acc { s with heap := h' }) :
    wpAny (model prog w) A (collect (.ref m)) Q E s := by
  have lm : m < s.heap.objs.size := Heap.lt_size gm
  have lT : T < s.heap.objs.size := Heap.lt_size gT
  have hSI : s.heap.objs.size ≠ m := Nat.ne_of_gt lm
  unfold collect
  refine wpAny_bind (wpAny_runValue (codeAny_builtin F.entry_proto_collect ?_))
  rw [Around.under_plainId F.plain_proto_collect _]
  show wpAny _ A.in1 (newList [] >>= fun l => again (.builtin "list.__iadd__" ⟨[l, .ref m], []⟩)) _ _ s
  refine wpAny_bind (wpAny_newObj_type ?_)
  refine wpAny_pure ⟨plainId_quiet F.plain_list_iadd _, codeAny_builtin F.entry_list_iadd ?_⟩
  rw [Around.under_plainId F.plain_list_iadd _]
  have gm₁ : IsPm (s.heap.push { cls := .type "list", data := .seq ([] : List Value).toArray }) m T 0 k bf nums := Heap.get?_push_of_some _ gm
  have hT1 : ({ s with heap := s.heap.push { cls := .type "list", data := .seq ([] : List Value).toArray } } : Shared).TypeIs (.ref m) "itertools.permutations" := ⟨_, gm₁, rfl⟩
  show wpAny _ A.in1 (Builtin.List.listExtendWith (.ref s.heap.objs.size) (.ref m) (.ref s.heap.objs.size)) _ _ _
  unfold Builtin.List.listExtendWith
  refine wpAny_bind (wpAny_typeOf hT1 ?_)
  have h1 : Builtin.List.listSameRef (.ref s.heap.objs.size) (.ref m) = false := by simp [Builtin.List.listSameRef, hSI]
  have h2 : (Value.type "itertools.permutations" == Value.type "list") = false := by decide
  have h3 : (Value.type "itertools.permutations" == Value.type "tuple") = false := by decide
  simp only [h1, h2, h3, Bool.or_false, Bool.false_eq_true, if_false]
  refine wpAny_bind (pm_pyIter gm₁ ?_)
  refine wpAny_bind (wpAny_holding ?_)
  unfold Builtin.List.listLengthHint
  refine wpAny_bind (wpAny_specialOf hT1 nolen_pm ?_)
  show wpAny _ A.in1 (specialOf (Value.ref m) (Str.ofString "__length_hint__") >>= _) _ _ _
  refine wpAny_bind (wpAny_specialOf hT1 nohint_pm ?_)
  refine wpAny_pure ?_
  show wpAny _ A.in1 (rule "list.extend.makes-room" >>= fun _ => Builtin.List.listTouch (.ref s.heap.objs.size) >>= fun _ =>
    again (.builtin "list.extend.loop" ⟨[.ref s.heap.objs.size, .ref m, .ref s.heap.objs.size], []⟩)) _ _ _
  refine wpAny_bind (wpAny_rule ?_)
  have hS₁ : (s.heap.push { cls := .type "list", data := .seq ([] : List Value).toArray }).get? s.heap.objs.size = some { cls := .type "list", data := .seq ([] : List Value).toArray } := Heap.get?_push_size _ rfl
  refine wpAny_bind ?_
  show wpAny _ A.in1 (updateSeq s.heap.objs.size (·.push .none) >>= fun _ => updateSeq s.heap.objs.size (·.pop)) _ _ _
  refine wpAny_bind (wpAny_updateSeq hS₁ rfl ?_)
  have hS₂ := Heap.get?_update_self (Obj.mapSeq (·.push Value.none)) hS₁ rfl
  refine wpAny_updateSeq hS₂ rfl ?_
  have hS₃ := Heap.get?_update_self (Obj.mapSeq (·.pop)) hS₂ rfl
  generalize hg : ((s.heap.push { cls := .type "list", data := .seq ([] : List Value).toArray }).update s.heap.objs.size (Obj.mapSeq (·.push Value.none))).update s.heap.objs.size (Obj.mapSeq (·.pop)) = g at hS₃ ⊢
  have oth : ∀ b o, b ≠ s.heap.objs.size → (s.heap.push { cls := .type "list", data := .seq ([] : List Value).toArray }).get? b = some o → g.get? b = some o :=
    fun b o hb e => by
      rw [← hg]
      exact (Heap.get?_update_other _ _ (Ne.symm hb)).trans ((Heap.get?_update_other _ _ (Ne.symm hb)).trans e)
  have gL : g.objs.size = s.heap.objs.size + 1 := by
    rw [← hg, Heap.size_after_update, Heap.size_after_update, Heap.size_push]
  have gT₃ : IsT g T items := oth T _ (Nat.ne_of_lt lT) (Heap.get?_push_of_some _ gT)
  have gm₃ : IsPm g m T 0 k bf nums := oth m _ (Nat.ne_of_lt lm) gm₁
  refine wpAny_pure ⟨plainId_quiet F.plain_extend_loop _, ?_⟩
  refine codeAny_builtin F.entry_extend_loop ?_
  rw [Around.under_plainId F.plain_extend_loop _]
  show wpAny _ A.in1 (pyNext (.ref m) >>= _) _ _ _
  refine wpAny_bind (pm_pyNext_first (s := { s with heap := g }) gT₃ gm₃ hk fun h' gm' gR hs' hkp => ?_)
  have gS' : h'.get? s.heap.objs.size = _ := hkp _ _ hSI hS₃
  have nm : g.objs.size ≠ m := by rw [gL]; exact Nat.ne_of_gt (Nat.lt_succ_of_lt lm)
  have lSg : s.heap.objs.size < g.objs.size := by rw [gL]; exact Nat.lt_succ_self _
  have nR : g.objs.size ≠ s.heap.objs.size := by rw [gL]; exact Nat.succ_ne_self _
  have kp : ∀ c o, c ≠ m → c ≠ s.heap.objs.size → g.get? c = some o → (h'.update s.heap.objs.size (Obj.mapSeq (·.push (.ref g.objs.size)))).get? c = some o := fun c o c1 c2 e => (Heap.get?_update_other _ _ (Ne.symm c2)).trans (hkp c o c1 e)
  show wpAny _ A.in1 (updateSeq s.heap.objs.size (·.push (.ref g.objs.size)) >>= _) _ _ _
  refine wpAny_bind ?_
  refine wpAny_updateSeq gS' rfl (wpAny_pure ⟨plainId_quiet F.plain_extend_loop _, pm_loop hh hk lm hTm (Nat.ne_of_lt lT) f nums rows [nums.take k] _ #[.ref g.objs.size] _ (.ref g.objs.size) hr hl ?_ ?_ (Heap.get?_update_self _ gS' rfl) ?_ ?_ ?_ fun h'' acc' c' hk'' gS'' ha'' nd'' => ?_⟩)
  · exact kp T _ hTm (Nat.ne_of_lt lT) gT₃
  · exact (Heap.get?_update_other _ _ (Nat.ne_of_gt lm)).trans gm'
  · exact .cons ⟨_, rfl, nm, lSg, (Heap.get?_update_other _ _ (Ne.symm nR)).trans gR⟩ .nil
  · simp
  · simp only [List.size_toArray, List.length_cons, List.length_nil]; omega
  · show wpAny _ A (load s.heap.objs.size >>= _) _ _ _
    refine wpAny_bind (wpAny_load gS'' ?_)
    refine wpAny_pure (hQ h'' acc'.toList (fun c o c1 e => ?_) ha'' nd'')
    have c2 : c ≠ s.heap.objs.size := Nat.ne_of_lt (Heap.lt_size e)
    exact hk'' c o c1 c2 (kp c o c1 c2 (oth c o c2 (Heap.get?_push_of_some _ e)))
theorem code_tuple_new_pm {m T : Addr} {items : List Value} {k f : Nat} {bf : Value} {nums : List Nat} {rows : List (List Nat)} {Q₁ : Value → Shared → Prop} (hh : A.handled = none) (hk : k ≤ 1000) (hTm : T ≠ m)
    (hr : runP items.length k f nums = some rows) (hl : nums.length ≤ 2000) (gT : IsT s.heap T items) (gm : IsPm s.heap m T 0 k bf nums) (hsz : rows.length ≤ 90000)
    (h : ∀ h' acc, (∀ c o, c ≠ m → s.heap.get? c = some o → h'.get? c = some o) → RowsAt h' items m s.heap.objs.size acc (nums.take k :: rows) → acc.Nodup → Q₁ (.ref h'.objs.size) { s with heap := h'.push { cls := .type "tuple", data := .seq acc.toArray } }) :
    codeAny (model prog w) A (.call (.builtin "tuple.__new__") ⟨[.type "tuple", .ref m], []⟩) (wants Q₁ E) s := by
  refine codeAny_of_tree ?_
  show wpAny _ A.in1 (do checkBuiltinCall "tuple.__new__" ⟨[.type "tuple", .ref m], []⟩; again (.builtin "tuple.__new__" ⟨[.type "tuple", .ref m], []⟩)) _ _ s
  refine wpAny_bind (wpAny_of_eq (F.newCall_tuple_1 _) (wpAny_pure ⟨plainId_quiet F.plain_tuple_new _, codeAny_builtin F.entry_tuple_new ?_⟩))
  rw [Around.under_plainId F.plain_tuple_new _]
  have hsub := sub_tuple_self
  have hinit := init_tuple_lookup
  have hmh := madeHere_tuple
  have hTI : s.TypeIs (.ref m) "itertools.permutations" := ⟨_, gm, rfl⟩
  have hh1 : A.in1.in1.handled = none := hh
  have lenR : ∀ {h' : Heap} {S : Addr} {vs : List Value} {rs : List (List Nat)}, RowsAt h' items m S vs rs → vs.length = rs.length := fun {h' S vs rs} z => by
    induction z with
    | nil => rfl
    | cons _ _ ih => rw [List.length_cons, List.length_cons, ih]
  wp_walk using wpAny_typeOf hTI, pm_collect (A := A.in1) hh1 hk hTm hr hl gT gm hsz
  intro h' acc hkp ha nd
  show wpAny _ _ (Builtin.Tuple.tupleExact acc.toArray >>= fun v => ret v) _ _ _
  unfold Builtin.Tuple.tupleExact
  refine wpAny_bind (wpAny_newObj_type ?_ (by show acc.toArray.size ≤ sizeLine; rw [List.size_toArray, lenR ha, List.length_cons, sizeLine_eq]; omega))
  refine wpAny_pure ?_
  exact h h' acc hkp ha nd
theorem call_tuple_pm {m T : Addr} {items : List Value} {k f : Nat} {bf : Value} {nums : List Nat} {rows : List (List Nat)} {Q : Value → Shared → Prop} (hh : A.handled = none) (hk : k ≤ 1000) (hTm : T ≠ m)
    (hr : runP items.length k f nums = some rows) (hl : nums.length ≤ 2000) (gT : IsT s.heap T items) (gm : IsPm s.heap m T 0 k bf nums) (hsz : rows.length ≤ 90000)
    (hQ : ∀ h' acc, (∀ c o, c ≠ m → s.heap.get? c = some o → h'.get? c = some o) → RowsAt h' items m s.heap.objs.size acc (nums.take k :: rows) → acc.Nodup → Q (.ref h'.objs.size) { s with heap := h'.push { cls := .type "tuple", data := .seq acc.toArray } }) :
    wpAny (model prog w) A (call (.type "tuple") [.ref m]) Q E s := by
  refine callType_codes (Q₁ := fun obj s₁ => s₁.TypeIs obj "tuple" ∧ Q obj s₁) F.called_tuple (F.typeCall_tuple_1 _) F.entry_object_init
    (code_tuple_new_pm (A := A.in1) hh hk hTm hr hl gT gm hsz fun h' acc a b c => ⟨⟨_, Heap.get?_push_size _ rfl, rfl⟩, hQ h' acc a b c⟩) fun obj s₁ h₁ => ?_
  exact ⟨h₁.1, F.args_object_init_2 obj _, object_init_meets F.called_tuple.init.lookup F.called_tuple.made (by decide) prog w A.in1 _ s₁ ⟨h₁.1, rfl, h₁.2⟩⟩
end
end Kp

namespace Kp
open PySem PySem.Spec PyProof.Rows L2
open Sem (wp)
/-- the heap is grown, what is tracked too -/
theorem Inv_more {X : Cx} {pins : List (Addr × Obj)} {σ : L2.St} {H H' : Hp} {s : Shared} {h' : Heap} {t' : Nat} (I : Inv X pins σ H s) (k : ∀ b u, s.heap.get? b = some u → h'.get? b = some u)
    (e1 : ∀ a, a < s.heap.objs.size → H' a = H a) (e2 : ∀ a o, s.heap.objs.size ≤ a → H' a = some o → ObjOk X.prog X.w H' h' a o) : Inv X pins σ H' { s with heap := h', toks := t' } := by
  have up : ∀ a o, H a = some o → H' a = some o := fun a o e => (e1 a (I.hok.lt e)).trans e
  refine I.un ⟨fun b u q _ _ _ => k b u q, fun b u q _ _ _ => ⟨u.slots, k b u q⟩, fun b u q n _ => (e1 b (Heap.lt_size q)).trans n, fun b u q _ => ⟨u, k b u q⟩, fun b xs q => up b _ q, fun b o u q => up b _ q, fun b ps q => ⟨#[], by rw [up b _ q]; simp⟩⟩ fun a o e => ?_
  by_cases ha : a < s.heap.objs.size
  · rw [e1 a ha] at e
    exact (I.hok a o e).stay (fun b u _ q => k b u q) (fun b q => up b _ q) fun b xs q => up b _ q
  · exact e2 a o (Nat.not_lt.mp ha) e
/-- several new objects -/
def upds (H : Hp) : List (Addr × HO) → Hp
  | [] => H
  | p :: r => upd (upds H r) p.1 p.2
theorem upds_not {H : Hp} {a : Addr} : ∀ {ps : List (Addr × HO)}, a ∉ ps.map (·.1) → upds H ps a = H a
  | [], _ => rfl
  | p :: r, h => by
    rw [List.map_cons, List.mem_cons, not_or] at h
    show upd _ _ _ _ = _
    rw [upd_ne h.1]
    exact upds_not h.2
theorem upds_mem {H : Hp} {a : Addr} {o : HO} : ∀ {ps : List (Addr × HO)}, a ∈ ps.map (·.1) → upds H ps a = some o → (a, o) ∈ ps
  | [], h, _ => by simp at h
  | p :: r, h, e => by
    by_cases ha : a = p.1
    · subst ha
      have e' : upd (upds H r) p.1 p.2 p.1 = some o := e
      rw [upd_same] at e'
      cases e'
      exact List.mem_cons_self
    · rw [List.map_cons, List.mem_cons] at h
      have e' : upd (upds H r) p.1 p.2 a = some o := e
      rw [upd_ne ha] at e'
      exact List.mem_cons_of_mem _ (upds_mem (h.resolve_left ha) e')
/-- the rows of 0 .. n - 1 in the machine's order -/
def IsPerms (n : Nat) (rows : List (List Nat)) : Prop := ∃ rest, rows = List.range n :: rest ∧ n ≤ 1000 ∧ runP n n 1000 (List.range n ++ (List.range n).map fun i => n - i) = some rest ∧ rest.length ≤ 90000 ∧ ∀ r ∈ rows, r.length ≤ 1000 ∧ ∀ i ∈ r, i < n
def rowV (a : Int) (r : List Nat) : List V := r.map fun i => V.int (a + (i : Nat))
def tTupPm (te : L2.St → Hp → (Int → Int → Hp → Prop) → Prop) : TE := fun σ H Q => te σ H fun a b H1 => RgOk a b ∧ ∃ rows, IsPerms (b - a).toNat rows ∧ ∀ (as : List Addr) p, as.length = rows.length → as.Nodup → (∀ x ∈ as, H1 x = none) → p ∉ as → H1 p = none →
  Q (.ref p) (upd (upds H1 (as.zip (rows.map fun r => HO.tup (rowV a r)))) p (.tup (as.map V.ref)))
theorem rowsAt_as {h : Heap} {items : List Value} {m S : Addr} : ∀ {vs rows}, RowsAt h items m S vs rows → ∃ as : List Addr, vs = as.map Value.ref ∧ as.length = rows.length ∧ ∀ x ∈ as, S < x
  | _, _, .nil => ⟨[], rfl, rfl, by simp⟩
  | _, _, .cons ⟨a, e, _, n2, _⟩ r => by
    obtain ⟨as, rfl, hl, hm⟩ := rowsAt_as r
    refine ⟨a :: as, by rw [e]; rfl, by rw [List.length_cons, List.length_cons, hl], fun x hx => ?_⟩
    rcases List.mem_cons.mp hx with rfl | hx
    · exact n2
    · exact hm x hx
theorem vals_row {items : List Value} {a : Int} {n : Nat} (hv : Vals ((List.range n).map fun (i : Nat) => V.int (a + (i : Nat))) items) : ∀ (r : List Nat), (∀ i ∈ r, i < n) → Vals (rowV a r) (r.map fun i => items.toArray.getD i .none)
  | [], _ => .nil
  | i :: r, h => by
    refine .cons ?_ (vals_row hv r fun j hj => h j (List.mem_cons_of_mem _ hj))
    obtain ⟨u, e, ru⟩ := hv.get (i := i) (x := V.int (a + (i : Nat))) (by rw [List.getElem?_map, List.getElem?_range (h i List.mem_cons_self)]; rfl)
    have : items.toArray.getD i .none = u := by
      rw [Array.getD_eq_getD_getElem?]
      simp [e]
    show L2.RelV (V.int (a + (i : Nat))) (items.toArray.getD i .none)
    rw [this]
    exact ru
theorem rowsAt_ok {X : Cx} {h : Heap} {items : List Value} {m S : Addr} {a : Int} {n : Nat} {H' : Hp} (hv : Vals ((List.range n).map fun (i : Nat) => V.int (a + (i : Nat))) items) : ∀ {as : List Addr} {rows : List (List Nat)}, RowsAt h items m S (as.map Value.ref) rows → (∀ r ∈ rows, r.length ≤ 1000 ∧ ∀ i ∈ r, i < n) →
    ∀ x o, (x, o) ∈ as.zip (rows.map fun r => HO.tup (rowV a r)) → ObjOk X.prog X.w H' h x o
  | [], _, _, _, x, o, hm => by simp at hm
  | y :: as, _, .cons (row := row) (rows := rows) ⟨b, e, _, _, g⟩ r, hr, x, o, hm => by
    cases e
    rw [List.map_cons, List.zip_cons_cons] at hm
    rcases List.mem_cons.mp hm with hm | hm
    · cases hm
      have := hr row List.mem_cons_self
      exact ⟨by unfold rowV; rw [List.length_map, sizeLine_eq]; omega, _, vals_row hv row this.2, ⟨_, g, rfl, _, rfl⟩⟩
    · exact rowsAt_ok hv r (fun z hz => hr z (List.mem_cons_of_mem _ hz)) x o hm
theorem vals_refs : ∀ as : List Addr, Vals (as.map V.ref) (as.map Value.ref)
  | [] => .nil
  | a :: r => .cons rfl (vals_refs r)
section
variable {X : Cx} {e : Expr} {te : L2.St → Hp → (Int → Int → Hp → Prop) → Prop}
theorem pe_tupPm {p pos q qpos : Pos} (hc : X.calm = true) (hg : Gl X "tuple") (hm : X.mg "tuple" = none) (gp : Gl X "permutations") (mp : X.mg "permutations" = some (.type "itertools.permutations")) (he : PRg X e te)
    (ni : starEach [e] X.env = (false, eval e X.env) :: starEach [] X.env := by rfl) (na : starEach [.Call (.Name "permutations" q) [e] [] qpos] X.env = (false, eval (.Call (.Name "permutations" q) [e] [] qpos) X.env) :: starEach [] X.env := by rfl) :
    PE X (.Call (.Name "tuple" p) [.Call (.Name "permutations" q) [e] [] qpos] [] pos) (tTupPm te) := by
  refine ⟨fun pins s σ H Q I h => ?_⟩
  refine Call_ (ld_blt I hg hm boot_tuple (PyProof.Rows.callWith_type1 (args_cons ?_ na) na))
  refine Call_ (ld_glob I gp mp (PyProof.Rows.callWith_type1 (args_cons (thn (he pins s σ H _ I h) fun x s1 ⟨r, a, b, t, u, v, H1, ex, hr, I1, ok, rows, hp, hQ⟩ => args_nil ?_) ni) ni))
  subst ex
  obtain ⟨b1, b2, b3, b4, b5⟩ := ok
  obtain ⟨rest, hrows, hn, hrun, hsz, hall⟩ := hp
  have hcalm := I1.ok.hd hc
  refine call_pm (collect_range (n := (b - a).toNat) hcalm hr (small_one b1 b2 b3 b4) (rangeSize_nat a b) (by omega) fun h1 tk acc hk1 hi => ?_)
  have hlen : acc.toList.length = (b - a).toNat := by rw [Array.length_toList]; exact hi.1
  refine ⟨by rw [hlen]; exact hn, fun h2 gT gm hs2 hk2 => args_nil ?_⟩
  rw [hlen] at gm
  have hvals : Vals ((List.range (b - a).toNat).map fun (i : Nat) => V.int (a + (i : Nat))) acc.toList := vals_rg hi
  refine call_tuple_pm (f := 1000) (rows := rest) (items := acc.toList) (k := (b - a).toNat) hcalm hn (Nat.ne_of_lt (Nat.lt_succ_self _)) (by rw [hlen]; exact hrun) (by rw [List.length_append, List.length_map, List.length_range]; omega) gT gm hsz fun h3 vs hk3 hra nd => ?_
  obtain ⟨as, rfl, hal, has⟩ := rowsAt_as hra
  have ks : ∀ c o, h1.get? c = some o → h3.get? c = some o := fun c o e => hk3 c o (Nat.ne_of_lt (Nat.lt_succ_of_lt (Heap.lt_size e))) (hk2 c o e)
  have I2 : L2.Inv X pins σ H1 { s1 with heap := h1, toks := tk } := I1.kept hk1
  have I2k : L2.Inv X pins σ H1 { s1 with heap := h3, toks := tk } := I2.kept (t' := tk) ks
  have big : ∀ x ∈ as, h1.objs.size ≤ x := fun x hx => by
    have y := has x hx
    have y' : h2.objs.size < x := y
    rw [hs2] at y'
    exact Nat.le_of_lt (Nat.lt_trans (Nat.lt_of_lt_of_le (Nat.lt_succ_self _) (Nat.le_succ _)) y')
  have hz : (as.zip (rows.map fun r => HO.tup (rowV a r))).map (·.1) = as := by
    rw [List.map_fst_zip]
    rw [hrows, List.length_map, hal]
    simp
  have I3 : L2.Inv X pins σ (upds H1 (as.zip (rows.map fun r => HO.tup (rowV a r)))) { s1 with heap := h3, toks := tk } := Inv_more (s := { s1 with heap := h1, toks := tk }) (h' := h3) (t' := tk) I2 ks (fun c hc' => upds_not (by
      rw [hz]
      exact fun hm' => absurd hc' (Nat.not_lt.mpr (big c hm')))) fun c o hc' e' => by
    by_cases hm' : c ∈ as
    · refine rowsAt_ok hvals hra ?_ c o ?_
      · have q := hall
        rw [hrows] at q
        intro r' hr'
        refine q r' ?_
        rw [show (List.range (b - a).toNat ++ (List.range (b - a).toNat).map fun i => (b - a).toNat - i).take (b - a).toNat = List.range (b - a).toNat from List.take_left' (List.length_range ..)] at hr'
        exact hr'
      · have q := upds_mem (by rw [hz]; exact hm') e'
        rw [hrows] at q
        rw [show (List.range (b - a).toNat ++ (List.range (b - a).toNat).map fun i => (b - a).toNat - i).take (b - a).toNat = List.range (b - a).toNat from List.take_left' (List.length_range ..)]
        exact q
    · have e2 : upds H1 (as.zip (rows.map fun r => HO.tup (rowV a r))) c = H1 c := upds_not (by rw [hz]; exact hm')
      rw [e2, I2.hok.fresh hc'] at e'
      cases e'
  have hp1 : h3.objs.size ∉ as := fun hm' => hra.fresh (Nat.le_refl _) (List.mem_map.mpr ⟨_, hm', rfl⟩)
  have nd' : as.Nodup := by
    have := nd
    rw [List.nodup_iff_pairwise_ne, List.pairwise_map] at this
    exact this.imp fun z e => z (by rw [e])
  have hal' : as.length = rows.length := by rw [hrows, hal]; simp
  refine ⟨.ref h3.objs.size, upd (upds H1 (as.zip (rows.map fun r => HO.tup (rowV a r)))) h3.objs.size (.tup (as.map V.ref)), I3.laid (t' := tk) (fun c o e => Heap.get?_push_of_some _ e) (Nat.le_refl _) (show ObjOk X.prog X.w _ _ _ (.tup (as.map V.ref)) from ⟨?_, as.map Value.ref, vals_refs as, IsTup.new _ _⟩), rfl, hQ as _ hal' nd' (fun x hx => I2.hok.fresh (big x hx)) hp1 (I2k.hok.fresh (Nat.le_refl _))⟩
  rw [List.length_map, hal', hrows, List.length_cons, sizeLine_eq]
  omega
end
end Kp

namespace Ka
open PySem PySem.Spec PyProof.Rows L2 Evl Kp
section
variable {K : PySem.W.Frag}
theorem upds_news {W : Wd} {H : Hp} (a : Int) : ∀ (as : List Addr) (rows : List (List Nat)), as.length = rows.length → as.Nodup → (∀ x ∈ as, H x = none) → W.inv H →
    W.inv (upds H (as.zip (rows.map fun r => HO.tup (rowV a r)))) ∧ Ex (W.view H) (W.view (upds H (as.zip (rows.map fun r => HO.tup (rowV a r))))) ∧ Dqs K (W.view (upds H (as.zip (rows.map fun r => HO.tup (rowV a r))))) (as.map V.ref) (rows.map fun r => PyData.tuple ((r.map fun (i : Nat) => a + (i : Nat)).map PyData.int))
  | [], [], _, _, _, i => ⟨i, Ex.refl _, .nil⟩
  | [], _ :: _, h, _, _, _ => by simp at h
  | _ :: _, [], h, _, _, _ => by simp at h
  | x :: as, r :: rows, h, nd, hf, i => by
    rw [List.nodup_cons] at nd
    obtain ⟨i1, e1, d1⟩ := upds_news a as rows (by simpa using h) nd.2 (fun y hy => hf y (List.mem_cons_of_mem _ hy)) i
    have hx : upds H (as.zip (rows.map fun r => HO.tup (rowV a r))) x = none := by
      rw [upds_not]
      · exact hf x List.mem_cons_self
      · rw [List.map_fst_zip]
        · exact nd.1
        · rw [List.length_map]; simp at h; omega
    have e2 : rowV a r = (r.map fun (i : Nat) => a + (i : Nat)).map V.int := by
      unfold rowV
      rw [List.map_map]
      rfl
    have x2 := Wd.view_ex (W := W) (Ex.new (o := HO.tup (rowV a r)) hx)
    refine ⟨Wd.inv_new i1 hx, e1.trans x2, .cons ?_ (d1.mono x2)⟩
    show Dq K (W.view (upd _ x (.tup (rowV a r)))) (.ref x) _
    rw [e2]
    exact Dq.newT i1 hx (Dqs.ints _)
variable {W : Wd} {Δ : DEnv} {ta tb : TE}
/-- tuple(permutations(range(i, j))) -/
theorem de_tupPm {P : DV → Prop} (h : DE K W Δ ta fun a => ∃ i, a = .dat (.int i) ∧ DE K W Δ tb fun b => ∃ j, b = .dat (.int j) ∧ RgOk i j ∧ ∃ rows, IsPerms (j - i).toNat rows ∧ P (.dat (.tuple (rows.map fun r => PyData.tuple ((r.map fun (k : Nat) => i + (k : Nat)).map PyData.int))))) : DE K W Δ (tTupPm (tRg2 ta tb)) P := fun σ H v i Q q =>
  h σ H v i _ fun x H1 e i1 x1 p1 r1 => by
    obtain ⟨a, rfl, p1⟩ := p1
    cases r1
    refine p1 σ H1 (v.mono x1) i1 _ fun y H2 e2 i2 x2 p2 r2 => ?_
    obtain ⟨b, rfl, hr, rows, hp, k⟩ := p2
    cases r2
    refine ⟨a, b, rfl, rfl, hr, rows, hp, fun as p hl nd hf hpn hp0 => ?_⟩
    obtain ⟨j1, y1, d1⟩ := upds_news (K := K) (W := W) (H := H2) a as rows hl nd hf i2
    have hp' : upds H2 (as.zip (rows.map fun r => HO.tup (rowV a r))) p = none := by
      rw [upds_not]
      · exact hp0
      · rw [List.map_fst_zip]
        · exact hpn
        · rw [List.length_map]; omega
    exact q _ _ _ (Wd.inv_new j1 hp') (((x1.trans x2).trans y1).trans (Wd.view_ex (Ex.new hp'))) k (Dq.newT j1 hp' d1)
end
end Ka


namespace Law
open PySem PySem.Spec PyProof.Rows L2 Evl Ka
def topS (i : Nat) : Stmt := PySem.Challenge.pw_keptarcs_k14_whole_all_lots.main.body.getD i (.Pass ⟨0, 0, 0, 0⟩)
abbrev s_is_number : Stmt := topS 8
abbrev N_is_number : List Str := ["thing"]
theorem sc_is_number : FnScope N_is_number ["thing"] (defScope s_is_number) := ⟨rfl, rfl, rfl, by decide +kernel, rfl, by decide +kernel, by decide +kernel⟩
abbrev s_is_number_from : Stmt := topS 9
abbrev N_is_number_from : List Str := ["thing", "low", "high"]
theorem sc_is_number_from : FnScope N_is_number_from ["thing", "low", "high"] (defScope s_is_number_from) := ⟨rfl, rfl, rfl, by decide +kernel, rfl, by decide +kernel, by decide +kernel⟩
abbrev s_are_numbers : Stmt := topS 10
abbrev N_are_numbers : List Str := ["thing", "part"]
theorem sc_are_numbers : FnScope N_are_numbers ["thing"] (defScope s_are_numbers) := ⟨rfl, rfl, rfl, by decide +kernel, rfl, by decide +kernel, by decide +kernel⟩
abbrev s_are_ascending_numbers : Stmt := topS 11
abbrev N_are_ascending_numbers : List Str := ["thing"]
theorem sc_are_ascending_numbers : FnScope N_are_ascending_numbers ["thing"] (defScope s_are_ascending_numbers) := ⟨rfl, rfl, rfl, by decide +kernel, rfl, by decide +kernel, by decide +kernel⟩
abbrev s_is_row : Stmt := topS 13
abbrev N_is_row : List Str := ["n", "thing"]
theorem sc_is_row : FnScope N_is_row ["n", "thing"] (defScope s_is_row) := ⟨rfl, rfl, rfl, by decide +kernel, rfl, by decide +kernel, by decide +kernel⟩
abbrev s_check_row : Stmt := topS 14
abbrev N_check_row : List Str := ["n", "row"]
theorem sc_check_row : FnScope N_check_row ["n", "row"] (defScope s_check_row) := ⟨rfl, rfl, rfl, by decide +kernel, rfl, by decide +kernel, by decide +kernel⟩
abbrev s_check_place : Stmt := topS 15
abbrev N_check_place : List Str := ["n", "i"]
theorem sc_check_place : FnScope N_check_place ["n", "i"] (defScope s_check_place) := ⟨rfl, rfl, rfl, by decide +kernel, rfl, by decide +kernel, by decide +kernel⟩
abbrev s_turned_pairs : Stmt := topS 16
abbrev N_turned_pairs : List Str := ["n", "row", "pairs", "i", "high", "low"]
theorem sc_turned_pairs : FnScope N_turned_pairs ["n", "row"] (defScope s_turned_pairs) := ⟨rfl, rfl, rfl, by decide +kernel, rfl, by decide +kernel, by decide +kernel⟩
abbrev s_mirror : Stmt := topS 17
abbrev N_mirror : List Str := ["n", "row"]
theorem sc_mirror : FnScope N_mirror ["n", "row"] (defScope s_mirror) := ⟨rfl, rfl, rfl, by decide +kernel, rfl, by decide +kernel, by decide +kernel⟩
abbrev s_row_turning : Stmt := topS 18
abbrev N_row_turning : List Str := ["n", "turned", "places", "p", "lesser", "greater", "a", "b", "place"]
theorem sc_row_turning : FnScope N_row_turning ["n", "turned"] (defScope s_row_turning) := ⟨rfl, rfl, rfl, by decide +kernel, rfl, by decide +kernel, by decide +kernel⟩
abbrev s_chained : Stmt := topS 19
abbrev N_chained : List Str := ["n", "pairs", "turned", "b", "lesser", "greater", "a", "c", "pair"]
theorem sc_chained : FnScope N_chained ["n", "pairs"] (defScope s_chained) := ⟨rfl, rfl, rfl, by decide +kernel, rfl, by decide +kernel, by decide +kernel⟩
abbrev s_least_above : Stmt := topS 20
abbrev N_least_above : List Str := ["n", "one", "other", "pairs"]
theorem sc_least_above : FnScope N_least_above ["n", "one", "other"] (defScope s_least_above) := ⟨rfl, rfl, rfl, by decide +kernel, rfl, by decide +kernel, by decide +kernel⟩
abbrev s_all_rows : Stmt := topS 21
abbrev N_all_rows : List Str := ["n"]
theorem sc_all_rows : FnScope N_all_rows ["n"] (defScope s_all_rows) := ⟨rfl, rfl, rfl, by decide +kernel, rfl, by decide +kernel, by decide +kernel⟩
abbrev s_is_arc : Stmt := topS 23
abbrev N_is_arc : List Str := ["n", "thing", "a", "b", "ahead", "p"]
theorem sc_is_arc : FnScope N_is_arc ["n", "thing"] (defScope s_is_arc) := ⟨rfl, rfl, rfl, by decide +kernel, rfl, by decide +kernel, by decide +kernel⟩
abbrev s_check_arc : Stmt := topS 24
abbrev N_check_arc : List Str := ["n", "arc"]
theorem sc_check_arc : FnScope N_check_arc ["n", "arc"] (defScope s_check_arc) := ⟨rfl, rfl, rfl, by decide +kernel, rfl, by decide +kernel, by decide +kernel⟩
abbrev s_choices : Stmt := topS 25
abbrev N_choices : List Str := ["numbers", "found", "p", "some"]
theorem sc_choices : FnScope N_choices ["numbers"] (defScope s_choices) := ⟨rfl, rfl, rfl, by decide +kernel, rfl, by decide +kernel, by decide +kernel⟩
abbrev s_all_arcs : Stmt := topS 26
abbrev N_all_arcs : List Str := ["n", "found", "a", "b", "ahead"]
theorem sc_all_arcs : FnScope N_all_arcs ["n"] (defScope s_all_arcs) := ⟨rfl, rfl, rfl, by decide +kernel, rfl, by decide +kernel, by decide +kernel⟩
abbrev s_arc_at : Stmt := topS 27
abbrev N_arc_at : List Str := ["n", "row", "i", "a", "b", "ahead", "p"]
theorem sc_arc_at : FnScope N_arc_at ["n", "row", "i"] (defScope s_arc_at) := ⟨rfl, rfl, rfl, by decide +kernel, rfl, by decide +kernel, by decide +kernel⟩
abbrev s_arcs_of_falls : Stmt := topS 28
abbrev N_arcs_of_falls : List Str := ["n", "row", "found", "i"]
theorem sc_arcs_of_falls : FnScope N_arcs_of_falls ["n", "row"] (defScope s_arcs_of_falls) := ⟨rfl, rfl, rfl, by decide +kernel, rfl, by decide +kernel, by decide +kernel⟩
abbrev s_numbers_behind : Stmt := topS 29
abbrev N_numbers_behind : List Str := ["arc", "a", "b", "ahead", "p"]
theorem sc_numbers_behind : FnScope N_numbers_behind ["arc"] (defScope s_numbers_behind) := ⟨rfl, rfl, rfl, by decide +kernel, rfl, by decide +kernel, by decide +kernel⟩
abbrev s_single_row : Stmt := topS 30
abbrev N_single_row : List Str := ["n", "arc", "a", "b", "ahead", "below", "above"]
theorem sc_single_row : FnScope N_single_row ["n", "arc"] (defScope s_single_row) := ⟨rfl, rfl, rfl, by decide +kernel, rfl, by decide +kernel, by decide +kernel⟩
abbrev s_side : Stmt := topS 31
abbrev N_side : List Str := ["arc", "p", "a", "b", "ahead"]
theorem sc_side : FnScope N_side ["arc", "p"] (defScope s_side) := ⟨rfl, rfl, rfl, by decide +kernel, rfl, by decide +kernel, by decide +kernel⟩
abbrev s_parting_numbers : Stmt := topS 32
abbrev N_parting_numbers : List Str := ["n", "one", "other", "low", "high", "greater", "less", "p"]
theorem sc_parting_numbers : FnScope N_parting_numbers ["n", "one", "other"] (defScope s_parting_numbers) := ⟨rfl, rfl, rfl, by decide +kernel, rfl, by decide +kernel, by decide +kernel⟩
abbrev s_judge_crossing : Stmt := topS 33
abbrev N_judge_crossing : List Str := ["n", "one", "other", "greater", "less"]
theorem sc_judge_crossing : FnScope N_judge_crossing ["n", "one", "other"] (defScope s_judge_crossing) := ⟨rfl, rfl, rfl, by decide +kernel, rfl, by decide +kernel, by decide +kernel⟩
abbrev s_are_arcs : Stmt := topS 35
abbrev N_are_arcs : List Str := ["n", "thing", "arc"]
theorem sc_are_arcs : FnScope N_are_arcs ["n", "thing"] (defScope s_are_arcs) := ⟨rfl, rfl, rfl, by decide +kernel, rfl, by decide +kernel, by decide +kernel⟩
abbrev s_check_arcs : Stmt := topS 36
abbrev N_check_arcs : List Str := ["n", "arcs"]
theorem sc_check_arcs : FnScope N_check_arcs ["n", "arcs"] (defScope s_check_arcs) := ⟨rfl, rfl, rfl, by decide +kernel, rfl, by decide +kernel, by decide +kernel⟩
abbrev s_is_lot : Stmt := topS 37
abbrev N_is_lot : List Str := ["n", "thing"]
theorem sc_is_lot : FnScope N_is_lot ["n", "thing"] (defScope s_is_lot) := ⟨rfl, rfl, rfl, by decide +kernel, rfl, by decide +kernel, by decide +kernel⟩
abbrev s_check_lot : Stmt := topS 38
abbrev N_check_lot : List Str := ["n", "lot"]
theorem sc_check_lot : FnScope N_check_lot ["n", "lot"] (defScope s_check_lot) := ⟨rfl, rfl, rfl, by decide +kernel, rfl, by decide +kernel, by decide +kernel⟩
abbrev s_share_an_end : Stmt := topS 39
abbrev N_share_an_end : List Str := ["one", "other"]
theorem sc_share_an_end : FnScope N_share_an_end ["one", "other"] (defScope s_share_an_end) := ⟨rfl, rfl, rfl, by decide +kernel, rfl, by decide +kernel, by decide +kernel⟩
abbrev s_arcs_two_by_two : Stmt := topS 40
abbrev N_arcs_two_by_two : List Str := ["arcs", "i", "one", "other"]
theorem sc_arcs_two_by_two : FnScope N_arcs_two_by_two ["arcs"] (defScope s_arcs_two_by_two) := ⟨rfl, rfl, rfl, by decide +kernel, rfl, by decide +kernel, by decide +kernel⟩
abbrev s_judge_lot : Stmt := topS 41
abbrev N_judge_lot : List Str := ["n", "arcs", "i", "one", "other", "verdict"]
theorem sc_judge_lot : FnScope N_judge_lot ["n", "arcs"] (defScope s_judge_lot) := ⟨rfl, rfl, rfl, by decide +kernel, rfl, by decide +kernel, by decide +kernel⟩
abbrev s_all_lots : Stmt := topS 42
abbrev N_all_lots : List Str := ["n", "row"]
theorem sc_all_lots : FnScope N_all_lots ["n"] (defScope s_all_lots) := ⟨rfl, rfl, rfl, by decide +kernel, rfl, by decide +kernel, by decide +kernel⟩
abbrev s_lot_of_falls : Stmt := topS 43
abbrev N_lot_of_falls : List Str := ["n", "row"]
theorem sc_lot_of_falls : FnScope N_lot_of_falls ["n", "row"] (defScope s_lot_of_falls) := ⟨rfl, rfl, rfl, by decide +kernel, rfl, by decide +kernel, by decide +kernel⟩
abbrev s_least_above_all : Stmt := topS 44
abbrev N_least_above_all : List Str := ["n", "rows", "least", "row"]
theorem sc_least_above_all : FnScope N_least_above_all ["n", "rows"] (defScope s_least_above_all) := ⟨rfl, rfl, rfl, by decide +kernel, rfl, by decide +kernel, by decide +kernel⟩
abbrev s_row_of_falls : Stmt := topS 45
abbrev N_row_of_falls : List Str := ["n", "lot", "arc"]
theorem sc_row_of_falls : FnScope N_row_of_falls ["n", "lot"] (defScope s_row_of_falls) := ⟨rfl, rfl, rfl, by decide +kernel, rfl, by decide +kernel, by decide +kernel⟩
abbrev s_turned_over : Stmt := topS 46
abbrev N_turned_over : List Str := ["arc"]
theorem sc_turned_over : FnScope N_turned_over ["arc"] (defScope s_turned_over) := ⟨rfl, rfl, rfl, by decide +kernel, rfl, by decide +kernel, by decide +kernel⟩
abbrev s_row_of_rises : Stmt := topS 47
abbrev N_row_of_rises : List Str := ["n", "lot", "over", "arc"]
theorem sc_row_of_rises : FnScope N_row_of_rises ["n", "lot"] (defScope s_row_of_rises) := ⟨rfl, rfl, rfl, by decide +kernel, rfl, by decide +kernel, by decide +kernel⟩
abbrev s__law_deck : Stmt := topS 49
abbrev N__law_deck : List Str := ["script", "mixed", "cell"]
theorem sc__law_deck : FnScope N__law_deck ["script"] (defScope s__law_deck) := ⟨rfl, rfl, rfl, by decide +kernel, rfl, by decide +kernel, by decide +kernel⟩
abbrev s__law_draw : Stmt := topS 50
abbrev N__law_draw : List Str := ["deck", "many", "number", "cell"]
theorem sc__law_draw : FnScope N__law_draw ["deck", "many"] (defScope s__law_draw) := ⟨rfl, rfl, rfl, by decide +kernel, rfl, by decide +kernel, by decide +kernel⟩
abbrev s__law_pick : Stmt := topS 51
abbrev N__law_pick : List Str := ["deck", "some"]
theorem sc__law_pick : FnScope N__law_pick ["deck", "some"] (defScope s__law_pick) := ⟨rfl, rfl, rfl, by decide +kernel, rfl, by decide +kernel, by decide +kernel⟩
abbrev s__law_side : Stmt := topS 52
abbrev N__law_side : List Str := ["arc", "p"]
theorem sc__law_side : FnScope N__law_side ["arc", "p"] (defScope s__law_side) := ⟨rfl, rfl, rfl, by decide +kernel, rfl, by decide +kernel, by decide +kernel⟩
abbrev s__law_parts : Stmt := topS 53
abbrev N__law_parts : List Str := ["one", "other", "common", "rows", "p", "more"]
theorem sc__law_parts : FnScope N__law_parts ["one", "other"] (defScope s__law_parts) := ⟨rfl, rfl, rfl, by decide +kernel, rfl, by decide +kernel, by decide +kernel⟩
abbrev s__law_do_agree : Stmt := topS 54
abbrev N__law_do_agree : List Str := ["one", "other"]
theorem sc__law_do_agree : FnScope N__law_do_agree ["one", "other"] (defScope s__law_do_agree) := ⟨rfl, rfl, rfl, by decide +kernel, rfl, by decide +kernel, by decide +kernel⟩
abbrev s__law_lots : Stmt := topS 55
abbrev N__law_lots : List Str := ["n", "arcs", "friends", "found", "border", "turn", "longer", "lot", "left", "at", "j"]
theorem sc__law_lots : FnScope N__law_lots ["n", "arcs"] (defScope s__law_lots) := ⟨rfl, rfl, rfl, by decide +kernel, rfl, by decide +kernel, by decide +kernel⟩
abbrev s__law_arcs_of : Stmt := topS 56
abbrev N__law_arcs_of : List Str := ["n", "found", "a", "b", "some", "x", "ahead"]
theorem sc__law_arcs_of : FnScope N__law_arcs_of ["n"] (defScope s__law_arcs_of) := ⟨rfl, rfl, rfl, by decide +kernel, rfl, by decide +kernel, by decide +kernel⟩
abbrev s_law : Stmt := topS 57
abbrev N_law : List Str := ["script", "deck", "n", "arcs", "due", "told", "many", "sizes", "rows", "k", "made", "lot", "row", "turn", "at", "arc"]
theorem sc_law : FnScope N_law ["script"] (defScope s_law) := ⟨rfl, rfl, rfl, by decide +kernel, rfl, by decide +kernel, by decide +kernel⟩
set_option maxHeartbeats 0 in
set_option genInjectivity false in
set_option genSizeOf false in
/-- what the top has left -/
structure Tx (K : PySem.W.Frag) (mg : Str → Option Value) where
  f_is_number : Addr
  d_is_number : FuncData
  F_is_number : Fun K "is_number" "is_number" s_is_number f_is_number d_is_number
  b_is_number : Binds K d_is_number ["thing"] []
  g_is_number : mg "is_number" = some (.ref f_is_number)
  f_is_number_from : Addr
  d_is_number_from : FuncData
  F_is_number_from : Fun K "is_number_from" "is_number_from" s_is_number_from f_is_number_from d_is_number_from
  b_is_number_from : Binds K d_is_number_from ["thing", "low", "high"] []
  g_is_number_from : mg "is_number_from" = some (.ref f_is_number_from)
  f_are_numbers : Addr
  d_are_numbers : FuncData
  F_are_numbers : Fun K "are_numbers" "are_numbers" s_are_numbers f_are_numbers d_are_numbers
  b_are_numbers : Binds K d_are_numbers ["thing"] []
  g_are_numbers : mg "are_numbers" = some (.ref f_are_numbers)
  f_are_ascending_numbers : Addr
  d_are_ascending_numbers : FuncData
  F_are_ascending_numbers : Fun K "are_ascending_numbers" "are_ascending_numbers" s_are_ascending_numbers f_are_ascending_numbers d_are_ascending_numbers
  b_are_ascending_numbers : Binds K d_are_ascending_numbers ["thing"] []
  g_are_ascending_numbers : mg "are_ascending_numbers" = some (.ref f_are_ascending_numbers)
  f_is_row : Addr
  d_is_row : FuncData
  F_is_row : Fun K "is_row" "is_row" s_is_row f_is_row d_is_row
  b_is_row : Binds K d_is_row ["n", "thing"] []
  g_is_row : mg "is_row" = some (.ref f_is_row)
  f_check_row : Addr
  d_check_row : FuncData
  F_check_row : Fun K "check_row" "check_row" s_check_row f_check_row d_check_row
  b_check_row : Binds K d_check_row ["n", "row"] []
  g_check_row : mg "check_row" = some (.ref f_check_row)
  f_check_place : Addr
  d_check_place : FuncData
  F_check_place : Fun K "check_place" "check_place" s_check_place f_check_place d_check_place
  b_check_place : Binds K d_check_place ["n", "i"] []
  g_check_place : mg "check_place" = some (.ref f_check_place)
  f_turned_pairs : Addr
  d_turned_pairs : FuncData
  F_turned_pairs : Fun K "turned_pairs" "turned_pairs" s_turned_pairs f_turned_pairs d_turned_pairs
  b_turned_pairs : Binds K d_turned_pairs ["n", "row"] []
  g_turned_pairs : mg "turned_pairs" = some (.ref f_turned_pairs)
  f_mirror : Addr
  d_mirror : FuncData
  F_mirror : Fun K "mirror" "mirror" s_mirror f_mirror d_mirror
  b_mirror : Binds K d_mirror ["n", "row"] []
  g_mirror : mg "mirror" = some (.ref f_mirror)
  f_row_turning : Addr
  d_row_turning : FuncData
  F_row_turning : Fun K "row_turning" "row_turning" s_row_turning f_row_turning d_row_turning
  b_row_turning : Binds K d_row_turning ["n", "turned"] []
  g_row_turning : mg "row_turning" = some (.ref f_row_turning)
  f_chained : Addr
  d_chained : FuncData
  F_chained : Fun K "chained" "chained" s_chained f_chained d_chained
  b_chained : Binds K d_chained ["n", "pairs"] []
  g_chained : mg "chained" = some (.ref f_chained)
  f_least_above : Addr
  d_least_above : FuncData
  F_least_above : Fun K "least_above" "least_above" s_least_above f_least_above d_least_above
  b_least_above : Binds K d_least_above ["n", "one", "other"] []
  g_least_above : mg "least_above" = some (.ref f_least_above)
  f_all_rows : Addr
  d_all_rows : FuncData
  F_all_rows : Fun K "all_rows" "all_rows" s_all_rows f_all_rows d_all_rows
  b_all_rows : Binds K d_all_rows ["n"] []
  g_all_rows : mg "all_rows" = some (.ref f_all_rows)
  f_is_arc : Addr
  d_is_arc : FuncData
  F_is_arc : Fun K "is_arc" "is_arc" s_is_arc f_is_arc d_is_arc
  b_is_arc : Binds K d_is_arc ["n", "thing"] []
  g_is_arc : mg "is_arc" = some (.ref f_is_arc)
  f_check_arc : Addr
  d_check_arc : FuncData
  F_check_arc : Fun K "check_arc" "check_arc" s_check_arc f_check_arc d_check_arc
  b_check_arc : Binds K d_check_arc ["n", "arc"] []
  g_check_arc : mg "check_arc" = some (.ref f_check_arc)
  f_choices : Addr
  d_choices : FuncData
  F_choices : Fun K "choices" "choices" s_choices f_choices d_choices
  b_choices : Binds K d_choices ["numbers"] []
  g_choices : mg "choices" = some (.ref f_choices)
  f_all_arcs : Addr
  d_all_arcs : FuncData
  F_all_arcs : Fun K "all_arcs" "all_arcs" s_all_arcs f_all_arcs d_all_arcs
  b_all_arcs : Binds K d_all_arcs ["n"] []
  g_all_arcs : mg "all_arcs" = some (.ref f_all_arcs)
  f_arc_at : Addr
  d_arc_at : FuncData
  F_arc_at : Fun K "arc_at" "arc_at" s_arc_at f_arc_at d_arc_at
  b_arc_at : Binds K d_arc_at ["n", "row", "i"] []
  g_arc_at : mg "arc_at" = some (.ref f_arc_at)
  f_arcs_of_falls : Addr
  d_arcs_of_falls : FuncData
  F_arcs_of_falls : Fun K "arcs_of_falls" "arcs_of_falls" s_arcs_of_falls f_arcs_of_falls d_arcs_of_falls
  b_arcs_of_falls : Binds K d_arcs_of_falls ["n", "row"] []
  g_arcs_of_falls : mg "arcs_of_falls" = some (.ref f_arcs_of_falls)
  f_numbers_behind : Addr
  d_numbers_behind : FuncData
  F_numbers_behind : Fun K "numbers_behind" "numbers_behind" s_numbers_behind f_numbers_behind d_numbers_behind
  b_numbers_behind : Binds K d_numbers_behind ["arc"] []
  g_numbers_behind : mg "numbers_behind" = some (.ref f_numbers_behind)
  f_single_row : Addr
  d_single_row : FuncData
  F_single_row : Fun K "single_row" "single_row" s_single_row f_single_row d_single_row
  b_single_row : Binds K d_single_row ["n", "arc"] []
  g_single_row : mg "single_row" = some (.ref f_single_row)
  f_side : Addr
  d_side : FuncData
  F_side : Fun K "side" "side" s_side f_side d_side
  b_side : Binds K d_side ["arc", "p"] []
  g_side : mg "side" = some (.ref f_side)
  f_parting_numbers : Addr
  d_parting_numbers : FuncData
  F_parting_numbers : Fun K "parting_numbers" "parting_numbers" s_parting_numbers f_parting_numbers d_parting_numbers
  b_parting_numbers : Binds K d_parting_numbers ["n", "one", "other"] []
  g_parting_numbers : mg "parting_numbers" = some (.ref f_parting_numbers)
  f_judge_crossing : Addr
  d_judge_crossing : FuncData
  F_judge_crossing : Fun K "judge_crossing" "judge_crossing" s_judge_crossing f_judge_crossing d_judge_crossing
  b_judge_crossing : Binds K d_judge_crossing ["n", "one", "other"] []
  g_judge_crossing : mg "judge_crossing" = some (.ref f_judge_crossing)
  f_are_arcs : Addr
  d_are_arcs : FuncData
  F_are_arcs : Fun K "are_arcs" "are_arcs" s_are_arcs f_are_arcs d_are_arcs
  b_are_arcs : Binds K d_are_arcs ["n", "thing"] []
  g_are_arcs : mg "are_arcs" = some (.ref f_are_arcs)
  f_check_arcs : Addr
  d_check_arcs : FuncData
  F_check_arcs : Fun K "check_arcs" "check_arcs" s_check_arcs f_check_arcs d_check_arcs
  b_check_arcs : Binds K d_check_arcs ["n", "arcs"] []
  g_check_arcs : mg "check_arcs" = some (.ref f_check_arcs)
  f_is_lot : Addr
  d_is_lot : FuncData
  F_is_lot : Fun K "is_lot" "is_lot" s_is_lot f_is_lot d_is_lot
  b_is_lot : Binds K d_is_lot ["n", "thing"] []
  g_is_lot : mg "is_lot" = some (.ref f_is_lot)
  f_check_lot : Addr
  d_check_lot : FuncData
  F_check_lot : Fun K "check_lot" "check_lot" s_check_lot f_check_lot d_check_lot
  b_check_lot : Binds K d_check_lot ["n", "lot"] []
  g_check_lot : mg "check_lot" = some (.ref f_check_lot)
  f_share_an_end : Addr
  d_share_an_end : FuncData
  F_share_an_end : Fun K "share_an_end" "share_an_end" s_share_an_end f_share_an_end d_share_an_end
  b_share_an_end : Binds K d_share_an_end ["one", "other"] []
  g_share_an_end : mg "share_an_end" = some (.ref f_share_an_end)
  f_arcs_two_by_two : Addr
  d_arcs_two_by_two : FuncData
  F_arcs_two_by_two : Fun K "arcs_two_by_two" "arcs_two_by_two" s_arcs_two_by_two f_arcs_two_by_two d_arcs_two_by_two
  b_arcs_two_by_two : Binds K d_arcs_two_by_two ["arcs"] []
  g_arcs_two_by_two : mg "arcs_two_by_two" = some (.ref f_arcs_two_by_two)
  f_judge_lot : Addr
  d_judge_lot : FuncData
  F_judge_lot : Fun K "judge_lot" "judge_lot" s_judge_lot f_judge_lot d_judge_lot
  b_judge_lot : Binds K d_judge_lot ["n", "arcs"] []
  g_judge_lot : mg "judge_lot" = some (.ref f_judge_lot)
  f_all_lots : Addr
  d_all_lots : FuncData
  F_all_lots : Fun K "all_lots" "all_lots" s_all_lots f_all_lots d_all_lots
  b_all_lots : Binds K d_all_lots ["n"] []
  g_all_lots : mg "all_lots" = some (.ref f_all_lots)
  f_lot_of_falls : Addr
  d_lot_of_falls : FuncData
  F_lot_of_falls : Fun K "lot_of_falls" "lot_of_falls" s_lot_of_falls f_lot_of_falls d_lot_of_falls
  b_lot_of_falls : Binds K d_lot_of_falls ["n", "row"] []
  g_lot_of_falls : mg "lot_of_falls" = some (.ref f_lot_of_falls)
  f_least_above_all : Addr
  d_least_above_all : FuncData
  F_least_above_all : Fun K "least_above_all" "least_above_all" s_least_above_all f_least_above_all d_least_above_all
  b_least_above_all : Binds K d_least_above_all ["n", "rows"] []
  g_least_above_all : mg "least_above_all" = some (.ref f_least_above_all)
  f_row_of_falls : Addr
  d_row_of_falls : FuncData
  F_row_of_falls : Fun K "row_of_falls" "row_of_falls" s_row_of_falls f_row_of_falls d_row_of_falls
  b_row_of_falls : Binds K d_row_of_falls ["n", "lot"] []
  g_row_of_falls : mg "row_of_falls" = some (.ref f_row_of_falls)
  f_turned_over : Addr
  d_turned_over : FuncData
  F_turned_over : Fun K "turned_over" "turned_over" s_turned_over f_turned_over d_turned_over
  b_turned_over : Binds K d_turned_over ["arc"] []
  g_turned_over : mg "turned_over" = some (.ref f_turned_over)
  f_row_of_rises : Addr
  d_row_of_rises : FuncData
  F_row_of_rises : Fun K "row_of_rises" "row_of_rises" s_row_of_rises f_row_of_rises d_row_of_rises
  b_row_of_rises : Binds K d_row_of_rises ["n", "lot"] []
  g_row_of_rises : mg "row_of_rises" = some (.ref f_row_of_rises)
  f__law_deck : Addr
  d__law_deck : FuncData
  F__law_deck : Fun K "_law_deck" "_law_deck" s__law_deck f__law_deck d__law_deck
  b__law_deck : Binds K d__law_deck ["script"] []
  g__law_deck : mg "_law_deck" = some (.ref f__law_deck)
  f__law_draw : Addr
  d__law_draw : FuncData
  F__law_draw : Fun K "_law_draw" "_law_draw" s__law_draw f__law_draw d__law_draw
  b__law_draw : Binds K d__law_draw ["deck", "many"] []
  g__law_draw : mg "_law_draw" = some (.ref f__law_draw)
  f__law_pick : Addr
  d__law_pick : FuncData
  F__law_pick : Fun K "_law_pick" "_law_pick" s__law_pick f__law_pick d__law_pick
  b__law_pick : Binds K d__law_pick ["deck", "some"] []
  g__law_pick : mg "_law_pick" = some (.ref f__law_pick)
  f__law_side : Addr
  d__law_side : FuncData
  F__law_side : Fun K "_law_side" "_law_side" s__law_side f__law_side d__law_side
  b__law_side : Binds K d__law_side ["arc", "p"] []
  g__law_side : mg "_law_side" = some (.ref f__law_side)
  f__law_parts : Addr
  d__law_parts : FuncData
  F__law_parts : Fun K "_law_parts" "_law_parts" s__law_parts f__law_parts d__law_parts
  b__law_parts : Binds K d__law_parts ["one", "other"] []
  g__law_parts : mg "_law_parts" = some (.ref f__law_parts)
  f__law_do_agree : Addr
  d__law_do_agree : FuncData
  F__law_do_agree : Fun K "_law_do_agree" "_law_do_agree" s__law_do_agree f__law_do_agree d__law_do_agree
  b__law_do_agree : Binds K d__law_do_agree ["one", "other"] []
  g__law_do_agree : mg "_law_do_agree" = some (.ref f__law_do_agree)
  f__law_lots : Addr
  d__law_lots : FuncData
  F__law_lots : Fun K "_law_lots" "_law_lots" s__law_lots f__law_lots d__law_lots
  b__law_lots : Binds K d__law_lots ["n", "arcs"] []
  g__law_lots : mg "_law_lots" = some (.ref f__law_lots)
  f__law_arcs_of : Addr
  d__law_arcs_of : FuncData
  F__law_arcs_of : Fun K "_law_arcs_of" "_law_arcs_of" s__law_arcs_of f__law_arcs_of d__law_arcs_of
  b__law_arcs_of : Binds K d__law_arcs_of ["n"] []
  g__law_arcs_of : mg "_law_arcs_of" = some (.ref f__law_arcs_of)
  f_law : Addr
  d_law : FuncData
  F_law : Fun K "law" "law" s_law f_law d_law
  b_law : Binds K d_law ["script"] []
  g_law : mg "law" = some (.ref f_law)
  k_all_lots__n : KBinds K d_all_lots ["n"] ["n"] (perm 1 [0]) (perm 1 [0])
  m_all : mg "all" = none
  m_bool : mg "bool" = none
  m_enumerate : mg "enumerate" = none
  m_int : mg "int" = none
  m_isinstance : mg "isinstance" = none
  m_len : mg "len" = none
  m_list : mg "list" = none
  m_max : mg "max" = none
  m_min : mg "min" = none
  m_range : mg "range" = none
  m_repr : mg "repr" = none
  m_set : mg "set" = none
  m_sorted : mg "sorted" = none
  m_tuple : mg "tuple" = none
  m_zip : mg "zip" = none
  p_permutations : mg "permutations" = some (.type "itertools.permutations")
section
variable {P : Program} {w : World} {K : PySem.W.Frag} {mg : Str → Option Value} {base : Heap}
/-! one step of the calculus -/
local macro_rules | `(tactic| walk_at "ka1") => `(tactic| first
  | (with_reducible refine dq_set ?_)
  | (with_reducible refine dq_asg ?_)
  | (with_reducible refine dq_par ?_)
  | (with_reducible refine dq_drop ?_)
  | (with_reducible refine ds_set ?_)
  | (with_reducible refine ds_asg ?_)
  | (with_reducible refine ds_par ?_)
  | (with_reducible refine ds_ret ?_)
  | (with_reducible refine ds_drop ?_)
  | (with_reducible refine ds_if ?_)
  | (with_reducible refine ds_next ?_)
  | ((with_reducible refine' de_var ?hv ?kv); (case hv => rfl))
  | (with_reducible refine de_int ?_)
  | (with_reducible refine de_bl ?_)
  | (with_reducible refine de_str ?_)
  | (with_reducible refine de_non ?_)
  | (with_reducible refine de_op ?_)
  | (with_reducible refine de_andV ?_)
  | (with_reducible refine de_orV ?_)
  | (with_reducible refine de_notV ?_)
  | (with_reducible refine de_un ?_)
  | (with_reducible refine de_if ?_)
  | (with_reducible refine de_chain ?_)
  | (with_reducible refine de_chain3 ?_)
  | (with_reducible refine opd_isNo ?_)
  | (with_reducible refine opd_notNo ?_)
  | (with_reducible refine de_cb ?_)
  | (with_reducible refine de_call ?_)
  | (with_reducible refine de_callK (perm_reps _ _) ?_)
  | (with_reducible refine de_tup ?_)
  | (with_reducible refine de_lst ?_)
  | (with_reducible refine de_sl ?_)
  | (with_reducible refine de_raw ?_)
  | (with_reducible refine da_nil ?_)
  | (with_reducible refine da_cons ?_)
  | (with_reducible refine dt_test ?_)
  | (with_reducible refine dt_B ?_)
  | (with_reducible refine dt_and ?_)
  | (with_reducible refine dt_tru ?_)
  | (with_reducible refine dt_or ?_)
  | (with_reducible refine dt_not ?_)
  | (with_reducible refine dt_yes ?_)
  | (with_reducible refine do_none ?_)
  | (with_reducible refine do_some ?_)
  | (with_reducible refine opd_addI ?_)
  | (with_reducible refine opd_I ?_)
  | (with_reducible refine opd_B ?_)
  | (with_reducible refine und_neg ?_)
  | (with_reducible refine sld_L ?_)
  | (with_reducible refine sld_T ?_)
  | (with_reducible refine cal_lenT ?_)
  | (with_reducible refine cal_lenL ?_)
  | (with_reducible refine cal_tupL ?_)
  | (with_reducible refine cal_tupT ?_)
  | (with_reducible refine cal_lstL ?_)
  | (with_reducible refine cal_lstT ?_)
  | (with_reducible refine cal_int ?_)
  | (with_reducible refine cal_max2 ?_)
  | (with_reducible refine cal_min2 ?_)
  | (with_reducible refine de_revL ?_)
  | (with_reducible refine de_revT ?_)
  | (with_reducible refine de_lstRg2 ?_)
  | (with_reducible refine de_tupRg2 ?_)
  | (with_reducible refine de_tupPm ?_)
  | (with_reducible refine opd_isB ?_)
  | (with_reducible refine opd_niB ?_)
  | (with_reducible refine cal_abs ?_)
  | (with_reducible refine di_rng1 ?_)
  | (with_reducible refine di_rng2 ?_)
  | (with_reducible refine ⟨[], rfl, by simp only [List.length_cons, List.length_nil]; decide, ?_⟩)
  | (with_reducible refine ⟨[_], rfl, by simp only [List.length_cons, List.length_nil]; decide, ?_⟩)
  | (with_reducible refine ⟨[_, _], rfl, by simp only [List.length_cons, List.length_nil]; decide, ?_⟩)
  | (with_reducible refine ⟨[_, _, _], rfl, by simp only [List.length_cons, List.length_nil]; decide, ?_⟩)
  | (with_reducible refine ⟨[_, _, _, _], rfl, by simp only [List.length_cons, List.length_nil]; decide, ?_⟩)
  | (with_reducible refine ⟨[_, _, _, _, _], rfl, by simp only [List.length_cons, List.length_nil]; decide, ?_⟩)
  | (with_reducible refine ⟨[_, _, _, _, _, _], rfl, by simp only [List.length_cons, List.length_nil]; decide, ?_⟩)
  | (with_reducible refine ⟨[_, _, _, _, _, _, _], rfl, by simp only [List.length_cons, List.length_nil]; decide, ?_⟩)
  | (with_reducible refine ⟨[_, _, _, _, _, _, _, _], rfl, by simp only [List.length_cons, List.length_nil]; decide, ?_⟩)
  | (with_reducible refine ⟨[_, _, _, _, _, _, _, _, _], rfl, by simp only [List.length_cons, List.length_nil]; decide, ?_⟩)
  | (with_reducible refine ⟨[_, _, _, _, _, _, _, _, _, _], rfl, by simp only [List.length_cons, List.length_nil]; decide, ?_⟩)
  | (with_reducible refine ⟨_, rfl, ?_⟩))
local macro_rules | `(tactic| walk_at "ka") => `(tactic| repeat walk_at "ka1")

/-! data: kinds, intsD, texts that are equal -/
def isInt : PyData → Bool
  | .int _ => true
  | _ => false
def isBool : PyData → Bool
  | .bool _ => true
  | _ => false
def isTup : PyData → Bool
  | .tuple _ => true
  | _ => false
def intOf : PyData → Int
  | .int i => i
  | _ => 0
def intsD (ns : List Int) : List PyData := ns.map PyData.int
theorem isInt_eq : ∀ {d : PyData}, isInt d = true → d = .int (intOf d)
  | .int _, _ => rfl
theorem all_ints : ∀ {ds : List PyData}, ds.all isInt = true → ds = intsD (ds.map intOf)
  | [], _ => rfl
  | d :: ds, h => by
    rw [List.all_cons, Bool.and_eq_true] at h
    show d :: ds = .int (intOf d) :: intsD (ds.map intOf)
    rw [← isInt_eq h.1, ← all_ints h.2]
theorem ints_all (ns : List Int) : (intsD ns).all isInt = true := by
  unfold intsD
  rw [List.all_map]
  exact List.all_eq_true.mpr fun _ _ => rfl
theorem ints_intOf (ns : List Int) : (intsD ns).map intOf = ns := by
  unfold intsD
  rw [List.map_map]
  exact List.map_id _
theorem eqvAll_ints : ∀ (xs ys : List Int), PyData.eqvAll (intsD xs) (intsD ys) = decide (xs = ys)
  | [], [] => by simp [intsD, PyData.eqvAll]
  | [], _ :: _ => by simp [intsD, PyData.eqvAll]
  | _ :: _, [] => by simp [intsD, PyData.eqvAll]
  | x :: xs, y :: ys => by
    have ih := eqvAll_ints xs ys
    show (PyData.eqv (.int x) (.int y) && PyData.eqvAll (intsD xs) (intsD ys)) = _
    rw [ih]
    by_cases h : x = y <;> by_cases h2 : xs = ys <;> simp [PyData.eqv, h, h2]
/-- two ascending lists with the same members are one -/
theorem asc_unique : ∀ {xs ys : List Int}, xs.Pairwise (· < ·) → ys.Pairwise (· < ·) → (∀ k, k ∈ xs ↔ k ∈ ys) → xs = ys
  | [], [], _, _, _ => rfl
  | [], y :: ys, _, _, h => by
    have := (h y).mpr (by simp)
    cases this
  | x :: xs, [], _, _, h => by
    have := (h x).mp (by simp)
    cases this
  | x :: xs, y :: ys, h1, h2, h => by
    rw [List.pairwise_cons] at h1 h2
    have e : x = y := by
      have a1 := (h x).mp (by simp)
      have a2 := (h y).mpr (by simp)
      rcases List.mem_cons.mp a1 with e | m1
      · exact e
      · rcases List.mem_cons.mp a2 with e | m2
        · exact e.symm
        · have := h1.1 y m2
          have := h2.1 x m1
          omega
    subst e
    refine congrArg (x :: ·) (asc_unique h1.2 h2.2 fun k => ⟨fun hk => ?_, fun hk => ?_⟩)
    · rcases List.mem_cons.mp ((h k).mp (List.mem_cons_of_mem _ hk)) with e | m
      · have := h1.1 k hk
        omega
      · exact m
    · rcases List.mem_cons.mp ((h k).mpr (List.mem_cons_of_mem _ hk)) with e | m
      · have := h2.1 k hk
        omega
      · exact m
theorem canLay_ints : ∀ ns : List Int, PyData.canLayAll0 (intsD ns) = true
  | [] => rfl
  | n :: ns => by
    show (PyData.canLay0 (.int n) && PyData.canLayAll0 (intsD ns)) = true
    rw [canLay_ints ns]
    rfl
theorem depth_intsD : ∀ ns : List Int, PyData.depthAll (intsD ns) = 0
  | [] => rfl
  | n :: ns => by
    show max (PyData.depth (.int n)) (PyData.depthAll (intsD ns)) = 0
    rw [depth_intsD ns]
    rfl
theorem shaped_listI (ns : List Int) : SeqAt.shaped (.list (intsD ns)) = true := by
  simp [SeqAt.shaped, PyData.canLay0, canLay_ints, PyData.depth, depth_intsD]
theorem eqv_int {i j : Int} : PyData.eqv (.int i) (.int j) = decide (i = j) := by
  simp only [PyData.eqv]
  by_cases h : i = j <;> simp [h]
theorem any_eqv (S : List Int) (y : Int) : ((intsD S).any fun z => PyData.eqv z (.int y)) = decide (y ∈ S) := by
  unfold intsD
  rw [List.any_map]
  induction S with
  | nil => simp
  | cons p S ih =>
    rw [List.any_cons, ih]
    show (PyData.eqv (.int p) (.int y) || decide (y ∈ S)) = _
    rw [eqv_int]
    by_cases h : p = y <;> by_cases h2 : y ∈ S <;> simp [h, h2, eq_comm]
    exact fun e => h e.symm

/-! is_number -/
def C_is_number : Con := fun _ es P => ∃ d, es = [.dat d] ∧ P (.dat (.bool (isInt d)))
theorem kit_int : ∀ d : PyData, kitB (tyD d) "int" = some (isInt d || isBool d)
  | .none => (by decide +kernel : kitB "NoneType" "int" = some false)
  | .bool _ => (by decide +kernel : kitB "bool" "int" = some true)
  | .int _ => (by decide +kernel : kitB "int" "int" = some true)
  | .str _ => (by decide +kernel : kitB "str" "int" = some false)
  | .list _ => (by decide +kernel : kitB "list" "int" = some false)
  | .tuple _ => (by decide +kernel : kitB "tuple" "int" = some false)
  | .dict _ => (by decide +kernel : kitB "dict" "int" = some false)
theorem kit_bool : ∀ d : PyData, kitB (tyD d) "bool" = some (isBool d)
  | .none => (by decide +kernel : kitB "NoneType" "bool" = some false)
  | .bool _ => (by decide +kernel : kitB "bool" "bool" = some true)
  | .int _ => (by decide +kernel : kitB "int" "bool" = some false)
  | .str _ => (by decide +kernel : kitB "str" "bool" = some false)
  | .list _ => (by decide +kernel : kitB "list" "bool" = some false)
  | .tuple _ => (by decide +kernel : kitB "tuple" "bool" = some false)
  | .dict _ => (by decide +kernel : kitB "dict" "bool" = some false)
theorem kit_tuple : ∀ d : PyData, kitB (tyD d) "tuple" = some (isTup d)
  | .none => (by decide +kernel : kitB "NoneType" "tuple" = some false)
  | .bool _ => (by decide +kernel : kitB "bool" "tuple" = some false)
  | .int _ => (by decide +kernel : kitB "int" "tuple" = some false)
  | .str _ => (by decide +kernel : kitB "str" "tuple" = some false)
  | .list _ => (by decide +kernel : kitB "list" "tuple" = some false)
  | .tuple _ => (by decide +kernel : kitB "tuple" "tuple" = some true)
  | .dict _ => (by decide +kernel : kitB "dict" "tuple" = some false)
theorem ok_is_number (T : Tx K mg) : FnOk P w K mg base CX0 1 T.f_is_number T.d_is_number ["thing"] (SpC K C_is_number) := by
  refine kfn T.F_is_number sc_is_number (fun W es P ⟨d, h, _⟩ => by rw [h]; rfl) fun cdv A outer s H E hr => ⟨_, (pss_one (ps_ret (pe_and (pe_callB (cr_isiK (K := K) rfl) (by rfl) T.m_isinstance (by decide +kernel) (pa_cons (pv 0) (pa_cons (pe_bltn (v := .ty "int") (by rfl) T.m_int (by decide +kernel) rfl) pa_nil))) (pe_one (pe_not (pe_callB (cr_isiK (K := K) rfl) (by rfl) T.m_isinstance (by decide +kernel) (pa_cons (pv 0) (pa_cons (pe_bltn (v := .ty "bool") (by rfl) T.m_bool (by decide +kernel) rfl) pa_nil)))))))), fun W es P hC => ?_⟩
  obtain ⟨d, rfl, q⟩ := hC
  try dsimp only [cx_K, cx_w]
  walk_at "ka"
  refine cal_isi (kit_int d) ?_
  refine ⟨_, rfl, fun e => ?_, fun e => ⟨Wd.Le.refl W, ?_⟩⟩
  · walk_at "ka"
    refine cal_isi (kit_bool d) ⟨_, rfl, Wd.Le.refl W, ?_⟩
    cases d <;> first | exact q | (cases e)
  · cases d <;> first | exact q | (cases e)

def numIn (d : PyData) (lo hi : Int) : Bool := isInt d && (decide (lo ≤ intOf d) && decide (intOf d ≤ hi))
def C_is_number_from : Con := fun _ es P => ∃ d lo hi, es = [.dat d, .dat (.int lo), .dat (.int hi)] ∧ P (.dat (.bool (numIn d lo hi)))
theorem ok_is_number_from (T : Tx K mg) : FnOk P w K mg base CX0 2 T.f_is_number_from T.d_is_number_from ["thing", "low", "high"] (SpC K C_is_number_from) := by
  refine kfn T.F_is_number_from sc_is_number_from (fun W es P ⟨d, _, _, h, _⟩ => by rw [h]; rfl) fun cdv A outer s H E hr => ⟨_, (pss_one (ps_ret (pe_and (pe_call (ok_is_number T) hr (by rfl) T.g_is_number T.F_is_number.kp T.b_is_number .nil pass0 (pa_cons (pv 0) pa_nil)) (pe_one (pe_chain op_le op_le (pv 1) (pv 0) (pv 2)))))), fun W es P hC => ?_⟩
  obtain ⟨d, lo, hi, rfl, q⟩ := hC
  try dsimp only [cx_K, cx_w]
  walk_at "ka"
  refine ⟨d, rfl, _, rfl, fun e => ?_, fun e => ⟨Wd.Le.refl W, ?_⟩⟩
  · obtain ⟨i, rfl⟩ : ∃ i, d = .int i := ⟨_, isInt_eq e⟩
    walk_at "ka"
    refine ⟨fun e2 => ?_, fun e2 => ⟨Wd.Le.refl W, ?_⟩⟩
    · walk_at "ka"
      refine ⟨Wd.Le.refl W, ?_⟩
      have q' : P (.dat (.bool (true && (decide (lo ≤ i) && decide (i ≤ hi))))) := q
      rw [e2] at q'
      exact q'
    · have q' : P (.dat (.bool (true && (decide (lo ≤ i) && decide (i ≤ hi))))) := q
      rw [e2] at q'
      exact q'
  · unfold numIn at q
    rw [e] at q
    exact q

def itemsOf : PyData → List PyData
  | .tuple ds => ds
  | _ => []
theorem isTup_eq : ∀ {d : PyData}, isTup d = true → d = .tuple (itemsOf d)
  | .tuple _, _ => rfl
def areInts (d : PyData) : Bool := isTup d && (itemsOf d).all isInt
def C_are_numbers : Con := fun _ es P => ∃ d, es = [.dat d] ∧ (itemsOf d).length ≤ 50000 ∧ P (.dat (.bool (areInts d)))
theorem ok_are_numbers (T : Tx K mg) : FnOk P w K mg base CX0 2 T.f_are_numbers T.d_are_numbers ["thing"] (SpC K C_are_numbers) := by
  refine kfn T.F_are_numbers sc_are_numbers (fun W es P ⟨d, h, _⟩ => by rw [h]; rfl) fun cdv A outer s H E hr => ⟨_, (pss_one (ps_ret (pe_and (pe_callB (cr_isiK (K := K) rfl) (by rfl) T.m_isinstance (by decide +kernel) (pa_cons (pv 0) (pa_cons (pe_bltn (v := .ty "tuple") (by rfl) T.m_tuple (by decide +kernel) rfl) pa_nil))) (pe_one (pe_callB (cr_allK (K := K) rfl rfl) (by rfl) T.m_all (by decide +kernel) (pa_cons (pe_lc (own := [("part", 1)]) rfl sc_are_numbers.nd (pi_seqK (K := K) rfl (pv 0)) (blkOk_by (N := N_are_numbers) (sc := defScope s_are_numbers) (by decide +kernel)) (fun _ _ _ _ _ => (pg_name (i := 1) sc_are_numbers.nd rfl (by first | exact Or.inl rfl | exact Or.inr rfl))) (fun _ _ _ _ _ => pts_nil) (fun _ _ _ _ _ => (pe_call (ok_is_number T) hr (by rfl) T.g_is_number T.F_is_number.kp T.b_is_number .nil pass0 (pa_cons (pv 1) pa_nil)))) pa_nil)))))), fun W es P hC => ?_⟩
  obtain ⟨d, rfl, hz, q⟩ := hC
  try dsimp only [cx_K, cx_w]
  walk_at "ka"
  refine cal_isi (kit_tuple d) ⟨_, rfl, fun e => ?_, fun e => ⟨Wd.Le.refl W, ?_⟩⟩
  · obtain ⟨ds, rfl⟩ : ∃ ds, d = .tuple ds := ⟨_, isTup_eq e⟩
    walk_at "ka"
    refine de_lcM ds DV.dat (fun _ => true) (fun d => .bool (isInt d)) (di_seqT ?_) hz ?_ ?_
    · walk_at "ka"
      rfl
    · intro d hd W' hW
      refine ⟨_, _, tg_name, by simp, ?_⟩
      walk_at "ka"
      refine ⟨rfl, fun _ => ?_⟩
      walk_at "ka"
      exact ⟨d, rfl, rfl⟩
    · walk_at "ka"
      rw [List.filter_eq_self.mpr (fun _ _ => rfl)]
      have e2 : ds.map (fun d => PyData.bool (isInt d)) = (ds.map isInt).map PyData.bool := by rw [List.map_map]; rfl
      rw [e2]
      refine cal_all ⟨Wd.Le.refl W, ?_⟩
      rw [List.all_map]
      exact q
  · unfold areInts at q
    rw [e] at q
    exact q

def ascNums (d : PyData) : Bool := areInts d && decide (((itemsOf d).map intOf).Pairwise (· < ·))
def C_are_ascending_numbers : Con := fun _ es P => ∃ d, es = [.dat d] ∧ (itemsOf d).length < 64 ∧ P (.dat (.bool (ascNums d)))
theorem ok_are_ascending_numbers (T : Tx K mg) : FnOk P w K mg base CX0 3 T.f_are_ascending_numbers T.d_are_ascending_numbers ["thing"] (SpC K C_are_ascending_numbers) := by
  refine kfn T.F_are_ascending_numbers sc_are_ascending_numbers (fun W es P ⟨d, h, _⟩ => by rw [h]; rfl) fun cdv A outer s H E hr => ⟨_, (pss_one (ps_ret (pe_and (pe_call (ok_are_numbers T) hr (by rfl) T.g_are_numbers T.F_are_numbers.kp T.b_are_numbers .nil pass0 (pa_cons (pv 0) pa_nil)) (pe_one (pe_cmpR (op_eqK (K := K) rfl hr.units) (pe_callTy (cr_lstK (K := K) rfl) (by rfl) T.m_list (by decide +kernel) (pa_cons (pv 0) pa_nil)) (pe_callB (cr_sortedZ (K := K) (w := w) rfl rfl rfl hr.units) (by rfl) T.m_sorted (by decide +kernel) (pa_cons (pe_callTy (cr_setX (K := K) (w := w) rfl rfl rfl hr.units) (by rfl) T.m_set (by decide +kernel) (pa_cons (pv 0) pa_nil)) pa_nil)) (nomark _)))))), fun W es P hC => ?_⟩
  obtain ⟨d, rfl, hz, q⟩ := hC
  try dsimp only [cx_K, cx_w]
  walk_at "ka"
  refine ⟨d, rfl, by omega, _, rfl, fun e => ?_, fun e => ⟨Wd.Le.refl W, ?_⟩⟩
  · obtain ⟨ns, rfl⟩ : ∃ ns, d = .tuple (intsD ns) := by
      unfold areInts at e
      rw [Bool.and_eq_true] at e
      exact ⟨(itemsOf d).map intOf, by rw [← all_ints e.2]; exact isTup_eq e.1⟩
    have hl : ns.length < 64 := by
      have : (itemsOf (.tuple (intsD ns))).length = ns.length := List.length_map ..
      omega
    walk_at "ka"
    refine cal_setXI (by omega) fun c hc => ?_
    walk_at "ka"
    refine cal_sortedZS (by omega) fun ss h1 h2 _ => ?_
    refine opd_eq (shaped_listI _) (shaped_listI _) ⟨Wd.Le.refl W, ?_⟩
    have h3 : ∀ k, k ∈ ss ↔ k ∈ ns := fun k => by rw [h2 k]; exact decide_eq_true_iff
    have e1 : PyData.eqv (.list (intsD ns)) (.list (intsD ss)) = decide (ns.Pairwise (· < ·)) := by
      show PyData.eqvAll (intsD ns) (intsD ss) = _
      rw [eqvAll_ints]
      refine decide_eq_decide.mpr ⟨fun z => by rw [z]; exact h1, fun z => asc_unique z h1 fun k => (h3 k).symm⟩
    have q' : P (.dat (.bool (areInts (.tuple (intsD ns)) && decide (((intsD ns).map intOf).Pairwise (· < ·))))) := q
    rw [e, ints_intOf] at q'
    show P (.dat (.bool (PyData.eqv (.list (intsD ns)) (.list (intsD ss)))))
    rw [e1]
    exact q'
  · unfold ascNums at q
    rw [e] at q
    exact q

/-! counting up -/
theorem rgN_mem {lo x : Int} {n : Nat} : x ∈ rgN lo n ↔ lo ≤ x ∧ x < lo + n := by
  unfold rgN
  rw [List.mem_map]
  constructor
  · rintro ⟨i, hi, rfl⟩
    rw [List.mem_range] at hi
    omega
  · rintro ⟨h1, h2⟩
    exact ⟨(x - lo).toNat, List.mem_range.mpr (by omega), by omega⟩
theorem rgN_succ {lo : Int} {i : Nat} : rgN lo (i + 1) = rgN lo i ++ [lo + (i : Int)] := by
  unfold rgN
  rw [List.range_succ, List.map_append]
  rfl
theorem rgN_at {lo : Int} {n i : Nat} {e : DV} (h : ((rgN lo n).map fun i => DV.dat (.int i))[i]? = some e) : i < n ∧ e = .dat (.int (lo + i)) := by
  rw [List.getElem?_map] at h
  by_cases hi : i < n
  · rw [rgN_get hi] at h
    cases h
    exact ⟨hi, rfl⟩
  · rw [List.getElem?_eq_none (by rw [rgN_length]; omega)] at h
    cases h
theorem rgN_asc {lo : Int} : ∀ {n : Nat}, (rgN lo n).Pairwise (· < ·)
  | 0 => .nil
  | n + 1 => by
    rw [rgN_succ, List.pairwise_append]
    refine ⟨rgN_asc, List.pairwise_singleton .., fun p hp x hx => ?_⟩
    rw [List.mem_singleton] at hx
    rw [rgN_mem] at hp
    omega
/-! what sorted gives -/
theorem le_total : PySem.W.TotalLe (PySem.W.dataLe (β := PyData) false id) := by
  unfold PySem.W.dataLe
  exact PySem.W.sortLe_total _ _ _
theorem le_trans3 : ∀ a b c : PyData, PySem.W.dataLe false id a b = true → PySem.W.dataLe false id b c = true → PySem.W.dataLe false id a c = true := le_total.trans
theorem le_either (a b : PyData) : (PySem.W.dataLe false id a b || PySem.W.dataLe false id b a) = true := by
  rw [Bool.or_eq_true]
  exact le_total.total a b
theorem le_both {a b : PyData} (h1 : PySem.W.dataLe false id a b = true) (h2 : PySem.W.dataLe false id b a = true) : PySem.W.keyToks a = PySem.W.keyToks b := by
  rw [PySem.W.dataLe_eq] at h1 h2
  simp only [cond_false, Bool.not_eq_true', id] at h1 h2
  exact PyProof.Rows.lex_total _ _ h2 h1
theorem sort_same {l1 l2 : List PyData} (hp : l1.Perm l2) (inj : ∀ a ∈ l1, ∀ b ∈ l1, PySem.W.keyToks a = PySem.W.keyToks b → a = b) : l1.mergeSort (PySem.W.dataLe false id) = l2.mergeSort (PySem.W.dataLe false id) := by
  have p1 := List.mergeSort_perm l1 (PySem.W.dataLe false id)
  have p2 := List.mergeSort_perm l2 (PySem.W.dataLe false id)
  refine List.Perm.eq_of_pairwise (le := fun a b => PySem.W.dataLe false id a b = true) (fun a b ha hb h1 h2 => ?_) (List.pairwise_mergeSort le_trans3 le_either l1) (List.pairwise_mergeSort le_trans3 le_either l2) ((p1.trans hp).trans p2.symm)
  exact inj a (p1.mem_iff.mp ha) b (hp.mem_iff.mpr (p2.mem_iff.mp hb)) (le_both h1 h2)
theorem sort_is {l1 l2 : List PyData} (hp : l1.Perm l2) (inj : ∀ a ∈ l1, ∀ b ∈ l1, PySem.W.keyToks a = PySem.W.keyToks b → a = b) (hs : l2.Pairwise fun a b => PySem.W.dataLe false id a b = true) : l1.mergeSort (PySem.W.dataLe false id) = l2 := by
  rw [sort_same hp inj]
  exact List.mergeSort_of_pairwise hs
theorem toks_int {i j : Int} (h : PySem.W.keyToks (.int i) = PySem.W.keyToks (.int j)) : i = j := by
  simp only [PySem.W.keyToks] at h
  injection h with h
  injection h
theorem toks_ints : ∀ {S R : List Int} {l m : List (Int ⊕ List Nat)}, PySem.W.keyToksAll (intsD S) ++ l = PySem.W.keyToksAll (intsD R) ++ m → S = R ∧ l = m
  | [], [], l, m, h => by
    simp only [intsD, List.map_nil, PySem.W.keyToksAll, List.cons_append, List.nil_append, List.cons.injEq, true_and] at h
    exact ⟨rfl, h⟩
  | [], y :: R, l, m, h => by
    simp [intsD, PySem.W.keyToksAll] at h
  | x :: S, [], l, m, h => by
    simp [intsD, PySem.W.keyToksAll] at h
  | x :: S, y :: R, l, m, h => by
    have e : ∀ (z : Int) (T : List Int), PySem.W.keyToksAll (intsD (z :: T)) = .inl 1 :: .inl z :: PySem.W.keyToksAll (intsD T) := fun z T => by
      simp [intsD, PySem.W.keyToksAll, PySem.W.keyToks]
    rw [e, e, List.cons_append, List.cons_append, List.cons_append, List.cons_append] at h
    simp only [List.cons.injEq, true_and, Sum.inl.injEq] at h
    obtain ⟨h1, h2⟩ := toks_ints h.2
    exact ⟨by rw [h.1, h1], h2⟩
theorem toks_tupI {S R : List Int} (h : PySem.W.keyToks (.tuple (intsD S)) = PySem.W.keyToks (.tuple (intsD R))) : S = R := by
  simp only [PySem.W.keyToks] at h
  exact (toks_ints (l := []) (m := []) (by rw [h])).1
theorem int_le {i j : Int} (h : i ≤ j) : PySem.W.dataLe false id (.int i) (.int j) = true := by
  have := congrFun (congrFun (PySem.W.dataLe_int (β := Int) id) i) j
  show PySem.W.dataLe false (fun b : Int => .int (id b)) i j = true
  rw [this]
  exact decide_eq_true h
theorem sort_ints {S R : List Int} (hp : S.Perm R) (h : R.Pairwise (· < ·)) : (intsD S).mergeSort (PySem.W.dataLe false id) = intsD R := by
  refine sort_is (hp.map _) (fun a ha b hb e => ?_) (List.pairwise_map.mpr (h.imp fun z => int_le (Int.le_of_lt z)))
  obtain ⟨i, _, rfl⟩ := List.mem_map.mp ha
  obtain ⟨j, _, rfl⟩ := List.mem_map.mp hb
  rw [toks_int e]
theorem ints_alike (ns : List Int) : PySem.W.AllAlike (intsD ns) := fun d hd e he => by
  obtain ⟨i, _, rfl⟩ := List.mem_map.mp hd
  obtain ⟨j, _, rfl⟩ := List.mem_map.mp he
  rfl
theorem ints_sortable (ns : List Int) : PySem.W.Sortable (intsD ns) := .inr fun d hd => by
  obtain ⟨i, _, rfl⟩ := List.mem_map.mp hd
  exact ⟨nofun, nofun⟩
theorem ints_dep (ns : List Int) : ∀ d ∈ intsD ns, d.depth ≤ 60 := fun d hd => by
  obtain ⟨i, _, rfl⟩ := List.mem_map.mp hd
  exact Nat.zero_le _

/-! rows -/
structure RowOk (n : Int) (r : List Int) : Prop where
  perm : r.Perm (rgN 1 n.toNat)
  lo : 0 ≤ n
  hi : n ≤ 60
theorem RowOk.len {n : Int} {r : List Int} (h : RowOk n r) : (r.length : Int) = n := by
  rw [h.perm.length_eq, rgN_length]
  exact Int.toNat_of_nonneg h.lo
theorem RowOk.mem {n x : Int} {r : List Int} (h : RowOk n r) : x ∈ r ↔ 1 ≤ x ∧ x ≤ n := by
  rw [h.perm.mem_iff, rgN_mem]
  have := h.lo
  omega
theorem RowOk.nodup {n : Int} {r : List Int} (h : RowOk n r) : r.Nodup := h.perm.nodup_iff.mpr (List.Pairwise.imp (fun z => Int.ne_of_lt z) rgN_asc)

def C_is_row : Con := fun _ es P => ∃ n r, es = [.dat (.int n), .dat (.tuple (intsD r))] ∧ RowOk n r ∧ P (.dat (.bool true))
theorem ok_is_row (T : Tx K mg) : FnOk P w K mg base CX0 3 T.f_is_row T.d_is_row ["n", "thing"] (SpC K C_is_row) := by
  refine kfn T.F_is_row sc_is_row (fun W es P ⟨_, _, h, _⟩ => by rw [h]; rfl) fun cdv A outer s H E hr => ⟨_, (pss_one (ps_ret (pe_and (pe_call (ok_are_numbers T) hr (by rfl) T.g_are_numbers T.F_are_numbers.kp T.b_are_numbers .nil pass0 (pa_cons (pv 1) pa_nil)) (pe_one (pe_cmpR (op_eqK (K := K) rfl hr.units) (pe_callB (cr_sortedZ (K := K) (w := w) rfl rfl rfl hr.units) (by rfl) T.m_sorted (by decide +kernel) (pa_cons (pv 1) pa_nil)) (pe_listRg rfl (by rfl) T.m_list (prg_2 (by rfl) T.m_range pe_int (pe_op (op_addK (K := K) rfl) (pv 0) pe_int))) (nomark _)))))), fun W es P hC => ?_⟩
  obtain ⟨n, r, rfl, ho, q⟩ := hC
  have h1 := ho.lo
  have h2 := ho.hi
  have h3 := ho.len
  try dsimp only [cx_K, cx_w]
  walk_at "ka"
  refine ⟨_, rfl, by show (intsD r).length ≤ 50000; rw [show (intsD r).length = r.length from List.length_map ..]; omega, ?_⟩
  refine ⟨_, rfl, fun _ => ?_, fun e => ?_⟩
  · walk_at "ka"
    refine cal_sortedZT (ints_alike r) (ints_sortable r) (ints_dep r) ?_
    walk_at "ka"
    refine ⟨.of_le (by omega) (by omega) (by omega) (by omega), ?_⟩
    rw [sort_ints ho.perm rgN_asc, show n + 1 - 1 = n by omega]
    refine opd_eq (shaped_listI _) (shaped_listI _) ⟨Wd.Le.refl W, ?_⟩
    have e : PyData.eqv (.list (intsD (rgN 1 n.toNat))) (.list (intsD (rgN 1 n.toNat))) = true := by
      show PyData.eqvAll _ _ = true
      rw [eqvAll_ints]
      exact decide_eq_true rfl
    show P (.dat (.bool (PyData.eqv (.list (intsD (rgN 1 n.toNat))) (.list (intsD (rgN 1 n.toNat))))))
    rw [e]
    exact q
  · have : areInts (.tuple (intsD r)) = true := by
      show (isTup (.tuple (intsD r)) && (intsD r).all isInt) = true
      rw [ints_all]
      rfl
    rw [this] at e
    cases e

def C_check_row : Con := fun _ es P => ∃ n r, es = [.dat (.int n), .dat (.tuple (intsD r))] ∧ RowOk n r ∧ P (.dat .none)
theorem ok_check_row (T : Tx K mg) : FnOk P w K mg base CX0 4 T.f_check_row T.d_check_row ["n", "row"] (SpC K C_check_row) := by
  refine kfn T.F_check_row sc_check_row (fun W es P ⟨_, _, h, _⟩ => by rw [h]; rfl) fun cdv A outer s H E hr => ⟨_, (pss_one (ps_if (pt_not (pt_val (pe_call (ok_is_row T) hr (by rfl) T.g_is_row T.F_is_row.kp T.b_is_row .nil pass0 (pa_cons (pv 0) (pa_cons (pv 1) pa_nil))))) (pss_one ps_never) pss_nil)), fun W es P hC => ?_⟩
  obtain ⟨n, r, rfl, ho, q⟩ := hC
  try dsimp only [cx_K, cx_w]
  walk_at "ka"
  refine ⟨n, r, rfl, ho, ?_⟩
  refine ⟨_, rfl, fun e => ?_, fun _ => ds_next ⟨Wd.Le.refl W, q⟩⟩
  cases e

def C_check_place : Con := fun _ es P => ∃ n i : Int, es = [.dat (.int n), .dat (.int i)] ∧ 0 ≤ i ∧ i ≤ n - 2 ∧ P (.dat .none)
theorem ok_check_place (T : Tx K mg) : FnOk P w K mg base CX0 3 T.f_check_place T.d_check_place ["n", "i"] (SpC K C_check_place) := by
  refine kfn T.F_check_place sc_check_place (fun W es P ⟨_, _, h, _⟩ => by rw [h]; rfl) fun cdv A outer s H E hr => ⟨_, (pss_one (ps_if (pt_not (pt_val (pe_call (ok_is_number_from T) hr (by rfl) T.g_is_number_from T.F_is_number_from.kp T.b_is_number_from .nil pass0 (pa_cons (pv 1) (pa_cons pe_int (pa_cons (pe_op op_sub (pv 0) pe_int) pa_nil)))))) (pss_one ps_never) pss_nil)), fun W es P hC => ?_⟩
  obtain ⟨n, i, rfl, h1, h2, q⟩ := hC
  try dsimp only [cx_K, cx_w]
  walk_at "ka"
  refine ⟨_, _, _, rfl, _, rfl, fun e => ?_, fun _ => ds_next ⟨Wd.Le.refl W, q⟩⟩
  have : numIn (.int i) 0 (n - 2) = true := by
    unfold numIn
    rw [show intOf (.int i) = i from rfl, decide_eq_true h1, decide_eq_true h2]
    rfl
  rw [this] at e
  cases e

theorem cut_from {α : Type} {l : List α} {i : Int} (h : 0 ≤ i) : cutG l (some i) none = l.drop i.toNat := by
  unfold cutG
  have e1 : HT.sIx l.length 0 (some i) = min i.toNat l.length := by
    show (if i < 0 then (i + (l.length : Int)).toNat else min i.toNat l.length) = _
    rw [if_neg (by omega)]
  have e2 : HT.sIx l.length l.length none = l.length := rfl
  rw [e1, e2]
  by_cases c : i.toNat ≤ l.length
  · rw [Nat.min_eq_left c, List.take_of_length_le (by rw [List.length_drop]; exact Nat.le_refl _)]
  · rw [Nat.min_eq_right (by omega), List.drop_of_length_le (Nat.le_refl _), List.drop_of_length_le (by omega)]
    simp
theorem cut_to {α : Type} {l : List α} {i : Int} (h : 0 ≤ i) : cutG l none (some i) = l.take i.toNat := by
  unfold cutG
  have e1 : HT.sIx l.length l.length (some i) = min i.toNat l.length := by
    show (if i < 0 then (i + (l.length : Int)).toNat else min i.toNat l.length) = _
    rw [if_neg (by omega)]
  have e2 : HT.sIx l.length 0 none = 0 := rfl
  rw [e1, e2, List.drop_zero, Nat.sub_zero]
  by_cases c : i.toNat ≤ l.length
  · rw [Nat.min_eq_left c]
  · rw [Nat.min_eq_right (by omega), List.take_of_length_le (Nat.le_refl _), List.take_of_length_le (by omega)]
theorem intsD_drop (l : List Int) (k : Nat) : (intsD l).drop k = intsD (l.drop k) := (List.map_drop ..).symm
theorem intsD_take (l : List Int) (k : Nat) : (intsD l).take k = intsD (l.take k) := (List.map_take ..).symm
theorem intsD_get {l : List Int} {k : Nat} {x : Int} (h : l[k]? = some x) : (intsD l)[k]? = some (.int x) := by
  unfold intsD
  rw [List.getElem?_map, h]
  rfl
theorem intsD_len (l : List Int) : (intsD l).length = l.length := List.length_map ..
theorem intsD_append (l m : List Int) : intsD l ++ intsD m = intsD (l ++ m) := (List.map_append ..).symm
theorem intsD_rev (l : List Int) : (intsD l).reverse = intsD l.reverse := (List.map_reverse ..).symm

def pairD (a b : Int) : PyData := .tuple [.int a, .int b]
/-- the turned pairs, in the order in which they are found -/
def turnedL (r : List Int) : List PyData := r.zipIdx.flatMap fun p => ((r.drop (p.2 + 1)).filter fun low => decide (low < p.1)).map fun low => pairD low p.1
def turnedD (r : List Int) : List PyData := (turnedL r).mergeSort (PySem.W.dataLe false id)
theorem enum_ints (r : List Int) : enumD (intsD r) = r.zipIdx.map fun p => DV.dat (.tuple [.int p.2, .int p.1]) := by
  unfold enumD intsD
  rw [List.zipIdx_map, List.map_map]
  rfl
theorem turnedL_mem {r : List Int} {x : PyData} (h : x ∈ turnedL r) : ∃ a b, x = pairD a b ∧ a < b ∧ a ∈ r ∧ b ∈ r := by
  unfold turnedL at h
  obtain ⟨p, hp, h⟩ := List.mem_flatMap.mp h
  obtain ⟨low, hl, rfl⟩ := List.mem_map.mp h
  obtain ⟨h1, h2⟩ := List.mem_filter.mp hl
  refine ⟨low, p.1, rfl, of_decide_eq_true h2, List.mem_of_mem_drop h1, ?_⟩
  have := List.mem_zipIdx hp
  rw [this.2.2]
  exact List.getElem_mem ..
theorem pair_alike {a b c d : Int} : PySem.W.alike (pairD a b) (pairD c d) = true := by
  show PySem.W.alike (.tuple [.int a, .int b]) (.tuple [.int c, .int d]) = true
  simp only [PySem.W.alike, PySem.W.alikeAll, Bool.and_true]
theorem turned_alike (r : List Int) : PySem.W.AllAlike (turnedL r) := fun x hx y hy => by
  obtain ⟨_, _, rfl, _⟩ := turnedL_mem hx
  obtain ⟨_, _, rfl, _⟩ := turnedL_mem hy
  exact pair_alike
theorem turned_sortable (r : List Int) : PySem.W.Sortable (turnedL r) := .inl fun x hx => by
  obtain ⟨a, b, rfl, _⟩ := turnedL_mem hx
  exact ⟨_, _, rfl⟩
theorem turned_dep (r : List Int) : ∀ x ∈ turnedL r, x.depth ≤ 60 := fun x hx => by
  obtain ⟨a, b, rfl, _⟩ := turnedL_mem hx
  show (PyData.tuple [.int a, .int b]).depth ≤ 60
  simp [PyData.depth, PyData.depthAll]
def C_turned_pairs : Con := fun _ es P => ∃ n r, es = [.dat (.int n), .dat (.tuple (intsD r))] ∧ RowOk n r ∧ P (.dat (.tuple (turnedD r)))
theorem ok_turned_pairs (T : Tx K mg) : FnOk P w K mg base CX0 5 T.f_turned_pairs T.d_turned_pairs ["n", "row"] (SpC K C_turned_pairs) := by
  refine kfn T.F_turned_pairs sc_turned_pairs (fun W es P ⟨_, _, h, _⟩ => by rw [h]; rfl) fun cdv A outer s H E hr => ⟨_, (pss_cons (ps_expr (pe_call (ok_check_row T) hr (by rfl) T.g_check_row T.F_check_row.kp T.b_check_row .nil pass0 (pa_cons (pv 0) (pa_cons (pv 1) pa_nil))))
      (pss_cons (ps_setLc2 (i := 2) (own := [("i", 3), ("high", 4), ("low", 5)]) (vs1 := [5]) rfl sc_turned_pairs.nd rfl rfl (sw_true rfl rfl rfl (by decide +kernel)) (pi_enTK (K := K) rfl (by rfl) T.m_enumerate (pa_cons (pv 1) pa_nil)) (blkOk_by (N := N_turned_pairs) (sc := defScope s_turned_pairs) (by decide +kernel)) (by decide) (fun _ _ _ _ _ => (pg_tupK (K := K) rfl (pg_tup (n := 2) rfl (pgs_cons (pg_name (i := 3) sc_turned_pairs.nd rfl (by first | exact Or.inl rfl | exact Or.inr rfl)) (pgs_cons (pg_name (i := 4) sc_turned_pairs.nd rfl (by first | exact Or.inl rfl | exact Or.inr rfl)) pgs_nil))))) (fun _ _ _ _ _ => pts_nil) (fun _ _ _ _ _ => (pi_seqK (K := K) rfl (pe_slice (sl_K (K := K) rfl) (pv 1) (po_some (pe_op (op_addK (K := K) rfl) (pv 3) pe_int)) po_none))) (fun _ _ _ _ _ => (pg_name (i := 5) sc_turned_pairs.nd rfl (by first | exact Or.inl rfl | exact Or.inr rfl))) (fun _ _ _ _ _ => (pts_one (pt_cmpR op_lt (pv 5) (pv 4) (nomark _)))) (fun _ _ _ _ _ => (pe_tup (pa_cons (pv 5) (pa_cons (pv 4) pa_nil)))))
      (pss_one (ps_ret (pe_callTy (cr_tupK (K := K) rfl) (by rfl) T.m_tuple (by decide +kernel) (pa_cons (pe_callB (cr_sortedZ (K := K) (w := w) rfl rfl rfl hr.units) (by rfl) T.m_sorted (by decide +kernel) (pa_cons (pv 2) pa_nil)) pa_nil)))))), fun W es P hC => ?_⟩
  obtain ⟨n, r, rfl, ho, q⟩ := hC
  have h1 := ho.lo
  have h2 := ho.hi
  have h3 := ho.len
  try dsimp only [cx_K, cx_w]
  walk_at "ka"
  refine ⟨n, r, rfl, ho, ?_⟩
  walk_at "ka"
  refine de_lc2M r.zipIdx (fun p => DV.dat (.tuple [.int p.2, .int p.1])) (fun _ => true) (fun p => r.drop (p.2 + 1)) (fun _ d => DV.dat (.int d)) (fun p low => decide (low < p.1)) (fun p low => pairD low p.1) 60 ?_ ?_ ?_ ?_ ?_
  · refine di_enT ?_
    walk_at "ka"
    exact enum_ints r
  · rw [List.length_zipIdx]
    omega
  · intro p hp
    rw [List.length_drop]
    omega
  · intro p hp W' hW
    refine ⟨_, _, tg_tup2, by simp, ?_⟩
    walk_at "ka"
    refine ⟨rfl, fun _ => ⟨?_, fun low hl W'' hW2 => ?_⟩⟩
    · refine di_seqT ?_
      walk_at "ka"
      show (cutG (intsD r) (some ((p.2 : Int) + 1)) none).map DV.dat = _
      rw [cut_from (by omega), show ((p.2 : Int) + 1).toNat = p.2 + 1 by omega, intsD_drop]
      exact List.map_map ..
    · refine ⟨_, _, tg_name, by simp, ?_⟩
      walk_at "ka"
      refine ⟨rfl, fun e => ?_⟩
      walk_at "ka"
      rfl
  · walk_at "ka"
    rw [List.filter_eq_self.mpr (fun _ _ => rfl)]
    refine cal_sortedZL (turned_alike r) (turned_sortable r) (turned_dep r) ?_
    walk_at "ka"
    exact ⟨Wd.Le.refl W, q⟩

def C_mirror : Con := fun _ es P => ∃ n r, es = [.dat (.int n), .dat (.tuple (intsD r))] ∧ RowOk n r ∧ P (.dat (.tuple (intsD r.reverse)))
theorem ok_mirror (T : Tx K mg) : FnOk P w K mg base CX0 5 T.f_mirror T.d_mirror ["n", "row"] (SpC K C_mirror) := by
  refine kfn T.F_mirror sc_mirror (fun W es P ⟨_, _, h, _⟩ => by rw [h]; rfl) fun cdv A outer s H E hr => ⟨_, (pss_cons (ps_expr (pe_call (ok_check_row T) hr (by rfl) T.g_check_row T.F_check_row.kp T.b_check_row .nil pass0 (pa_cons (pv 0) (pa_cons (pv 1) pa_nil))))
      (pss_one (ps_ret (pe_revTK (K := K) rfl (pv 1))))), fun W es P hC => ?_⟩
  obtain ⟨n, r, rfl, ho, q⟩ := hC
  try dsimp only [cx_K, cx_w]
  walk_at "ka"
  refine ⟨n, r, rfl, ho, ?_⟩
  walk_at "ka"
  rw [intsD_rev]
  exact ⟨Wd.Le.refl W, q⟩

/-! which number stands before which -/
def bef (l : List Int) (u v : Int) : Prop := ∃ x y : Nat, x < y ∧ l[x]? = some u ∧ l[y]? = some v
theorem bef_sub {u v : Int} : ∀ {l : List Int}, [u, v].Sublist l ↔ bef l u v
  | [] => by
    constructor
    · intro h
      cases h
    · rintro ⟨x, y, _, h, _⟩
      simp at h
  | a :: l => by
    constructor
    · intro h
      rcases List.sublist_cons_iff.mp h with h | ⟨r, e, h⟩
      · obtain ⟨x, y, h1, h2, h3⟩ := bef_sub.mp h
        exact ⟨x + 1, y + 1, by omega, by simpa using h2, by simpa using h3⟩
      · cases e
        obtain ⟨y, hy⟩ := List.getElem?_of_mem (List.singleton_sublist.mp h)
        exact ⟨0, y + 1, by omega, rfl, by simpa using hy⟩
    · rintro ⟨x, y, h1, h2, h3⟩
      obtain ⟨y, rfl⟩ : ∃ y', y = y' + 1 := ⟨y - 1, by omega⟩
      cases x with
      | zero =>
        simp only [List.getElem?_cons_zero, Option.some.injEq] at h2
        rw [h2]
        exact (List.singleton_sublist.mpr (List.mem_of_getElem? (by simpa using h3))).cons_cons _
      | succ x => exact (bef_sub.mpr ⟨x, y, by omega, by simpa using h2, by simpa using h3⟩).cons _
theorem get_uniq {l : List Int} (h : l.Nodup) {x y : Nat} {u : Int} (h1 : l[x]? = some u) (h2 : l[y]? = some u) : x = y := by
  obtain ⟨a1, a2⟩ := List.getElem?_eq_some_iff.mp h1
  obtain ⟨b1, b2⟩ := List.getElem?_eq_some_iff.mp h2
  rcases Nat.lt_trichotomy x y with c | c | c
  · exact absurd (a2.trans b2.symm) (List.pairwise_iff_getElem.mp h x y a1 b1 c)
  · exact c
  · exact absurd (b2.trans a2.symm) (List.pairwise_iff_getElem.mp h y x b1 a1 c)
theorem bef_trans {l : List Int} (h : l.Nodup) {u v t : Int} (h1 : bef l u v) (h2 : bef l v t) : bef l u t := by
  obtain ⟨x, y, a1, a2, a3⟩ := h1
  obtain ⟨y', z, b1, b2, b3⟩ := h2
  have := get_uniq h a3 b2
  exact ⟨x, z, by omega, a2, b3⟩
theorem bef_anti {l : List Int} (h : l.Nodup) {u v : Int} (h1 : bef l u v) (h2 : bef l v u) : False := by
  obtain ⟨x, y, a1, a2, a3⟩ := h1
  obtain ⟨y', x', b1, b2, b3⟩ := h2
  have := get_uniq h a3 b2
  have := get_uniq h a2 b3
  omega
theorem bef_tri {l : List Int} {u v : Int} (h1 : u ∈ l) (h2 : v ∈ l) (hne : u ≠ v) : bef l u v ∨ bef l v u := by
  obtain ⟨x, hx⟩ := List.getElem?_of_mem h1
  obtain ⟨y, hy⟩ := List.getElem?_of_mem h2
  rcases Nat.lt_trichotomy x y with c | c | c
  · exact .inl ⟨x, y, c, hx, hy⟩
  · rw [c, hy] at hx
    exact absurd (Option.some.inj hx).symm hne
  · exact .inr ⟨y, x, c, hy, hx⟩
/-- the row is told by which pairs are turned -/
theorem rows_by_turned {n : Int} {r s : List Int} (hr : RowOk n r) (hs : RowOk n s) (h : ∀ p q, p < q → (bef r q p ↔ bef s q p)) : r = s := by
  have all : ∀ u v, bef s u v → bef r u v := fun u v b => by
    have mu : u ∈ s := by obtain ⟨x, y, _, e, _⟩ := b; exact List.mem_of_getElem? e
    have mv : v ∈ s := by obtain ⟨x, y, _, _, e⟩ := b; exact List.mem_of_getElem? e
    rcases Int.lt_trichotomy u v with c | c | c
    · rcases bef_tri (l := r) (hr.mem.mpr (hs.mem.mp mu)) (hr.mem.mpr (hs.mem.mp mv)) (by omega) with z | z
      · exact z
      · exact (bef_anti hs.nodup b ((h u v c).mp z)).elim
    · rw [c] at b
      exact (bef_anti hs.nodup b b).elim
    · exact (h v u c).mpr b
  have pw : ∀ l : List Int, l.Pairwise (bef l) := fun l => List.pairwise_iff_getElem.mpr fun i j hi hj c => ⟨i, j, c, List.getElem?_eq_getElem hi, List.getElem?_eq_getElem hj⟩
  exact List.Perm.eq_of_pairwise (le := bef r) (fun a b _ _ h1 h2 => (bef_anti hr.nodup h1 h2).elim) (pw r) ((pw s).imp fun z => all _ _ z) (hr.perm.trans hs.perm.symm)

/-! the least row above two rows -/
def tur (r : List Int) (p q : Int) : Prop := p < q ∧ bef r q p
inductive Ch (R : Int → Int → Prop) : Int → Int → Prop
  | one {a b : Int} : R a b → Ch R a b
  | more {a b c : Int} : Ch R a b → R b c → Ch R a c
theorem Ch.trans {R : Int → Int → Prop} {a b c : Int} (h : Ch R a b) (h2 : Ch R b c) : Ch R a c := by
  induction h2 with
  | one h2 => exact .more h h2
  | more _ h3 ih => exact .more ih h3
theorem Ch.lt {R : Int → Int → Prop} (hR : ∀ a b, R a b → a < b) {a b : Int} (h : Ch R a b) : a < b := by
  induction h with
  | one h => exact hR _ _ h
  | more _ h3 ih => exact Int.lt_trans ih (hR _ _ h3)
theorem Ch.mono {R S : Int → Int → Prop} (hR : ∀ a b, R a b → Ch S a b) {a b : Int} (h : Ch R a b) : Ch S a b := by
  induction h with
  | one h => exact hR _ _ h
  | more _ h3 ih => exact ih.trans (hR _ _ h3)
theorem bef_mem {r : List Int} {u v : Int} (h : bef r u v) : u ∈ r ∧ v ∈ r := by
  obtain ⟨x, y, _, a, b⟩ := h
  exact ⟨List.mem_of_getElem? a, List.mem_of_getElem? b⟩
theorem tur_trans {n : Int} {r : List Int} (hr : RowOk n r) {a b c : Int} (h1 : tur r a b) (h2 : tur r b c) : tur r a c :=
  ⟨Int.lt_trans h1.1 h2.1, bef_trans hr.nodup h2.2 h1.2⟩
theorem tur_co {n : Int} {r : List Int} (hr : RowOk n r) {a b c : Int} (hab : a < b) (hbc : b < c) (h : tur r a c) : tur r a b ∨ tur r b c := by
  obtain ⟨m1, m2⟩ := bef_mem h.2
  have ma := hr.mem.mp m2
  have mc := hr.mem.mp m1
  have mb : b ∈ r := hr.mem.mpr ⟨by omega, by omega⟩
  rcases bef_tri mb m2 (by omega) with z | z
  · exact .inl ⟨hab, z⟩
  · exact .inr ⟨hbc, bef_trans hr.nodup h.2 z⟩
theorem tur_rg {n : Int} {r : List Int} (hr : RowOk n r) {a b : Int} (h : tur r a b) : 1 ≤ a ∧ a < b ∧ b ≤ n := by
  obtain ⟨m1, m2⟩ := bef_mem h.2
  have ma := hr.mem.mp m2
  have mc := hr.mem.mp m1
  exact ⟨ma.1, h.1, mc.2⟩
/-- a set of pairs that is that of the turned pairs of a row -/
structure Clo (n : Int) (T : Int → Int → Prop) : Prop where
  rg : ∀ a b, T a b → 1 ≤ a ∧ a < b ∧ b ≤ n
  tr : ∀ a b c, T a b → T b c → T a c
  co : ∀ a b c, a < b → b < c → T a c → T a b ∨ T b c
theorem tur_clo {n : Int} {r : List Int} (hr : RowOk n r) : Clo n (tur r) := ⟨fun _ _ h => tur_rg hr h, fun _ _ _ h1 h2 => tur_trans hr h1 h2, fun _ _ _ h1 h2 h => tur_co hr h1 h2 h⟩
theorem ch_clo {n : Int} {T S : Int → Int → Prop} (hT : Clo n T) (hS : Clo n S) : Clo n (Ch fun a b => T a b ∨ S a b) := by
  have hrg : ∀ a b, T a b ∨ S a b → 1 ≤ a ∧ a < b ∧ b ≤ n := fun a b h => h.elim (hT.rg a b) (hS.rg a b)
  refine ⟨fun a b h => ?_, fun a b c h1 h2 => h1.trans h2, fun a b c hab hbc h => ?_⟩
  · induction h with
    | one h => exact hrg _ _ h
    | more _ h3 ih =>
      have := hrg _ _ h3
      omega
  · induction h with
    | one h =>
      rcases h with h | h
      · exact (hT.co _ _ _ hab hbc h).imp (fun z => .one (.inl z)) fun z => .one (.inl z)
      · exact (hS.co _ _ _ hab hbc h).imp (fun z => .one (.inr z)) fun z => .one (.inr z)
    | @more d c h1 h3 ih =>
      rcases Int.lt_trichotomy b d with z | z | z
      · rcases ih z with y | y
        · exact .inl y
        · exact .inr (.more y h3)
      · subst z
        exact .inl h1
      · have : T d b ∨ S d b ∨ T b c ∨ S b c := by
          rcases h3 with h | h
          · exact (hT.co _ _ _ z hbc h).elim (fun q => .inl q) fun q => .inr (.inr (.inl q))
          · exact (hS.co _ _ _ z hbc h).elim (fun q => .inr (.inl q)) fun q => .inr (.inr (.inr q))
        rcases this with q | q | q | q
        · exact .inl (.more h1 (.inl q))
        · exact .inl (.more h1 (.inr q))
        · exact .inr (.one (.inl q))
        · exact .inr (.one (.inr q))
/-- u stands before v -/
def pre (T : Int → Int → Prop) (u v : Int) : Prop := (u < v ∧ ¬ T u v) ∨ (v < u ∧ T v u)
theorem pre_tri {T : Int → Int → Prop} {u v : Int} (h : u ≠ v) : pre T u v ∨ pre T v u := by
  unfold pre
  by_cases a : T u v <;> by_cases b : T v u <;> rcases Int.lt_or_gt_of_ne h with c | c <;> simp [a, b, c]
theorem pre_anti {T : Int → Int → Prop} {u v : Int} (h : pre T u v) (h2 : pre T v u) : False := by
  rcases h with ⟨a, b⟩ | ⟨a, b⟩ <;> rcases h2 with ⟨c, d⟩ | ⟨c, d⟩
  · omega
  · exact b d
  · exact d b
  · omega
theorem pre_trans {n : Int} {T : Int → Int → Prop} (hT : Clo n T) {u v w : Int} (h : pre T u v) (h2 : pre T v w) : pre T u w := by
  rcases h with ⟨a, b⟩ | ⟨a, b⟩ <;> rcases h2 with ⟨c, d⟩ | ⟨c, d⟩
  · exact .inl ⟨by omega, fun z => (hT.co u v w a c z).elim b d⟩
  · rcases Int.lt_trichotomy u w with e | e | e
    · exact .inl ⟨e, fun z => b (hT.tr _ _ _ z d)⟩
    · subst e
      exact (b d).elim
    · exact .inr ⟨e, (hT.co w u v e a d).elim id fun z => (b z).elim⟩
  · rcases Int.lt_trichotomy u w with e | e | e
    · exact .inl ⟨e, fun z => d (hT.tr _ _ _ b z)⟩
    · subst e
      exact (d b).elim
    · exact .inr ⟨e, (hT.co v w u c e b).elim (fun z => (d z).elim) id⟩
  · exact .inr ⟨by omega, hT.tr _ _ _ d b⟩
theorem count_lt {α : Type} {p q : α → Bool} : ∀ {l : List α}, (∀ x ∈ l, p x = true → q x = true) → (∃ x ∈ l, q x = true ∧ p x = false) → l.countP p < l.countP q
  | [], _, h => by
    obtain ⟨x, m, _⟩ := h
    cases m
  | y :: l, h, h2 => by
    have le : l.countP p ≤ l.countP q := List.countP_mono_left fun x m => h x (List.mem_cons_of_mem _ m)
    rw [List.countP_cons, List.countP_cons]
    by_cases c : ∃ x ∈ l, q x = true ∧ p x = false
    · have := count_lt (fun x m => h x (List.mem_cons_of_mem _ m)) c
      by_cases e : p y = true
      · rw [if_pos e, if_pos (h y (by simp) e)]
        omega
      · rw [if_neg e]
        split <;> omega
    · obtain ⟨x, m, h3, h4⟩ := h2
      rcases List.mem_cons.mp m with rfl | m
      · rw [if_pos h3, if_neg (by rw [h4]; decide)]
        omega
      · exact absurd ⟨x, m, h3, h4⟩ c
open Classical in
/-- how many numbers stand ahead of p -/
noncomputable def placeT (n : Int) (T : Int → Int → Prop) (p : Int) : Nat := (rgN 1 n.toNat).countP fun x => decide (pre T x p)
open Classical in
theorem place_lt {n : Int} {T : Int → Int → Prop} (hT : Clo n T) {u v : Int} (hu : 1 ≤ u ∧ u ≤ n) (h : pre T u v) : placeT n T u < placeT n T v := by
  unfold placeT
  refine count_lt (fun x _ hx => ?_) ⟨u, rgN_mem.mpr (by omega), decide_eq_true h, decide_eq_false fun z => pre_anti z z⟩
  exact decide_eq_true (pre_trans hT (of_decide_eq_true hx) h)
noncomputable def turnR (n : Int) (T : Int → Int → Prop) : List Int := (rgN 1 n.toNat).mergeSort fun a b => decide (placeT n T a ≤ placeT n T b)
theorem turnR_ok {n : Int} {T : Int → Int → Prop} (h0 : 0 ≤ n) (h1 : n ≤ 60) : RowOk n (turnR n T) := ⟨List.mergeSort_perm _ _, h0, h1⟩
theorem turnR_pw {n : Int} {T : Int → Int → Prop} : (turnR n T).Pairwise fun a b => placeT n T a ≤ placeT n T b := by
  have := List.pairwise_mergeSort (le := fun a b : Int => decide (placeT n T a ≤ placeT n T b)) (by intro a b c; simp; omega) (by intro a b; simp; omega) (rgN 1 n.toNat)
  exact this.imp fun h => of_decide_eq_true h
theorem turnR_tur {n : Int} {T : Int → Int → Prop} (hT : Clo n T) (h0 : 0 ≤ n) (h1 : n ≤ 60) (p q : Int) : tur (turnR n T) p q ↔ T p q := by
  have ok := turnR_ok (T := T) h0 h1
  have key : ∀ u v, bef (turnR n T) u v → pre T u v := fun u v h => by
    obtain ⟨m1, m2⟩ := bef_mem h
    obtain ⟨x, y, hxy, e1, e2⟩ := h
    obtain ⟨l1, g1⟩ := List.getElem?_eq_some_iff.mp e1
    obtain ⟨l2, g2⟩ := List.getElem?_eq_some_iff.mp e2
    have le := List.pairwise_iff_getElem.mp (turnR_pw (n := n) (T := T)) x y l1 l2 hxy
    have ne := List.pairwise_iff_getElem.mp ok.nodup x y l1 l2 hxy
    rw [g1, g2] at le ne
    rcases pre_tri (T := T) ne with z | z
    · exact z
    · have := place_lt hT (ok.mem.mp m2) z
      omega
  constructor
  · rintro ⟨hpq, h⟩
    rcases key _ _ h with ⟨c, _⟩ | ⟨_, z⟩
    · omega
    · exact z
  · intro h
    obtain ⟨a, b, c⟩ := hT.rg p q h
    refine ⟨b, ?_⟩
    rcases bef_tri (l := turnR n T) (ok.mem.mpr ⟨by omega, c⟩) (ok.mem.mpr ⟨a, by omega⟩) (by omega : q ≠ p) with z | z
    · exact z
    · rcases key _ _ z with ⟨_, d⟩ | ⟨d, _⟩
      · exact (d h).elim
      · omega
/-- t is the least row above r and s -/
def IsLub (r s t : List Int) : Prop := ∀ p q, tur t p q ↔ Ch (fun a b => tur r a b ∨ tur s a b) p q
theorem tur_unique {n : Int} {r s : List Int} (hr : RowOk n r) (hs : RowOk n s) (h : ∀ p q, tur r p q ↔ tur s p q) : r = s :=
  rows_by_turned hr hs fun p q c => ⟨fun z => ((h p q).mp ⟨c, z⟩).2, fun z => ((h p q).mpr ⟨c, z⟩).2⟩
/-- r is below s -/
def LeR (r s : List Int) : Prop := ∀ p q, tur r p q → tur s p q
theorem LeR.refl (r : List Int) : LeR r r := fun _ _ h => h
theorem LeR.trans {r s t : List Int} (h : LeR r s) (h2 : LeR s t) : LeR r t := fun p q z => h2 p q (h p q z)
theorem LeR.anti {n : Int} {r s : List Int} (hr : RowOk n r) (hs : RowOk n s) (h : LeR r s) (h2 : LeR s r) : r = s := tur_unique hr hs fun p q => ⟨h p q, h2 p q⟩
theorem IsLub.left {r s t : List Int} (h : IsLub r s t) : LeR r t := fun p q z => (h p q).mpr (.one (.inl z))
theorem IsLub.right {r s t : List Int} (h : IsLub r s t) : LeR s t := fun p q z => (h p q).mpr (.one (.inr z))
theorem IsLub.least {n : Int} {r s t u : List Int} (hu : RowOk n u) (h : IsLub r s t) (h1 : LeR r u) (h2 : LeR s u) : LeR t u := fun p q z => by
  have := (h p q).mp z
  clear z
  induction this with
  | one h => exact h.elim (h1 _ _) (h2 _ _)
  | more _ h3 ih => exact tur_trans hu ih (h3.elim (h1 _ _) (h2 _ _))
def PairL (ds : List PyData) : Prop := ∀ d ∈ ds, ∃ a b, d = pairD a b
theorem pair_key {a b : Int} : TupKey (pairD a b) := by
  refine ⟨⟨_, rfl⟩, by simp [pairD, okKey, okKeys], ?_⟩
  simp [pairD, kd, kds, NestedKey.depth, NestedKey.depthAll]
theorem pair_kd {a b c d : Int} : kd (pairD a b) = kd (pairD c d) ↔ a = c ∧ b = d := by
  simp [pairD, kd, kds]
/-! how row_turning finds it -/
theorem rgN_split {lo : Int} {m k : Nat} : rgN lo (m + k) = rgN lo m ++ rgN (lo + m) k := by
  induction k with
  | zero => rw [Nat.add_zero]; unfold rgN; simp
  | succ k ih =>
    rw [← Nat.add_assoc, rgN_succ, rgN_succ, ih, List.append_assoc]
    congr 3
    omega
open Classical in
theorem place_split {n : Int} {T : Int → Int → Prop} {p : Int} (h1 : 1 ≤ p) (h2 : p ≤ n) (f : Int → Bool) (g : Int → Bool) (hf : ∀ a, 1 ≤ a → a < p → (f a = true ↔ ¬ T a p)) (hg : ∀ b, p < b → b ≤ n → (g b = true ↔ T p b)) :
    placeT n T p = ((rgN 1 (p - 1).toNat).filter f).length + ((rgN (p + 1) (n - p).toNat).filter g).length := by
  have e : n.toNat = (p - 1).toNat + (1 + (n - p).toNat) := by omega
  unfold placeT
  rw [e, rgN_split, rgN_split, List.countP_append, List.countP_append, show (1 : Int) + ((p - 1).toNat : Int) = p by omega, show p + ((1 : Nat) : Int) = p + 1 by omega]
  have z : (rgN p 1).countP (fun x => decide (pre T x p)) = 0 := by
    rw [List.countP_eq_zero]
    intro x hx
    rw [rgN_mem] at hx
    have : x = p := by omega
    subst this
    simp only [decide_eq_true_eq]
    exact fun z => pre_anti z z
  rw [z, Nat.zero_add, List.countP_eq_length_filter, List.countP_eq_length_filter]
  congr 2
  · refine List.filter_congr fun x hx => ?_
    rw [rgN_mem] at hx
    rw [Bool.eq_iff_iff, decide_eq_true_iff, hf x (by omega) (by omega)]
    unfold pre
    constructor
    · rintro (⟨_, z⟩ | ⟨z, _⟩)
      · exact z
      · omega
    · exact fun z => .inl ⟨by omega, z⟩
  · refine List.filter_congr fun x hx => ?_
    rw [rgN_mem] at hx
    rw [Bool.eq_iff_iff, decide_eq_true_iff, hg x (by omega) (by omega)]
    unfold pre
    constructor
    · rintro (⟨z, _⟩ | ⟨_, z⟩)
      · omega
      · exact z
    · exact fun z => .inr ⟨by omega, z⟩
noncomputable def placesD (n : Int) (T : Int → Int → Prop) (l : List Int) : List PyData := l.map fun p => pairD (placeT n T p) p
theorem pairs_alike (f : Int → Int) (l : List Int) : PySem.W.AllAlike (l.map fun p => pairD (f p) p) := fun x hx y hy => by
  obtain ⟨_, _, rfl⟩ := List.mem_map.mp hx
  obtain ⟨_, _, rfl⟩ := List.mem_map.mp hy
  exact pair_alike
theorem pairs_sortable (f : Int → Int) (l : List Int) : PySem.W.Sortable (l.map fun p => pairD (f p) p) := .inl fun x hx => by
  obtain ⟨a, _, rfl⟩ := List.mem_map.mp hx
  exact ⟨_, _, rfl⟩
theorem pairs_dep (f : Int → Int) (l : List Int) : ∀ x ∈ l.map (fun p => pairD (f p) p), x.depth ≤ 60 := fun x hx => by
  obtain ⟨a, _, rfl⟩ := List.mem_map.mp hx
  show (PyData.tuple [.int _, .int _]).depth ≤ 60
  simp [PyData.depth, PyData.depthAll]
theorem pair_toks {a b c d : Int} (h : PySem.W.keyToks (pairD a b) = PySem.W.keyToks (pairD c d)) : a = c ∧ b = d := by
  have := toks_tupI (S := [a, b]) (R := [c, d]) h
  simpa using this
theorem pair_le {a b c d : Int} (h : a < c ∨ (a = c ∧ b ≤ d)) : PySem.W.dataLe false id (pairD a b) (pairD c d) = true := by
  have e := congrFun (congrFun (PySem.W.dataLe_ii (β := Int × Int) (fun x => x.1) (fun x => x.2)) (a, b)) (c, d)
  show PySem.W.dataLe false (fun x : Int × Int => .tuple [.int x.1, .int x.2]) (a, b) (c, d) = true
  rw [e]
  exact decide_eq_true h
theorem places_sorted {n : Int} {T : Int → Int → Prop} (hT : Clo n T) (h0 : 0 ≤ n) (h1 : n ≤ 60) : (placesD n T (rgN 1 n.toNat)).mergeSort (PySem.W.dataLe false id) = placesD n T (turnR n T) := by
  have ok := turnR_ok (T := T) h0 h1
  refine sort_is (ok.perm.symm.map _) (fun a ha b hb e => ?_) ?_
  · obtain ⟨i, _, rfl⟩ := List.mem_map.mp ha
    obtain ⟨j, _, rfl⟩ := List.mem_map.mp hb
    rw [(pair_toks e).2]
  · unfold placesD
    refine List.pairwise_map.mpr ?_
    refine ((turnR_pw (n := n) (T := T)).and ok.nodup).imp_of_mem fun {a b} ma mb h => pair_le (.inl ?_)
    obtain ⟨le, ne⟩ := h
    rcases pre_tri (T := T) ne with z | z
    · have := place_lt hT (ok.mem.mp ma) z
      omega
    · have := place_lt hT (ok.mem.mp mb) z
      omega
/-- what the chains through numbers to k bring -/
inductive Via (R : Int → Int → Prop) (k : Int) : Int → Int → Prop
  | one {a b : Int} : R a b → Via R k a b
  | more {a b c : Int} : Via R k a b → b ≤ k → R b c → Via R k a c
theorem Via.lt {R : Int → Int → Prop} {k : Int} (hR : ∀ a b, R a b → a < b) {a b : Int} (h : Via R k a b) : a < b := by
  induction h with
  | one h => exact hR _ _ h
  | more _ _ h3 ih => exact Int.lt_trans ih (hR _ _ h3)
theorem Via.mono {R : Int → Int → Prop} {k j : Int} (hk : k ≤ j) {a b : Int} (h : Via R k a b) : Via R j a b := by
  induction h with
  | one h => exact .one h
  | more _ h2 h3 ih => exact .more ih (Int.le_trans h2 hk) h3
theorem Via.join {R : Int → Int → Prop} {k a b c : Int} (h : Via R k a b) (hb : b ≤ k) (h2 : Via R k b c) : Via R k a c := by
  induction h2 with
  | one h2 => exact .more h hb h2
  | more _ h3 h4 ih => exact .more ih h3 h4
theorem Via.lo {R : Int → Int → Prop} {k : Int} (hR : ∀ a b, R a b → 1 ≤ a) {a b : Int} (h : Via R k a b) : 1 ≤ a := by
  induction h with
  | one h => exact hR _ _ h
  | more _ _ _ ih => exact ih
theorem via_step {R : Int → Int → Prop} (hR : ∀ a b, R a b → a < b) {k a c : Int} : Via R (k + 1) a c ↔ Via R k a c ∨ (Via R k a (k + 1) ∧ Via R k (k + 1) c) := by
  constructor
  · intro h
    induction h with
    | one h => exact .inl (.one h)
    | @more b c h1 h2 h3 ih =>
      rcases Int.lt_or_eq_of_le h2 with z | rfl
      · rcases ih with y | ⟨y, x⟩
        · exact .inl (.more y (by omega) h3)
        · exact .inr ⟨y, .more x (by omega) h3⟩
      · rcases ih with y | ⟨y, x⟩
        · exact .inr ⟨y, .one h3⟩
        · have := x.lt hR
          omega
  · rintro (h | ⟨h1, h2⟩)
    · exact h.mono (by omega)
    · exact (h1.mono (by omega)).join (Int.le_refl _) (h2.mono (by omega))
theorem via_ch {R : Int → Int → Prop} {n : Int} (hR : ∀ a b, R a b → 1 ≤ a ∧ a < b ∧ b ≤ n) {a c : Int} : Via R (n - 1) a c ↔ Ch R a c := by
  constructor
  · intro h
    induction h with
    | one h => exact .one h
    | more _ _ h3 ih => exact .more ih h3
  · intro h
    induction h with
    | one h => exact .one h
    | more _ h3 ih =>
      have := hR _ _ h3
      exact .more ih (by omega) h3
theorem via_one {R : Int → Int → Prop} {n : Int} (hR : ∀ a b, R a b → 1 ≤ a ∧ a < b ∧ b ≤ n) {a c : Int} : Via R 1 a c ↔ R a c := by
  have l1 : ∀ {a b}, Via R 1 a b → 1 ≤ a := fun h => by
    induction h with
    | one h => exact (hR _ _ h).1
    | more _ _ _ ih => exact ih
  constructor
  · intro h
    cases h with
    | one h => exact h
    | more h1 h2 _ =>
      have := h1.lt fun a b z => (hR a b z).2.1
      have := l1 h1
      omega
  · exact .one
theorem getM_nil (k : NestedKey) : getM [] k = none := rfl
theorem getM_put {m : List (PyData × PyData)} {d e : PyData} {k : NestedKey} : (getM (putM m d e) k).isSome = ((getM m k).isSome || decide (kd d = k)) := by
  have base : ∀ (m : List (PyData × PyData)) (k : NestedKey), (getM m k).isSome = m.any fun p => decide (kd p.1 = k) := fun m k => by
    unfold getM
    rw [Option.isSome_map, Bool.eq_iff_iff, List.find?_isSome, List.any_eq_true]
  rw [base, base]
  unfold putM
  split
  · rename_i h
    rw [List.any_map]
    rw [base, List.any_eq_true] at h
    obtain ⟨x, hx, hk⟩ := h
    have hk := of_decide_eq_true hk
    rw [Bool.eq_iff_iff, Bool.or_eq_true, List.any_eq_true, List.any_eq_true, decide_eq_true_iff]
    constructor
    · rintro ⟨p, hp, q⟩
      refine .inl ⟨p, hp, ?_⟩
      simp only [Function.comp] at q
      split at q <;> exact q
    · rintro (⟨p, hp, q⟩ | q)
      · refine ⟨p, hp, ?_⟩
        simp only [Function.comp]
        split <;> exact q
      · refine ⟨x, hx, ?_⟩
        simp only [Function.comp]
        refine decide_eq_true ?_
        rw [if_pos hk, hk]
        exact q
  · rw [List.any_append, List.any_cons, List.any_nil, Bool.or_false]

def C_row_turning (P : Program) (w : World) : Con := fun _ es PX => ∃ (n : Int) (m : List (PyData × PyData)) (T : Int → Int → Prop), es = [.dat (.int n), dicD P w m] ∧ Clo n T ∧ (∀ a b, 1 ≤ a → a < b → b ≤ n → ((getM m (kd (pairD a b))).isSome = true ↔ T a b)) ∧ 0 ≤ n ∧ n ≤ 60 ∧ PX (.dat (.tuple (intsD (turnR n T))))
theorem ok_row_turning (T : Tx K mg) : FnOk P w K mg base CX0 1 T.f_row_turning T.d_row_turning ["n", "turned"] (SpC K (C_row_turning P w)) := by
  refine kfn T.F_row_turning sc_row_turning (fun W es P ⟨_, _, _, h, _⟩ => by rw [h]; rfl) fun cdv A outer s H E hr => ⟨_, (pss_cons (ps_set (i := 2) sc_row_turning.nd rfl (by first | exact Or.inl rfl | exact Or.inr rfl) (pe_lst pa_nil))
      (pss_cons (ps_for PassesOwn.never rfl (pi_range2 rfl T.m_range (pa_cons pe_int (pa_cons (pe_op (op_addK (K := K) rfl) (pv 0) pe_int) pa_nil))) (pg_name (i := 3) sc_row_turning.nd rfl (by first | exact Or.inl rfl | exact Or.inr rfl)) (pss_cons (ps_setLc (i := 4) (own := [("a", 6)]) rfl sc_row_turning.nd rfl rfl (sw_true rfl rfl rfl (by decide +kernel)) (pi_range2 rfl T.m_range (pa_cons pe_int (pa_cons (pv 3) pa_nil))) (blkOk_by (N := N_row_turning) (sc := defScope s_row_turning) (by decide +kernel)) (fun _ _ _ _ _ => (pg_name (i := 6) sc_row_turning.nd rfl (by first | exact Or.inl rfl | exact Or.inr rfl))) (fun _ _ _ _ _ => (pts_one (pt_cmpR (op_notInZ (P := P) (w := w) (K := K) rfl rfl rfl (hu65 hr)) (pe_tup (pa_cons (pv 6) (pa_cons (pv 3) pa_nil))) (pv 1) (by rfl)))) (fun _ _ _ _ _ => (pv 6)))
      (pss_cons (ps_setLc (i := 5) (own := [("b", 7)]) rfl sc_row_turning.nd rfl rfl (sw_true rfl rfl rfl (by decide +kernel)) (pi_range2 rfl T.m_range (pa_cons (pe_op (op_addK (K := K) rfl) (pv 3) pe_int) (pa_cons (pe_op (op_addK (K := K) rfl) (pv 0) pe_int) pa_nil))) (blkOk_by (N := N_row_turning) (sc := defScope s_row_turning) (by decide +kernel)) (fun _ _ _ _ _ => (pg_name (i := 7) sc_row_turning.nd rfl (by first | exact Or.inl rfl | exact Or.inr rfl))) (fun _ _ _ _ _ => (pts_one (pt_cmpR (op_inZ (P := P) (w := w) (K := K) rfl rfl rfl (hu65 hr)) (pe_tup (pa_cons (pv 3) (pa_cons (pv 7) pa_nil))) (pv 1) (by rfl)))) (fun _ _ _ _ _ => (pv 7)))
      (pss_one (ps_expr (pe_bm PySem.F.plainAttrs_list PySem.F.slot_list_append PySem.F.type_list_append mt_append (pv 2) (pa_cons (pe_tup (pa_cons (pe_op (op_addK (K := K) rfl) (pe_callB (cr_lenK (K := K) rfl) (by rfl) T.m_len (by decide +kernel) (pa_cons (pv 4) pa_nil)) (pe_callB (cr_lenK (K := K) rfl) (by rfl) T.m_len (by decide +kernel) (pa_cons (pv 5) pa_nil))) (pa_cons (pv 3) pa_nil))) pa_nil)))))))
      (pss_one (ps_ret (pe_callTy (cr_tupK (K := K) rfl) (by rfl) T.m_tuple (by decide +kernel) (pa_cons (pe_lc (own := [("place", 8), ("p", 3)]) rfl sc_row_turning.nd (pi_seqK (K := K) rfl (pe_callB (cr_sortedZ (K := K) (w := w) rfl rfl rfl hr.units) (by rfl) T.m_sorted (by decide +kernel) (pa_cons (pv 2) pa_nil))) (blkOk_by (N := N_row_turning) (sc := defScope s_row_turning) (by decide +kernel)) (fun _ _ _ _ _ => (pg_tupK (K := K) rfl (pg_tup (n := 2) rfl (pgs_cons (pg_name (i := 8) sc_row_turning.nd rfl (by first | exact Or.inl rfl | exact Or.inr rfl)) (pgs_cons (pg_name (i := 3) sc_row_turning.nd rfl (by first | exact Or.inl rfl | exact Or.inr rfl)) pgs_nil))))) (fun _ _ _ _ _ => pts_nil) (fun _ _ _ _ _ => (pv 3))) pa_nil)))))), fun W es PX hC => ?_⟩
  obtain ⟨n, m, U, rfl, hU, hm, h0, h1, q⟩ := hC
  try dsimp only [cx_K, cx_w]
  refine ds_seq (ds_newL fun p hp => ?_)
  refine ds_seq (ds_for ?_)
  walk_at "ka"
  refine ⟨1, n + 1, rfl, by omega, by omega, fun i W' Δ' => W' = W.hide p (knL K (placesD n U (rgN 1 i))) ∧ ∃ x3 x4 x5, Δ' = [some (.dat (.int n)), some (dicD P w m), some (.raw (.ref p)), x3, x4, x5, none, none, none], ⟨rfl, none, none, none, rfl⟩, ?_, ?_⟩
  · rintro i e W' Δ' he ⟨rfl, x3, x4, x5, rfl⟩
    obtain ⟨hi, rfl⟩ := rgN_at he
    refine ⟨_, _, tg_name, ?_⟩
    refine dq_set ?_
    refine de_lcM (rgN 1 i) (fun a => DV.dat (.int a)) (fun a => !(getM m (kd (pairD a (1 + (i : Int))))).isSome) (fun a => .int a) ?_ (by rw [rgN_length]; omega) ?_ ?_
    · walk_at "ka"
      refine ⟨1, 1 + (i : Int), rfl, by omega, by omega, ?_⟩
      rw [show (1 + (i : Int) - 1).toNat = i by omega]
    · intro a ha W'' hW
      refine ⟨_, _, tg_name, by simp, ?_⟩
      walk_at "ka"
      refine opd_niZV pair_key ⟨_, rfl, rfl, fun _ => ?_⟩
      walk_at "ka"
      rfl
    refine dq_set ?_
    refine de_lcM (rgN (1 + (i : Int) + 1) (n - (1 + (i : Int))).toNat) (fun a => DV.dat (.int a)) (fun b => (getM m (kd (pairD (1 + (i : Int)) b))).isSome) (fun a => .int a) ?_ (by rw [rgN_length]; omega) ?_ ?_
    · walk_at "ka"
      refine ⟨1 + (i : Int) + 1, n + 1, rfl, by omega, by omega, ?_⟩
      rw [show (n + 1 - (1 + (i : Int) + 1)).toNat = (n - (1 + (i : Int))).toNat by omega]
    · intro a ha W'' hW
      refine ⟨_, _, tg_name, by simp, ?_⟩
      walk_at "ka"
      refine opd_inZV pair_key ⟨_, rfl, rfl, fun _ => ?_⟩
      walk_at "ka"
      rfl
    refine ds_app (i := 2) rfl (by unfold placesD; rw [List.length_map, rgN_length]; omega) ?_
    walk_at "ka"
    refine ⟨?_, _, _, _, rfl⟩
    have e := place_split (n := n) (T := U) (p := 1 + (i : Int)) (by omega) (by omega) (fun a => !(getM m (kd (pairD a (1 + (i : Int))))).isSome) (fun b => (getM m (kd (pairD (1 + (i : Int)) b))).isSome)
      (fun a a1 a2 => by rw [← hm a (1 + (i : Int)) a1 a2 (by omega)]; simp) (fun b b1 b2 => hm _ _ (by omega) b1 b2)
    rw [show (1 + (i : Int) - 1).toNat = i by omega] at e
    rw [rgN_succ]
    unfold placesD
    rw [List.map_append, List.map_cons, List.map_nil, e, List.length_map, List.length_map, Int.natCast_add]
    rfl
  · rintro W' Δ' ⟨rfl, x3, x4, x5, rfl⟩
    rw [List.length_map, rgN_length, show (n + 1 - 1).toNat = n.toNat by omega]
    refine ds_see (i := 2) hp rfl ?_
    walk_at "ka"
    refine de_lcM (turnR n U) (fun p => DV.dat (pairD (placeT n U p) p)) (fun _ => true) (fun p => .int p) (di_seqL ?_) (by have := (turnR_ok (T := U) h0 h1).len; omega) ?_ ?_
    · walk_at "ka"
      refine cal_sortedZL (pairs_alike _ _) (pairs_sortable _ _) (pairs_dep _ _) ?_
      walk_at "ka"
      show ((placesD n U (rgN 1 n.toNat)).mergeSort (PySem.W.dataLe false id)).map DV.dat = _
      rw [places_sorted hU h0 h1]
      unfold placesD
      rw [List.map_map]
      rfl
    · intro p hp W'' hW
      refine ⟨_, _, tg_tup2, by simp, ?_⟩
      walk_at "ka"
      refine ⟨rfl, fun _ => ?_⟩
      walk_at "ka"
      rfl
    · walk_at "ka"
      rw [List.filter_eq_self.mpr (fun _ _ => rfl)]
      exact ⟨Wd.Le.refl W, q⟩

theorem ints_at {l : List Int} {i : Nat} {e : DV} (h : ((intsD l).map DV.dat)[i]? = some e) : ∃ x, l[i]? = some x ∧ e = .dat (.int x) := by
  unfold intsD at h
  rw [List.map_map, List.getElem?_map] at h
  cases q : l[i]? with
  | none =>
    rw [q] at h
    cases h
  | some x =>
    rw [q] at h
    cases h
    exact ⟨x, rfl, rfl⟩
theorem mem_take_succ {α : Type} {l : List α} {i : Nat} {x y : α} (h : l[i]? = some x) : y ∈ l.take (i + 1) ↔ y ∈ l.take i ∨ y = x := by
  rw [List.take_add_one, h]
  simp
/-- the dict has just these pairs -/
def DicT (m : List (PyData × PyData)) (T : Int → Int → Prop) : Prop := ∀ a c, (getM m (kd (pairD a c))).isSome = true ↔ T a c
theorem DicT.put {m : List (PyData × PyData)} {T : Int → Int → Prop} (h : DicT m T) (a c : Int) (e : PyData) : DicT (putM m (pairD a c) e) fun x y => T x y ∨ (x = a ∧ y = c) := fun x y => by
  rw [getM_put, Bool.or_eq_true, decide_eq_true_iff, h x y, pair_kd]
  exact or_congr Iff.rfl (and_congr eq_comm eq_comm)
theorem DicT.iff {m : List (PyData × PyData)} {T U : Int → Int → Prop} (h : DicT m T) (e : ∀ a c, T a c ↔ U a c) : DicT m U := fun a c => (h a c).trans (e a c)
def C_chained (P : Program) (w : World) : Con := fun _ es PX => ∃ (n : Int) (ds : List PyData) (R : Int → Int → Prop), es = [.dat (.int n), .dat (.tuple ds)] ∧ PairL ds ∧ (∀ a b, R a b ↔ pairD a b ∈ ds) ∧ (∀ a b, R a b → 1 ≤ a ∧ a < b ∧ b ≤ n) ∧ ds.length ≤ 2000 ∧ 1 ≤ n ∧ n ≤ 40 ∧
  ∀ m, DicT m (Ch R) → PX (dicD P w m)
theorem ok_chained (T : Tx K mg) : FnOk P w K mg base CX0 1 T.f_chained T.d_chained ["n", "pairs"] (SpC K (C_chained P w)) := by
  refine kfn T.F_chained sc_chained (fun W es P ⟨_, _, _, h, _⟩ => by rw [h]; rfl) fun cdv A outer s H E hr => ⟨_, (pss_cons (ps_set (i := 2) sc_chained.nd rfl (by first | exact Or.inl rfl | exact Or.inr rfl) (pe_dcTK (P := P) (w := w) (K := K) (own := [("pair", 8)]) rfl rfl rfl hr.units rfl sc_chained.nd (pi_seqK (K := K) rfl (pv 1)) (blkOk_by (N := N_chained) (sc := defScope s_chained) (by decide +kernel)) (fun _ _ _ _ _ => (pg_name (i := 8) sc_chained.nd rfl (by first | exact Or.inl rfl | exact Or.inr rfl))) (fun _ _ _ _ _ => pts_nil) (fun _ _ _ _ _ => (pv 8)) (fun _ _ _ _ _ => pe_bl)))
      (pss_cons (ps_for PassesOwn.never rfl (pi_range2 rfl T.m_range (pa_cons pe_int (pa_cons (pv 0) pa_nil))) (pg_name (i := 3) sc_chained.nd rfl (by first | exact Or.inl rfl | exact Or.inr rfl)) (pss_cons (ps_setLc (i := 4) (own := [("a", 6)]) rfl sc_chained.nd rfl rfl (sw_true rfl rfl rfl (by decide +kernel)) (pi_range2 rfl T.m_range (pa_cons pe_int (pa_cons (pv 3) pa_nil))) (blkOk_by (N := N_chained) (sc := defScope s_chained) (by decide +kernel)) (fun _ _ _ _ _ => (pg_name (i := 6) sc_chained.nd rfl (by first | exact Or.inl rfl | exact Or.inr rfl))) (fun _ _ _ _ _ => (pts_one (pt_cmpR (op_inZ (P := P) (w := w) (K := K) rfl rfl rfl (hu65 hr)) (pe_tup (pa_cons (pv 6) (pa_cons (pv 3) pa_nil))) (pv 2) (by rfl)))) (fun _ _ _ _ _ => (pv 6)))
      (pss_cons (ps_setLc (i := 5) (own := [("c", 7)]) rfl sc_chained.nd rfl rfl (sw_true rfl rfl rfl (by decide +kernel)) (pi_range2 rfl T.m_range (pa_cons (pe_op (op_addK (K := K) rfl) (pv 3) pe_int) (pa_cons (pe_op (op_addK (K := K) rfl) (pv 0) pe_int) pa_nil))) (blkOk_by (N := N_chained) (sc := defScope s_chained) (by decide +kernel)) (fun _ _ _ _ _ => (pg_name (i := 7) sc_chained.nd rfl (by first | exact Or.inl rfl | exact Or.inr rfl))) (fun _ _ _ _ _ => (pts_one (pt_cmpR (op_inZ (P := P) (w := w) (K := K) rfl rfl rfl (hu65 hr)) (pe_tup (pa_cons (pv 3) (pa_cons (pv 7) pa_nil))) (pv 2) (by rfl)))) (fun _ _ _ _ _ => (pv 7)))
      (pss_one (ps_for PassesOwn.never rfl (pi_seqK (K := K) rfl (pv 4)) (pg_name (i := 6) sc_chained.nd rfl (by first | exact Or.inl rfl | exact Or.inr rfl)) (pss_one (ps_for PassesOwn.never rfl (pi_seqK (K := K) rfl (pv 5)) (pg_name (i := 7) sc_chained.nd rfl (by first | exact Or.inl rfl | exact Or.inr rfl)) (pss_one (ps_putDK (P := P) (w := w) (K := K) rfl rfl rfl hr.units (pv 2) (pe_tup (pa_cons (pv 6) (pa_cons (pv 7) pa_nil))) pe_bl)))))))))
      (pss_one (ps_ret (pv 2))))), fun W es PX hC => ?_⟩
  obtain ⟨n, ds, R, rfl, hd, hR, rg, hz, h0, h1, q⟩ := hC
  try dsimp only [cx_K, cx_w]
  refine ds_seq (ds_dic ?_)
  refine di_seqT ?_
  walk_at "ka"
  refine ⟨by rw [List.length_map]; omega, fun i m => ∀ k, (getM m k).isSome = true ↔ k ∈ (ds.take i).map kd, fun k => by simp [getM_nil], fun i e m W' he hm hW => ?_, fun m hm hl p hp => ?_⟩
  · rw [List.getElem?_map] at he
    obtain ⟨d, hdi, rfl⟩ := Option.map_eq_some_iff.mp he
    refine ⟨_, _, tg_name, by simp, ?_⟩
    walk_at "ka"
    refine ⟨fun _ => ?_, nofun⟩
    walk_at "ka"
    obtain ⟨a, b, rfl⟩ := hd d (List.mem_of_getElem? hdi)
    refine ⟨pair_key, ?_⟩
    walk_at "ka"
    intro k
    rw [getM_put, Bool.or_eq_true, hm k, List.mem_map, List.mem_map, decide_eq_true_iff]
    constructor
    · rintro (⟨x, h1, h2⟩ | h)
      · exact ⟨x, (mem_take_succ hdi).mpr (.inl h1), h2⟩
      · exact ⟨_, (mem_take_succ hdi).mpr (.inr rfl), h⟩
    · rintro ⟨x, h1, h2⟩
      rcases (mem_take_succ hdi).mp h1 with h1 | rfl
      · exact .inl ⟨x, h1, h2⟩
      · exact .inr h2
  have hm0 : DicT m R := fun a c => by
    rw [List.length_map, List.take_length] at hm
    rw [hm, hR, List.mem_map]
    constructor
    · rintro ⟨x, m1, e⟩
      obtain ⟨y, z, rfl⟩ := hd x m1
      obtain ⟨rfl, rfl⟩ := pair_kd.mp e
      exact m1
    · exact fun h => ⟨_, h, rfl⟩
  rw [List.length_map] at hl
  clear hm
  refine ds_seq (ds_for ?_)
  walk_at "ka"
  refine ⟨2, n, rfl, by omega, by omega, fun i W' Δ' => ∃ m, W' = W.hide p (knDic P w K p m) ∧ m.length ≤ 2000 + i * 1600 ∧ DicT m (Via R (1 + i)) ∧ ∃ x3 x4 x5 x6 x7, Δ' = [some (.dat (.int n)), some (.dat (.tuple ds)), some (.raw (.ref p)), x3, x4, x5, x6, x7, none], ⟨m, rfl, by omega, hm0.iff fun a c => by rw [show (1 : Int) + (0 : Nat) = 1 from rfl]; exact (via_one rg).symm, none, none, none, none, none, rfl⟩, ?_, ?_⟩
  · rintro i e W' Δ' he ⟨m, rfl, hl, hm, x3, x4, x5, x6, x7, rfl⟩
    obtain ⟨hi, rfl⟩ := rgN_at he
    have hi : (i : Int) + 2 < n := by omega
    refine ⟨_, _, tg_name, ?_⟩
    generalize hb : (2 : Int) + (i : Int) = b
    refine dq_set ?_
    refine de_lcM (rgN 1 (b - 1).toNat) (fun a => DV.dat (.int a)) (fun a => (getM m (kd (pairD a b))).isSome) (fun a => .int a) ?_ (by rw [rgN_length]; omega) ?_ ?_
    · walk_at "ka"
      exact ⟨1, b, rfl, by omega, by omega, rfl⟩
    · rintro a ha W'' ⟨_, _, rfl, _⟩
      refine ⟨_, _, tg_name, by simp, ?_⟩
      walk_at "ka"
      refine opd_inZD Wd.Keeps.self.hide pair_key ⟨_, rfl, rfl, fun _ => ?_⟩
      walk_at "ka"
      rfl
    refine dq_set ?_
    refine de_lcM (rgN (b + 1) (n - b).toNat) (fun a => DV.dat (.int a)) (fun c => (getM m (kd (pairD b c))).isSome) (fun a => .int a) ?_ (by rw [rgN_length]; omega) ?_ ?_
    · walk_at "ka"
      refine ⟨b + 1, n + 1, rfl, by omega, by omega, ?_⟩
      rw [show (n + 1 - (b + 1)).toNat = (n - b).toNat by omega]
    · rintro a ha W'' ⟨_, _, rfl, _⟩
      refine ⟨_, _, tg_name, by simp, ?_⟩
      walk_at "ka"
      refine opd_inZD Wd.Keeps.self.hide pair_key ⟨_, rfl, rfl, fun _ => ?_⟩
      walk_at "ka"
      rfl
    have hA : ∀ a, a ∈ (rgN 1 (b - 1).toNat).filter (fun a => (getM m (kd (pairD a b))).isSome) ↔ Via R (1 + i) a b := fun a => by
      rw [List.mem_filter, hm a b, rgN_mem]
      constructor
      · exact fun h => h.2
      · intro h
        have := h.lt fun x y z => (rg x y z).2.1
        have l1 : 1 ≤ a := h.lo fun x y z => (rg x y z).1
        exact ⟨by omega, h⟩
    have hB : ∀ c, c ∈ (rgN (b + 1) (n - b).toNat).filter (fun c => (getM m (kd (pairD b c))).isSome) ↔ Via R (1 + i) b c := fun c => by
      rw [List.mem_filter, hm b c, rgN_mem]
      constructor
      · exact fun h => h.2
      · intro h
        have := h.lt fun x y z => (rg x y z).2.1
        have l1 : c ≤ n := by
          cases h with
          | one h => exact (rg _ _ h).2.2
          | more _ _ h => exact (rg _ _ h).2.2
        exact ⟨by omega, h⟩
    have zA : ((rgN 1 (b - 1).toNat).filter (fun a => (getM m (kd (pairD a b))).isSome)).length ≤ 40 := Nat.le_trans (List.length_filter_le ..) (by rw [rgN_length]; omega)
    have zB : ((rgN (b + 1) (n - b).toNat).filter (fun c => (getM m (kd (pairD b c))).isSome)).length ≤ 40 := Nat.le_trans (List.length_filter_le ..) (by rw [rgN_length]; omega)
    generalize hLA : (rgN 1 (b - 1).toNat).filter (fun a => (getM m (kd (pairD a b))).isSome) = LA at hA zA
    generalize hLB : (rgN (b + 1) (n - b).toNat).filter (fun c => (getM m (kd (pairD b c))).isSome) = LB at hB zB
    show DS K _ [_, _, _, some (.dat (.int b)), some (.dat (.list (intsD LA))), some (.dat (.list (intsD LB))), x6, x7, none] _ _ _ _ _
    refine ds_for ?_
    refine di_seqL ?_
    walk_at "ka"
    refine ⟨fun j W' Δ' => ∃ m', W' = W.hide p (knDic P w K p m') ∧ m'.length ≤ m.length + j * 40 ∧ DicT m' (fun x y => Via R (1 + i) x y ∨ (x ∈ LA.take j ∧ y ∈ LB)) ∧ ∃ x6 x7, Δ' = [some (.dat (.int n)), some (.dat (.tuple ds)), some (.raw (.ref p)), some (.dat (.int b)), some (.dat (.list (intsD LA))), some (.dat (.list (intsD LB))), x6, x7, none], ⟨m, rfl, by omega, hm.iff fun a c => by simp, _, _, rfl⟩, ?_, ?_⟩
    · rintro j e W' Δ' he ⟨m1, rfl, hl1, hm1, x6, x7, rfl⟩
      obtain ⟨a, haj, rfl⟩ := ints_at he
      have hj := (List.getElem?_eq_some_iff.mp haj).1
      refine ⟨_, _, tg_name, ?_⟩
      refine ds_for ?_
      refine di_seqL ?_
      walk_at "ka"
      refine ⟨fun l W' Δ' => ∃ m', W' = W.hide p (knDic P w K p m') ∧ m'.length ≤ m1.length + l ∧ DicT m' (fun x y => (Via R (1 + i) x y ∨ (x ∈ LA.take j ∧ y ∈ LB)) ∨ (x = a ∧ y ∈ LB.take l)) ∧ ∃ x7, Δ' = [some (.dat (.int n)), some (.dat (.tuple ds)), some (.raw (.ref p)), some (.dat (.int b)), some (.dat (.list (intsD LA))), some (.dat (.list (intsD LB))), some (.dat (.int a)), x7, none], ⟨m1, rfl, by omega, hm1.iff fun a c => by simp, _, rfl⟩, ?_, ?_⟩
      · rintro l e W' Δ' he ⟨m2, rfl, hl2, hm2, x7, rfl⟩
        obtain ⟨c, hcl, rfl⟩ := ints_at he
        have hl := (List.getElem?_eq_some_iff.mp hcl).1
        refine ⟨_, _, tg_name, ?_⟩
        refine ds_putD (i := 2) rfl (by omega) ?_
        walk_at "ka"
        refine ⟨pair_key, putM m2 (pairD a c) (.bool true), rfl, ?_, ?_, _, rfl⟩
        · have := putM_len m2 (pairD a c) (.bool true)
          omega
        · refine (hm2.put a c _).iff fun x y => ?_
          rw [mem_take_succ hcl]
          constructor
          · rintro ((h | h) | h)
            · exact .inl h
            · exact .inr ⟨h.1, .inl h.2⟩
            · exact .inr ⟨h.1, .inr h.2⟩
          · rintro (h | ⟨h, h2 | h2⟩)
            · exact .inl (.inl h)
            · exact .inl (.inr ⟨h, h2⟩)
            · exact .inr ⟨h, h2⟩
      · rintro W' Δ' ⟨m2, rfl, hl2, hm2, x7, rfl⟩
        rw [List.length_map, intsD_len] at hl2 hm2
        rw [List.take_length] at hm2
        refine ⟨m2, rfl, by omega, hm2.iff fun x y => ?_, _, _, rfl⟩
        rw [mem_take_succ haj]
        constructor
        · rintro ((h | h) | h)
          · exact .inl h
          · exact .inr ⟨.inl h.1, h.2⟩
          · exact .inr ⟨.inr h.1, h.2⟩
        · rintro (h | ⟨h | h, h2⟩)
          · exact .inl (.inl h)
          · exact .inl (.inr ⟨h, h2⟩)
          · exact .inr ⟨h, h2⟩
    · rintro W' Δ' ⟨m1, rfl, hl1, hm1, x6, x7, rfl⟩
      rw [List.length_map, intsD_len] at hl1 hm1
      rw [List.take_length] at hm1
      refine ⟨m1, rfl, by omega, hm1.iff fun x y => ?_, _, _, _, _, _, rfl⟩
      rw [show (1 : Int) + ((i + 1 : Nat) : Int) = 1 + i + 1 by omega, via_step fun x y z => (rg x y z).2.1, hA, hB, show (1 : Int) + i + 1 = b by omega]
  · rintro W' Δ' ⟨m, rfl, hl, hm, x3, x4, x5, x6, x7, rfl⟩
    rw [List.length_map, rgN_length] at hm
    refine ds_seeD (i := 2) hp rfl ?_
    walk_at "ka"
    refine ⟨Wd.Le.refl W, q m (hm.iff fun a c => ?_)⟩
    by_cases c1 : n = 1
    · constructor
      · intro h
        have : ∀ x y, ¬ R x y := fun x y z => by have := rg x y z; omega
        cases h with
        | one h => exact (this _ _ h).elim
        | more _ _ h => exact (this _ _ h).elim
      · intro h
        have : ∀ x y, ¬ R x y := fun x y z => by have := rg x y z; omega
        cases h with
        | one h => exact (this _ _ h).elim
        | more _ h => exact (this _ _ h).elim
    · rw [show (1 : Int) + ((n - 2).toNat : Int) = n - 1 by omega]
      exact via_ch rg

theorem turnedD_pairs (r : List Int) : PairL (turnedD r) := fun d m => by
  obtain ⟨a, b, h, _⟩ := turnedL_mem (List.mem_mergeSort.mp m)
  exact ⟨a, b, h⟩
/-- the turned pairs, number by number -/
def turnedR : List Int → List PyData
  | [] => []
  | b :: r => ((r.filter fun low => decide (low < b)).map fun low => pairD low b) ++ turnedR r
theorem turnedL_from (full : List Int) : ∀ (l : List Int) (k : Nat), full.drop k = l → ((l.zipIdx k).flatMap fun p => ((full.drop (p.2 + 1)).filter fun low => decide (low < p.1)).map fun low => pairD low p.1) = turnedR l
  | [], _, _ => rfl
  | b :: l, k, h => by
    have h2 : full.drop (k + 1) = l := by rw [← List.drop_drop, h]; rfl
    rw [List.zipIdx_cons, List.flatMap_cons, turnedL_from full l (k + 1) h2, h2]
    rfl
theorem turnedL_eq (r : List Int) : turnedL r = turnedR r := turnedL_from r r 0 rfl
theorem turnedR_len : ∀ r : List Int, 2 * (turnedR r).length ≤ r.length * r.length
  | [] => Nat.le_refl _
  | b :: r => by
    have ih := turnedR_len r
    have f : (r.filter fun low => decide (low < b)).length ≤ r.length := List.length_filter_le ..
    have e : (r.length + 1) * (r.length + 1) = r.length * r.length + 2 * r.length + 1 := by
      rw [Nat.add_mul, Nat.one_mul, Nat.mul_add, Nat.mul_one]
      omega
    rw [turnedR, List.length_append, List.length_map, List.length_cons, e]
    omega
theorem turnedD_len {n : Int} {r : List Int} (h : RowOk n r) (hn : n ≤ 40) : (turnedD r).length < 1000 := by
  have a := turnedR_len r
  have b : r.length ≤ 40 := by have := h.len; omega
  have c : r.length * r.length ≤ 40 * 40 := Nat.mul_le_mul b b
  unfold turnedD
  rw [List.length_mergeSort, turnedL_eq]
  omega
theorem turnedR_mem {a b : Int} : ∀ {r : List Int}, pairD a b ∈ turnedR r ↔ a < b ∧ [b, a].Sublist r
  | [] => by simp [turnedR]
  | c :: r => by
    rw [turnedR, List.mem_append, turnedR_mem, List.mem_map]
    constructor
    · rintro (⟨low, m, e⟩ | ⟨h1, h2⟩)
      · obtain ⟨m1, m2⟩ := List.mem_filter.mp m
        simp only [pairD, PyData.tuple.injEq, List.cons.injEq, PyData.int.injEq, and_true] at e
        obtain ⟨rfl, rfl⟩ := e
        exact ⟨of_decide_eq_true m2, (List.singleton_sublist.mpr m1).cons_cons _⟩
      · exact ⟨h1, h2.cons _⟩
    · rintro ⟨h1, h2⟩
      rcases List.sublist_cons_iff.mp h2 with h | ⟨l, e, h⟩
      · exact .inr ⟨h1, h⟩
      · cases e
        exact .inl ⟨a, List.mem_filter.mpr ⟨List.singleton_sublist.mp h, decide_eq_true h1⟩, rfl⟩
theorem turnedD_mem {a b : Int} {r : List Int} : pairD a b ∈ turnedD r ↔ a < b ∧ [b, a].Sublist r := by
  unfold turnedD
  rw [List.mem_mergeSort, turnedL_eq, turnedR_mem]
theorem turnedD_tur {r : List Int} {a b : Int} : pairD a b ∈ turnedD r ↔ tur r a b := by
  rw [turnedD_mem, bef_sub]
  exact Iff.rfl

def C_least_above : Con := fun _ es P => ∃ n r s, es = [.dat (.int n), .dat (.tuple (intsD r)), .dat (.tuple (intsD s))] ∧ RowOk n r ∧ RowOk n s ∧ 1 ≤ n ∧ n ≤ 40 ∧ ∀ t, RowOk n t → IsLub r s t → P (.dat (.tuple (intsD t)))
theorem ok_least_above (T : Tx K mg) : FnOk P w K mg base CX0 6 T.f_least_above T.d_least_above ["n", "one", "other"] (SpC K C_least_above) := by
  refine kfn T.F_least_above sc_least_above (fun W es P ⟨_, _, _, h, _⟩ => by rw [h]; rfl) fun cdv A outer s H E hr => ⟨_, (pss_cons (ps_set (i := 3) sc_least_above.nd rfl (by first | exact Or.inl rfl | exact Or.inr rfl) (pe_op (op_addK (K := K) rfl) (pe_call (ok_turned_pairs T) hr (by rfl) T.g_turned_pairs T.F_turned_pairs.kp T.b_turned_pairs .nil pass0 (pa_cons (pv 0) (pa_cons (pv 1) pa_nil))) (pe_call (ok_turned_pairs T) hr (by rfl) T.g_turned_pairs T.F_turned_pairs.kp T.b_turned_pairs .nil pass0 (pa_cons (pv 0) (pa_cons (pv 2) pa_nil)))))
      (pss_one (ps_ret (pe_call (ok_row_turning T) (hr.mono (by decide)) (by rfl) T.g_row_turning T.F_row_turning.kp T.b_row_turning .nil pass0 (pa_cons (pv 0) (pa_cons (pe_call (ok_chained T) (hr.mono (by decide)) (by rfl) T.g_chained T.F_chained.kp T.b_chained .nil pass0 (pa_cons (pv 0) (pa_cons (pv 3) pa_nil))) pa_nil)))))), fun W es PX hC => ?_⟩
  obtain ⟨n, r, s, rfl, hr', hs, h0, h1, q⟩ := hC
  have z1 := turnedD_len hr' h1
  have z2 := turnedD_len hs h1
  try dsimp only [cx_K, cx_w]
  walk_at "ka"
  refine ⟨n, r, rfl, hr', ?_⟩
  walk_at "ka"
  refine ⟨n, s, rfl, hs, ?_⟩
  refine opd_addT (by omega) ?_
  walk_at "ka"
  have rg : ∀ a b, (tur r a b ∨ tur s a b) → 1 ≤ a ∧ a < b ∧ b ≤ n := fun a b h => h.elim (tur_rg hr') (tur_rg hs)
  refine ⟨n, turnedD r ++ turnedD s, fun a b => tur r a b ∨ tur s a b, rfl, fun d m => ?_, fun a b => ?_, rg, by rw [List.length_append]; omega, h0, h1, fun m hm => ?_⟩
  · rcases List.mem_append.mp m with m | m
    · exact turnedD_pairs r d m
    · exact turnedD_pairs s d m
  · rw [List.mem_append, turnedD_tur, turnedD_tur]
  walk_at "ka"
  have hc := ch_clo (tur_clo hr') (tur_clo hs)
  exact ⟨n, m, _, rfl, hc, fun a b _ _ _ => hm a b, hr'.lo, hr'.hi, Wd.Le.refl W, q _ (turnR_ok hr'.lo hr'.hi) (turnR_tur hc hr'.lo hr'.hi)⟩

/-- the datum of a row -/
def rowD (r : List Int) : PyData := .tuple (intsD r)

/-! arcs -/
def arcD (a b : Int) (S : List Int) : PyData := .tuple [.int a, .int b, .tuple (intsD S)]
structure ArcOk (n a b : Int) (S : List Int) : Prop where
  lo : 1 ≤ a
  lt : a < b
  hi : b ≤ n
  asc : S.Pairwise (· < ·)
  mem : ∀ p ∈ S, a < p ∧ p < b
/-- the numbers of S between c and d -/
def betw (c d : Int) (S : List Int) : List Int := S.filter fun p => decide (c < p) && decide (p < d)
theorem betw_mem {c d p : Int} {S : List Int} : p ∈ betw c d S ↔ p ∈ S ∧ c < p ∧ p < d := by
  unfold betw
  rw [List.mem_filter, Bool.and_eq_true, decide_eq_true_iff, decide_eq_true_iff]
theorem asc_len : ∀ {S : List Int} {a b : Int}, S.Pairwise (· < ·) → (∀ p ∈ S, a < p ∧ p < b) → S.length ≤ (b - a - 1).toNat
  | [], _, _, _, _ => Nat.zero_le _
  | p :: S, a, b, h, hm => by
    rw [List.pairwise_cons] at h
    have h0 := hm p (by simp)
    have ih := asc_len (a := p) (b := b) h.2 fun q hq => ⟨h.1 q hq, (hm q (List.mem_cons_of_mem _ hq)).2⟩
    rw [List.length_cons]
    omega
theorem ArcOk.len {n a b : Int} {S : List Int} (h : ArcOk n a b S) : S.length ≤ (b - a - 1).toNat := asc_len h.asc h.mem
theorem eqv_arcs {a b c d : Int} {S R : List Int} : PyData.eqv (arcD a b S) (arcD c d R) = (decide (a = c) && (decide (b = d) && decide (S = R))) := by
  show (PyData.eqv (.int a) (.int c) && (PyData.eqv (.int b) (.int d) && (PyData.eqvAll (intsD S) (intsD R) && true))) = _
  rw [eqvAll_ints, Bool.and_true]
  congr 1

theorem getD_get {r : List Int} {i : Nat} (h : i < r.length) : r[i]? = some (r.getD i 0) := by
  rw [List.getD_eq_getElem?_getD, List.getElem?_eq_getElem h]
  rfl
theorem split_at {r : List Int} {i : Nat} (h : i + 1 < r.length) : r.take i ++ ([r.getD i 0, r.getD (i + 1) 0] ++ r.drop (i + 2)) = r := by
  have e : r.drop i = [r.getD i 0, r.getD (i + 1) 0] ++ r.drop (i + 2) := by
    rw [List.drop_eq_getElem_cons (by omega), List.drop_eq_getElem_cons h]
    simp [List.getD_eq_getElem?_getD, List.getElem?_eq_getElem h, List.getElem?_eq_getElem (show i < r.length by omega)]
  rw [← e, List.take_append_drop]
theorem RowOk.of_perm {n : Int} {r s : List Int} (h : RowOk n r) (p : s.Perm r) : RowOk n s := ⟨p.trans h.perm, h.lo, h.hi⟩
theorem RowOk.rev {n : Int} {r : List Int} (h : RowOk n r) : RowOk n r.reverse := h.of_perm (List.reverse_perm r)
theorem RowOk.first {n : Int} (h1 : 0 ≤ n) (h2 : n ≤ 60) : RowOk n (rgN 1 n.toNat) := ⟨List.Perm.refl _, h1, h2⟩
theorem RowOk.apart {n : Int} {r : List Int} (h : RowOk n r) {i : Nat} (hi : i + 1 < r.length) : r.getD i 0 ≠ r.getD (i + 1) 0 := by
  rw [List.getD_eq_getElem?_getD, List.getD_eq_getElem?_getD, List.getElem?_eq_getElem (by omega), List.getElem?_eq_getElem hi]
  exact List.pairwise_iff_getElem.mp h.nodup i (i + 1) (by omega) hi (by omega)

def sortI (l : List Int) : List Int := l.mergeSort fun a b => decide (a ≤ b)
theorem sort_intsD (l : List Int) : (intsD l).mergeSort (PySem.W.dataLe false id) = intsD (sortI l) := by
  unfold sortI intsD
  rw [List.map_mergeSort (s := PySem.W.dataLe false id)]
  intro a _ b _
  exact (congrFun (congrFun (PySem.W.dataLe_int (β := Int) id) a) b).symm
theorem sortI_mem {x : Int} {l : List Int} : x ∈ sortI l ↔ x ∈ l := List.mem_mergeSort
theorem sortI_asc {l : List Int} (h : l.Nodup) : (sortI l).Pairwise (· < ·) := by
  have p := List.pairwise_mergeSort (le := fun a b : Int => decide (a ≤ b)) (by simp; omega) (by simp; omega) l
  have nd : (sortI l).Nodup := (List.mergeSort_perm l _).nodup_iff.mpr h
  refine (p.and nd).imp fun ⟨h1, h2⟩ => ?_
  have := of_decide_eq_true h1
  omega
def lowAt (r : List Int) (i : Nat) : Int := min (r.getD i 0) (r.getD (i + 1) 0)
def highAt (r : List Int) (i : Nat) : Int := max (r.getD i 0) (r.getD (i + 1) 0)
def aheadAt (r : List Int) (i : Nat) : List Int := sortI (betw (lowAt r i) (highAt r i) (r.take i))
/-- the arc at i -/
def arcOf (r : List Int) (i : Nat) : PyData := arcD (lowAt r i) (highAt r i) (aheadAt r i)
def C_arc_at : Con := fun _ es P => ∃ n r, ∃ i : Nat, es = [.dat (.int n), .dat (.tuple (intsD r)), .dat (.int i)] ∧ RowOk n r ∧ (i : Int) ≤ n - 2 ∧ P (.dat (arcOf r i))
theorem ok_arc_at (T : Tx K mg) : FnOk P w K mg base CX0 5 T.f_arc_at T.d_arc_at ["n", "row", "i"] (SpC K C_arc_at) := by
  refine kfn T.F_arc_at sc_arc_at (fun W es P ⟨_, _, _, h, _⟩ => by rw [h]; rfl) fun cdv A outer s H E hr => ⟨_, (pss_cons (ps_expr (pe_call (ok_check_row T) hr (by rfl) T.g_check_row T.F_check_row.kp T.b_check_row .nil pass0 (pa_cons (pv 0) (pa_cons (pv 1) pa_nil))))
      (pss_cons (ps_expr (pe_call (ok_check_place T) (hr.mono (by decide)) (by rfl) T.g_check_place T.F_check_place.kp T.b_check_place .nil pass0 (pa_cons (pv 0) (pa_cons (pv 2) pa_nil))))
      (pss_cons (ps_set (i := 3) sc_arc_at.nd rfl (by first | exact Or.inl rfl | exact Or.inr rfl) (pe_callB (cr_min2 rfl) (by rfl) T.m_min (by decide +kernel) (pa_cons (pe_ix (ix_K (K := K) rfl) (pv 1) (pv 2) (fun _ _ => rfl)) (pa_cons (pe_ix (ix_K (K := K) rfl) (pv 1) (pe_op (op_addK (K := K) rfl) (pv 2) pe_int) (fun _ _ => rfl)) pa_nil))))
      (pss_cons (ps_set (i := 4) sc_arc_at.nd rfl (by first | exact Or.inl rfl | exact Or.inr rfl) (pe_callB (cr_max2 rfl) (by rfl) T.m_max (by decide +kernel) (pa_cons (pe_ix (ix_K (K := K) rfl) (pv 1) (pv 2) (fun _ _ => rfl)) (pa_cons (pe_ix (ix_K (K := K) rfl) (pv 1) (pe_op (op_addK (K := K) rfl) (pv 2) pe_int) (fun _ _ => rfl)) pa_nil))))
      (pss_cons (ps_setLc (i := 5) (own := [("p", 6)]) rfl sc_arc_at.nd rfl rfl (sw_true rfl rfl rfl (by decide +kernel)) (pi_seqK (K := K) rfl (pe_slice (sl_K (K := K) rfl) (pv 1) po_none (po_some (pv 2)))) (blkOk_by (N := N_arc_at) (sc := defScope s_arc_at) (by decide +kernel)) (fun _ _ _ _ _ => (pg_name (i := 6) sc_arc_at.nd rfl (by first | exact Or.inl rfl | exact Or.inr rfl))) (fun _ _ _ _ _ => (pts_one (pt_chain op_lt op_lt (pv 3) (pv 6) (pv 4)))) (fun _ _ _ _ _ => (pv 6)))
      (pss_one (ps_ret (pe_tup (pa_cons (pv 3) (pa_cons (pv 4) (pa_cons (pe_callTy (cr_tupK (K := K) rfl) (by rfl) T.m_tuple (by decide +kernel) (pa_cons (pe_callB (cr_sortedZ (K := K) (w := w) rfl rfl rfl hr.units) (by rfl) T.m_sorted (by decide +kernel) (pa_cons (pv 5) pa_nil)) pa_nil)) pa_nil))))))))))), fun W es P hC => ?_⟩
  obtain ⟨n, r, i, rfl, ho, hi, q⟩ := hC
  have h2 := ho.hi
  have h3 := ho.len
  have g0 := getD_get (r := r) (i := i) (by omega)
  have g1 := getD_get (r := r) (i := i + 1) (by omega)
  try dsimp only [cx_K, cx_w]
  walk_at "ka"
  refine ⟨n, r, rfl, ho, ?_⟩
  walk_at "ka"
  refine ⟨n, i, rfl, by omega, hi, ?_⟩
  walk_at "ka"
  refine opd_ixT (atI_nat (intsD_get g0)) ?_
  walk_at "ka"
  rw [show (i : Int) + 1 = ((i + 1 : Nat) : Int) from rfl]
  refine opd_ixT (atI_nat (intsD_get g1)) ?_
  walk_at "ka"
  refine opd_ixT (atI_nat (intsD_get g0)) ?_
  walk_at "ka"
  rw [show (i : Int) + 1 = ((i + 1 : Nat) : Int) from rfl]
  refine opd_ixT (atI_nat (intsD_get g1)) ?_
  walk_at "ka"
  refine de_lcM (r.take i) (fun p => DV.dat (.int p)) (fun p => decide (lowAt r i < p) && decide (p < highAt r i)) (fun p => .int p) (di_seqT ?_) (by rw [List.length_take]; omega) ?_ ?_
  · walk_at "ka"
    rw [cut_to (by omega), show (i : Int).toNat = i from rfl, intsD_take]
    exact List.map_map ..
  · intro p hp W' hW
    refine ⟨_, _, tg_name, by simp, ?_⟩
    walk_at "ka"
    refine ⟨fun e => ?_, fun e => ⟨_, rfl, ?_⟩⟩
    · walk_at "ka"
      refine ⟨by rw [show decide (lowAt r i < p) = true from e, Bool.true_and]; rfl, fun e2 => ?_⟩
      walk_at "ka"
      rfl
    · rw [show decide (lowAt r i < p) = false from e, Bool.false_and]
      exact ⟨rfl, nofun⟩
  · walk_at "ka"
    have e : ((r.take i).filter fun p => decide (lowAt r i < p) && decide (p < highAt r i)).map (fun p => PyData.int p) = intsD (betw (lowAt r i) (highAt r i) (r.take i)) := rfl
    rw [e]
    refine cal_sortedZL (ints_alike _) (ints_sortable _) (ints_dep _) ?_
    walk_at "ka"
    rw [sort_intsD]
    exact ⟨Wd.Le.refl W, q⟩

def isFall (r : List Int) (i : Nat) : Bool := decide (r.getD (i + 1) 0 < r.getD i 0)
/-- the arcs at the falls, or at the rises, in the order of the row -/
def arcsL (r : List Int) (f : Bool) : List PyData := ((List.range (r.length - 1)).filter fun i => isFall r i == f).map (arcOf r)
def arcsD (r : List Int) (f : Bool) : List PyData := (arcsL r f).mergeSort (PySem.W.dataLe false id)
theorem arcsL_mem {r : List Int} {f : Bool} {x : PyData} (h : x ∈ arcsL r f) : ∃ i, i < r.length - 1 ∧ isFall r i = f ∧ x = arcOf r i := by
  obtain ⟨i, hi, rfl⟩ := List.mem_map.mp h
  obtain ⟨h1, h2⟩ := List.mem_filter.mp hi
  exact ⟨i, List.mem_range.mp h1, by simpa using h2, rfl⟩
theorem alike_ints2 : ∀ (xs ys : List Int), PySem.W.alikeAll (intsD xs) (intsD ys) = true
  | [], _ => by simp [intsD, PySem.W.alikeAll]
  | _ :: _, [] => by simp [intsD, PySem.W.alikeAll]
  | x :: xs, y :: ys => by
    show PySem.W.alikeAll (.int x :: intsD xs) (.int y :: intsD ys) = true
    rw [PySem.W.alikeAll, alike_ints2 xs ys]
    simp [PySem.W.alike]
def ArcL (ds : List PyData) : Prop := ∀ d ∈ ds, ∃ a b S, d = arcD a b S
theorem ArcL.alike {ds : List PyData} (h : ArcL ds) : PySem.W.AllAlike ds := fun x hx y hy => by
  obtain ⟨a, b, S, rfl⟩ := h x hx
  obtain ⟨c, d, R, rfl⟩ := h y hy
  show PySem.W.alike (.tuple [.int a, .int b, .tuple (intsD S)]) (.tuple [.int c, .int d, .tuple (intsD R)]) = true
  simp only [PySem.W.alike, PySem.W.alikeAll, alike_ints2, Bool.and_true]
theorem ArcL.sortable {ds : List PyData} (h : ArcL ds) : PySem.W.Sortable ds := .inl fun x hx => by
  obtain ⟨a, b, S, rfl⟩ := h x hx
  exact ⟨_, _, rfl⟩
theorem ArcL.dep {ds : List PyData} (h : ArcL ds) : ∀ x ∈ ds, x.depth ≤ 60 := fun x hx => by
  obtain ⟨a, b, S, rfl⟩ := h x hx
  show (PyData.tuple [.int a, .int b, .tuple (intsD S)]).depth ≤ 60
  simp [PyData.depth, PyData.depthAll, depth_intsD]
theorem arcsL_arcs (r : List Int) (f : Bool) : ArcL (arcsL r f) := fun x hx => by
  obtain ⟨i, _, _, rfl⟩ := arcsL_mem hx
  exact ⟨_, _, _, rfl⟩
def C_arcs_of (f : Bool) : Con := fun _ es P => ∃ n r, es = [.dat (.int n), .dat (.tuple (intsD r))] ∧ RowOk n r ∧ P (.dat (.tuple (arcsD r f)))
theorem rg_range (n : Nat) : rgN 0 n = (List.range n).map fun i : Nat => (i : Int) := by
  unfold rgN
  refine List.map_congr_left fun i _ => ?_
  omega
theorem ok_arcs_of_falls (T : Tx K mg) : FnOk P w K mg base CX0 6 T.f_arcs_of_falls T.d_arcs_of_falls ["n", "row"] (SpC K (C_arcs_of true)) := by
  refine kfn T.F_arcs_of_falls sc_arcs_of_falls (fun W es P ⟨_, _, h, _⟩ => by rw [h]; rfl) fun cdv A outer s H E hr => ⟨_, (pss_cons (ps_expr (pe_call (ok_check_row T) (hr.mono (by decide)) (by rfl) T.g_check_row T.F_check_row.kp T.b_check_row .nil pass0 (pa_cons (pv 0) (pa_cons (pv 1) pa_nil))))
      (pss_cons (ps_setLc (i := 2) (own := [("i", 3)]) rfl sc_arcs_of_falls.nd rfl rfl (sw_true rfl rfl rfl (by decide +kernel)) (pi_range1 rfl T.m_range (pa_cons (pe_op op_sub (pv 0) pe_int) pa_nil)) (blkOk_by (N := N_arcs_of_falls) (sc := defScope s_arcs_of_falls) (by decide +kernel)) (fun _ _ _ _ _ => (pg_name (i := 3) sc_arcs_of_falls.nd rfl (by first | exact Or.inl rfl | exact Or.inr rfl))) (fun _ _ _ _ _ => (pts_one (pt_cmpR op_gt (pe_ix (ix_K (K := K) rfl) (pv 1) (pv 3) (fun _ _ => rfl)) (pe_ix (ix_K (K := K) rfl) (pv 1) (pe_op (op_addK (K := K) rfl) (pv 3) pe_int) (fun _ _ => rfl)) (nomark _)))) (fun _ _ _ _ _ => (pe_call (ok_arc_at T) hr (by rfl) T.g_arc_at T.F_arc_at.kp T.b_arc_at .nil pass0 (pa_cons (pv 0) (pa_cons (pv 1) (pa_cons (pv 3) pa_nil))))))
      (pss_one (ps_ret (pe_callTy (cr_tupK (K := K) rfl) (by rfl) T.m_tuple (by decide +kernel) (pa_cons (pe_callB (cr_sortedZ (K := K) (w := w) rfl rfl rfl hr.units) (by rfl) T.m_sorted (by decide +kernel) (pa_cons (pv 2) pa_nil)) pa_nil)))))), fun W es P hC => ?_⟩
  obtain ⟨n, r, rfl, ho, q⟩ := hC
  have h1 := ho.lo
  have h2 := ho.hi
  have h3 := ho.len
  try dsimp only [cx_K, cx_w]
  walk_at "ka"
  refine ⟨n, r, rfl, ho, ?_⟩
  walk_at "ka"
  refine de_lcM (List.range (r.length - 1)) (fun i => DV.dat (.int (i : Nat))) (fun i => isFall r i == true) (arcOf r) ?_ (by rw [List.length_range]; omega) ?_ ?_
  · walk_at "ka"
    refine ⟨by omega, ?_⟩
    rw [show (n - 1).toNat = r.length - 1 by omega, rg_range, List.map_map]
    rfl
  · intro i hi W' hW
    rw [List.mem_range] at hi
    refine ⟨_, _, tg_name, by simp, ?_⟩
    walk_at "ka"
    refine opd_ixT (atI_nat (intsD_get (getD_get (by omega)))) ?_
    walk_at "ka"
    rw [show (i : Int) + 1 = ((i + 1 : Nat) : Int) from rfl]
    refine opd_ixT (atI_nat (intsD_get (getD_get (by omega)))) ?_
    walk_at "ka"
    refine ⟨by unfold isFall; simp, fun _ => ?_⟩
    walk_at "ka"
    exact ⟨n, r, i, rfl, ho, by omega, rfl⟩
  · walk_at "ka"
    have e : ((List.range (r.length - 1)).filter fun i => isFall r i == true).map (arcOf r) = arcsL r true := rfl
    rw [e]
    have ha := arcsL_arcs r true
    refine cal_sortedZL ha.alike ha.sortable ha.dep ?_
    walk_at "ka"
    exact ⟨Wd.Le.refl W, q⟩

theorem arcD_inj {a b c d : Int} {S R : List Int} (h : arcD a b S = arcD c d R) : a = c ∧ b = d ∧ S = R := by
  have e : PyData.eqv (arcD a b S) (arcD c d R) = true := by
    rw [h, eqv_arcs]
    simp
  rw [eqv_arcs] at e
  simpa using e
/-- what a fall's arc says -/
theorem fall_says {r : List Int} {j : Nat} (h : isFall r j = true) : lowAt r j = r.getD (j + 1) 0 ∧ highAt r j = r.getD j 0 ∧ r.getD (j + 1) 0 < r.getD j 0 := by
  unfold isFall at h
  have h := of_decide_eq_true h
  unfold lowAt highAt
  omega
theorem aheadAt_mem {r : List Int} {j : Nat} {x : Int} : x ∈ aheadAt r j ↔ x ∈ r.take j ∧ lowAt r j < x ∧ x < highAt r j := by
  unfold aheadAt
  rw [sortI_mem, betw_mem]
theorem take_get {r : List Int} {j : Nat} {x : Int} : x ∈ r.take j ↔ ∃ y, y < j ∧ r[y]? = some x := by
  rw [List.mem_iff_getElem?]
  constructor
  · rintro ⟨y, h⟩
    rw [List.getElem?_take] at h
    by_cases c : y < j
    · rw [if_pos c] at h
      exact ⟨y, c, h⟩
    · rw [if_neg c] at h
      cases h
  · rintro ⟨y, c, h⟩
    exact ⟨y, by rw [List.getElem?_take, if_pos c]; exact h⟩
theorem getD_of {r s : List Int} {i j : Nat} (h : r[i]? = s[j]?) : r.getD i 0 = s.getD j 0 := by
  rw [List.getD_eq_getElem?_getD, List.getD_eq_getElem?_getD, h]
/-! exchanges, mirrors, the other numbers -/
theorem aheadAt_asc {n : Int} {r : List Int} (h : RowOk n r) (j : Nat) : (aheadAt r j).Pairwise (· < ·) :=
  sortI_asc ((h.nodup.sublist (List.take_sublist _ _)).sublist List.filter_sublist)
/-! below -/
/-! single rows -/
theorem asc_nodup {l : List Int} (h : l.Pairwise (· < ·)) : l.Nodup := h.imp fun z => Int.ne_of_lt z
theorem rows_perm {n : Int} {l : List Int} (h0 : 0 ≤ n) (h1 : n ≤ 60) (nd : l.Nodup) (m : ∀ x, x ∈ l ↔ 1 ≤ x ∧ x ≤ n) : RowOk n l :=
  ⟨(List.perm_ext_iff_of_nodup nd (asc_nodup rgN_asc)).mpr fun x => by rw [m, rgN_mem]; omega, h0, h1⟩
def behindL (a b : Int) (S : List Int) : List Int := (rgN (a + 1) (b - (a + 1)).toNat).filter fun p => !decide (p ∈ S)
theorem behindL_mem {a b x : Int} {S : List Int} : x ∈ behindL a b S ↔ a < x ∧ x < b ∧ x ∉ S := by
  unfold behindL
  rw [List.mem_filter, rgN_mem]
  simp
  constructor
  · rintro ⟨h1, h2⟩
    exact ⟨by omega, by omega, h2⟩
  · rintro ⟨h1, h2, h3⟩
    exact ⟨by omega, h3⟩
theorem behindL_asc {a b : Int} {S : List Int} : (behindL a b S).Pairwise (· < ·) := rgN_asc.sublist List.filter_sublist
def headL (a : Int) (b : Int) (S : List Int) : List Int := rgN 1 (a - 1).toNat ++ S ++ [b]
def tailL (n a b : Int) (S : List Int) : List Int := a :: (behindL a b S ++ rgN (b + 1) (n - b).toNat)
/-- the single row -/
def singleL (n a b : Int) (S : List Int) : List Int := headL a b S ++ tailL n a b S
theorem headL_asc {n a b : Int} {S : List Int} (h : ArcOk n a b S) : (headL a b S).Pairwise (· < ·) := by
  unfold headL
  rw [List.pairwise_append, List.pairwise_append]
  have h2 := h.lt
  refine ⟨⟨rgN_asc, h.asc, fun x hx y hy => ?_⟩, List.pairwise_singleton .., fun x hx y hy => ?_⟩
  · rw [rgN_mem] at hx
    have := h.mem y hy
    omega
  · rw [List.mem_singleton] at hy
    rcases List.mem_append.mp hx with hx | hx
    · rw [rgN_mem] at hx
      omega
    · have := h.mem x hx
      omega
theorem tailL_asc {n a b : Int} {S : List Int} (h : ArcOk n a b S) : (tailL n a b S).Pairwise (· < ·) := by
  unfold tailL
  have h2 := h.lt
  rw [List.pairwise_cons, List.pairwise_append]
  refine ⟨fun x hx => ?_, behindL_asc, rgN_asc, fun x hx y hy => ?_⟩
  · rcases List.mem_append.mp hx with hx | hx
    · exact (behindL_mem.mp hx).1
    · rw [rgN_mem] at hx
      omega
  · rw [rgN_mem] at hy
    have := behindL_mem.mp hx
    omega
theorem headL_mem {n a b x : Int} {S : List Int} (h : ArcOk n a b S) : x ∈ headL a b S ↔ (1 ≤ x ∧ x < a) ∨ x ∈ S ∨ x = b := by
  have h1 := h.lo
  unfold headL
  rw [List.mem_append, List.mem_append, rgN_mem, List.mem_singleton]
  constructor
  · rintro ((h | h) | h)
    · exact .inl (by omega)
    · exact .inr (.inl h)
    · exact .inr (.inr h)
  · rintro (h | h | h)
    · exact .inl (.inl (by omega))
    · exact .inl (.inr h)
    · exact .inr h
theorem tailL_mem {n a b x : Int} {S : List Int} (h : ArcOk n a b S) : x ∈ tailL n a b S ↔ x = a ∨ (a < x ∧ x < b ∧ x ∉ S) ∨ (b < x ∧ x ≤ n) := by
  have h1 := h.hi
  unfold tailL
  rw [List.mem_cons, List.mem_append, behindL_mem, rgN_mem]
  refine or_congr Iff.rfl (or_congr Iff.rfl ?_)
  omega
theorem single_ok {n a b : Int} {S : List Int} (h : ArcOk n a b S) (hn : n ≤ 60) : RowOk n (singleL n a b S) := by
  have h1 := h.lo
  have h2 := h.lt
  have h3 := h.hi
  refine rows_perm (by omega) hn ?_ fun x => ?_
  · unfold singleL
    refine List.nodup_append.mpr ⟨asc_nodup (headL_asc h), asc_nodup (tailL_asc h), fun x hx y hy e => ?_⟩
    subst e
    have m1 := (headL_mem h).mp hx
    have m2 := (tailL_mem h).mp hy
    rcases m1 with m1 | m1 | m1
    · omega
    · have := h.mem x m1
      rcases m2 with m2 | m2 | m2
      · omega
      · exact m2.2.2 m1
      · omega
    · omega
  · unfold singleL
    rw [List.mem_append, headL_mem h, tailL_mem h]
    by_cases hx : x ∈ S
    · have := h.mem x hx
      constructor
      · intro _
        omega
      · exact fun _ => .inl (.inr (.inl hx))
    · constructor
      · rintro ((c | c | c) | c | c | c)
        · omega
        · exact (hx c).elim
        · omega
        · omega
        · omega
        · omega
      · intro c
        rcases Int.lt_trichotomy x a with d | d | d
        · exact .inl (.inl (by omega))
        · exact .inr (.inl d)
        · rcases Int.lt_trichotomy x b with e | e | e
          · exact .inr (.inr (.inl ⟨d, e, hx⟩))
          · exact .inl (.inr (.inr e))
          · exact .inr (.inr (.inr (by omega)))
theorem bef_app {l m : List Int} {u v : Int} (h1 : u ∈ l) (h2 : v ∈ m) : bef (l ++ m) u v := by
  refine bef_sub.mp ?_
  have := List.Sublist.append (List.singleton_sublist.mpr h1) (List.singleton_sublist.mpr h2)
  exact this
theorem bef_parts {l m : List Int} {u v : Int} (h : bef (l ++ m) u v) : bef l u v ∨ bef m u v ∨ (u ∈ l ∧ v ∈ m) := by
  obtain ⟨x, y, hxy, e1, e2⟩ := h
  rw [List.getElem?_append] at e1 e2
  by_cases c1 : x < l.length
  · rw [if_pos c1] at e1
    by_cases c2 : y < l.length
    · rw [if_pos c2] at e2
      exact .inl ⟨x, y, hxy, e1, e2⟩
    · rw [if_neg c2] at e2
      exact .inr (.inr ⟨List.mem_of_getElem? e1, List.mem_of_getElem? e2⟩)
  · rw [if_neg c1] at e1
    rw [if_neg (by omega)] at e2
    exact .inr (.inl ⟨x - l.length, y - l.length, by omega, e1, e2⟩)
theorem asc_bef {l : List Int} (h : l.Pairwise (· < ·)) {u v : Int} (hb : bef l u v) : u < v := by
  obtain ⟨x, y, hxy, e1, e2⟩ := hb
  obtain ⟨l1, g1⟩ := List.getElem?_eq_some_iff.mp e1
  obtain ⟨l2, g2⟩ := List.getElem?_eq_some_iff.mp e2
  have := List.pairwise_iff_getElem.mp h x y l1 l2 hxy
  rw [g1, g2] at this
  exact this
/-- the turned pairs of a single row -/
theorem single_tur {n a b p q : Int} {S : List Int} (h : ArcOk n a b S) : tur (singleL n a b S) p q ↔ p < q ∧ (q ∈ S ∨ q = b) ∧ (p = a ∨ (a < p ∧ p < b ∧ p ∉ S)) := by
  have h2 := h.lt
  unfold tur singleL
  refine and_congr_right fun hpq => ?_
  constructor
  · intro hb
    rcases bef_parts hb with z | z | ⟨z1, z2⟩
    · have := asc_bef (headL_asc h) z
      omega
    · have := asc_bef (tailL_asc h) z
      omega
    · rw [headL_mem h] at z1
      rw [tailL_mem h] at z2
      have z3 : q ∈ S → q < b := fun hq => (h.mem q hq).2
      rcases z1 with z1 | z1 | z1
      · omega
      · refine ⟨.inl z1, ?_⟩
        have := z3 z1
        rcases z2 with z2 | z2 | z2
        · exact .inl z2
        · exact .inr z2
        · omega
      · refine ⟨.inr z1, ?_⟩
        rcases z2 with z2 | z2 | z2
        · exact .inl z2
        · exact .inr z2
        · omega
  · rintro ⟨h3, h4⟩
    refine bef_app ((headL_mem h).mpr (.inr h3)) ((tailL_mem h).mpr ?_)
    rcases h4 with h4 | h4
    · exact .inl h4
    · exact .inr (.inl h4)
/-- falls of two ascending stretches -/
theorem falls_two {l m : List Int} {x y : Int} (h1 : (l ++ [x]).Pairwise (· < ·)) (h2 : (y :: m).Pairwise (· < ·)) (hxy : y < x) (j : Nat) (hj : j + 1 < (l ++ [x] ++ (y :: m)).length) : isFall (l ++ [x] ++ (y :: m)) j = decide (j = l.length) := by
  unfold isFall
  rw [decide_eq_decide, List.getD_eq_getElem?_getD, List.getD_eq_getElem?_getD]
  have lx : (l ++ [x]).length = l.length + 1 := by simp
  rw [List.length_append, lx] at hj
  rw [List.getElem?_append, List.getElem?_append (l₂ := y :: m), lx]
  rcases Nat.lt_trichotomy j l.length with c | c | c
  · rw [if_pos (by omega), if_pos (by omega)]
    have g := List.pairwise_iff_getElem.mp h1 j (j + 1) (by omega) (by omega) (by omega)
    rw [List.getElem?_eq_getElem (by omega), List.getElem?_eq_getElem (by omega)]
    simp only [Option.getD_some]
    omega
  · subst c
    rw [if_neg (by omega), if_pos (by omega)]
    simp [hxy]
  · rw [if_neg (by omega), if_neg (by omega)]
    have g := List.pairwise_iff_getElem.mp h2 (j - (l.length + 1)) (j + 1 - (l.length + 1)) (by omega) (by omega) (by omega)
    rw [List.getElem?_eq_getElem (by omega), List.getElem?_eq_getElem (by omega)]
    simp only [Option.getD_some]
    omega
theorem filter_eq_range {n k : Nat} (h : k < n) : (List.range n).filter (fun i => decide (i = k)) = [k] := by
  induction n with
  | zero => omega
  | succ n ih =>
    rw [List.range_succ, List.filter_append]
    by_cases c : k = n
    · subst c
      have : (List.range k).filter (fun i => decide (i = k)) = [] := by
        rw [List.filter_eq_nil_iff]
        intro x hx
        rw [List.mem_range] at hx
        simp
        omega
      rw [this]
      simp
    · rw [ih (by omega)]
      simp
      omega
def kAt (a : Int) (S : List Int) : Nat := (rgN 1 (a - 1).toNat ++ S).length
theorem single_fall {n a b : Int} {S : List Int} (h : ArcOk n a b S) (j : Nat) (hj : j + 1 < (singleL n a b S).length) : isFall (singleL n a b S) j = decide (j = kAt a S) :=
  falls_two (headL_asc h) (tailL_asc h) h.lt j hj
theorem kAt_lt {n a b : Int} {S : List Int} : kAt a S + 1 < (singleL n a b S).length := by
  unfold kAt singleL headL tailL
  simp only [List.length_append, List.length_cons, List.length_nil]
  omega
theorem single_at {n a b : Int} {S : List Int} : (singleL n a b S).getD (kAt a S) 0 = b ∧ (singleL n a b S).getD (kAt a S + 1) 0 = a ∧ (singleL n a b S).take (kAt a S) = rgN 1 (a - 1).toNat ++ S := by
  have e : singleL n a b S = (rgN 1 (a - 1).toNat ++ S) ++ (b :: a :: (behindL a b S ++ rgN (b + 1) (n - b).toNat)) := by
    unfold singleL headL tailL
    simp
  rw [e]
  unfold kAt
  refine ⟨?_, ?_, ?_⟩
  · rw [List.getD_eq_getElem?_getD, List.getElem?_append_right (Nat.le_refl _), Nat.sub_self]
    rfl
  · rw [List.getD_eq_getElem?_getD, List.getElem?_append_right (by omega), Nat.add_sub_cancel_left]
    rfl
  · exact List.take_left' rfl
theorem single_arcOf {n a b : Int} {S : List Int} (h : ArcOk n a b S) (hn : n ≤ 60) : arcOf (singleL n a b S) (kAt a S) = arcD a b S := by
  obtain ⟨e1, e2, e3⟩ := single_at (n := n) (a := a) (b := b) (S := S)
  have h2 := h.lt
  have hl : lowAt (singleL n a b S) (kAt a S) = a := by unfold lowAt; rw [e1, e2]; omega
  have hh : highAt (singleL n a b S) (kAt a S) = b := by unfold highAt; rw [e1, e2]; omega
  unfold arcOf
  have : aheadAt (singleL n a b S) (kAt a S) = S := asc_unique (aheadAt_asc (single_ok h hn) _) h.asc fun x => by
    rw [aheadAt_mem, hl, hh, e3, List.mem_append, rgN_mem]
    constructor
    · rintro ⟨c | c, d1, d2⟩
      · omega
      · exact c
    · intro hx
      exact ⟨.inr hx, h.mem x hx⟩
  rw [hl, hh, this]
theorem single_arcs {n a b : Int} {S : List Int} (h : ArcOk n a b S) (hn : n ≤ 60) : arcsD (singleL n a b S) true = [arcD a b S] := by
  have hk := kAt_lt (n := n) (a := a) (b := b) (S := S)
  have : (List.range ((singleL n a b S).length - 1)).filter (fun i => isFall (singleL n a b S) i == true) = [kAt a S] := by
    rw [← filter_eq_range (n := (singleL n a b S).length - 1) (k := kAt a S) (by omega)]
    refine List.filter_congr fun i hi => ?_
    rw [List.mem_range] at hi
    rw [single_fall h i (by omega)]
    simp
  unfold arcsD arcsL
  rw [this, List.map_cons, List.map_nil, single_arcOf h hn, List.mergeSort_singleton]
/-- a row with a fall that has the arc -/
structure HasFall (n a b : Int) (S r : List Int) : Prop where
  ok : RowOk n r
  parts : ∃ l m, r = l ++ (b :: a :: m) ∧ (∀ x ∈ S, x ∈ l) ∧ ∀ x, a < x → x < b → x ∉ S → x ∈ m
theorem HasFall.arc {n a b : Int} {S r : List Int} (h : HasFall n a b S r) (ha : ArcOk n a b S) : arcD a b S ∈ arcsL r true := by
  obtain ⟨l, m, rfl, h1, h2⟩ := h.parts
  have hlt := ha.lt
  have g0 : (l ++ (b :: a :: m)).getD l.length 0 = b := by
    rw [List.getD_eq_getElem?_getD, List.getElem?_append_right (Nat.le_refl _), Nat.sub_self]
    rfl
  have g1 : (l ++ (b :: a :: m)).getD (l.length + 1) 0 = a := by
    rw [List.getD_eq_getElem?_getD, List.getElem?_append_right (by omega), Nat.add_sub_cancel_left]
    rfl
  have hl : lowAt (l ++ (b :: a :: m)) l.length = a := by unfold lowAt; rw [g0, g1]; omega
  have hh : highAt (l ++ (b :: a :: m)) l.length = b := by unfold highAt; rw [g0, g1]; omega
  unfold arcsL
  refine List.mem_map.mpr ⟨l.length, List.mem_filter.mpr ⟨List.mem_range.mpr (by simp), ?_⟩, ?_⟩
  · unfold isFall
    rw [g0, g1, decide_eq_true hlt]
    rfl
  · unfold arcOf
    have : aheadAt (l ++ (b :: a :: m)) l.length = S := asc_unique (aheadAt_asc h.ok _) ha.asc fun x => by
      rw [aheadAt_mem, hl, hh, List.take_left' rfl]
      constructor
      · rintro ⟨c, d1, d2⟩
        by_cases z : x ∈ S
        · exact z
        · have m1 := h2 x d1 d2 z
          have nd := h.ok.nodup
          rw [List.nodup_append] at nd
          exact (nd.2.2 x c x (List.mem_cons_of_mem _ (List.mem_cons_of_mem _ m1)) rfl).elim
      · intro hx
        exact ⟨h1 x hx, ha.mem x hx⟩
    rw [hl, hh, this]
theorem HasFall.le {n a b : Int} {S r : List Int} (h : HasFall n a b S r) (ha : ArcOk n a b S) : LeR (singleL n a b S) r := fun p q z => by
  obtain ⟨h1, h2, h3⟩ := (single_tur ha).mp z
  obtain ⟨l, m, rfl, h4, h5⟩ := h.parts
  refine ⟨h1, ?_⟩
  rw [show l ++ (b :: a :: m) = (l ++ [b]) ++ (a :: m) by simp]
  refine bef_app ?_ ?_
  · rcases h2 with h2 | h2
    · exact List.mem_append_left _ (h4 q h2)
    · rw [h2]
      simp
  · rcases h3 with h3 | ⟨h3, h6, h7⟩
    · rw [h3]
      simp
    · exact List.mem_cons_of_mem _ (h5 p h3 h6 h7)
/-! all rows of up to five numbers, in the order in which they are gone through -/
def permsK (n : Nat) : List (List Nat) := List.range n :: ((Kp.runP n n 1000 (List.range n ++ (List.range n).map fun i => n - i)).getD [])
def rowsAll (n : Int) : List (List Int) := (permsK n.toNat).map fun r => r.map fun (k : Nat) => 1 + (k : Int)
def nwords (al : List Int) : Nat → List (List Int)
  | 0 => [[]]
  | k + 1 => (nwords al k).flatMap fun r => (al.filter fun x => !r.contains x).map fun x => x :: r
theorem nwords_mem {al : List Int} : ∀ {r : List Int}, r.Nodup → (∀ x ∈ r, x ∈ al) → r ∈ nwords al r.length
  | [], _, _ => List.mem_singleton.mpr rfl
  | x :: r, nd, h => by
    rw [List.nodup_cons] at nd
    show x :: r ∈ (nwords al r.length).flatMap _
    rw [List.mem_flatMap]
    refine ⟨r, nwords_mem nd.2 fun y hy => h y (List.mem_cons_of_mem _ hy), List.mem_map.mpr ⟨x, List.mem_filter.mpr ⟨h x List.mem_cons_self, ?_⟩, rfl⟩⟩
    simp [nd.1]
theorem perms_ok : ∀ n : Nat, n < 6 → Kp.IsPerms n (permsK n) := by
  intro n hn
  have : n = 0 ∨ n = 1 ∨ n = 2 ∨ n = 3 ∨ n = 4 ∨ n = 5 := by omega
  rcases this with rfl | rfl | rfl | rfl | rfl | rfl
  all_goals exact ⟨_, rfl, by decide, by decide +kernel, by decide +kernel, by decide +kernel⟩
theorem allrows_in : ∀ n : Nat, n < 6 → ∀ r ∈ rowsAll n, r.isPerm (rgN 1 n) = true := by decide +kernel
theorem allrows_all : ∀ n : Nat, n < 6 → ∀ r ∈ nwords (rgN 1 n) n, r ∈ rowsAll n := by decide +kernel
theorem rowsAll_iff {n : Int} {r : List Int} (h0 : 0 ≤ n) (h5 : n ≤ 5) : r ∈ rowsAll n ↔ RowOk n r := by
  obtain ⟨m, rfl⟩ := Int.eq_ofNat_of_zero_le h0
  constructor
  · intro h
    exact ⟨List.isPerm_iff.mp (allrows_in m (by omega) r h), h0, by omega⟩
  · intro h
    have hl := h.len
    have e : r.length = m := by omega
    have := nwords_mem (al := rgN 1 m) h.nodup fun x hx => h.perm.mem_iff.mp hx
    rw [e] at this
    exact allrows_all m (by omega) r this
theorem rowsAll_len {n : Int} (h0 : 0 ≤ n) (h5 : n ≤ 5) : 1 ≤ (rowsAll n).length ∧ (rowsAll n).length ≤ 120 := by
  obtain ⟨m, rfl⟩ := Int.eq_ofNat_of_zero_le h0
  have : ∀ m : Nat, m < 6 → 1 ≤ (rowsAll m).length ∧ (rowsAll m).length ≤ 120 := by decide +kernel
  exact this m (by omega)
def C_all_rows : Con := fun _ es P => ∃ n : Int, es = [.dat (.int n)] ∧ 1 ≤ n ∧ n ≤ 5 ∧ P (.dat (.tuple ((rowsAll n).map rowD)))
theorem ok_all_rows (T : Tx K mg) : FnOk P w K mg base CX0 1 T.f_all_rows T.d_all_rows ["n"] (SpC K C_all_rows) := by
  refine kfn T.F_all_rows sc_all_rows (fun W es P ⟨_, h, _⟩ => by rw [h]; rfl) fun cdv A outer s H E hr => ⟨_, (pss_one (ps_ret (Kp.pe_tupPm rfl (by rfl) T.m_tuple (by rfl) T.p_permutations (prg_2 (by rfl) T.m_range pe_int (pe_op (op_addK (K := K) rfl) (pv 0) pe_int))))), fun W es P hC => ?_⟩
  obtain ⟨n, rfl, h1, h5, q⟩ := hC
  try dsimp only [cx_K, cx_w]
  walk_at "ka"
  refine ⟨⟨by omega, by omega, by omega, by omega, by omega⟩, permsK (n + 1 - 1).toNat, perms_ok _ (by omega), ?_⟩
  have e : (permsK (n + 1 - 1).toNat).map (fun r => PyData.tuple ((r.map fun (k : Nat) => 1 + (k : Int)).map PyData.int)) = (rowsAll n).map rowD := by
    unfold rowsAll
    rw [List.map_map, show n + 1 - 1 = n by omega]
    rfl
  rw [e]
  exact ⟨Wd.Le.refl W, q⟩

def isArcD (n : Int) : PyData → Bool
  | .tuple [x, y, z] => (numIn x 1 n && numIn y (intOf x + 1) n) && (ascNums z && ((itemsOf z).map intOf).all fun p => decide (intOf x < p) && decide (p < intOf y))
  | _ => false
/-- the size of what stands third -/
def thirdOf : PyData → List PyData
  | .tuple [_, _, z] => itemsOf z
  | _ => []
theorem isArcD_of {n a b : Int} {S : List Int} (h : ArcOk n a b S) : isArcD n (arcD a b S) = true := by
  have h1 := h.lo
  have h2 := h.lt
  have h3 := h.hi
  show ((numIn (.int a) 1 n && numIn (.int b) (a + 1) n) && (ascNums (.tuple (intsD S)) && ((intsD S).map intOf).all fun p => decide (a < p) && decide (p < b))) = true
  have e1 : numIn (.int a) 1 n = true := by
    show (true && (decide (1 ≤ a) && decide (a ≤ n))) = true
    rw [decide_eq_true h1, decide_eq_true (by omega : a ≤ n)]
    rfl
  have e2 : numIn (.int b) (a + 1) n = true := by
    show (true && (decide (a + 1 ≤ b) && decide (b ≤ n))) = true
    rw [decide_eq_true (by omega : a + 1 ≤ b), decide_eq_true h3]
    rfl
  have e3 : ascNums (.tuple (intsD S)) = true := by
    show ((true && (intsD S).all isInt) && decide (((intsD S).map intOf).Pairwise (· < ·))) = true
    rw [ints_all, ints_intOf, decide_eq_true h.asc]
    rfl
  rw [e1, e2, e3, ints_intOf]
  refine List.all_eq_true.mpr fun p hp => ?_
  have := h.mem p hp
  rw [decide_eq_true this.1, decide_eq_true this.2]
  rfl
theorem isArcD_not {n : Int} {d : PyData} (h : ¬ ∃ x y z, d = .tuple [x, y, z]) : isArcD n d = false := by
  unfold isArcD
  split
  · rename_i x y z
    exact absurd ⟨x, y, z, rfl⟩ h
  · rfl
def C_is_arc : Con := fun _ es P => ∃ n d, es = [.dat (.int n), .dat d] ∧ (thirdOf d).length < 64 ∧ SeqAt.shaped d = true ∧ P (.dat (.bool (isArcD n d)))
theorem ok_is_arc (T : Tx K mg) : FnOk P w K mg base CX0 4 T.f_is_arc T.d_is_arc ["n", "thing"] (SpC K C_is_arc) := by
  refine kfn T.F_is_arc sc_is_arc (fun W es P ⟨_, _, h, _⟩ => by rw [h]; rfl) fun cdv A outer s H E hr => ⟨_, (pss_cons (ps_if (PW.pt (pw_or (pt_not (pt_val (pe_callB (cr_isiK (K := K) rfl) (by rfl) T.m_isinstance (by decide +kernel) (pa_cons (pv 1) (pa_cons (pe_bltn (v := .ty "tuple") (by rfl) T.m_tuple (by decide +kernel) rfl) pa_nil))))) (pw_or1 (pt_cmpR (op_neK (K := K) rfl hr.units) (pe_callB (cr_lenK (K := K) rfl) (by rfl) T.m_len (by decide +kernel) (pa_cons (pv 1) pa_nil)) pe_int (nomark _))))) (pss_one (ps_ret pe_bl)) pss_nil)
      (pss_cons (ps_asg (pv 1) (pg_tupK (K := K) rfl (pg_tup (n := 3) rfl (pgs_cons (pg_name (i := 2) sc_is_arc.nd rfl (by first | exact Or.inl rfl | exact Or.inr rfl)) (pgs_cons (pg_name (i := 3) sc_is_arc.nd rfl (by first | exact Or.inl rfl | exact Or.inr rfl)) (pgs_cons (pg_name (i := 4) sc_is_arc.nd rfl (by first | exact Or.inl rfl | exact Or.inr rfl)) pgs_nil))))))
      (pss_cons (ps_if (PW.pt (pw_or (pt_not (pt_val (pe_call (ok_is_number_from T) (hr.mono (by decide)) (by rfl) T.g_is_number_from T.F_is_number_from.kp T.b_is_number_from .nil pass0 (pa_cons (pv 2) (pa_cons pe_int (pa_cons (pv 0) pa_nil)))))) (pw_or1 (pt_not (pt_val (pe_call (ok_is_number_from T) (hr.mono (by decide)) (by rfl) T.g_is_number_from T.F_is_number_from.kp T.b_is_number_from .nil pass0 (pa_cons (pv 3) (pa_cons (pe_op (op_addK (K := K) rfl) (pv 2) pe_int) (pa_cons (pv 0) pa_nil))))))))) (pss_one (ps_ret pe_bl)) pss_nil)
      (pss_one (ps_ret (pe_and (pe_call (ok_are_ascending_numbers T) hr (by rfl) T.g_are_ascending_numbers T.F_are_ascending_numbers.kp T.b_are_ascending_numbers .nil pass0 (pa_cons (pv 4) pa_nil)) (pe_one (pe_callB (cr_allK (K := K) rfl rfl) (by rfl) T.m_all (by decide +kernel) (pa_cons (pe_lc (own := [("p", 5)]) rfl sc_is_arc.nd (pi_seqK (K := K) rfl (pv 4)) (blkOk_by (N := N_is_arc) (sc := defScope s_is_arc) (by decide +kernel)) (fun _ _ _ _ _ => (pg_name (i := 5) sc_is_arc.nd rfl (by first | exact Or.inl rfl | exact Or.inr rfl))) (fun _ _ _ _ _ => pts_nil) (fun _ _ _ _ _ => (pe_chain op_lt op_lt (pv 2) (pv 5) (pv 3)))) pa_nil))))))))), fun W es P hC => ?_⟩
  obtain ⟨n, d, rfl, hz, hsh, q⟩ := hC
  try dsimp only [cx_K, cx_w]
  refine ds_seq ?_
  walk_at "ka"
  refine cal_isi (kit_tuple d) ⟨_, rfl, fun e => ?_, fun e => ?_⟩
  · obtain ⟨ds, rfl⟩ : ∃ ds, d = .tuple ds := ⟨_, isTup_eq (by cases h : isTup d with | true => rfl | false => rw [h] at e; cases e)⟩
    walk_at "ka"
    refine opd_ne (by rfl) (by rfl) ⟨_, rfl, fun e2 => ?_, fun e2 => ?_⟩
    · walk_at "ka"
      have hn : ¬ ∃ x y z, (PyData.tuple ds) = .tuple [x, y, z] := fun ⟨x, y, z, h⟩ => by
        cases h
        simp [PyData.eqv] at e2
      rw [isArcD_not hn] at q
      exact ⟨Wd.Le.refl W, q⟩
    · have h3 : ds.length = 3 := by
        have z : (!decide ((ds.length : Int) = 3)) = false := e2
        simp only [Bool.not_eq_false', decide_eq_true_eq] at z
        omega
      obtain ⟨x, y, z, rfl⟩ : ∃ x y z, ds = [x, y, z] := by
        match ds, h3 with
        | [x, y, z], _ => exact ⟨x, y, z, rfl⟩
      walk_at "ka"
      refine ⟨_, _, tg_tup3, ?_⟩
      refine ds_seq ?_
      walk_at "ka"
      refine ⟨x, 1, n, rfl, _, rfl, fun e3 => ?_, fun e3 => ⟨fun _ => ?_, nofun⟩⟩
      · -- a is a number from 1 to n
        have e3 : numIn x 1 n = true := by simpa using e3
        obtain ⟨a, rfl⟩ : ∃ a, x = .int a := ⟨_, isInt_eq (by unfold numIn at e3; rw [Bool.and_eq_true] at e3; exact e3.1)⟩
        walk_at "ka"
        refine ⟨y, a + 1, n, rfl, _, rfl, fun e4 => ?_, fun e4 => ?_⟩
        · walk_at "ka"
          have q' : P (.dat (.bool ((numIn (.int a) 1 n && numIn y (a + 1) n) && (ascNums z && ((itemsOf z).map intOf).all fun p => decide (a < p) && decide (p < intOf y))))) := q
          have e4 : numIn y (a + 1) n = false := by simpa using e4
          rw [e4, Bool.and_false, Bool.false_and] at q'
          exact ⟨Wd.Le.refl W, q'⟩
        · have e4 : numIn y (a + 1) n = true := by simpa using e4
          obtain ⟨b, rfl⟩ : ∃ b, y = .int b := ⟨_, isInt_eq (by unfold numIn at e4; rw [Bool.and_eq_true] at e4; exact e4.1)⟩
          have q' : P (.dat (.bool ((numIn (.int a) 1 n && numIn (.int b) (a + 1) n) && (ascNums z && ((itemsOf z).map intOf).all fun p => decide (a < p) && decide (p < b))))) := q
          rw [e3, e4, Bool.true_and] at q'
          walk_at "ka"
          refine ⟨z, rfl, hz, _, rfl, fun e5 => ?_, fun e5 => ⟨Wd.Le.refl W, ?_⟩⟩
          · obtain ⟨ns, rfl⟩ : ∃ ns, z = .tuple (intsD ns) := by
              unfold ascNums areInts at e5
              rw [Bool.and_eq_true, Bool.and_eq_true] at e5
              exact ⟨(itemsOf z).map intOf, by rw [← all_ints e5.1.2]; exact isTup_eq e5.1.1⟩
            have hl : ns.length < 64 := by
              have e : (itemsOf (.tuple (intsD ns))).length = ns.length := List.length_map ..
              have hz : (itemsOf (.tuple (intsD ns))).length < 64 := hz
              omega
            walk_at "ka"
            refine de_lcM ns (fun p => DV.dat (.int p)) (fun _ => true) (fun p => .bool (decide (a < p) && decide (p < b))) (di_seqT ?_) (by omega) ?_ ?_
            · walk_at "ka"
              show (intsD ns).map DV.dat = _
              unfold intsD
              rw [List.map_map]
              rfl
            · intro p hp W' hW
              refine ⟨_, _, tg_name, by simp, ?_⟩
              walk_at "ka"
              refine ⟨rfl, fun _ => ?_⟩
              walk_at "ka"
              refine ⟨fun e6 => ?_, fun e6 => by rw [e6]; rfl⟩
              walk_at "ka"
              rw [e6]
              rfl
            · walk_at "ka"
              rw [List.filter_eq_self.mpr (fun _ _ => rfl)]
              have e2 : ns.map (fun p => PyData.bool (decide (a < p) && decide (p < b))) = (ns.map fun p => decide (a < p) && decide (p < b)).map PyData.bool := by rw [List.map_map]; rfl
              rw [e2]
              refine cal_all ⟨Wd.Le.refl W, ?_⟩
              rw [List.all_map]
              have e7 : (itemsOf (.tuple (intsD ns))).map intOf = ns := ints_intOf ns
              rw [e7, e5, Bool.true_and] at q'
              exact q'
          · rw [e5] at q'
            exact q'
      · walk_at "ka"
        have e3 : numIn x 1 n = false := by simpa using e3
        have q' : P (.dat (.bool ((numIn x 1 n && numIn y (intOf x + 1) n) && (ascNums z && ((itemsOf z).map intOf).all fun p => decide (intOf x < p) && decide (p < intOf y))))) := q
        rw [e3, Bool.false_and, Bool.false_and] at q'
        exact ⟨Wd.Le.refl W, q'⟩
  · have hn : ¬ ∃ x y z, d = .tuple [x, y, z] := fun ⟨x, y, z, h⟩ => by
      subst h
      cases e
    rw [isArcD_not hn] at q
    refine ⟨fun _ => ?_, nofun⟩
    walk_at "ka"
    exact ⟨Wd.Le.refl W, q⟩

theorem shaped_arc {a b : Int} {S : List Int} : SeqAt.shaped (arcD a b S) = true := by
  simp [SeqAt.shaped, arcD, PyData.canLay0, PyData.canLayAll0, canLay_ints, PyData.depth, PyData.depthAll, depth_intsD]
theorem third_arc {a b : Int} {S : List Int} : (thirdOf (arcD a b S)).length = S.length := List.length_map ..
def C_check_arc : Con := fun _ es P => ∃ n d, es = [.dat (.int n), .dat d] ∧ (thirdOf d).length < 64 ∧ SeqAt.shaped d = true ∧ isArcD n d = true ∧ P (.dat .none)
theorem ok_check_arc (T : Tx K mg) : FnOk P w K mg base CX0 5 T.f_check_arc T.d_check_arc ["n", "arc"] (SpC K C_check_arc) := by
  refine kfn T.F_check_arc sc_check_arc (fun W es P ⟨_, _, h, _⟩ => by rw [h]; rfl) fun cdv A outer s H E hr => ⟨_, (pss_one (ps_if (pt_not (pt_val (pe_call (ok_is_arc T) hr (by rfl) T.g_is_arc T.F_is_arc.kp T.b_is_arc .nil pass0 (pa_cons (pv 0) (pa_cons (pv 1) pa_nil))))) (pss_one ps_never) pss_nil)), fun W es P hC => ?_⟩
  obtain ⟨n, d, rfl, hz, hsh, ha, q⟩ := hC
  try dsimp only [cx_K, cx_w]
  walk_at "ka"
  refine ⟨n, d, rfl, hz, hsh, _, rfl, fun e => ?_, fun _ => ds_next ⟨Wd.Le.refl W, q⟩⟩
  rw [ha] at e
  cases e

/-- arcs, told apart -/
abbrev Arc3 := Int × Int × List Int
def arcT (p : Arc3) : PyData := arcD p.1 p.2.1 p.2.2
def overT (p : Arc3) : Arc3 := (p.1, p.2.1, (rgN (p.1 + 1) (p.2.1 - (p.1 + 1)).toNat).filter fun x => !decide (x ∈ p.2.2))
theorem arcT_arcs (L : List Arc3) : ArcL (L.map arcT) := fun x hx => by
  obtain ⟨p, _, rfl⟩ := List.mem_map.mp hx
  exact ⟨_, _, _, rfl⟩
/-- all choices among numbers, as they are found -/
def choL (l : List Int) : List (List Int) := l.foldl (fun acc p => acc ++ acc.map (· ++ [p])) [[]]
theorem choL_snoc (l : List Int) (p : Int) : choL (l ++ [p]) = choL l ++ (choL l).map (· ++ [p]) := by
  unfold choL
  rw [List.foldl_append]
  rfl
theorem choL_len (a : Int) : ∀ k : Nat, (choL (rgN a k)).length = 2 ^ k
  | 0 => rfl
  | k + 1 => by
    rw [rgN_succ, choL_snoc, List.length_append, List.length_map, choL_len a k, Nat.pow_succ]
    omega
theorem choL_mem (a : Int) : ∀ (k : Nat) (S : List Int), S ∈ choL (rgN a k) ↔ S.Pairwise (· < ·) ∧ ∀ p ∈ S, a ≤ p ∧ p < a + k
  | 0, S => by
    show S ∈ [[]] ↔ _
    rw [List.mem_singleton]
    constructor
    · rintro rfl
      exact ⟨.nil, by simp⟩
    · rintro ⟨_, h⟩
      cases S with
      | nil => rfl
      | cons x _ =>
        have := h x (by simp)
        omega
  | k + 1, S => by
    rw [rgN_succ, choL_snoc, List.mem_append, List.mem_map]
    constructor
    · rintro (h | ⟨R, h, rfl⟩)
      · obtain ⟨h1, h2⟩ := (choL_mem a k S).mp h
        exact ⟨h1, fun p hp => by have := h2 p hp; omega⟩
      · obtain ⟨h1, h2⟩ := (choL_mem a k R).mp h
        refine ⟨?_, fun p hp => ?_⟩
        · rw [List.pairwise_append]
          refine ⟨h1, List.pairwise_singleton .., fun p hp x hx => ?_⟩
          rw [List.mem_singleton] at hx
          have := h2 p hp
          omega
        · rcases List.mem_append.mp hp with hp | hp
          · have := h2 p hp
            omega
          · rw [List.mem_singleton] at hp
            omega
    · rintro ⟨h1, h2⟩
      by_cases hm : a + k ∈ S
      · right
        obtain ⟨R, hR⟩ : ∃ R, S = R ++ [a + k] := by
          rcases List.eq_nil_or_concat S with e | ⟨R, x, e⟩
          · rw [e] at hm
            cases hm
          · rw [List.concat_eq_append] at e
            refine ⟨R, ?_⟩
            rw [e] at hm h1 h2 ⊢
            rw [List.pairwise_append] at h1
            rcases List.mem_append.mp hm with hm | hm
            · have := h1.2.2 _ hm x (by simp)
              have := h2 x (by simp)
              omega
            · rw [List.mem_singleton] at hm
              rw [hm]
        refine ⟨R, (choL_mem a k R).mpr ⟨?_, fun p hp => ?_⟩, hR.symm⟩
        · rw [hR, List.pairwise_append] at h1
          exact h1.1
        · have z := h2 p (by rw [hR]; simp [hp])
          rw [hR, List.pairwise_append] at h1
          have := h1.2.2 p hp (a + k) (by simp)
          omega
      · left
        refine (choL_mem a k S).mpr ⟨h1, fun p hp => ?_⟩
        have := h2 p hp
        have : p ≠ a + k := fun e => hm (e ▸ hp)
        omega
def arcsAt (a b : Int) : List Arc3 := (choL (rgN (a + 1) (b - (a + 1)).toNat)).map fun S => (a, b, S)
def arcsTo (n : Int) (as : List Int) : List Arc3 := as.flatMap fun a => (rgN (a + 1) (n - a).toNat).flatMap (arcsAt a)
def arcsN (n : Int) : List Arc3 := arcsTo n (rgN 1 n.toNat)
theorem arcsN_mem {n : Int} (h0 : 0 ≤ n) {p : Arc3} : p ∈ arcsN n ↔ ArcOk n p.1 p.2.1 p.2.2 := by
  unfold arcsN arcsTo arcsAt
  rw [List.mem_flatMap]
  constructor
  · rintro ⟨a, ha, h⟩
    obtain ⟨b, hb, h⟩ := List.mem_flatMap.mp h
    obtain ⟨S, hS, rfl⟩ := List.mem_map.mp h
    rw [rgN_mem] at ha hb
    obtain ⟨h1, h2⟩ := (choL_mem _ _ _).mp hS
    exact ⟨by show 1 ≤ a; omega, by show a < b; omega, by show b ≤ n; omega, h1, fun p hp => by have := h2 p hp; show a < p ∧ p < b; omega⟩
  · rintro h
    have h1 := h.lo
    have h2 := h.lt
    have h3 := h.hi
    refine ⟨p.1, rgN_mem.mpr (by omega), List.mem_flatMap.mpr ⟨p.2.1, rgN_mem.mpr (by omega), List.mem_map.mpr ⟨p.2.2, (choL_mem _ _ _).mpr ⟨h.asc, fun x hx => ?_⟩, rfl⟩⟩⟩
    have := h.mem x hx
    omega
theorem arcsAt_len {a b : Int} : (arcsAt a b).length = 2 ^ (b - (a + 1)).toNat := by
  unfold arcsAt
  rw [List.length_map, choL_len]

def tupI (S : List Int) : PyData := .tuple (intsD S)
theorem arcsAt_small {a b n : Int} (h1 : 1 ≤ a) (h2 : b ≤ n) (h3 : n ≤ 8) : (arcsAt a b).length ≤ 64 := by
  rw [arcsAt_len]
  exact Nat.le_trans (Nat.pow_le_pow_right (by decide) (show (b - (a + 1)).toNat ≤ 6 by omega)) (by decide)
theorem flat_len {α β : Type} {c : Nat} {f : α → List β} : ∀ {l : List α}, (∀ x ∈ l, (f x).length ≤ c) → (l.flatMap f).length ≤ l.length * c
  | [], _ => Nat.zero_le _
  | x :: l, h => by
    have h1 := h x (by simp)
    have h2 := flat_len (l := l) (f := f) (c := c) fun y hy => h y (by simp [hy])
    rw [List.flatMap_cons, List.length_append, List.length_cons, Nat.add_mul]
    omega
theorem arcsTo_small {n : Int} (h3 : n ≤ 8) {i : Nat} (hi : (i : Int) ≤ n) : (arcsTo n (rgN 1 i)).length ≤ 8 * 512 := by
  refine Nat.le_trans (flat_len (c := 512) fun a ha => ?_) (Nat.mul_le_mul_right _ (by rw [rgN_length]; omega))
  rw [rgN_mem] at ha
  refine Nat.le_trans (flat_len (c := 64) fun b hb => ?_) (by rw [rgN_length]; omega)
  rw [rgN_mem] at hb
  exact arcsAt_small (n := n) (by omega) (by omega) h3
theorem ints_at2 {l : List Int} {i : Nat} {e : DV} (h : ((intsD l).map DV.dat)[i]? = some e) : ∃ x, l[i]? = some x ∧ e = .dat (.int x) := by
  unfold intsD at h
  rw [List.map_map, List.getElem?_map] at h
  cases q : l[i]? with
  | none =>
    rw [q] at h
    cases h
  | some x =>
    rw [q] at h
    cases h
    exact ⟨x, rfl, rfl⟩

def C_choices : Con := fun _ es P => ∃ (a : Int) (k : Nat), es = [.dat (.list (intsD (rgN a k)))] ∧ k ≤ 7 ∧ P (.dat (.list ((choL (rgN a k)).map tupI)))
theorem ok_choices (T : Tx K mg) : FnOk P w K mg base CX0 1 T.f_choices T.d_choices ["numbers"] (SpC K C_choices) := by
  refine kfn T.F_choices sc_choices (fun W es P ⟨_, _, h, _⟩ => by rw [h]; rfl) fun cdv A outer s H E hr => ⟨_, (pss_cons (ps_set (i := 1) sc_choices.nd rfl (by first | exact Or.inl rfl | exact Or.inr rfl) (pe_lst (pa_cons (pe_tup pa_nil) pa_nil)))
      (pss_cons (ps_for PassesOwn.never rfl (pi_seqK (K := K) rfl (pv 0)) (pg_name (i := 2) sc_choices.nd rfl (by first | exact Or.inl rfl | exact Or.inr rfl)) (pss_one (ps_set (i := 1) sc_choices.nd rfl (by first | exact Or.inl rfl | exact Or.inr rfl) (pe_op (op_addK (K := K) rfl) (pv 1) (pe_lc (own := [("some", 3)]) rfl sc_choices.nd (pi_seqK (K := K) rfl (pv 1)) (blkOk_by (N := N_choices) (sc := defScope s_choices) (by decide +kernel)) (fun _ _ _ _ _ => (pg_name (i := 3) sc_choices.nd rfl (by first | exact Or.inl rfl | exact Or.inr rfl))) (fun _ _ _ _ _ => pts_nil) (fun _ _ _ _ _ => (pe_op (op_addK (K := K) rfl) (pv 3) (pe_tup (pa_cons (pv 2) pa_nil)))))))))
      (pss_one (ps_ret (pv 1))))), fun W es P hC => ?_⟩
  obtain ⟨a, m, rfl, hm, q⟩ := hC
  try dsimp only [cx_K, cx_w]
  refine dq_set ?_
  refine de_lst ?_
  walk_at "ka"
  refine ds_seq (ds_for ?_)
  refine di_seqL ?_
  walk_at "ka"
  refine ⟨fun k W' Δ' => W' = W ∧ ∃ x2, Δ' = [some (.dat (.list (intsD (rgN a m)))), some (.dat (.list ((choL (rgN a k)).map tupI))), x2, none], ⟨rfl, none, rfl⟩, ?_, ?_⟩
  · rintro k e W' Δ' he ⟨rfl, x2, rfl⟩
    obtain ⟨z, hz, rfl⟩ := ints_at2 he
    have hk : k < m := by
      have := (List.getElem?_eq_some_iff.mp hz).1
      rw [rgN_length] at this
      exact this
    have ez : z = a + (k : Int) := by
      unfold rgN at hz
      rw [List.getElem?_map, List.getElem?_range hk] at hz
      exact (Option.some.inj hz).symm
    subst ez
    have hk2 : (choL (rgN a k)).length ≤ 64 := by
      rw [choL_len]
      exact Nat.le_trans (Nat.pow_le_pow_right (by decide) (show k ≤ 6 by omega)) (by decide)
    refine ⟨_, _, tg_name, ?_⟩
    walk_at "ka"
    refine de_lcM (choL (rgN a k)) (fun S => DV.dat (tupI S)) (fun _ => true) (fun S => tupI (S ++ [a + (k : Int)])) (di_seqL ?_) (by omega) ?_ ?_
    · walk_at "ka"
      exact List.map_map ..
    · intro S hS W'' hW
      refine ⟨_, _, tg_name, by simp, ?_⟩
      walk_at "ka"
      refine ⟨rfl, fun _ => ?_⟩
      walk_at "ka"
      have hz : S.length ≤ 100 := by
        obtain ⟨s1, s2⟩ := (choL_mem _ _ _).mp hS
        have := asc_len (a := a - 1) (b := a + k) s1 fun p hp => by have := s2 p hp; omega
        omega
      refine opd_addT (by rw [intsD_len]; simp; omega) ?_
      show DV.dat (.tuple (intsD S ++ intsD [a + (k : Int)])) = _
      rw [intsD_append]
      rfl
    · rw [List.filter_eq_self.mpr (fun _ _ => rfl)]
      refine opd_addL (by rw [List.length_map, List.length_map]; omega) ?_
      refine ⟨rfl, some (.dat (.int (a + (k : Int)))), ?_⟩
      rw [rgN_succ, choL_snoc, List.map_append, List.map_map]
      rfl
  · rintro W' Δ' ⟨rfl, x2, rfl⟩
    rw [List.length_map, intsD_len, rgN_length]
    walk_at "ka"
    exact ⟨Wd.Le.refl _, q⟩

/-- the two arcs within, shorter by one -/
def short3 (p : Arc3) : List Arc3 := if p.2.1 - p.1 = 1 then [] else [(p.1, p.2.1 - 1, betw p.1 (p.2.1 - 1) p.2.2), (p.1 + 1, p.2.1, betw (p.1 + 1) p.2.1 p.2.2)]
theorem arcT_inj {p q : Arc3} (h : arcT p = arcT q) : p = q := by
  unfold arcT arcD at h
  injection h with h
  injection h with h1 h
  injection h with h2 h
  injection h with h3 h
  injection h1 with h1
  injection h2 with h2
  injection h3 with h3
  refine Prod.ext h1 (Prod.ext h2 ?_)
  have : ∀ {S R : List Int}, intsD S = intsD R → S = R := fun {S R} e => by
    induction S generalizing R with
    | nil =>
      cases R with
      | nil => rfl
      | cons _ _ => cases e
    | cons x S ih =>
      cases R with
      | nil => cases e
      | cons y R =>
        injection (show PyData.int x :: intsD S = PyData.int y :: intsD R from e) with e1 e2
        injection e1 with e1
        rw [e1, ih e2]
  exact this h3
structure RuleOk (n : Int) (L : List Arc3) : Prop where
  ok : ∀ p ∈ L, ArcOk n p.1 p.2.1 p.2.2
  nd : L.Nodup
  srt : (L.map arcT).Pairwise fun x y => PySem.W.dataLe false id x y = true
  closed : ∀ p ∈ L, ∀ q ∈ short3 p, q ∈ L
theorem arcs_back : ∀ {l : List PyData}, ArcL l → ∃ A : List Arc3, l = A.map arcT
  | [], _ => ⟨[], rfl⟩
  | d :: l, h => by
    obtain ⟨a, b, S, rfl⟩ := h d (by simp)
    obtain ⟨A, rfl⟩ := arcs_back (l := l) fun x hx => h x (List.mem_cons_of_mem _ hx)
    exact ⟨(a, b, S) :: A, rfl⟩
/-- all arcs, in order -/
theorem arcs_sorted (n : Int) : ∃ A : List Arc3, ((arcsN n).map arcT).mergeSort (PySem.W.dataLe false id) = A.map arcT ∧ ∀ p, p ∈ A ↔ p ∈ arcsN n := by
  have hp := List.mergeSort_perm ((arcsN n).map arcT) (PySem.W.dataLe false id)
  obtain ⟨A, hA⟩ := arcs_back (l := ((arcsN n).map arcT).mergeSort (PySem.W.dataLe false id)) fun x hx => arcT_arcs _ x (hp.mem_iff.mp hx)
  refine ⟨A, hA, fun p => ?_⟩
  rw [hA] at hp
  have := hp.mem_iff (a := arcT p)
  rw [List.mem_map, List.mem_map] at this
  constructor
  · intro h
    obtain ⟨q, hq, e⟩ := this.mp ⟨p, h, rfl⟩
    rw [← arcT_inj e]
    exact hq
  · intro h
    obtain ⟨q, hq, e⟩ := this.mpr ⟨p, h, rfl⟩
    rw [← arcT_inj e]
    exact hq
theorem short3_ok {n : Int} {p q : Arc3} (h : ArcOk n p.1 p.2.1 p.2.2) (hq : q ∈ short3 p) : ArcOk n q.1 q.2.1 q.2.2 := by
  have h1 := h.lo
  have h2 := h.lt
  have h3 := h.hi
  unfold short3 at hq
  by_cases e : p.2.1 - p.1 = 1
  · rw [if_pos e] at hq
    cases hq
  · rw [if_neg e] at hq
    have asc : ∀ c d, (betw c d p.2.2).Pairwise (· < ·) := fun c d => h.asc.sublist List.filter_sublist
    rcases List.mem_cons.mp hq with rfl | hq
    · refine ⟨h1, by show p.1 < p.2.1 - 1; omega, by show p.2.1 - 1 ≤ n; omega, asc _ _, fun x hx => ?_⟩
      exact (betw_mem.mp hx).2
    · rw [List.mem_singleton] at hq
      subst hq
      refine ⟨by show 1 ≤ p.1 + 1; omega, by show p.1 + 1 < p.2.1; omega, h3, asc _ _, fun x hx => ?_⟩
      exact (betw_mem.mp hx).2
theorem choL_nodup (a : Int) : ∀ k : Nat, (choL (rgN a k)).Nodup
  | 0 => by simp [choL, rgN]
  | k + 1 => by
    rw [rgN_succ, choL_snoc]
    refine List.nodup_append.mpr ⟨choL_nodup a k, List.pairwise_map.mpr ((choL_nodup a k).imp fun h e => h (List.append_cancel_right e)), fun x hx y hy e => ?_⟩
    obtain ⟨R, hR, rfl⟩ := List.mem_map.mp hy
    rw [e] at hx
    have := ((choL_mem a k _).mp hx).2 (a + k) (by simp)
    omega
theorem arcsN_nodup (n : Int) : (arcsN n).Nodup := by
  unfold arcsN arcsTo
  refine List.pairwise_flatMap.mpr ⟨fun a _ => ?_, rgN_asc.imp fun {x y} h u hu v hv e => ?_⟩
  · refine List.pairwise_flatMap.mpr ⟨fun b _ => ?_, rgN_asc.imp fun {x y} h u hu v hv e => ?_⟩
    · unfold arcsAt
      exact List.pairwise_map.mpr ((choL_nodup _ _).imp fun h e => h (Prod.mk.inj (Prod.mk.inj e).2).2)
    · unfold arcsAt at hu hv
      obtain ⟨_, _, rfl⟩ := List.mem_map.mp hu
      obtain ⟨_, _, rfl⟩ := List.mem_map.mp hv
      have := (Prod.mk.inj (Prod.mk.inj e).2).1
      omega
  · obtain ⟨_, _, hu⟩ := List.mem_flatMap.mp hu
    obtain ⟨_, _, hv⟩ := List.mem_flatMap.mp hv
    unfold arcsAt at hu hv
    obtain ⟨_, _, rfl⟩ := List.mem_map.mp hu
    obtain ⟨_, _, rfl⟩ := List.mem_map.mp hv
    have := (Prod.mk.inj e).1
    omega
/-- all arcs, in order, are a rule -/
theorem arcs_all (n : Int) (h0 : 0 ≤ n) : ∃ A : List Arc3, ((arcsN n).map arcT).mergeSort (PySem.W.dataLe false id) = A.map arcT ∧ (∀ p, p ∈ A ↔ ArcOk n p.1 p.2.1 p.2.2) ∧ RuleOk n A ∧ A.length = (arcsN n).length := by
  obtain ⟨A, hA, hm⟩ := arcs_sorted n
  have hm2 : ∀ p, p ∈ A ↔ ArcOk n p.1 p.2.1 p.2.2 := fun p => (hm p).trans (arcsN_mem h0)
  have hp := List.mergeSort_perm ((arcsN n).map arcT) (PySem.W.dataLe false id)
  have hl := hp.length_eq
  rw [hA, List.length_map, List.length_map] at hl
  have hs := List.pairwise_mergeSort le_trans3 le_either ((arcsN n).map arcT)
  rw [hA] at hs hp
  refine ⟨A, hA, hm2, ⟨fun p h => (hm2 p).mp h, ?_, hs, fun p h q hq => (hm2 q).mpr (short3_ok ((hm2 p).mp h) hq)⟩, hl⟩
  have : ((arcsN n).map arcT).Nodup := List.pairwise_map.mpr ((arcsN_nodup n).imp fun h e => h (arcT_inj e))
  have := hp.nodup_iff.mpr this
  exact (List.pairwise_map.mp this).imp fun h e => h (by rw [e])
/-- a part of the arcs that is closed is a rule -/
theorem RuleOk.part {n : Int} {A : List Arc3} (h : RuleOk n A) (f : Arc3 → Bool) (hf : ∀ p q, f p = true → q ∈ short3 p → f q = true) : RuleOk n (A.filter f) := by
  refine ⟨fun p hp => h.ok p (List.mem_filter.mp hp).1, h.nd.sublist List.filter_sublist, ?_, fun p hp q hq => ?_⟩
  · exact h.srt.sublist (List.filter_sublist.map arcT)
  · obtain ⟨h1, h2⟩ := List.mem_filter.mp hp
    exact List.mem_filter.mpr ⟨h.closed p h1 q hq, hf p q h2 hq⟩

theorem toks_arc {a b c d : Int} {S R : List Int} (h : PySem.W.keyToks (arcD a b S) = PySem.W.keyToks (arcD c d R)) : arcD a b S = arcD c d R := by
  simp only [arcD, PySem.W.keyToks, PySem.W.keyToksAll, List.cons_append, List.nil_append, List.cons.injEq, true_and, Sum.inl.injEq] at h
  obtain ⟨rfl, rfl, h⟩ := h
  rw [(toks_ints h).1]
theorem arcs_sort {l1 l2 : List PyData} (h : ArcL l1) (hp : l1.Perm l2) : l1.mergeSort (PySem.W.dataLe false id) = l2.mergeSort (PySem.W.dataLe false id) := sort_same hp fun x hx y hy e => by
  obtain ⟨a, b, S, rfl⟩ := h x hx
  obtain ⟨c, d, R, rfl⟩ := h y hy
  exact toks_arc e
def recOf (r : List Int) (i : Nat) : Arc3 := (lowAt r i, highAt r i, aheadAt r i)
def idxs (r : List Int) (f : Bool) : List Nat := (List.range (r.length - 1)).filter fun i => isFall r i == f
/-- the sorted arcs, told apart -/
theorem arcsD_recs (r : List Int) (f : Bool) : ∃ M : List Arc3, arcsD r f = M.map arcT ∧ M.Perm ((idxs r f).map (recOf r)) := by
  refine ⟨((idxs r f).map (recOf r)).mergeSort fun p q => PySem.W.dataLe false id (arcT p) (arcT q), ?_, List.mergeSort_perm _ _⟩
  rw [List.map_mergeSort (s := PySem.W.dataLe false id) (fun _ _ _ _ => rfl), List.map_map]
  rfl
/-! the mirror -/
theorem rev_get {r : List Int} {k : Nat} (h : k < r.length) : r.reverse[k]? = r[r.length - 1 - k]? := List.getElem?_reverse h
theorem mir_rec {n : Int} {r : List Int} (hr : RowOk n r) {i : Nat} (h : i + 1 < r.length) : recOf r.reverse (r.length - 2 - i) = overT (recOf r i) ∧ isFall r.reverse (r.length - 2 - i) = !isFall r i := by
  have ho := hr.rev
  have a : r.reverse.getD (r.length - 2 - i) 0 = r.getD (i + 1) 0 := getD_of (by rw [rev_get (by omega)]; congr 1; omega)
  have b : r.reverse.getD (r.length - 2 - i + 1) 0 = r.getD i 0 := getD_of (by rw [rev_get (by omega)]; congr 1; omega)
  have ne := hr.apart h
  have e1 : lowAt r.reverse (r.length - 2 - i) = lowAt r i := by unfold lowAt; rw [a, b]; omega
  have e2 : highAt r.reverse (r.length - 2 - i) = highAt r i := by unfold highAt; rw [a, b]; omega
  have g0 := getD_get (r := r) (i := i) (by omega)
  have g1 := getD_get (r := r) (i := i + 1) h
  constructor
  · have e3 : aheadAt r.reverse (r.length - 2 - i) = (overT (recOf r i)).2.2 := by
      refine asc_unique (aheadAt_asc ho _) (rgN_asc.sublist List.filter_sublist) fun x => ?_
      show _ ↔ x ∈ (rgN (lowAt r i + 1) (highAt r i - (lowAt r i + 1)).toNat).filter fun y => !decide (y ∈ aheadAt r i)
      rw [aheadAt_mem, e1, e2, List.mem_filter, rgN_mem, take_get, Bool.not_eq_true', decide_eq_false_iff_not, aheadAt_mem, take_get]
      constructor
      · rintro ⟨⟨y, y1, y2⟩, l1, l2⟩
        rw [rev_get (by omega)] at y2
        refine ⟨by omega, fun ⟨⟨z, z1, z2⟩, _⟩ => ?_⟩
        have := get_uniq hr.nodup y2 z2
        omega
      · rintro ⟨l1, l2⟩
        have l3 : lowAt r i < x ∧ x < highAt r i := by omega
        have m1 := hr.mem.mp (List.mem_of_getElem? g0)
        have m2 := hr.mem.mp (List.mem_of_getElem? g1)
        obtain ⟨t, ht⟩ := List.getElem?_of_mem (hr.mem.mpr (show 1 ≤ x ∧ x ≤ n by unfold lowAt highAt at l3; omega))
        have tl := (List.getElem?_eq_some_iff.mp ht).1
        have t1 : ¬ t < i := fun c => l2 ⟨⟨t, c, ht⟩, l3⟩
        have t2 : t ≠ i := fun c => by
          rw [c, g0] at ht
          have := Option.some.inj ht
          unfold lowAt highAt at l3
          omega
        have t3 : t ≠ i + 1 := fun c => by
          rw [c, g1] at ht
          have := Option.some.inj ht
          unfold lowAt highAt at l3
          omega
        refine ⟨⟨r.length - 1 - t, by omega, ?_⟩, l3⟩
        rw [rev_get (by omega), show r.length - 1 - (r.length - 1 - t) = t by omega]
        exact ht
    show (lowAt r.reverse (r.length - 2 - i), highAt r.reverse (r.length - 2 - i), aheadAt r.reverse (r.length - 2 - i)) = _
    rw [e1, e2, e3]
    rfl
  · unfold isFall
    rw [a, b]
    by_cases c : r.getD i 0 < r.getD (i + 1) 0
    · rw [decide_eq_true c, decide_eq_false (by omega)]
      rfl
    · rw [decide_eq_false c, decide_eq_true (by omega)]
      rfl
theorem range_rev (m : Nat) : (List.range m).Perm ((List.range m).map fun i => m - 1 - i) := by
  refine (perm_range m _ (by simp) fun k hk => List.mem_map.mpr ⟨m - 1 - k, List.mem_range.mpr (by omega), by omega⟩).symm
theorem mir_arcs {n : Int} {r : List Int} (hr : RowOk n r) (f : Bool) : (arcsL r.reverse f).Perm ((idxs r (!f)).map fun i => arcT (overT (recOf r i))) := by
  unfold arcsL
  have p := ((range_rev (r.length - 1)).filter fun i => isFall r.reverse i == f).map (arcOf r.reverse)
  rw [List.length_reverse]
  refine p.trans ?_
  rw [List.filter_map, List.map_map]
  have e1 : (List.range (r.length - 1)).filter ((fun i => isFall r.reverse i == f) ∘ fun i => r.length - 1 - 1 - i) = idxs r (!f) := by
    unfold idxs
    refine List.filter_congr fun i hi => ?_
    have hi := List.mem_range.mp hi
    show (isFall r.reverse (r.length - 1 - 1 - i) == f) = _
    rw [show r.length - 1 - 1 - i = r.length - 2 - i by omega, (mir_rec hr (by omega)).2]
    cases isFall r i <;> cases f <;> rfl
  rw [e1]
  refine List.Perm.of_eq (List.map_congr_left fun i hi => ?_)
  have hi := List.mem_range.mp (List.mem_filter.mp hi).1
  show arcT (recOf r.reverse (r.length - 1 - 1 - i)) = _
  rw [show r.length - 1 - 1 - i = r.length - 2 - i by omega, (mir_rec hr (by omega)).1]
theorem mirror_sorted {n : Int} {r : List Int} (hr : RowOk n r) (f : Bool) {M : List Arc3} (hM : M.Perm ((idxs r (!f)).map (recOf r))) : (M.map fun p => arcT (overT p)).mergeSort (PySem.W.dataLe false id) = arcsD r.reverse f := by
  unfold arcsD
  refine arcs_sort (fun x hx => ?_) ?_
  · obtain ⟨p, _, rfl⟩ := List.mem_map.mp hx
    exact ⟨_, _, _, rfl⟩
  · refine (hM.map fun p => arcT (overT p)).trans ?_
    rw [List.map_map]
    exact (mir_arcs hr f).symm
/-! n + 1 - x for each x -/
theorem eqv_arcsAll : ∀ {xs ys : List PyData}, ArcL xs → ArcL ys → (PyData.eqvAll xs ys = true ↔ xs = ys)
  | [], [], _, _ => by simp [PyData.eqvAll]
  | [], _ :: _, _, _ => by simp [PyData.eqvAll]
  | _ :: _, [], _, _ => by simp [PyData.eqvAll]
  | x :: xs, y :: ys, hx, hy => by
    have ih := eqv_arcsAll (fun z m => hx z (List.mem_cons_of_mem _ m)) fun z m => hy z (List.mem_cons_of_mem _ m)
    obtain ⟨a, b, S, rfl⟩ := hx x (by simp)
    obtain ⟨c, d, R, rfl⟩ := hy y (by simp)
    show (PyData.eqv _ _ && PyData.eqvAll xs ys) = true ↔ _
    rw [Bool.and_eq_true, ih, eqv_arcs, List.cons.injEq]
    refine and_congr ?_ Iff.rfl
    simp only [Bool.and_eq_true, decide_eq_true_eq]
    exact ⟨fun ⟨h1, h2, h3⟩ => by rw [h1, h2, h3], arcD_inj⟩
/-! data that are shown: their size -/
structure Sh (d : PyData) (k m : Nat) : Prop where
  lay : d.canLay0 = true
  short : d.intsShort 13 = true
  dep : d.depth ≤ k
  wt : d.weight ≤ m
  sho : d.showable = true
structure Shs (ds : List PyData) (k m : Nat) : Prop where
  lay : PyData.canLayAll0 ds = true
  short : PyData.intsShortAll 13 ds = true
  dep : PyData.depthAll ds ≤ k
  wt : PyData.weightAll ds ≤ ds.length * (m + 1)
  sho : PyData.showableAll ds = true
theorem log2_small {n : Nat} (h : n < 1000000) : n.log2 < 20 := by
  by_cases h0 : n = 0
  · rw [h0]
    decide
  · exact (Nat.log2_lt h0).mpr (by omega)
theorem sh_int {i : Int} (h : i.natAbs < 1000000) (k : Nat) : Sh (.int i) k 20 := by
  have hl := log2_small h
  refine ⟨rfl, ?_, Nat.zero_le _, ?_, ?_⟩
  · simp only [PyData.intsShort, decide_eq_true_eq]
    exact PyData.shown_int_le (by omega)
  · show (if i == 0 then 0 else i.natAbs.log2 + 1) ≤ 20
    split <;> omega
  · simp only [PyData.showable, decide_eq_true_eq]
    omega
theorem Sh.up {d : PyData} {k k' m m' : Nat} (h : Sh d k m) (hk : k ≤ k') (hm : m ≤ m') : Sh d k' m' := ⟨h.lay, h.short, Nat.le_trans h.dep hk, Nat.le_trans h.wt hm, h.sho⟩
theorem shs_of {k m : Nat} : ∀ {ds : List PyData}, (∀ d ∈ ds, Sh d k m) → Shs ds k m
  | [], _ => ⟨rfl, rfl, Nat.zero_le _, Nat.zero_le _, rfl⟩
  | d :: ds, h => by
    have h1 := h d (by simp)
    have h2 := shs_of (ds := ds) fun x hx => h x (List.mem_cons_of_mem _ hx)
    refine ⟨?_, ?_, ?_, ?_, ?_⟩
    · simp only [PyData.canLayAll0, h1.lay, h2.lay, Bool.and_self]
    · simp only [PyData.intsShortAll, h1.short, h2.short, Bool.and_self]
    · have a := h1.dep
      have b := h2.dep
      simp only [PyData.depthAll]
      omega
    · have a := h1.wt
      have b := h2.wt
      simp only [PyData.weightAll, List.length_cons, Nat.add_mul]
      omega
    · simp only [PyData.showableAll, h1.sho, h2.sho, Bool.and_self]
theorem sh_tup {ds : List PyData} {k m : Nat} (h : ∀ d ∈ ds, Sh d k m) : Sh (.tuple ds) (k + 1) (ds.length * (m + 1)) := by
  have s := shs_of h
  have a := s.dep
  exact ⟨by simpa only [PyData.canLay0] using s.lay, by simpa only [PyData.intsShort] using s.short, by simp only [PyData.depth]; omega, by simpa only [PyData.weight] using s.wt, by simpa only [PyData.showable] using s.sho⟩
theorem sh_intsT {ns : List Int} (h : ∀ n ∈ ns, n.natAbs < 1000000) : Sh (.tuple (intsD ns)) 1 (ns.length * 21) := by
  have s := sh_tup (ds := intsD ns) (k := 0) (m := 20) fun d hd => by
    obtain ⟨n, hn, rfl⟩ := List.mem_map.mp hd
    exact sh_int (h n hn) 0
  have e : (intsD ns).length = ns.length := List.length_map ..
  rw [e] at s
  exact s
theorem cal_reprS {d : PyData} {k m : Nat} (h : Sh d k m) (hk : k ≤ 60) (hm : m ≤ 1048576) {W : Wd} {P : DV → Prop} (q : P (.dat (.str d.shown))) : CalD K W (rRepr K) [.dat d] P :=
  cal_repr h.sho (PyData.hasDict_of_canLay d h.lay) (Nat.le_trans h.dep hk) (PyData.shown_fits (B := 13) (by decide) (by decide) (PyData.leavesShort_of_canLay0 13 d h.lay h.short) (by have := h.wt; omega)) q
theorem Sh.shaped {d : PyData} {k m : Nat} (h : Sh d k m) (hk : k ≤ 64) : SeqAt.shaped d = true := by
  unfold SeqAt.shaped
  rw [h.lay, decide_eq_true (Nat.le_trans h.dep hk)]
  rfl
theorem canLay_all {ds : List PyData} (h : ∀ d ∈ ds, d.canLay0 = true) : PyData.canLayAll0 ds = true := by
  induction ds with
  | nil => rfl
  | cons d ds ih =>
    simp only [PyData.canLayAll0, h d (by simp), ih fun x hx => h x (List.mem_cons_of_mem _ hx), Bool.and_self]
theorem shs_dep {m : Nat} : ∀ {ds : List PyData}, (∀ d ∈ ds, d.depth ≤ m) → PyData.depthAll ds ≤ m
  | [], _ => Nat.zero_le _
  | d :: ds, h => by
    have a := h d (by simp)
    have b := shs_dep (ds := ds) fun x hx => h x (List.mem_cons_of_mem _ hx)
    simp only [PyData.depthAll]
    omega

/-! ascending arcs -/
structure AscOk (n : Int) (L : List Arc3) : Prop where
  ok : ∀ p ∈ L, ArcOk n p.1 p.2.1 p.2.2
  nd : L.Nodup
  srt : (L.map arcT).Pairwise fun x y => PySem.W.dataLe false id x y = true
theorem RuleOk.asc {n : Int} {L : List Arc3} (h : RuleOk n L) : AscOk n L := ⟨h.ok, h.nd, h.srt⟩
theorem toks_arcT {p q : Arc3} (h : PySem.W.keyToks (arcT p) = PySem.W.keyToks (arcT q)) : p = q := arcT_inj (toks_arc h)
theorem arcs_sort_same {n : Int} {L : List Arc3} (h : AscOk n L) {es : List PyData} (hp : es.Perm (L.map arcT)) : es.mergeSort (PySem.W.dataLe false id) = L.map arcT := by
  refine sort_is hp (fun a ha b hb e => ?_) h.srt
  obtain ⟨p, _, rfl⟩ := List.mem_map.mp (hp.mem_iff.mp ha)
  obtain ⟨q, _, rfl⟩ := List.mem_map.mp (hp.mem_iff.mp hb)
  rw [toks_arcT e]
theorem eqv_same {d : PyData} (h : SeqAt.shaped d = true) : PyData.eqv d d = true := by
  unfold SeqAt.shaped at h
  rw [Bool.and_eq_true] at h
  exact SeqAt.eqv_refl d h.1

/-! widest rules and least blind arcs -/
theorem map_arcT_inj : ∀ {A B : List Arc3}, A.map arcT = B.map arcT → A = B
  | [], [], _ => rfl
  | [], _ :: _, h => by cases h
  | _ :: _, [], h => by cases h
  | a :: A, b :: B, h => by
    rw [List.map_cons, List.map_cons] at h
    injection h with h1 h2
    rw [arcT_inj h1, map_arcT_inj h2]
noncomputable def allA (n : Int) : List Arc3 := (arcs_sorted n).choose
theorem allA_sort (n : Int) : ((arcsN n).map arcT).mergeSort (PySem.W.dataLe false id) = (allA n).map arcT := (arcs_sorted n).choose_spec.1
theorem allA_mem {n : Int} (h0 : 0 ≤ n) {p : Arc3} : p ∈ allA n ↔ ArcOk n p.1 p.2.1 p.2.2 := ((arcs_sorted n).choose_spec.2 p).trans (arcsN_mem h0)
theorem allA_rule {n : Int} (h0 : 0 ≤ n) : RuleOk n (allA n) := by
  obtain ⟨A, h1, _, h2, _⟩ := arcs_all n h0
  rw [allA_sort n] at h1
  rw [map_arcT_inj h1]
  exact h2
theorem AscOk.part {n : Int} {A : List Arc3} (h : AscOk n A) (f : Arc3 → Bool) : AscOk n (A.filter f) := ⟨fun p hp => h.ok p (List.mem_filter.mp hp).1, h.nd.sublist List.filter_sublist, h.srt.sublist (List.filter_sublist.map arcT)⟩
/-- ascending arcs are told by which they are -/
theorem asc_eq {n m : Int} {A B : List Arc3} (hA : AscOk n A) (hB : AscOk m B) (h : ∀ p, p ∈ A ↔ p ∈ B) : A = B := by
  have hp : (A.map arcT).Perm (B.map arcT) := ((List.perm_ext_iff_of_nodup hA.nd hB.nd).mpr h).map arcT
  have e := arcs_sort_same hB hp
  rw [List.mergeSort_of_pairwise hA.srt] at e
  exact map_arcT_inj e
def C_all_arcs : Con := fun _ es P => ∃ n : Int, es = [.dat (.int n)] ∧ 1 ≤ n ∧ n ≤ 8 ∧ P (.dat (.tuple ((allA n).map arcT)))
theorem ok_all_arcs (T : Tx K mg) : FnOk P w K mg base CX0 2 T.f_all_arcs T.d_all_arcs ["n"] (SpC K C_all_arcs) := by
  refine kfn T.F_all_arcs sc_all_arcs (fun W es P ⟨_, h, _⟩ => by rw [h]; rfl) fun cdv A outer s H E hr => ⟨_, (pss_cons (ps_set (i := 1) sc_all_arcs.nd rfl (by first | exact Or.inl rfl | exact Or.inr rfl) (pe_lst pa_nil))
      (pss_cons (ps_for PassesOwn.never rfl (pi_range2 rfl T.m_range (pa_cons pe_int (pa_cons (pv 0) pa_nil))) (pg_name (i := 2) sc_all_arcs.nd rfl (by first | exact Or.inl rfl | exact Or.inr rfl)) (pss_one (ps_for PassesOwn.never rfl (pi_range2 rfl T.m_range (pa_cons (pe_op (op_addK (K := K) rfl) (pv 2) pe_int) (pa_cons (pe_op (op_addK (K := K) rfl) (pv 0) pe_int) pa_nil))) (pg_name (i := 3) sc_all_arcs.nd rfl (by first | exact Or.inl rfl | exact Or.inr rfl)) (pss_one (ps_expr (pe_bm PySem.F.plainAttrs_list PySem.F.slot_list_extend PySem.F.type_list_extend mt_extend (pv 1) (pa_cons (pe_lc (own := [("ahead", 4)]) rfl sc_all_arcs.nd (pi_seqK (K := K) rfl (pe_call (ok_choices T) hr (by rfl) T.g_choices T.F_choices.kp T.b_choices .nil pass0 (pa_cons (pe_listRg rfl (by rfl) T.m_list (prg_2 (by rfl) T.m_range (pe_op (op_addK (K := K) rfl) (pv 2) pe_int) (pv 3))) pa_nil))) (blkOk_by (N := N_all_arcs) (sc := defScope s_all_arcs) (by decide +kernel)) (fun _ _ _ _ _ => (pg_name (i := 4) sc_all_arcs.nd rfl (by first | exact Or.inl rfl | exact Or.inr rfl))) (fun _ _ _ _ _ => pts_nil) (fun _ _ _ _ _ => (pe_tup (pa_cons (pv 2) (pa_cons (pv 3) (pa_cons (pv 4) pa_nil)))))) pa_nil)))))))
      (pss_one (ps_ret (pe_callTy (cr_tupK (K := K) rfl) (by rfl) T.m_tuple (by decide +kernel) (pa_cons (pe_callB (cr_sortedZ (K := K) (w := w) rfl rfl rfl hr.units) (by rfl) T.m_sorted (by decide +kernel) (pa_cons (pv 1) pa_nil)) pa_nil)))))), fun W es P hC => ?_⟩
  obtain ⟨n, rfl, h0, h3, q⟩ := hC
  try dsimp only [cx_K, cx_w]
  refine ds_seq (ds_newL fun p hp => ?_)
  refine ds_seq (ds_for ?_)
  walk_at "ka"
  refine ⟨1, n, rfl, by omega, by omega, fun i W' Δ' => W' = W.hide p (knL K ((arcsTo n (rgN 1 i)).map arcT)) ∧ ∃ x2 x3, Δ' = [some (.dat (.int n)), some (.raw (.ref p)), x2, x3, none], ⟨rfl, none, none, rfl⟩, ?_, ?_⟩
  · rintro i e W' Δ' he ⟨rfl, x2, x3, rfl⟩
    obtain ⟨hi, rfl⟩ := rgN_at he
    have hi2 : 1 + (i : Int) ≤ n := by omega
    refine ⟨_, _, tg_name, ?_⟩
    generalize ha : (1 : Int) + (i : Int) = a
    have hz := arcsTo_small (n := n) h3 (i := i) (by omega)
    refine ds_for ?_
    walk_at "ka"
    refine ⟨a + 1, n + 1, rfl, by omega, by omega, fun j W' Δ' => W' = W.hide p (knL K ((arcsTo n (rgN 1 i) ++ (rgN (a + 1) j).flatMap (arcsAt a)).map arcT)) ∧ ∃ x3, Δ' = [some (.dat (.int n)), some (.raw (.ref p)), some (.dat (.int a)), x3, none], ⟨?_, x3, rfl⟩, ?_, ?_⟩
    · rw [show rgN (a + 1) 0 = [] from rfl, List.flatMap_nil, List.append_nil]
    · rintro j e W' Δ' he2 ⟨rfl, x3, rfl⟩
      obtain ⟨hj, rfl⟩ := rgN_at he2
      have hj2 : a + 1 + (j : Int) ≤ n := by omega
      refine ⟨_, _, tg_name, ?_⟩
      generalize hb : a + 1 + (j : Int) = b
      have hs := arcsAt_small (a := a) (b := b) (n := n) (by omega) (by omega) h3
      rw [arcsAt_len] at hs
      refine ds_ext (i := 1) rfl ?_
      refine de_lcM (choL (rgN (a + 1) (b - (a + 1)).toNat)) (fun S => DV.dat (tupI S)) (fun _ => true) (fun S => arcD a b S) (di_seqL ?_) (by rw [choL_len]; omega) ?_ ?_
      · walk_at "ka"
        refine ⟨RgOk.of_le (by omega) (by omega) (by omega) (by omega), ?_⟩
        walk_at "ka"
        refine ⟨a + 1, (b - (a + 1)).toNat, rfl, by omega, _, rfl, ?_⟩
        exact List.map_map ..
      · intro S hS W'' hW
        refine ⟨_, _, tg_name, by simp, ?_⟩
        walk_at "ka"
        refine ⟨rfl, fun _ => ?_⟩
        walk_at "ka"
        rfl
      · rw [List.filter_eq_self.mpr (fun _ _ => rfl)]
        have hf : ((rgN (a + 1) j).flatMap (arcsAt a)).length ≤ j * 64 := by
          refine Nat.le_trans (flat_len (c := 64) fun b hb => ?_) (by rw [rgN_length]; omega)
          rw [rgN_mem] at hb
          exact arcsAt_small (n := n) (by omega) (by omega) h3
        refine ⟨_, rfl, by rw [List.length_map, List.length_map, List.length_append, choL_len]; omega, ?_, _, rfl⟩
        rw [rgN_succ, hb, List.flatMap_append, ← List.append_assoc, List.map_append]
        congr 2
        congr 1
        simp [arcsAt, List.map_map]
        exact fun _ _ => rfl
    · rintro W' Δ' ⟨rfl, x3, rfl⟩
      rw [List.length_map, rgN_length]
      refine ⟨?_, _, _, rfl⟩
      rw [rgN_succ, ha]
      unfold arcsTo
      rw [List.flatMap_append]
      congr 3
      simp [show (n + 1 - (a + 1)).toNat = (n - a).toNat by omega]
  · rintro W' Δ' ⟨rfl, x2, x3, rfl⟩
    rw [List.length_map, rgN_length]
    have eN : arcsTo n (rgN 1 (n - 1).toNat) = arcsN n := by
      unfold arcsN
      rw [show n.toNat = (n - 1).toNat + 1 by omega, rgN_succ]
      unfold arcsTo
      rw [List.flatMap_append]
      have e0 : (n - (1 + ((n - 1).toNat : Int))).toNat = 0 := by omega
      rw [List.flatMap_cons, List.flatMap_nil, e0]
      simp [rgN]
    rw [eN]
    refine ds_see (i := 1) hp rfl ?_
    walk_at "ka"
    have hA := arcT_arcs (arcsN n)
    refine cal_sortedZL hA.alike hA.sortable hA.dep ?_
    rw [allA_sort]
    walk_at "ka"
    exact ⟨Wd.Le.refl W, q⟩

def C_numbers_behind : Con := fun _ es P => ∃ n a b S, es = [.dat (arcD a b S)] ∧ ArcOk n a b S ∧ n ≤ 60 ∧ P (.dat (.tuple (intsD (behindL a b S))))
theorem ok_numbers_behind (T : Tx K mg) : FnOk P w K mg base CX0 1 T.f_numbers_behind T.d_numbers_behind ["arc"] (SpC K C_numbers_behind) := by
  refine kfn T.F_numbers_behind sc_numbers_behind (fun W es P ⟨_, _, _, _, h, _⟩ => by rw [h]; rfl) fun cdv A outer s H E hr => ⟨_, (pss_cons (ps_asg (pv 0) (pg_tupK (K := K) rfl (pg_tup (n := 3) rfl (pgs_cons (pg_name (i := 1) sc_numbers_behind.nd rfl (by first | exact Or.inl rfl | exact Or.inr rfl)) (pgs_cons (pg_name (i := 2) sc_numbers_behind.nd rfl (by first | exact Or.inl rfl | exact Or.inr rfl)) (pgs_cons (pg_name (i := 3) sc_numbers_behind.nd rfl (by first | exact Or.inl rfl | exact Or.inr rfl)) pgs_nil))))))
      (pss_one (ps_ret (pe_callTy (cr_tupK (K := K) rfl) (by rfl) T.m_tuple (by decide +kernel) (pa_cons (pe_lc (own := [("p", 4)]) rfl sc_numbers_behind.nd (pi_range2 rfl T.m_range (pa_cons (pe_op (op_addK (K := K) rfl) (pv 1) pe_int) (pa_cons (pv 2) pa_nil))) (blkOk_by (N := N_numbers_behind) (sc := defScope s_numbers_behind) (by decide +kernel)) (fun _ _ _ _ _ => (pg_name (i := 4) sc_numbers_behind.nd rfl (by first | exact Or.inl rfl | exact Or.inr rfl))) (fun _ _ _ _ _ => (pts_one (pt_cmpR (op_notInZ (P := P) (w := w) (K := K) rfl rfl rfl (hu65 hr)) (pv 4) (pv 3) (by rfl)))) (fun _ _ _ _ _ => (pv 4))) pa_nil))))), fun W es PX hC => ?_⟩
  obtain ⟨n, a, b, S, rfl, ha, hn, q⟩ := hC
  have h1 := ha.lo
  have h2 := ha.lt
  have h3 := ha.hi
  try dsimp only [cx_K, cx_w]
  walk_at "ka"
  refine ⟨_, _, tg_tup3, ?_⟩
  walk_at "ka"
  refine de_lcM (rgN (a + 1) (b - (a + 1)).toNat) (fun x => DV.dat (.int x)) (fun x => !decide (x ∈ S)) (fun x => .int x) ?_ (by rw [rgN_length]; omega) ?_ ?_
  · walk_at "ka"
    exact ⟨a + 1, b, rfl, by omega, by omega, rfl⟩
  · intro x hx W'' hW
    refine ⟨_, _, tg_name, by simp, ?_⟩
    walk_at "ka"
    refine opd_niZT (by rfl) (canLay_ints S) ?_
    rw [any_eqv]
    refine ⟨_, rfl, rfl, fun _ => ?_⟩
    walk_at "ka"
    rfl
  · walk_at "ka"
    exact ⟨Wd.Le.refl W, q⟩

def C_single_row : Con := fun _ es P => ∃ n a b S, es = [.dat (.int n), .dat (arcD a b S)] ∧ ArcOk n a b S ∧ n ≤ 60 ∧ P (.dat (.tuple (intsD (singleL n a b S))))
theorem ok_single_row (T : Tx K mg) : FnOk P w K mg base CX0 6 T.f_single_row T.d_single_row ["n", "arc"] (SpC K C_single_row) := by
  refine kfn T.F_single_row sc_single_row (fun W es P ⟨_, _, _, _, h, _⟩ => by rw [h]; rfl) fun cdv A outer s H E hr => ⟨_, (pss_cons (ps_expr (pe_call (ok_check_arc T) hr (by rfl) T.g_check_arc T.F_check_arc.kp T.b_check_arc .nil pass0 (pa_cons (pv 0) (pa_cons (pv 1) pa_nil))))
      (pss_cons (ps_asg (pv 1) (pg_tupK (K := K) rfl (pg_tup (n := 3) rfl (pgs_cons (pg_name (i := 2) sc_single_row.nd rfl (by first | exact Or.inl rfl | exact Or.inr rfl)) (pgs_cons (pg_name (i := 3) sc_single_row.nd rfl (by first | exact Or.inl rfl | exact Or.inr rfl)) (pgs_cons (pg_name (i := 4) sc_single_row.nd rfl (by first | exact Or.inl rfl | exact Or.inr rfl)) pgs_nil))))))
      (pss_cons (ps_set (i := 5) sc_single_row.nd rfl (by first | exact Or.inl rfl | exact Or.inr rfl) (pe_tupRg rfl (by rfl) T.m_tuple (prg_2 (by rfl) T.m_range pe_int (pv 2))))
      (pss_cons (ps_set (i := 6) sc_single_row.nd rfl (by first | exact Or.inl rfl | exact Or.inr rfl) (pe_tupRg rfl (by rfl) T.m_tuple (prg_2 (by rfl) T.m_range (pe_op (op_addK (K := K) rfl) (pv 3) pe_int) (pe_op (op_addK (K := K) rfl) (pv 0) pe_int))))
      (pss_one (ps_ret (pe_op (op_addK (K := K) rfl) (pe_op (op_addK (K := K) rfl) (pe_op (op_addK (K := K) rfl) (pe_op (op_addK (K := K) rfl) (pv 5) (pv 4)) (pe_tup (pa_cons (pv 3) (pa_cons (pv 2) pa_nil)))) (pe_call (ok_numbers_behind T) (hr.mono (by decide)) (by rfl) T.g_numbers_behind T.F_numbers_behind.kp T.b_numbers_behind .nil pass0 (pa_cons (pv 1) pa_nil))) (pv 6)))))))), fun W es PX hC => ?_⟩
  obtain ⟨n, a, b, S, rfl, ha, hn, q⟩ := hC
  have h1 := ha.lo
  have h2 := ha.lt
  have h3 := ha.hi
  have h4 := ha.len
  have hz := (single_ok ha hn).len
  have zz : (singleL n a b S).length = (rgN 1 (a - 1).toNat).length + S.length + 2 + (behindL a b S).length + (rgN (b + 1) (n - b).toNat).length := by
    unfold singleL headL tailL
    simp only [List.length_append, List.length_cons, List.length_nil]
    omega
  try dsimp only [cx_K, cx_w]
  walk_at "ka"
  refine ⟨n, arcD a b S, rfl, by rw [third_arc]; omega, shaped_arc, isArcD_of ha, ?_⟩
  walk_at "ka"
  refine ⟨_, _, tg_tup3, ?_⟩
  walk_at "ka"
  refine ⟨.of_le (by omega) (by omega) (by omega) (by omega), ?_⟩
  walk_at "ka"
  refine ⟨.of_le (by omega) (by omega) (by omega) (by omega), ?_⟩
  walk_at "ka"
  rw [show (n + 1 - (b + 1)).toNat = (n - b).toNat by omega]
  show OpD K W _ (.dat (.tuple (intsD (rgN 1 (a - 1).toNat)))) (.dat (.tuple (intsD S))) _
  refine opd_addT (by rw [intsD_len, intsD_len]; omega) ?_
  walk_at "ka"
  refine opd_addT (by simp only [List.length_append, intsD_len, List.length_cons, List.length_nil]; omega) ?_
  walk_at "ka"
  refine ⟨n, a, b, S, rfl, ha, hn, ?_⟩
  refine opd_addT (by simp only [List.length_append, intsD_len, List.length_cons, List.length_nil]; omega) ?_
  walk_at "ka"
  refine opd_addT (by simp only [List.length_append, intsD_len, List.length_cons, List.length_nil, List.length_map]; omega) ⟨Wd.Le.refl W, ?_⟩
  have e : intsD (rgN 1 (a - 1).toNat) ++ intsD S ++ [PyData.int b, .int a] ++ intsD (behindL a b S) ++ intsD (rgN (b + 1) (n - b).toNat) = intsD (singleL n a b S) := by
    unfold singleL headL tailL intsD
    simp
  have q : PX (.dat (.tuple (intsD (rgN 1 (a - 1).toNat) ++ intsD S ++ [PyData.int b, .int a] ++ intsD (behindL a b S) ++ intsD (rgN (b + 1) (n - b).toNat)))) := by
    rw [e]
    exact q
  exact q

theorem sh_row {n : Int} {r : List Int} (h : RowOk n r) : Sh (.tuple (intsD r)) 1 1260 := (sh_intsT fun x hx => by
  have := h.mem.mp hx
  have := h.hi
  omega).up (Nat.le_refl _) (by have := h.len; have := h.hi; omega)
theorem sh_two {d e : PyData} {k m : Nat} (h1 : Sh d k m) (h2 : Sh e k m) : Sh (.tuple [d, e]) (k + 1) (2 * (m + 1)) := sh_tup fun x hx => by
  simp only [List.mem_cons, List.not_mem_nil, or_false] at hx
  rcases hx with rfl | rfl
  · exact h1
  · exact h2
/-! least rows above several rows -/
def IsLubs (rows : List (List Int)) (t : List Int) : Prop := ∀ p q, tur t p q ↔ Ch (fun a b => ∃ r ∈ rows, tur r a b) p q
theorem first_tur {n : Nat} {p q : Int} : ¬ tur (rgN 1 n) p q := fun ⟨h, b⟩ => by
  have := asc_bef rgN_asc b
  omega
theorem lubs_nil {n : Nat} : IsLubs [] (rgN 1 n) := fun p q => by
  refine ⟨fun h => (first_tur h).elim, fun h => ?_⟩
  induction h with
  | one h =>
    obtain ⟨r, m, _⟩ := h
    cases m
  | more _ h _ =>
    obtain ⟨r, m, _⟩ := h
    cases m
theorem lubs_snoc {rows : List (List Int)} {t r u : List Int} (h : IsLubs rows t) (h2 : IsLub t r u) : IsLubs (rows ++ [r]) u := fun p q => by
  rw [h2 p q]
  constructor
  · refine Ch.mono fun a b z => ?_
    rcases z with z | z
    · refine Ch.mono (fun a b y => .one ?_) ((h a b).mp z)
      obtain ⟨s, m, y⟩ := y
      exact ⟨s, List.mem_append_left _ m, y⟩
    · exact .one ⟨r, by simp, z⟩
  · refine Ch.mono fun a b z => .one ?_
    obtain ⟨s, m, y⟩ := z
    rcases List.mem_append.mp m with m | m
    · exact .inl ((h a b).mpr (.one ⟨s, m, y⟩))
    · rw [List.mem_singleton] at m
      subst m
      exact .inr y
theorem IsLubs.ge {rows : List (List Int)} {t r : List Int} (h : IsLubs rows t) (m : r ∈ rows) : LeR r t := fun p q z => (h p q).mpr (.one ⟨r, m, z⟩)
theorem IsLubs.least {n : Int} {rows : List (List Int)} {t u : List Int} (hu : RowOk n u) (h : IsLubs rows t) (h1 : ∀ r ∈ rows, LeR r u) : LeR t u := fun p q z => by
  have := (h p q).mp z
  clear z
  induction this with
  | one h =>
    obtain ⟨r, m, z⟩ := h
    exact h1 r m _ _ z
  | more _ h3 ih =>
    obtain ⟨r, m, z⟩ := h3
    exact tur_trans hu ih (h1 r m _ _ z)
def singleAt (n : Int) (r : List Int) (j : Nat) : List Int := singleL n (lowAt r j) (highAt r j) (aheadAt r j)
theorem arc_ok {n : Int} {r : List Int} (hr : RowOk n r) {j : Nat} (h : j + 1 < r.length) : ArcOk n (lowAt r j) (highAt r j) (aheadAt r j) := by
  have m1 := hr.mem.mp (List.mem_of_getElem? (getD_get (r := r) (i := j) (by omega)))
  have m2 := hr.mem.mp (List.mem_of_getElem? (getD_get (r := r) (i := j + 1) h))
  have ne := hr.apart h
  refine ⟨by unfold lowAt; omega, by unfold lowAt highAt; omega, by unfold highAt; omega, aheadAt_asc hr j, fun p hp => (aheadAt_mem.mp hp).2⟩
theorem fall_has {n : Int} {r : List Int} (hr : RowOk n r) {j : Nat} (h : j + 1 < r.length) (hf : isFall r j = true) : HasFall n (lowAt r j) (highAt r j) (aheadAt r j) r := by
  obtain ⟨e1, e2, lt⟩ := fall_says hf
  refine ⟨hr, r.take j, r.drop (j + 2), ?_, fun x hx => (aheadAt_mem.mp hx).1, fun x h1 h2 h3 => ?_⟩
  · rw [e1, e2]
    exact (split_at h).symm
  · have hx : x ∈ r := by
      have a := arc_ok hr h
      have := a.lo
      have := a.hi
      exact hr.mem.mpr ⟨by omega, by omega⟩
    rw [← split_at h, List.mem_append, List.mem_append] at hx
    rcases hx with hx | hx | hx
    · exact (h3 (aheadAt_mem.mpr ⟨hx, h1, h2⟩)).elim
    · simp only [List.mem_cons, List.not_mem_nil, or_false] at hx
      rw [e1] at h1
      rw [e2] at h2
      omega
    · exact hx
/-- what is above the single rows of all falls is above the row -/
theorem row_le {n : Int} {r t : List Int} (hr : RowOk n r) (ht : RowOk n t) (h : ∀ j, j + 1 < r.length → isFall r j = true → LeR (singleAt n r j) t) : LeR r t := by
  have key : ∀ (k x y : Nat) (p q : Int), y - x ≤ k → x < y → r[x]? = some q → r[y]? = some p → p < q → tur t p q := by
    intro k
    induction k with
    | zero => intro x y p q hk hxy; omega
    | succ k ih =>
      intro x y p q hk hxy hq hp hpq
      have ly := (List.getElem?_eq_some_iff.mp hp).1
      have gy : r.getD y 0 = p := by rw [List.getD_eq_getElem?_getD, hp]; rfl
      have gx : r.getD x 0 = q := by rw [List.getD_eq_getElem?_getD, hq]; rfl
      obtain ⟨j, j1, j2, j3, j4⟩ : ∃ j, x ≤ j ∧ j < y ∧ q ≤ r.getD j 0 ∧ r.getD (j + 1) 0 < q := by
        have go : ∀ d : Nat, x + d ≤ y → (∃ j, x ≤ j ∧ j < x + d ∧ q ≤ r.getD j 0 ∧ r.getD (j + 1) 0 < q) ∨ q ≤ r.getD (x + d) 0 := by
          intro d
          induction d with
          | zero => exact fun _ => .inr (by rw [Nat.add_zero, gx]; exact Int.le_refl _)
          | succ d ihd =>
            intro hd
            rcases ihd (by omega) with ⟨j, a1, a2, a3, a4⟩ | z
            · exact .inl ⟨j, a1, by omega, a3, a4⟩
            · by_cases c : q ≤ r.getD (x + (d + 1)) 0
              · exact .inr c
              · exact .inl ⟨x + d, by omega, by omega, z, by rw [show x + d + 1 = x + (d + 1) by omega]; omega⟩
        rcases go (y - x) (by omega) with ⟨j, a1, a2, a3, a4⟩ | z
        · exact ⟨j, a1, by omega, a3, a4⟩
        · rw [show x + (y - x) = y by omega, gy] at z
          omega
      have hj : j + 1 < r.length := by omega
      have hf : isFall r j = true := by
        unfold isFall
        exact decide_eq_true (by omega)
      obtain ⟨e1, e2, e3⟩ := fall_says hf
      have ha := arc_ok hr hj
      have le := h j hj hf
      have gj := getD_get (r := r) (i := j) (by omega)
      have gj1 := getD_get (r := r) (i := j + 1) hj
      have hqS : q ∈ aheadAt r j ∨ q = highAt r j := by
        by_cases c : q = r.getD j 0
        · exact .inr (by rw [e2]; exact c)
        · have xj : x < j := by
            rcases Nat.lt_or_ge x j with z | z
            · exact z
            · have : x = j := by omega
              rw [this] at gx
              exact absurd gx.symm c
          exact .inl (aheadAt_mem.mpr ⟨take_get.mpr ⟨x, xj, hq⟩, by rw [e1]; exact j4, by rw [e2]; omega⟩)
      have qa : tur t (r.getD (j + 1) 0) q := le _ _ ((single_tur ha).mpr ⟨j4, hqS, .inl e1.symm⟩)
      by_cases ca : r.getD (j + 1) 0 = p
      · rw [ca] at qa
        exact qa
      have yj : j + 1 < y := by
        rcases Nat.lt_or_ge (j + 1) y with z | z
        · exact z
        · have : y = j + 1 := by omega
          rw [this] at gy
          exact absurd gy ca
      rcases Int.lt_or_gt_of_ne ca with c | c
      · refine le _ _ ((single_tur ha).mpr ⟨hpq, hqS, .inr ⟨by rw [e1]; exact c, by rw [e2]; omega, fun z => ?_⟩⟩)
        obtain ⟨w, w1, w2⟩ := take_get.mp (aheadAt_mem.mp z).1
        have := get_uniq hr.nodup w2 hp
        omega
      · exact tur_trans ht (ih (j + 1) y p (r.getD (j + 1) 0) (by omega) yj gj1 hp c) qa
  intro p q z
  obtain ⟨hpq, x, y, hxy, e1, e2⟩ := z
  exact key (y - x) x y p q (Nat.le_refl _) hxy e1 e2 hpq
theorem single_le {n : Int} {r : List Int} (hr : RowOk n r) {j : Nat} (h : j + 1 < r.length) (hf : isFall r j = true) : LeR (singleAt n r j) r := (fall_has hr h hf).le (arc_ok hr h)
theorem idxs_mem {r : List Int} {f : Bool} {j : Nat} : j ∈ idxs r f ↔ j + 1 < r.length ∧ isFall r j = f := by
  unfold idxs
  rw [List.mem_filter, List.mem_range, beq_iff_eq]
  refine and_congr ?_ Iff.rfl
  omega
/-- the single rows of the falls make the row -/
theorem singles_make {n : Int} {r t : List Int} {F : List Nat} (hr : RowOk n r) (ht : RowOk n t) (hF : F.Perm (idxs r true)) (hl : IsLubs (F.map (singleAt n r)) t) : t = r := by
  refine LeR.anti ht hr (hl.least hr fun s m => ?_) (row_le hr ht fun j h hf => hl.ge (List.mem_map.mpr ⟨j, hF.mem_iff.mpr (idxs_mem.mpr ⟨h, hf⟩), rfl⟩))
  obtain ⟨j, mj, rfl⟩ := List.mem_map.mp m
  obtain ⟨h, hf⟩ := idxs_mem.mp (hF.mem_iff.mp mj)
  exact single_le hr h hf
theorem ends_at {n : Int} {r : List Int} (hr : RowOk n r) {i j : Nat} (hi : i + 1 < r.length) (hj : j + 1 < r.length) (fi : isFall r i = true) (fj : isFall r j = true) (h : tur (singleAt n r i) (lowAt r j) (highAt r j)) : i = j := by
  obtain ⟨_, h2, h3⟩ := (single_tur (arc_ok hr hi)).mp h
  obtain ⟨e1, e2, _⟩ := fall_says fi
  obtain ⟨k1, k2, _⟩ := fall_says fj
  have gi := getD_get (r := r) (i := i) (by omega)
  have gi1 := getD_get (r := r) (i := i + 1) hi
  have gj := getD_get (r := r) (i := j) (by omega)
  have gj1 := getD_get (r := r) (i := j + 1) hj
  rw [k1, e1, e2] at h3
  rw [k2, e2] at h2
  rcases h2 with h2 | h2
  · obtain ⟨x, x1, x2⟩ := take_get.mp (aheadAt_mem.mp h2).1
    have xj := get_uniq hr.nodup x2 gj
    rcases h3 with h3 | ⟨h3, h4, h5⟩
    · rw [h3] at gj1
      have := get_uniq hr.nodup gj1 gi1
      omega
    · by_cases c : j + 1 < i
      · exact (h5 (aheadAt_mem.mpr ⟨take_get.mpr ⟨j + 1, c, gj1⟩, by rw [e1]; exact h3, by rw [e2]; exact h4⟩)).elim
      · have : j + 1 = i := by omega
        rw [this] at h4
        omega
  · rw [h2] at gj
    exact get_uniq hr.nodup gi gj
theorem idxs_nodup {r : List Int} {f : Bool} : (idxs r f).Nodup := List.nodup_range.sublist List.filter_sublist
/-- the side of an arc -/
def sideI (p : Arc3) (x : Int) : Int := if x = p.1 ∨ x = p.2.1 then 0 else if x ∈ p.2.2 then 1 else -1
def greaterL (p q : Arc3) : List Int := (rgN (max p.1 q.1) (min p.2.1 q.2.1 + 1 - max p.1 q.1).toNat).filter fun x => decide (sideI q x < sideI p x)
def lessL (p q : Arc3) : List Int := (rgN (max p.1 q.1) (min p.2.1 q.2.1 + 1 - max p.1 q.1).toNat).filter fun x => decide (sideI p x < sideI q x)
def twoD (L : List Arc3) : List PyData := L.zipIdx.flatMap fun p => (L.drop (p.2 + 1)).map fun e => PyData.tuple [arcT p.1, arcT e]
theorem twoD_mem {L : List Arc3} {x : PyData} (h : x ∈ twoD L) : ∃ (i j : Nat) (p q : Arc3), i < j ∧ L[i]? = some p ∧ L[j]? = some q ∧ x = .tuple [arcT p, arcT q] := by
  obtain ⟨p, hp, h⟩ := List.mem_flatMap.mp h
  obtain ⟨q, hq, rfl⟩ := List.mem_map.mp h
  obtain ⟨k, hk⟩ := List.getElem?_of_mem hq
  rw [List.getElem?_drop] at hk
  have := List.mem_zipIdx hp
  refine ⟨p.2, p.2 + 1 + k, p.1, q, by omega, ?_, hk, rfl⟩
  rw [List.getElem?_eq_getElem (by omega), this.2.2]
  simp
structure LotOk (n : Int) (L : List Arc3) : Prop where
  ok : ∀ p ∈ L, ArcOk n p.1 p.2.1 p.2.2
  asc : ∀ (i : Nat) (p q : Arc3), L[i]? = some p → L[i + 1]? = some q → PySem.W.dataLt (arcT p) (arcT q) = true
  apart : ∀ (i j : Nat) (p q : Arc3), i < j → L[i]? = some p → L[j]? = some q → p.1 ≠ q.1 ∧ p.2.1 ≠ q.2.1 ∧ (greaterL p q = [] ∨ lessL p q = [])
  len : L.length ≤ 60
theorem side_at {n : Int} {r : List Int} (hr : RowOk n r) {j y : Nat} (h : j + 1 < r.length) (hf : isFall r j = true) {x : Int} (hx : r[y]? = some x) (h1 : lowAt r j ≤ x) (h2 : x ≤ highAt r j) : sideI (recOf r j) x = if y < j then 1 else if y ≤ j + 1 then 0 else -1 := by
  obtain ⟨e1, e2, lt⟩ := fall_says hf
  have g0 := getD_get (r := r) (i := j) (by omega)
  have g1 := getD_get (r := r) (i := j + 1) h
  unfold sideI recOf
  dsimp only
  by_cases c0 : y = j
  · subst c0
    rw [hx] at g0
    have := Option.some.inj g0
    rw [if_pos (.inr (by rw [e2]; exact this)), if_neg (by omega), if_pos (by omega)]
  · by_cases c1 : y = j + 1
    · subst c1
      rw [hx] at g1
      have := Option.some.inj g1
      rw [if_pos (.inl (by rw [e1]; exact this)), if_neg (by omega), if_pos (by omega)]
    · have n0 : x ≠ highAt r j := fun e => by
        rw [e2] at e
        rw [e] at hx
        exact c0 (get_uniq hr.nodup hx g0)
      have n1 : x ≠ lowAt r j := fun e => by
        rw [e1] at e
        rw [e] at hx
        exact c1 (get_uniq hr.nodup hx g1)
      rw [if_neg (fun z => z.elim n1 n0)]
      by_cases c : y < j
      · rw [if_pos (aheadAt_mem.mpr ⟨take_get.mpr ⟨y, c, hx⟩, by omega, by omega⟩), if_pos c]
      · rw [if_neg (fun z => ?_), if_neg c, if_neg (by omega)]
        obtain ⟨w, w1, w2⟩ := take_get.mp (aheadAt_mem.mp z).1
        have := get_uniq hr.nodup w2 hx
        omega
theorem falls_part {n : Int} {r : List Int} (hr : RowOk n r) {i j : Nat} (hij : i < j) (hi : i + 1 < r.length) (hj : j + 1 < r.length) (fi : isFall r i = true) (fj : isFall r j = true) : (∀ x, lowAt r i ≤ x → lowAt r j ≤ x → x ≤ highAt r i → x ≤ highAt r j → sideI (recOf r i) x ≤ sideI (recOf r j) x) ∧ lowAt r i ≠ lowAt r j ∧ highAt r i ≠ highAt r j := by
  obtain ⟨e1, e2, _⟩ := fall_says fi
  obtain ⟨k1, k2, _⟩ := fall_says fj
  have gi := getD_get (r := r) (i := i) (by omega)
  have gi1 := getD_get (r := r) (i := i + 1) hi
  have gj := getD_get (r := r) (i := j) (by omega)
  have gj1 := getD_get (r := r) (i := j + 1) hj
  refine ⟨fun x a1 a2 a3 a4 => ?_, fun e => ?_, fun e => ?_⟩
  · have ai := arc_ok hr hi
    have hx : x ∈ r := hr.mem.mpr ⟨by have := ai.lo; omega, by have := ai.hi; omega⟩
    obtain ⟨y, hy⟩ := List.getElem?_of_mem hx
    rw [side_at hr hi fi hy a1 a3, side_at hr hj fj hy a2 a4]
    split <;> split <;> (try split) <;> (try split) <;> omega
  · rw [e1, k1] at e
    rw [e] at gi1
    have := get_uniq hr.nodup gi1 gj1
    omega
  · rw [e2, k2] at e
    rw [e] at gi
    have := get_uniq hr.nodup gi gj
    omega
theorem lot_falls {n : Int} {r : List Int} (hr : RowOk n r) : ∃ L : List Arc3, arcsD r true = L.map arcT ∧ LotOk n L ∧ L.Perm ((idxs r true).map (recOf r)) := by
  obtain ⟨M, e, pm⟩ := arcsD_recs r true
  have key : ∀ (i j : Nat) (p q : Arc3), i < j → M[i]? = some p → M[j]? = some q → ∃ x y, x ≠ y ∧ x + 1 < r.length ∧ y + 1 < r.length ∧ isFall r x = true ∧ isFall r y = true ∧ p = recOf r x ∧ q = recOf r y := fun i j p q hij hp hq => by
    obtain ⟨x, mx, ex⟩ := List.mem_map.mp (pm.mem_iff.mp (List.mem_of_getElem? hp))
    obtain ⟨y, my, ey⟩ := List.mem_map.mp (pm.mem_iff.mp (List.mem_of_getElem? hq))
    obtain ⟨x1, x2⟩ := idxs_mem.mp mx
    obtain ⟨y1, y2⟩ := idxs_mem.mp my
    refine ⟨x, y, fun z => ?_, x1, y1, x2, y2, ex.symm, ey.symm⟩
    have nd : M.Nodup := by
      rw [pm.nodup_iff]
      refine List.pairwise_map.mpr (idxs_nodup.imp_of_mem fun {a b} ma mb ne z => ne ?_)
      obtain ⟨a1, a2⟩ := idxs_mem.mp ma
      obtain ⟨b1, b2⟩ := idxs_mem.mp mb
      rcases Nat.lt_trichotomy a b with c | c | c
      · exact ((falls_part hr c a1 b1 a2 b2).2.1 (congrArg (·.1) z)).elim
      · exact c
      · exact ((falls_part hr c b1 a1 b2 a2).2.1 (congrArg (·.1) z).symm).elim
    obtain ⟨l1, g1⟩ := List.getElem?_eq_some_iff.mp hp
    obtain ⟨l2, g2⟩ := List.getElem?_eq_some_iff.mp hq
    have ne := List.pairwise_iff_getElem.mp nd i j l1 l2 hij
    rw [g1, g2, ← ex, ← ey, z] at ne
    exact ne rfl
  refine ⟨M, e, ⟨fun p hp => ?_, fun i p q hp hq => ?_, fun i j p q hij hp hq => ?_, ?_⟩, pm⟩
  · obtain ⟨x, mx, rfl⟩ := List.mem_map.mp (pm.mem_iff.mp hp)
    exact arc_ok hr (idxs_mem.mp mx).1
  · have srt : (M.map arcT).Pairwise fun a b => PySem.W.dataLe false id a b = true := by
      rw [← e]
      exact List.pairwise_mergeSort le_trans3 le_either _
    obtain ⟨l1, g1⟩ := List.getElem?_eq_some_iff.mp hp
    obtain ⟨l2, g2⟩ := List.getElem?_eq_some_iff.mp hq
    have le := List.pairwise_iff_getElem.mp (List.pairwise_map.mp srt) i (i + 1) l1 l2 (by omega)
    rw [g1, g2] at le
    cases c : PySem.W.dataLt (arcT p) (arcT q) with
    | true => rfl
    | false =>
      have le2 : PySem.W.dataLe false id (arcT q) (arcT p) = true := by
        rw [PySem.W.dataLe_eq]
        simp [c]
      have := toks_arc (le_both le le2)
      obtain ⟨z1, z2, z3⟩ := arcD_inj this
      obtain ⟨x, y, ne, a1, a2, a3, a4, rfl, rfl⟩ := key i (i + 1) p q (by omega) hp hq
      rcases Nat.lt_trichotomy x y with d | d | d
      · exact ((falls_part hr d a1 a2 a3 a4).2.1 z1).elim
      · exact (ne d).elim
      · exact ((falls_part hr d a2 a1 a4 a3).2.1 z1.symm).elim
  · obtain ⟨x, y, ne, a1, a2, a3, a4, rfl, rfl⟩ := key i j p q hij hp hq
    have rg : ∀ z, z ∈ rgN (max (recOf r x).1 (recOf r y).1) (min (recOf r x).2.1 (recOf r y).2.1 + 1 - max (recOf r x).1 (recOf r y).1).toNat → lowAt r x ≤ z ∧ lowAt r y ≤ z ∧ z ≤ highAt r x ∧ z ≤ highAt r y := fun z hz => by
      rw [rgN_mem] at hz
      unfold recOf at hz
      dsimp only at hz
      omega
    rcases Nat.lt_trichotomy x y with d | d | d
    · obtain ⟨f1, f2, f3⟩ := falls_part hr d a1 a2 a3 a4
      refine ⟨f2, f3, .inl (List.filter_eq_nil_iff.mpr fun z hz => ?_)⟩
      obtain ⟨b1, b2, b3, b4⟩ := rg z hz
      have := f1 z b1 b2 b3 b4
      simp
      omega
    · exact (ne d).elim
    · obtain ⟨f1, f2, f3⟩ := falls_part hr d a2 a1 a4 a3
      refine ⟨fun z => f2 z.symm, fun z => f3 z.symm, .inr (List.filter_eq_nil_iff.mpr fun z hz => ?_)⟩
      obtain ⟨b1, b2, b3, b4⟩ := rg z hz
      have := f1 z b2 b1 b4 b3
      simp
      omega
  · rw [pm.length_eq, List.length_map]
    have h3 := hr.len
    have h2 := hr.hi
    have : (idxs r true).length ≤ r.length - 1 := Nat.le_trans (List.length_filter_le ..) (by rw [List.length_range]; exact Nat.le_refl _)
    omega

def C_side : Con := fun _ es P => ∃ (p : Arc3) (x : Int), es = [.dat (arcT p), .dat (.int x)] ∧ P (.dat (.int (sideI p x)))
theorem ok_side (T : Tx K mg) : FnOk P w K mg base CX0 1 T.f_side T.d_side ["arc", "p"] (SpC K C_side) := by
  refine kfn T.F_side sc_side (fun W es P ⟨_, _, h, _⟩ => by rw [h]; rfl) fun cdv A outer s H E hr => ⟨_, (pss_cons (ps_asg (pv 0) (pg_tupK (K := K) rfl (pg_tup (n := 3) rfl (pgs_cons (pg_name (i := 2) sc_side.nd rfl (by first | exact Or.inl rfl | exact Or.inr rfl)) (pgs_cons (pg_name (i := 3) sc_side.nd rfl (by first | exact Or.inl rfl | exact Or.inr rfl)) (pgs_cons (pg_name (i := 4) sc_side.nd rfl (by first | exact Or.inl rfl | exact Or.inr rfl)) pgs_nil))))))
      (pss_cons (ps_if (PW.pt (pw_or (pt_cmpR (op_eqK (K := K) rfl hr.units) (pv 1) (pv 2) (nomark _)) (pw_or1 (pt_cmpR (op_eqK (K := K) rfl hr.units) (pv 1) (pv 3) (nomark _))))) (pss_one (ps_ret pe_int)) pss_nil)
      (pss_cons (ps_if (pt_cmpR (op_inZ (P := P) (w := w) (K := K) rfl rfl rfl (hu65 hr)) (pv 1) (pv 4) (by rfl)) (pss_one (ps_ret pe_int)) pss_nil)
      (pss_one (ps_ret (pe_un un_neg pe_int)))))), fun W es P hC => ?_⟩
  obtain ⟨⟨a, b, S⟩, x, rfl, q⟩ := hC
  unfold sideI at q
  dsimp only at q
  try dsimp only [cx_K, cx_w]
  walk_at "ka"
  refine ⟨_, _, tg_tup3, ?_⟩
  refine dq_when (¬ (x = a ∨ x = b)) ?_ fun h => ?_
  · refine DT.mono (PB := fun c => c = decide (x = a ∨ x = b)) ?_ fun c hc => ⟨fun e => ?_, fun e => ?_⟩
    · walk_at "ka"
      refine opd_eq (by rfl) (by rfl) ?_
      rw [eqv_int]
      refine ⟨_, rfl, fun e => ?_, fun e => ?_⟩
      · walk_at "ka"
        refine opd_eq (by rfl) (by rfl) ⟨_, rfl, ?_⟩
        rw [eqv_int, decide_eq_decide]
        have := of_decide_eq_false e
        exact ⟨.inr, fun h => h.elim (fun z => (this z).elim) id⟩
      · exact (decide_eq_true (.inl (of_decide_eq_true e))).symm
    · walk_at "ka"
      rw [hc, decide_eq_true_iff] at e
      rw [if_pos e] at q
      exact ⟨Wd.Le.refl W, q⟩
    · rw [hc] at e
      exact of_decide_eq_false e
  rw [if_neg h] at q
  refine dq_when (x ∉ S) ?_ fun h => ?_
  · walk_at "ka"
    refine opd_inZT (by rfl) (canLay_ints S) ?_
    rw [any_eqv]
    refine ⟨_, rfl, fun e => ?_, fun e => of_decide_eq_false e⟩
    walk_at "ka"
    rw [if_pos (of_decide_eq_true e)] at q
    exact ⟨Wd.Le.refl W, q⟩
  rw [if_neg h] at q
  walk_at "ka"
  exact ⟨Wd.Le.refl W, q⟩

def C_parting_numbers : Con := fun _ es P => ∃ n p q, es = [.dat (.int n), .dat (arcT p), .dat (arcT q)] ∧ ArcOk n p.1 p.2.1 p.2.2 ∧ ArcOk n q.1 q.2.1 q.2.2 ∧ n ≤ 60 ∧ P (.dat (.tuple [.list (intsD (greaterL p q)), .list (intsD (lessL p q))]))
theorem ok_parting_numbers (T : Tx K mg) : FnOk P w K mg base CX0 6 T.f_parting_numbers T.d_parting_numbers ["n", "one", "other"] (SpC K C_parting_numbers) := by
  refine kfn T.F_parting_numbers sc_parting_numbers (fun W es P ⟨_, _, _, h, _⟩ => by rw [h]; rfl) fun cdv A outer s H E hr => ⟨_, (pss_cons (ps_expr (pe_call (ok_check_arc T) hr (by rfl) T.g_check_arc T.F_check_arc.kp T.b_check_arc .nil pass0 (pa_cons (pv 0) (pa_cons (pv 1) pa_nil))))
      (pss_cons (ps_expr (pe_call (ok_check_arc T) hr (by rfl) T.g_check_arc T.F_check_arc.kp T.b_check_arc .nil pass0 (pa_cons (pv 0) (pa_cons (pv 2) pa_nil))))
      (pss_cons (ps_set (i := 3) sc_parting_numbers.nd rfl (by first | exact Or.inl rfl | exact Or.inr rfl) (pe_callB (cr_max2 rfl) (by rfl) T.m_max (by decide +kernel) (pa_cons (pe_ix (ix_K (K := K) rfl) (pv 1) pe_int (fun _ _ => rfl)) (pa_cons (pe_ix (ix_K (K := K) rfl) (pv 2) pe_int (fun _ _ => rfl)) pa_nil))))
      (pss_cons (ps_set (i := 4) sc_parting_numbers.nd rfl (by first | exact Or.inl rfl | exact Or.inr rfl) (pe_callB (cr_min2 rfl) (by rfl) T.m_min (by decide +kernel) (pa_cons (pe_ix (ix_K (K := K) rfl) (pv 1) pe_int (fun _ _ => rfl)) (pa_cons (pe_ix (ix_K (K := K) rfl) (pv 2) pe_int (fun _ _ => rfl)) pa_nil))))
      (pss_cons (ps_setLc (i := 5) (own := [("p", 7)]) rfl sc_parting_numbers.nd rfl rfl (sw_true rfl rfl rfl (by decide +kernel)) (pi_range2 rfl T.m_range (pa_cons (pv 3) (pa_cons (pe_op (op_addK (K := K) rfl) (pv 4) pe_int) pa_nil))) (blkOk_by (N := N_parting_numbers) (sc := defScope s_parting_numbers) (by decide +kernel)) (fun _ _ _ _ _ => (pg_name (i := 7) sc_parting_numbers.nd rfl (by first | exact Or.inl rfl | exact Or.inr rfl))) (fun _ _ _ _ _ => (pts_one (pt_cmpR op_gt (pe_call (ok_side T) (hr.mono (by decide)) (by rfl) T.g_side T.F_side.kp T.b_side .nil pass0 (pa_cons (pv 1) (pa_cons (pv 7) pa_nil))) (pe_call (ok_side T) (hr.mono (by decide)) (by rfl) T.g_side T.F_side.kp T.b_side .nil pass0 (pa_cons (pv 2) (pa_cons (pv 7) pa_nil))) (nomark _)))) (fun _ _ _ _ _ => (pv 7)))
      (pss_cons (ps_setLc (i := 6) (own := [("p", 7)]) rfl sc_parting_numbers.nd rfl rfl (sw_true rfl rfl rfl (by decide +kernel)) (pi_range2 rfl T.m_range (pa_cons (pv 3) (pa_cons (pe_op (op_addK (K := K) rfl) (pv 4) pe_int) pa_nil))) (blkOk_by (N := N_parting_numbers) (sc := defScope s_parting_numbers) (by decide +kernel)) (fun _ _ _ _ _ => (pg_name (i := 7) sc_parting_numbers.nd rfl (by first | exact Or.inl rfl | exact Or.inr rfl))) (fun _ _ _ _ _ => (pts_one (pt_cmpR op_lt (pe_call (ok_side T) (hr.mono (by decide)) (by rfl) T.g_side T.F_side.kp T.b_side .nil pass0 (pa_cons (pv 1) (pa_cons (pv 7) pa_nil))) (pe_call (ok_side T) (hr.mono (by decide)) (by rfl) T.g_side T.F_side.kp T.b_side .nil pass0 (pa_cons (pv 2) (pa_cons (pv 7) pa_nil))) (nomark _)))) (fun _ _ _ _ _ => (pv 7)))
      (pss_one (ps_ret (pe_tup (pa_cons (pv 5) (pa_cons (pv 6) pa_nil))))))))))), fun W es P hC => ?_⟩
  obtain ⟨n, p, q, rfl, hp, hq, hn, qq⟩ := hC
  have p1 := hp.lo
  have p2 := hp.lt
  have p3 := hp.hi
  have p4 := hp.len
  have q1 := hq.lo
  have q2 := hq.lt
  have q3 := hq.hi
  have q4 := hq.len
  try dsimp only [cx_K, cx_w]
  walk_at "ka"
  refine ⟨n, arcT p, rfl, by unfold arcT; rw [third_arc]; omega, shaped_arc, isArcD_of hp, ?_⟩
  walk_at "ka"
  refine ⟨n, arcT q, rfl, by unfold arcT; rw [third_arc]; omega, shaped_arc, isArcD_of hq, ?_⟩
  walk_at "ka"
  refine opd_ixT (atI_nat (j := 0) rfl) ?_
  walk_at "ka"
  refine opd_ixT (atI_nat (j := 0) rfl) ?_
  walk_at "ka"
  refine opd_ixT (atI_nat (j := 1) rfl) ?_
  walk_at "ka"
  refine opd_ixT (atI_nat (j := 1) rfl) ?_
  walk_at "ka"
  refine de_lcM (rgN (max p.1 q.1) (min p.2.1 q.2.1 + 1 - max p.1 q.1).toNat) (fun x => DV.dat (.int x)) (fun x => decide (sideI q x < sideI p x)) (fun x => .int x) ?_ (by rw [rgN_length]; omega) ?_ ?_
  · walk_at "ka"
    exact ⟨_, _, rfl, by omega, by omega, rfl⟩
  · intro x hx W'' hW
    refine ⟨_, _, tg_name, by simp, ?_⟩
    walk_at "ka"
    refine ⟨p, x, rfl, ?_⟩
    walk_at "ka"
    refine ⟨q, x, rfl, ?_⟩
    walk_at "ka"
    refine ⟨rfl, fun _ => ?_⟩
    walk_at "ka"
    rfl
  walk_at "ka"
  refine de_lcM (rgN (max p.1 q.1) (min p.2.1 q.2.1 + 1 - max p.1 q.1).toNat) (fun x => DV.dat (.int x)) (fun x => decide (sideI p x < sideI q x)) (fun x => .int x) ?_ (by rw [rgN_length]; omega) ?_ ?_
  · walk_at "ka"
    exact ⟨_, _, rfl, by omega, by omega, rfl⟩
  · intro x hx W'' hW
    refine ⟨_, _, tg_name, by simp, ?_⟩
    walk_at "ka"
    refine ⟨p, x, rfl, ?_⟩
    walk_at "ka"
    refine ⟨q, x, rfl, ?_⟩
    walk_at "ka"
    refine ⟨rfl, fun _ => ?_⟩
    walk_at "ka"
    rfl
  walk_at "ka"
  exact ⟨Wd.Le.refl W, qq⟩

def C_judge_crossing : Con := fun _ es P => ∃ n p q, es = [.dat (.int n), .dat (arcT p), .dat (arcT q)] ∧ ArcOk n p.1 p.2.1 p.2.2 ∧ ArcOk n q.1 q.2.1 q.2.2 ∧ n ≤ 60 ∧ (greaterL p q = [] ∨ lessL p q = []) ∧ P (.dat (.tuple [.str "apart"]))
theorem ok_judge_crossing (T : Tx K mg) : FnOk P w K mg base CX0 7 T.f_judge_crossing T.d_judge_crossing ["n", "one", "other"] (SpC K C_judge_crossing) := by
  refine kfn T.F_judge_crossing sc_judge_crossing (fun W es P ⟨_, _, _, h, _⟩ => by rw [h]; rfl) fun cdv A outer s H E hr => ⟨_, (pss_cons (ps_asg (pe_call (ok_parting_numbers T) hr (by rfl) T.g_parting_numbers T.F_parting_numbers.kp T.b_parting_numbers .nil pass0 (pa_cons (pv 0) (pa_cons (pv 1) (pa_cons (pv 2) pa_nil)))) (pg_tupK (K := K) rfl (pg_tup (n := 2) rfl (pgs_cons (pg_name (i := 3) sc_judge_crossing.nd rfl (by first | exact Or.inl rfl | exact Or.inr rfl)) (pgs_cons (pg_name (i := 4) sc_judge_crossing.nd rfl (by first | exact Or.inl rfl | exact Or.inr rfl)) pgs_nil)))))
      (pss_cons (ps_if (PW.pt (pw_and (pt_truK (K := K) rfl (pv 3) (by intro _; rfl)) (pw_and1 (pt_truK (K := K) rfl (pv 4) (by intro _; rfl))))) (pss_one (ps_ret (pe_tup (pa_cons pe_str (pa_cons (pe_ix (ix_K (K := K) rfl) (pv 3) pe_int (fun _ _ => rfl)) (pa_cons (pe_ix (ix_K (K := K) rfl) (pv 4) pe_int (fun _ _ => rfl)) pa_nil)))))) pss_nil)
      (pss_one (ps_ret (pe_tup (pa_cons pe_str pa_nil)))))), fun W es P hC => ?_⟩
  obtain ⟨n, p, q, rfl, hp, hq, hn, hx, qq⟩ := hC
  try dsimp only [cx_K, cx_w]
  walk_at "ka"
  refine ⟨n, p, q, rfl, hp, hq, hn, ?_⟩
  refine ⟨_, _, tg_tup2, ?_⟩
  refine dq_no ?_ ?_
  · walk_at "ka"
    refine ⟨nofun, fun e => ?_, fun _ => rfl⟩
    walk_at "ka"
    refine ⟨nofun, ?_⟩
    rcases hx with hx | hx
    · rw [hx] at e
      cases e
    · rw [hx]
      rfl
  walk_at "ka"
  exact ⟨Wd.Le.refl W, qq⟩

def C_are_arcs : Con := fun _ es P => ∃ (n : Int) (L : List Arc3), es = [.dat (.int n), .dat (.tuple (L.map arcT))] ∧ (∀ p ∈ L, ArcOk n p.1 p.2.1 p.2.2) ∧ n ≤ 60 ∧ L.length ≤ 50000 ∧ P (.dat (.bool true))
theorem all_true : ∀ {l : List Bool}, (∀ b ∈ l, b = true) → l.all id = true := fun h => List.all_eq_true.mpr fun b m => h b m
theorem ok_are_arcs (T : Tx K mg) : FnOk P w K mg base CX0 5 T.f_are_arcs T.d_are_arcs ["n", "thing"] (SpC K C_are_arcs) := by
  refine kfn T.F_are_arcs sc_are_arcs (fun W es P ⟨_, _, h, _⟩ => by rw [h]; rfl) fun cdv A outer s H E hr => ⟨_, (pss_one (ps_ret (pe_and (pe_callB (cr_isiK (K := K) rfl) (by rfl) T.m_isinstance (by decide +kernel) (pa_cons (pv 1) (pa_cons (pe_bltn (v := .ty "tuple") (by rfl) T.m_tuple (by decide +kernel) rfl) pa_nil))) (pe_one (pe_callB (cr_allK (K := K) rfl rfl) (by rfl) T.m_all (by decide +kernel) (pa_cons (pe_lc (own := [("arc", 2)]) rfl sc_are_arcs.nd (pi_seqK (K := K) rfl (pv 1)) (blkOk_by (N := N_are_arcs) (sc := defScope s_are_arcs) (by decide +kernel)) (fun _ _ _ _ _ => (pg_name (i := 2) sc_are_arcs.nd rfl (by first | exact Or.inl rfl | exact Or.inr rfl))) (fun _ _ _ _ _ => pts_nil) (fun _ _ _ _ _ => (pe_call (ok_is_arc T) hr (by rfl) T.g_is_arc T.F_is_arc.kp T.b_is_arc .nil pass0 (pa_cons (pv 0) (pa_cons (pv 2) pa_nil))))) pa_nil)))))), fun W es P hC => ?_⟩
  obtain ⟨n, L, rfl, hL, hn, hz, q⟩ := hC
  try dsimp only [cx_K, cx_w]
  walk_at "ka"
  refine cal_isi (kit_tuple _) ⟨_, rfl, fun _ => ?_, nofun⟩
  walk_at "ka"
  refine de_lcM L (fun p => DV.dat (arcT p)) (fun _ => true) (fun _ => .bool true) (di_seqT ?_) hz ?_ ?_
  · walk_at "ka"
    exact List.map_map ..
  · intro p hp W' hW
    have ha := hL p hp
    have h4 := ha.len
    have h1 := ha.lo
    have h3 := ha.hi
    refine ⟨_, _, tg_name, by simp, ?_⟩
    walk_at "ka"
    refine ⟨rfl, fun _ => ?_⟩
    walk_at "ka"
    refine ⟨n, arcT p, rfl, by unfold arcT; rw [third_arc]; omega, shaped_arc, ?_⟩
    rw [show isArcD n (arcT p) = true from isArcD_of ha]
  · walk_at "ka"
    rw [List.filter_eq_self.mpr (fun _ _ => rfl)]
    have e : L.map (fun _ => PyData.bool true) = (L.map fun _ => true).map PyData.bool := by rw [List.map_map]; rfl
    rw [e]
    refine cal_all ⟨Wd.Le.refl W, ?_⟩
    rw [all_true fun b m => by obtain ⟨_, _, rfl⟩ := List.mem_map.mp m; rfl]
    exact q

def C_check_arcs : Con := fun _ es P => ∃ (n : Int) (L : List Arc3), es = [.dat (.int n), .dat (.tuple (L.map arcT))] ∧ (∀ p ∈ L, ArcOk n p.1 p.2.1 p.2.2) ∧ n ≤ 60 ∧ L.length ≤ 50000 ∧ P (.dat .none)
theorem ok_check_arcs (T : Tx K mg) : FnOk P w K mg base CX0 6 T.f_check_arcs T.d_check_arcs ["n", "arcs"] (SpC K C_check_arcs) := by
  refine kfn T.F_check_arcs sc_check_arcs (fun W es P ⟨_, _, h, _⟩ => by rw [h]; rfl) fun cdv A outer s H E hr => ⟨_, (pss_one (ps_if (pt_not (pt_val (pe_call (ok_are_arcs T) hr (by rfl) T.g_are_arcs T.F_are_arcs.kp T.b_are_arcs .nil pass0 (pa_cons (pv 0) (pa_cons (pv 1) pa_nil))))) (pss_one ps_never) pss_nil)), fun W es P hC => ?_⟩
  obtain ⟨n, L, rfl, hL, hn, hz, q⟩ := hC
  try dsimp only [cx_K, cx_w]
  walk_at "ka"
  refine ⟨n, L, rfl, hL, hn, hz, ?_⟩
  exact ⟨_, rfl, nofun, fun _ => ds_next ⟨Wd.Le.refl W, q⟩⟩

def C_share_an_end : Con := fun _ es P => ∃ p q : Arc3, es = [.dat (arcT p), .dat (arcT q)] ∧ P (.dat (.bool (decide (p.1 = q.1) || decide (p.2.1 = q.2.1))))
theorem ok_share_an_end (T : Tx K mg) : FnOk P w K mg base CX0 1 T.f_share_an_end T.d_share_an_end ["one", "other"] (SpC K C_share_an_end) := by
  refine kfn T.F_share_an_end sc_share_an_end (fun W es P ⟨_, _, h, _⟩ => by rw [h]; rfl) fun cdv A outer s H E hr => ⟨_, (pss_one (ps_ret (pe_or (pe_cmpR (op_eqK (K := K) rfl hr.units) (pe_ix (ix_K (K := K) rfl) (pv 0) pe_int (fun _ _ => rfl)) (pe_ix (ix_K (K := K) rfl) (pv 1) pe_int (fun _ _ => rfl)) (nomark _)) (pe_one (pe_cmpR (op_eqK (K := K) rfl hr.units) (pe_ix (ix_K (K := K) rfl) (pv 0) pe_int (fun _ _ => rfl)) (pe_ix (ix_K (K := K) rfl) (pv 1) pe_int (fun _ _ => rfl)) (nomark _)))))), fun W es P hC => ?_⟩
  obtain ⟨p, r, rfl, q⟩ := hC
  try dsimp only [cx_K, cx_w]
  walk_at "ka"
  refine opd_ixT (atI_nat (j := 0) rfl) ?_
  walk_at "ka"
  refine opd_ixT (atI_nat (j := 0) rfl) ?_
  refine opd_eq (by rfl) (by rfl) ?_
  rw [eqv_int]
  refine ⟨_, rfl, fun e => ?_, fun e => ⟨Wd.Le.refl W, ?_⟩⟩
  · walk_at "ka"
    refine opd_ixT (atI_nat (j := 1) rfl) ?_
    walk_at "ka"
    refine opd_ixT (atI_nat (j := 1) rfl) ?_
    refine opd_eq (by rfl) (by rfl) ⟨Wd.Le.refl W, ?_⟩
    rw [eqv_int]
    rw [e, Bool.false_or] at q
    exact q
  · rw [e, Bool.true_or] at q
    exact q

def C_arcs_two_by_two : Con := fun _ es P => ∃ L : List Arc3, es = [.dat (.tuple (L.map arcT))] ∧ L.length ≤ 60 ∧ P (.dat (.list (twoD L)))
theorem enum_map {α : Type} (f : α → PyData) (L : List α) : enumD (L.map f) = L.zipIdx.map fun p => DV.dat (.tuple [.int p.2, f p.1]) := by
  unfold enumD
  rw [List.zipIdx_map, List.map_map]
  rfl
theorem ok_arcs_two_by_two (T : Tx K mg) : FnOk P w K mg base CX0 1 T.f_arcs_two_by_two T.d_arcs_two_by_two ["arcs"] (SpC K C_arcs_two_by_two) := by
  refine kfn T.F_arcs_two_by_two sc_arcs_two_by_two (fun W es P ⟨_, h, _⟩ => by rw [h]; rfl) fun cdv A outer s H E hr => ⟨_, (pss_one (ps_ret (pe_lc2 (own := [("i", 1), ("one", 2), ("other", 3)]) (vs1 := [3]) rfl sc_arcs_two_by_two.nd (pi_enTK (K := K) rfl (by rfl) T.m_enumerate (pa_cons (pv 0) pa_nil)) (blkOk_by (N := N_arcs_two_by_two) (sc := defScope s_arcs_two_by_two) (by decide +kernel)) (by decide) (fun _ _ _ _ _ => (pg_tupK (K := K) rfl (pg_tup (n := 2) rfl (pgs_cons (pg_name (i := 1) sc_arcs_two_by_two.nd rfl (by first | exact Or.inl rfl | exact Or.inr rfl)) (pgs_cons (pg_name (i := 2) sc_arcs_two_by_two.nd rfl (by first | exact Or.inl rfl | exact Or.inr rfl)) pgs_nil))))) (fun _ _ _ _ _ => pts_nil) (fun _ _ _ _ _ => (pi_seqK (K := K) rfl (pe_slice (sl_K (K := K) rfl) (pv 0) (po_some (pe_op (op_addK (K := K) rfl) (pv 1) pe_int)) po_none))) (fun _ _ _ _ _ => (pg_name (i := 3) sc_arcs_two_by_two.nd rfl (by first | exact Or.inl rfl | exact Or.inr rfl))) (fun _ _ _ _ _ => pts_nil) (fun _ _ _ _ _ => (pe_tup (pa_cons (pv 2) (pa_cons (pv 3) pa_nil))))))), fun W es P hC => ?_⟩
  obtain ⟨L, rfl, hz, q⟩ := hC
  try dsimp only [cx_K, cx_w]
  walk_at "ka"
  refine de_lc2M L.zipIdx (fun p => DV.dat (.tuple [.int p.2, arcT p.1])) (fun _ => true) (fun p => L.drop (p.2 + 1)) (fun _ e => DV.dat (arcT e)) (fun _ _ => true) (fun p e => .tuple [arcT p.1, arcT e]) 60 ?_ ?_ ?_ ?_ ?_
  · refine di_enT ?_
    walk_at "ka"
    exact enum_map arcT L
  · rw [List.length_zipIdx]
    omega
  · intro p hp
    rw [List.length_drop]
    omega
  · intro p hp W' hW
    refine ⟨_, _, tg_tup2, by simp, ?_⟩
    walk_at "ka"
    refine ⟨rfl, fun _ => ⟨?_, fun e he W'' hW2 => ?_⟩⟩
    · refine di_seqT ?_
      walk_at "ka"
      show (cutG (L.map arcT) (some ((p.2 : Int) + 1)) none).map DV.dat = _
      rw [cut_from (by omega), show ((p.2 : Int) + 1).toNat = p.2 + 1 by omega, ← List.map_drop]
      exact List.map_map ..
    · refine ⟨_, _, tg_name, by simp, ?_⟩
      walk_at "ka"
      refine ⟨rfl, fun _ => ?_⟩
      walk_at "ka"
      rfl
  · refine ⟨Wd.Le.refl W, ?_⟩
    rw [List.filter_eq_self.mpr (fun _ _ => rfl)]
    have e : (L.zipIdx.flatMap fun p => ((L.drop (p.2 + 1)).filter fun _ => true).map fun e => PyData.tuple [arcT p.1, arcT e]) = twoD L := by
      unfold twoD
      congr 1
      funext p
      rw [List.filter_eq_self.mpr (fun _ _ => rfl)]
    rw [e]
    exact q

def C_judge_lot : Con := fun _ es P => ∃ n L, es = [.dat (.int n), .dat (.tuple (L.map arcT))] ∧ LotOk n L ∧ n ≤ 60 ∧ P (.dat (.tuple [.str "lot"]))
theorem arc_alike (p q : Arc3) : PySem.W.alike (arcT p) (arcT q) = true := by
  show PySem.W.alike (.tuple [.int _, .int _, .tuple (intsD _)]) (.tuple [.int _, .int _, .tuple (intsD _)]) = true
  simp only [PySem.W.alike, PySem.W.alikeAll, alike_ints2, Bool.and_true]
theorem arc_depth (p : Arc3) : (arcT p).depth ≤ 60 := arcT_arcs [p] |>.dep _ (by simp)
theorem ok_judge_lot (T : Tx K mg) : FnOk P w K mg base CX0 8 T.f_judge_lot T.d_judge_lot ["n", "arcs"] (SpC K C_judge_lot) := by
  refine kfn T.F_judge_lot sc_judge_lot (fun W es P ⟨_, _, h, _⟩ => by rw [h]; rfl) fun cdv A outer s H E hr => ⟨_, (pss_cons (ps_expr (pe_call (ok_check_arcs T) (hr.mono (by decide)) (by rfl) T.g_check_arcs T.F_check_arcs.kp T.b_check_arcs .nil pass0 (pa_cons (pv 0) (pa_cons (pv 1) pa_nil))))
      (pss_cons (ps_for PassesOwn.never rfl (pi_range1 rfl T.m_range (pa_cons (pe_op op_sub (pe_callB (cr_lenK (K := K) rfl) (by rfl) T.m_len (by decide +kernel) (pa_cons (pv 1) pa_nil)) pe_int) pa_nil)) (pg_name (i := 2) sc_judge_lot.nd rfl (by first | exact Or.inl rfl | exact Or.inr rfl)) (pss_one (ps_if (pt_not (pt_cmpR (op_ltD (K := K) rfl hr.units) (pe_ix (ix_K (K := K) rfl) (pv 1) (pv 2) (fun _ _ => rfl)) (pe_ix (ix_K (K := K) rfl) (pv 1) (pe_op (op_addK (K := K) rfl) (pv 2) pe_int) (fun _ _ => rfl)) (nomark _))) (pss_one (ps_ret (pe_tup (pa_cons pe_str (pa_cons (pv 2) pa_nil))))) pss_nil)))
      (pss_cons (ps_for PassesOwn.never rfl (pi_seqK (K := K) rfl (pe_call (ok_arcs_two_by_two T) (hr.mono (by decide)) (by rfl) T.g_arcs_two_by_two T.F_arcs_two_by_two.kp T.b_arcs_two_by_two .nil pass0 (pa_cons (pv 1) pa_nil))) (pg_tupK (K := K) rfl (pg_tup (n := 2) rfl (pgs_cons (pg_name (i := 3) sc_judge_lot.nd rfl (by first | exact Or.inl rfl | exact Or.inr rfl)) (pgs_cons (pg_name (i := 4) sc_judge_lot.nd rfl (by first | exact Or.inl rfl | exact Or.inr rfl)) pgs_nil)))) (pss_one (ps_if (pt_val (pe_call (ok_share_an_end T) (hr.mono (by decide)) (by rfl) T.g_share_an_end T.F_share_an_end.kp T.b_share_an_end .nil pass0 (pa_cons (pv 3) (pa_cons (pv 4) pa_nil)))) (pss_one (ps_ret (pe_tup (pa_cons pe_str (pa_cons (pv 3) (pa_cons (pv 4) pa_nil)))))) pss_nil)))
      (pss_cons (ps_for PassesOwn.never rfl (pi_seqK (K := K) rfl (pe_call (ok_arcs_two_by_two T) (hr.mono (by decide)) (by rfl) T.g_arcs_two_by_two T.F_arcs_two_by_two.kp T.b_arcs_two_by_two .nil pass0 (pa_cons (pv 1) pa_nil))) (pg_tupK (K := K) rfl (pg_tup (n := 2) rfl (pgs_cons (pg_name (i := 3) sc_judge_lot.nd rfl (by first | exact Or.inl rfl | exact Or.inr rfl)) (pgs_cons (pg_name (i := 4) sc_judge_lot.nd rfl (by first | exact Or.inl rfl | exact Or.inr rfl)) pgs_nil)))) (pss_cons (ps_set (i := 5) sc_judge_lot.nd rfl (by first | exact Or.inl rfl | exact Or.inr rfl) (pe_call (ok_judge_crossing T) hr (by rfl) T.g_judge_crossing T.F_judge_crossing.kp T.b_judge_crossing .nil pass0 (pa_cons (pv 0) (pa_cons (pv 3) (pa_cons (pv 4) pa_nil)))))
      (pss_one (ps_if (pt_cmpR (op_eqK (K := K) rfl hr.units) (pe_ix (ix_K (K := K) rfl) (pv 5) pe_int (fun _ _ => rfl)) pe_str (nomark _)) (pss_one (ps_ret (pe_op (op_addK (K := K) rfl) (pe_tup (pa_cons pe_str (pa_cons (pv 3) (pa_cons (pv 4) pa_nil)))) (pe_slice (sl_K (K := K) rfl) (pv 5) (po_some pe_int) po_none)))) pss_nil))))
      (pss_one (ps_ret (pe_tup (pa_cons pe_str pa_nil)))))))), fun W es P hC => ?_⟩
  obtain ⟨n, L, rfl, hL, hn, q⟩ := hC
  have hz := hL.len
  have ho := hL.ok
  try dsimp only [cx_K, cx_w]
  walk_at "ka"
  refine ⟨n, L, rfl, ho, hn, by omega, ?_⟩
  refine ds_seq (ds_for ?_)
  walk_at "ka"
  rw [List.length_map]
  refine ⟨by omega, fun i W' Δ' => W' = W ∧ ∃ x2, Δ' = [some (.dat (.int n)), some (.dat (.tuple (L.map arcT))), x2, none, none, none], ⟨rfl, none, rfl⟩, ?_, ?_⟩
  · rintro i e W' Δ' he ⟨rfl, x2, rfl⟩
    obtain ⟨hi, rfl⟩ := rgN_at he
    have l1 : i + 1 < L.length := by omega
    have g0 : L[i]? = some L[i] := List.getElem?_eq_getElem (by omega)
    have g1 : L[i + 1]? = some L[i + 1] := List.getElem?_eq_getElem l1
    refine ⟨_, _, tg_name, ?_⟩
    refine ds_no ?_ ⟨rfl, _, rfl⟩
    walk_at "ka"
    rw [show (0 : Int) + (i : Int) = ((i : Nat) : Int) by omega]
    refine opd_ixT (atI_nat (v := arcT L[i]) (by rw [List.getElem?_map, g0]; rfl)) ?_
    walk_at "ka"
    rw [show (i : Int) + 1 = ((i + 1 : Nat) : Int) by omega]
    refine opd_ixT (atI_nat (v := arcT L[i + 1]) (by rw [List.getElem?_map, g1]; rfl)) ?_
    refine opd_ltD (arc_alike _ _) nofun (arc_depth _) ⟨_, rfl, ?_⟩
    rw [hL.asc i _ _ g0 g1]
    rfl
  rintro W' Δ' ⟨rfl, x2, rfl⟩
  refine ds_seq (ds_for ?_)
  refine di_seqL ?_
  walk_at "ka"
  refine ⟨L, rfl, hz, ?_⟩
  refine ⟨_, rfl, fun i W'' Δ' => W'' = W' ∧ ∃ x3 x4, Δ' = [some (.dat (.int n)), some (.dat (.tuple (L.map arcT))), x2, x3, x4, none], ⟨rfl, none, none, rfl⟩, ?_, ?_⟩
  · rintro i e W'' Δ' he ⟨rfl, x3, x4, rfl⟩
    rw [List.getElem?_map] at he
    obtain ⟨d, hd, rfl⟩ := Option.map_eq_some_iff.mp he
    obtain ⟨a, b, p, r, hab, ha, hb, rfl⟩ := twoD_mem (List.mem_of_getElem? hd)
    obtain ⟨n1, n2, n3⟩ := hL.apart a b p r hab ha hb
    refine ⟨_, _, tg_tup2, ?_⟩
    refine ds_no ?_ ⟨rfl, _, _, rfl⟩
    walk_at "ka"
    refine ⟨p, r, rfl, ?_⟩
    rw [decide_eq_false n1, decide_eq_false n2]
    exact ⟨_, rfl, rfl⟩
  rintro W'' Δ' ⟨rfl, x3, x4, rfl⟩
  refine ds_seq (ds_for ?_)
  refine di_seqL ?_
  walk_at "ka"
  refine ⟨L, rfl, hz, ?_⟩
  refine ⟨_, rfl, fun i W3 Δ' => W3 = W'' ∧ ∃ x3 x4 x5, Δ' = [some (.dat (.int n)), some (.dat (.tuple (L.map arcT))), x2, x3, x4, x5], ⟨rfl, x3, x4, none, rfl⟩, ?_, ?_⟩
  · rintro i e W3 Δ' he ⟨rfl, x3, x4, x5, rfl⟩
    rw [List.getElem?_map] at he
    obtain ⟨d, hd, rfl⟩ := Option.map_eq_some_iff.mp he
    obtain ⟨a, b, p, r, hab, ha, hb, rfl⟩ := twoD_mem (List.mem_of_getElem? hd)
    obtain ⟨n1, n2, n3⟩ := hL.apart a b p r hab ha hb
    refine ⟨_, _, tg_tup2, ?_⟩
    walk_at "ka"
    refine ⟨n, p, r, rfl, ho p (List.mem_of_getElem? ha), ho r (List.mem_of_getElem? hb), hn, n3, ?_⟩
    refine ds_no ?_ ⟨rfl, _, _, _, rfl⟩
    walk_at "ka"
    refine opd_ixT (atI_nat (j := 0) rfl) ?_
    walk_at "ka"
    refine opd_eqS ⟨_, rfl, ?_⟩
    decide +kernel
  rintro W3 Δ' ⟨rfl, x3, x4, x5, rfl⟩
  walk_at "ka"
  exact ⟨Wd.Le.refl _, q⟩

def C_is_lot : Con := fun _ es P => ∃ n L, es = [.dat (.int n), .dat (.tuple (L.map arcT))] ∧ LotOk n L ∧ n ≤ 60 ∧ P (.dat (.bool true))
theorem ok_is_lot (T : Tx K mg) : FnOk P w K mg base CX0 9 T.f_is_lot T.d_is_lot ["n", "thing"] (SpC K C_is_lot) := by
  refine kfn T.F_is_lot sc_is_lot (fun W es P ⟨_, _, h, _⟩ => by rw [h]; rfl) fun cdv A outer s H E hr => ⟨_, (pss_one (ps_ret (pe_and (pe_call (ok_are_arcs T) (hr.mono (by decide)) (by rfl) T.g_are_arcs T.F_are_arcs.kp T.b_are_arcs .nil pass0 (pa_cons (pv 0) (pa_cons (pv 1) pa_nil))) (pe_one (pe_cmpR (op_eqK (K := K) rfl hr.units) (pe_call (ok_judge_lot T) hr (by rfl) T.g_judge_lot T.F_judge_lot.kp T.b_judge_lot .nil pass0 (pa_cons (pv 0) (pa_cons (pv 1) pa_nil))) (pe_tup (pa_cons pe_str pa_nil)) (nomark _)))))), fun W es P hC => ?_⟩
  obtain ⟨n, L, rfl, hL, hn, q⟩ := hC
  have hz := hL.len
  try dsimp only [cx_K, cx_w]
  walk_at "ka"
  refine ⟨n, L, rfl, hL.ok, hn, by omega, ?_⟩
  refine ⟨_, rfl, fun _ => ?_, nofun⟩
  walk_at "ka"
  refine ⟨n, L, rfl, hL, hn, ?_⟩
  walk_at "ka"
  refine opd_eq (by decide +kernel) (by decide +kernel) ⟨Wd.Le.refl W, ?_⟩
  have e : PyData.eqv (.tuple [.str "lot"]) (.tuple [.str "lot"]) = true := by decide +kernel
  rw [e]
  exact q

def C_check_lot : Con := fun _ es P => ∃ n L, es = [.dat (.int n), .dat (.tuple (L.map arcT))] ∧ LotOk n L ∧ n ≤ 60 ∧ P (.dat .none)
theorem ok_check_lot (T : Tx K mg) : FnOk P w K mg base CX0 10 T.f_check_lot T.d_check_lot ["n", "lot"] (SpC K C_check_lot) := by
  refine kfn T.F_check_lot sc_check_lot (fun W es P ⟨_, _, h, _⟩ => by rw [h]; rfl) fun cdv A outer s H E hr => ⟨_, (pss_one (ps_if (pt_not (pt_val (pe_call (ok_is_lot T) hr (by rfl) T.g_is_lot T.F_is_lot.kp T.b_is_lot .nil pass0 (pa_cons (pv 0) (pa_cons (pv 1) pa_nil))))) (pss_one ps_never) pss_nil)), fun W es P hC => ?_⟩
  obtain ⟨n, L, rfl, hL, hn, q⟩ := hC
  try dsimp only [cx_K, cx_w]
  walk_at "ka"
  refine ⟨n, L, rfl, hL, hn, ?_⟩
  exact ⟨_, rfl, nofun, fun _ => ds_next ⟨Wd.Le.refl W, q⟩⟩

/-! all lots of up to five numbers -/
def insA (p : Arc3) : List Arc3 → List Arc3
  | [] => [p]
  | q :: l => if PySem.W.dataLe false id (arcT p) (arcT q) then p :: q :: l else q :: insA p l
def sortA (l : List Arc3) : List Arc3 := l.foldr insA []
def allA5 (n : Int) : List Arc3 := sortA (arcsN n)
def recK (r : List Int) (i : Nat) : Arc3 := (lowAt r i, highAt r i, (rgN (lowAt r i + 1) (highAt r i - lowAt r i - 1).toNat).filter fun x => (r.take i).contains x)
theorem recK_is {n : Int} {r : List Int} (h : RowOk n r) (i : Nat) : recK r i = recOf r i := by
  unfold recK recOf
  congr 2
  refine asc_unique (rgN_asc.filter _) (aheadAt_asc h i) fun x => ?_
  rw [aheadAt_mem, List.mem_filter, rgN_mem, List.contains_iff_mem]
  constructor
  · rintro ⟨h1, h2⟩
    exact ⟨h2, by omega, by omega⟩
  · rintro ⟨h1, h2, h3⟩
    exact ⟨by omega, h1⟩
def fallsA (n : Int) (r : List Int) : List Arc3 := (allA5 n).filter fun p => ((idxs r true).map (recK r)).contains p
def fitB (p q : Arc3) : Bool := !(decide (p.1 = q.1)) && !(decide (p.2.1 = q.2.1)) && ((greaterL p q).isEmpty || (lessL p q).isEmpty)
def addLot (found : List (List Arc3)) (a : Arc3) : List (List Arc3) := found ++ (found.filter fun S => S.all fun p => fitB p a).map fun S => S ++ [a]
def lotsF (L : List Arc3) : List (List Arc3) := L.foldl addLot [[]]
theorem lots5_sorted : ∀ n : Nat, n < 6 → ((allA5 n).map arcT).Pairwise fun a b => PySem.W.dataLe false id a b = true := by decide +kernel
theorem lots5_perm : ∀ n : Nat, n < 6 → (allA5 n).isPerm (arcsN n) = true := by decide +kernel
theorem lots5_rows : ∀ n : Nat, n < 6 → ((rowsAll n).map (fallsA n)).isPerm (lotsF (allA5 n)) = true := by decide +kernel
theorem lots5_nd : ∀ n : Nat, n < 6 → (lotsF (allA5 n)).Nodup := by decide +kernel
/-- the arcs of the falls, sorted -/
theorem fallsA_mem {n : Nat} (hn : n < 6) {r : List Int} (h : RowOk n r) {p : Arc3} : p ∈ fallsA n r ↔ p ∈ (idxs r true).map (recOf r) := by
  have e : (idxs r true).map (recK r) = (idxs r true).map (recOf r) := List.map_congr_left fun i _ => recK_is h i
  unfold fallsA
  rw [List.mem_filter, e, List.contains_iff_mem]
  refine ⟨fun z => z.2, fun z => ⟨?_, z⟩⟩
  rw [(List.isPerm_iff.mp (lots5_perm n hn)).mem_iff, arcsN_mem (by omega)]
  obtain ⟨i, hi, rfl⟩ := List.mem_map.mp z
  have := List.mem_range.mp (List.mem_filter.mp hi).1
  exact arc_ok h (by omega)

/-! lots of a rule -/
theorem arcs_same {A B : List Arc3} (hp : A.Perm B) (ha : (A.map arcT).Pairwise fun x y => PySem.W.dataLe false id x y = true) (hb : (B.map arcT).Pairwise fun x y => PySem.W.dataLe false id x y = true) : A = B := by
  rw [List.pairwise_map] at ha hb
  refine List.Perm.eq_of_pairwise (le := fun a b => PySem.W.dataLe false id (arcT a) (arcT b) = true) (fun a b h1 h2 h3 h4 => ?_) ha hb hp
  exact toks_arcT (le_both h3 h4)
theorem allA5_nd {n : Nat} (hn : n < 6) : (allA5 n).Nodup := (List.isPerm_iff.mp (lots5_perm n hn)).nodup_iff.mpr (arcsN_nodup n)
theorem allA5_mem {n : Nat} (hn : n < 6) {p : Arc3} : p ∈ allA5 n ↔ ArcOk n p.1 p.2.1 p.2.2 := by
  rw [(List.isPerm_iff.mp (lots5_perm n hn)).mem_iff, arcsN_mem (by omega)]
theorem sorted_part {A : List Arc3} {f : Arc3 → Bool} (h : (A.map arcT).Pairwise fun x y => PySem.W.dataLe false id x y = true) : ((A.filter f).map arcT).Pairwise fun x y => PySem.W.dataLe false id x y = true := by
  rw [List.pairwise_map] at h ⊢
  exact h.filter _
/-- the arcs of the falls as they are told -/
theorem falls_told {n : Nat} (hn : n < 6) {r : List Int} (hr : RowOk n r) : arcsD r true = (fallsA n r).map arcT := by
  obtain ⟨A, e, hA, pm⟩ := lot_falls hr
  have nd : A.Nodup := by
    rw [List.nodup_iff_pairwise_ne, List.pairwise_iff_getElem]
    intro i j hi hj hij e
    exact (hA.apart i j _ _ hij (List.getElem?_eq_getElem hi) (List.getElem?_eq_getElem hj)).1 (by rw [e])
  have hs : (A.map arcT).Pairwise fun x y => PySem.W.dataLe false id x y = true := by
    rw [← e]
    exact List.pairwise_mergeSort le_trans3 le_either _
  rw [e]
  congr 1
  refine arcs_same ?_ hs (sorted_part (lots5_sorted n hn))
  refine (List.perm_ext_iff_of_nodup nd ((allA5_nd hn).filter _)).mpr fun p => ?_
  rw [pm.mem_iff]
  exact (fallsA_mem hn hr).symm
/-! all rules, arc by arc -/
theorem alikeAll_mem : ∀ {xs ys : List PyData}, (∀ x ∈ xs, ∀ y ∈ ys, PySem.W.alike x y = true) → PySem.W.alikeAll xs ys = true
  | [], _, _ => by unfold PySem.W.alikeAll; rfl
  | x :: xs, [], _ => by unfold PySem.W.alikeAll; rfl
  | x :: xs, y :: ys, h => by
    unfold PySem.W.alikeAll
    rw [h x (by simp) y (by simp), alikeAll_mem fun a ha b hb => h a (List.mem_cons_of_mem _ ha) b (List.mem_cons_of_mem _ hb)]
    rfl
def lotD (S : List Arc3) : PyData := .tuple (S.map arcT)
theorem toks_lots : ∀ {A B : List Arc3} {l m : List (Int ⊕ List Nat)}, PySem.W.keyToksAll (A.map arcT) ++ l = PySem.W.keyToksAll (B.map arcT) ++ m → A = B ∧ l = m
  | [], [], l, m, h => by
    simp only [List.map_nil, PySem.W.keyToksAll, List.cons_append, List.nil_append, List.cons.injEq, true_and] at h
    exact ⟨rfl, h⟩
  | [], q :: B, l, m, h => by
    simp [PySem.W.keyToksAll] at h
  | p :: A, [], l, m, h => by
    simp [PySem.W.keyToksAll] at h
  | p :: A, q :: B, l, m, h => by
    obtain ⟨a, b, S⟩ := p
    obtain ⟨c, d, R⟩ := q
    simp only [List.map_cons, arcT, arcD, PySem.W.keyToks, PySem.W.keyToksAll, List.cons_append, List.append_assoc, List.nil_append, List.cons.injEq, true_and, Sum.inl.injEq] at h
    obtain ⟨rfl, rfl, h⟩ := h
    obtain ⟨e3, h2⟩ := toks_ints h
    injection h2 with _ h3
    obtain ⟨e4, e5⟩ := toks_lots (A := A) (B := B) h3
    exact ⟨by rw [e3, e4], e5⟩
theorem toks_lot {A B : List Arc3} (h : PySem.W.keyToks (lotD A) = PySem.W.keyToks (lotD B)) : A = B := by
  unfold lotD at h
  simp only [PySem.W.keyToks] at h
  exact (toks_lots (l := []) (m := []) (by rw [h])).1
theorem lots_alike (Rs : List (List Arc3)) : PySem.W.AllAlike (Rs.map lotD) := fun d hd d' hd' => by
  obtain ⟨R, _, rfl⟩ := List.mem_map.mp hd
  obtain ⟨S, _, rfl⟩ := List.mem_map.mp hd'
  show PySem.W.alikeAll _ _ = true
  have hA := arcT_arcs (R ++ S)
  refine alikeAll_mem fun x hx y hy => hA.alike x ?_ y ?_
  · rw [List.map_append]
    exact List.mem_append_left _ hx
  · rw [List.map_append]
    exact List.mem_append_right _ hy
theorem lots_dep (Rs : List (List Arc3)) : ∀ d ∈ Rs.map lotD, d.depth ≤ 60 := fun d hd => by
  obtain ⟨R, _, rfl⟩ := List.mem_map.mp hd
  have h : PyData.depthAll (R.map arcT) ≤ 2 := shs_dep fun d hd => by
    obtain ⟨p, _, rfl⟩ := List.mem_map.mp hd
    simp [arcT, arcD, PyData.depth, PyData.depthAll, depth_intsD]
  unfold lotD
  simp only [PyData.depth]
  omega
theorem lots_sort {A B : List (List Arc3)} (h : A.Perm B) : (A.map lotD).mergeSort (PySem.W.dataLe false id) = (B.map lotD).mergeSort (PySem.W.dataLe false id) := by
  refine sort_same (h.map _) fun a ha b hb e => ?_
  obtain ⟨R, _, rfl⟩ := List.mem_map.mp ha
  obtain ⟨S, _, rfl⟩ := List.mem_map.mp hb
  rw [toks_lot e]

def C_all_lots : Con := fun _ es P => ∃ n : Nat, es = [.dat (.int n)] ∧ 1 ≤ n ∧ n ≤ 5 ∧ P (.dat (.tuple (((lotsF (allA5 n)).map lotD).mergeSort (PySem.W.dataLe false id))))
theorem ok_all_lots (T : Tx K mg) : FnOk P w K mg base CX0 7 T.f_all_lots T.d_all_lots ["n"] (SpC K C_all_lots) := by
  refine kfn T.F_all_lots sc_all_lots (fun W es P ⟨_, h, _⟩ => by rw [h]; rfl) fun cdv A outer s H E hr => ⟨_, (pss_one (ps_ret (pe_callTy (cr_tupK (K := K) rfl) (by rfl) T.m_tuple (by decide +kernel) (pa_cons (pe_callB (cr_sortedVK (K := K) rfl hr.units) (by rfl) T.m_sorted (by decide +kernel) (pa_cons (pe_lc (own := [("row", 1)]) rfl sc_all_lots.nd (pi_seqK (K := K) rfl (pe_call (ok_all_rows T) (hr.mono (by decide)) (by rfl) T.g_all_rows T.F_all_rows.kp T.b_all_rows .nil pass0 (pa_cons (pv 0) pa_nil))) (blkOk_by (N := N_all_lots) (sc := defScope s_all_lots) (by decide +kernel)) (fun _ _ _ _ _ => (pg_name (i := 1) sc_all_lots.nd rfl (by first | exact Or.inl rfl | exact Or.inr rfl))) (fun _ _ _ _ _ => pts_nil) (fun _ _ _ _ _ => (pe_call (ok_arcs_of_falls T) hr (by rfl) T.g_arcs_of_falls T.F_arcs_of_falls.kp T.b_arcs_of_falls .nil pass0 (pa_cons (pv 0) (pa_cons (pv 1) pa_nil))))) pa_nil)) pa_nil)))), fun W es PX hC => ?_⟩
  obtain ⟨n, rfl, h1, h5, q⟩ := hC
  have hrl := rowsAll_len (n := (n : Int)) (by omega) (by omega)
  try dsimp only [cx_K, cx_w]
  walk_at "ka"
  refine de_lcM (rowsAll n) (fun r => DV.dat (rowD r)) (fun _ => true) (fun r => lotD (fallsA n r)) (di_seqT ?_) (by omega) ?_ ?_
  · walk_at "ka"
    refine ⟨n, rfl, by omega, by omega, _, rfl, ?_⟩
    exact List.map_map ..
  · intro r hr W'' hW
    have ho := (rowsAll_iff (n := (n : Int)) (by omega) (by omega)).mp hr
    refine ⟨_, _, tg_name, by simp, ?_⟩
    walk_at "ka"
    refine ⟨rfl, fun _ => ?_⟩
    walk_at "ka"
    refine ⟨n, r, rfl, ho, ?_⟩
    rw [falls_told (by omega) ho]
    rfl
  rw [List.filter_eq_self.mpr (fun _ _ => rfl)]
  rw [show (rowsAll n).map (fun r => lotD (fallsA n r)) = ((rowsAll n).map (fallsA n)).map lotD by rw [List.map_map]; rfl]
  walk_at "ka"
  refine cal_sortedV (lots_alike _) (fun d hd => ?_) (lots_dep _) ?_
  · obtain ⟨S, _, rfl⟩ := List.mem_map.mp hd
    exact ⟨_, rfl⟩
  rw [lots_sort (List.isPerm_iff.mp (lots5_rows n (by omega)))]
  walk_at "ka"
  exact ⟨Wd.Le.refl W, q⟩

theorem ok_lot_of_falls (T : Tx K mg) : FnOk P w K mg base CX0 7 T.f_lot_of_falls T.d_lot_of_falls ["n", "row"] (SpC K (C_arcs_of true)) := by
  refine kfn T.F_lot_of_falls sc_lot_of_falls (fun W es P ⟨_, _, h, _⟩ => by rw [h]; rfl) fun cdv A outer s H E hr => ⟨_, (pss_one (ps_ret (pe_call (ok_arcs_of_falls T) hr (by rfl) T.g_arcs_of_falls T.F_arcs_of_falls.kp T.b_arcs_of_falls .nil pass0 (pa_cons (pv 0) (pa_cons (pv 1) pa_nil))))), fun W es P hC => ?_⟩
  obtain ⟨n, r, rfl, ho, q⟩ := hC
  try dsimp only [cx_K, cx_w]
  walk_at "ka"
  exact ⟨n, r, rfl, ho, Wd.Le.refl W, q⟩

def C_least_above_all : Con := fun _ es P => ∃ n rows d, es = [.dat (.int n), .dat d] ∧ (d = .list (rows.map rowD) ∨ d = .tuple (rows.map rowD)) ∧ (∀ r ∈ rows, RowOk n r) ∧ 1 ≤ n ∧ n ≤ 40 ∧ ∀ t, RowOk n t → IsLubs rows t → P (.dat (rowD t))
theorem ok_least_above_all (T : Tx K mg) : FnOk P w K mg base CX0 7 T.f_least_above_all T.d_least_above_all ["n", "rows"] (SpC K C_least_above_all) := by
  refine kfn T.F_least_above_all sc_least_above_all (fun W es P ⟨_, _, _, h, _⟩ => by rw [h]; rfl) fun cdv A outer s H E hr => ⟨_, (pss_cons (ps_set (i := 2) sc_least_above_all.nd rfl (by first | exact Or.inl rfl | exact Or.inr rfl) (pe_tupRg rfl (by rfl) T.m_tuple (prg_2 (by rfl) T.m_range pe_int (pe_op (op_addK (K := K) rfl) (pv 0) pe_int))))
      (pss_cons (ps_for PassesOwn.never rfl (pi_seqK (K := K) rfl (pv 1)) (pg_name (i := 3) sc_least_above_all.nd rfl (by first | exact Or.inl rfl | exact Or.inr rfl)) (pss_one (ps_set (i := 2) sc_least_above_all.nd rfl (by first | exact Or.inl rfl | exact Or.inr rfl) (pe_call (ok_least_above T) hr (by rfl) T.g_least_above T.F_least_above.kp T.b_least_above .nil pass0 (pa_cons (pv 0) (pa_cons (pv 2) (pa_cons (pv 3) pa_nil)))))))
      (pss_one (ps_ret (pv 2))))), fun W es P hC => ?_⟩
  obtain ⟨n, rows, d, rfl, hd, hrows, h1, h2, q⟩ := hC
  try dsimp only [cx_K, cx_w]
  walk_at "ka"
  refine ⟨.of_le (by omega) (by omega) (by omega) (by omega), ?_⟩
  rw [show n + 1 - 1 = n by omega]
  refine ds_seq (ds_for (DI.mono (PL := fun es => es = rows.map fun r => DV.dat (rowD r)) ?_ fun es he => ?_))
  · rcases hd with rfl | rfl
    · refine di_seqL ?_
      walk_at "ka"
      exact List.map_map ..
    · refine di_seqT ?_
      walk_at "ka"
      exact List.map_map ..
  subst he
  refine ⟨fun i W' Δ' => W' = W ∧ ∃ t x3, RowOk n t ∧ IsLubs (rows.take i) t ∧ Δ' = [some (.dat (.int n)), some (.dat d), some (.dat (rowD t)), x3], ⟨rfl, _, none, .first (by omega) (by omega), lubs_nil, rfl⟩, ?_, ?_⟩
  · rintro i e W' Δ' he ⟨rfl, t, x3, ht, hl, rfl⟩
    rw [List.getElem?_map] at he
    obtain ⟨r, hr', rfl⟩ := Option.map_eq_some_iff.mp he
    refine ⟨_, _, tg_name, ?_⟩
    walk_at "ka"
    refine ⟨n, t, r, rfl, ht, hrows r (List.mem_of_getElem? hr'), h1, h2, fun u hu lu => ?_⟩
    refine ⟨rfl, u, _, hu, ?_, rfl⟩
    rw [List.take_add_one, hr']
    exact lubs_snoc hl lu
  · rintro W' Δ' ⟨rfl, t, x3, ht, hl, rfl⟩
    rw [List.length_map, List.take_length] at hl
    walk_at "ka"
    exact ⟨Wd.Le.refl _, q t ht hl⟩

def C_row_of_falls : Con := fun _ es P => ∃ n r, es = [.dat (.int n), .dat (.tuple (arcsD r true))] ∧ RowOk n r ∧ 1 ≤ n ∧ n ≤ 40 ∧ P (.dat (rowD r))
theorem ok_row_of_falls (T : Tx K mg) : FnOk P w K mg base CX0 11 T.f_row_of_falls T.d_row_of_falls ["n", "lot"] (SpC K C_row_of_falls) := by
  refine kfn T.F_row_of_falls sc_row_of_falls (fun W es P ⟨_, _, h, _⟩ => by rw [h]; rfl) fun cdv A outer s H E hr => ⟨_, (pss_cons (ps_expr (pe_call (ok_check_lot T) hr (by rfl) T.g_check_lot T.F_check_lot.kp T.b_check_lot .nil pass0 (pa_cons (pv 0) (pa_cons (pv 1) pa_nil))))
      (pss_one (ps_ret (pe_call (ok_least_above_all T) (hr.mono (by decide)) (by rfl) T.g_least_above_all T.F_least_above_all.kp T.b_least_above_all .nil pass0 (pa_cons (pv 0) (pa_cons (pe_lc (own := [("arc", 2)]) rfl sc_row_of_falls.nd (pi_seqK (K := K) rfl (pv 1)) (blkOk_by (N := N_row_of_falls) (sc := defScope s_row_of_falls) (by decide +kernel)) (fun _ _ _ _ _ => (pg_name (i := 2) sc_row_of_falls.nd rfl (by first | exact Or.inl rfl | exact Or.inr rfl))) (fun _ _ _ _ _ => pts_nil) (fun _ _ _ _ _ => (pe_call (ok_single_row T) (hr.mono (by decide)) (by rfl) T.g_single_row T.F_single_row.kp T.b_single_row .nil pass0 (pa_cons (pv 0) (pa_cons (pv 2) pa_nil))))) pa_nil)))))), fun W es P hC => ?_⟩
  obtain ⟨n, r, rfl, ho, h1, h2, q⟩ := hC
  obtain ⟨L, e, hL, pm⟩ := lot_falls ho
  have hz := hL.len
  try dsimp only [cx_K, cx_w]
  rw [e]
  walk_at "ka"
  refine ⟨n, L, rfl, hL, by omega, ?_⟩
  walk_at "ka"
  refine de_lcM L (fun p => DV.dat (arcT p)) (fun _ => true) (fun p => rowD (singleL n p.1 p.2.1 p.2.2)) (di_seqT ?_) (by omega) ?_ ?_
  · walk_at "ka"
    exact List.map_map ..
  · intro p hp W' hW
    refine ⟨_, _, tg_name, by simp, ?_⟩
    walk_at "ka"
    refine ⟨rfl, fun _ => ?_⟩
    walk_at "ka"
    exact ⟨n, p.1, p.2.1, p.2.2, rfl, hL.ok p hp, by omega, rfl⟩
  · walk_at "ka"
    rw [List.filter_eq_self.mpr (fun _ _ => rfl)]
    refine ⟨n, L.map fun p => singleL n p.1 p.2.1 p.2.2, _, rfl, .inl (by rw [List.map_map]; rfl), fun s hs => ?_, h1, h2, fun t ht hl => ⟨Wd.Le.refl W, ?_⟩⟩
    · obtain ⟨p, hp, rfl⟩ := List.mem_map.mp hs
      exact single_ok (hL.ok p hp) (by omega)
    · have et : t = r := by
        have hm : ∀ s, s ∈ (L.map fun p => singleL n p.1 p.2.1 p.2.2) ↔ s ∈ (idxs r true).map (singleAt n r) := fun s => by
          rw [(pm.map fun p : Arc3 => singleL n p.1 p.2.1 p.2.2).mem_iff, List.map_map]
          exact Iff.rfl
        refine singles_make (F := idxs r true) ho ht (List.Perm.refl _) fun p q => (hl p q).trans ⟨Ch.mono fun a b z => ?_, Ch.mono fun a b z => ?_⟩
        · obtain ⟨s, m, z⟩ := z
          exact .one ⟨s, (hm s).mp m, z⟩
        · obtain ⟨s, m, z⟩ := z
          exact .one ⟨s, (hm s).mpr m, z⟩
      rw [et]
      exact q

def C_turned_over : Con := fun _ es P => ∃ (n : Int) (p : Arc3), es = [.dat (arcT p)] ∧ ArcOk n p.1 p.2.1 p.2.2 ∧ n ≤ 60 ∧ P (.dat (arcT (overT p)))
theorem ok_turned_over (T : Tx K mg) : FnOk P w K mg base CX0 2 T.f_turned_over T.d_turned_over ["arc"] (SpC K C_turned_over) := by
  refine kfn T.F_turned_over sc_turned_over (fun W es P ⟨_, _, h, _⟩ => by rw [h]; rfl) fun cdv A outer s H E hr => ⟨_, (pss_one (ps_ret (pe_tup (pa_cons (pe_ix (ix_K (K := K) rfl) (pv 0) pe_int (fun _ _ => rfl)) (pa_cons (pe_ix (ix_K (K := K) rfl) (pv 0) pe_int (fun _ _ => rfl)) (pa_cons (pe_call (ok_numbers_behind T) hr (by rfl) T.g_numbers_behind T.F_numbers_behind.kp T.b_numbers_behind .nil pass0 (pa_cons (pv 0) pa_nil)) pa_nil)))))), fun W es PX hC => ?_⟩
  obtain ⟨n, p, rfl, hp, hn, q⟩ := hC
  try dsimp only [cx_K, cx_w]
  walk_at "ka"
  refine opd_ixT (atI_nat (j := 0) rfl) ?_
  walk_at "ka"
  refine opd_ixT (atI_nat (j := 1) rfl) ?_
  walk_at "ka"
  refine ⟨n, p.1, p.2.1, p.2.2, rfl, hp, hn, ?_⟩
  refine da_nil ?_
  refine ⟨[_, _, _], rfl, by simp, Wd.Le.refl W, ?_⟩
  exact q

def C_row_of_rises : Con := fun _ es P => ∃ (n : Int) (L : List Arc3) (r : List Int), es = [.dat (.int n), .dat (.tuple (L.map arcT))] ∧ LotOk n L ∧ L.length ≤ 60 ∧ RowOk n r ∧ L.Perm ((idxs r false).map (recOf r)) ∧ 1 ≤ n ∧ n ≤ 40 ∧ P (.dat (rowD r))
theorem ok_row_of_rises (T : Tx K mg) : FnOk P w K mg base CX0 12 T.f_row_of_rises T.d_row_of_rises ["n", "lot"] (SpC K C_row_of_rises) := by
  refine kfn T.F_row_of_rises sc_row_of_rises (fun W es P ⟨_, _, _, h, _⟩ => by rw [h]; rfl) fun cdv A outer s H E hr => ⟨_, (pss_cons (ps_expr (pe_call (ok_check_lot T) (hr.mono (by decide)) (by rfl) T.g_check_lot T.F_check_lot.kp T.b_check_lot .nil pass0 (pa_cons (pv 0) (pa_cons (pv 1) pa_nil))))
      (pss_cons (ps_set (i := 2) sc_row_of_rises.nd rfl (by first | exact Or.inl rfl | exact Or.inr rfl) (pe_callTy (cr_tupK (K := K) rfl) (by rfl) T.m_tuple (by decide +kernel) (pa_cons (pe_callB (cr_sortedZ (K := K) (w := w) rfl rfl rfl hr.units) (by rfl) T.m_sorted (by decide +kernel) (pa_cons (pe_lc (own := [("arc", 3)]) rfl sc_row_of_rises.nd (pi_seqK (K := K) rfl (pv 1)) (blkOk_by (N := N_row_of_rises) (sc := defScope s_row_of_rises) (by decide +kernel)) (fun _ _ _ _ _ => (pg_name (i := 3) sc_row_of_rises.nd rfl (by first | exact Or.inl rfl | exact Or.inr rfl))) (fun _ _ _ _ _ => pts_nil) (fun _ _ _ _ _ => (pe_call (ok_turned_over T) (hr.mono (by decide)) (by rfl) T.g_turned_over T.F_turned_over.kp T.b_turned_over .nil pass0 (pa_cons (pv 3) pa_nil)))) pa_nil)) pa_nil)))
      (pss_one (ps_ret (pe_call (ok_mirror T) (hr.mono (by decide)) (by rfl) T.g_mirror T.F_mirror.kp T.b_mirror .nil pass0 (pa_cons (pv 0) (pa_cons (pe_call (ok_row_of_falls T) hr (by rfl) T.g_row_of_falls T.F_row_of_falls.kp T.b_row_of_falls .nil pass0 (pa_cons (pv 0) (pa_cons (pv 2) pa_nil))) pa_nil))))))), fun W es PX hC => ?_⟩
  obtain ⟨n, L, r, rfl, hL, hz, ho, hp, h1, h40, q⟩ := hC
  try dsimp only [cx_K, cx_w]
  walk_at "ka"
  refine ⟨n, L, rfl, hL, by omega, ?_⟩
  walk_at "ka"
  refine de_lcM L (fun p => DV.dat (arcT p)) (fun _ => true) (fun p => arcT (overT p)) (di_seqT ?_) (by omega) ?_ ?_
  · walk_at "ka"
    exact List.map_map ..
  · intro p hp W'' hW
    refine ⟨_, _, tg_name, by simp, ?_⟩
    walk_at "ka"
    refine ⟨rfl, fun _ => ?_⟩
    walk_at "ka"
    exact ⟨n, p, rfl, hL.ok p hp, by omega, rfl⟩
  rw [List.filter_eq_self.mpr (fun _ _ => rfl)]
  walk_at "ka"
  have hA := arcT_arcs (L.map overT)
  rw [List.map_map] at hA
  refine cal_sortedZL hA.alike hA.sortable hA.dep ?_
  have e := mirror_sorted ho true hp
  rw [e]
  walk_at "ka"
  refine ⟨n, r.reverse, rfl, ho.rev, h1, h40, ?_⟩
  walk_at "ka"
  refine ⟨n, r.reverse, rfl, ho.rev, Wd.Le.refl W, ?_⟩
  rw [List.reverse_reverse]
  exact q

theorem ok__law_deck (T : Tx K mg) : FnOk P w K mg base CX0 1 T.f__law_deck T.d__law_deck ["script"] (spDeck K) := by
  refine T.F__law_deck.ok sc__law_deck (fun vs H Q E h => ?_) (fun cdv A outer s H vs Q E hr h => ?_)
  · obtain ⟨a, ns, rfl, _⟩ := h
    rfl
  · obtain ⟨a, ns, rfl, hS, hl, q⟩ := h
    refine ⟨_, (pss_cons (ps_set (i := 1) sc__law_deck.nd rfl (by first | exact Or.inl rfl | exact Or.inr rfl) pe_int)
      (pss_cons (ps_for PassesOwn.never rfl (pi_seqK (K := K) rfl (pe_slice (sl_K (K := K) rfl) (pv 0) po_none (po_some pe_int))) (pg_name (i := 2) sc__law_deck.nd rfl (by first | exact Or.inl rfl | exact Or.inr rfl)) (pss_one (ps_set (i := 1) sc__law_deck.nd rfl (by first | exact Or.inl rfl | exact Or.inr rfl) (pe_op op_mod (pe_callTy cr_intX (by rfl) T.m_int (by decide +kernel) (pa_cons (pe_op (op_addK (K := K) rfl) (pe_op (op_addK (K := K) rfl) (pe_op op_mulX (pv 1) pe_int) (pe_op op_mod (pe_callTy cr_intX (by rfl) T.m_int (by decide +kernel) (pa_cons (pv 2) pa_nil)) pe_int)) pe_int) pa_nil)) pe_int))))
      (pss_one (ps_ret (pe_disp (pps_cons pe_str (pe_revK (K := K) rfl (pe_callTy (cr_lstK (K := K) rfl) (by rfl) T.m_list (by decide +kernel) (pa_cons (pe_slice (sl_K (K := K) rfl) (pv 0) po_none (po_some pe_int)) pa_nil))) (pps_cons pe_str (pv 1) (pps_cons pe_str pe_int pps_nil))) (by rfl) (by rfl) (fun z => by cases z) (by decide)))))), ?_⟩
    try dsimp only [cx_K, cx_w]
    refine ⟨.ref a, rfl, 63, rfl, .inl ⟨a, ns.map V.int, rfl, hS, fun p hp => .inl ⟨p, rfl, ⟨_, SqL.of upd_same⟩, for_list (xs := cutV (ns.map V.int) none (some 63)) (fun i σ H' => Ex H H' ∧ H' p = some (.lst (cutV (ns.map V.int) none (some 63))) ∧ ∃ m y, σ = [some (.ref a), some (.int m), y])
      ⟨Ex.new hp, upd_same, _, none, rfl⟩ (fun i σ H' _ h => SqL.of h.2.1) (fun i x σ H' hx h => ?_) (fun σ H' h => ?_)⟩⟩⟩
    · obtain ⟨e, hp', m, y, rfl⟩ := h
      rw [cutV_map, List.getElem?_map] at hx
      obtain ⟨z, hz, rfl⟩ : ∃ z, (cutG ns none (some 63))[i]? = some z ∧ V.int z = x := by
        cases h : (cutG ns none (some 63))[i]? with
        | none =>
          rw [h] at hx
          cases hx
        | some z =>
          rw [h] at hx
          exact ⟨z, rfl, Option.some.inj hx⟩
      have env : EnvOk K (Wd.top.view H') [some (.ref a), some (.int m), some (.int z)] [none, some (.dat (.int m)), some (.dat (.int z))] := by
        refine ⟨rfl, fun j e he => ?_⟩
        match j, he with
        | 1, he =>
          cases he
          exact ⟨_, rfl, .int m⟩
        | 2, he =>
          cases he
          exact ⟨_, rfl, .int z⟩
      have body := fun te (h : DE K Wd.top [none, some (.dat (.int m)), some (.dat (.int z))] te fun e => ∃ n, e = .dat (.int n)) => h _ _ env trivial
      refine asg_by (σ := [some (.ref a), some (.int m), some (.int z)]) ?_
      refine body _ ?_ _ fun v H2 en _ x2 pe re => ?_
      · walk_at "ka"
        refine opd_mulI (.inr (by decide)) ?_
        walk_at "ka"
        refine opd_IC (by decide) ?_
        walk_at "ka"
        refine opd_IC (by decide) ⟨_, rfl⟩
      · obtain ⟨n, rfl⟩ := pe
        cases re
        rw [top_view, top_view] at x2
        exact ⟨e.trans x2, x2 _ _ hp', n, some (.int z), rfl⟩
    · obtain ⟨e, hp', m, y, rfl⟩ := h
      exact ret_deck hl (ex_l e hS) rfl rfl fun d c m k cs H2 ne hd hc e2 g1 g2 g3 => q d c m k cs H2 ne (fresh_back e hd) (fresh_back e hc) (e.trans e2) g1 g2 g3

def C__law_draw : Con := fun W es P => ∃ d c m, es = [.raw (.ref d), .dat (.int m)] ∧ HasDeck W d c ∧ 1 ≤ m ∧ m < 1000000 ∧ ∀ r, 0 ≤ r → r < m → P (.dat (.int r))
theorem mod_lt {z m : Int} (h : 1 ≤ m) : 0 ≤ z % m ∧ z % m < m := ⟨Int.emod_nonneg _ (by omega), Int.emod_lt_of_pos _ (by omega)⟩
theorem ok__law_draw (T : Tx K mg) : FnOk P w K mg base CX0 1 T.f__law_draw T.d__law_draw ["deck", "many"] (SpC K C__law_draw) := by
  refine kfn T.F__law_draw sc__law_draw (fun W es P ⟨_, _, _, h, _⟩ => by rw [h]; rfl) fun cdv A outer s H E hr => ⟨_, (pss_cons (ps_dput (hu_of hr) (pv 0) pe_str (pe_op (op_addK (K := K) rfl) (pe_dget (hu_of hr) (pv 0) pe_str (fun _ _ => rfl)) pe_int) rfl)
      (pss_cons (ps_set (i := 2) sc__law_draw.nd rfl (by first | exact Or.inl rfl | exact Or.inr rfl) (pe_op (op_addK (K := K) rfl) (pe_dget (hu_of hr) (pv 0) pe_str (fun _ _ => rfl)) (pe_op op_mulX pe_int (pe_dget (hu_of hr) (pv 0) pe_str (fun _ _ => rfl)))))
      (pss_cons (ps_if (pt_cmpR (op_neK (K := K) rfl hr.units) (pe_dget (hu_of hr) (pv 0) pe_str (fun _ _ => rfl)) (pe_lst pa_nil) (nomark _)) (pss_cons (ps_set (i := 3) sc__law_draw.nd rfl (by first | exact Or.inl rfl | exact Or.inr rfl) (pe_bm0 PySem.F.plainAttrs_list PySem.F.slot_list_pop PySem.F.type_list_pop mt_pop (pe_dget (hu_of hr) (pv 0) pe_str (fun _ _ => rfl))))
      (pss_cons (ps_if (pt_cmpR op_ge (pv 3) (pe_op op_pow pe_int pe_int) (nomark _)) (pss_cons (ps_expr (pe_bm PySem.F.plainAttrs_list PySem.F.slot_list_append PySem.F.type_list_append mt_append (pe_dget (hu_of hr) (pv 0) pe_str (fun _ _ => rfl)) (pa_cons (pe_op op_fdivN (pv 3) (pe_callB (cr_max2 rfl) (by rfl) T.m_max (by decide +kernel) (pa_cons pe_int (pa_cons (pv 1) pa_nil)))) pa_nil)))
      (pss_one (ps_ret (pe_op op_mod (pe_callTy cr_intX (by rfl) T.m_int (by decide +kernel) (pa_cons (pv 3) pa_nil)) (pv 1))))) pss_nil)
      (pss_one (ps_set (i := 2) sc__law_draw.nd rfl (by first | exact Or.inl rfl | exact Or.inr rfl) (pe_op (op_addK (K := K) rfl) (pv 2) (pe_op op_mod (pe_callTy cr_intX (by rfl) T.m_int (by decide +kernel) (pa_cons (pv 3) pa_nil)) pe_int)))))) pss_nil)
      (pss_cons (ps_set (i := 2) sc__law_draw.nd rfl (by first | exact Or.inl rfl | exact Or.inr rfl) (pe_op op_mod (pe_callTy cr_intX (by rfl) T.m_int (by decide +kernel) (pa_cons (pe_op (op_addK (K := K) rfl) (pe_op op_mulX (pv 2) pe_int) pe_int) pa_nil)) pe_int))
      (pss_cons (ps_set (i := 2) sc__law_draw.nd rfl (by first | exact Or.inl rfl | exact Or.inr rfl) (pe_op op_mod (pe_callTy cr_intX (by rfl) T.m_int (by decide +kernel) (pa_cons (pe_op (op_addK (K := K) rfl) (pe_op (op_addK (K := K) rfl) (pe_op op_mulX (pv 2) (pv 2)) (pe_op op_mulX pe_int (pe_dget (hu_of hr) (pv 0) pe_str (fun _ _ => rfl)))) pe_int) pa_nil)) pe_int))
      (pss_cons (ps_set (i := 2) sc__law_draw.nd rfl (by first | exact Or.inl rfl | exact Or.inr rfl) (pe_op op_mod (pe_callTy cr_intX (by rfl) T.m_int (by decide +kernel) (pa_cons (pe_op op_mulX (pv 2) pe_int) pa_nil)) pe_int))
      (pss_one (ps_ret (pe_op op_mod (pe_callTy cr_intX (by rfl) T.m_int (by decide +kernel) (pa_cons (pe_op op_fdivN (pv 2) pe_int) pa_nil)) (pv 1)))))))))), fun W es P hC => ?_⟩
  obtain ⟨d, c, m, rfl, hk, h1, h2, q⟩ := hC
  try dsimp only [cx_K, cx_w]
  refine ds_exact hk fun ns mm kk hl => ?_
  refine ds_seq (ds_draws hk rfl hl ?_)
  walk_at "ka"
  refine de_draws hk rfl ?_
  walk_at "ka"
  refine de_mixed hk rfl ?_
  walk_at "ka"
  refine de_draws hk rfl ?_
  refine opd_mulI (.inl ⟨by decide, by decide⟩) ?_
  walk_at "ka"
  refine ds_cut (fun W' Δ' => ∃ ns' x y, ns'.length ≤ 64 ∧ W' = W.exact hk ns' mm (kk + 1) ∧ Δ' = [some (.raw (.ref d)), some (.dat (.int m)), some (.dat (.int x)), y]) ?_ ?_
  · walk_at "ka"
    refine de_cells hk rfl ?_
    walk_at "ka"
    refine opd_cells hk ?_
    refine ⟨_, rfl, fun e => ?_, fun e => ds_next ⟨ns, _, none, hl, rfl, rfl⟩⟩
    obtain ⟨ns', z, rfl⟩ : ∃ ns' z, ns = ns' ++ [z] := by
      rcases List.eq_nil_or_concat ns with h | ⟨a, b, h⟩
      · rw [h] at e
        simp at e
      · exact ⟨a, b, by rw [h, List.concat_eq_append]⟩
    have hl' : ns'.length < 64 := by
      rw [List.length_append] at hl
      have : [z].length = 1 := rfl
      omega
    refine ds_seq (ds_pop hk rfl hl ?_)
    refine ds_seq ?_
    walk_at "ka"
    refine opd_IC ⟨by decide, by decide, by decide⟩ ?_
    walk_at "ka"
    refine ⟨fun e2 => ?_, fun e2 => ?_⟩
    · refine ds_seq (ds_push hk rfl hl' ?_)
      walk_at "ka"
      refine opd_IC ⟨?_, ?_⟩ ⟨_, rfl, ?_⟩
      · omega
      · omega
      · walk_at "ka"
        refine opd_IC (by omega) ?_
        exact ⟨Le.exact hk, q _ (mod_lt h1).1 (mod_lt h1).2⟩
    · refine ds_next ?_
      walk_at "ka"
      refine opd_IC (by decide) ?_
      walk_at "ka"
      exact ⟨ns', _, _, by omega, rfl, rfl⟩
  · rintro W' Δ' ⟨ns', x, y, hl', rfl, rfl⟩
    walk_at "ka"
    refine opd_mulI (.inr (by decide)) ?_
    walk_at "ka"
    refine opd_IC (by decide) ?_
    walk_at "ka"
    have b1 := mod_lt (z := x * 39373 + 83) (m := 2147483647) (by decide)
    refine opd_mulI (.inl ⟨by omega, by omega⟩) ?_
    walk_at "ka"
    refine de_draws hk rfl ?_
    refine opd_mulI (.inl ⟨by decide, by decide⟩) ?_
    walk_at "ka"
    refine opd_IC (by decide) ?_
    walk_at "ka"
    refine opd_mulI (.inr (by decide)) ?_
    walk_at "ka"
    refine opd_IC (by decide) ?_
    walk_at "ka"
    refine opd_IC ⟨by decide, by decide⟩ ?_
    walk_at "ka"
    refine opd_IC (by omega) ?_
    exact ⟨Le.exact hk, q _ (mod_lt h1).1 (mod_lt h1).2⟩

def C__law_pick : Con := fun W es P => ∃ d c s ds, es = [.raw (.ref d), .dat s] ∧ (s = .list ds ∨ s = .tuple ds) ∧ HasDeck W d c ∧ 1 ≤ ds.length ∧ ds.length < 100000 ∧ ∀ x ∈ ds, P (.dat x)
theorem ok__law_pick (T : Tx K mg) : FnOk P w K mg base CX0 2 T.f__law_pick T.d__law_pick ["deck", "some"] (SpC K C__law_pick) := by
  refine kfn T.F__law_pick sc__law_pick (fun W es P ⟨_, _, _, _, h, _⟩ => by rw [h]; rfl) fun cdv A outer s H E hr => ⟨_, (pss_one (ps_ret (pe_ix (ix_K (K := K) rfl) (pv 1) (pe_call (ok__law_draw T) hr (by rfl) T.g__law_draw T.F__law_draw.kp T.b__law_draw .nil pass0 (pa_cons (pv 0) (pa_cons (pe_callB (cr_lenK (K := K) rfl) (by rfl) T.m_len (by decide +kernel) (pa_cons (pv 1) pa_nil)) pa_nil))) (fun _ _ => rfl)))), fun W es P hC => ?_⟩
  obtain ⟨d, c, x, ds, rfl, hx, hk, h1, h2, q⟩ := hC
  try dsimp only [cx_K, cx_w]
  have at_ : ∀ r : Int, 0 ≤ r → r < (ds.length : Int) → ∃ y, atI ds r = some y ∧ y ∈ ds := fun r r1 r2 => by
    have hl : r.toNat < ds.length := by omega
    refine ⟨ds[r.toNat], ?_, List.getElem_mem hl⟩
    have := atI_nat (List.getElem?_eq_getElem hl)
    rw [Int.toNat_of_nonneg r1] at this
    exact this
  rcases hx with rfl | rfl
  · walk_at "ka"
    refine ⟨d, c, _, rfl, hk, by omega, by omega, fun r r1 r2 => ?_⟩
    obtain ⟨y, e, m⟩ := at_ r r1 r2
    exact opd_ixL e ⟨Wd.Le.refl W, q y m⟩
  · walk_at "ka"
    refine ⟨d, c, _, rfl, hk, by omega, by omega, fun r r1 r2 => ?_⟩
    obtain ⟨y, e, m⟩ := at_ r r1 r2
    exact opd_ixT e ⟨Wd.Le.refl W, q y m⟩

def C__law_side : Con := fun _ es P => ∃ (p : Arc3) (x : Int), es = [.dat (arcT p), .dat (.int x)] ∧ P (.dat (.int (sideI p x)))
theorem ok__law_side (T : Tx K mg) : FnOk P w K mg base CX0 1 T.f__law_side T.d__law_side ["arc", "p"] (SpC K C__law_side) := by
  refine kfn T.F__law_side sc__law_side (fun W es P ⟨_, _, h, _⟩ => by rw [h]; rfl) fun cdv A outer s H E hr => ⟨_, (pss_cons (ps_if (PW.pt (pw_or (pt_cmpR (op_eqK (K := K) rfl hr.units) (pv 1) (pe_ix (ix_K (K := K) rfl) (pv 0) pe_int (fun _ _ => rfl)) (nomark _)) (pw_or1 (pt_cmpR (op_eqK (K := K) rfl hr.units) (pv 1) (pe_ix (ix_K (K := K) rfl) (pv 0) pe_int (fun _ _ => rfl)) (nomark _))))) (pss_one (ps_ret pe_int)) pss_nil)
      (pss_one (ps_ret (pe_ifExp (pt_cmpR (op_inZ (P := P) (w := w) (K := K) rfl rfl rfl (hu65 hr)) (pv 1) (pe_ix (ix_K (K := K) rfl) (pv 0) pe_int (fun _ _ => rfl)) (by rfl)) pe_int (pe_un un_neg pe_int))))), fun W es P hC => ?_⟩
  obtain ⟨p, x, rfl, q⟩ := hC
  try dsimp only [cx_K, cx_w]
  refine ds_seq (ds_if ?_)
  refine DT.mono (PB := fun c => c = decide (x = p.1 ∨ x = p.2.1)) ?_ fun c hc => ⟨fun e => ?_, fun e => ?_⟩
  · walk_at "ka"
    refine opd_ixT (atI_nat (j := 0) rfl) ?_
    refine opd_eq (by rfl) (by rfl) ⟨_, rfl, fun e => ?_, fun e => ?_⟩
    · rw [eqv_int] at e
      have e := of_decide_eq_false e
      walk_at "ka"
      refine opd_ixT (atI_nat (j := 1) rfl) ?_
      refine opd_eq (by rfl) (by rfl) ⟨_, rfl, ?_⟩
      rw [eqv_int]
      exact decide_eq_decide.mpr ⟨.inr, fun h => h.elim (fun z => absurd z e) id⟩
    · rw [eqv_int] at e
      exact (decide_eq_true (.inl (of_decide_eq_true e))).symm
  · rw [hc] at e
    have e := of_decide_eq_true e
    unfold sideI at q
    rw [if_pos e] at q
    walk_at "ka"
    exact ⟨Wd.Le.refl W, q⟩
  · rw [hc] at e
    have e := of_decide_eq_false e
    unfold sideI at q
    rw [if_neg e] at q
    refine ds_next ?_
    walk_at "ka"
    refine opd_ixT (atI_nat (j := 2) rfl) ?_
    refine opd_inZT (by rfl) (canLay_ints _) ⟨_, rfl, fun e => ?_, fun e => ?_⟩
    · rw [any_eqv] at e
      rw [if_pos (of_decide_eq_true e)] at q
      walk_at "ka"
      exact ⟨Wd.Le.refl W, q⟩
    · rw [any_eqv] at e
      rw [if_neg (of_decide_eq_false e)] at q
      walk_at "ka"
      exact ⟨Wd.Le.refl W, q⟩

def C__law_parts : Con := fun _ es P => ∃ (n : Int) (p q : Arc3), es = [.dat (arcT p), .dat (arcT q)] ∧ ArcOk n p.1 p.2.1 p.2.2 ∧ ArcOk n q.1 q.2.1 q.2.2 ∧ n ≤ 60 ∧ P (.dat (.tuple [.list (intsD (greaterL p q)), .list (intsD (lessL p q))]))
theorem ok__law_parts (T : Tx K mg) : FnOk P w K mg base CX0 2 T.f__law_parts T.d__law_parts ["one", "other"] (SpC K C__law_parts) := by
  refine kfn T.F__law_parts sc__law_parts (fun W es P ⟨_, _, _, h, _⟩ => by rw [h]; rfl) fun cdv A outer s H E hr => ⟨_, (pss_cons (ps_set (i := 2) sc__law_parts.nd rfl (by first | exact Or.inl rfl | exact Or.inr rfl) (pe_listRg rfl (by rfl) T.m_list (prg_2 (by rfl) T.m_range (pe_callB (cr_max2 rfl) (by rfl) T.m_max (by decide +kernel) (pa_cons (pe_ix (ix_K (K := K) rfl) (pv 0) pe_int (fun _ _ => rfl)) (pa_cons (pe_ix (ix_K (K := K) rfl) (pv 1) pe_int (fun _ _ => rfl)) pa_nil))) (pe_op (op_addK (K := K) rfl) (pe_callB (cr_min2 rfl) (by rfl) T.m_min (by decide +kernel) (pa_cons (pe_ix (ix_K (K := K) rfl) (pv 0) pe_int (fun _ _ => rfl)) (pa_cons (pe_ix (ix_K (K := K) rfl) (pv 1) pe_int (fun _ _ => rfl)) pa_nil))) pe_int))))
      (pss_cons (ps_setLc (i := 3) (own := [("p", 4)]) rfl sc__law_parts.nd rfl rfl (sw_true rfl rfl rfl (by decide +kernel)) (pi_seqK (K := K) rfl (pv 2)) (blkOk_by (N := N__law_parts) (sc := defScope s__law_parts) (by decide +kernel)) (fun _ _ _ _ _ => (pg_name (i := 4) sc__law_parts.nd rfl (by first | exact Or.inl rfl | exact Or.inr rfl))) (fun _ _ _ _ _ => pts_nil) (fun _ _ _ _ _ => (pe_tup (pa_cons (pv 4) (pa_cons (pe_op op_sub (pe_call (ok__law_side T) hr (by rfl) T.g__law_side T.F__law_side.kp T.b__law_side .nil pass0 (pa_cons (pv 0) (pa_cons (pv 4) pa_nil))) (pe_call (ok__law_side T) hr (by rfl) T.g__law_side T.F__law_side.kp T.b__law_side .nil pass0 (pa_cons (pv 1) (pa_cons (pv 4) pa_nil)))) pa_nil)))))
      (pss_one (ps_ret (pe_tup (pa_cons (pe_lc (own := [("p", 4), ("more", 5)]) rfl sc__law_parts.nd (pi_seqK (K := K) rfl (pv 3)) (blkOk_by (N := N__law_parts) (sc := defScope s__law_parts) (by decide +kernel)) (fun _ _ _ _ _ => (pg_tupK (K := K) rfl (pg_tup (n := 2) rfl (pgs_cons (pg_name (i := 4) sc__law_parts.nd rfl (by first | exact Or.inl rfl | exact Or.inr rfl)) (pgs_cons (pg_name (i := 5) sc__law_parts.nd rfl (by first | exact Or.inl rfl | exact Or.inr rfl)) pgs_nil))))) (fun _ _ _ _ _ => (pts_one (pt_cmpR op_gt (pv 5) pe_int (nomark _)))) (fun _ _ _ _ _ => (pv 4))) (pa_cons (pe_lc (own := [("p", 4), ("more", 5)]) rfl sc__law_parts.nd (pi_seqK (K := K) rfl (pv 3)) (blkOk_by (N := N__law_parts) (sc := defScope s__law_parts) (by decide +kernel)) (fun _ _ _ _ _ => (pg_tupK (K := K) rfl (pg_tup (n := 2) rfl (pgs_cons (pg_name (i := 4) sc__law_parts.nd rfl (by first | exact Or.inl rfl | exact Or.inr rfl)) (pgs_cons (pg_name (i := 5) sc__law_parts.nd rfl (by first | exact Or.inl rfl | exact Or.inr rfl)) pgs_nil))))) (fun _ _ _ _ _ => (pts_one (pt_cmpR op_lt (pv 5) pe_int (nomark _)))) (fun _ _ _ _ _ => (pv 4))) pa_nil))))))), fun W es PX hC => ?_⟩
  obtain ⟨n, p, q, rfl, hp, hq, hn, qq⟩ := hC
  have p1 := hp.lo
  have p2 := hp.lt
  have p3 := hp.hi
  have q1 := hq.lo
  have q2 := hq.lt
  have q3 := hq.hi
  try dsimp only [cx_K, cx_w]
  walk_at "ka"
  refine opd_ixT (atI_nat (j := 0) rfl) ?_
  walk_at "ka"
  refine opd_ixT (atI_nat (j := 0) rfl) ?_
  walk_at "ka"
  refine opd_ixT (atI_nat (j := 1) rfl) ?_
  walk_at "ka"
  refine opd_ixT (atI_nat (j := 1) rfl) ?_
  walk_at "ka"
  have hb : (min p.2.1 q.2.1 + 1 - max p.1 q.1).toNat ≤ 61 := by omega
  refine ⟨RgOk.of_le (by omega) (by omega) (by omega) (by omega), ?_⟩
  generalize hX : rgN (max p.1 q.1) (min p.2.1 q.2.1 + 1 - max p.1 q.1).toNat = X
  have hXl : X.length ≤ 61 := by rw [← hX, rgN_length]; exact hb
  walk_at "ka"
  refine de_lcM X (fun x => DV.dat (.int x)) (fun _ => true) (fun x => .tuple [.int x, .int (sideI p x - sideI q x)]) (di_seqL ?_) (by omega) ?_ ?_
  · walk_at "ka"
    exact List.map_map ..
  · intro x hx W'' hW
    refine ⟨_, _, tg_name, by simp, ?_⟩
    walk_at "ka"
    refine ⟨rfl, fun _ => ?_⟩
    walk_at "ka"
    refine ⟨p, x, rfl, ?_⟩
    walk_at "ka"
    refine ⟨q, x, rfl, ?_⟩
    walk_at "ka"
    rfl
  rw [List.filter_eq_self.mpr (fun _ _ => rfl)]
  have part : ∀ (f : Int → Bool) (S : List Int), S = X.filter f → intsD S = (X.filter f).map PyData.int := fun f S h => by rw [h]; rfl
  walk_at "ka"
  refine de_lcM X (fun x => DV.dat (.tuple [.int x, .int (sideI p x - sideI q x)])) (fun x => decide (sideI q x < sideI p x)) (fun x => .int x) (di_seqL ?_) (by omega) ?_ ?_
  · walk_at "ka"
    exact List.map_map ..
  · intro x hx W'' hW
    refine ⟨_, _, tg_tup2, by simp, ?_⟩
    walk_at "ka"
    refine ⟨decide_eq_decide.mpr (by omega), fun _ => ?_⟩
    walk_at "ka"
    rfl
  walk_at "ka"
  refine de_lcM X (fun x => DV.dat (.tuple [.int x, .int (sideI p x - sideI q x)])) (fun x => decide (sideI p x < sideI q x)) (fun x => .int x) (di_seqL ?_) (by omega) ?_ ?_
  · walk_at "ka"
    exact List.map_map ..
  · intro x hx W'' hW
    refine ⟨_, _, tg_tup2, by simp, ?_⟩
    walk_at "ka"
    refine ⟨decide_eq_decide.mpr (by omega), fun _ => ?_⟩
    walk_at "ka"
    rfl
  refine da_nil ?_
  refine ⟨[_, _], rfl, by simp, Wd.Le.refl W, ?_⟩
  have g1 : greaterL p q = X.filter fun x => decide (sideI q x < sideI p x) := by rw [← hX]; rfl
  have g2 : lessL p q = X.filter fun x => decide (sideI p x < sideI q x) := by rw [← hX]; rfl
  rw [part _ _ g1, part _ _ g2] at qq
  exact qq

theorem canLay_two (S R : List Int) : PyData.canLayAll0 [.list (intsD S), .list (intsD R)] = true := canLay_all fun d hd => by
  simp only [List.mem_cons, List.not_mem_nil, or_false] at hd
  rcases hd with rfl | rfl <;> simp [PyData.canLay0, canLay_ints]
theorem any_nil (S R : List Int) : ([PyData.list (intsD S), .list (intsD R)].any fun z => PyData.eqv z (.list [])) = (S.isEmpty || R.isEmpty) := by
  cases S <;> cases R <;> simp [intsD, PyData.eqv, PyData.eqvAll]
def C__law_do_agree : Con := fun _ es P => ∃ (n : Int) (p q : Arc3), es = [.dat (arcT p), .dat (arcT q)] ∧ ArcOk n p.1 p.2.1 p.2.2 ∧ ArcOk n q.1 q.2.1 q.2.2 ∧ n ≤ 60 ∧ P (.dat (.bool (fitB p q)))
theorem ok__law_do_agree (T : Tx K mg) : FnOk P w K mg base CX0 3 T.f__law_do_agree T.d__law_do_agree ["one", "other"] (SpC K C__law_do_agree) := by
  refine kfn T.F__law_do_agree sc__law_do_agree (fun W es P ⟨_, _, _, h, _⟩ => by rw [h]; rfl) fun cdv A outer s H E hr => ⟨_, (pss_one (ps_ret (pe_and (pe_cmpR (op_neK (K := K) rfl hr.units) (pe_ix (ix_K (K := K) rfl) (pv 0) pe_int (fun _ _ => rfl)) (pe_ix (ix_K (K := K) rfl) (pv 1) pe_int (fun _ _ => rfl)) (nomark _)) (pe_and (pe_cmpR (op_neK (K := K) rfl hr.units) (pe_ix (ix_K (K := K) rfl) (pv 0) pe_int (fun _ _ => rfl)) (pe_ix (ix_K (K := K) rfl) (pv 1) pe_int (fun _ _ => rfl)) (nomark _)) (pe_one (pe_cmpR (op_inZ (P := P) (w := w) (K := K) rfl rfl rfl (hu65 hr)) (pe_lst pa_nil) (pe_call (ok__law_parts T) hr (by rfl) T.g__law_parts T.F__law_parts.kp T.b__law_parts .nil pass0 (pa_cons (pv 0) (pa_cons (pv 1) pa_nil))) (by rfl))))))), fun W es PX hC => ?_⟩
  obtain ⟨n, p, q, rfl, hp, hq, hn, qq⟩ := hC
  try dsimp only [cx_K, cx_w]
  walk_at "ka"
  refine opd_ixT (atI_nat (j := 0) rfl) ?_
  walk_at "ka"
  refine opd_ixT (atI_nat (j := 0) rfl) ?_
  refine opd_ne (by rfl) (by rfl) ⟨_, rfl, fun e => ?_, fun e => ?_⟩
  · rw [eqv_int] at e
    have e1 : p.1 ≠ q.1 := by simpa using e
    walk_at "ka"
    refine opd_ixT (atI_nat (j := 1) rfl) ?_
    walk_at "ka"
    refine opd_ixT (atI_nat (j := 1) rfl) ?_
    refine opd_ne (by rfl) (by rfl) ⟨_, rfl, fun e => ?_, fun e => ?_⟩
    · rw [eqv_int] at e
      have e2 : p.2.1 ≠ q.2.1 := by simpa using e
      walk_at "ka"
      refine ⟨n, p, q, rfl, hp, hq, hn, ?_⟩
      refine opd_inZT (by rfl) (canLay_two _ _) ?_
      rw [any_nil]
      have hf : fitB p q = ((greaterL p q).isEmpty || (lessL p q).isEmpty) := by
        unfold fitB
        rw [decide_eq_false e1, decide_eq_false e2]
        rfl
      rw [hf] at qq
      exact ⟨Wd.Le.refl W, qq⟩
    · rw [eqv_int] at e
      have e2 : p.2.1 = q.2.1 := by simpa using e
      have hf : fitB p q = false := by
        unfold fitB
        rw [decide_eq_true e2]
        simp
      rw [hf] at qq
      exact ⟨Wd.Le.refl W, qq⟩
  · rw [eqv_int] at e
    have e1 : p.1 = q.1 := by simpa using e
    have hf : fitB p q = false := by
      unfold fitB
      rw [decide_eq_true e1]
      simp
    rw [hf] at qq
    exact ⟨Wd.Le.refl W, qq⟩

/-! rows made longer and longer -/
def longR (n : Nat) (r : List Int) : List (List Int) := ((rgN 1 n).filter fun x => !decide (x ∈ r)).map fun x => r ++ [x]
def preR (n : Nat) : Nat → List (List Int)
  | 0 => [[]]
  | k + 1 => (preR n k).flatMap (longR n)
theorem flat_few5 {α β : Type} {c : Nat} {f : α → List β} : ∀ {l : List α}, (∀ x ∈ l, (f x).length ≤ c) → (l.flatMap f).length ≤ l.length * c
  | [], _ => Nat.zero_le _
  | x :: l, h => by
    have h1 := h x (by simp)
    have h2 := flat_few5 (l := l) (f := f) (c := c) fun y hy => h y (by simp [hy])
    rw [List.flatMap_cons, List.length_append, List.length_cons, Nat.add_mul]
    omega
/-! all lots by width: each lot with the places that may still be added -/
def frK (A : List Arc3) (i : Nat) : List Nat := ((List.range (A.length - (i + 1))).filter fun k => fitB (A.getD i (0, 0, [])) (A.getD (i + 1 + k) (0, 0, []))).map fun k => i + 1 + k
def growK (A : List Arc3) (p : List Arc3 × List Nat) : List (List Arc3 × List Nat) := p.2.map fun i => (p.1 ++ [A.getD i (0, 0, [])], (frK A i).filter fun j => p.2.contains j)
def bordK (A : List Arc3) : Nat → List (List Arc3 × List Nat)
  | 0 => [([], List.range A.length)]
  | k + 1 => (bordK A k).flatMap (growK A)
def foundK (A : List Arc3) : Nat → List (List Arc3)
  | 0 => [[]]
  | k + 1 => foundK A k ++ (bordK A (k + 1)).map (·.1)
theorem found_perm : ∀ n : Nat, n < 6 → (foundK (allA5 n) n).isPerm (lotsF (allA5 n)) = true := by decide +kernel
theorem bord_few : ∀ n : Nat, n < 6 → ∀ k : Nat, k < 6 → (bordK (allA5 n) k).length ≤ 200 ∧ (foundK (allA5 n) k).length ≤ 200 ∧ (bordK (allA5 n) k).all (fun p => decide (p.1.length ≤ 10) && decide (p.2.length ≤ 26) && p.2.all fun i => decide (i < (allA5 n).length)) = true := by decide +kernel
theorem allA5_few : ∀ n : Nat, n < 6 → (allA5 n).length ≤ 26 := by decide +kernel
theorem getA {A : List Arc3} {i : Nat} (h : i < A.length) : A[i]? = some (A.getD i (0, 0, [])) := by
  rw [List.getD_eq_getElem?_getD, List.getElem?_eq_getElem h]
  rfl
def pairK (p : List Arc3 × List Nat) : PyData := .tuple [lotD p.1, .list (p.2.map fun i : Nat => PyData.int i)]
theorem any_nats (l : List Nat) (x : Nat) : ((l.map fun i : Nat => PyData.int i).any fun z => PyData.eqv z (.int (x : Nat))) = l.contains x := by
  rw [Bool.eq_iff_iff, List.contains_iff_mem, List.any_map, List.any_eq_true]
  constructor
  · rintro ⟨y, hy, e⟩
    have e : PyData.eqv (.int (y : Nat)) (.int (x : Nat)) = true := e
    rw [eqv_int, decide_eq_true_iff] at e
    have : y = x := by omega
    exact this ▸ hy
  · intro h
    exact ⟨x, h, by show PyData.eqv (.int (x : Nat)) (.int (x : Nat)) = true; rw [eqv_int, decide_eq_true rfl]⟩
theorem can_nats (l : List Nat) : PyData.canLayAll0 (l.map fun i : Nat => PyData.int i) = true := canLay_all fun d hd => by
  obtain ⟨i, _, rfl⟩ := List.mem_map.mp hd
  rfl
theorem flat_few14 {α β : Type} {c : Nat} {f : α → List β} : ∀ {l : List α}, (∀ x ∈ l, (f x).length ≤ c) → (l.flatMap f).length ≤ l.length * c
  | [], _ => Nat.zero_le _
  | x :: l, h => by
    have h1 := h x (by simp)
    have h2 := flat_few14 (l := l) (f := f) (c := c) fun y hy => h y (by simp [hy])
    rw [List.flatMap_cons, List.length_append, List.length_cons, Nat.add_mul]
    omega
theorem de_lstRg1 {K : PySem.W.Frag} {W : Wd} {Δ : DEnv} {P : DV → Prop} {ta : TE} (h : DE K W Δ ta fun a => ∃ i, a = .dat (.int i) ∧ RgOk 0 i ∧ P (.dat (.list ((rgN 0 (i - 0).toNat).map PyData.int)))) : DE K W Δ (tLstRg (tRg1 ta)) P := fun σ H v i Q q =>
  h σ H v i _ fun x H1 e i1 x1 p1 r1 => by
    obtain ⟨a, rfl, hr, k⟩ := p1
    cases r1
    refine ⟨a, rfl, hr, fun p hp => ?_⟩
    rw [rgV_ints]
    exact q _ _ _ (Wd.inv_new i1 hp) (x1.trans (Wd.view_ex (Ex.new hp))) k (Dq.newL i1 hp (Dqs.ints _))
def C__law_lots : Con := fun _ es P => ∃ n : Nat, es = [.dat (.int n), .dat (.tuple ((allA5 n).map arcT))] ∧ 1 ≤ n ∧ n ≤ 5 ∧ P (.dat (.tuple (((lotsF (allA5 n)).map lotD).mergeSort (PySem.W.dataLe false id))))
set_option maxHeartbeats 0 in
theorem ok__law_lots (T : Tx K mg) : FnOk P w K mg base CX0 4 T.f__law_lots T.d__law_lots ["n", "arcs"] (SpC K C__law_lots) := by
  refine kfn T.F__law_lots sc__law_lots (fun W es P ⟨_, h, _⟩ => by rw [h]; rfl) fun cdv A0 outer s H E hr => ⟨_, (pss_cons (ps_setLc (i := 2) (own := [("at", 9)]) rfl sc__law_lots.nd rfl rfl (sw_true rfl rfl rfl (by decide +kernel)) (pi_range1 rfl T.m_range (pa_cons (pe_callB (cr_lenK (K := K) rfl) (by rfl) T.m_len (by decide +kernel) (pa_cons (pv 1) pa_nil)) pa_nil)) (blkOk_by (N := N__law_lots) (sc := defScope s__law_lots) (by decide +kernel)) (fun _ _ _ _ _ => (pg_name (i := 9) sc__law_lots.nd rfl (by first | exact Or.inl rfl | exact Or.inr rfl))) (fun _ _ _ _ _ => pts_nil) (fun _ _ _ _ _ => (pe_lc (own := [("j", 10)]) rfl sc__law_lots.nd (pi_range2 rfl T.m_range (pa_cons (pe_op (op_addK (K := K) rfl) (pv 9) pe_int) (pa_cons (pe_callB (cr_lenK (K := K) rfl) (by rfl) T.m_len (by decide +kernel) (pa_cons (pv 1) pa_nil)) pa_nil))) (blk_deep (N := N__law_lots) (by decide +kernel)) (fun _ _ _ _ _ => (pg_name (i := 10) sc__law_lots.nd rfl (by first | exact Or.inl rfl | exact Or.inr rfl))) (fun _ _ _ _ _ => (pts_one (pt_val (pe_call (ok__law_do_agree T) hr (by rfl) T.g__law_do_agree T.F__law_do_agree.kp T.b__law_do_agree .nil pass0 (pa_cons (pe_ix (ix_K (K := K) rfl) (pv 1) (pv 9) (fun _ _ => rfl)) (pa_cons (pe_ix (ix_K (K := K) rfl) (pv 1) (pv 10) (fun _ _ => rfl)) pa_nil)))))) (fun _ _ _ _ _ => (pv 10)))))
      (pss_cons (ps_par (i := 3) (j := 4) (by rfl) sc__law_lots.nd rfl rfl (by decide) rfl rfl (pa_cons (pe_lst (pa_cons (pe_tup pa_nil) pa_nil)) (pa_cons (pe_lst (pa_cons (pe_tup (pa_cons (pe_tup pa_nil) (pa_cons (pe_listRg rfl (by rfl) T.m_list (prg_1 (by rfl) T.m_range (pe_callB (cr_lenK (K := K) rfl) (by rfl) T.m_len (by decide +kernel) (pa_cons (pv 1) pa_nil)))) pa_nil))) pa_nil)) pa_nil)) (by rfl))
      (pss_cons (ps_for PassesOwn.never rfl (pi_range1 rfl T.m_range (pa_cons (pv 0) pa_nil)) (pg_name (i := 5) sc__law_lots.nd rfl (by first | exact Or.inl rfl | exact Or.inr rfl)) (pss_cons (ps_set (i := 6) sc__law_lots.nd rfl (by first | exact Or.inl rfl | exact Or.inr rfl) (pe_lst pa_nil))
      (pss_cons (ps_for PassesOwn.never rfl (pi_seqK (K := K) rfl (pv 4)) (pg_tupK (K := K) rfl (pg_tup (n := 2) rfl (pgs_cons (pg_name (i := 7) sc__law_lots.nd rfl (by first | exact Or.inl rfl | exact Or.inr rfl)) (pgs_cons (pg_name (i := 8) sc__law_lots.nd rfl (by first | exact Or.inl rfl | exact Or.inr rfl)) pgs_nil)))) (pss_one (ps_for PassesOwn.never rfl (pi_seqK (K := K) rfl (pv 8)) (pg_name (i := 9) sc__law_lots.nd rfl (by first | exact Or.inl rfl | exact Or.inr rfl)) (pss_one (ps_expr (pe_bm PySem.F.plainAttrs_list PySem.F.slot_list_append PySem.F.type_list_append mt_append (pv 6) (pa_cons (pe_tup (pa_cons (pe_op (op_addK (K := K) rfl) (pv 7) (pe_tup (pa_cons (pe_ix (ix_K (K := K) rfl) (pv 1) (pv 9) (fun _ _ => rfl)) pa_nil))) (pa_cons (pe_lc (own := [("j", 10)]) rfl sc__law_lots.nd (pi_seqK (K := K) rfl (pe_ix (ix_K (K := K) rfl) (pv 2) (pv 9) (fun _ _ => rfl))) (blkOk_by (N := N__law_lots) (sc := defScope s__law_lots) (by decide +kernel)) (fun _ _ _ _ _ => (pg_name (i := 10) sc__law_lots.nd rfl (by first | exact Or.inl rfl | exact Or.inr rfl))) (fun _ _ _ _ _ => (pts_one (pt_cmpR (op_inZ (P := P) (w := w) (K := K) rfl rfl rfl (hu65 hr)) (pv 10) (pv 8) (by rfl)))) (fun _ _ _ _ _ => (pv 10))) pa_nil))) pa_nil)))))))
      (pss_one (ps_par (i := 3) (j := 4) (by rfl) sc__law_lots.nd rfl rfl (by decide) rfl rfl (pa_cons (pe_op (op_addK (K := K) rfl) (pv 3) (pe_lc (own := [("lot", 7), ("left", 8)]) rfl sc__law_lots.nd (pi_seqK (K := K) rfl (pv 6)) (blkOk_by (N := N__law_lots) (sc := defScope s__law_lots) (by decide +kernel)) (fun _ _ _ _ _ => (pg_tupK (K := K) rfl (pg_tup (n := 2) rfl (pgs_cons (pg_name (i := 7) sc__law_lots.nd rfl (by first | exact Or.inl rfl | exact Or.inr rfl)) (pgs_cons (pg_name (i := 8) sc__law_lots.nd rfl (by first | exact Or.inl rfl | exact Or.inr rfl)) pgs_nil))))) (fun _ _ _ _ _ => pts_nil) (fun _ _ _ _ _ => (pv 7)))) (pa_cons (pv 6) pa_nil)) (by rfl))))))
      (pss_one (ps_ret (pe_callTy (cr_tupK (K := K) rfl) (by rfl) T.m_tuple (by decide +kernel) (pa_cons (pe_callB (cr_sortedVK (K := K) rfl hr.units) (by rfl) T.m_sorted (by decide +kernel) (pa_cons (pv 3) pa_nil)) pa_nil))))))), fun W es PX hC => ?_⟩
  obtain ⟨n, rfl, h1, h5, q⟩ := hC
  have hA := allA5_few n (by omega)
  have hAo : ∀ i, i < (allA5 n).length → ArcOk n ((allA5 n).getD i (0, 0, [])).1 ((allA5 n).getD i (0, 0, [])).2.1 ((allA5 n).getD i (0, 0, [])).2.2 := fun i hi => (allA5_mem (by omega)).mp (List.mem_of_getElem? (getA hi))
  have hbf := bord_few n (by omega)
  have hperm := found_perm n (by omega)
  generalize allA5 n = A at hA hAo hbf hperm q
  have ix : ∀ i, i < A.length → (A.map arcT)[i]? = some (arcT (A.getD i (0, 0, []))) := fun i hi => by
    rw [List.getElem?_map, getA hi]
    rfl
  try dsimp only [cx_K, cx_w]
  walk_at "ka"
  refine de_lcM (List.range A.length) (fun i => DV.dat (.int (i : Nat))) (fun _ => true) (fun i => .list ((frK A i).map fun j : Nat => PyData.int j)) ?_ (by rw [List.length_range]; omega) ?_ ?_
  · walk_at "ka"
    rw [List.length_map]
    refine ⟨by omega, ?_⟩
    rw [show ((A.length : Nat) : Int).toNat = A.length from rfl, rg_range, List.map_map]
    rfl
  · intro i hi W'' hW
    rw [List.mem_range] at hi
    refine ⟨_, _, tg_name, by simp, ?_⟩
    walk_at "ka"
    refine ⟨rfl, fun _ => ?_⟩
    walk_at "ka"
    refine de_lcM (List.range (A.length - (i + 1))) (fun k => DV.dat (.int ((i + 1 + k : Nat) : Int))) (fun k => fitB (A.getD i (0, 0, [])) (A.getD (i + 1 + k) (0, 0, []))) (fun k => .int ((i + 1 + k : Nat) : Int)) ?_ (by rw [List.length_range]; omega) ?_ ?_
    · walk_at "ka"
      rw [List.length_map]
      refine ⟨_, _, rfl, by omega, by omega, ?_⟩
      rw [show ((A.length : Nat) : Int) - ((i : Int) + 1) = ((A.length - (i + 1) : Nat) : Int) by omega, show ((A.length - (i + 1) : Nat) : Int).toNat = A.length - (i + 1) from rfl]
      unfold rgN
      rw [List.map_map]
      refine List.map_congr_left fun k _ => ?_
      show DV.dat (.int ((i : Int) + 1 + (k : Int))) = _
      rw [show (i : Int) + 1 + (k : Int) = ((i + 1 + k : Nat) : Int) by omega]
    · intro k hk W3 hW3
      rw [List.mem_range] at hk
      refine ⟨_, _, tg_name, by simp, ?_⟩
      walk_at "ka"
      refine opd_ixT (atI_nat (ix i hi)) ?_
      walk_at "ka"
      refine opd_ixT (atI_nat (ix (i + 1 + k) (by omega))) ?_
      walk_at "ka"
      refine ⟨n, _, _, rfl, hAo i hi, hAo (i + 1 + k) (by omega), by omega, ?_⟩
      refine ⟨_, rfl, rfl, fun _ => ?_⟩
      walk_at "ka"
      rfl
    · unfold frK
      rw [List.map_map]
      rfl
  rw [List.filter_eq_self.mpr (fun _ _ => rfl)]
  have ixF : ∀ i, i < A.length → ((List.range A.length).map fun i => PyData.list ((frK A i).map fun j : Nat => PyData.int j))[i]? = some (.list ((frK A i).map fun j : Nat => PyData.int j)) := fun i hi => by
    rw [List.getElem?_map, List.getElem?_range hi]
    rfl
  walk_at "ka"
  refine de_lstRg1 ?_
  walk_at "ka"
  rw [List.length_map]
  refine ⟨RgOk.of_le (by omega) (by omega) (by omega) (by omega), ?_⟩
  refine da_nil ?_
  refine ⟨[_, _], rfl, by simp, ?_⟩
  refine da_nil ?_
  refine ⟨[_], rfl, by simp, ?_⟩
  refine da_nil ?_
  refine ⟨_, _, rfl, ?_⟩
  have e0 : (rgN 0 ((A.length : Nat) - 0 : Int).toNat).map PyData.int = (List.range A.length).map fun i : Nat => PyData.int i := by
    rw [show ((A.length : Nat) - 0 : Int).toNat = A.length by omega]
    unfold rgN
    rw [List.map_map]
    refine List.map_congr_left fun i _ => ?_
    show PyData.int (0 + (i : Int)) = _
    rw [Int.zero_add]
  refine ds_seq (ds_for ?_)
  walk_at "ka"
  refine ⟨by omega, fun k W' Δ' => W' = W ∧ ∃ x5 x6 x7 x8 x9, Δ' = [some (.dat (.int n)), some (.dat (.tuple (A.map arcT))), some (.dat (.list ((List.range A.length).map fun i => PyData.list ((frK A i).map fun j : Nat => PyData.int j)))), some (.dat (.list ((foundK A k).map lotD))), some (.dat (.list ((bordK A k).map pairK))), x5, x6, x7, x8, x9, none], ⟨rfl, none, none, none, none, none, by rw [e0]; rfl⟩, ?_, ?_⟩
  · rintro k e W' Δ' he ⟨rfl, x5, x6, x7, x8, x9, rfl⟩
    obtain ⟨hk, rfl⟩ := rgN_at he
    have hk5 : k < 6 := by omega
    obtain ⟨b1, b2, b3⟩ := hbf k hk5
    obtain ⟨c1, c2, _⟩ := hbf (k + 1) (by omega)
    have bP : ∀ p ∈ bordK A k, p.1.length ≤ 10 ∧ p.2.length ≤ 26 ∧ ∀ i ∈ p.2, i < A.length := fun p hp => by
      have := List.all_eq_true.mp b3 p hp
      rw [Bool.and_eq_true, Bool.and_eq_true, decide_eq_true_iff, decide_eq_true_iff, List.all_eq_true] at this
      exact ⟨this.1.1, this.1.2, fun i hi => of_decide_eq_true (this.2 i hi)⟩
    refine ⟨_, _, tg_name, ?_⟩
    refine ds_seq (ds_newL fun p hp => ?_)
    refine ds_cut (fun W2 Δ2 => W2 = W'.hide p (knL K ((bordK A (k + 1)).map pairK)) ∧ ∃ x7 x8 x9, Δ2 = [some (.dat (.int n)), some (.dat (.tuple (A.map arcT))), some (.dat (.list ((List.range A.length).map fun i => PyData.list ((frK A i).map fun j : Nat => PyData.int j)))), some (.dat (.list ((foundK A k).map lotD))), some (.dat (.list ((bordK A k).map pairK))), some (.dat (.int (0 + (k : Int)))), some (.raw (.ref p)), x7, x8, x9, none]) ?_ ?_
    · refine ds_for ?_
      refine di_seqL ?_
      walk_at "ka"
      refine ⟨fun b W2 Δ2 => W2 = W'.hide p (knL K ((((bordK A k).take b).flatMap (growK A)).map pairK)) ∧ ∃ x7 x8 x9, Δ2 = [some (.dat (.int n)), some (.dat (.tuple (A.map arcT))), some (.dat (.list ((List.range A.length).map fun i => PyData.list ((frK A i).map fun j : Nat => PyData.int j)))), some (.dat (.list ((foundK A k).map lotD))), some (.dat (.list ((bordK A k).map pairK))), some (.dat (.int (0 + (k : Int)))), some (.raw (.ref p)), x7, x8, x9, none], ⟨by rw [List.take_zero]; rfl, x7, x8, x9, rfl⟩, ?_, ?_⟩
      · clear x7 x8 x9
        rintro b e W2 Δ2 he2 ⟨rfl, x7, x8, x9, rfl⟩
        rw [List.getElem?_map] at he2
        obtain ⟨d, hd, rfl⟩ := Option.map_eq_some_iff.mp he2
        rw [List.getElem?_map] at hd
        obtain ⟨⟨S, left⟩, hp2, rfl⟩ := Option.map_eq_some_iff.mp hd
        have hbl := (List.getElem?_eq_some_iff.mp hp2).1
        obtain ⟨s1, s2, s3⟩ := bP _ (List.mem_of_getElem? hp2)
        have s1 : S.length ≤ 10 := s1
        have s2 : left.length ≤ 26 := s2
        have few : (((bordK A k).take b).flatMap (growK A)).length ≤ 200 * 26 := by
          refine Nat.le_trans (flat_few14 (c := 26) fun q hq => ?_) (Nat.mul_le_mul_right _ (by rw [List.length_take]; omega))
          unfold growK
          rw [List.length_map]
          exact (bP q (List.mem_of_mem_take hq)).2.1
        refine ⟨_, _, tg_tup2, ?_⟩
        refine ds_for ?_
        refine di_seqL ?_
        walk_at "ka"
        refine ⟨fun a W2 Δ2 => W2 = W'.hide p (knL K ((((bordK A k).take b).flatMap (growK A) ++ (growK A (S, left)).take a).map pairK)) ∧ ∃ x9, Δ2 = [some (.dat (.int n)), some (.dat (.tuple (A.map arcT))), some (.dat (.list ((List.range A.length).map fun i => PyData.list ((frK A i).map fun j : Nat => PyData.int j)))), some (.dat (.list ((foundK A k).map lotD))), some (.dat (.list ((bordK A k).map pairK))), some (.dat (.int (0 + (k : Int)))), some (.raw (.ref p)), some (.dat (lotD S)), some (.dat (.list (left.map fun i : Nat => PyData.int i))), x9, none], ⟨by rw [List.take_zero, List.append_nil], x9, rfl⟩, ?_, ?_⟩
        · rintro a e W2 Δ2 he3 ⟨rfl, x9, rfl⟩
          rw [List.getElem?_map] at he3
          obtain ⟨d3, hd3, rfl⟩ := Option.map_eq_some_iff.mp he3
          rw [List.getElem?_map] at hd3
          obtain ⟨i, hi, rfl⟩ := Option.map_eq_some_iff.mp hd3
          have hil := s3 i (List.mem_of_getElem? hi)
          have hal := (List.getElem?_eq_some_iff.mp hi).1
          refine ⟨_, _, tg_name, ?_⟩
          have few2 : ((((bordK A k).take b).flatMap (growK A) ++ (growK A (S, left)).take a).map pairK).length ≤ 6000 := by
            rw [List.length_map, List.length_append, List.length_take]
            omega
          refine ds_app (i := 6) rfl (by omega) ?_
          walk_at "ka"
          refine opd_ixT (atI_nat (ix i hil)) ?_
          walk_at "ka"
          refine opd_addT (xs := S.map arcT) (ys := [arcT (A.getD i (0, 0, []))]) (by rw [List.length_map]; simp; omega) ?_
          rw [show S.map arcT ++ [arcT (A.getD i (0, 0, []))] = (S ++ [A.getD i (0, 0, [])]).map arcT by rw [List.map_append]; rfl]
          walk_at "ka"
          refine de_lcM (frK A i) (fun j => DV.dat (.int (j : Nat))) (fun j => left.contains j) (fun j => .int (j : Nat)) (di_seqL ?_) ?_ ?_ ?_
          · walk_at "ka"
            refine opd_ixL (atI_nat (ixF i hil)) ⟨_, rfl, ?_⟩
            exact List.map_map ..
          · unfold frK
            rw [List.length_map]
            exact Nat.le_trans (List.length_filter_le ..) (by rw [List.length_range]; omega)
          · intro j hj W3 hW3
            refine ⟨_, _, tg_name, by simp, ?_⟩
            walk_at "ka"
            refine opd_inZL (by rfl) (can_nats left) ⟨_, rfl, any_nats left j, fun _ => ?_⟩
            walk_at "ka"
            rfl
          refine da_nil ?_
          refine ⟨[_, _], rfl, by simp, _, rfl, ?_, some (.dat (.int (i : Nat))), rfl⟩
          have ga : (growK A (S, left))[a]? = some (S ++ [A.getD i (0, 0, [])], (frK A i).filter fun j => left.contains j) := by
            unfold growK
            rw [List.getElem?_map, hi]
            rfl
          rw [List.take_add_one, ga, ← List.append_assoc, List.map_append (l₁ := _ ++ _)]
          rfl
        · rintro W2 Δ2 ⟨rfl, x9, rfl⟩
          rw [List.length_map, List.length_map]
          refine ⟨?_, _, _, _, rfl⟩
          have hg : (growK A (S, left)).take left.length = growK A (S, left) := List.take_of_length_le (by unfold growK; rw [List.length_map]; exact Nat.le_refl _)
          rw [hg, List.take_succ_eq_append_getElem hbl, (List.getElem?_eq_some_iff.mp hp2).2, List.flatMap_append]
          simp
      · rintro W2 Δ2 ⟨rfl, x7, x8, x9, rfl⟩
        rw [List.length_map, List.length_map, List.take_length]
        exact ⟨rfl, x7, x8, x9, rfl⟩
    rintro W2 Δ2 ⟨rfl, x7, x8, x9, rfl⟩
    refine ds_see (i := 6) hp rfl ?_
    walk_at "ka"
    refine de_lcM (bordK A (k + 1)) (fun p => DV.dat (pairK p)) (fun _ => true) (fun p => lotD p.1) (di_seqL ?_) (by omega) ?_ ?_
    · walk_at "ka"
      exact List.map_map ..
    · intro p hp W3 hW3
      refine ⟨_, _, tg_tup2, by simp, ?_⟩
      walk_at "ka"
      refine ⟨rfl, fun _ => ?_⟩
      walk_at "ka"
      rfl
    rw [List.filter_eq_self.mpr (fun _ _ => rfl)]
    refine opd_addL (by rw [List.length_map, List.length_map]; omega) ?_
    walk_at "ka"
    have ef : (foundK A k).map lotD ++ (bordK A (k + 1)).map (fun p => lotD p.1) = (foundK A (k + 1)).map lotD := by
      show _ = List.map lotD (_ ++ _)
      rw [List.map_append, List.map_map]
      rfl
    rw [ef]
    exact ⟨_, _, rfl, rfl, _, _, _, _, _, rfl⟩
  · rintro W' Δ' ⟨rfl, x5, x6, x7, x8, x9, rfl⟩
    rw [List.length_map, rgN_length, show ((n : Nat) : Int).toNat = n from rfl]
    walk_at "ka"
    refine cal_sortedV (lots_alike _) (fun d hd => ?_) (lots_dep _) ?_
    · obtain ⟨S, _, rfl⟩ := List.mem_map.mp hd
      exact ⟨_, rfl⟩
    rw [lots_sort (List.isPerm_iff.mp hperm)]
    walk_at "ka"
    exact ⟨Wd.Le.refl W', q⟩

def C__law_arcs_of : Con := fun _ es P => ∃ n : Int, es = [.dat (.int n)] ∧ 1 ≤ n ∧ n ≤ 8 ∧ P (.dat (.tuple (((arcsN n).map arcT).mergeSort (PySem.W.dataLe false id))))
theorem ok__law_arcs_of (T : Tx K mg) : FnOk P w K mg base CX0 1 T.f__law_arcs_of T.d__law_arcs_of ["n"] (SpC K C__law_arcs_of) := by
  refine kfn T.F__law_arcs_of sc__law_arcs_of (fun W es P ⟨_, h, _⟩ => by rw [h]; rfl) fun cdv A outer s H E hr => ⟨_, (pss_cons (ps_set (i := 1) sc__law_arcs_of.nd rfl (by first | exact Or.inl rfl | exact Or.inr rfl) (pe_lst pa_nil))
      (pss_cons (ps_for PassesOwn.never rfl (pi_range2 rfl T.m_range (pa_cons pe_int (pa_cons (pv 0) pa_nil))) (pg_name (i := 2) sc__law_arcs_of.nd rfl (by first | exact Or.inl rfl | exact Or.inr rfl)) (pss_one (ps_for PassesOwn.never rfl (pi_range2 rfl T.m_range (pa_cons (pe_op (op_addK (K := K) rfl) (pv 2) pe_int) (pa_cons (pe_op (op_addK (K := K) rfl) (pv 0) pe_int) pa_nil))) (pg_name (i := 3) sc__law_arcs_of.nd rfl (by first | exact Or.inl rfl | exact Or.inr rfl)) (pss_cons (ps_set (i := 4) sc__law_arcs_of.nd rfl (by first | exact Or.inl rfl | exact Or.inr rfl) (pe_lst (pa_cons (pe_tup pa_nil) pa_nil)))
      (pss_cons (ps_for PassesOwn.never rfl (pi_range2 rfl T.m_range (pa_cons (pe_op (op_addK (K := K) rfl) (pv 2) pe_int) (pa_cons (pv 3) pa_nil))) (pg_name (i := 5) sc__law_arcs_of.nd rfl (by first | exact Or.inl rfl | exact Or.inr rfl)) (pss_one (ps_set (i := 4) sc__law_arcs_of.nd rfl (by first | exact Or.inl rfl | exact Or.inr rfl) (pe_op (op_addK (K := K) rfl) (pv 4) (pe_lc (own := [("ahead", 6)]) rfl sc__law_arcs_of.nd (pi_seqK (K := K) rfl (pv 4)) (blkOk_by (N := N__law_arcs_of) (sc := defScope s__law_arcs_of) (by decide +kernel)) (fun _ _ _ _ _ => (pg_name (i := 6) sc__law_arcs_of.nd rfl (by first | exact Or.inl rfl | exact Or.inr rfl))) (fun _ _ _ _ _ => pts_nil) (fun _ _ _ _ _ => (pe_op (op_addK (K := K) rfl) (pv 6) (pe_tup (pa_cons (pv 5) pa_nil)))))))))
      (pss_one (ps_expr (pe_bm PySem.F.plainAttrs_list PySem.F.slot_list_extend PySem.F.type_list_extend mt_extend (pv 1) (pa_cons (pe_lc (own := [("ahead", 6)]) rfl sc__law_arcs_of.nd (pi_seqK (K := K) rfl (pv 4)) (blkOk_by (N := N__law_arcs_of) (sc := defScope s__law_arcs_of) (by decide +kernel)) (fun _ _ _ _ _ => (pg_name (i := 6) sc__law_arcs_of.nd rfl (by first | exact Or.inl rfl | exact Or.inr rfl))) (fun _ _ _ _ _ => pts_nil) (fun _ _ _ _ _ => (pe_tup (pa_cons (pv 2) (pa_cons (pv 3) (pa_cons (pv 6) pa_nil)))))) pa_nil)))))))))
      (pss_one (ps_ret (pe_callTy (cr_tupK (K := K) rfl) (by rfl) T.m_tuple (by decide +kernel) (pa_cons (pe_callB (cr_sortedZ (K := K) (w := w) rfl rfl rfl hr.units) (by rfl) T.m_sorted (by decide +kernel) (pa_cons (pv 1) pa_nil)) pa_nil)))))), fun W es P hC => ?_⟩
  obtain ⟨n, rfl, h0, h3, q⟩ := hC
  try dsimp only [cx_K, cx_w]
  refine ds_seq (ds_newL fun p hp => ?_)
  refine ds_seq (ds_for ?_)
  walk_at "ka"
  refine ⟨1, n, rfl, by omega, by omega, fun i W' Δ' => W' = W.hide p (knL K ((arcsTo n (rgN 1 i)).map arcT)) ∧ ∃ x2 x3 x4 x5, Δ' = [some (.dat (.int n)), some (.raw (.ref p)), x2, x3, x4, x5, none], ⟨rfl, none, none, none, none, rfl⟩, ?_, ?_⟩
  · rintro i e W' Δ' he ⟨rfl, x2, x3, x4, x5, rfl⟩
    obtain ⟨hi, rfl⟩ := rgN_at he
    have hi2 : 1 + (i : Int) ≤ n := by omega
    refine ⟨_, _, tg_name, ?_⟩
    generalize ha : (1 : Int) + (i : Int) = a
    have hz := arcsTo_small (n := n) h3 (i := i) (by omega)
    refine ds_for ?_
    walk_at "ka"
    refine ⟨a + 1, n + 1, rfl, by omega, by omega, fun j W' Δ' => W' = W.hide p (knL K ((arcsTo n (rgN 1 i) ++ (rgN (a + 1) j).flatMap (arcsAt a)).map arcT)) ∧ ∃ x3 x4 x5, Δ' = [some (.dat (.int n)), some (.raw (.ref p)), some (.dat (.int a)), x3, x4, x5, none], ⟨?_, x3, x4, x5, rfl⟩, ?_, ?_⟩
    · rw [show rgN (a + 1) 0 = [] from rfl, List.flatMap_nil, List.append_nil]
    · rintro j e W' Δ' he2 ⟨rfl, x3, x4, x5, rfl⟩
      obtain ⟨hj, rfl⟩ := rgN_at he2
      have hj2 : a + 1 + (j : Int) ≤ n := by omega
      refine ⟨_, _, tg_name, ?_⟩
      generalize hb : a + 1 + (j : Int) = b
      have hs := arcsAt_small (a := a) (b := b) (n := n) (by omega) (by omega) h3
      rw [arcsAt_len] at hs
      refine dq_set ?_
      refine de_lst ?_
      walk_at "ka"
      refine ds_seq (ds_for ?_)
      walk_at "ka"
      refine ⟨a + 1, b, rfl, by omega, by omega, fun k W' Δ' => W' = W.hide p (knL K ((arcsTo n (rgN 1 i) ++ (rgN (a + 1) j).flatMap (arcsAt a)).map arcT)) ∧ ∃ x5, Δ' = [some (.dat (.int n)), some (.raw (.ref p)), some (.dat (.int a)), some (.dat (.int b)), some (.dat (.list ((choL (rgN (a + 1) k)).map tupI))), x5, none], ⟨rfl, x5, rfl⟩, ?_, ?_⟩
      · rintro k e W' Δ' he3 ⟨rfl, x5, rfl⟩
        obtain ⟨hk, rfl⟩ := rgN_at he3
        have hk2 : (choL (rgN (a + 1) k)).length ≤ 64 := by
          rw [choL_len]
          exact Nat.le_trans (Nat.pow_le_pow_right (by decide) (Nat.le_of_lt hk)) hs
        refine ⟨_, _, tg_name, ?_⟩
        walk_at "ka"
        refine de_lcM (choL (rgN (a + 1) k)) (fun S => DV.dat (tupI S)) (fun _ => true) (fun S => tupI (S ++ [a + 1 + (k : Int)])) (di_seqL ?_) (by omega) ?_ ?_
        · walk_at "ka"
          exact List.map_map ..
        · intro S hS W'' hW
          refine ⟨_, _, tg_name, by simp, ?_⟩
          walk_at "ka"
          refine ⟨rfl, fun _ => ?_⟩
          walk_at "ka"
          have hz : S.length ≤ 100 := by
            obtain ⟨s1, s2⟩ := (choL_mem _ _ _).mp hS
            have := asc_len (a := a) (b := a + 1 + k) s1 fun p hp => by have := s2 p hp; omega
            have : k < 8 := by omega
            omega
          refine opd_addT (by rw [intsD_len]; simp; omega) ?_
          show DV.dat (.tuple (intsD S ++ intsD [a + 1 + (k : Int)])) = _
          rw [intsD_append]
          rfl
        · rw [List.filter_eq_self.mpr (fun _ _ => rfl)]
          refine opd_addL (by rw [List.length_map, List.length_map]; omega) ?_
          refine ⟨rfl, some (.dat (.int (a + 1 + (k : Int)))), ?_⟩
          rw [rgN_succ, choL_snoc, List.map_append, List.map_map]
          rfl
      · rintro W' Δ' ⟨rfl, x5, rfl⟩
        rw [List.length_map, rgN_length]
        refine ds_ext (i := 1) rfl ?_
        refine de_lcM (choL (rgN (a + 1) (b - (a + 1)).toNat)) (fun S => DV.dat (tupI S)) (fun _ => true) (fun S => arcD a b S) (di_seqL ?_) (by rw [choL_len]; omega) ?_ ?_
        · walk_at "ka"
          exact List.map_map ..
        · intro S hS W'' hW
          refine ⟨_, _, tg_name, by simp, ?_⟩
          walk_at "ka"
          refine ⟨rfl, fun _ => ?_⟩
          walk_at "ka"
          rfl
        · rw [List.filter_eq_self.mpr (fun _ _ => rfl)]
          have hf : ((rgN (a + 1) j).flatMap (arcsAt a)).length ≤ j * 64 := by
            refine Nat.le_trans (flat_len (c := 64) fun b hb => ?_) (by rw [rgN_length]; omega)
            rw [rgN_mem] at hb
            exact arcsAt_small (n := n) (by omega) (by omega) h3
          refine ⟨_, rfl, by rw [List.length_map, List.length_map, List.length_append, choL_len]; omega, ?_, _, _, _, rfl⟩
          rw [rgN_succ, hb, List.flatMap_append, ← List.append_assoc, List.map_append]
          congr 2
          congr 1
          simp [arcsAt, List.map_map]
          exact fun _ _ => rfl
    · rintro W' Δ' ⟨rfl, x3, x4, x5, rfl⟩
      rw [List.length_map, rgN_length]
      refine ⟨?_, _, _, _, _, rfl⟩
      rw [rgN_succ, ha]
      unfold arcsTo
      rw [List.flatMap_append]
      congr 3
      simp [show (n + 1 - (a + 1)).toNat = (n - a).toNat by omega]
  · rintro W' Δ' ⟨rfl, x2, x3, x4, x5, rfl⟩
    rw [List.length_map, rgN_length]
    have eN : arcsTo n (rgN 1 (n - 1).toNat) = arcsN n := by
      unfold arcsN
      rw [show n.toNat = (n - 1).toNat + 1 by omega, rgN_succ]
      unfold arcsTo
      rw [List.flatMap_append]
      have e0 : (n - (1 + ((n - 1).toNat : Int))).toNat = 0 := by omega
      rw [List.flatMap_cons, List.flatMap_nil, e0]
      simp [rgN]
    rw [eN]
    refine ds_see (i := 1) hp rfl ?_
    walk_at "ka"
    have hA := arcT_arcs (arcsN n)
    refine cal_sortedZL hA.alike hA.sortable hA.dep ?_
    walk_at "ka"
    exact ⟨Wd.Le.refl W, q⟩

section
open PySem.Sem (wp)
open Kz
variable {w : World} {prog : Program} {A : Around} {s : Shared} {E : Value → Shared → Prop}
theorem zipX_next_item {zo ti tu j1 j2 q1 q2 : Addr} {n1 n2 : Nat} {as' bs' : Array Value} {x y a b : Value} {Q : Value → Shared → Prop} (D : ZipApart zo ti tu j1 j2 q1 q2)
    (gz : IsZip s.heap zo ti tu .none) (gti : IsPair s.heap ti (.ref j1) (.ref j2)) (gtu : IsPair s.heap tu a b)
    (u1 : s.heap.IsTupleIter j1 q1 n1) (u2 : s.heap.IsListIter j2 q2 n2) (w1 : s.heap.IsTuple q1 as') (w2 : s.heap.IsList q2 bs') (gx : as'[n1]? = some x) (gy : bs'[n2]? = some y)
    (gQ : ∀ h', IsZip h' zo ti tu (rawInt s.heap.objs.size) → IsPair h' tu x y → h'.IsTupleIter j1 q1 (n1 + 1) → h'.IsListIter j2 q2 (n2 + 1) → IsPair h' s.heap.objs.size x y → h'.objs.size = s.heap.objs.size + 1 →
      (∀ c o, c ≠ zo → c ≠ tu → c ≠ j1 → c ≠ j2 → s.heap.get? c = some o → h'.get? c = some o) → Q (.ref s.heap.objs.size) { s with heap := h' }) :
    wpAny (model prog w) A (Builtin.«zip.__next__» ⟨[.ref zo], []⟩) (fun fin s' => ∃ v, fin = .done (.ret v) ∧ Q v s') E s := by
  show wpAny _ _ (field (.ref zo) 2 >>= _) _ _ _
  refine wpAny_bind (wpAny_field gz rfl (x := .bool false) rfl ?_)
  show wpAny _ _ (field (.ref zo) 3 >>= _) _ _ _
  refine wpAny_bind (wpAny_field gz rfl (x := .ref ti) rfl ?_)
  refine wpAny_bind (wpAny_seqItems gti rfl ?_)
  show wpAny _ _ (Builtin.SmallTypes.ownedTupleIsFree (.ref zo) >>= _) _ _ _
  refine wpAny_bind ?_
  unfold Builtin.SmallTypes.ownedTupleIsFree
  refine wpAny_bind (wpAny_field gz rfl (x := .none) rfl (wpAny_pure ?_))
  simp only [if_true]
  refine wpAny_bind (wpAny_rule ?_)
  refine wpAny_bind (wpAny_field gz rfl (x := .ref tu) rfl ?_)
  refine wpAny_bind (wpAny_setField_rec gz (by simp) fun m₁ gz₁ ms₁ => ?_)
  replace gz₁ : IsZip m₁ zo ti tu .ellipsis := gz₁
  refine wpAny_bind ?_
  simp only [List.zipIdx_nil, List.zipIdx_cons, List.forIn_nil, List.forIn_cons]

  refine wpAny_bind (wpAny_bind (wpAny_onRaise ?_))
  show wpAny _ _ (Builtin.SmallTypes.nextOf (.ref j1) >>= _) _ _ _
  refine wpAny_bind (RZ.nextOf_tuple_item (u1.extBut ms₁.extBut D.i1z) (w1.extBut ms₁.extBut D.l1z) gx fun m₂ u1₂ ms₂ => wpAny_pure ?_)
  have gtu₂ : IsPair m₂ tu a b := ms₂.extBut _ _ D.TOi1 (ms₁.extBut _ _ D.TOz gtu)
  refine wpAny_bind (wpAny_seqItems gtu₂ rfl ?_)
  refine wpAny_bind (wpAny_updateSeq_pair gtu₂ fun m₃ gtu₃ ms₃ => ?_)
  replace gtu₃ : IsPair m₃ tu x b := gtu₃
  refine wpAny_bind (wpAny_letGo (wpAny_pure ?_))

  refine wpAny_bind (wpAny_bind (wpAny_onRaise ?_))
  show wpAny _ _ (Builtin.SmallTypes.nextOf (.ref j2) >>= _) _ _ _
  refine wpAny_bind (wpAny_nextOf_list_item (((u2.extBut ms₁.extBut D.i2z).extBut ms₂.extBut D.i12.symm).extBut ms₃.extBut D.TOi2.symm)
    (((w2.extBut ms₁.extBut D.l2z).extBut ms₂.extBut D.l2i1).extBut ms₃.extBut D.l2TO) gy fun m₄ u2₄ ms₄ => wpAny_pure ?_)
  have gtu₄ : IsPair m₄ tu x b := ms₄.extBut _ _ D.TOi2 gtu₃
  refine wpAny_bind (wpAny_seqItems gtu₄ rfl ?_)
  refine wpAny_bind (wpAny_updateSeq_pair gtu₄ fun m₅ gtu₅ ms₅ => ?_)
  replace gtu₅ : IsPair m₅ tu x y := gtu₅
  refine wpAny_bind (wpAny_letGo (wpAny_pure (wpAny_pure ?_)))

  refine wpAny_bind (wpAny_seqItems gtu₅ rfl ?_)
  refine wpAny_bind (wpAny_newTuple ?_)
  have gsz : m₅.objs.size = s.heap.objs.size := by rw [ms₅.1, ms₄.1, ms₃.1, ms₂.1, ms₁.1]
  have gz₅ : IsZip m₅ zo ti tu .ellipsis := ms₅.extBut _ _ D.TOz.symm (ms₄.extBut _ _ D.i2z.symm (ms₃.extBut _ _ D.TOz.symm (ms₂.extBut _ _ D.i1z.symm gz₁)))
  have gk₅ : ∀ c o, c ≠ zo → c ≠ tu → c ≠ j1 → c ≠ j2 → s.heap.get? c = some o → m₅.get? c = some o := fun c o c1 c2 c3 c4 e =>
    ms₅.extBut _ _ c2 (ms₄.extBut _ _ c4 (ms₃.extBut _ _ c2 (ms₂.extBut _ _ c3 (ms₁.extBut _ _ c1 e))))
  have u1₅ : m₅.IsTupleIter j1 q1 (n1 + 1) := ((u1₂.extBut ms₃.extBut D.TOi1.symm).extBut ms₄.extBut D.i12).extBut ms₅.extBut D.TOi1.symm
  have u2₅ : m₅.IsListIter j2 q2 (n2 + 1) := u2₄.extBut ms₅.extBut D.TOi2.symm
  have gzlt : zo < m₅.objs.size := Heap.lt_size gz₅
  have gtlt : tu < m₅.objs.size := Heap.lt_size gtu₅
  have gi1 : j1 < m₅.objs.size := by obtain ⟨_, e, _⟩ := u1₅; exact Heap.lt_size e
  have gi2 : j2 < m₅.objs.size := by obtain ⟨_, e, _⟩ := u2₅; exact Heap.lt_size e
  show wpAny _ _ (Builtin.SmallTypes.ownedTupleHandOut (.ref zo) (.ref m₅.objs.size) >>= _) _ _ _
  refine wpAny_bind ?_
  unfold Builtin.SmallTypes.ownedTupleHandOut
  have gz₆ : IsZip (m₅.push { cls := .type "tuple", data := .seq #[x, y] }) zo ti tu .ellipsis := Heap.get?_push_of_some _ gz₅
  refine wpAny_bind (wpAny_setField_rec gz₆ (by simp) fun m₇ gz₇ ms₇ => ?_)
  replace gz₇ : IsZip m₇ zo ti tu (rawInt m₅.objs.size) := gz₇
  refine wpAny_setField_rec gz₇ (by simp) fun m₈ gz₈ ms₈ => ?_
  replace gz₈ : IsZip m₈ zo ti tu (rawInt m₅.objs.size) := gz₈
  have up : ∀ c o, c ≠ zo → m₅.get? c = some o → m₈.get? c = some o := fun c o c1 e => ms₈.extBut _ _ c1 (ms₇.extBut _ _ c1 (Heap.get?_push_of_some _ e))
  have gT₈ : IsPair m₈ m₅.objs.size x y := ms₈.extBut _ _ (Nat.ne_of_gt gzlt) (ms₇.extBut _ _ (Nat.ne_of_gt gzlt) (Heap.get?_push_size _ rfl))
  have gz8 : m₈.objs.size = m₅.objs.size + 1 := by rw [ms₈.1, ms₇.1, Heap.size_push]
  rw [gsz] at gz₈ gT₈ gz8
  refine wpAny_pure ⟨_, rfl, ?_⟩
  show Q (.ref m₅.objs.size) _
  rw [gsz]
  exact gQ m₈ gz₈ (up _ _ D.TOz gtu₅) (u1₅.at fun o e => up _ o D.i1z e) (u2₅.at fun o e => up _ o D.i2z e) gT₈ gz8 fun c o c1 c2 c3 c4 e => up c o c1 (gk₅ c o c1 c2 c3 c4 e)

theorem zipX_next_end {zo ti tu j1 j2 q1 q2 : Addr} {n1 n2 : Nat} {as' bs' : Array Value} {a b : Value} {Q : Fin → Shared → Prop} (gh : A.handled = none) (D : ZipApart zo ti tu j1 j2 q1 q2)
    (gz : IsZip s.heap zo ti tu .none) (gti : IsPair s.heap ti (.ref j1) (.ref j2)) (gtu : IsPair s.heap tu a b)
    (u1 : s.heap.IsTupleIter j1 q1 n1) (u2 : s.heap.IsListIter j2 q2 n2) (w1 : s.heap.IsTuple q1 as') (w2 : s.heap.IsList q2 bs') (gend : as'[n1]? = none ∨ bs'[n2]? = none)
    (gE : ∀ h' e, (∀ c o, c ≠ zo → c ≠ tu → c ≠ j1 → c ≠ j2 → s.heap.get? c = some o → h'.get? c = some o) → (∃ o, h'.get? e = some o ∧ o.cls = .type "StopIteration") → E (.ref e) { s with heap := h' }) :
    wpAny (model prog w) A (Builtin.«zip.__next__» ⟨[.ref zo], []⟩) Q E s := by
  show wpAny _ _ (field (.ref zo) 2 >>= _) _ _ _
  refine wpAny_bind (wpAny_field gz rfl (x := .bool false) rfl ?_)
  show wpAny _ _ (field (.ref zo) 3 >>= _) _ _ _
  refine wpAny_bind (wpAny_field gz rfl (x := .ref ti) rfl ?_)
  refine wpAny_bind (wpAny_seqItems gti rfl ?_)
  show wpAny _ _ (Builtin.SmallTypes.ownedTupleIsFree (.ref zo) >>= _) _ _ _
  refine wpAny_bind ?_
  unfold Builtin.SmallTypes.ownedTupleIsFree
  refine wpAny_bind (wpAny_field gz rfl (x := .none) rfl (wpAny_pure ?_))
  simp only [if_true]
  refine wpAny_bind (wpAny_rule ?_)
  refine wpAny_bind (wpAny_field gz rfl (x := .ref tu) rfl ?_)
  refine wpAny_bind (wpAny_setField_rec gz (by simp) fun m₁ gz₁ ms₁ => ?_)
  replace gz₁ : IsZip m₁ zo ti tu .ellipsis := gz₁
  refine wpAny_bind ?_
  simp only [List.zipIdx_nil, List.zipIdx_cons, List.forIn_nil, List.forIn_cons]
  refine wpAny_bind (wpAny_bind (wpAny_onRaise ?_))
  show wpAny _ _ (Builtin.SmallTypes.nextOf (.ref j1) >>= _) _ _ _
  cases gx : as'[n1]? with
  | none =>
    refine wpAny_bind (RZ.nextOf_tuple_end gh (u1.extBut ms₁.extBut D.i1z) (w1.extBut ms₁.extBut D.l1z) gx fun m₂ e ms₂ he => ?_)
    obtain ⟨oe, goe, gce⟩ := he
    have gz₂ : IsZip m₂ zo ti tu .ellipsis := ms₂ _ _ D.i1z.symm gz₁
    have gez : e ≠ zo := fun x => by subst x; rw [gz₂] at goe; cases goe; simp at gce
    refine wpAny_setField_rec gz₂ (by simp) fun m₃ _ ms₃ => gE m₃ e (fun c o c1 _ c3 _ x => ms₃.extBut _ _ c1 (ms₂ _ _ c3 (ms₁.extBut _ _ c1 x))) ⟨oe, ms₃.extBut _ _ gez goe, gce⟩
  | some x =>
    have gy : bs'[n2]? = none := by rcases gend with h | h; rw [gx] at h; cases h; exact h
    refine wpAny_bind (RZ.nextOf_tuple_item (u1.extBut ms₁.extBut D.i1z) (w1.extBut ms₁.extBut D.l1z) gx fun m₂ u1₂ ms₂ => wpAny_pure ?_)
    have gtu₂ : IsPair m₂ tu a b := ms₂.extBut _ _ D.TOi1 (ms₁.extBut _ _ D.TOz gtu)
    refine wpAny_bind (wpAny_seqItems gtu₂ rfl ?_)
    refine wpAny_bind (wpAny_updateSeq_pair gtu₂ fun m₃ gtu₃ ms₃ => ?_)
    refine wpAny_bind (wpAny_letGo (wpAny_pure ?_))
    refine wpAny_bind (wpAny_bind (wpAny_onRaise ?_))
    show wpAny _ _ (Builtin.SmallTypes.nextOf (.ref j2) >>= _) _ _ _
    refine wpAny_bind (wpAny_nextOf_list_end gh (((u2.extBut ms₁.extBut D.i2z).extBut ms₂.extBut D.i12.symm).extBut ms₃.extBut D.TOi2.symm)
      (((w2.extBut ms₁.extBut D.l2z).extBut ms₂.extBut D.l2i1).extBut ms₃.extBut D.l2TO) gy fun m₄ e ms₄ he => ?_)
    obtain ⟨oe, goe, gce⟩ := he
    have gz₄ : IsZip m₄ zo ti tu .ellipsis := ms₄ _ _ D.i2z.symm (ms₃.extBut _ _ D.TOz.symm (ms₂.extBut _ _ D.i1z.symm gz₁))
    have gez : e ≠ zo := fun x => by subst x; rw [gz₄] at goe; cases goe; simp at gce
    refine wpAny_setField_rec gz₄ (by simp) fun m₅ _ ms₅ => gE m₅ e (fun c o c1 c2 c3 c4 x => ms₅.extBut _ _ c1 (ms₄ _ _ c4 (ms₃.extBut _ _ c2 (ms₂.extBut _ _ c3 (ms₁.extBut _ _ c1 x))))) ⟨oe, ms₅.extBut _ _ gez goe, gce⟩

theorem pyNext_zipX_item {zo ti tu j1 j2 q1 q2 : Addr} {n1 n2 : Nat} {as' bs' : Array Value} {x y a b : Value} {Q : Option Value → Shared → Prop} (D : ZipApart zo ti tu j1 j2 q1 q2)
    (gz : IsZip s.heap zo ti tu .none) (gti : IsPair s.heap ti (.ref j1) (.ref j2)) (gtu : IsPair s.heap tu a b)
    (u1 : s.heap.IsTupleIter j1 q1 n1) (u2 : s.heap.IsListIter j2 q2 n2) (w1 : s.heap.IsTuple q1 as') (w2 : s.heap.IsList q2 bs') (gx : as'[n1]? = some x) (gy : bs'[n2]? = some y)
    (gQ : ∀ h', IsZip h' zo ti tu (rawInt s.heap.objs.size) → IsPair h' tu x y → h'.IsTupleIter j1 q1 (n1 + 1) → h'.IsListIter j2 q2 (n2 + 1) → IsPair h' s.heap.objs.size x y → h'.objs.size = s.heap.objs.size + 1 →
      (∀ c o, c ≠ zo → c ≠ tu → c ≠ j1 → c ≠ j2 → s.heap.get? c = some o → h'.get? c = some o) → Q (some (.ref s.heap.objs.size)) { s with heap := h' }) :
    wpAny (model prog w) A (pyNext (.ref zo)) Q E s := by
  have gT : s.TypeIs (.ref zo) "zip" := ⟨_, gz, rfl⟩
  unfold pyNext
  exact wpAny_bind (wpAny_attempt (wpAny_callSpecial?_slot (name := Str.ofString "__next__") gT F.slot_zip_next
    (wpAny_call_entry F.slot_zip_next gT F.entry_zip_next
      (zipX_next_item D gz gti gtu u1 u2 w1 w2 gx gy fun h' a1 a2 a3 a4 a5 a6 a7 => wpAny_pure (gQ h' a1 a2 a3 a4 a5 a6 a7)) (F.args_zip_next_1 _))))

theorem pyNext_zipX_end {zo ti tu j1 j2 q1 q2 : Addr} {n1 n2 : Nat} {as' bs' : Array Value} {a b : Value} {Q : Option Value → Shared → Prop} (gh : A.handled = none) (D : ZipApart zo ti tu j1 j2 q1 q2)
    (gz : IsZip s.heap zo ti tu .none) (gti : IsPair s.heap ti (.ref j1) (.ref j2)) (gtu : IsPair s.heap tu a b)
    (u1 : s.heap.IsTupleIter j1 q1 n1) (u2 : s.heap.IsListIter j2 q2 n2) (w1 : s.heap.IsTuple q1 as') (w2 : s.heap.IsList q2 bs') (gend : as'[n1]? = none ∨ bs'[n2]? = none)
    (gQ : ∀ h', (∀ c o, c ≠ zo → c ≠ tu → c ≠ j1 → c ≠ j2 → s.heap.get? c = some o → h'.get? c = some o) → Q none { s with heap := h' }) : wpAny (model prog w) A (pyNext (.ref zo)) Q E s := by
  have gT : s.TypeIs (.ref zo) "zip" := ⟨_, gz, rfl⟩
  unfold pyNext
  refine wpAny_bind (wpAny_attempt (wpAny_callSpecial?_slot (name := Str.ofString "__next__") gT F.slot_zip_next
    (wpAny_call_entry F.slot_zip_next gT F.entry_zip_next (zipX_next_end gh D gz gti gtu u1 u2 w1 w2 gend fun h' e gk he => ?_) (F.args_zip_next_1 _))))
  obtain ⟨o, ho, hc⟩ := he
  refine wpAny_bind (wpAny_isInstance (T := "StopIteration") (b := true) ⟨o, ho, hc⟩ isSubtype_stop ?_)
  exact wpAny_pure (gQ _ gk)
end

abbrev zipXH1 (h : Heap) (q1 : Addr) : Heap := h.push { cls := .type "tuple_iterator", data := .fields #[.ref q1, .int 0 0] }
abbrev zipXH2 (h : Heap) (q1 q2 : Addr) : Heap := (zipXH1 h q1).push { cls := .type "list_iterator", data := .fields #[.ref q2, .int 0 0] }
abbrev zipXH3 (h : Heap) (q1 q2 : Addr) : Heap := (zipXH2 h q1 q2).push { cls := .type "tuple", data := .seq #[.ref h.objs.size, .ref (zipXH1 h q1).objs.size] }
abbrev zipXH4 (h : Heap) (q1 q2 : Addr) : Heap := (zipXH3 h q1 q2).push { cls := .type "tuple", data := .seq #[.none, .none] }
abbrev zipXH5 (h : Heap) (q1 q2 : Addr) : Heap := (zipXH4 h q1 q2).push { cls := .type "zip", data := .fields #[.none, .bool false, .bool false, .ref (zipXH2 h q1 q2).objs.size, .ref (zipXH3 h q1 q2).objs.size] }

theorem meets_zipX_new (q1 q2 : Addr) (as' bs' : Array Value) :
    Meets (Builtin.«zip.__new__» ⟨[.type "zip", .ref q1, .ref q2], []⟩) (fun _ R s => s.heap.IsTuple q1 as' ∧ s.heap.IsList q2 bs' ∧
      R (.ok (.ret (.ref (zipXH4 s.heap q1 q2).objs.size))) { s with heap := zipXH5 s.heap q1 q2 }) :=
  .of_wp fun prog w A R s h => by
    obtain ⟨hp, g, d, tk, os⟩ := s; obtain ⟨w1, w2, h⟩ := h
    have gsub := sub_zip
    have gL1 : Heap.IsTuple (Shared.heap ⟨hp, g, d, tk, os⟩) q1 as' := w1
    have gL2 : Heap.IsList (Shared.heap ⟨hp.push { cls := .type "tuple_iterator", data := .fields #[.ref q1, .int 0 0] }, g, d, tk, os⟩) q2 bs' := Heap.IsList.push w2 _
    wp_walk using wpAny_pyIter_tuple gL1, wpAny_pyIter_list gL2
    exact ⟨_, rfl, h⟩

section
open PySem.Sem (wp)
open Kz
variable {w : World} {prog : Program} {A : Around} {s : Shared} {E : Value → Shared → Prop}

theorem call_zipX {q1 q2 : Addr} {as' bs' : Array Value} {Q : Value → Shared → Prop} (w1 : s.heap.IsTuple q1 as') (w2 : s.heap.IsList q2 bs')
    (h : ∀ h', IsZip h' (s.heap.objs.size + 4) (s.heap.objs.size + 2) (s.heap.objs.size + 3) .none → IsPair h' (s.heap.objs.size + 2) (.ref s.heap.objs.size) (.ref (s.heap.objs.size + 1)) →
      IsPair h' (s.heap.objs.size + 3) .none .none → h'.IsTupleIter s.heap.objs.size q1 0 → h'.IsListIter (s.heap.objs.size + 1) q2 0 → h'.objs.size = s.heap.objs.size + 5 →
      (∀ c o, s.heap.get? c = some o → h'.get? c = some o) → Q (.ref (s.heap.objs.size + 4)) { s with heap := h' }) :
    wpAny (model prog w) A (call (.type "zip") [.ref q1, .ref q2]) Q E s := by
  refine callType_new F.called_zip (by decide) (F.typeCall_zip_2 _ _) (F.newCall_zip_2 _ _) (fun obj => F.args_object_init_3 obj _ _) F.entry_zip_new
    (meets_zipX_new q1 q2 as' bs') ⟨w1, w2, ?_⟩
  have z1 : (zipXH1 s.heap q1).objs.size = s.heap.objs.size + 1 := Heap.size_push ..
  have z2 : (zipXH2 s.heap q1 q2).objs.size = s.heap.objs.size + 2 := by rw [Heap.size_push, z1]
  have z3 : (zipXH3 s.heap q1 q2).objs.size = s.heap.objs.size + 3 := by rw [Heap.size_push, z2]
  have z4 : (zipXH4 s.heap q1 q2).objs.size = s.heap.objs.size + 4 := by rw [Heap.size_push, z3]
  have z5 : (zipXH5 s.heap q1 q2).objs.size = s.heap.objs.size + 5 := by rw [Heap.size_push, z4]
  have g5 : (zipXH5 s.heap q1 q2).get? (zipXH4 s.heap q1 q2).objs.size = some _ := Heap.get?_push_size _ rfl
  have g4 : (zipXH5 s.heap q1 q2).get? (zipXH3 s.heap q1 q2).objs.size = some _ := Heap.get?_push_of_some _ (Heap.get?_push_size _ rfl)
  have g3 : (zipXH5 s.heap q1 q2).get? (zipXH2 s.heap q1 q2).objs.size = some _ := Heap.get?_push_of_some _ (Heap.get?_push_of_some _ (Heap.get?_push_size _ rfl))
  have g2 : (zipXH5 s.heap q1 q2).get? (zipXH1 s.heap q1).objs.size = some _ := Heap.get?_push_of_some _ (Heap.get?_push_of_some _ (Heap.get?_push_of_some _ (Heap.get?_push_size _ rfl)))
  have g1 : (zipXH5 s.heap q1 q2).get? s.heap.objs.size = some _ := Heap.get?_push_of_some _ (Heap.get?_push_of_some _ (Heap.get?_push_of_some _ (Heap.get?_push_of_some _ (Heap.get?_push_size _ rfl))))
  show _ ∧ _
  rw [z2, z3, z4] at g5
  rw [z1, z2] at g3
  rw [z3] at g4
  rw [z1] at g2
  rw [z4]
  exact ⟨⟨_, g5, rfl⟩, h _ g5 g3 g4 ⟨_, g1, rfl, rfl⟩ ⟨_, g2, rfl, rfl⟩ z5 fun c o x =>
    Heap.get?_push_of_some _ (Heap.get?_push_of_some _ (Heap.get?_push_of_some _ (Heap.get?_push_of_some _ (Heap.get?_push_of_some _ x))))⟩
end
/-- the tuples at a and b as they stand at each turn, the items in neu pairs -/
def ItzX (K : PySem.W.Frag) (a b : Addr) : It :=
  ⟨fun i H => ∃ (as' bs' : List V) (x y : V), SqT K H a as' ∧ SqL K H b bs' ∧ as'[i]? = some x ∧ bs'[i]? = some y,
    fun i H v H' => ∃ T x y, v = .ref T ∧ H T = none ∧ H' = upd H T (.tup [x, y]) ∧ (∀ as', SqT K H a as' → as'[i]? = some x) ∧ ∀ bs', SqL K H b bs' → bs'[i]? = some y,
    fun i H => ∃ as' bs' : List V, SqT K H a as' ∧ SqL K H b bs' ∧ (as'.length ≤ i ∨ bs'.length ≤ i)⟩
theorem turn_zipX {P : Program} {w : World} {K : PySem.W.Frag} {elts : List Expr} {kk : Nat} {tpos : Pos} {a b zo ti tu j1 j2 : Addr} (D : ZipApart zo ti tu j1 j2 a b) :
    Turn P w K (.Tuple elts kk tpos) (ItzX K a b) [zo, ti, tu, j1, j2] zo (fun i h => IsZip h zo ti tu .none ∧ IsPair h ti (.ref j1) (.ref j2) ∧ (∃ x y, IsPair h tu x y) ∧ h.IsTupleIter j1 a i ∧ h.IsListIter j2 b i) where
  mem := by simp
  obj := fun i h stt c hc => by
    obtain ⟨gz, gti, ⟨x, y, gtu⟩, ⟨o1, e1, _, d1⟩, ⟨o2, e2, _, d2⟩⟩ := stt
    have e' : c = zo ∨ c = ti ∨ c = tu ∨ c = j1 ∨ c = j2 := by simpa using hc
    rcases e' with q | q | q | q | q
    · rw [q]; exact ⟨_, gz, fun v q => nomatch q⟩
    · rw [q]; exact ⟨_, gti, fun v q => nomatch q⟩
    · rw [q]; exact ⟨_, gtu, fun v q => nomatch q⟩
    · rw [q]; exact ⟨o1, e1, fun v q => by rw [d1] at q; cases q⟩
    · rw [q]; exact ⟨o2, e2, fun v q => by rw [d2] at q; cases q⟩
  keep := fun i h h' stt k => by
    obtain ⟨gz, gti, ⟨x, y, gtu⟩, u1, u2⟩ := stt
    exact ⟨k zo (by simp) _ gz, k ti (by simp) _ gti, ⟨x, y, k tu (by simp) _ gtu⟩, u1.at fun o q => k j1 (by simp) o q, u2.at fun o q => k j2 (by simp) o q⟩
  item := by
    intro X hP hw hK hc i pins s σ H E I gf stt gg
    subst hP hw hK
    obtain ⟨gz, gti, ⟨x0, y0, gtu⟩, u1, u2⟩ := stt
    obtain ⟨as', bs', x, y, gqx, gqy, gx, gy⟩ := gg
    obtain ⟨vs1, rv1, p, _⟩ := I.tuple gqx
    obtain ⟨vs2, rv2, p2, _⟩ := I.list gqy
    obtain ⟨u, hu1, ru1⟩ := rv1.get gx
    obtain ⟨y2, hu2, ru2⟩ := rv2.get gy
    have gzl : zo < s.heap.objs.size := Heap.lt_size gz
    refine pyNext_zipX_item D gz gti gtu u1 u2 p p2.isList (x := u) (y := y2) (by simpa using hu1) (by simpa using hu2) fun h' z' TO' h1' h2' gT gsz gk => ?_
    refine ⟨_, rfl, wpAny_letOwnedTupleGo_zip (s := { s with heap := h' }) z' fun h'' z'' sb => ?_⟩
    have gT2 : h''.get? s.heap.objs.size = some { cls := .type "tuple", data := .seq #[u, y2] } := (sb.2 _ (Nat.ne_of_gt gzl)).trans gT
    have neu : ObjOk X.prog X.w (upd H s.heap.objs.size (.tup [x, y])) h'' s.heap.objs.size (.tup [x, y]) :=
      ⟨by show 2 ≤ sizeLine; decide, [u, y2], .cons ru1 (.cons ru2 .nil), ⟨_, gT2, rfl, _, rfl⟩⟩
    have I1 : Inv X pins σ (upd H s.heap.objs.size (.tup [x, y])) { s with heap := h'' } :=
      I.turnedNew (t' := s.toks) (ch := [zo, ti, tu, j1, j2]) (fun c o hb q => (sb.2 c (fun q' => hb (by simp [q']))).trans (gk c o (fun q' => hb (by simp [q'])) (fun q' => hb (by simp [q'])) (fun q' => hb (by simp [q'])) (fun q' => hb (by simp [q'])) q)) gf (Nat.le_refl _) neu
    refine ⟨.ref s.heap.objs.size, _, I1, rfl, ⟨_, x, y, rfl, I.hok.fresh (Nat.le_refl _), rfl, fun l hl => by rw [I.tuple_inj hl gqx]; exact gx, fun l hl => by rw [I.list_inj hl gqy]; exact gy⟩, ⟨z'', ?_, ⟨u, y2, ?_⟩, ?_, ?_⟩, fun c gcm => ?_⟩
    · exact (sb.2 _ D.TIz).trans (gk _ _ D.TIz D.TITO D.TIi1 D.TIi2 gti)
    · exact (sb.2 _ D.TOz).trans TO'
    · exact h1'.at fun o q => (sb.2 _ D.i1z).trans q
    · exact h2'.at fun o q => (sb.2 _ D.i2z).trans q
    · have glt : c < s.heap.objs.size := by
        have e' : c = zo ∨ c = ti ∨ c = tu ∨ c = j1 ∨ c = j2 := by simpa using gcm
        rcases e' with q | q | q | q | q
        · rw [q]; exact gzl
        · rw [q]; exact Heap.lt_size gti
        · rw [q]; exact Heap.lt_size gtu
        · rw [q]; obtain ⟨_, e1, _⟩ := u1; exact Heap.lt_size e1
        · rw [q]; obtain ⟨_, e2, _⟩ := u2; exact Heap.lt_size e2
      rw [upd_ne (Nat.ne_of_lt glt)]
      exact (gf c gcm).1
  done := by
    intro X hP hw hK hc i pins s σ H E I gf stt gg
    subst hP hw hK
    obtain ⟨gz, gti, ⟨x0, y0, gtu⟩, u1, u2⟩ := stt
    obtain ⟨as', bs', gqx, gqy, gend⟩ := gg
    obtain ⟨vs1, rv1, p, _⟩ := I.tuple gqx
    obtain ⟨vs2, rv2, p2, _⟩ := I.list gqy
    have q1 := rv1.length
    have q2 := rv2.length
    have he : vs1.toArray[i]? = none ∨ vs2.toArray[i]? = none := by
      rcases gend with q | q
      · exact .inl (by simp; omega)
      · exact .inr (by simp; omega)
    exact pyNext_zipX_end (I.ok.hd hc) D gz gti gtu u1 u2 p p2.isList he fun h' gk => ⟨rfl, I.turnedL (t' := s.toks) (ch := [zo, ti, tu, j1, j2]) (fun c o hb q =>
      gk c o (fun q' => hb (by simp [q'])) (fun q' => hb (by simp [q'])) (fun q' => hb (by simp [q'])) (fun q' => hb (by simp [q'])) q) gf⟩
  self := fun A i s Q E stt h => wpAny_pyIter_zip stt.1 h


def iZipX (K : PySem.W.Frag) (ta : TA) : TI := fun σ H R => ta σ H fun vs H1 => ∃ (la lb : Addr) (as' bs' : List V), vs = [.ref la, .ref lb] ∧ SqT K H1 la as' ∧ SqL K H1 lb bs' ∧ R (ItzX K la lb) H1
theorem pi_zipX {X : Cx} {e e2 : Expr} {ta : TA} {p pos tpos : Pos} {elts : List Expr} {kk : Nat} (g0 : Gl X "zip") (m0 : X.mg "zip" = none) (a0 : PA X [e, e2] ta)
    (s0 : starEach [e, e2] X.env = (false, eval e X.env) :: starEach [e2] X.env := by rfl) (l0 : (backTo pos (starEach [e2] X.env)).any (·.1) = false := by rfl) :
    PI X (.Tuple elts kk tpos) (.Call (.Name "zip" p) [e, e2] [] pos) (iZipX X.K ta) := by
  refine ⟨fun pins s σ H R I h => ?_⟩
  refine Call_ (ld_blt I g0 m0 PyProof.Rows.boot_zip (PyProof.Rows.callWith_type1 (thn (a0.run pos pins s σ H _ I h) fun us s1 ⟨vs, H1, I1, r1, la, lb, as', bs', e1, c1, c2, q⟩ => ?_) s0 l0))
  subst e1
  obtain ⟨x1, y1, rfl, rx, ry⟩ : ∃ x1 y1, us = [x1, y1] ∧ RelV (.ref la) x1 ∧ RelV (.ref lb) y1 := by
    cases r1 with
    | cons r rr =>
      cases rr with
      | cons r' rr =>
        cases rr
        exact ⟨_, _, rfl, r, r'⟩
  cases rx
  cases ry
  obtain ⟨vs1, rv1, p1, _⟩ := I1.tuple c1
  obtain ⟨vs2, rv2, p2, _⟩ := I1.list c2
  obtain ⟨ob2, ho2, _⟩ := id p1
  have five : ∀ c, c ∈ [s1.heap.objs.size + 4, s1.heap.objs.size + 2, s1.heap.objs.size + 3, s1.heap.objs.size, s1.heap.objs.size + 1] → FpOk X pins H1 c := fun c hc => by
    have hle : s1.heap.objs.size ≤ c := by
      simp only [List.mem_cons, List.not_mem_nil, or_false] at hc
      omega
    exact I1.fpOk hle (I1.hok.fresh hle)
  refine call_zipX (show s1.heap.IsTuple la vs1.toArray from p1) (show s1.heap.IsList lb vs2.toArray from p2.isList) fun h' gz gti gtu u1 u2 gsz gk => wpAny_pyIter_zip gz ?_
  have I2 : Inv X pins σ H1 { s1 with heap := h' } := I1.kept (t' := s1.toks) gk
  exact ⟨_, _, _, _, H1, rfl, I2, turn_zipX (PySem.W.ktu_apart s1.heap.objs.size la lb (Heap.lt_size ho2) p2.lt), ⟨gz, gti, ⟨_, _, gtu⟩, u1, u2⟩, five, q⟩
section
variable {X : Cx} {w : World} {W : Wd} {Δ : DEnv}
theorem pi_zipXK {e e2 : Expr} {ta : TA} {p pos tpos : Pos} {elts : List Expr} {kk : Nat} (eK : X.K = K) (g0 : Gl X "zip") (m0 : X.mg "zip" = none) (a0 : PA X [e, e2] ta)
    (s0 : starEach [e, e2] X.env = (false, eval e X.env) :: starEach [e2] X.env := by rfl) (l0 : (backTo pos (starEach [e2] X.env)).any (·.1) = false := by rfl) :
    PI X (.Tuple elts kk tpos) (.Call (.Name "zip" p) [e, e2] [] pos) (iZipX K ta) := by
  subst eK
  exact pi_zipX g0 m0 a0 s0 l0
theorem yl_zipX {la lb : Addr} {xs ys : List V} {ds es : List PyData} {V1 : Hp} (ha : SqT K V1 la xs) (hb : SqL K V1 lb ys) (hx : Dqs K V1 xs ds) (hy : Dqs K V1 ys es) : Yl K V1 (ItzX K la lb) (zipD ds es) := fun W' H2 x iv => by
  have a2 : SqT K H2 la xs := ex_t Wd.view_le (ex_t x ha)
  have b2 : SqL K H2 lb ys := ex_l Wd.view_le (ex_l x hb)
  have x2 := hx.mono x
  have y2 := hy.mono x
  have lx := hx.length
  have ly := hy.length
  refine ⟨fun i e he => ?_, xs, ys, a2, b2, by unfold zipD; rw [List.length_map, List.length_zip]; omega⟩
  unfold zipD at he
  rw [List.getElem?_map] at he
  obtain ⟨⟨d, f⟩, hz, rfl⟩ := Option.map_eq_some_iff.mp he
  rw [List.getElem?_zip_eq_some] at hz
  obtain ⟨hd, hf⟩ := hz
  obtain ⟨v, v1, v2⟩ := x2.getd hd
  obtain ⟨u, u1, u2⟩ := y2.getd hf
  refine ⟨⟨xs, ys, v, u, a2, b2, v1, u1⟩, fun y H3 hy => ?_⟩
  obtain ⟨T, v', u', rfl, hT, rfl, f1, f2⟩ := hy
  have e1 := f1 xs a2
  have e2 := f2 ys b2
  rw [v1] at e1
  rw [u1] at e2
  cases e1
  cases e2
  exact ⟨Wd.inv_new iv hT, Wd.view_ex (Ex.new hT), Dq.newT iv hT (.cons v2 (.cons u2 .nil))⟩
theorem di_zipX {ta : TA} {PL : List DV → Prop} (h : DA K W Δ ta fun as => ∃ ds es, as = [.dat (.tuple ds), .dat (.list es)] ∧ PL (zipD ds es)) : DI K W Δ (iZipX K ta) PL := fun σ H v i R q =>
  h σ H v i _ fun xs H1 as i1 x1 p1 r1 => by
    obtain ⟨ds, es, rfl, k⟩ := p1
    obtain ⟨x, y, rfl, rx, ry⟩ := reps2 r1
    cases rx with
    | @tup a vs _ ha hv =>
      cases ry with
      | @lst b us _ hb hu => exact ⟨a, b, vs, us, rfl, ex_t Wd.view_le ha, SqL.of (Wd.view_le _ _ hb), q _ _ _ i1 x1 k (yl_zipX ha (SqL.of hb) hv hu)⟩
end

-- needs:
/-- a, b, c = something, a new list, something -/
theorem ds_par3ENE {W : Wd} {Δ : DEnv} {nx bk ct : Wd → DEnv → Prop} {rt : Wd → DV → Prop} {te tb tc : TE} {i j l : Nat} (h : DE K W Δ te fun a => DN K W Δ tb fun ds => ∀ p, W.hid p = false → DE K (W.hide p (knL K ds)) Δ tc fun c => nx (W.hide p (knL K ds)) (((Δ.set i (some a)).set j (some (.raw (.ref p)))).set l (some c))) :
    DS K W Δ (tPar3 i j l (tCons te (tCons tb (tCons tc tNil)))) nx rt bk ct := fun σ H D v iv cn =>
  h σ H v iv _ fun a H0 ea i0 x0 p0 r0 => p0 σ H0 (v.mono x0) i0 _ fun ds p H1 vs i1 x1 hp hv k => by
    obtain ⟨n1, n2⟩ := Wd.hide_new (φ := knL K ds) (o := .lst vs) i1 hp ⟨_, rfl, hv⟩
    refine k p (Wd.hid_none i1 hp) σ (upd H1 p (.lst vs)) (by rw [n2]; exact v.mono (x0.trans x1)) n1 _ fun y H2 e i2 x2 p2 r2 => ?_
    have x3 : Ex (W.view H0) ((W.hide p (knL K ds)).view H2) := by
      rw [n2] at x2
      exact x1.trans x2
    refine ⟨a, .ref p, y, rfl, ?_⟩
    exact cn.nx _ _ _ _ p2 i2 (x0.trans x3) ((((v.mono (x0.trans x3)).set (r0.mono x3)).set (e := .raw (.ref p)) rfl).set r2)

def risesA (n : Int) (r : List Int) : List Arc3 := (allA5 n).filter fun p => ((idxs r false).map (recK r)).contains p
theorem rises_rows : ∀ n : Nat, n < 5 → ((rowsAll n).map (risesA n)).isPerm (lotsF (allA5 n)) = true := by decide +kernel
theorem lots_sub : ∀ n : Nat, n < 6 → (lotsF (allA5 n)).all (fun S => (List.range (S.length + 1)).all fun i => (lotsF (allA5 n)).contains (S.take i ++ S.drop (i + 1))) = true := by decide +kernel
theorem lots_one : ∀ n : Nat, n < 6 → (allA5 n).all (fun p => (lotsF (allA5 n)).contains [p]) = true := by decide +kernel
def cntK (Ls : List (List Arc3)) (k : Nat) : Nat := Ls.countP fun S => S.length == k
theorem lots_sizes : ∀ n : Nat, n < 6 → 1 ≤ n → (((List.range (max 1 n)).map (cntK (lotsF (allA5 n)))).reverse = (List.range (max 1 n)).map (cntK (lotsF (allA5 n))) ∧ (lotsF (allA5 n)).all (fun S => decide (S.length < n)) = true ∧ (2 ≤ n → cntK (lotsF (allA5 n)) 1 = (allA5 n).length) ∧ (lotsF (allA5 n)).length = [1, 1, 2, 6, 24, 120].getD n 0) := by decide +kernel
theorem rows_shown : ∀ n : Nat, n < 6 → (rowsAll n).all (fun r => PyData.strOk (rowD r).shown) = true := by decide +kernel

theorem map_back {α β : Type} {f : α → β} : ∀ {M : List β} {L : List α}, M.Perm (L.map f) → ∃ N : List α, N.Perm L ∧ M = N.map f := by
  intro M
  induction M with
  | nil =>
    intro L h
    have := h.length_eq
    rw [List.length_map] at this
    have e : L = [] := List.eq_nil_of_length_eq_zero this.symm
    exact ⟨[], by rw [e], rfl⟩
  | cons y M ih =>
    intro L h
    obtain ⟨x, hx, rfl⟩ := List.mem_map.mp (h.mem_iff.mp (List.mem_cons_self ..))
    obtain ⟨A, B, rfl⟩ := List.append_of_mem hx
    have p1 : (A ++ x :: B).Perm (x :: (A ++ B)) := List.perm_middle
    have h2 := h.trans (p1.map f)
    rw [List.map_cons] at h2
    obtain ⟨N, n1, n2⟩ := ih ((List.perm_cons _).mp h2)
    exact ⟨x :: N, (n1.cons x).trans p1.symm, by rw [n2, List.map_cons]⟩
theorem inv_of {R : List (List Int)} {F : List (List Arc3)} {g : List Int → List Arc3} (hp : (R.map g).Perm F) (hF : F.Nodup) : ∃ f : List Arc3 → List Int, (∀ S ∈ F, f S ∈ R ∧ g (f S) = S) ∧ (F.map f).Perm R := by
  have hnd : (R.map g).Nodup := hp.nodup_iff.mpr hF
  have inj : ∀ a ∈ R, ∀ b ∈ R, g a = g b → a = b := by
    intro a ha b hb e
    obtain ⟨i, hi⟩ := List.getElem?_of_mem ha
    obtain ⟨j, hj⟩ := List.getElem?_of_mem hb
    have h1 : (R.map g)[i]? = some (g a) := by rw [List.getElem?_map, hi]; rfl
    have h2 : (R.map g)[j]? = some (g a) := by rw [List.getElem?_map, hj, e]; rfl
    have hp := List.pairwise_iff_getElem.mp hnd
    obtain ⟨l1, e1⟩ := List.getElem?_eq_some_iff.mp h1
    obtain ⟨l2, e2⟩ := List.getElem?_eq_some_iff.mp h2
    have : i = j := by
      rcases Nat.lt_trichotomy i j with c | c | c
      · exact (hp i j l1 l2 c (e1.trans e2.symm)).elim
      · exact c
      · exact (hp j i l2 l1 c (e2.trans e1.symm)).elim
    rw [this, hj] at hi
    exact (Option.some.inj hi).symm
  have key : ∀ S ∈ F, ((R.find? fun r => g r == S).getD []) ∈ R ∧ g ((R.find? fun r => g r == S).getD []) = S := by
    intro S hS
    obtain ⟨r, hr, e⟩ := List.mem_map.mp (hp.mem_iff.mpr hS)
    cases c : R.find? fun r => g r == S with
    | none =>
      have := List.find?_eq_none.mp c r hr
      rw [e] at this
      simp at this
    | some t =>
      exact ⟨List.mem_of_find?_eq_some c, by have := List.find?_some c; simpa using this⟩
  refine ⟨fun S => (R.find? fun r => g r == S).getD [], key, ?_⟩
  refine ((hp.symm.map _).trans ?_)
  rw [List.map_map]
  have : R.map ((fun S => (R.find? fun r => g r == S).getD []) ∘ g) = R.map id := by
    refine List.map_congr_left fun r hr => ?_
    have hS : g r ∈ F := hp.mem_iff.mp (List.mem_map.mpr ⟨r, hr, rfl⟩)
    obtain ⟨k1, k2⟩ := key (g r) hS
    exact inj _ k1 _ hr k2
  rw [this, List.map_id]
theorem rises_told : ∀ n : Nat, n < 5 → (rowsAll n).all (fun r => (risesA n r).isPerm ((idxs r false).map (recK r))) = true := by decide +kernel
/-- the lots, in any order, with their rows -/
structure Lots14 (n : Nat) (Ls : List (List Arc3)) (f : List Arc3 → List Int) : Prop where
  perm : Ls.Perm (lotsF (allA5 n))
  row : ∀ S ∈ Ls, RowOk n (f S) ∧ arcsD (f S) true = S.map arcT
  lot : ∀ S ∈ Ls, LotOk n S
  short : ∀ S ∈ Ls, S.length < n
  rows : (Ls.map f).Perm (rowsAll n)
theorem lots14 {n : Nat} (h1 : 1 ≤ n) (h5 : n ≤ 5) : ∃ Ls f, Lots14 n Ls f ∧ ((lotsF (allA5 n)).map lotD).mergeSort (PySem.W.dataLe false id) = Ls.map lotD := by
  have hn : n < 6 := by omega
  obtain ⟨Ls, p1, p2⟩ := map_back (List.mergeSort_perm ((lotsF (allA5 n)).map lotD) (PySem.W.dataLe false id))
  obtain ⟨f, k1, k2⟩ := inv_of (List.isPerm_iff.mp (lots5_rows n hn)) (lots5_nd n hn)
  have kr : ∀ S ∈ Ls, RowOk n (f S) ∧ arcsD (f S) true = S.map arcT := fun S hS => by
    obtain ⟨a, b⟩ := k1 S (p1.mem_iff.mp hS)
    have ho := (rowsAll_iff (n := (n : Int)) (by omega) (by omega)).mp a
    exact ⟨ho, by rw [falls_told hn ho, b]⟩
  refine ⟨Ls, f, ⟨p1, kr, fun S hS => ?_, fun S hS => ?_, (p1.map f).trans k2⟩, p2⟩
  · obtain ⟨a, b⟩ := kr S hS
    obtain ⟨L, e, hL, _⟩ := lot_falls a
    rw [b] at e
    rw [map_arcT_inj e]
    exact hL
  · have := (lots_sizes n hn h1).2.1
    rw [List.all_eq_true] at this
    exact of_decide_eq_true (this S (p1.mem_iff.mp hS))
theorem rows14 {n : Nat} (h5 : n < 5) {Ls : List (List Arc3)} {f : List Arc3 → List Int} (h : Lots14 n Ls f) : ∃ g : List Arc3 → List Int, (∀ S ∈ Ls, RowOk n (g S) ∧ S.Perm ((idxs (g S) false).map (recOf (g S)))) ∧ (Ls.map g).Perm (rowsAll n) := by
  obtain ⟨g, k1, k2⟩ := inv_of (List.isPerm_iff.mp (rises_rows n h5)) (lots5_nd n (by omega))
  refine ⟨g, fun S hS => ?_, (h.perm.map g).trans k2⟩
  obtain ⟨a, b⟩ := k1 S (h.perm.mem_iff.mp hS)
  have ho := (rowsAll_iff (n := (n : Int)) (by omega) (by omega)).mp a
  refine ⟨ho, ?_⟩
  have := rises_told n h5
  rw [List.all_eq_true] at this
  have := List.isPerm_iff.mp (this _ a)
  rw [b] at this
  refine this.trans (List.Perm.of_eq ?_)
  exact List.map_congr_left fun i _ => recK_is ho i
/-- texts of rows, sorted -/
def txtD (r : List Int) : PyData := .str (rowD r).shown
theorem txt_alike (L : List (List Int)) : PySem.W.AllAlike (L.map txtD) := fun d hd d' hd' => by
  obtain ⟨_, _, rfl⟩ := List.mem_map.mp hd
  obtain ⟨_, _, rfl⟩ := List.mem_map.mp hd'
  rfl
theorem txt_sortable (L : List (List Int)) : PySem.W.Sortable (L.map txtD) := .inr fun d hd => by
  obtain ⟨_, _, rfl⟩ := List.mem_map.mp hd
  exact ⟨nofun, nofun⟩
theorem txt_dep (L : List (List Int)) : ∀ d ∈ L.map txtD, d.depth ≤ 60 := fun d hd => by
  obtain ⟨_, _, rfl⟩ := List.mem_map.mp hd
  exact Nat.zero_le _
theorem txt_sort {A B : List (List Int)} (h : A.Perm B) : (A.map txtD).mergeSort (PySem.W.dataLe false id) = (B.map txtD).mergeSort (PySem.W.dataLe false id) := by
  refine sort_same (h.map _) fun a ha b hb e => ?_
  obtain ⟨R, _, rfl⟩ := List.mem_map.mp ha
  obtain ⟨S, _, rfl⟩ := List.mem_map.mp hb
  have e : [(Sum.inr (rowD R).shown.cps.toList : Int ⊕ List Nat)] = [Sum.inr (rowD S).shown.cps.toList] := e
  injection e with e
  injection e with e
  unfold txtD
  congr 1
  revert e
  generalize (rowD R).shown = x
  generalize (rowD S).shown = y
  intro e
  cases x
  cases y
  congr 1
  exact Array.toList_inj.mp e
theorem txt_lay {n : Nat} (hn : n < 6) {A : List PyData} (h : A.Perm ((rowsAll n).map txtD)) : SeqAt.shaped (.list A) = true := by
  have hs := rows_shown n hn
  rw [List.all_eq_true] at hs
  have hd : ∀ d ∈ A, ∃ r ∈ rowsAll n, d = txtD r := fun d hd => by
    obtain ⟨r, hr, rfl⟩ := List.mem_map.mp (h.mem_iff.mp hd)
    exact ⟨r, hr, rfl⟩
  have h1 : PyData.canLayAll0 A = true := canLay_all fun d hd' => by
    obtain ⟨r, hr, rfl⟩ := hd d hd'
    exact hs r hr
  have h2 : PyData.depthAll A ≤ 0 := shs_dep fun d hd' => by
    obtain ⟨r, hr, rfl⟩ := hd d hd'
    exact Nat.le_refl 0
  have h3 : (PyData.list A).depth ≤ 64 := by
    simp only [PyData.depth]
    omega
  have h4 : (PyData.list A).canLay0 = true := h1
  unfold SeqAt.shaped
  rw [h4, decide_eq_true h3]
  rfl
def szD (m : Nat) (M : List (List Arc3)) : List PyData := (List.range m).map fun k => PyData.int (cntK M k : Nat)
theorem szD_len (m : Nat) (M : List (List Arc3)) : (szD m M).length = m := by
  unfold szD
  rw [List.length_map, List.length_range]
theorem szD_at {m k : Nat} (M : List (List Arc3)) (h : k < m) : (szD m M)[k]? = some (.int (cntK M k : Nat)) := by
  unfold szD
  rw [List.getElem?_map, List.getElem?_range h]
  rfl
theorem szD_0 (m : Nat) : (List.replicate m [PyData.int 0]).flatten = szD m [] := by
  unfold szD
  rw [List.flatten_replicate_singleton]
  refine List.ext_getElem? fun k => ?_
  rw [List.getElem?_replicate, List.getElem?_map]
  by_cases c : k < m
  · rw [if_pos c, List.getElem?_range c]
    rfl
  · rw [if_neg c, List.getElem?_eq_none (by rw [List.length_range]; omega)]
    rfl
theorem szD_put {m : Nat} {Ls : List (List Arc3)} {i : Nat} {S : List Arc3} (hi : Ls[i]? = some S) (hS : S.length < m) : (szD m (Ls.take i)).set S.length (.int ((cntK (Ls.take i) S.length : Nat) + 1)) = szD m (Ls.take (i + 1)) := by
  obtain ⟨l, e⟩ := List.getElem?_eq_some_iff.mp hi
  rw [List.take_succ_eq_append_getElem l, e]
  refine List.ext_getElem? fun k => ?_
  by_cases c : k < m
  · rw [List.getElem?_set, szD_len, szD_at _ c, szD_at _ c, if_pos hS]
    have : cntK (Ls.take i ++ [S]) k = cntK (Ls.take i) k + if S.length == k then 1 else 0 := by
      unfold cntK
      rw [List.countP_append]
      simp
    rw [this]
    by_cases ek : S.length = k
    · rw [if_pos ek, ek]
      simp
    · rw [if_neg ek]
      simp [ek]
  · rw [List.getElem?_eq_none (by rw [List.length_set, szD_len]; omega), List.getElem?_eq_none (by rw [szD_len]; omega)]
theorem szD_perm {m : Nat} {A B : List (List Arc3)} (h : A.Perm B) : szD m A = szD m B := by
  unfold szD cntK
  refine List.map_congr_left fun k _ => ?_
  rw [h.countP_eq]
theorem szD_rev {n : Nat} (h1 : 1 ≤ n) (h5 : n ≤ 5) : (szD n (lotsF (allA5 n))).reverse = szD n (lotsF (allA5 n)) := by
  have h := (lots_sizes n (by omega) h1).1
  rw [Nat.max_eq_right h1] at h
  unfold szD
  rw [← List.map_reverse] at h ⊢
  have e : ∀ l : List Nat, (l.map fun k => PyData.int (cntK (lotsF (allA5 n)) k : Nat)) = (l.map (cntK (lotsF (allA5 n)))).map fun k : Nat => PyData.int k := fun l => by
    rw [List.map_map]
    rfl
  rw [e, e, h]
theorem szD_shaped (m : Nat) (M : List (List Arc3)) : SeqAt.shaped (.list (szD m M)) = true := by
  have := shaped_listI ((List.range m).map fun k => ((cntK M k : Nat) : Int))
  unfold intsD at this
  rw [List.map_map] at this
  exact this

def C_law (K : PySem.W.Frag) : Con := fun W es P => ∃ a ns, es = [.raw (.ref a)] ∧ ns.length ≤ 63 ∧ W = Wd.script K a ns ∧ P (.dat (.bool true))
theorem sh_arc14 {n : Int} {p : Arc3} (ha : ArcOk n p.1 p.2.1 p.2.2) (hn : n ≤ 8) : Sh (arcT p) 2 507 := by
  have h1 := ha.lo
  have h2 := ha.lt
  have h3 := ha.hi
  have h4 := ha.len
  have s3 := sh_intsT (ns := p.2.2) fun y hy => by have := ha.mem y hy; omega
  exact sh_tup (ds := [.int p.1, .int p.2.1, .tuple (intsD p.2.2)]) (k := 1) (m := 168) fun d hd => by
    simp only [List.mem_cons, List.not_mem_nil, or_false] at hd
    rcases hd with rfl | rfl | rfl
    · exact (sh_int (by omega) 1).up (Nat.le_refl _) (by decide)
    · exact (sh_int (by omega) 1).up (Nat.le_refl _) (by decide)
    · exact s3.up (Nat.le_refl _) (by omega)
theorem sh_arcs14 {n : Int} {L : List Arc3} (h : ∀ p ∈ L, ArcOk n p.1 p.2.1 p.2.2) (hn : n ≤ 8) : Sh (lotD L) 3 (L.length * 508) := by
  have := sh_tup (ds := L.map arcT) (k := 2) (m := 507) fun d hd => by
    obtain ⟨p, hp, rfl⟩ := List.mem_map.mp hd
    exact sh_arc14 (h p hp) hn
  rw [List.length_map] at this
  exact this
theorem sh_lots14 {n : Int} {Ls : List (List Arc3)} (h : ∀ S ∈ Ls, LotOk n S ∧ S.length ≤ 5) (hn : n ≤ 8) (hz : Ls.length ≤ 120) : Sh (.tuple (Ls.map lotD)) 4 305000 := by
  have := sh_tup (ds := Ls.map lotD) (k := 3) (m := 2540) fun d hd => by
    obtain ⟨S, hS, rfl⟩ := List.mem_map.mp hd
    obtain ⟨a, b⟩ := h S hS
    exact (sh_arcs14 a.ok hn).up (Nat.le_refl _) (by omega)
  rw [List.length_map] at this
  exact this.up (Nat.le_refl _) (by omega)
theorem eqv_lots14 (S R : List Arc3) : PyData.eqv (lotD S) (lotD R) = decide (S = R) := by
  rw [Bool.eq_iff_iff, decide_eq_true_eq]
  show PyData.eqvAll (S.map arcT) (R.map arcT) = true ↔ _
  rw [eqv_arcsAll (arcT_arcs S) (arcT_arcs R)]
  exact ⟨map_arcT_inj, fun e => by rw [e]⟩
theorem any_lots14 (Ls : List (List Arc3)) (S : List Arc3) : ((Ls.map lotD).any fun z => PyData.eqv z (lotD S)) = decide (S ∈ Ls) := by
  rw [Bool.eq_iff_iff, List.any_eq_true, decide_eq_true_eq]
  constructor
  · rintro ⟨z, hz, e⟩
    obtain ⟨R, hR, rfl⟩ := List.mem_map.mp hz
    rw [eqv_lots14, decide_eq_true_eq] at e
    rw [← e]
    exact hR
  · intro h
    exact ⟨_, List.mem_map.mpr ⟨S, h, rfl⟩, by rw [eqv_lots14, decide_eq_true rfl]⟩
theorem allA_is5 {n : Nat} (hn : n < 6) : allA n = allA5 n := by
  refine asc_eq (n := n) (m := n) (allA_rule (by omega)).asc ⟨fun p hp => (allA5_mem hn).mp hp, allA5_nd hn, lots5_sorted n hn⟩ fun p => ?_
  rw [allA_mem (by omega), allA5_mem hn]
def factI : Nat → Int
  | 0 => 1
  | k + 1 => factI k * (k + 1 : Nat)
theorem fact_lots {n : Nat} (h1 : 1 ≤ n) (h5 : n ≤ 5) : factI n = (([1, 1, 2, 6, 24, 120].getD n 0 : Nat) : Int) := by
  have : n = 1 ∨ n = 2 ∨ n = 3 ∨ n = 4 ∨ n = 5 := by omega
  rcases this with rfl | rfl | rfl | rfl | rfl <;> decide
theorem zip_rows14 (f : List Arc3 → List Int) : ∀ Ls : List (List Arc3), zipD (Ls.map lotD) (Ls.map fun S => rowD (f S)) = Ls.map fun S => DV.dat (.tuple [lotD S, rowD (f S)])
  | [] => rfl
  | S :: Ls => by
    have := zip_rows14 f Ls
    unfold zipD at this ⊢
    simp only [List.map_cons, List.zip_cons_cons, this]
theorem allA5_some : ∀ n : Nat, n < 6 → 2 ≤ n → 1 ≤ (allA5 n).length := by decide +kernel
set_option maxHeartbeats 0 in
theorem ok_law (T : Tx K mg) : GOk P w K mg base 13 T.f_law T.d_law ["script"] (SpC K (C_law K)) := by
  refine gfn T.F_law sc_law (fun W es P ⟨_, _, h, _⟩ => by rw [h]; rfl) fun cdv A outer s H E hr => ⟨_, (pss_cons (ps_set (i := 1) sc_law.nd rfl (by first | exact Or.inl rfl | exact Or.inr rfl) (pe_call (ok__law_deck T) (hr.room.mono (by decide)) (by rfl) T.g__law_deck T.F__law_deck.kp T.b__law_deck .nil pass0 (pa_cons (pv 0) pa_nil)))
      (pss_cons (ps_set (i := 2) sc_law.nd rfl (by first | exact Or.inl rfl | exact Or.inr rfl) (pe_call (ok__law_pick T) (hr.room.mono (by decide)) (by rfl) T.g__law_pick T.F__law_pick.kp T.b__law_pick .nil pass0 (pa_cons (pv 1) (pa_cons (pe_lst (pa_cons pe_int (pa_cons pe_int (pa_cons pe_int (pa_cons pe_int (pa_cons pe_int (pa_cons pe_int (pa_cons pe_int (pa_cons (pe_call (ok__law_pick T) (hr.room.mono (by decide)) (by rfl) T.g__law_pick T.F__law_pick.kp T.b__law_pick .nil pass0 (pa_cons (pv 1) (pa_cons (pe_lst (pa_cons pe_int (pa_cons pe_int (pa_cons pe_int (pa_cons pe_int pa_nil))))) pa_nil))) pa_nil))))))))) pa_nil))))
      (pss_cons (ps_set (i := 3) sc_law.nd rfl (by first | exact Or.inl rfl | exact Or.inr rfl) (pe_call (ok__law_arcs_of T) (hr.room.mono (by decide)) (by rfl) T.g__law_arcs_of T.F__law_arcs_of.kp T.b__law_arcs_of .nil pass0 (pa_cons (pv 2) pa_nil)))
      (pss_cons (ps_par (i := 4) (j := 5) (by rfl) sc_law.nd rfl rfl (by decide) rfl rfl (pa_cons (pe_call (ok__law_lots T) (hr.room.mono (by decide)) (by rfl) T.g__law_lots T.F__law_lots.kp T.b__law_lots .nil pass0 (pa_cons (pv 2) (pa_cons (pv 3) pa_nil))) (pa_cons (pe_call (ok_all_lots T) (hr.room.mono (by decide)) (by rfl) T.g_all_lots T.F_all_lots.kp T.b_all_lots .nil pass0 (pa_cons (pv 2) pa_nil)) pa_nil)) (by rfl))
      (pss_cons (ps_par3 (i := 6) (j := 7) (l := 8) (by rfl) sc_law.nd rfl rfl rfl (by decide) (by decide) (by decide) rfl rfl rfl (pa_cons pe_int (pa_cons (pe_op op_mulX (pe_lst (pa_cons pe_int pa_nil)) (pe_callB (cr_max2 rfl) (by rfl) T.m_max (by decide +kernel) (pa_cons pe_int (pa_cons (pv 2) pa_nil)))) (pa_cons (pe_lc (own := [("row", 12)]) rfl sc_law.nd (pi_seqK (K := K) rfl (pe_call (ok_all_rows T) (hr.room.mono (by decide)) (by rfl) T.g_all_rows T.F_all_rows.kp T.b_all_rows .nil pass0 (pa_cons (pv 2) pa_nil))) (blkOk_by (N := N_law) (sc := defScope s_law) (by decide +kernel)) (fun _ _ _ _ _ => (pg_name (i := 12) sc_law.nd rfl (by first | exact Or.inl rfl | exact Or.inr rfl))) (fun _ _ _ _ _ => pts_nil) (fun _ _ _ _ _ => (pe_callB (cr_reprK (K := K) rfl hr.calm hr.room.units) (by rfl) T.m_repr (by decide +kernel) (pa_cons (pv 12) pa_nil)))) pa_nil))) (by rfl))
      (pss_cons (ps_for PassesOwn.never rfl (pi_range2 rfl T.m_range (pa_cons pe_int (pa_cons (pe_op (op_addK (K := K) rfl) (pv 2) pe_int) pa_nil))) (pg_name (i := 9) sc_law.nd rfl (by first | exact Or.inl rfl | exact Or.inr rfl)) (pss_one (ps_set (i := 6) sc_law.nd rfl (by first | exact Or.inl rfl | exact Or.inr rfl) (pe_op op_mulX (pv 6) (pv 9)))))
      (pss_cons (ps_if (PW.pt (pw_or (pt_cmpR (op_neK (K := K) rfl hr.room.units) (pe_callB (cr_reprK (K := K) rfl hr.calm hr.room.units) (by rfl) T.m_repr (by decide +kernel) (pa_cons (pv 5) pa_nil)) (pe_callB (cr_reprK (K := K) rfl hr.calm hr.room.units) (by rfl) T.m_repr (by decide +kernel) (pa_cons (pv 4) pa_nil)) (nomark _)) (pw_or (pt_cmpR (op_neK (K := K) rfl hr.room.units) (pe_callB (cr_lenK (K := K) rfl) (by rfl) T.m_len (by decide +kernel) (pa_cons (pv 5) pa_nil)) (pv 6) (nomark _)) (pw_or1 (pt_cmpR (op_neK (K := K) rfl hr.room.units) (pe_callB (cr_reprK (K := K) rfl hr.calm hr.room.units) (by rfl) T.m_repr (by decide +kernel) (pa_cons (pe_call (ok_all_arcs T) (hr.room.mono (by decide)) (by rfl) T.g_all_arcs T.F_all_arcs.kp T.b_all_arcs .nil pass0 (pa_cons (pv 2) pa_nil)) pa_nil)) (pe_callB (cr_reprK (K := K) rfl hr.calm hr.room.units) (by rfl) T.m_repr (by decide +kernel) (pa_cons (pv 3) pa_nil)) (nomark _)))))) (pss_one (ps_ret pe_bl)) pss_nil)
      (pss_cons (ps_if (PW.pt (pw_and (pt_cmpR op_lt (pv 2) pe_int (nomark _)) (pw_and1 (pt_cmpR (op_neK (K := K) rfl hr.room.units) (pe_callB (cr_reprK (K := K) rfl hr.calm hr.room.units) (by rfl) T.m_repr (by decide +kernel) (pa_cons (pe_callKw (ok_all_lots T) (hr.room.mono (by decide)) (by rfl) T.g_all_lots T.F_all_lots.kp (T.k_all_lots__n) pass0 (pk_cons (pv 2) pk_nil)) pa_nil)) (pe_callB (cr_reprK (K := K) rfl hr.calm hr.room.units) (by rfl) T.m_repr (by decide +kernel) (pa_cons (pv 4) pa_nil)) (nomark _))))) (pss_one (ps_ret pe_bl)) pss_nil)
      (pss_cons (ps_setLc (i := 10) (own := [("lot", 11)]) rfl sc_law.nd rfl rfl (sw_true rfl rfl rfl (by decide +kernel)) (pi_seqK (K := K) rfl (pv 5)) (blkOk_by (N := N_law) (sc := defScope s_law) (by decide +kernel)) (fun _ _ _ _ _ => (pg_name (i := 11) sc_law.nd rfl (by first | exact Or.inl rfl | exact Or.inr rfl))) (fun _ _ _ _ _ => pts_nil) (fun _ _ _ _ _ => (pe_call (ok_row_of_falls T) (hr.room.mono (by decide)) (by rfl) T.g_row_of_falls T.F_row_of_falls.kp T.b_row_of_falls .nil pass0 (pa_cons (pv 2) (pa_cons (pv 11) pa_nil)))))
      (pss_cons (ps_if (pt_cmpR (op_neK (K := K) rfl hr.room.units) (pe_callB (cr_sortedZ (K := K) (w := w) rfl rfl rfl hr.room.units) (by rfl) T.m_sorted (by decide +kernel) (pa_cons (pe_lc (own := [("row", 12)]) rfl sc_law.nd (pi_seqK (K := K) rfl (pv 10)) (blkOk_by (N := N_law) (sc := defScope s_law) (by decide +kernel)) (fun _ _ _ _ _ => (pg_name (i := 12) sc_law.nd rfl (by first | exact Or.inl rfl | exact Or.inr rfl))) (fun _ _ _ _ _ => pts_nil) (fun _ _ _ _ _ => (pe_callB (cr_reprK (K := K) rfl hr.calm hr.room.units) (by rfl) T.m_repr (by decide +kernel) (pa_cons (pv 12) pa_nil)))) pa_nil)) (pe_callB (cr_sortedZ (K := K) (w := w) rfl rfl rfl hr.room.units) (by rfl) T.m_sorted (by decide +kernel) (pa_cons (pv 8) pa_nil)) (nomark _)) (pss_one (ps_ret pe_bl)) pss_nil)
      (pss_cons (ps_if (PW.pt (pw_and (pt_cmpR op_lt (pv 2) pe_int (nomark _)) (pw_and1 (pt_cmpR (op_neK (K := K) rfl hr.room.units) (pe_callB (cr_sortedZ (K := K) (w := w) rfl rfl rfl hr.room.units) (by rfl) T.m_sorted (by decide +kernel) (pa_cons (pe_lc (own := [("lot", 11)]) rfl sc_law.nd (pi_seqK (K := K) rfl (pv 5)) (blkOk_by (N := N_law) (sc := defScope s_law) (by decide +kernel)) (fun _ _ _ _ _ => (pg_name (i := 11) sc_law.nd rfl (by first | exact Or.inl rfl | exact Or.inr rfl))) (fun _ _ _ _ _ => pts_nil) (fun _ _ _ _ _ => (pe_callB (cr_reprK (K := K) rfl hr.calm hr.room.units) (by rfl) T.m_repr (by decide +kernel) (pa_cons (pe_call (ok_row_of_rises T) hr.room (by rfl) T.g_row_of_rises T.F_row_of_rises.kp T.b_row_of_rises .nil pass0 (pa_cons (pv 2) (pa_cons (pv 11) pa_nil))) pa_nil)))) pa_nil)) (pe_callB (cr_sortedZ (K := K) (w := w) rfl rfl rfl hr.room.units) (by rfl) T.m_sorted (by decide +kernel) (pa_cons (pv 8) pa_nil)) (nomark _))))) (pss_one (ps_ret pe_bl)) pss_nil)
      (pss_cons (ps_for PassesOwn.never rfl (pi_zipXK (K := K) rfl (by rfl) T.m_zip (pa_cons (pv 5) (pa_cons (pv 10) pa_nil))) (pg_tupK (K := K) rfl (pg_tup (n := 2) rfl (pgs_cons (pg_name (i := 11) sc_law.nd rfl (by first | exact Or.inl rfl | exact Or.inr rfl)) (pgs_cons (pg_name (i := 12) sc_law.nd rfl (by first | exact Or.inl rfl | exact Or.inr rfl)) pgs_nil)))) (pss_cons (ps_asg (pe_op (op_addK (K := K) rfl) (pe_ix (ix_K (K := K) rfl) (pv 7) (pe_callB (cr_lenK (K := K) rfl) (by rfl) T.m_len (by decide +kernel) (pa_cons (pv 11) pa_nil)) (fun _ _ => rfl)) pe_int) (pg_sub (pv 7) (pe_callB (cr_lenK (K := K) rfl) (by rfl) T.m_len (by decide +kernel) (pa_cons (pv 11) pa_nil)) set_list))
      (pss_one (ps_if (PW.pt (pw_or (pt_cmpR (op_neK (K := K) rfl hr.room.units) (pe_call (ok_lot_of_falls T) (hr.room.mono (by decide)) (by rfl) T.g_lot_of_falls T.F_lot_of_falls.kp T.b_lot_of_falls .nil pass0 (pa_cons (pv 2) (pa_cons (pv 12) pa_nil))) (pv 11) (nomark _)) (pw_or1 (PW.pt (pw_and (pt_cmpR op_lt (pv 2) pe_int (nomark _)) (pw_and1 (pt_cmpR op_notBl (pe_call (ok_is_lot T) (hr.room.mono (by decide)) (by rfl) T.g_is_lot T.F_is_lot.kp T.b_is_lot .nil pass0 (pa_cons (pv 2) (pa_cons (pv 11) pa_nil))) pe_bl (nomark _)))))))) (pss_one (ps_ret pe_bl)) pss_nil))))
      (pss_cons (ps_if (pt_cmpR (op_neK (K := K) rfl hr.room.units) (pv 7) (pe_revK (K := K) rfl (pv 7)) (nomark _)) (pss_one (ps_ret pe_bl)) pss_nil)
      (pss_cons (ps_for PassesOwn.never rfl (pi_range1 rfl T.m_range (pa_cons pe_int pa_nil)) (pg_name (i := 13) sc_law.nd rfl (by first | exact Or.inl rfl | exact Or.inr rfl)) (pss_cons (ps_set (i := 11) sc_law.nd rfl (by first | exact Or.inl rfl | exact Or.inr rfl) (pe_call (ok__law_pick T) (hr.room.mono (by decide)) (by rfl) T.g__law_pick T.F__law_pick.kp T.b__law_pick .nil pass0 (pa_cons (pv 1) (pa_cons (pv 5) pa_nil))))
      (pss_cons (ps_set (i := 14) sc_law.nd rfl (by first | exact Or.inl rfl | exact Or.inr rfl) (pe_call (ok__law_draw T) (hr.room.mono (by decide)) (by rfl) T.g__law_draw T.F__law_draw.kp T.b__law_draw .nil pass0 (pa_cons (pv 1) (pa_cons (pe_op (op_addK (K := K) rfl) (pe_callB (cr_lenK (K := K) rfl) (by rfl) T.m_len (by decide +kernel) (pa_cons (pv 11) pa_nil)) pe_int) pa_nil))))
      (pss_one (ps_if (PW.pt (pw_or (pt_cmpR (op_notInZ (P := P) (w := w) (K := K) rfl rfl rfl (hu65 hr.room)) (pe_op (op_addK (K := K) rfl) (pe_slice (sl_K (K := K) rfl) (pv 11) po_none (po_some (pv 14))) (pe_slice (sl_K (K := K) rfl) (pv 11) (po_some (pe_op (op_addK (K := K) rfl) (pv 14) pe_int)) po_none)) (pv 5) (by rfl)) (pw_or1 (pt_cmpR (op_neK (K := K) rfl hr.room.units) (pe_call (ok_judge_lot T) (hr.room.mono (by decide)) (by rfl) T.g_judge_lot T.F_judge_lot.kp T.b_judge_lot .nil pass0 (pa_cons (pv 2) (pa_cons (pv 11) pa_nil))) (pe_tup (pa_cons pe_str pa_nil)) (nomark _))))) (pss_one (ps_ret pe_bl)) pss_nil)))))
      (pss_cons (ps_if (pt_cmpR op_gt (pv 2) pe_int (nomark _)) (pss_cons (ps_set (i := 15) sc_law.nd rfl (by first | exact Or.inl rfl | exact Or.inr rfl) (pe_call (ok__law_pick T) (hr.room.mono (by decide)) (by rfl) T.g__law_pick T.F__law_pick.kp T.b__law_pick .nil pass0 (pa_cons (pv 1) (pa_cons (pv 3) pa_nil))))
      (pss_one (ps_ret (pe_and (pe_cmpR (op_inZ (P := P) (w := w) (K := K) rfl rfl rfl (hu65 hr.room)) (pe_tup (pa_cons (pv 15) pa_nil)) (pv 5) (by rfl)) (pe_and (pe_cmpR (op_eqK (K := K) rfl hr.room.units) (pe_callB (cr_reprK (K := K) rfl hr.calm hr.room.units) (by rfl) T.m_repr (by decide +kernel) (pa_cons (pe_call (ok_row_of_falls T) (hr.room.mono (by decide)) (by rfl) T.g_row_of_falls T.F_row_of_falls.kp T.b_row_of_falls .nil pass0 (pa_cons (pv 2) (pa_cons (pe_tup (pa_cons (pv 15) pa_nil)) pa_nil))) pa_nil)) (pe_callB (cr_reprK (K := K) rfl hr.calm hr.room.units) (by rfl) T.m_repr (by decide +kernel) (pa_cons (pe_call (ok_single_row T) (hr.room.mono (by decide)) (by rfl) T.g_single_row T.F_single_row.kp T.b_single_row .nil pass0 (pa_cons (pv 2) (pa_cons (pv 15) pa_nil))) pa_nil)) (nomark _)) (pe_one (pe_cmpR (op_eqK (K := K) rfl hr.room.units) (pe_ix (ix_K (K := K) rfl) (pv 7) pe_int (fun _ _ => rfl)) (pe_callB (cr_lenK (K := K) rfl) (by rfl) T.m_len (by decide +kernel) (pa_cons (pv 3) pa_nil)) (nomark _)))))))) pss_nil)
      (pss_one (ps_ret pe_bl))))))))))))))))), fun W es PX hC => ?_⟩
  obtain ⟨a0, ns, rfl, hl, rfl, q⟩ := hC
  try dsimp only [cx_K, cx_w]
  refine ds_seq (ds_deck rfl hl fun W dk ck hk hle => ?_)
  refine ds_cut (fun W2 Δ2 => W2 = W ∧ ∃ n : Nat, (1 ≤ n ∧ n ≤ 5) ∧ Δ2 = [some (.raw (.ref a0)), some (.raw (.ref dk)), some (.dat (.int n)), none, none, none, none, none, none, none, none, none, none, none, none, none]) ?_ ?_
  · walk_at "ka"
    refine ⟨dk, ck, _, _, rfl, .inl rfl, hk, by simp, by simp, fun x hx => ?_⟩
    walk_at "ka"
    refine ⟨dk, ck, _, _, rfl, .inl rfl, hk, by simp, by simp, fun y hy => ?_⟩
    obtain ⟨n, rfl, hn⟩ : ∃ n : Nat, y = .int n ∧ (1 ≤ n ∧ n ≤ 5) := by
      simp only [List.mem_cons, List.not_mem_nil, or_false] at hx hy
      rcases hy with rfl | rfl | rfl | rfl | rfl | rfl | rfl | rfl
      · exact ⟨3, rfl, by decide⟩
      · exact ⟨4, rfl, by decide⟩
      · exact ⟨2, rfl, by decide⟩
      · exact ⟨3, rfl, by decide⟩
      · exact ⟨4, rfl, by decide⟩
      · exact ⟨1, rfl, by decide⟩
      · exact ⟨4, rfl, by decide⟩
      · rcases hx with rfl | rfl | rfl | rfl
        · exact ⟨5, rfl, by decide⟩
        · exact ⟨4, rfl, by decide⟩
        · exact ⟨3, rfl, by decide⟩
        · exact ⟨4, rfl, by decide⟩
    exact ⟨rfl, n, hn, rfl⟩
  rintro W2 Δ2 ⟨rfl, n, ⟨hn1, hn5⟩, rfl⟩
  have hn6 : n < 6 := by omega
  have hA := allA5_few n hn6
  have hAo : ∀ p ∈ allA5 n, ArcOk n p.1 p.2.1 p.2.2 := fun p hp => (allA5_mem hn6).mp hp
  have hAs : ((arcsN n).map arcT).mergeSort (PySem.W.dataLe false id) = (allA5 n).map arcT := arcs_sort_same (n := n) ⟨hAo, allA5_nd hn6, lots5_sorted n hn6⟩ ((List.isPerm_iff.mp (lots5_perm n hn6)).symm.map arcT)
  obtain ⟨Ls, f, hL, hLs⟩ := lots14 hn1 hn5
  have hLz : Ls.length = [1, 1, 2, 6, 24, 120].getD n 0 := by rw [hL.perm.length_eq]; exact (lots_sizes n hn6 hn1).2.2.2
  have hLf : 1 ≤ Ls.length ∧ Ls.length ≤ 120 := by
    rw [hLz]
    have : n = 1 ∨ n = 2 ∨ n = 3 ∨ n = 4 ∨ n = 5 := by omega
    rcases this with rfl | rfl | rfl | rfl | rfl <;> decide
  have shLs := sh_lots14 (n := n) (Ls := Ls) (fun S hS => ⟨hL.lot S hS, by have := hL.short S hS; omega⟩) (by omega) hLf.2
  have shA : Sh (.tuple ((allA5 n).map arcT)) 3 20000 := (sh_arcs14 hAo (by omega)).up (Nat.le_refl _) (by omega)
  have hcan : PyData.canLayAll0 (Ls.map lotD) = true := shLs.lay
  have hrl := rowsAll_len (n := (n : Int)) (by omega) (by omega)
  have hro : ∀ r ∈ rowsAll n, RowOk n r := fun r hr => (rowsAll_iff (n := (n : Int)) (by omega) (by omega)).mp hr
  walk_at "ka"
  refine ⟨n, rfl, by omega, by omega, ?_⟩
  rw [hAs]
  walk_at "ka"
  refine ⟨n, rfl, hn1, hn5, ?_⟩
  rw [hLs]
  walk_at "ka"
  refine ⟨n, rfl, hn1, hn5, ?_⟩
  rw [hLs]
  walk_at "ka"
  refine ⟨_, _, rfl, ?_⟩
  refine ds_seq (ds_par3ENE ?_)
  walk_at "ka"
  refine dn_mul ?_
  walk_at "ka"
  have hmx : max (1 : Int) (n : Int) = n := Int.max_eq_right (by omega)
  simp only [hmx]
  refine ⟨by omega, by omega, by simp; omega, fun p hp => ?_⟩
  rw [Int.toNat_natCast, szD_0]
  refine de_lcM (rowsAll n) (fun r => DV.dat (rowD r)) (fun _ => true) txtD (di_seqT ?_) (by omega) ?_ ?_
  · walk_at "ka"
    refine ⟨n, rfl, by omega, by omega, _, rfl, ?_⟩
    exact List.map_map ..
  · intro r hr W'' hW
    refine ⟨_, _, tg_name, by simp, ?_⟩
    walk_at "ka"
    refine ⟨rfl, fun _ => ?_⟩
    walk_at "ka"
    refine cal_reprS (sh_row (hro r hr)) (by decide) (by decide) ?_
    rfl
  rw [List.filter_eq_self.mpr (fun _ _ => rfl)]
  refine ds_seq (ds_for ?_)
  walk_at "ka"
  refine ⟨1, n + 1, rfl, by omega, by omega, fun i W' Δ' => W' = W2.hide p (knL K (szD n [])) ∧ ∃ x9, Δ' = [some (.raw (.ref a0)), some (.raw (.ref dk)), some (.dat (.int n)), some (.dat (.tuple ((allA5 n).map arcT))), some (.dat (.tuple (Ls.map lotD))), some (.dat (.tuple (Ls.map lotD))), some (.dat (.int (factI i))), some (.raw (.ref p)), some (.dat (.list ((rowsAll n).map txtD))), x9, none, none, none, none, none, none], ⟨rfl, none, rfl⟩, ?_, ?_⟩
  · rintro i e W' Δ' he ⟨rfl, x9, rfl⟩
    obtain ⟨hi, rfl⟩ := rgN_at he
    refine ⟨_, _, tg_name, ?_⟩
    walk_at "ka"
    have hfb : 0 ≤ factI i ∧ factI i ≤ 24 := by
      have : i = 0 ∨ i = 1 ∨ i = 2 ∨ i = 3 ∨ i = 4 := by omega
      rcases this with rfl | rfl | rfl | rfl | rfl <;> decide
    refine opd_mulI (by first | exact ⟨by omega, by omega⟩ | (unfold CMul; omega)) ?_
    have hm : factI (i + 1) = factI i * (1 + (i : Int)) := by
      show factI i * ((i + 1 : Nat) : Int) = _
      rw [Int.natCast_add, Int.add_comm]
      rfl
    exact ⟨rfl, some (.dat (.int (1 + (i : Int)))), by rw [hm]; rfl⟩
  rintro W' Δ' ⟨rfl, x9, rfl⟩
  have hfac : factI n = (Ls.length : Int) := by rw [fact_lots hn1 hn5, hLz]
  rw [show (List.map (fun i => DV.dat (PyData.int i)) (rgN 1 ((n : Int) + 1 - 1).toNat)).length = n by rw [List.length_map, rgN_length]; omega, hfac]
  refine dq_no ?_ ?_
  · walk_at "ka"
    refine cal_reprS shLs (by decide) (by decide) ?_
    walk_at "ka"
    refine cal_reprS shLs (by decide) (by decide) ?_
    refine opd_neS ⟨_, rfl, fun _ => ?_, ne_same _⟩
    walk_at "ka"
    refine opd_ne rfl rfl ⟨_, rfl, fun _ => ?_, fun e => ?_⟩
    · walk_at "ka"
      refine ⟨n, rfl, by omega, by omega, ?_⟩
      rw [allA_is5 hn6]
      walk_at "ka"
      refine cal_reprS shA (by decide) (by decide) ?_
      walk_at "ka"
      refine cal_reprS shA (by decide) (by decide) ?_
      refine opd_neS ⟨_, rfl, ?_⟩
      rw [decide_eq_true rfl]
      rfl
    · simp [PyData.eqv] at e
  refine dq_no ?_ ?_
  · walk_at "ka"
    refine ⟨fun e => ?_, fun _ => rfl⟩
    walk_at "ka"
    refine ⟨n, rfl, hn1, hn5, ?_⟩
    rw [hLs]
    refine da_nil ?_
    refine cal_reprS shLs (by decide) (by decide) ?_
    walk_at "ka"
    refine cal_reprS shLs (by decide) (by decide) ?_
    refine opd_neS ⟨_, rfl, ?_⟩
    rw [decide_eq_true rfl]
    rfl
  have made : ∀ S ∈ Ls, LotOk n S ∧ RowOk n (f S) ∧ arcsD (f S) true = S.map arcT := fun S hS => ⟨hL.lot S hS, (hL.row S hS).1, (hL.row S hS).2⟩
  walk_at "ka"
  refine de_lcM Ls (fun S => DV.dat (lotD S)) (fun _ => true) (fun S => rowD (f S)) (di_seqT ?_) (by omega) ?_ ?_
  · walk_at "ka"
    exact List.map_map ..
  · intro S hS W'' hW
    obtain ⟨m1, m2, m3⟩ := made S hS
    refine ⟨_, _, tg_name, by simp, ?_⟩
    walk_at "ka"
    refine ⟨rfl, fun _ => ?_⟩
    walk_at "ka"
    refine ⟨n, f S, by rw [m3]; rfl, m2, by omega, by omega, ?_⟩
    rfl
  rw [List.filter_eq_self.mpr (fun _ _ => rfl)]
  refine dq_no ?_ ?_
  · walk_at "ka"
    refine de_lcM Ls (fun S => DV.dat (rowD (f S))) (fun _ => true) (fun S => txtD (f S)) (di_seqL ?_) (by omega) ?_ ?_
    · walk_at "ka"
      exact List.map_map ..
    · intro S hS W'' hW
      obtain ⟨m1, m2, m3⟩ := made S hS
      refine ⟨_, _, tg_name, by simp, ?_⟩
      walk_at "ka"
      refine ⟨rfl, fun _ => ?_⟩
      walk_at "ka"
      refine cal_reprS (sh_row m2) (by decide) (by decide) ?_
      rfl
    rw [List.filter_eq_self.mpr (fun _ _ => rfl), show Ls.map (fun S => txtD (f S)) = (Ls.map f).map txtD by rw [List.map_map]; rfl]
    walk_at "ka"
    refine cal_sortedZL (txt_alike _) (txt_sortable _) (txt_dep _) ?_
    rw [txt_sort hL.rows]
    walk_at "ka"
    refine cal_sortedZL (txt_alike _) (txt_sortable _) (txt_dep _) ?_
    have hs := txt_lay hn6 (List.mergeSort_perm ((rowsAll n).map txtD) (PySem.W.dataLe false id))
    refine opd_ne hs hs ?_
    rw [eqv_same hs]
    exact ⟨_, rfl, rfl⟩
  refine dq_no ?_ ?_
  · walk_at "ka"
    refine ⟨fun e => ?_, fun _ => rfl⟩
    have h4 : n < 5 := by
      have := of_decide_eq_true e
      omega
    obtain ⟨g, hg1, hg2⟩ := rows14 h4 hL
    walk_at "ka"
    refine de_lcM Ls (fun S => DV.dat (lotD S)) (fun _ => true) (fun S => txtD (g S)) (di_seqT ?_) (by omega) ?_ ?_
    · walk_at "ka"
      exact List.map_map ..
    · intro S hS W'' hW
      obtain ⟨m1, m2⟩ := hg1 S hS
      have m3 := hL.short S hS
      refine ⟨_, _, tg_name, by simp, ?_⟩
      walk_at "ka"
      refine ⟨rfl, fun _ => ?_⟩
      walk_at "ka"
      refine ⟨n, S, g S, rfl, hL.lot S hS, by omega, m1, m2, by omega, by omega, ?_⟩
      walk_at "ka"
      refine cal_reprS (sh_row m1) (by decide) (by decide) ?_
      rfl
    rw [List.filter_eq_self.mpr (fun _ _ => rfl), show Ls.map (fun S => txtD (g S)) = (Ls.map g).map txtD by rw [List.map_map]; rfl]
    walk_at "ka"
    refine cal_sortedZL (txt_alike _) (txt_sortable _) (txt_dep _) ?_
    rw [txt_sort hg2]
    walk_at "ka"
    refine cal_sortedZL (txt_alike _) (txt_sortable _) (txt_dep _) ?_
    have hs := txt_lay hn6 (List.mergeSort_perm ((rowsAll n).map txtD) (PySem.W.dataLe false id))
    refine opd_ne hs hs ?_
    rw [eqv_same hs]
    exact ⟨_, rfl, rfl⟩
  refine ds_seq (ds_for ?_)
  refine di_zipX ?_
  walk_at "ka"
  refine ⟨_, _, rfl, ?_⟩
  rw [zip_rows14]
  refine ⟨fun i W' Δ' => W' = W2.hide p (knL K (szD n (Ls.take i))) ∧ ∃ x11 x12, Δ' = [some (.raw (.ref a0)), some (.raw (.ref dk)), some (.dat (.int n)), some (.dat (.tuple ((allA5 n).map arcT))), some (.dat (.tuple (Ls.map lotD))), some (.dat (.tuple (Ls.map lotD))), some (.dat (.int (Ls.length : Nat))), some (.raw (.ref p)), some (.dat (.list ((rowsAll n).map txtD))), x9, some (.dat (.list (Ls.map fun S => rowD (f S)))), x11, x12, none, none, none], ⟨rfl, none, none, rfl⟩, ?_, ?_⟩
  · rintro i e W' Δ' he ⟨rfl, x11, x12, rfl⟩
    rw [List.getElem?_map] at he
    obtain ⟨S, hS, rfl⟩ := Option.map_eq_some_iff.mp he
    obtain ⟨m1, m2, m3⟩ := made S (List.mem_of_getElem? hS)
    have hSs := hL.short S (List.mem_of_getElem? hS)
    have shS := sh_arcs14 m1.ok (show (n : Int) ≤ 8 by omega)
    refine ⟨_, _, tg_tup2, ?_⟩
    refine ds_seq (ds_putL (i := 7) rfl ?_)
    walk_at "ka"
    have hlenS : ∀ (W' : Wd) (Q : DV → Prop), Q (.dat (.int (S.length : Nat))) → CalD K W' (rLenX K) [.dat (lotD S)] Q := fun W' Q k => by
      unfold lotD
      refine cal_lenT ?_
      rw [List.length_map]
      exact k
    refine hlenS _ _ ?_
    refine opd_ixH Wd.Keeps.self (atI_nat (szD_at _ hSs)) ?_
    walk_at "ka"
    refine hlenS _ _ ?_
    refine ⟨S.length, rfl, by rw [szD_len]; exact hSs, ?_⟩
    rw [szD_put hS hSs]
    refine dq_no ?_ ?_
    · walk_at "ka"
      refine ⟨n, f S, rfl, m2, ?_⟩
      rw [m3]
      walk_at "ka"
      refine opd_ne (shS.shaped (by decide)) (shS.shaped (by decide)) ?_
      rw [show PyData.eqv (.tuple (S.map arcT)) (lotD S) = true from eqv_same (shS.shaped (by decide))]
      refine ⟨_, rfl, fun _ => ?_, fun e => by cases e⟩
      walk_at "ka"
      refine ⟨fun e => ?_, fun _ => rfl⟩
      walk_at "ka"
      refine ⟨n, S, rfl, m1, by omega, ?_⟩
      walk_at "ka"
      first
      | rfl
      | exact ⟨_, rfl, rfl⟩
      | skip
    exact ds_next ⟨rfl, _, _, rfl⟩
  rintro W' Δ' ⟨rfl, x11, x12, rfl⟩
  rw [List.length_map, List.take_length, szD_perm hL.perm]
  refine ds_see (i := 7) ?_ rfl ?_
  · exact hp
  refine dq_no ?_ ?_
  · walk_at "ka"
    refine opd_ne (szD_shaped _ _) (by rw [szD_rev hn1 hn5]; exact szD_shaped _ _) ?_
    rw [szD_rev hn1 hn5, eqv_same (szD_shaped _ _)]
    exact ⟨_, rfl, rfl⟩
  refine ds_seq (ds_for ?_)
  walk_at "ka"
  refine ⟨by decide, fun i W' Δ' => W' = W2 ∧ ∃ y11 y13 y14, Δ' = [some (.raw (.ref a0)), some (.raw (.ref dk)), some (.dat (.int n)), some (.dat (.tuple ((allA5 n).map arcT))), some (.dat (.tuple (Ls.map lotD))), some (.dat (.tuple (Ls.map lotD))), some (.dat (.int (Ls.length : Nat))), some (.dat (.list (szD n (lotsF (allA5 n))))), some (.dat (.list ((rowsAll n).map txtD))), x9, some (.dat (.list (Ls.map fun S => rowD (f S)))), y11, x12, y13, y14, none], ⟨rfl, x11, none, none, rfl⟩, ?_, ?_⟩
  · rintro i e W' Δ' he ⟨rfl, y11, y13, y14, rfl⟩
    obtain ⟨hi, rfl⟩ := rgN_at he
    refine ⟨_, _, tg_name, ?_⟩
    walk_at "ka"
    refine ⟨dk, ck, _, _, rfl, .inr rfl, hk, by rw [List.length_map]; omega, by rw [List.length_map]; omega, fun x hx => ?_⟩
    obtain ⟨S, hS, rfl⟩ := List.mem_map.mp hx
    obtain ⟨m1, m2, m3⟩ := made S hS
    have hSs := hL.short S hS
    walk_at "ka"
    have hlenS : ∀ (W' : Wd) (Q : DV → Prop), Q (.dat (.int (S.length : Nat))) → CalD K W' (rLenX K) [.dat (lotD S)] Q := fun W' Q k => by
      unfold lotD
      refine cal_lenT ?_
      rw [List.length_map]
      exact k
    refine hlenS _ _ ?_
    walk_at "ka"
    refine ⟨dk, ck, _, rfl, hk, by omega, by omega, fun t t0 t1 => ?_⟩
    refine dq_no ?_ ?_
    · walk_at "ka"
      refine sld_T (ds := S.map arcT) ?_
      walk_at "ka"
      refine sld_T (ds := S.map arcT) ?_
      rw [cut_to t0, cut_from (show 0 ≤ t + 1 by omega), show (t + 1).toNat = t.toNat + 1 by omega]
      rw [← List.map_take, ← List.map_drop]
      refine opd_addT (by have := (S.take t.toNat).length_map arcT; have := (S.drop (t.toNat + 1)).length_map arcT; have := S.length_take (i := t.toNat); have := S.length_drop (i := t.toNat + 1); omega) ?_
      rw [← List.map_append]
      have hin : S.take t.toNat ++ S.drop (t.toNat + 1) ∈ Ls := by
        have h := lots_sub n hn6
        rw [List.all_eq_true] at h
        have h2 := h S (hL.perm.mem_iff.mp hS)
        rw [List.all_eq_true] at h2
        have h3 := h2 t.toNat (List.mem_range.mpr (by omega))
        exact hL.perm.mem_iff.mpr (List.contains_iff_mem.mp h3)
      have hS2 := made _ hin
      walk_at "ka"
      refine opd_niZT (d := lotD (S.take t.toNat ++ S.drop (t.toNat + 1))) ((sh_arcs14 hS2.1.ok (show (n : Int) ≤ 8 by omega)).shaped (by decide)) hcan ?_
      rw [any_lots14, decide_eq_true hin]
      refine ⟨_, rfl, fun _ => ?_, fun e => by cases e⟩
      walk_at "ka"
      refine ⟨n, S, rfl, m1, by omega, ?_⟩
      walk_at "ka"
      refine opd_ne (by decide +kernel) (by decide +kernel) ?_
      exact ⟨_, rfl, by decide +kernel⟩
    exact ds_next ⟨rfl, _, _, _, rfl⟩
  rintro W' Δ' ⟨rfl, y11, y13, y14, rfl⟩
  refine ds_seq (ds_if ?_)
  walk_at "ka"
  refine ⟨fun e => ?_, fun e => ?_⟩
  · have h2 : 2 ≤ n := by
      have := of_decide_eq_true e
      omega
    have hA1 := allA5_some n hn6 h2
    walk_at "ka"
    refine ⟨dk, ck, _, _, rfl, .inr rfl, hk, by rw [List.length_map]; exact hA1, by rw [List.length_map]; omega, fun x hx => ?_⟩
    obtain ⟨p1, hp1, rfl⟩ := List.mem_map.mp hx
    have ha := hAo p1 hp1
    have hin : [p1] ∈ Ls := by
      have h := lots_one n hn6
      rw [List.all_eq_true] at h
      exact hL.perm.mem_iff.mpr (List.contains_iff_mem.mp (h p1 hp1))
    have hS2 := made _ hin
    have ho := single_ok ha (show (n : Int) ≤ 60 by omega)
    walk_at "ka"
    refine opd_inZT (d := lotD [p1]) ((sh_arcs14 hS2.1.ok (show (n : Int) ≤ 8 by omega)).shaped (by decide)) hcan ?_
    rw [any_lots14, decide_eq_true hin]
    refine ⟨_, rfl, fun _ => ?_, fun e => by cases e⟩
    walk_at "ka"
    refine ⟨n, singleL n p1.1 p1.2.1 p1.2.2, by rw [single_arcs ha (by omega)]; rfl, ho, by omega, by omega, ?_⟩
    walk_at "ka"
    refine cal_reprS (sh_row ho) (by decide) (by decide) ?_
    walk_at "ka"
    refine ⟨n, p1.1, p1.2.1, p1.2.2, rfl, ha, by omega, ?_⟩
    walk_at "ka"
    refine cal_reprS (sh_row ho) (by decide) (by decide) ?_
    refine opd_eqS ?_
    rw [decide_eq_true rfl]
    refine ⟨_, rfl, fun _ => ?_, fun e => by cases e⟩
    walk_at "ka"
    refine opd_ixL (atI_nat (j := 1) (szD_at _ (show 1 < n by omega))) ?_
    walk_at "ka"
    refine opd_eq rfl rfl ?_
    rw [(lots_sizes n hn6 hn1).2.2.1 h2, List.length_map, show PyData.eqv (.int ((allA5 n).length : Nat)) (.int ((allA5 n).length : Nat)) = true by simp [PyData.eqv]]
    exact ⟨hle, q⟩
  refine ds_next ?_
  walk_at "ka"
  exact ⟨hle, q⟩
theorem law_starts : ∀ (K : PySem.W.Frag) (H : Hp) (a : Addr) (ns : List Int), ns.length ≤ 63 → Only H → SqL K H a (ns.map V.int) → SpC K (C_law K) [.ref a] H (fun v _ => v = .bl true) fun _ _ _ => False :=
  fun K H a ns hl _ hS => law_start (fun a ns hl => ⟨a, ns, rfl, hl, rfl, rfl⟩) hl hS

end
set_option maxHeartbeats 0 in
theorem all_mk {l : PySem.W.OpenLaw} {w : World} {K : PySem.W.Frag} {h : Heap} {mg : Str → Option Value} {fa : Addr} (X : K.In h) (G : h.Ns mainGlobals mg) (hfa : mg "law" = some (.ref fa))
    {f0 : Addr} {od0 an0 : Option Addr} {sl0 : Array (Option Value)} {oc0 kV0 dc0 pm0 cd0 ct0 : Value}
    (a0 : PySem.W.nsIn K mainGlobals "is_number" = some (some (.ref f0))) (l0 : K.lookup f0 = some ⟨oc0, od0, .func (PySem.W.fnOf "is_number" "is_number" (defArgs s_is_number) (defBody s_is_number) (defScope s_is_number) .none kV0 dc0 pm0 an0 cd0 ct0), sl0⟩) (c0 : PySem.W.codeIn K cd0 "is_number" = true) (k0 : PySem.W.keepIn K (.ref f0) = true)
    {f1 : Addr} {od1 an1 : Option Addr} {sl1 : Array (Option Value)} {oc1 kV1 dc1 pm1 cd1 ct1 : Value}
    (a1 : PySem.W.nsIn K mainGlobals "is_number_from" = some (some (.ref f1))) (l1 : K.lookup f1 = some ⟨oc1, od1, .func (PySem.W.fnOf "is_number_from" "is_number_from" (defArgs s_is_number_from) (defBody s_is_number_from) (defScope s_is_number_from) .none kV1 dc1 pm1 an1 cd1 ct1), sl1⟩) (c1 : PySem.W.codeIn K cd1 "is_number_from" = true) (k1 : PySem.W.keepIn K (.ref f1) = true)
    {f2 : Addr} {od2 an2 : Option Addr} {sl2 : Array (Option Value)} {oc2 kV2 dc2 pm2 cd2 ct2 : Value}
    (a2 : PySem.W.nsIn K mainGlobals "are_numbers" = some (some (.ref f2))) (l2 : K.lookup f2 = some ⟨oc2, od2, .func (PySem.W.fnOf "are_numbers" "are_numbers" (defArgs s_are_numbers) (defBody s_are_numbers) (defScope s_are_numbers) .none kV2 dc2 pm2 an2 cd2 ct2), sl2⟩) (c2 : PySem.W.codeIn K cd2 "are_numbers" = true) (k2 : PySem.W.keepIn K (.ref f2) = true)
    {f3 : Addr} {od3 an3 : Option Addr} {sl3 : Array (Option Value)} {oc3 kV3 dc3 pm3 cd3 ct3 : Value}
    (a3 : PySem.W.nsIn K mainGlobals "are_ascending_numbers" = some (some (.ref f3))) (l3 : K.lookup f3 = some ⟨oc3, od3, .func (PySem.W.fnOf "are_ascending_numbers" "are_ascending_numbers" (defArgs s_are_ascending_numbers) (defBody s_are_ascending_numbers) (defScope s_are_ascending_numbers) .none kV3 dc3 pm3 an3 cd3 ct3), sl3⟩) (c3 : PySem.W.codeIn K cd3 "are_ascending_numbers" = true) (k3 : PySem.W.keepIn K (.ref f3) = true)
    {f4 : Addr} {od4 an4 : Option Addr} {sl4 : Array (Option Value)} {oc4 kV4 dc4 pm4 cd4 ct4 : Value}
    (a4 : PySem.W.nsIn K mainGlobals "is_row" = some (some (.ref f4))) (l4 : K.lookup f4 = some ⟨oc4, od4, .func (PySem.W.fnOf "is_row" "is_row" (defArgs s_is_row) (defBody s_is_row) (defScope s_is_row) .none kV4 dc4 pm4 an4 cd4 ct4), sl4⟩) (c4 : PySem.W.codeIn K cd4 "is_row" = true) (k4 : PySem.W.keepIn K (.ref f4) = true)
    {f5 : Addr} {od5 an5 : Option Addr} {sl5 : Array (Option Value)} {oc5 kV5 dc5 pm5 cd5 ct5 : Value}
    (a5 : PySem.W.nsIn K mainGlobals "check_row" = some (some (.ref f5))) (l5 : K.lookup f5 = some ⟨oc5, od5, .func (PySem.W.fnOf "check_row" "check_row" (defArgs s_check_row) (defBody s_check_row) (defScope s_check_row) .none kV5 dc5 pm5 an5 cd5 ct5), sl5⟩) (c5 : PySem.W.codeIn K cd5 "check_row" = true) (k5 : PySem.W.keepIn K (.ref f5) = true)
    {f6 : Addr} {od6 an6 : Option Addr} {sl6 : Array (Option Value)} {oc6 kV6 dc6 pm6 cd6 ct6 : Value}
    (a6 : PySem.W.nsIn K mainGlobals "check_place" = some (some (.ref f6))) (l6 : K.lookup f6 = some ⟨oc6, od6, .func (PySem.W.fnOf "check_place" "check_place" (defArgs s_check_place) (defBody s_check_place) (defScope s_check_place) .none kV6 dc6 pm6 an6 cd6 ct6), sl6⟩) (c6 : PySem.W.codeIn K cd6 "check_place" = true) (k6 : PySem.W.keepIn K (.ref f6) = true)
    {f7 : Addr} {od7 an7 : Option Addr} {sl7 : Array (Option Value)} {oc7 kV7 dc7 pm7 cd7 ct7 : Value}
    (a7 : PySem.W.nsIn K mainGlobals "turned_pairs" = some (some (.ref f7))) (l7 : K.lookup f7 = some ⟨oc7, od7, .func (PySem.W.fnOf "turned_pairs" "turned_pairs" (defArgs s_turned_pairs) (defBody s_turned_pairs) (defScope s_turned_pairs) .none kV7 dc7 pm7 an7 cd7 ct7), sl7⟩) (c7 : PySem.W.codeIn K cd7 "turned_pairs" = true) (k7 : PySem.W.keepIn K (.ref f7) = true)
    {f8 : Addr} {od8 an8 : Option Addr} {sl8 : Array (Option Value)} {oc8 kV8 dc8 pm8 cd8 ct8 : Value}
    (a8 : PySem.W.nsIn K mainGlobals "mirror" = some (some (.ref f8))) (l8 : K.lookup f8 = some ⟨oc8, od8, .func (PySem.W.fnOf "mirror" "mirror" (defArgs s_mirror) (defBody s_mirror) (defScope s_mirror) .none kV8 dc8 pm8 an8 cd8 ct8), sl8⟩) (c8 : PySem.W.codeIn K cd8 "mirror" = true) (k8 : PySem.W.keepIn K (.ref f8) = true)
    {f9 : Addr} {od9 an9 : Option Addr} {sl9 : Array (Option Value)} {oc9 kV9 dc9 pm9 cd9 ct9 : Value}
    (a9 : PySem.W.nsIn K mainGlobals "row_turning" = some (some (.ref f9))) (l9 : K.lookup f9 = some ⟨oc9, od9, .func (PySem.W.fnOf "row_turning" "row_turning" (defArgs s_row_turning) (defBody s_row_turning) (defScope s_row_turning) .none kV9 dc9 pm9 an9 cd9 ct9), sl9⟩) (c9 : PySem.W.codeIn K cd9 "row_turning" = true) (k9 : PySem.W.keepIn K (.ref f9) = true)
    {f10 : Addr} {od10 an10 : Option Addr} {sl10 : Array (Option Value)} {oc10 kV10 dc10 pm10 cd10 ct10 : Value}
    (a10 : PySem.W.nsIn K mainGlobals "chained" = some (some (.ref f10))) (l10 : K.lookup f10 = some ⟨oc10, od10, .func (PySem.W.fnOf "chained" "chained" (defArgs s_chained) (defBody s_chained) (defScope s_chained) .none kV10 dc10 pm10 an10 cd10 ct10), sl10⟩) (c10 : PySem.W.codeIn K cd10 "chained" = true) (k10 : PySem.W.keepIn K (.ref f10) = true)
    {f11 : Addr} {od11 an11 : Option Addr} {sl11 : Array (Option Value)} {oc11 kV11 dc11 pm11 cd11 ct11 : Value}
    (a11 : PySem.W.nsIn K mainGlobals "least_above" = some (some (.ref f11))) (l11 : K.lookup f11 = some ⟨oc11, od11, .func (PySem.W.fnOf "least_above" "least_above" (defArgs s_least_above) (defBody s_least_above) (defScope s_least_above) .none kV11 dc11 pm11 an11 cd11 ct11), sl11⟩) (c11 : PySem.W.codeIn K cd11 "least_above" = true) (k11 : PySem.W.keepIn K (.ref f11) = true)
    {f12 : Addr} {od12 an12 : Option Addr} {sl12 : Array (Option Value)} {oc12 kV12 dc12 pm12 cd12 ct12 : Value}
    (a12 : PySem.W.nsIn K mainGlobals "all_rows" = some (some (.ref f12))) (l12 : K.lookup f12 = some ⟨oc12, od12, .func (PySem.W.fnOf "all_rows" "all_rows" (defArgs s_all_rows) (defBody s_all_rows) (defScope s_all_rows) .none kV12 dc12 pm12 an12 cd12 ct12), sl12⟩) (c12 : PySem.W.codeIn K cd12 "all_rows" = true) (k12 : PySem.W.keepIn K (.ref f12) = true)
    {f13 : Addr} {od13 an13 : Option Addr} {sl13 : Array (Option Value)} {oc13 kV13 dc13 pm13 cd13 ct13 : Value}
    (a13 : PySem.W.nsIn K mainGlobals "is_arc" = some (some (.ref f13))) (l13 : K.lookup f13 = some ⟨oc13, od13, .func (PySem.W.fnOf "is_arc" "is_arc" (defArgs s_is_arc) (defBody s_is_arc) (defScope s_is_arc) .none kV13 dc13 pm13 an13 cd13 ct13), sl13⟩) (c13 : PySem.W.codeIn K cd13 "is_arc" = true) (k13 : PySem.W.keepIn K (.ref f13) = true)
    {f14 : Addr} {od14 an14 : Option Addr} {sl14 : Array (Option Value)} {oc14 kV14 dc14 pm14 cd14 ct14 : Value}
    (a14 : PySem.W.nsIn K mainGlobals "check_arc" = some (some (.ref f14))) (l14 : K.lookup f14 = some ⟨oc14, od14, .func (PySem.W.fnOf "check_arc" "check_arc" (defArgs s_check_arc) (defBody s_check_arc) (defScope s_check_arc) .none kV14 dc14 pm14 an14 cd14 ct14), sl14⟩) (c14 : PySem.W.codeIn K cd14 "check_arc" = true) (k14 : PySem.W.keepIn K (.ref f14) = true)
    {f15 : Addr} {od15 an15 : Option Addr} {sl15 : Array (Option Value)} {oc15 kV15 dc15 pm15 cd15 ct15 : Value}
    (a15 : PySem.W.nsIn K mainGlobals "choices" = some (some (.ref f15))) (l15 : K.lookup f15 = some ⟨oc15, od15, .func (PySem.W.fnOf "choices" "choices" (defArgs s_choices) (defBody s_choices) (defScope s_choices) .none kV15 dc15 pm15 an15 cd15 ct15), sl15⟩) (c15 : PySem.W.codeIn K cd15 "choices" = true) (k15 : PySem.W.keepIn K (.ref f15) = true)
    {f16 : Addr} {od16 an16 : Option Addr} {sl16 : Array (Option Value)} {oc16 kV16 dc16 pm16 cd16 ct16 : Value}
    (a16 : PySem.W.nsIn K mainGlobals "all_arcs" = some (some (.ref f16))) (l16 : K.lookup f16 = some ⟨oc16, od16, .func (PySem.W.fnOf "all_arcs" "all_arcs" (defArgs s_all_arcs) (defBody s_all_arcs) (defScope s_all_arcs) .none kV16 dc16 pm16 an16 cd16 ct16), sl16⟩) (c16 : PySem.W.codeIn K cd16 "all_arcs" = true) (k16 : PySem.W.keepIn K (.ref f16) = true)
    {f17 : Addr} {od17 an17 : Option Addr} {sl17 : Array (Option Value)} {oc17 kV17 dc17 pm17 cd17 ct17 : Value}
    (a17 : PySem.W.nsIn K mainGlobals "arc_at" = some (some (.ref f17))) (l17 : K.lookup f17 = some ⟨oc17, od17, .func (PySem.W.fnOf "arc_at" "arc_at" (defArgs s_arc_at) (defBody s_arc_at) (defScope s_arc_at) .none kV17 dc17 pm17 an17 cd17 ct17), sl17⟩) (c17 : PySem.W.codeIn K cd17 "arc_at" = true) (k17 : PySem.W.keepIn K (.ref f17) = true)
    {f18 : Addr} {od18 an18 : Option Addr} {sl18 : Array (Option Value)} {oc18 kV18 dc18 pm18 cd18 ct18 : Value}
    (a18 : PySem.W.nsIn K mainGlobals "arcs_of_falls" = some (some (.ref f18))) (l18 : K.lookup f18 = some ⟨oc18, od18, .func (PySem.W.fnOf "arcs_of_falls" "arcs_of_falls" (defArgs s_arcs_of_falls) (defBody s_arcs_of_falls) (defScope s_arcs_of_falls) .none kV18 dc18 pm18 an18 cd18 ct18), sl18⟩) (c18 : PySem.W.codeIn K cd18 "arcs_of_falls" = true) (k18 : PySem.W.keepIn K (.ref f18) = true)
    {f19 : Addr} {od19 an19 : Option Addr} {sl19 : Array (Option Value)} {oc19 kV19 dc19 pm19 cd19 ct19 : Value}
    (a19 : PySem.W.nsIn K mainGlobals "numbers_behind" = some (some (.ref f19))) (l19 : K.lookup f19 = some ⟨oc19, od19, .func (PySem.W.fnOf "numbers_behind" "numbers_behind" (defArgs s_numbers_behind) (defBody s_numbers_behind) (defScope s_numbers_behind) .none kV19 dc19 pm19 an19 cd19 ct19), sl19⟩) (c19 : PySem.W.codeIn K cd19 "numbers_behind" = true) (k19 : PySem.W.keepIn K (.ref f19) = true)
    {f20 : Addr} {od20 an20 : Option Addr} {sl20 : Array (Option Value)} {oc20 kV20 dc20 pm20 cd20 ct20 : Value}
    (a20 : PySem.W.nsIn K mainGlobals "single_row" = some (some (.ref f20))) (l20 : K.lookup f20 = some ⟨oc20, od20, .func (PySem.W.fnOf "single_row" "single_row" (defArgs s_single_row) (defBody s_single_row) (defScope s_single_row) .none kV20 dc20 pm20 an20 cd20 ct20), sl20⟩) (c20 : PySem.W.codeIn K cd20 "single_row" = true) (k20 : PySem.W.keepIn K (.ref f20) = true)
    {f21 : Addr} {od21 an21 : Option Addr} {sl21 : Array (Option Value)} {oc21 kV21 dc21 pm21 cd21 ct21 : Value}
    (a21 : PySem.W.nsIn K mainGlobals "side" = some (some (.ref f21))) (l21 : K.lookup f21 = some ⟨oc21, od21, .func (PySem.W.fnOf "side" "side" (defArgs s_side) (defBody s_side) (defScope s_side) .none kV21 dc21 pm21 an21 cd21 ct21), sl21⟩) (c21 : PySem.W.codeIn K cd21 "side" = true) (k21 : PySem.W.keepIn K (.ref f21) = true)
    {f22 : Addr} {od22 an22 : Option Addr} {sl22 : Array (Option Value)} {oc22 kV22 dc22 pm22 cd22 ct22 : Value}
    (a22 : PySem.W.nsIn K mainGlobals "parting_numbers" = some (some (.ref f22))) (l22 : K.lookup f22 = some ⟨oc22, od22, .func (PySem.W.fnOf "parting_numbers" "parting_numbers" (defArgs s_parting_numbers) (defBody s_parting_numbers) (defScope s_parting_numbers) .none kV22 dc22 pm22 an22 cd22 ct22), sl22⟩) (c22 : PySem.W.codeIn K cd22 "parting_numbers" = true) (k22 : PySem.W.keepIn K (.ref f22) = true)
    {f23 : Addr} {od23 an23 : Option Addr} {sl23 : Array (Option Value)} {oc23 kV23 dc23 pm23 cd23 ct23 : Value}
    (a23 : PySem.W.nsIn K mainGlobals "judge_crossing" = some (some (.ref f23))) (l23 : K.lookup f23 = some ⟨oc23, od23, .func (PySem.W.fnOf "judge_crossing" "judge_crossing" (defArgs s_judge_crossing) (defBody s_judge_crossing) (defScope s_judge_crossing) .none kV23 dc23 pm23 an23 cd23 ct23), sl23⟩) (c23 : PySem.W.codeIn K cd23 "judge_crossing" = true) (k23 : PySem.W.keepIn K (.ref f23) = true)
    {f24 : Addr} {od24 an24 : Option Addr} {sl24 : Array (Option Value)} {oc24 kV24 dc24 pm24 cd24 ct24 : Value}
    (a24 : PySem.W.nsIn K mainGlobals "are_arcs" = some (some (.ref f24))) (l24 : K.lookup f24 = some ⟨oc24, od24, .func (PySem.W.fnOf "are_arcs" "are_arcs" (defArgs s_are_arcs) (defBody s_are_arcs) (defScope s_are_arcs) .none kV24 dc24 pm24 an24 cd24 ct24), sl24⟩) (c24 : PySem.W.codeIn K cd24 "are_arcs" = true) (k24 : PySem.W.keepIn K (.ref f24) = true)
    {f25 : Addr} {od25 an25 : Option Addr} {sl25 : Array (Option Value)} {oc25 kV25 dc25 pm25 cd25 ct25 : Value}
    (a25 : PySem.W.nsIn K mainGlobals "check_arcs" = some (some (.ref f25))) (l25 : K.lookup f25 = some ⟨oc25, od25, .func (PySem.W.fnOf "check_arcs" "check_arcs" (defArgs s_check_arcs) (defBody s_check_arcs) (defScope s_check_arcs) .none kV25 dc25 pm25 an25 cd25 ct25), sl25⟩) (c25 : PySem.W.codeIn K cd25 "check_arcs" = true) (k25 : PySem.W.keepIn K (.ref f25) = true)
    {f26 : Addr} {od26 an26 : Option Addr} {sl26 : Array (Option Value)} {oc26 kV26 dc26 pm26 cd26 ct26 : Value}
    (a26 : PySem.W.nsIn K mainGlobals "is_lot" = some (some (.ref f26))) (l26 : K.lookup f26 = some ⟨oc26, od26, .func (PySem.W.fnOf "is_lot" "is_lot" (defArgs s_is_lot) (defBody s_is_lot) (defScope s_is_lot) .none kV26 dc26 pm26 an26 cd26 ct26), sl26⟩) (c26 : PySem.W.codeIn K cd26 "is_lot" = true) (k26 : PySem.W.keepIn K (.ref f26) = true)
    {f27 : Addr} {od27 an27 : Option Addr} {sl27 : Array (Option Value)} {oc27 kV27 dc27 pm27 cd27 ct27 : Value}
    (a27 : PySem.W.nsIn K mainGlobals "check_lot" = some (some (.ref f27))) (l27 : K.lookup f27 = some ⟨oc27, od27, .func (PySem.W.fnOf "check_lot" "check_lot" (defArgs s_check_lot) (defBody s_check_lot) (defScope s_check_lot) .none kV27 dc27 pm27 an27 cd27 ct27), sl27⟩) (c27 : PySem.W.codeIn K cd27 "check_lot" = true) (k27 : PySem.W.keepIn K (.ref f27) = true)
    {f28 : Addr} {od28 an28 : Option Addr} {sl28 : Array (Option Value)} {oc28 kV28 dc28 pm28 cd28 ct28 : Value}
    (a28 : PySem.W.nsIn K mainGlobals "share_an_end" = some (some (.ref f28))) (l28 : K.lookup f28 = some ⟨oc28, od28, .func (PySem.W.fnOf "share_an_end" "share_an_end" (defArgs s_share_an_end) (defBody s_share_an_end) (defScope s_share_an_end) .none kV28 dc28 pm28 an28 cd28 ct28), sl28⟩) (c28 : PySem.W.codeIn K cd28 "share_an_end" = true) (k28 : PySem.W.keepIn K (.ref f28) = true)
    {f29 : Addr} {od29 an29 : Option Addr} {sl29 : Array (Option Value)} {oc29 kV29 dc29 pm29 cd29 ct29 : Value}
    (a29 : PySem.W.nsIn K mainGlobals "arcs_two_by_two" = some (some (.ref f29))) (l29 : K.lookup f29 = some ⟨oc29, od29, .func (PySem.W.fnOf "arcs_two_by_two" "arcs_two_by_two" (defArgs s_arcs_two_by_two) (defBody s_arcs_two_by_two) (defScope s_arcs_two_by_two) .none kV29 dc29 pm29 an29 cd29 ct29), sl29⟩) (c29 : PySem.W.codeIn K cd29 "arcs_two_by_two" = true) (k29 : PySem.W.keepIn K (.ref f29) = true)
    {f30 : Addr} {od30 an30 : Option Addr} {sl30 : Array (Option Value)} {oc30 kV30 dc30 pm30 cd30 ct30 : Value}
    (a30 : PySem.W.nsIn K mainGlobals "judge_lot" = some (some (.ref f30))) (l30 : K.lookup f30 = some ⟨oc30, od30, .func (PySem.W.fnOf "judge_lot" "judge_lot" (defArgs s_judge_lot) (defBody s_judge_lot) (defScope s_judge_lot) .none kV30 dc30 pm30 an30 cd30 ct30), sl30⟩) (c30 : PySem.W.codeIn K cd30 "judge_lot" = true) (k30 : PySem.W.keepIn K (.ref f30) = true)
    {f31 : Addr} {od31 an31 : Option Addr} {sl31 : Array (Option Value)} {oc31 kV31 dc31 pm31 cd31 ct31 : Value}
    (a31 : PySem.W.nsIn K mainGlobals "all_lots" = some (some (.ref f31))) (l31 : K.lookup f31 = some ⟨oc31, od31, .func (PySem.W.fnOf "all_lots" "all_lots" (defArgs s_all_lots) (defBody s_all_lots) (defScope s_all_lots) .none kV31 dc31 pm31 an31 cd31 ct31), sl31⟩) (c31 : PySem.W.codeIn K cd31 "all_lots" = true) (k31 : PySem.W.keepIn K (.ref f31) = true)
    {f32 : Addr} {od32 an32 : Option Addr} {sl32 : Array (Option Value)} {oc32 kV32 dc32 pm32 cd32 ct32 : Value}
    (a32 : PySem.W.nsIn K mainGlobals "lot_of_falls" = some (some (.ref f32))) (l32 : K.lookup f32 = some ⟨oc32, od32, .func (PySem.W.fnOf "lot_of_falls" "lot_of_falls" (defArgs s_lot_of_falls) (defBody s_lot_of_falls) (defScope s_lot_of_falls) .none kV32 dc32 pm32 an32 cd32 ct32), sl32⟩) (c32 : PySem.W.codeIn K cd32 "lot_of_falls" = true) (k32 : PySem.W.keepIn K (.ref f32) = true)
    {f33 : Addr} {od33 an33 : Option Addr} {sl33 : Array (Option Value)} {oc33 kV33 dc33 pm33 cd33 ct33 : Value}
    (a33 : PySem.W.nsIn K mainGlobals "least_above_all" = some (some (.ref f33))) (l33 : K.lookup f33 = some ⟨oc33, od33, .func (PySem.W.fnOf "least_above_all" "least_above_all" (defArgs s_least_above_all) (defBody s_least_above_all) (defScope s_least_above_all) .none kV33 dc33 pm33 an33 cd33 ct33), sl33⟩) (c33 : PySem.W.codeIn K cd33 "least_above_all" = true) (k33 : PySem.W.keepIn K (.ref f33) = true)
    {f34 : Addr} {od34 an34 : Option Addr} {sl34 : Array (Option Value)} {oc34 kV34 dc34 pm34 cd34 ct34 : Value}
    (a34 : PySem.W.nsIn K mainGlobals "row_of_falls" = some (some (.ref f34))) (l34 : K.lookup f34 = some ⟨oc34, od34, .func (PySem.W.fnOf "row_of_falls" "row_of_falls" (defArgs s_row_of_falls) (defBody s_row_of_falls) (defScope s_row_of_falls) .none kV34 dc34 pm34 an34 cd34 ct34), sl34⟩) (c34 : PySem.W.codeIn K cd34 "row_of_falls" = true) (k34 : PySem.W.keepIn K (.ref f34) = true)
    {f35 : Addr} {od35 an35 : Option Addr} {sl35 : Array (Option Value)} {oc35 kV35 dc35 pm35 cd35 ct35 : Value}
    (a35 : PySem.W.nsIn K mainGlobals "turned_over" = some (some (.ref f35))) (l35 : K.lookup f35 = some ⟨oc35, od35, .func (PySem.W.fnOf "turned_over" "turned_over" (defArgs s_turned_over) (defBody s_turned_over) (defScope s_turned_over) .none kV35 dc35 pm35 an35 cd35 ct35), sl35⟩) (c35 : PySem.W.codeIn K cd35 "turned_over" = true) (k35 : PySem.W.keepIn K (.ref f35) = true)
    {f36 : Addr} {od36 an36 : Option Addr} {sl36 : Array (Option Value)} {oc36 kV36 dc36 pm36 cd36 ct36 : Value}
    (a36 : PySem.W.nsIn K mainGlobals "row_of_rises" = some (some (.ref f36))) (l36 : K.lookup f36 = some ⟨oc36, od36, .func (PySem.W.fnOf "row_of_rises" "row_of_rises" (defArgs s_row_of_rises) (defBody s_row_of_rises) (defScope s_row_of_rises) .none kV36 dc36 pm36 an36 cd36 ct36), sl36⟩) (c36 : PySem.W.codeIn K cd36 "row_of_rises" = true) (k36 : PySem.W.keepIn K (.ref f36) = true)
    {f37 : Addr} {od37 an37 : Option Addr} {sl37 : Array (Option Value)} {oc37 kV37 dc37 pm37 cd37 ct37 : Value}
    (a37 : PySem.W.nsIn K mainGlobals "_law_deck" = some (some (.ref f37))) (l37 : K.lookup f37 = some ⟨oc37, od37, .func (PySem.W.fnOf "_law_deck" "_law_deck" (defArgs s__law_deck) (defBody s__law_deck) (defScope s__law_deck) .none kV37 dc37 pm37 an37 cd37 ct37), sl37⟩) (c37 : PySem.W.codeIn K cd37 "_law_deck" = true) (k37 : PySem.W.keepIn K (.ref f37) = true)
    {f38 : Addr} {od38 an38 : Option Addr} {sl38 : Array (Option Value)} {oc38 kV38 dc38 pm38 cd38 ct38 : Value}
    (a38 : PySem.W.nsIn K mainGlobals "_law_draw" = some (some (.ref f38))) (l38 : K.lookup f38 = some ⟨oc38, od38, .func (PySem.W.fnOf "_law_draw" "_law_draw" (defArgs s__law_draw) (defBody s__law_draw) (defScope s__law_draw) .none kV38 dc38 pm38 an38 cd38 ct38), sl38⟩) (c38 : PySem.W.codeIn K cd38 "_law_draw" = true) (k38 : PySem.W.keepIn K (.ref f38) = true)
    {f39 : Addr} {od39 an39 : Option Addr} {sl39 : Array (Option Value)} {oc39 kV39 dc39 pm39 cd39 ct39 : Value}
    (a39 : PySem.W.nsIn K mainGlobals "_law_pick" = some (some (.ref f39))) (l39 : K.lookup f39 = some ⟨oc39, od39, .func (PySem.W.fnOf "_law_pick" "_law_pick" (defArgs s__law_pick) (defBody s__law_pick) (defScope s__law_pick) .none kV39 dc39 pm39 an39 cd39 ct39), sl39⟩) (c39 : PySem.W.codeIn K cd39 "_law_pick" = true) (k39 : PySem.W.keepIn K (.ref f39) = true)
    {f40 : Addr} {od40 an40 : Option Addr} {sl40 : Array (Option Value)} {oc40 kV40 dc40 pm40 cd40 ct40 : Value}
    (a40 : PySem.W.nsIn K mainGlobals "_law_side" = some (some (.ref f40))) (l40 : K.lookup f40 = some ⟨oc40, od40, .func (PySem.W.fnOf "_law_side" "_law_side" (defArgs s__law_side) (defBody s__law_side) (defScope s__law_side) .none kV40 dc40 pm40 an40 cd40 ct40), sl40⟩) (c40 : PySem.W.codeIn K cd40 "_law_side" = true) (k40 : PySem.W.keepIn K (.ref f40) = true)
    {f41 : Addr} {od41 an41 : Option Addr} {sl41 : Array (Option Value)} {oc41 kV41 dc41 pm41 cd41 ct41 : Value}
    (a41 : PySem.W.nsIn K mainGlobals "_law_parts" = some (some (.ref f41))) (l41 : K.lookup f41 = some ⟨oc41, od41, .func (PySem.W.fnOf "_law_parts" "_law_parts" (defArgs s__law_parts) (defBody s__law_parts) (defScope s__law_parts) .none kV41 dc41 pm41 an41 cd41 ct41), sl41⟩) (c41 : PySem.W.codeIn K cd41 "_law_parts" = true) (k41 : PySem.W.keepIn K (.ref f41) = true)
    {f42 : Addr} {od42 an42 : Option Addr} {sl42 : Array (Option Value)} {oc42 kV42 dc42 pm42 cd42 ct42 : Value}
    (a42 : PySem.W.nsIn K mainGlobals "_law_do_agree" = some (some (.ref f42))) (l42 : K.lookup f42 = some ⟨oc42, od42, .func (PySem.W.fnOf "_law_do_agree" "_law_do_agree" (defArgs s__law_do_agree) (defBody s__law_do_agree) (defScope s__law_do_agree) .none kV42 dc42 pm42 an42 cd42 ct42), sl42⟩) (c42 : PySem.W.codeIn K cd42 "_law_do_agree" = true) (k42 : PySem.W.keepIn K (.ref f42) = true)
    {f43 : Addr} {od43 an43 : Option Addr} {sl43 : Array (Option Value)} {oc43 kV43 dc43 pm43 cd43 ct43 : Value}
    (a43 : PySem.W.nsIn K mainGlobals "_law_lots" = some (some (.ref f43))) (l43 : K.lookup f43 = some ⟨oc43, od43, .func (PySem.W.fnOf "_law_lots" "_law_lots" (defArgs s__law_lots) (defBody s__law_lots) (defScope s__law_lots) .none kV43 dc43 pm43 an43 cd43 ct43), sl43⟩) (c43 : PySem.W.codeIn K cd43 "_law_lots" = true) (k43 : PySem.W.keepIn K (.ref f43) = true)
    {f44 : Addr} {od44 an44 : Option Addr} {sl44 : Array (Option Value)} {oc44 kV44 dc44 pm44 cd44 ct44 : Value}
    (a44 : PySem.W.nsIn K mainGlobals "_law_arcs_of" = some (some (.ref f44))) (l44 : K.lookup f44 = some ⟨oc44, od44, .func (PySem.W.fnOf "_law_arcs_of" "_law_arcs_of" (defArgs s__law_arcs_of) (defBody s__law_arcs_of) (defScope s__law_arcs_of) .none kV44 dc44 pm44 an44 cd44 ct44), sl44⟩) (c44 : PySem.W.codeIn K cd44 "_law_arcs_of" = true) (k44 : PySem.W.keepIn K (.ref f44) = true)
    {f45 : Addr} {od45 an45 : Option Addr} {sl45 : Array (Option Value)} {oc45 kV45 dc45 pm45 cd45 ct45 : Value}
    (a45 : PySem.W.nsIn K mainGlobals "law" = some (some (.ref f45))) (l45 : K.lookup f45 = some ⟨oc45, od45, .func (PySem.W.fnOf "law" "law" (defArgs s_law) (defBody s_law) (defScope s_law) .none kV45 dc45 pm45 an45 cd45 ct45), sl45⟩) (c45 : PySem.W.codeIn K cd45 "law" = true) (k45 : PySem.W.keepIn K (.ref f45) = true)
    (z0 : PySem.W.nsIn K mainGlobals "all" = some none)
    (z1 : PySem.W.nsIn K mainGlobals "bool" = some none)
    (z2 : PySem.W.nsIn K mainGlobals "enumerate" = some none)
    (z3 : PySem.W.nsIn K mainGlobals "int" = some none)
    (z4 : PySem.W.nsIn K mainGlobals "isinstance" = some none)
    (z5 : PySem.W.nsIn K mainGlobals "len" = some none)
    (z6 : PySem.W.nsIn K mainGlobals "list" = some none)
    (z7 : PySem.W.nsIn K mainGlobals "max" = some none)
    (z8 : PySem.W.nsIn K mainGlobals "min" = some none)
    (z9 : PySem.W.nsIn K mainGlobals "range" = some none)
    (z10 : PySem.W.nsIn K mainGlobals "repr" = some none)
    (z11 : PySem.W.nsIn K mainGlobals "set" = some none)
    (z12 : PySem.W.nsIn K mainGlobals "sorted" = some none)
    (z13 : PySem.W.nsIn K mainGlobals "tuple" = some none)
    (z14 : PySem.W.nsIn K mainGlobals "zip" = some none)
    (y : PySem.W.nsIn K mainGlobals "permutations" = some (some (.type "itertools.permutations")))
    : ∃ fd : FuncData, (∀ (s : Shared) (v : Value), BindsTo s fd ⟨[v], []⟩ [("script", v)]) ∧ ∀ base : Heap, K.In base → base.Ns mainGlobals mg → GOk l.prog w K mg base 13 fa fd ["script"] (SpC K (C_law K)) := by
  have e := hfa.symm.trans (PySem.W.mg_of X G a45)
  cases e
  have F0 := fun_mk (st := s_is_number) l0 c0 k0
  have F1 := fun_mk (st := s_is_number_from) l1 c1 k1
  have F2 := fun_mk (st := s_are_numbers) l2 c2 k2
  have F3 := fun_mk (st := s_are_ascending_numbers) l3 c3 k3
  have F4 := fun_mk (st := s_is_row) l4 c4 k4
  have F5 := fun_mk (st := s_check_row) l5 c5 k5
  have F6 := fun_mk (st := s_check_place) l6 c6 k6
  have F7 := fun_mk (st := s_turned_pairs) l7 c7 k7
  have F8 := fun_mk (st := s_mirror) l8 c8 k8
  have F9 := fun_mk (st := s_row_turning) l9 c9 k9
  have F10 := fun_mk (st := s_chained) l10 c10 k10
  have F11 := fun_mk (st := s_least_above) l11 c11 k11
  have F12 := fun_mk (st := s_all_rows) l12 c12 k12
  have F13 := fun_mk (st := s_is_arc) l13 c13 k13
  have F14 := fun_mk (st := s_check_arc) l14 c14 k14
  have F15 := fun_mk (st := s_choices) l15 c15 k15
  have F16 := fun_mk (st := s_all_arcs) l16 c16 k16
  have F17 := fun_mk (st := s_arc_at) l17 c17 k17
  have F18 := fun_mk (st := s_arcs_of_falls) l18 c18 k18
  have F19 := fun_mk (st := s_numbers_behind) l19 c19 k19
  have F20 := fun_mk (st := s_single_row) l20 c20 k20
  have F21 := fun_mk (st := s_side) l21 c21 k21
  have F22 := fun_mk (st := s_parting_numbers) l22 c22 k22
  have F23 := fun_mk (st := s_judge_crossing) l23 c23 k23
  have F24 := fun_mk (st := s_are_arcs) l24 c24 k24
  have F25 := fun_mk (st := s_check_arcs) l25 c25 k25
  have F26 := fun_mk (st := s_is_lot) l26 c26 k26
  have F27 := fun_mk (st := s_check_lot) l27 c27 k27
  have F28 := fun_mk (st := s_share_an_end) l28 c28 k28
  have F29 := fun_mk (st := s_arcs_two_by_two) l29 c29 k29
  have F30 := fun_mk (st := s_judge_lot) l30 c30 k30
  have F31 := fun_mk (st := s_all_lots) l31 c31 k31
  have F32 := fun_mk (st := s_lot_of_falls) l32 c32 k32
  have F33 := fun_mk (st := s_least_above_all) l33 c33 k33
  have F34 := fun_mk (st := s_row_of_falls) l34 c34 k34
  have F35 := fun_mk (st := s_turned_over) l35 c35 k35
  have F36 := fun_mk (st := s_row_of_rises) l36 c36 k36
  have F37 := fun_mk (st := s__law_deck) l37 c37 k37
  have F38 := fun_mk (st := s__law_draw) l38 c38 k38
  have F39 := fun_mk (st := s__law_pick) l39 c39 k39
  have F40 := fun_mk (st := s__law_side) l40 c40 k40
  have F41 := fun_mk (st := s__law_parts) l41 c41 k41
  have F42 := fun_mk (st := s__law_do_agree) l42 c42 k42
  have F43 := fun_mk (st := s__law_lots) l43 c43 k43
  have F44 := fun_mk (st := s__law_arcs_of) l44 c44 k44
  have F45 := fun_mk (st := s_law) l45 c45 k45
  have kb_all_lots__n : ∀ (kV doc pm : Value) (an : Option Addr) (cdv ct : Value) (us ws : List Value), (perm 1 [0] us ws).length = (["n"] : List Str).length → bindArgs (PySem.W.fnOf "all_lots" "all_lots" (defArgs s_all_lots) (defBody s_all_lots) (defScope s_all_lots) .none kV doc pm an cdv ct) ⟨us, (["n"] : List Str).zip ws⟩ = pure ((["n"] : List Str).zip (perm 1 [0] us ws)) := by
    intro kV doc pm an cdv ct us ws hl
    obtain ⟨rfl, hw⟩ := perm_len (by decide) hl
    match ws, hw with
    | [_], _ => rfl
  let T : Tx K mg := {
    f_is_number := f0, d_is_number := _, F_is_number := F0, b_is_number := F0.binds (fun _ _ _ _ _ _ us hl => match us, hl with | [_], _ => rfl), g_is_number := PySem.W.mg_of X G a0,
    f_is_number_from := f1, d_is_number_from := _, F_is_number_from := F1, b_is_number_from := F1.binds (fun _ _ _ _ _ _ us hl => match us, hl with | [_, _, _], _ => rfl), g_is_number_from := PySem.W.mg_of X G a1,
    f_are_numbers := f2, d_are_numbers := _, F_are_numbers := F2, b_are_numbers := F2.binds (fun _ _ _ _ _ _ us hl => match us, hl with | [_], _ => rfl), g_are_numbers := PySem.W.mg_of X G a2,
    f_are_ascending_numbers := f3, d_are_ascending_numbers := _, F_are_ascending_numbers := F3, b_are_ascending_numbers := F3.binds (fun _ _ _ _ _ _ us hl => match us, hl with | [_], _ => rfl), g_are_ascending_numbers := PySem.W.mg_of X G a3,
    f_is_row := f4, d_is_row := _, F_is_row := F4, b_is_row := F4.binds (fun _ _ _ _ _ _ us hl => match us, hl with | [_, _], _ => rfl), g_is_row := PySem.W.mg_of X G a4,
    f_check_row := f5, d_check_row := _, F_check_row := F5, b_check_row := F5.binds (fun _ _ _ _ _ _ us hl => match us, hl with | [_, _], _ => rfl), g_check_row := PySem.W.mg_of X G a5,
    f_check_place := f6, d_check_place := _, F_check_place := F6, b_check_place := F6.binds (fun _ _ _ _ _ _ us hl => match us, hl with | [_, _], _ => rfl), g_check_place := PySem.W.mg_of X G a6,
    f_turned_pairs := f7, d_turned_pairs := _, F_turned_pairs := F7, b_turned_pairs := F7.binds (fun _ _ _ _ _ _ us hl => match us, hl with | [_, _], _ => rfl), g_turned_pairs := PySem.W.mg_of X G a7,
    f_mirror := f8, d_mirror := _, F_mirror := F8, b_mirror := F8.binds (fun _ _ _ _ _ _ us hl => match us, hl with | [_, _], _ => rfl), g_mirror := PySem.W.mg_of X G a8,
    f_row_turning := f9, d_row_turning := _, F_row_turning := F9, b_row_turning := F9.binds (fun _ _ _ _ _ _ us hl => match us, hl with | [_, _], _ => rfl), g_row_turning := PySem.W.mg_of X G a9,
    f_chained := f10, d_chained := _, F_chained := F10, b_chained := F10.binds (fun _ _ _ _ _ _ us hl => match us, hl with | [_, _], _ => rfl), g_chained := PySem.W.mg_of X G a10,
    f_least_above := f11, d_least_above := _, F_least_above := F11, b_least_above := F11.binds (fun _ _ _ _ _ _ us hl => match us, hl with | [_, _, _], _ => rfl), g_least_above := PySem.W.mg_of X G a11,
    f_all_rows := f12, d_all_rows := _, F_all_rows := F12, b_all_rows := F12.binds (fun _ _ _ _ _ _ us hl => match us, hl with | [_], _ => rfl), g_all_rows := PySem.W.mg_of X G a12,
    f_is_arc := f13, d_is_arc := _, F_is_arc := F13, b_is_arc := F13.binds (fun _ _ _ _ _ _ us hl => match us, hl with | [_, _], _ => rfl), g_is_arc := PySem.W.mg_of X G a13,
    f_check_arc := f14, d_check_arc := _, F_check_arc := F14, b_check_arc := F14.binds (fun _ _ _ _ _ _ us hl => match us, hl with | [_, _], _ => rfl), g_check_arc := PySem.W.mg_of X G a14,
    f_choices := f15, d_choices := _, F_choices := F15, b_choices := F15.binds (fun _ _ _ _ _ _ us hl => match us, hl with | [_], _ => rfl), g_choices := PySem.W.mg_of X G a15,
    f_all_arcs := f16, d_all_arcs := _, F_all_arcs := F16, b_all_arcs := F16.binds (fun _ _ _ _ _ _ us hl => match us, hl with | [_], _ => rfl), g_all_arcs := PySem.W.mg_of X G a16,
    f_arc_at := f17, d_arc_at := _, F_arc_at := F17, b_arc_at := F17.binds (fun _ _ _ _ _ _ us hl => match us, hl with | [_, _, _], _ => rfl), g_arc_at := PySem.W.mg_of X G a17,
    f_arcs_of_falls := f18, d_arcs_of_falls := _, F_arcs_of_falls := F18, b_arcs_of_falls := F18.binds (fun _ _ _ _ _ _ us hl => match us, hl with | [_, _], _ => rfl), g_arcs_of_falls := PySem.W.mg_of X G a18,
    f_numbers_behind := f19, d_numbers_behind := _, F_numbers_behind := F19, b_numbers_behind := F19.binds (fun _ _ _ _ _ _ us hl => match us, hl with | [_], _ => rfl), g_numbers_behind := PySem.W.mg_of X G a19,
    f_single_row := f20, d_single_row := _, F_single_row := F20, b_single_row := F20.binds (fun _ _ _ _ _ _ us hl => match us, hl with | [_, _], _ => rfl), g_single_row := PySem.W.mg_of X G a20,
    f_side := f21, d_side := _, F_side := F21, b_side := F21.binds (fun _ _ _ _ _ _ us hl => match us, hl with | [_, _], _ => rfl), g_side := PySem.W.mg_of X G a21,
    f_parting_numbers := f22, d_parting_numbers := _, F_parting_numbers := F22, b_parting_numbers := F22.binds (fun _ _ _ _ _ _ us hl => match us, hl with | [_, _, _], _ => rfl), g_parting_numbers := PySem.W.mg_of X G a22,
    f_judge_crossing := f23, d_judge_crossing := _, F_judge_crossing := F23, b_judge_crossing := F23.binds (fun _ _ _ _ _ _ us hl => match us, hl with | [_, _, _], _ => rfl), g_judge_crossing := PySem.W.mg_of X G a23,
    f_are_arcs := f24, d_are_arcs := _, F_are_arcs := F24, b_are_arcs := F24.binds (fun _ _ _ _ _ _ us hl => match us, hl with | [_, _], _ => rfl), g_are_arcs := PySem.W.mg_of X G a24,
    f_check_arcs := f25, d_check_arcs := _, F_check_arcs := F25, b_check_arcs := F25.binds (fun _ _ _ _ _ _ us hl => match us, hl with | [_, _], _ => rfl), g_check_arcs := PySem.W.mg_of X G a25,
    f_is_lot := f26, d_is_lot := _, F_is_lot := F26, b_is_lot := F26.binds (fun _ _ _ _ _ _ us hl => match us, hl with | [_, _], _ => rfl), g_is_lot := PySem.W.mg_of X G a26,
    f_check_lot := f27, d_check_lot := _, F_check_lot := F27, b_check_lot := F27.binds (fun _ _ _ _ _ _ us hl => match us, hl with | [_, _], _ => rfl), g_check_lot := PySem.W.mg_of X G a27,
    f_share_an_end := f28, d_share_an_end := _, F_share_an_end := F28, b_share_an_end := F28.binds (fun _ _ _ _ _ _ us hl => match us, hl with | [_, _], _ => rfl), g_share_an_end := PySem.W.mg_of X G a28,
    f_arcs_two_by_two := f29, d_arcs_two_by_two := _, F_arcs_two_by_two := F29, b_arcs_two_by_two := F29.binds (fun _ _ _ _ _ _ us hl => match us, hl with | [_], _ => rfl), g_arcs_two_by_two := PySem.W.mg_of X G a29,
    f_judge_lot := f30, d_judge_lot := _, F_judge_lot := F30, b_judge_lot := F30.binds (fun _ _ _ _ _ _ us hl => match us, hl with | [_, _], _ => rfl), g_judge_lot := PySem.W.mg_of X G a30,
    f_all_lots := f31, d_all_lots := _, F_all_lots := F31, b_all_lots := F31.binds (fun _ _ _ _ _ _ us hl => match us, hl with | [_], _ => rfl), g_all_lots := PySem.W.mg_of X G a31,
    f_lot_of_falls := f32, d_lot_of_falls := _, F_lot_of_falls := F32, b_lot_of_falls := F32.binds (fun _ _ _ _ _ _ us hl => match us, hl with | [_, _], _ => rfl), g_lot_of_falls := PySem.W.mg_of X G a32,
    f_least_above_all := f33, d_least_above_all := _, F_least_above_all := F33, b_least_above_all := F33.binds (fun _ _ _ _ _ _ us hl => match us, hl with | [_, _], _ => rfl), g_least_above_all := PySem.W.mg_of X G a33,
    f_row_of_falls := f34, d_row_of_falls := _, F_row_of_falls := F34, b_row_of_falls := F34.binds (fun _ _ _ _ _ _ us hl => match us, hl with | [_, _], _ => rfl), g_row_of_falls := PySem.W.mg_of X G a34,
    f_turned_over := f35, d_turned_over := _, F_turned_over := F35, b_turned_over := F35.binds (fun _ _ _ _ _ _ us hl => match us, hl with | [_], _ => rfl), g_turned_over := PySem.W.mg_of X G a35,
    f_row_of_rises := f36, d_row_of_rises := _, F_row_of_rises := F36, b_row_of_rises := F36.binds (fun _ _ _ _ _ _ us hl => match us, hl with | [_, _], _ => rfl), g_row_of_rises := PySem.W.mg_of X G a36,
    f__law_deck := f37, d__law_deck := _, F__law_deck := F37, b__law_deck := F37.binds (fun _ _ _ _ _ _ us hl => match us, hl with | [_], _ => rfl), g__law_deck := PySem.W.mg_of X G a37,
    f__law_draw := f38, d__law_draw := _, F__law_draw := F38, b__law_draw := F38.binds (fun _ _ _ _ _ _ us hl => match us, hl with | [_, _], _ => rfl), g__law_draw := PySem.W.mg_of X G a38,
    f__law_pick := f39, d__law_pick := _, F__law_pick := F39, b__law_pick := F39.binds (fun _ _ _ _ _ _ us hl => match us, hl with | [_, _], _ => rfl), g__law_pick := PySem.W.mg_of X G a39,
    f__law_side := f40, d__law_side := _, F__law_side := F40, b__law_side := F40.binds (fun _ _ _ _ _ _ us hl => match us, hl with | [_, _], _ => rfl), g__law_side := PySem.W.mg_of X G a40,
    f__law_parts := f41, d__law_parts := _, F__law_parts := F41, b__law_parts := F41.binds (fun _ _ _ _ _ _ us hl => match us, hl with | [_, _], _ => rfl), g__law_parts := PySem.W.mg_of X G a41,
    f__law_do_agree := f42, d__law_do_agree := _, F__law_do_agree := F42, b__law_do_agree := F42.binds (fun _ _ _ _ _ _ us hl => match us, hl with | [_, _], _ => rfl), g__law_do_agree := PySem.W.mg_of X G a42,
    f__law_lots := f43, d__law_lots := _, F__law_lots := F43, b__law_lots := F43.binds (fun _ _ _ _ _ _ us hl => match us, hl with | [_, _], _ => rfl), g__law_lots := PySem.W.mg_of X G a43,
    f__law_arcs_of := f44, d__law_arcs_of := _, F__law_arcs_of := F44, b__law_arcs_of := F44.binds (fun _ _ _ _ _ _ us hl => match us, hl with | [_], _ => rfl), g__law_arcs_of := PySem.W.mg_of X G a44,
    f_law := fa, d_law := _, F_law := F45, b_law := F45.binds (fun _ _ _ _ _ _ us hl => match us, hl with | [_], _ => rfl), g_law := PySem.W.mg_of X G a45,
    k_all_lots__n := Fun_kbinds F31 (kb_all_lots__n) (perm_rel _ _),
    m_all := PySem.W.mg_none_of X G z0,
    m_bool := PySem.W.mg_none_of X G z1,
    m_enumerate := PySem.W.mg_none_of X G z2,
    m_int := PySem.W.mg_none_of X G z3,
    m_isinstance := PySem.W.mg_none_of X G z4,
    m_len := PySem.W.mg_none_of X G z5,
    m_list := PySem.W.mg_none_of X G z6,
    m_max := PySem.W.mg_none_of X G z7,
    m_min := PySem.W.mg_none_of X G z8,
    m_range := PySem.W.mg_none_of X G z9,
    m_repr := PySem.W.mg_none_of X G z10,
    m_set := PySem.W.mg_none_of X G z11,
    m_sorted := PySem.W.mg_none_of X G z12,
    m_tuple := PySem.W.mg_none_of X G z13,
    m_zip := PySem.W.mg_none_of X G z14,
    p_permutations := PySem.W.mg_of X G y }
  exact ⟨_, fun s v => .of_eq rfl, fun base _ _ => ok_law T⟩
end Law
open PySem PySem.W PyProof.Rows
set_option maxHeartbeats 0 in
theorem PySem.Challenge.cw_keptarcs_k14_whole_all_lots_holds : PySem.Challenge.rw_keptarcs_k14_whole_all_lots.Holds := by
  w_on; o_law; k_head; (case hw => w_witness2)
  k_fill
  refine Ka.walkG (l := PySem.Challenge.rw_keptarcs_k14_whole_all_lots) (n := 63) (k := 13) (x := "script") (sp := fun K => Ka.SpC K (Law.C_law K)) rfl (by decide) rfl ⟨⟨rfl, by decide, by decide⟩, rfl⟩ (fun w h Y => PySem.W.kIn_of Y) ?F Law.law_starts
  case F =>
    intro w mg fa h KX G hmg
    refine' Law.all_mk KX G hmg ?a0 ?l0 ?c0 ?k0 ?a1 ?l1 ?c1 ?k1 ?a2 ?l2 ?c2 ?k2 ?a3 ?l3 ?c3 ?k3 ?a4 ?l4 ?c4 ?k4 ?a5 ?l5 ?c5 ?k5 ?a6 ?l6 ?c6 ?k6 ?a7 ?l7 ?c7 ?k7 ?a8 ?l8 ?c8 ?k8 ?a9 ?l9 ?c9 ?k9 ?a10 ?l10 ?c10 ?k10 ?a11 ?l11 ?c11 ?k11 ?a12 ?l12 ?c12 ?k12 ?a13 ?l13 ?c13 ?k13 ?a14 ?l14 ?c14 ?k14 ?a15 ?l15 ?c15 ?k15 ?a16 ?l16 ?c16 ?k16 ?a17 ?l17 ?c17 ?k17 ?a18 ?l18 ?c18 ?k18 ?a19 ?l19 ?c19 ?k19 ?a20 ?l20 ?c20 ?k20 ?a21 ?l21 ?c21 ?k21 ?a22 ?l22 ?c22 ?k22 ?a23 ?l23 ?c23 ?k23 ?a24 ?l24 ?c24 ?k24 ?a25 ?l25 ?c25 ?k25 ?a26 ?l26 ?c26 ?k26 ?a27 ?l27 ?c27 ?k27 ?a28 ?l28 ?c28 ?k28 ?a29 ?l29 ?c29 ?k29 ?a30 ?l30 ?c30 ?k30 ?a31 ?l31 ?c31 ?k31 ?a32 ?l32 ?c32 ?k32 ?a33 ?l33 ?c33 ?k33 ?a34 ?l34 ?c34 ?k34 ?a35 ?l35 ?c35 ?k35 ?a36 ?l36 ?c36 ?k36 ?a37 ?l37 ?c37 ?k37 ?a38 ?l38 ?c38 ?k38 ?a39 ?l39 ?c39 ?k39 ?a40 ?l40 ?c40 ?k40 ?a41 ?l41 ?c41 ?k41 ?a42 ?l42 ?c42 ?k42 ?a43 ?l43 ?c43 ?k43 ?a44 ?l44 ?c44 ?k44 ?a45 ?l45 ?c45 ?k45 ?z0 ?z1 ?z2 ?z3 ?z4 ?z5 ?z6 ?z7 ?z8 ?z9 ?z10 ?z11 ?z12 ?z13 ?z14 ?y
    (case a0 => k_is); (case l0 => k_is); (case c0 => k_is); (case k0 => k_is); (case a1 => k_is); (case l1 => k_is); (case c1 => k_is); (case k1 => k_is); (case a2 => k_is); (case l2 => k_is); (case c2 => k_is); (case k2 => k_is); (case a3 => k_is); (case l3 => k_is); (case c3 => k_is); (case k3 => k_is); (case a4 => k_is); (case l4 => k_is); (case c4 => k_is); (case k4 => k_is); (case a5 => k_is); (case l5 => k_is); (case c5 => k_is); (case k5 => k_is); (case a6 => k_is); (case l6 => k_is); (case c6 => k_is); (case k6 => k_is); (case a7 => k_is); (case l7 => k_is); (case c7 => k_is); (case k7 => k_is); (case a8 => k_is); (case l8 => k_is); (case c8 => k_is); (case k8 => k_is); (case a9 => k_is); (case l9 => k_is); (case c9 => k_is); (case k9 => k_is); (case a10 => k_is); (case l10 => k_is); (case c10 => k_is); (case k10 => k_is); (case a11 => k_is); (case l11 => k_is); (case c11 => k_is); (case k11 => k_is); (case a12 => k_is); (case l12 => k_is); (case c12 => k_is); (case k12 => k_is); (case a13 => k_is); (case l13 => k_is); (case c13 => k_is); (case k13 => k_is); (case a14 => k_is); (case l14 => k_is); (case c14 => k_is); (case k14 => k_is); (case a15 => k_is); (case l15 => k_is); (case c15 => k_is); (case k15 => k_is); (case a16 => k_is); (case l16 => k_is); (case c16 => k_is); (case k16 => k_is); (case a17 => k_is); (case l17 => k_is); (case c17 => k_is); (case k17 => k_is); (case a18 => k_is); (case l18 => k_is); (case c18 => k_is); (case k18 => k_is); (case a19 => k_is); (case l19 => k_is); (case c19 => k_is); (case k19 => k_is); (case a20 => k_is); (case l20 => k_is); (case c20 => k_is); (case k20 => k_is); (case a21 => k_is); (case l21 => k_is); (case c21 => k_is); (case k21 => k_is); (case a22 => k_is); (case l22 => k_is); (case c22 => k_is); (case k22 => k_is); (case a23 => k_is); (case l23 => k_is); (case c23 => k_is); (case k23 => k_is); (case a24 => k_is); (case l24 => k_is); (case c24 => k_is); (case k24 => k_is); (case a25 => k_is); (case l25 => k_is); (case c25 => k_is); (case k25 => k_is); (case a26 => k_is); (case l26 => k_is); (case c26 => k_is); (case k26 => k_is); (case a27 => k_is); (case l27 => k_is); (case c27 => k_is); (case k27 => k_is); (case a28 => k_is); (case l28 => k_is); (case c28 => k_is); (case k28 => k_is); (case a29 => k_is); (case l29 => k_is); (case c29 => k_is); (case k29 => k_is); (case a30 => k_is); (case l30 => k_is); (case c30 => k_is); (case k30 => k_is); (case a31 => k_is); (case l31 => k_is); (case c31 => k_is); (case k31 => k_is); (case a32 => k_is); (case l32 => k_is); (case c32 => k_is); (case k32 => k_is); (case a33 => k_is); (case l33 => k_is); (case c33 => k_is); (case k33 => k_is); (case a34 => k_is); (case l34 => k_is); (case c34 => k_is); (case k34 => k_is); (case a35 => k_is); (case l35 => k_is); (case c35 => k_is); (case k35 => k_is); (case a36 => k_is); (case l36 => k_is); (case c36 => k_is); (case k36 => k_is); (case a37 => k_is); (case l37 => k_is); (case c37 => k_is); (case k37 => k_is); (case a38 => k_is); (case l38 => k_is); (case c38 => k_is); (case k38 => k_is); (case a39 => k_is); (case l39 => k_is); (case c39 => k_is); (case k39 => k_is); (case a40 => k_is); (case l40 => k_is); (case c40 => k_is); (case k40 => k_is); (case a41 => k_is); (case l41 => k_is); (case c41 => k_is); (case k41 => k_is); (case a42 => k_is); (case l42 => k_is); (case c42 => k_is); (case k42 => k_is); (case a43 => k_is); (case l43 => k_is); (case c43 => k_is); (case k43 => k_is); (case a44 => k_is); (case l44 => k_is); (case c44 => k_is); (case k44 => k_is); (case a45 => k_is); (case l45 => k_is); (case c45 => k_is); (case k45 => k_is); (case z0 => k_is); (case z1 => k_is); (case z2 => k_is); (case z3 => k_is); (case z4 => k_is); (case z5 => k_is); (case z6 => k_is); (case z7 => k_is); (case z8 => k_is); (case z9 => k_is); (case z10 => k_is); (case z11 => k_is); (case z12 => k_is); (case z13 => k_is); (case z14 => k_is); (case y => k_is)
